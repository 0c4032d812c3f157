/- Parts: Of, Same, Nb1, OwnR, Nb3, Nb5, RefD1, RefD2, RefD3, RefD4, RefD5, Deg3, Ref1, From, Bitrow3. -/
import Derived.Test.YtmfhimeffmpgaaaGreatZc
import Derived.ArgAppend
import Derived.Deep.AppendLies
import Derived.Deep.RegionLaw
import Derived.Maps.AppendAt
namespace Go.Proofs.YtmfhimeffmpgaaaGreat
section
/- Contracts of bitrow.New and bitrow.Of. -/
set_option linter.unusedVariables false
set_option linter.unusedSimpArgs false
open Go.RowKit
/-- A new row of words of the call's own. -/
def NewOut (n : Int) (zs : List Nat) (w : World) (e : Ending) (w' : World) : Prop :=
  ∃ g, e = .returned (.tuple #[.agg #[.int .i64 n, .slice (some ⟨g, 0, none⟩) zs.length zs.length], .int .i64 0]) ∧ Box w' g 44 (numsA zs) ∧ w.heap.size ≤ g ∧ Below w.heap.size w w'
theorem new_no (n : Int) (h : lmb n = false) (w : World) : Calls Tryz.prog 66 #[.int .i64 n] w (RowOut 0 [] 2 w) := by
  have q := Box.new w 56 #[.int .i64 0, .slice none 0 0]
  have Q := Lib.hid q
  clear q
  go_enter Tryz.func66, Tryz.ntmps66
  go_wp2_with fail
  refine (lengthMayBe_any n _).mono ?_
  rintro e w' ⟨rfl, rfl⟩
  go_wp2
  refine close_cell Tryz.results66 rfl rfl rfl Q.out Tryz.underlying56 rfl (by kernel_rfl) ⟨_, _, _, rfl, Words.nil _ _, (Below.refl _ _).alloc (Nat.le_refl _) _⟩
theorem new_yes (n : Nat) (h : lmb n = true) (w : World) : Calls Tryz.prog 66 #[.int .i64 n] w (NewOut n (List.replicate (nw n) 0) w) := by
  have hn := (lmb_iff n).1 h
  have hnw : nw n ≤ 8 := by unfold nw; omega
  have q := Box.new w 56 #[.int .i64 0, .slice none 0 0]
  have Q := Lib.hid q
  clear q
  have hmk := make_any (nw n) (by omega)
  go_enter Tryz.func66, Tryz.ntmps66
  go_wp2_with fail
  refine (lengthMayBe_any n _).mono ?_
  rintro e w' ⟨rfl, rfl⟩
  go_wp2_with fail
  refine (wordsFor_any n (by omega) _).mono ?_
  rintro e w' ⟨rfl, rfl⟩
  go_wp2
  have q := (Box.new w 56 #[.int .i64 n, .slice (some ⟨w.heap.size + 1, 0, none⟩) (nw n) (nw n)]).alloc (.cells (numsA (List.replicate (nw n) 0)) 44)
  have q2 := Box.new (w.alloc (.cells #[.int .i64 n, .slice (some ⟨w.heap.size + 1, 0, none⟩) (nw n) (nw n)] 56)) 44 (numsA (List.replicate (nw n) 0))
  simp only [World.size_alloc] at q2
  refine close_cell Tryz.results66 rfl rfl rfl q Tryz.underlying56 rfl (by kernel_rfl) ⟨w.heap.size + 1, by rw [List.length_replicate]; rfl, q2, by omega, ((Below.refl _ _).alloc (Nat.le_refl _) _).alloc (by simp) _⟩
def orBit (ws : List Nat) (p : Nat) : List Nat := ws.set (p / 64) (ws.getD (p / 64) 0 ||| 2 ^ (p % 64))
def ofBits (n : Nat) (ps : List Int) : List Nat := ps.foldl (fun ws p => orBit ws p.toNat) (List.replicate (nw n) 0)
def there (n : Int) (ps : List Int) : Bool := ps.all fun p => decide (0 ≤ p) && decide (p < n)
theorem orBit_length (ws : List Nat) (p : Nat) : (orBit ws p).length = ws.length := by simp [orBit]
theorem orBit_lt (ws : List Nat) (p : Nat) (h : ∀ j, ws.getD j 0 < 18446744073709551616) (j : Nat) : (orBit ws p).getD j 0 < 18446744073709551616 := by
  unfold orBit
  simp only [List.getD, List.getElem?_set]
  split
  · split
    · simp only [Option.getD_some]
      have := h (p / 64)
      exact Nat.or_lt_two_pow (n := 64) this (Nat.pow_lt_pow_right (by omega) (by omega))
    · simp
  · exact h j
theorem foldl_bits (ps : List Int) (ws : List Nat) (h : ∀ j, ws.getD j 0 < 18446744073709551616) : (ps.foldl (fun ws p => orBit ws p.toNat) ws).length = ws.length ∧ ∀ j, (ps.foldl (fun ws p => orBit ws p.toNat) ws).getD j 0 < 18446744073709551616 := by
  induction ps generalizing ws with
  | nil => exact ⟨rfl, h⟩
  | cons p ps ih =>
    have := ih (orBit ws p.toNat) (orBit_lt ws _ h)
    rw [orBit_length] at this
    exact this
theorem zeros_lt (n j : Nat) : (List.replicate n 0).getD j 0 < 18446744073709551616 := by
  simp [List.getD, List.getElem?_replicate]
  split <;> simp
theorem ofBits_len (n : Nat) (ps : List Int) : (ofBits n ps).length = nw n := by
  have := (foldl_bits ps (List.replicate (nw n) 0) (zeros_lt _)).1
  rw [List.length_replicate] at this
  exact this
theorem ofBits_lt (n : Nat) (ps : List Int) (j : Nat) : (ofBits n ps).getD j 0 < 18446744073709551616 := (foldl_bits ps _ (zeros_lt _)).2 j
theorem ofBits_snoc (n : Nat) (ps : List Int) (p : Int) : ofBits n (ps ++ [p]) = orBit (ofBits n ps) p.toNat := by simp [ofBits]
theorem take_one {α : Type} (l : List α) (k : Nat) (d : α) (h : k < l.length) : l.take (k + 1) = l.take k ++ [l.getD k d] := by
  rw [List.take_succ_eq_append_getElem h]; simp [List.getD, h]
set_option maxHeartbeats 400000 in
theorem of_no (n : Int) (A : Option Addr) (l c : Nat) (h : lmb n = false) (w : World) : Calls Tryz.prog 50 #[.int .i64 n, .slice A l c] w (RowOut 0 [] 2 w) := by
  have Q := Lib.hid (Box.new w 56 #[.int .i64 0, .slice none 0 0])
  go_enter Tryz.func50, Tryz.ntmps50
  go_wp2_with fail
  refine (new_no n h _).mono ?_
  rintro e x1 ⟨A1, l1, c1, rfl, hw, hb⟩
  have Q := Lib.hid (Q.out.keep hb)
  have HB := Lib.hid (chain ((Below.refl _ _).alloc (Nat.le_refl _) _) hb)
  have hz := Q.out.lt
  clear hb hw
  obtain ⟨r0, r1, r2, r3⟩ := Q.out.two
  go_wp2
  refine close_cell Tryz.results50 rfl rfl rfl (Q.out.put2.alloc _) Tryz.underlying56 rfl (by kernel_rfl) ⟨_, _, _, rfl, Words.nil _ _, ?_⟩
  exact (((HB.out.setCell (p := ⟨w.heap.size, 0, none⟩) (Nat.le_refl _) _).setCell (p := ⟨w.heap.size, 1, none⟩) (Nat.le_refl _) _)).alloc (by simp; omega) _
def ofN (n : Int) (ps : List Int) : Int := if lmb n && there n ps then n else 0
def ofW (n : Int) (ps : List Int) : List Nat := if lmb n && there n ps then ofBits n.toNat ps else []
def ofE (n : Int) (ps : List Int) : Int := if lmb n then if there n ps then 0 else 3 else 2
theorem or_val (x r : Nat) (hx : x < 18446744073709551616) (hr : r < 64) : bits BinOp.or IntKind.u64 (x : Int) (IntKind.u64.wrap (2 ^ r)) = ((x ||| 2 ^ r : Nat) : Int) := by
  have hp : 2 ^ r < 2 ^ 64 := Nat.pow_lt_pow_right (by omega) hr
  have e : (2 : Int) ^ r % 18446744073709551616 = ((2 ^ r : Nat) : Int) := by
    have : (2 : Int) ^ r = ((2 ^ r : Nat) : Int) := by simp
    rw [this]
    generalize 2 ^ r = p at *
    omega
  rw [IntKind.wrap_u64, e, u64_or_nat _ _ hx hp]
set_option maxHeartbeats 1000000 in
theorem of_yes (n : Nat) (A : Option Addr) (l c : Nat) (ps : List Int) (h : lmb n = true) (w : World) (hp : Ints w A l ps) (hl : l ≤ 9223372036854775807) : Calls Tryz.prog 50 #[.int .i64 n, .slice A l c] w (RowOut (ofN n ps) (ofW n ps) (ofE n ps) w) := by
  have Q := Lib.hid (Box.new w 56 #[.int .i64 0, .slice none 0 0])
  have HP := Lib.hid hp
  have HL := Lib.hid h
  have hn := (lmb_iff n).1 h
  have hnw : nw n ≤ 8 := by unfold nw; omega
  clear hp
  go_enter Tryz.func50, Tryz.ntmps50
  go_wp2_with fail
  refine (new_yes n h _).mono ?_
  clear h
  rintro e x1 ⟨g, rfl, hg, hgs, hb⟩
  have Q := Lib.hid (Q.out.keep hb)
  have HB := Lib.hid (chain ((Below.refl _ _).alloc (Nat.le_refl _) _) hb)
  have hz := Q.out.lt
  have hg1 := hg.lt
  have HG := Lib.hid hg
  rw [List.length_replicate]
  simp at hgs
  clear hb hg
  go_wp2
  have P0 := Lib.hid (Q.out.alloc (.cells #[.int .i64 n, .slice (some ⟨g, 0, none⟩) (nw n) (nw n)] 56))
  have P1 := Lib.hid (Box.new x1 56 #[.int .i64 n, .slice (some ⟨g, 0, none⟩) (nw n) (nw n)])
  have P2 := Lib.hid (HG.out.alloc (.cells #[.int .i64 n, .slice (some ⟨g, 0, none⟩) (nw n) (nw n)] 56))
  have P3 := Lib.hid (HB.out.alloc HB.out.size (.cells #[.int .i64 n, .slice (some ⟨g, 0, none⟩) (nw n) (nw n)] 56))
  clear Q HB HG
  go_loopw [21] (fun i wr => ∃ j : Nat, j ≤ l ∧ i = .int .i64 j ∧ there n (ps.take j) = true ∧ Box wr g 44 (numsA (ofBits n (ps.take j))) ∧ Box wr w.heap.size 56 #[.int .i64 0, .slice none 0 0] ∧ Box wr x1.heap.size 56 #[.int .i64 n, .slice (some ⟨g, 0, none⟩) (nw n) (nw n)] ∧ Below w.heap.size w wr)
    (fun i _ => l - (intOf i).toNat)
  case atStart => exact ⟨0, by omega, rfl, rfl, P2.out, P0.out, P1.out, P3.out⟩
  case round =>
    obtain ⟨j, hj, rfl, hth, B2, B0, B1, hbel⟩ := hrel
    have R0 := Lib.hid B0
    have R1 := Lib.hid B1
    have R2 := Lib.hid B2
    have HB := Lib.hid hbel
    have HT := Lib.hid hth
    clear B0 B1 B2 hbel hth P0 P1 P2 P3
    obtain ⟨a0, a1, f0, f1⟩ := R0.out.two
    obtain ⟨b0, b1, -, -⟩ := R1.out.two
    by_cases hlt : j < l
    · obtain ⟨q, o, rfl, lt1, hc1⟩ := HP.out.2.2 (by omega)
      have cu := (HB.out.cell (p := ⟨q, o + j, none⟩) lt1).trans (hc1 j hlt)
      obtain ⟨x, ex⟩ : ∃ x, x = ps.getD j 0 := ⟨_, rfl⟩
      rw [← ex] at cu
      have EX := Lib.hid ex
      clear ex hc1
      go_wp2_with fail
      refine (isPlace_any _ _ _ _ x _).mono ?_
      rintro e w2 ⟨rfl, hb⟩
      have S0 := Lib.hid (R0.out.keep hb)
      have S1 := Lib.hid (R1.out.keep hb)
      have S2 := Lib.hid (R2.out.keep hb)
      have HC := Lib.hid (chain HB.out hb)
      clear hb a0 a1 f0 f1 b0 b1 cu
      obtain ⟨a0, a1, f0, f1⟩ := S0.out.two
      obtain ⟨b0, b1, -, -⟩ := S1.out.two
      have htk : ps.take (j + 1) = ps.take j ++ [x] := by rw [EX.out]; exact take_one ps j 0 (by rw [HP.out.1]; exact hlt)
      have HTk := Lib.hid htk
      clear htk
      by_cases hx : 0 ≤ x ∧ x < n
      · obtain ⟨y, rfl⟩ := Int.eq_ofNat_of_zero_le hx.1
        have t0 : (decide (0 ≤ (y : Int)) && decide ((y : Int) < n)) = true := by simp; omega
        rw [t0]
        clear t0
        have hlen : (ofBits n (ps.take j)).length = nw n := ofBits_len n _
        have hy8 : y / 64 < nw n := by unfold nw; omega
        have hv := ofBits_lt n (ps.take j) (y / 64)
        have cg : w2.cell? ⟨g, y / 64, none⟩ = some (.int .u64 ((ofBits n (ps.take j)).getD (y / 64) 0 : Nat)) := by rw [S2.out.cell, numsA_get _ _ (by omega)]
        have fg := S2.out.free (y / 64)
        have P2 := Lib.hid ((S2.out.put (y / 64) (.int .u64 (((ofBits n (ps.take j)).getD (y / 64) 0 ||| 2 ^ (y % 64) : Nat) : Int))).drew)
        have HV := Lib.hid (or_val ((ofBits n (ps.take j)).getD (y / 64) 0) (y % 64) hv (by omega))
        have n1 : w.heap.size ≠ g := by omega
        have n2 : x1.heap.size ≠ g := by omega
        have P0 := Lib.hid ((S0.out.far (p := ⟨g, y / 64, none⟩) n1 (.int .u64 (((ofBits n (ps.take j)).getD (y / 64) 0 ||| 2 ^ (y % 64) : Nat) : Int))).drew)
        have P1 := Lib.hid ((S1.out.far (p := ⟨g, y / 64, none⟩) n2 (.int .u64 (((ofBits n (ps.take j)).getD (y / 64) 0 ||| 2 ^ (y % 64) : Nat) : Int))).drew)
        have P3 := Lib.hid ((HC.out.setCell (p := ⟨g, y / 64, none⟩) (by simp; omega) (.int .u64 (((ofBits n (ps.take j)).getD (y / 64) 0 ||| 2 ^ (y % 64) : Nat) : Int))).drew)
        have H4 : Hid (there n (ps.take (j + 1)) = true) := by
          show there n (ps.take (j + 1)) = true
          rw [HTk.out]
          have := HT.out
          simp only [there, List.all_append, Bool.and_eq_true] at this ⊢
          exact ⟨this, by simp; omega⟩
        have H5 : Hid ((numsA (ofBits n (ps.take j))).setIfInBounds (y / 64) (.int .u64 (((ofBits n (ps.take j)).getD (y / 64) 0 ||| 2 ^ (y % 64) : Nat) : Int)) = numsA (ofBits n (ps.take (j + 1)))) := by
          show _ = _
          rw [numsA_set, HTk.out, ofBits_snoc]; rfl
        generalize (ofBits n (ps.take j)).getD (y / 64) 0 = v at *
        go_wp2
        have g1 : (y : Int).tdiv 64 = ((y / 64 : Nat) : Int) := by rw [Int.tdiv_eq_ediv_of_nonneg (by omega)]; omega
        have g2 : (y : Int).tmod 64 = ((y % 64 : Nat) : Int) := by rw [Int.tmod_eq_emod_of_nonneg (by omega)]; omega
        have g3 : IntKind.i64.wrap ((y / 64 : Nat) : Int) = ((y / 64 : Nat) : Int) := IntWalk.i64_in _ (by omega)
        have g4 : (0 : Int) ≤ ((y / 64 : Nat) : Int) := by omega
        have g5 : ((y / 64 : Nat) : Int) < (nw n : Int) := by omega
        go_region
        rw [HV.out]
        clear g1 g2 g3 g4 g5 a0 a1 f0 f1 b0 b1 cg fg
        generalize (w2.setCell ⟨g, y / 64, none⟩ (.int .u64 ((v ||| 2 ^ (y % 64) : Nat) : Int))).drew = wn at *
        go_wp2
        go_roundw
        case rel => exact ⟨j + 1, by omega, by go_num, H4.out, by have := P2.out; rw [H5.out] at this; exact this, P0.out, P1.out, P3.out⟩
        case measure => simp [intOf]; omega
      · have t0 : (decide (0 ≤ x) && decide (x < n)) = false := by simp; omega
        rw [t0]
        clear t0
        have H4 : Hid (there n ps = false) := by
          show there n ps = false
          rw [← List.take_append_drop (j + 1) ps, HTk.out]
          have : (decide (0 ≤ x) && decide (x < n)) = false := by simp; omega
          simp [there, List.all_append, this]
        go_wp2
        refine close_cell Tryz.results50 rfl rfl rfl S0.out.put2 Tryz.underlying56 rfl (by kernel_rfl) ?_
        unfold ofN ofW ofE
        rw [HL.out, H4.out]
        exact ⟨_, _, _, rfl, Words.nil _ _, (HC.out.setCell (p := ⟨w.heap.size, 0, none⟩) (Nat.le_refl _) _).setCell (p := ⟨w.heap.size, 1, none⟩) (Nat.le_refl _) _⟩
    · obtain rfl : j = l := by omega
      have H4 : Hid (ps.take j = ps) := by
        show ps.take j = ps
        exact List.take_of_length_le (by rw [HP.out.1]; omega)
      go_wp2
      refine close_cell Tryz.results50 rfl rfl rfl R0.out.put2 Tryz.underlying56 rfl (by kernel_rfl) ?_
      have h5 := HT.out
      have h6 := R2.out
      rw [H4.out] at h5 h6
      unfold ofN ofW ofE
      rw [HL.out, h5]
      have n1 : g ≠ w.heap.size := by omega
      have hw := ((h6.far (p := ⟨w.heap.size, 0, none⟩) n1 (.int .i64 n)).far (p := ⟨w.heap.size, 1, none⟩) n1 (.slice (some ⟨g, 0, none⟩) (nw n) (nw n))).words (ofBits_lt n ps)
      rw [ofBits_len] at hw
      exact ⟨_, _, _, rfl, hw, (HB.out.setCell (p := ⟨w.heap.size, 0, none⟩) (Nat.le_refl _) _).setCell (p := ⟨w.heap.size, 1, none⟩) (Nat.le_refl _) _⟩
theorem of_any (n : Int) (A : Option Addr) (l c : Nat) (ps : List Int) (w : World) (hp : Ints w A l ps) (hl : l ≤ 9223372036854775807) : Calls Tryz.prog 50 #[.int .i64 n, .slice A l c] w (RowOut (ofN n ps) (ofW n ps) (ofE n ps) w) := by
  cases h : lmb n with
  | false =>
    unfold ofN ofW ofE
    rw [h]
    exact of_no n A l c h w
  | true =>
    obtain ⟨m, rfl⟩ := Int.eq_ofNat_of_zero_le ((lmb_iff n).1 h).1
    exact of_yes m A l c ps h w hp hl
end
section
/- Contract of the reference's Same: two rows are the same. -/
set_option linter.unusedVariables false
set_option linter.unusedSimpArgs false
open Go.RowKit
def sameB (n : Int) (us : List Nat) (m : Int) (vs : List Nat) : Bool := n == m && us == vs
set_option maxHeartbeats 400000 in
theorem same_any (n m : Int) (A B : Option Addr) (l c k d : Nat) (us vs : List Nat) (w : World) (hu : Words w A l us) (hv : Words w B k vs) (hl : l ≤ 1000000) :
    Calls Tryz.prog 23 #[.agg #[.int .i64 n, .slice A l c], .agg #[.int .i64 m, .slice B k d]] w fun e w' => e = .returned (.bool (sameB n us m vs)) ∧ Below w.heap.size w w' := by
  have q0 := (Box.new w 56 #[.int .i64 n, .slice A l c]).alloc (.cells #[.int .i64 m, .slice B k d] 56)
  have q1 := Box.new (w.alloc (.cells #[.int .i64 n, .slice A l c] 56)) 56 #[.int .i64 m, .slice B k d]
  have hW : Below w.heap.size w ((w.alloc (.cells #[.int .i64 n, .slice A l c] 56)).alloc (.cells #[.int .i64 m, .slice B k d] 56)) := ((Below.refl _ _).alloc (Nat.le_refl _) _).alloc (by simp) _
  simp only [World.size_alloc] at q1
  have Q0 := Lib.hid q0
  have Q1 := Lib.hid q1
  have HW := Lib.hid hW
  have HU := Lib.hid hu
  have HV := Lib.hid hv
  clear q0 q1 hW hu hv
  by_cases hn : n = m
  · subst hn
    have t1 : (n != n) = false := by simp
    by_cases hk : l = k
    · subst hk
      have t2 : ((l : Int) != (l : Int)) = false := by simp
      go_enter Tryz.func23, Tryz.ntmps23
      go_wp2
      clear t1 t2
      go_loopw [23] (fun i wr => ∃ j : Nat, j ≤ l ∧ i = .int .i64 j ∧ (∀ t, t < j → us.getD t 0 = vs.getD t 0) ∧ Box wr w.heap.size 56 #[.int .i64 n, .slice A l c] ∧ Box wr (w.heap.size + 1) 56 #[.int .i64 n, .slice B l d] ∧ Below w.heap.size w wr)
        (fun i _ => l - (intOf i).toNat)
      case atStart => exact ⟨0, by omega, rfl, fun t h => by omega, Q0.out, Q1.out, HW.out⟩
      case round =>
        obtain ⟨j, hj, rfl, heq, B0, B1, hbel⟩ := hrel
        have R0 := Lib.hid B0
        have R1 := Lib.hid B1
        have HB := Lib.hid hbel
        have HE := Lib.hid heq
        clear B0 B1 hbel Q0 Q1 HW heq
        obtain ⟨a0, a1, -, -⟩ := R0.out.two
        obtain ⟨b0, b1, -, -⟩ := R1.out.two
        by_cases hlt : j < l
        · obtain ⟨p, o, rfl, lt1, hc1⟩ := HU.out.2.2 (by omega)
          obtain ⟨p2, o2, rfl, lt2, hc2⟩ := HV.out.2.2 (by omega)
          have cu := (HB.out.cell (p := ⟨p, o + j, none⟩) lt1).trans (hc1 j hlt)
          have cv := (HB.out.cell (p := ⟨p2, o2 + j, none⟩) lt2).trans (hc2 j hlt)
          have hx := HU.out.2.1 j
          have hy := HV.out.2.1 j
          obtain ⟨x, ex⟩ : ∃ x, x = us.getD j 0 := ⟨_, rfl⟩
          obtain ⟨y, ey⟩ : ∃ y, y = vs.getD j 0 := ⟨_, rfl⟩
          rw [← ex] at cu hx
          rw [← ey] at cv hy
          have hxy := Lib.hid (And.intro ex ey)
          clear ex ey hc1 hc2
          have hlt' : (j : Int) < (l : Int) := by omega
          have hj0 : (0 : Int) ≤ (j : Int) := by omega
          by_cases e : x = y
          · have t3 : ((x : Int) != (y : Int)) = false := by simp [e]
            have HXY := Lib.hid e
            clear e
            go_wp2
            go_quiet (fail)
            go_wp2
            go_roundw
            case rel =>
              refine ⟨j + 1, by omega, by go_num, fun t ht => ?_, R0.out.drewN _, R1.out.drewN _, bdN HB.out _⟩
              by_cases h : t = j
              · rw [h, ← hxy.out.1, ← hxy.out.2]; exact HXY.out
              · exact HE.out t (by omega)
            case measure => simp [intOf]; omega
          · have t3 : ((x : Int) != (y : Int)) = true := by rw [bne_iff_ne]; omega
            have HF : Hid (sameB n us n vs = false) := by
              show sameB n us n vs = false
              simp only [sameB, beq_self_eq_true, Bool.true_and, beq_eq_false_iff_ne]
              intro h
              apply e
              rw [hxy.out.1, hxy.out.2, h]
            clear e
            go_wp2
            go_quiet (fail)
            go_wp2
            go_ret
            exact ⟨by rw [HF.out]; rfl, bdN HB.out _⟩
        · obtain rfl : j = l := by omega
          have HF : Hid (sameB n us n vs = true) := by
            show sameB n us n vs = true
            simp only [sameB, beq_self_eq_true, Bool.true_and, beq_iff_eq]
            apply List.ext_getElem
            · rw [HU.out.1, HV.out.1]
            · intro i h1 h2
              have := HE.out i (by rw [HU.out.1] at h1; exact h1)
              simpa [List.getD, h1, h2] using this
          go_wp2
          go_ret
          exact ⟨by rw [HF.out]; rfl, HB.out⟩
    · have t2 : ((l : Int) != (k : Int)) = true := by rw [bne_iff_ne]; omega
      have HF : Hid (sameB n us n vs = false) := by
        show sameB n us n vs = false
        simp only [sameB, beq_self_eq_true, Bool.true_and, beq_eq_false_iff_ne]
        intro h
        apply hk
        rw [← HU.out.1, ← HV.out.1, h]
      go_enter Tryz.func23, Tryz.ntmps23
      go_wp2
      go_ret
      exact ⟨by rw [HF.out]; rfl, HW.out⟩
  · have t1 : (n != m) = true := by simpa using hn
    have HF : Hid (sameB n us m vs = false) := by
      show sameB n us m vs = false
      have : (n == m) = false := by simpa using hn
      simp [sameB, this]
    go_enter Tryz.func23, Tryz.ntmps23
    go_wp2
    go_ret
    exact ⟨by rw [HF.out]; rfl, HW.out⟩
end
section
/- Contracts of layer 8: Places, Row. -/
set_option linter.unusedVariables false
set_option linter.unusedSimpArgs false
open Go.RowKit
/-- A symbol's state, how many blocks it has, and which. -/
def nbState (id : Nat) : Nat := nextS (mixN id)
def nbMany (k id : Nat) : Nat := pickD (tbl (wgts k k)) (mixN (nbState id))
def nbL (k id : Nat) : List Nat := someN k (nbMany k id) (nbState id)
theorem nbState_lt (id : Nat) : nbState id < 18446744073709551616 := nextS_lt _
theorem nbMany_range (k id : Nat) (h1 : 1 ≤ k) (h2 : k ≤ 64) : 1 ≤ nbMany k id ∧ nbMany k id ≤ k := by
  have := pick_range (tab_k k h1 h2) (mixN (nbState id))
  rw [tbl_len, wgts_len] at this
  exact this
theorem srcMay_any (k : Int) (w : World) : Calls Tryz.prog 37 #[.int .i64 k] w fun e w' => e = .returned (.bool (kmb k)) ∧ w = w' := by
  by_cases h : 1 ≤ k
  · by_cases h2 : k ≤ 64
    · rw [kmb_yes ⟨h, h2⟩]
      go_enter Tryz.func37, Tryz.ntmps37
      go_wp2
      go_ret
      exact ⟨rfl, rfl⟩
    · rw [kmb_no (fun x => h2 x.2)]
      have t : decide (k ≤ 64) = false := by simpa using h2
      go_enter Tryz.func37, Tryz.ntmps37
      go_wp2
      go_ret
      exact ⟨by simp, rfl⟩
  · rw [kmb_no (fun x => h x.1)]
    have t : decide (1 ≤ k) = false := by simpa using h
    go_enter Tryz.func37, Tryz.ntmps37
    go_wp2
    go_ret
    exact ⟨by simp, rfl⟩
/-- What places hands back. -/
def PlOut (k id : Nat) (w : World) (e : Ending) (w' : World) : Prop :=
  ∃ g c, e = .returned (.slice (some ⟨g, 0, none⟩) (nbMany k id) c) ∧ nbMany k id ≤ c ∧ NatsAt w' g (nbL k id) ∧ (nbL k id).length = nbMany k id ∧ w.heap.size ≤ g ∧ g < w'.heap.size ∧ Below w.heap.size w w'
set_option maxHeartbeats 1000000 in
theorem srcPlaces_any (k id : Nat) (h1 : 1 ≤ k) (h2 : k ≤ 64) (hi : id < 18446744073709551616) (w : World) : Calls Tryz.prog 51 #[.int .i64 k, .int .u64 id] w (PlOut k id w) := by
  have HST := Lib.hid (start_any id hi)
  have HNX := Lib.hid (next_any (mixN id) (mixN_lt id))
  have HTB := Lib.hid (tableN_any k h1 h2)
  have HR := Lib.hid (nbMany_range k id h1 h2)
  have HTK := Lib.hid (tab_k k h1 h2)
  have HTL := Lib.hid (show (tbl (wgts k k)).length = k by rw [tbl_len, wgts_len])
  have HTW := Lib.hid (tbl_lt (wgts k k))
  have HSM := Lib.hid (some_yes (nbState id) k (nbMany k id) (nbState_lt id) h1 (by omega) HR.out.2)
  have HX := Lib.hid (mixN_lt (nbState id))
  have HPK := Lib.hid (show nbMany k id = pickD (tbl (wgts k k)) (mixN (nbState id)) from rfl)
  go_enter Tryz.func51, Tryz.ntmps51
  go_wp2_with fail
  refine (HST.out _).mono ?_
  rintro e w1 ⟨rfl, rfl⟩
  go_wp2_with fail
  refine (HNX.out _).mono ?_
  rintro e w1 ⟨rfl, rfl⟩
  go_wp2_with fail
  refine (HTB.out _).mono ?_
  rintro e w1 ⟨v, rfl, hown, hb⟩
  rw [HTL.out] at hown
  obtain ⟨A, c, rfl, hlc, hcm, hw⟩ := own_slice hown HTW.out
  have HW := Lib.hid hw
  have B := Lib.hid hb
  clear hown hw hb HST HNX HTB
  go_wp2_with fail
  refine (pick_yes A k c _ _ _ HW.out (by unfold maxLen; omega) hlc HX.out HTK.out).mono ?_
  rintro e w2 ⟨rfl, hb⟩
  rw [← HPK.out]
  have B := Lib.hid (chain B.out hb)
  clear hb HW
  go_wp2_with fail
  refine (HSM.out _).mono ?_
  rintro e w3 ⟨g, c2, rfl, hc, hna, hl, hg0, hg1, hb⟩
  have B3 := Lib.hid (chain B.out hb)
  have hsz := B.out.size
  go_wp2_with fail
  go_ret
  exact ⟨g, c2, rfl, hc, hna, hl, by omega, hg1, B3.out⟩
/-- The row of a symbol's blocks. -/
def nbZ (k id : Nat) : List Int := castZ (nbL k id)
def nbRow (k id : Nat) : List Nat := ofBits k (nbZ k id)
theorem nb_there (k id : Nat) : there (k : Int) (nbZ k id) = true := by
  simp only [there, nbZ, castZ, List.all_eq_true, List.mem_map]
  rintro x ⟨y, hy, rfl⟩
  have := List.mem_filter.1 hy
  have h2 : y < k := by simpa using this.1
  simp; omega
theorem nb_len (k id : Nat) (h1 : 1 ≤ k) (h2 : k ≤ 64) : (nbL k id).length = nbMany k id := some_len k (nbMany k id) (nbState id) h1 (nbState_lt id) (nbMany_range k id h1 h2).2
theorem nb_ofN (k id : Nat) (h1 : 1 ≤ k) (h2 : k ≤ 64) : ofN (k : Int) (nbZ k id) = k ∧ ofW (k : Int) (nbZ k id) = nbRow k id ∧ ofE (k : Int) (nbZ k id) = 0 := by
  have h : lmb (k : Int) = true := (lmb_iff _).2 ⟨by omega, by omega⟩
  unfold ofN ofW ofE
  rw [h, nb_there]
  exact ⟨rfl, rfl, rfl⟩
theorem lmb_k (k : Nat) (h1 : 1 ≤ k) (h2 : k ≤ 64) : lmb (k : Int) = true := (lmb_iff _).2 ⟨by omega, by omega⟩
set_option maxHeartbeats 1000000 in
theorem srcRow_any (k id : Nat) (h1 : 1 ≤ k) (h2 : k ≤ 64) (hi : id < 18446744073709551616) (w : World) : Calls Tryz.prog 38 #[.int .i64 k, .int .u64 id] w (OneRow k (nbRow k id) w) := by
  have HS := Lib.hid (srcPlaces_any k id h1 h2 hi)
  have HM := Lib.hid (nbMany_range k id h1 h2)
  have HN := Lib.hid (nb_ofN k id h1 h2)
  have q0 := Box.new w 56 #[.int .i64 0, .slice none 0 0]
  have Q0 := Lib.hid q0
  have HW := Lib.hid (show Below w.heap.size w (w.alloc (.cells #[.int .i64 0, .slice none 0 0] 56)) from (Below.refl _ _).alloc (Nat.le_refl _) _)
  clear q0
  go_enter Tryz.func38, Tryz.ntmps38
  go_wp2_with fail
  refine (HS.out _).mono ?_
  rintro e w1 ⟨g, c, rfl, hc, hna, hl, hg0, hg1, hb⟩
  have Q0 := Lib.hid (Q0.out.keep hb)
  have HW := Lib.hid (chain HW.out hb)
  have HI := Lib.hid (nats_ints hna hl hg1 (some_bound k _ _ (by omega)))
  clear hna hb
  go_wp2_with fail
  refine (of_any k (some ⟨g, 0, none⟩) (nbMany k id) c (nbZ k id) _ HI.out (by have := HM.out.2; omega)).mono ?_
  rw [HN.out.1, HN.out.2.1, HN.out.2.2]
  rintro e w2 ⟨A, l, c2, rfl, hw, hb⟩
  have P0 := Lib.hid ((Q0.out.keep hb).alloc (.cells #[.int .i64 k, .slice A l c2] 56))
  have T1 := Lib.hid ((chain HW.out hb).alloc (chain HW.out hb).size (.cells #[.int .i64 k, .slice A l c2] 56))
  have HWo := Lib.hid (hw.alloc (.cells #[.int .i64 k, .slice A l c2] 56))
  clear hw hb
  obtain ⟨r0, r1, r2, r3⟩ := P0.out.two
  go_wp2
  refine close_one Tryz.results38 rfl rfl P0.out.put2 Tryz.underlying56 rfl (by kernel_rfl) ⟨_, _, _, rfl, HWo.out.put2 P0.out _ _, ?_⟩
  exact (T1.out.setCell (p := ⟨w.heap.size, 0, none⟩) (Nat.le_refl _) _).setCell (p := ⟨w.heap.size, 1, none⟩) (Nat.le_refl _) _
end
section
/- Rows of words that are a call's own: bitrow.Of so. -/
set_option linter.unusedVariables false
set_option linter.unusedSimpArgs false
open Go.RowKit
/-- A row of words in a block of words. -/
def OwnW (w : World) (A : Option Addr) (l c : Nat) (zs : List Nat) : Prop := w.ownsRow 0 44 1 (.slice A l c) l (zs.map u64V)
section
variable {w w' : World} {A : Option Addr} {l c : Nat} {zs : List Nat}
theorem OwnW.words (h : OwnW w A l c zs) (hz : ∀ j, zs.getD j 0 < 18446744073709551616) : Words w A l zs := own_words h hz
theorem OwnW.below (h : OwnW w A l c zs) (hb : Below w.heap.size w w') : OwnW w' A l c zs := own_keep h hb
theorem OwnW.alloc (h : OwnW w A l c zs) (o : Obj) : OwnW (w.alloc o) A l c zs := World.ownsRow.alloc h o
theorem OwnW.drew (h : OwnW w A l c zs) : OwnW w.drew A l c zs := h
theorem OwnW.far (h : OwnW w A l c zs) {g : Nat} {t : TypeId} {cs : Array Value} (hb : Box w g t cs) (hne : 44 ≠ t) (i : Nat) (u : Value) : OwnW (w.setCell ⟨g, i, none⟩ u) A l c zs := own_far h hb hne i u
theorem OwnW.put2 (h : OwnW w A l c zs) {g : Nat} {a b : Value} (hb : Box w g 56 #[a, b]) (u v : Value) : OwnW ((w.setCell ⟨g, 0, none⟩ u).setCell ⟨g, 1, none⟩ v) A l c zs :=
  (h.far hb (by decide) 0 u).far (hb.put 0 u) (by decide) 1 v
theorem OwnW.grown {v : Value} {base e size n : Nat} {xs : List Value} (h : OwnW w A l c zs) (ho : w.ownsRow base e size v n xs) (hne : e ≠ 44) (hg : w.grownBy w' v.ownBlock) : OwnW w' A l c zs := by
  refine World.ownsRow.kept h hg ?_
  rcases h.2 with ⟨h0, _⟩ | ⟨g, cap, cur, h0, _, hh, _⟩
  · left; rw [h0]; rfl
  · right
    rw [h0]
    exact fun e => own_ne ho hh hne e.symm
theorem Box.ownW {g n : Nat} (h : Box w g 44 (numsA zs)) (hl : zs.length = n) (hm : n ≤ maxLen) : OwnW w (some ⟨g, 0, none⟩) n n zs := by
  refine ⟨by simp [hl], .inr ⟨g, n, numsA zs, rfl, Nat.zero_le _, h, Nat.le_refl _, hm, by simp [numsA, hl], ?_⟩⟩
  have e1 : (numsA zs).toList = zs.map u64V := rfl
  rw [e1, List.take_of_length_le (by simp [hl])]
end
/-- What Of hands back, where each place is there. -/
def OwnOut (n : Int) (zs : List Nat) (w : World) (e : Ending) (w' : World) : Prop :=
  ∃ A l c, e = .returned (.tuple #[.agg #[.int .i64 n, .slice A l c], .int .i64 0]) ∧ OwnW w' A l c zs ∧ Below w.heap.size w w'
/-- What a function of one row hands back. -/
def OneOwn (n : Int) (zs : List Nat) (w : World) (e : Ending) (w' : World) : Prop :=
  ∃ A l c, e = .returned (.agg #[.int .i64 n, .slice A l c]) ∧ OwnW w' A l c zs ∧ Below w.heap.size w w'
set_option maxHeartbeats 1000000 in
theorem of_own (n : Nat) (A : Option Addr) (l c : Nat) (ps : List Int) (h : lmb n = true) (w : World) (hp : Ints w A l ps) (hl : l ≤ 9223372036854775807) (hth0 : there n ps = true) : Calls Tryz.prog 50 #[.int .i64 n, .slice A l c] w (OwnOut n (ofBits n ps) w) := by
  have Q := Lib.hid (Box.new w 56 #[.int .i64 0, .slice none 0 0])
  have HP := Lib.hid hp
  have HTH := Lib.hid hth0
  clear hth0
  have hn := (lmb_iff n).1 h
  have hnw : nw n ≤ 8 := by unfold nw; omega
  clear hp
  go_enter Tryz.func50, Tryz.ntmps50
  go_wp2_with fail
  refine (new_yes n h _).mono ?_
  clear h
  rintro e x1 ⟨g, rfl, hg, hgs, hb⟩
  have Q := Lib.hid (Q.out.keep hb)
  have HB := Lib.hid (chain ((Below.refl _ _).alloc (Nat.le_refl _) _) hb)
  have hz := Q.out.lt
  have hg1 := hg.lt
  have HG := Lib.hid hg
  rw [List.length_replicate]
  simp at hgs
  clear hb hg
  go_wp2
  have P0 := Lib.hid (Q.out.alloc (.cells #[.int .i64 n, .slice (some ⟨g, 0, none⟩) (nw n) (nw n)] 56))
  have P1 := Lib.hid (Box.new x1 56 #[.int .i64 n, .slice (some ⟨g, 0, none⟩) (nw n) (nw n)])
  have P2 := Lib.hid (HG.out.alloc (.cells #[.int .i64 n, .slice (some ⟨g, 0, none⟩) (nw n) (nw n)] 56))
  have P3 := Lib.hid (HB.out.alloc HB.out.size (.cells #[.int .i64 n, .slice (some ⟨g, 0, none⟩) (nw n) (nw n)] 56))
  clear Q HB HG
  go_loopw [21] (fun i wr => ∃ j : Nat, j ≤ l ∧ i = .int .i64 j ∧ there n (ps.take j) = true ∧ Box wr g 44 (numsA (ofBits n (ps.take j))) ∧ Box wr w.heap.size 56 #[.int .i64 0, .slice none 0 0] ∧ Box wr x1.heap.size 56 #[.int .i64 n, .slice (some ⟨g, 0, none⟩) (nw n) (nw n)] ∧ Below w.heap.size w wr)
    (fun i _ => l - (intOf i).toNat)
  case atStart => exact ⟨0, by omega, rfl, rfl, P2.out, P0.out, P1.out, P3.out⟩
  case round =>
    obtain ⟨j, hj, rfl, hth, B2, B0, B1, hbel⟩ := hrel
    have R0 := Lib.hid B0
    have R1 := Lib.hid B1
    have R2 := Lib.hid B2
    have HB := Lib.hid hbel
    have HT := Lib.hid hth
    clear B0 B1 B2 hbel hth P0 P1 P2 P3
    obtain ⟨a0, a1, f0, f1⟩ := R0.out.two
    obtain ⟨b0, b1, -, -⟩ := R1.out.two
    by_cases hlt : j < l
    · obtain ⟨q, o, rfl, lt1, hc1⟩ := HP.out.2.2 (by omega)
      have cu := (HB.out.cell (p := ⟨q, o + j, none⟩) lt1).trans (hc1 j hlt)
      obtain ⟨x, ex⟩ : ∃ x, x = ps.getD j 0 := ⟨_, rfl⟩
      rw [← ex] at cu
      have EX := Lib.hid ex
      clear ex hc1
      go_wp2_with fail
      refine (isPlace_any _ _ _ _ x _).mono ?_
      rintro e w2 ⟨rfl, hb⟩
      have S0 := Lib.hid (R0.out.keep hb)
      have S1 := Lib.hid (R1.out.keep hb)
      have S2 := Lib.hid (R2.out.keep hb)
      have HC := Lib.hid (chain HB.out hb)
      clear hb a0 a1 f0 f1 b0 b1 cu
      obtain ⟨a0, a1, f0, f1⟩ := S0.out.two
      obtain ⟨b0, b1, -, -⟩ := S1.out.two
      have htk : ps.take (j + 1) = ps.take j ++ [x] := by rw [EX.out]; exact take_one ps j 0 (by rw [HP.out.1]; exact hlt)
      have HTk := Lib.hid htk
      clear htk
      by_cases hx : 0 ≤ x ∧ x < n
      · obtain ⟨y, rfl⟩ := Int.eq_ofNat_of_zero_le hx.1
        have t0 : (decide (0 ≤ (y : Int)) && decide ((y : Int) < n)) = true := by simp; omega
        rw [t0]
        clear t0
        have hlen : (ofBits n (ps.take j)).length = nw n := ofBits_len n _
        have hy8 : y / 64 < nw n := by unfold nw; omega
        have hv := ofBits_lt n (ps.take j) (y / 64)
        have cg : w2.cell? ⟨g, y / 64, none⟩ = some (.int .u64 ((ofBits n (ps.take j)).getD (y / 64) 0 : Nat)) := by rw [S2.out.cell, numsA_get _ _ (by omega)]
        have fg := S2.out.free (y / 64)
        have P2 := Lib.hid ((S2.out.put (y / 64) (.int .u64 (((ofBits n (ps.take j)).getD (y / 64) 0 ||| 2 ^ (y % 64) : Nat) : Int))).drew)
        have HV := Lib.hid (or_val ((ofBits n (ps.take j)).getD (y / 64) 0) (y % 64) hv (by omega))
        have n1 : w.heap.size ≠ g := by omega
        have n2 : x1.heap.size ≠ g := by omega
        have P0 := Lib.hid ((S0.out.far (p := ⟨g, y / 64, none⟩) n1 (.int .u64 (((ofBits n (ps.take j)).getD (y / 64) 0 ||| 2 ^ (y % 64) : Nat) : Int))).drew)
        have P1 := Lib.hid ((S1.out.far (p := ⟨g, y / 64, none⟩) n2 (.int .u64 (((ofBits n (ps.take j)).getD (y / 64) 0 ||| 2 ^ (y % 64) : Nat) : Int))).drew)
        have P3 := Lib.hid ((HC.out.setCell (p := ⟨g, y / 64, none⟩) (by simp; omega) (.int .u64 (((ofBits n (ps.take j)).getD (y / 64) 0 ||| 2 ^ (y % 64) : Nat) : Int))).drew)
        have H4 : Hid (there n (ps.take (j + 1)) = true) := by
          show there n (ps.take (j + 1)) = true
          rw [HTk.out]
          have := HT.out
          simp only [there, List.all_append, Bool.and_eq_true] at this ⊢
          exact ⟨this, by simp; omega⟩
        have H5 : Hid ((numsA (ofBits n (ps.take j))).setIfInBounds (y / 64) (.int .u64 (((ofBits n (ps.take j)).getD (y / 64) 0 ||| 2 ^ (y % 64) : Nat) : Int)) = numsA (ofBits n (ps.take (j + 1)))) := by
          show _ = _
          rw [numsA_set, HTk.out, ofBits_snoc]; rfl
        generalize (ofBits n (ps.take j)).getD (y / 64) 0 = v at *
        go_wp2
        have g1 : (y : Int).tdiv 64 = ((y / 64 : Nat) : Int) := by rw [Int.tdiv_eq_ediv_of_nonneg (by omega)]; omega
        have g2 : (y : Int).tmod 64 = ((y % 64 : Nat) : Int) := by rw [Int.tmod_eq_emod_of_nonneg (by omega)]; omega
        have g3 : IntKind.i64.wrap ((y / 64 : Nat) : Int) = ((y / 64 : Nat) : Int) := IntWalk.i64_in _ (by omega)
        have g4 : (0 : Int) ≤ ((y / 64 : Nat) : Int) := by omega
        have g5 : ((y / 64 : Nat) : Int) < (nw n : Int) := by omega
        go_region
        rw [HV.out]
        clear g1 g2 g3 g4 g5 a0 a1 f0 f1 b0 b1 cg fg
        generalize (w2.setCell ⟨g, y / 64, none⟩ (.int .u64 ((v ||| 2 ^ (y % 64) : Nat) : Int))).drew = wn at *
        go_wp2
        go_roundw
        case rel => exact ⟨j + 1, by omega, by go_num, H4.out, by have := P2.out; rw [H5.out] at this; exact this, P0.out, P1.out, P3.out⟩
        case measure => simp [intOf]; omega
      · have t0 : (decide (0 ≤ x) && decide (x < n)) = false := by simp; omega
        rw [t0]
        clear t0
        have H4 : Hid (there n ps = false) := by
          show there n ps = false
          rw [← List.take_append_drop (j + 1) ps, HTk.out]
          have : (decide (0 ≤ x) && decide (x < n)) = false := by simp; omega
          simp [there, List.all_append, this]
        exact absurd HTH.out (by rw [H4.out]; decide)
    · obtain rfl : j = l := by omega
      have H4 : Hid (ps.take j = ps) := by
        show ps.take j = ps
        exact List.take_of_length_le (by rw [HP.out.1]; omega)
      go_wp2
      refine close_cell Tryz.results50 rfl rfl rfl R0.out.put2 Tryz.underlying56 rfl (by kernel_rfl) ?_
      have h6 := R2.out
      rw [H4.out] at h6
      have n1 : g ≠ w.heap.size := by omega
      have hw := (h6.far (p := ⟨w.heap.size, 0, none⟩) n1 (.int .i64 n)).far (p := ⟨w.heap.size, 1, none⟩) n1 (.slice (some ⟨g, 0, none⟩) (nw n) (nw n))
      exact ⟨_, _, _, rfl, hw.ownW (ofBits_len n ps) (by unfold maxLen; omega), (HB.out.setCell (p := ⟨w.heap.size, 0, none⟩) (Nat.le_refl _) _).setCell (p := ⟨w.heap.size, 1, none⟩) (Nat.le_refl _) _⟩
end
section
/- Rows of words that are a call's own: bitrow.Of and source.row so. -/
set_option linter.unusedVariables false
set_option linter.unusedSimpArgs false
open Go.RowKit
set_option maxHeartbeats 1000000 in
theorem srcRow_own (k id : Nat) (h1 : 1 ≤ k) (h2 : k ≤ 64) (hi : id < 18446744073709551616) (w : World) : Calls Tryz.prog 38 #[.int .i64 k, .int .u64 id] w (OneOwn k (nbRow k id) w) := by
  have HS := Lib.hid (srcPlaces_any k id h1 h2 hi)
  have HM := Lib.hid (nbMany_range k id h1 h2)
  have HN := Lib.hid (lmb_k k h1 h2)
  have HT := Lib.hid (nb_there k id)
  have q0 := Box.new w 56 #[.int .i64 0, .slice none 0 0]
  have Q0 := Lib.hid q0
  have HW := Lib.hid (show Below w.heap.size w (w.alloc (.cells #[.int .i64 0, .slice none 0 0] 56)) from (Below.refl _ _).alloc (Nat.le_refl _) _)
  clear q0
  go_enter Tryz.func38, Tryz.ntmps38
  go_wp2_with fail
  refine (HS.out _).mono ?_
  rintro e w1 ⟨g, c, rfl, hc, hna, hl, hg0, hg1, hb⟩
  have Q0 := Lib.hid (Q0.out.keep hb)
  have HW := Lib.hid (chain HW.out hb)
  have HI := Lib.hid (nats_ints hna hl hg1 (some_bound k _ _ (by omega)))
  clear hna hb
  go_wp2_with fail
  refine (of_own k (some ⟨g, 0, none⟩) (nbMany k id) c (nbZ k id) HN.out _ HI.out (by have := HM.out.2; omega) HT.out).mono ?_
  rintro e w2 ⟨A, l, c2, rfl, hw, hb⟩
  have P0 := Lib.hid ((Q0.out.keep hb).alloc (.cells #[.int .i64 k, .slice A l c2] 56))
  have T1 := Lib.hid ((chain HW.out hb).alloc (chain HW.out hb).size (.cells #[.int .i64 k, .slice A l c2] 56))
  have HWo := Lib.hid (hw.alloc (.cells #[.int .i64 k, .slice A l c2] 56))
  clear hw hb
  obtain ⟨r0, r1, r2, r3⟩ := P0.out.two
  go_wp2
  refine close_one Tryz.results38 rfl rfl P0.out.put2 Tryz.underlying56 rfl (by kernel_rfl) ⟨_, _, _, rfl, HWo.out.put2 P0.out _ _, ?_⟩
  exact (T1.out.setCell (p := ⟨w.heap.size, 0, none⟩) (Nat.le_refl _) _).setCell (p := ⟨w.heap.size, 1, none⟩) (Nat.le_refl _) _
end
section
/- neighbours.Rows: the rows of several symbols. -/
set_option linter.unusedVariables false
set_option linter.unusedSimpArgs false
open Go.RowKit
theorem own_drew {w : World} {base e size n : Nat} {v : Value} {xs : List Value} (h : w.ownsRow base e size v n xs) : w.drew.ownsRow base e size v n xs := h
def flatR (k : Int) (rs : List (Option Addr × Nat × Nat)) : List Value := rs.flatMap fun r => [.int .i64 k, .slice r.1 r.2.1 r.2.2]
theorem flatR_len (k : Int) (rs : List (Option Addr × Nat × Nat)) : (flatR k rs).length = rs.length * 2 := by
  induction rs with
  | nil => rfl
  | cons r rs ih => simp only [flatR, List.flatMap_cons, List.length_append, List.length_cons, List.length_nil] at *; omega
theorem flatR_snoc (k : Int) (rs : List (Option Addr × Nat × Nat)) (A : Option Addr) (l c : Nat) : flatR k (rs ++ [(A, l, c)]) = flatR k rs ++ [.int .i64 k, .slice A l c] := by simp [flatR]
/-- A row of rows of the call's own: each of k bits, and of these words. -/
def MatW (w : World) (base : Nat) (k : Int) (v : Value) (ls : List (List Nat)) : Prop :=
  ∃ rs, rs.length = ls.length ∧ w.ownsRow base 56 2 v ls.length (flatR k rs) ∧ ∀ j, j < ls.length → OwnW w (rs.getD j (none, 0, 0)).1 (rs.getD j (none, 0, 0)).2.1 (rs.getD j (none, 0, 0)).2.2 (ls.getD j [])
theorem MatW.nil (w : World) (base : Nat) (k : Int) : MatW w base k (.slice none 0 0) [] := ⟨[], rfl, World.ownsRow_nil _ _ _ _, fun j hj => by cases hj⟩
theorem MatW.below {w w' : World} {base : Nat} {k : Int} {v : Value} {ls : List (List Nat)} (h : MatW w base k v ls) (hb : Below w.heap.size w w') : MatW w' base k v ls := by
  obtain ⟨rs, h1, h2, h3⟩ := h
  exact ⟨rs, h1, own_keep h2 hb, fun j hj => (h3 j hj).below hb⟩
theorem MatW.alloc {w : World} {base : Nat} {k : Int} {v : Value} {ls : List (List Nat)} (h : MatW w base k v ls) (o : Obj) : MatW (w.alloc o) base k v ls := h.below ((Below.refl _ _).alloc (Nat.le_refl _) o)
theorem MatW.far {w : World} {base : Nat} {k : Int} {v : Value} {ls : List (List Nat)} (h : MatW w base k v ls) {g : Nat} {t : TypeId} {cs : Array Value} (hb : Box w g t cs) (hne : 44 ≠ t) (hne2 : 56 ≠ t) (i : Nat) (u : Value) : MatW (w.setCell ⟨g, i, none⟩ u) base k v ls := by
  obtain ⟨rs, h1, h2, h3⟩ := h
  exact ⟨rs, h1, own_far h2 hb hne2 i u, fun j hj => (h3 j hj).far hb hne i u⟩
theorem MatW.snoc {w : World} {base : Nat} {k : Int} {v : Value} {rs : List (Option Addr × Nat × Nat)} {ls : List (List Nat)} {A : Option Addr} {l c : Nat} {z : List Nat} (h1 : rs.length = ls.length) (h2 : w.ownsRow base 56 2 v (ls.length + 1) (flatR k rs ++ [.int .i64 k, .slice A l c]))
    (h3 : ∀ j, j < ls.length → OwnW w (rs.getD j (none, 0, 0)).1 (rs.getD j (none, 0, 0)).2.1 (rs.getD j (none, 0, 0)).2.2 (ls.getD j [])) (h4 : OwnW w A l c z) : MatW w base k v (ls ++ [z]) := by
  refine ⟨rs ++ [(A, l, c)], by simp [h1], ?_, fun j hj => ?_⟩
  · rw [flatR_snoc, List.length_append]; exact h2
  · rw [List.length_append] at hj
    simp only [List.length_cons, List.length_nil] at hj
    by_cases h : j < ls.length
    · have := h3 j h
      simp only [List.getD, List.getElem?_append_left h, List.getElem?_append_left (h1 ▸ h)] at this ⊢
      exact this
    · obtain rfl : j = ls.length := by omega
      have e1 : (rs ++ [(A, l, c)]).getD ls.length (none, 0, 0) = (A, l, c) := by rw [← h1]; simp [List.getD]
      have e2 : (ls ++ [z]).getD ls.length [] = z := by simp [List.getD]
      rw [e1, e2]; exact h4
theorem row_info : (Tryz.prog.info? 56).map (fun i => (i.zero, i.size, i.bytes)) = some (some (.agg #[.int .i64 0, .slice none 0 0]), 2, 32) := by kernel_rfl
/-- What Rows hands back. -/
def MatOut (k : Nat) (f : Nat → List Nat) (zs : List Nat) (w : World) (e : Ending) (w' : World) : Prop :=
  ∃ v, e = .returned (.tuple #[.agg #[.int .i64 k, v], .int .i64 0]) ∧ MatW w' w.heap.size k v (zs.map f) ∧ Below w.heap.size w w'
set_option maxRecDepth 100000 in
set_option maxHeartbeats 2000000 in
theorem rows_gen (k : Nat) (f : Nat → List Nat) (hk : 1 ≤ k ∧ k ≤ 64) (hM : ∀ w, Calls Tryz.prog 37 #[.int .i64 k] w fun e w' => e = .returned (.bool true) ∧ w = w')
    (hS : ∀ id : Nat, id < 18446744073709551616 → ∀ w, Calls Tryz.prog 38 #[.int .i64 k, .int .u64 id] w (OneOwn k (f id) w))
    (A : Option Addr) (l c : Nat) (zs : List Nat) (w : World) (hz : Words w A l zs) (hl : l ≤ 64) :
    Calls Tryz.prog 18 #[.int .i64 k, .slice A l c] w (MatOut k f zs w) := by
  have HM := Lib.hid hM
  have HS := Lib.hid hS
  have HZ := Lib.hid hz
  clear hM hS hz
  have hl2 : ¬ (64 : Int) < l := by omega
  obtain ⟨i0, hi, hz0, hz1, hz2⟩ := info_parts row_info
  have HI := Lib.hid hi
  have HZ0 := Lib.hid hz0
  have HZ1 := Lib.hid hz1
  have HZ2 := Lib.hid hz2
  clear hi hz0 hz1 hz2
  have Q0 := Lib.hid ((Box.new w 28 #[.int .i64 0, .slice none 0 0]).alloc (.cells #[.int .i64 k, .slice none 0 0] 28))
  have q1 := Box.new (w.alloc (.cells #[.int .i64 0, .slice none 0 0] 28)) 28 #[.int .i64 k, .slice none 0 0]
  have HW := Lib.hid (show Below w.heap.size w ((w.alloc (.cells #[.int .i64 0, .slice none 0 0] 28)).alloc (.cells #[.int .i64 k, .slice none 0 0] 28)) from ((Below.refl _ _).alloc (Nat.le_refl _) _).alloc (by simp) _)
  simp only [World.size_alloc] at q1
  have Q1 := Lib.hid q1
  clear q1
  go_enter Tryz.func18, Tryz.ntmps18
  go_wp2_with fail
  refine (HM.out _).mono ?_
  rintro e w1 ⟨rfl, rfl⟩
  go_wp2_with fail
  go_loopw [25] (fun t wr => ∃ (i : Nat) (v : Value), i ≤ l ∧ t = .int .i64 i ∧ Box wr (w.heap.size + 1) 28 #[.int .i64 k, v] ∧ MatW wr w.heap.size k v ((zs.take i).map f) ∧ Box wr w.heap.size 28 #[.int .i64 0, .slice none 0 0] ∧ Below w.heap.size w wr) (fun t _ => l - (intOf t).toNat)
  case atStart => exact ⟨0, _, by omega, rfl, Q1.out, MatW.nil _ _ _, Q0.out, HW.out⟩
  case round =>
    obtain ⟨i, v, hi, rfl, B1, hmat, B0, hbel⟩ := hrel
    have R1 := Lib.hid B1
    have R0 := Lib.hid B0
    have HMa := Lib.hid hmat
    have HB := Lib.hid hbel
    clear B1 B0 hmat hbel Q0 Q1 HW
    by_cases hlt : i < l
    · have hlt' : (i : Int) < (l : Int) := by omega
      obtain ⟨q, o, rfl, lt1, hc1⟩ := HZ.out.2.2 (by omega)
      have cu := (HB.out.cell (p := ⟨q, o + i, none⟩) lt1).trans (hc1 i hlt)
      have hx := HZ.out.2.1 i
      have HTK := Lib.hid (show (zs.take (i + 1)).map f = (zs.take i).map f ++ [f (zs.getD i 0)] by rw [take_one zs i 0 (by rw [HZ.out.1]; exact hlt)]; simp)
      have HTL := Lib.hid (show ((zs.take i).map f).length = i by have := HZ.out.1; simp; omega)
      clear hc1 lt1
      generalize zs.getD i 0 = x at *
      have HX := Lib.hid hx
      clear hx
      obtain ⟨a0, a1, f0, f1⟩ := R1.out.two
      obtain ⟨rs, hr1, hr2, hr3⟩ := HMa.out
      rw [HTL.out] at hr1 hr2 hr3
      have HOW := Lib.hid hr2
      have HRS := Lib.hid hr3
      clear hr2 hr3
      go_wp2_with fail
      go_region_law (first
        | (go_simp; go_at_call 38; refine (HS.out x HX.out _).mono ?_; rintro e1 x1 ⟨A1, l1, c1, rfl, hw, hb⟩; have S1 := Lib.hid (R1.out.drew.keep hb); have S0 := Lib.hid (R0.out.drew.keep hb); have SO := Lib.hid (own_keep (own_drew HOW.out) hb); have SR := Lib.hid (fun j hj => (HRS.out j hj).drew.below hb); have SB := Lib.hid (chain HB.out.drew hb); have SW := Lib.hid hw; clear hb hw; have T1 := Lib.hid (S1.out.alloc (.cells #[.int .i64 k, .slice A1 l1 c1] 56)); obtain ⟨s0, s1, sf0, sf1⟩ := S1.out.two; obtain ⟨t0, t1, tf0, tf1⟩ := T1.out.two; have hb0 := SB.out.size; have hn0 := SO.out.lt)
        | (refine step_append_lies _ rfl (.tmp 30) (.tmp 34) 26 rfl w.heap.size 56 i0 (.agg #[.int .i64 0, .slice none 0 0]) 2 32 Tryz.underlying26 HI.out HZ0.out HZ1.out HZ2.out rfl (by decide) v i (flatR k rs) (by simp [Act.eval, Act.put]) (World.ownsRow.alloc SO.out (.cells #[.int .i64 k, .slice A1 l1 c1] 56)) ⟨x1.heap.size, 0, none⟩ 1 1 [.int .i64 k, .slice A1 l1 c1] (by simp [Act.eval, Act.put]) rfl (World.news_of_block (Box.new x1 56 #[.int .i64 k, .slice A1 l1 c1])) (by simp [Value.oneCell']) (by omega) (by simp [maxLen]; omega) (by omega) (by simp; omega) _ rfl ?_; intro g cap w1 hown hgrow _ _; have V1 := Lib.hid (T1.out.grown hgrow (own_ne SO.out S1.out (by decide))); have HO2 := Lib.hid hown; have HG := Lib.hid hgrow; clear hown hgrow; obtain ⟨v0, v1, vf0, vf1⟩ := V1.out.two))
      all_goals
        have W0 := Lib.hid ((S0.out.alloc (.cells #[.int .i64 k, .slice A1 l1 c1] 56)).grown HG.out (own_ne SO.out S0.out (by decide)))
        have WB := Lib.hid ((SB.out.alloc SB.out.size (.cells #[.int .i64 k, .slice A1 l1 c1] 56)).grown HG.out (SB.out.alloc SB.out.size (.cells #[.int .i64 k, .slice A1 l1 c1] 56)).size (fun k hk => (SO.out.lt k hk).1))
        have WR := Lib.hid (fun j hj => OwnW.grown ((SR.out j hj).alloc (.cells #[.int .i64 k, .slice A1 l1 c1] 56)) (World.ownsRow.alloc SO.out (.cells #[.int .i64 k, .slice A1 l1 c1] 56)) (by decide) HG.out)
        have WW := Lib.hid (OwnW.grown (SW.out.alloc (.cells #[.int .i64 k, .slice A1 l1 c1] 56)) (World.ownsRow.alloc SO.out (.cells #[.int .i64 k, .slice A1 l1 c1] 56)) (by decide) HG.out)
        have WM := Lib.hid (MatW.snoc (ls := (zs.take i).map f) (by rw [HTL.out]; exact hr1) (by rw [HTL.out]; exact HO2.out) (by rw [HTL.out]; exact WR.out) WW.out)
        clear HG SO SR SB SW S0 S1 T1 HOW HRS HO2 WR WW HMa R1 R0 HB
        go_wp2_with fail
        go_roundw
        case rel => exact ⟨i + 1, _, by omega, by go_num, V1.out.put 1 _, by rw [HTK.out]; exact WM.out.far V1.out (by decide) (by decide) 1 _, W0.out.far (p := ⟨w.heap.size + 1, 1, none⟩) (by simp) _, WB.out.setCell (p := ⟨w.heap.size + 1, 1, none⟩) (by simp) _⟩
        case measure => simp [intOf] <;> omega
    · obtain rfl : i = l := by omega
      have hlt' : ¬ (i : Int) < (i : Int) := by omega
      have HTK := Lib.hid (show zs.take i = zs from List.take_of_length_le (by rw [HZ.out.1]; omega))
      rw [HTK.out] at HMa
      obtain ⟨A', c', hv⟩ : ∃ A' c', v = .slice A' zs.length c' := by
        obtain ⟨rs, -, h2, -⟩ := HMa.out
        obtain ⟨A', c', h, -⟩ := own_form h2
        rw [List.length_map] at h
        exact ⟨A', c', h⟩
      subst hv
      obtain ⟨a0, a1, -, -⟩ := R1.out.two
      obtain ⟨b0, b1, f0, f1⟩ := R0.out.two
      go_wp2
      refine close_cell Tryz.results18 rfl rfl rfl R0.out.put2 Tryz.underlying28 rfl (by kernel_rfl) ⟨_, rfl, ?_, ?_⟩
      · exact (HMa.out.far R0.out (by decide) (by decide) 0 _).far (R0.out.put 0 _) (by decide) (by decide) 1 _
      · exact (HB.out.setCell (p := ⟨w.heap.size, 0, none⟩) (Nat.le_refl _) _).setCell (p := ⟨w.heap.size, 1, none⟩) (Nat.le_refl _) _
end
section
/- Contracts of layer 7's reference: Root, digits, Same. -/
set_option linter.unusedVariables false
set_option linter.unusedSimpArgs false
open Go.RowKit
set_option maxHeartbeats 1000000 in
theorem refRoot_any (k : Nat) (hk : k ≤ 2147483647) (w : World) : Calls Tryz.prog 107 #[.int .i64 k] w fun e w' => e = .returned (.int .i64 (root k : Nat)) ∧ w = w' := by
  have HR := Lib.hid (fun s h1 h2 => (root_of k s h1 h2 hk).1)
  go_enter Tryz.func107, Tryz.ntmps107
  go_wp2
  go_loop [3, 4] (fun l h => ∃ a b : Nat, a < b ∧ b ≤ 46341 ∧ l = .int .i64 a ∧ h = .int .i64 b ∧ Hid (a * a ≤ k ∧ k < b * b)) (fun l h => (intOf h).toNat - (intOf l).toNat)
  case atStart => exact ⟨0, 46341, by omega, by omega, rfl, rfl, Lib.hid ⟨by omega, by omega⟩⟩
  case round =>
    obtain ⟨a, b, hab, hb, rfl, rfl, HK⟩ := hrel
    by_cases hlt : 1 < b - a
    · have g1 : (1 : Int) < (b : Int) - a := by omega
      obtain ⟨x, hx⟩ : ∃ x, x = (a + b) / 2 := ⟨_, rfl⟩
      have hx1 : a < x := by omega
      have hx2 : x < b := by omega
      have hxe : ((a : Int) + (b : Int)) / 2 = (x : Int) := by omega
      have m1 : x * x ≤ 46341 * 46341 := Nat.mul_le_mul (by omega) (by omega)
      have m2 : (x : Int) * (x : Int) ≤ 2147488281 := by rw [sq_cast]; omega
      have m3 : 0 ≤ (x : Int) * (x : Int) := by rw [sq_cast]; omega
      clear hx
      by_cases hs : x * x ≤ k
      · have t : (x : Int) * (x : Int) ≤ k := by rw [sq_cast]; omega
        go_wp2
        go_round
        case rel => exact ⟨x, b, hx2, hb, by rw [hxe], rfl, Lib.hid ⟨hs, HK.out.2⟩⟩
        case measure => simp [intOf] <;> omega
      · have t : ¬ (x : Int) * (x : Int) ≤ k := by rw [sq_cast]; omega
        go_wp2
        go_round
        case rel => exact ⟨a, x, hx1, by omega, rfl, by rw [hxe], Lib.hid ⟨HK.out.1, by omega⟩⟩
        case measure => simp [intOf] <;> omega
    · have g1 : ¬ (1 : Int) < (b : Int) - a := by omega
      have HE := Lib.hid (HR.out a HK.out.1 (by have h := HK.out.2; rw [show b = a + 1 by omega] at h; exact h))
      go_wp2
      go_ret
      exact ⟨by rw [HE.out]; rfl, rfl⟩
theorem bit_count : ∀ N : Fin 256, ∀ j : Fin 10, N.val / 2 ^ j.val = 0 → (j.val = 0 ∨ 0 < N.val / 2 ^ (j.val - 1)) → j.val = Lib.bitLen N.val := by decide +kernel
set_option maxHeartbeats 1000000 in
theorem digits_any (n : Nat) (hn : n < 256) (w : World) : Calls Tryz.prog 108 #[.int .i64 n] w fun e w' => e = .returned (.int .i64 (Lib.bitLen n : Nat)) ∧ w = w' := by
  have HBC := Lib.hid (fun j h1 h2 h3 => bit_count ⟨n, hn⟩ ⟨j, h1⟩ h2 h3)
  go_enter Tryz.func108, Tryz.ntmps108
  go_wp2
  go_loop [0, 3] (fun m c => ∃ j : Nat, j ≤ 8 ∧ c = .int .i64 j ∧ m = .int .i64 ((n / 2 ^ j : Nat) : Int) ∧ Hid (j = 0 ∨ 0 < n / 2 ^ (j - 1))) (fun m _ => (intOf m).toNat)
  case atStart => exact ⟨0, by omega, rfl, by simp, Lib.hid (.inl rfl)⟩
  case round =>
    obtain ⟨j, hj, rfl, rfl, HJ⟩ := hrel
    have HD := Lib.hid (show n / 2 ^ (j + 1) = n / 2 ^ j / 2 by rw [Nat.pow_succ, Nat.div_div_eq_div_mul])
    have h8 : j = 8 → n / 2 ^ j = 0 := fun e => by rw [e]; exact Nat.div_eq_of_lt (by omega)
    have HB2 := Lib.hid (fun h => HBC.out j (by omega) h HJ.out)
    have HP := Lib.hid (show 0 < n / 2 ^ j → (j + 1 = 0 ∨ 0 < n / 2 ^ (j + 1 - 1)) from fun h => .inr h)
    have hm256 : n / 2 ^ j < 256 := Nat.lt_of_le_of_lt (Nat.div_le_self _ _) hn
    generalize n / 2 ^ j = m at *
    by_cases hm : 0 < m
    · have g : (0 : Int) < m := by omega
      have hj8 : j < 8 := by rcases Nat.lt_or_ge j 8 with e | e
                             · exact e
                             · have := h8 (by omega); omega
      clear h8
      go_wp2
      go_round
      case rel => exact ⟨j + 1, by omega, by go_num, by rw [HD.out]; simp, Lib.hid (HP.out hm)⟩
      case measure => simp [intOf] <;> omega
    · obtain rfl : m = 0 := by omega
      have HE := Lib.hid (HB2.out rfl)
      clear h8
      go_wp2
      go_ret
      exact ⟨by rw [← HE.out]; rfl, rfl⟩
end
section
/- Contracts of layer 7's reference: Weight. -/
set_option linter.unusedVariables false
set_option linter.unusedSimpArgs false
open Go.RowKit
theorem dd_cast (d : Nat) (h : 1 ≤ d) : (d : Int) * ((d : Int) - 1) = ((d * (d - 1) : Nat) : Int) := by
  obtain ⟨c, rfl⟩ : ∃ c, d = c + 1 := ⟨d - 1, by omega⟩
  simp
set_option maxHeartbeats 4000000 in
theorem refWeight_any (k d : Nat) (h1 : 1 ≤ k) (h2 : k ≤ 64) (h3 : 1 ≤ d) (h4 : d ≤ 64) (w : World) : Calls Tryz.prog 98 #[.int .i64 k, .int .i64 d] w fun e w' => e = .returned (.int .u64 (wgt k d : Nat)) ∧ w = w' := by
  have hr := root_small ⟨k, by omega⟩ h1
  simp only at hr
  have HR := Lib.hid (refRoot_any k (by omega) w)
  have HD := Lib.hid (digits_any (root k) (by omega) w)
  have HW := Lib.hid (show wgt k d = plainN d k + moreN d (k / root k) (root k) k from rfl)
  have hp := Nat.div_le_self k (root k)
  have hbl := bitLen_le (root k) (by omega)
  have hX : (k : Int) / (root k : Int) = ((k / root k : Nat) : Int) := by simp
  have hMd : moreN d (k / root k) (root k) k = if d < k / root k then 4294967296 * root k / (d * k) else if d = k / root k then 4294967296 * root k * Lib.bitLen (root k) / k else 0 := rfl
  have hPd : plainN d k = if d = 1 then 4294967296 / k else 4294967296 / (d * (d - 1)) := rfl
  generalize Lib.bitLen (root k) = z at *
  generalize k / root k = p at *
  generalize root k = t at *
  generalize moreN d p t k = M at *
  generalize plainN d k = P at *
  obtain ⟨g1, g2⟩ := hr
  have gk : (1 : Int) ≤ k := by omega
  have gt : (1 : Int) ≤ t := by omega
  have dk1 : 1 * 1 ≤ d * k := Nat.mul_le_mul h3 h1
  have dk2 : d * k ≤ 64 * 64 := Nat.mul_le_mul h4 h2
  have q1 : 1 ≤ (d : Int) * (k : Int) := by rw [mul_cast]; omega
  have q2 : (d : Int) * (k : Int) ≤ 4096 := by rw [mul_cast]; omega
  have tz : t * z ≤ 8 * 8 := Nat.mul_le_mul g2 hbl
  have hz3 : 4294967296 * (t : Int) * (z : Int) = ((4294967296 * (t * z) : Nat) : Int) := by rw [Int.mul_assoc, mul_cast]; simp
  have q3 : 0 ≤ 4294967296 * (t : Int) * (z : Int) := by rw [hz3]; omega
  have q4 : 4294967296 * (t : Int) * (z : Int) ≤ 274877906944 := by rw [hz3]; omega
  have HZ3 := Lib.hid hz3
  have HPd := Lib.hid hPd
  have HMd := Lib.hid hMd
  clear hz3 hPd hMd tz dk1 dk2
  by_cases hd1 : d = 1
  · rcases Nat.lt_trichotomy d p with hdp | hdp | hdp
    · have HP := Lib.hid (show P = 4294967296 / k by rw [HPd.out, if_pos hd1])
      have eP : (4294967296 : Int) / (k : Int) = (P : Int) := by rw [HP.out]; simp
      have gP : P ≤ 4294967296 := by rw [HP.out]; exact Nat.div_le_self _ _
      have gd : ¬ (1 : Int) < d := by omega
      have HM := Lib.hid (show M = 4294967296 * t / (d * k) by rw [HMd.out, if_pos hdp])
      have eM : 4294967296 * (t : Int) / ((d : Int) * (k : Int)) = (M : Int) := by rw [HM.out, mul_cast]; simp
      have gM : M ≤ 4294967296 * t := by rw [HM.out]; exact Nat.div_le_self _ _
      have c1 : (d : Int) < p := by omega
      have c2 : ((d : Int) == (p : Int)) = false := beq_eq_false_iff_ne.2 (by omega)
      clear hd1 hdp
      go_enter Tryz.func98, Tryz.ntmps98
      go_wp2_with fail
      refine HR.out.mono ?_
      rintro e w1 ⟨rfl, rfl⟩
      go_wp2_with fail
      go_ret
      exact ⟨by rw [HW.out]; simp, rfl⟩
    · have HP := Lib.hid (show P = 4294967296 / k by rw [HPd.out, if_pos hd1])
      have eP : (4294967296 : Int) / (k : Int) = (P : Int) := by rw [HP.out]; simp
      have gP : P ≤ 4294967296 := by rw [HP.out]; exact Nat.div_le_self _ _
      have gd : ¬ (1 : Int) < d := by omega
      have HM := Lib.hid (show M = 4294967296 * t * z / k by rw [HMd.out, if_neg (by omega), if_pos hdp])
      have eM : 4294967296 * (t : Int) * (z : Int) / (k : Int) = (M : Int) := by rw [HM.out]; simp
      have gM : M ≤ 274877906944 := by have := HZ3.out; have h9 : 4294967296 * t * z / k ≤ 4294967296 * t * z := Nat.div_le_self _ _; rw [HM.out]; rw [Nat.mul_assoc] at h9 ⊢; omega
      have c1 : ¬ (d : Int) < p := by omega
      have c2 : ((d : Int) == (p : Int)) = true := beq_iff_eq.2 (by omega)
      clear hd1 hdp
      go_enter Tryz.func98, Tryz.ntmps98
      go_wp2_with fail
      refine HR.out.mono ?_
      rintro e w1 ⟨rfl, rfl⟩
      go_wp2_with fail
      refine HD.out.mono ?_
      rintro e w1 ⟨rfl, rfl⟩
      go_wp2_with fail
      go_ret
      exact ⟨by rw [HW.out]; simp, rfl⟩
    · have HP := Lib.hid (show P = 4294967296 / k by rw [HPd.out, if_pos hd1])
      have eP : (4294967296 : Int) / (k : Int) = (P : Int) := by rw [HP.out]; simp
      have gP : P ≤ 4294967296 := by rw [HP.out]; exact Nat.div_le_self _ _
      have gd : ¬ (1 : Int) < d := by omega
      have HM := Lib.hid (show M = 0 by rw [HMd.out, if_neg (by omega), if_neg (by omega)])
      have c1 : ¬ (d : Int) < p := by omega
      have c2 : ((d : Int) == (p : Int)) = false := beq_eq_false_iff_ne.2 (by omega)
      clear hd1 hdp
      go_enter Tryz.func98, Tryz.ntmps98
      go_wp2_with fail
      refine HR.out.mono ?_
      rintro e w1 ⟨rfl, rfl⟩
      go_wp2_with fail
      go_ret
      exact ⟨by rw [HW.out, HM.out, Nat.add_zero]; exact congrArg (fun x => Ending.returned (Value.int .u64 x)) eP, rfl⟩
  · rcases Nat.lt_trichotomy d p with hdp | hdp | hdp
    · have HP := Lib.hid (show P = 4294967296 / (d * (d - 1)) by rw [HPd.out, if_neg hd1])
      have u1 : 1 * 1 ≤ d * (d - 1) := Nat.mul_le_mul (by omega) (by omega)
      have u2 : d * (d - 1) ≤ 64 * 63 := Nat.mul_le_mul (by omega) (by omega)
      have v1 : 1 ≤ (d : Int) * ((d : Int) - 1) := by rw [dd_cast d h3]; omega
      have v2 : (d : Int) * ((d : Int) - 1) ≤ 4032 := by rw [dd_cast d h3]; omega
      have eP : (4294967296 : Int) / ((d : Int) * ((d : Int) - 1)) = (P : Int) := by rw [HP.out, dd_cast d h3]; simp
      have gP : P ≤ 4294967296 := by rw [HP.out]; exact Nat.div_le_self _ _
      have gd : (1 : Int) < d := by omega
      clear u1 u2
      have HM := Lib.hid (show M = 4294967296 * t / (d * k) by rw [HMd.out, if_pos hdp])
      have eM : 4294967296 * (t : Int) / ((d : Int) * (k : Int)) = (M : Int) := by rw [HM.out, mul_cast]; simp
      have gM : M ≤ 4294967296 * t := by rw [HM.out]; exact Nat.div_le_self _ _
      have c1 : (d : Int) < p := by omega
      have c2 : ((d : Int) == (p : Int)) = false := beq_eq_false_iff_ne.2 (by omega)
      clear hd1 hdp
      go_enter Tryz.func98, Tryz.ntmps98
      go_wp2_with fail
      refine HR.out.mono ?_
      rintro e w1 ⟨rfl, rfl⟩
      go_wp2_with fail
      go_ret
      exact ⟨by rw [HW.out]; simp, rfl⟩
    · have HP := Lib.hid (show P = 4294967296 / (d * (d - 1)) by rw [HPd.out, if_neg hd1])
      have u1 : 1 * 1 ≤ d * (d - 1) := Nat.mul_le_mul (by omega) (by omega)
      have u2 : d * (d - 1) ≤ 64 * 63 := Nat.mul_le_mul (by omega) (by omega)
      have v1 : 1 ≤ (d : Int) * ((d : Int) - 1) := by rw [dd_cast d h3]; omega
      have v2 : (d : Int) * ((d : Int) - 1) ≤ 4032 := by rw [dd_cast d h3]; omega
      have eP : (4294967296 : Int) / ((d : Int) * ((d : Int) - 1)) = (P : Int) := by rw [HP.out, dd_cast d h3]; simp
      have gP : P ≤ 4294967296 := by rw [HP.out]; exact Nat.div_le_self _ _
      have gd : (1 : Int) < d := by omega
      clear u1 u2
      have HM := Lib.hid (show M = 4294967296 * t * z / k by rw [HMd.out, if_neg (by omega), if_pos hdp])
      have eM : 4294967296 * (t : Int) * (z : Int) / (k : Int) = (M : Int) := by rw [HM.out]; simp
      have gM : M ≤ 274877906944 := by have := HZ3.out; have h9 : 4294967296 * t * z / k ≤ 4294967296 * t * z := Nat.div_le_self _ _; rw [HM.out]; rw [Nat.mul_assoc] at h9 ⊢; omega
      have c1 : ¬ (d : Int) < p := by omega
      have c2 : ((d : Int) == (p : Int)) = true := beq_iff_eq.2 (by omega)
      clear hd1 hdp
      go_enter Tryz.func98, Tryz.ntmps98
      go_wp2_with fail
      refine HR.out.mono ?_
      rintro e w1 ⟨rfl, rfl⟩
      go_wp2_with fail
      refine HD.out.mono ?_
      rintro e w1 ⟨rfl, rfl⟩
      go_wp2_with fail
      go_ret
      exact ⟨by rw [HW.out]; simp, rfl⟩
    · have HP := Lib.hid (show P = 4294967296 / (d * (d - 1)) by rw [HPd.out, if_neg hd1])
      have u1 : 1 * 1 ≤ d * (d - 1) := Nat.mul_le_mul (by omega) (by omega)
      have u2 : d * (d - 1) ≤ 64 * 63 := Nat.mul_le_mul (by omega) (by omega)
      have v1 : 1 ≤ (d : Int) * ((d : Int) - 1) := by rw [dd_cast d h3]; omega
      have v2 : (d : Int) * ((d : Int) - 1) ≤ 4032 := by rw [dd_cast d h3]; omega
      have eP : (4294967296 : Int) / ((d : Int) * ((d : Int) - 1)) = (P : Int) := by rw [HP.out, dd_cast d h3]; simp
      have gP : P ≤ 4294967296 := by rw [HP.out]; exact Nat.div_le_self _ _
      have gd : (1 : Int) < d := by omega
      clear u1 u2
      have HM := Lib.hid (show M = 0 by rw [HMd.out, if_neg (by omega), if_neg (by omega)])
      have c1 : ¬ (d : Int) < p := by omega
      have c2 : ((d : Int) == (p : Int)) = false := beq_eq_false_iff_ne.2 (by omega)
      clear hd1 hdp
      go_enter Tryz.func98, Tryz.ntmps98
      go_wp2_with fail
      refine HR.out.mono ?_
      rintro e w1 ⟨rfl, rfl⟩
      go_wp2_with fail
      go_ret
      exact ⟨by rw [HW.out, HM.out, Nat.add_zero]; exact congrArg (fun x => Ending.returned (Value.int .u64 x)) eP, rfl⟩
end
section
/- Contracts of layer 7's reference: Weights, Table. -/
set_option linter.unusedVariables false
set_option linter.unusedSimpArgs false
open Go.RowKit
/-- A slice of words is returned. -/
def WordsRet (zs : List Nat) (w : World) (e : Ending) (w' : World) : Prop := ∃ v, e = .returned v ∧ w'.ownsRow w.heap.size 44 1 v zs.length (zs.map u64V) ∧ Below w.heap.size w w'
set_option maxHeartbeats 2000000 in
theorem refWeights_any (k : Nat) (h1 : 1 ≤ k) (h2 : k ≤ 64) (w : World) : Calls Tryz.prog 80 #[.int .i64 k] w (WordsRet (wgts k k) w) := by
  obtain ⟨i0, hi, hz0, hz1, hz2⟩ := info_parts u64_infoW
  have HI := Lib.hid hi
  have HZ0 := Lib.hid hz0
  have HZ1 := Lib.hid hz1
  have HZ2 := Lib.hid hz2
  clear hi hz0 hz1 hz2
  go_enter Tryz.func80, Tryz.ntmps80
  go_wp2
  have HOw := Lib.hid (own_empty w w.heap.size 44 (Nat.le_refl _))
  have HW := Lib.hid ((Below.refl w.heap.size w).alloc (Nat.le_refl _) (.cells #[] 44))
  go_loopw [3, 4] (fun v t wr => ∃ d : Nat, 1 ≤ d ∧ d ≤ k + 1 ∧ t = .int .i64 d ∧ wr.ownsRow w.heap.size 44 1 v (d - 1) ((wgts k (d - 1)).map u64V) ∧ Below w.heap.size w wr)
    (fun _ t _ => k + 1 - (intOf t).toNat)
  case atStart => exact ⟨1, by omega, by omega, rfl, HOw.out, HW.out⟩
  case round =>
    obtain ⟨d, hd1, hd, rfl, hown, hbel⟩ := hrel
    have HO := Lib.hid hown
    have HB := Lib.hid hbel
    clear hown hbel HW HOw
    by_cases hlt : d ≤ k
    · have hlt' : (d : Int) ≤ (k : Int) := by omega
      have hi' := HI.out
      have hz0' := HZ0.out
      have hz1' := HZ1.out
      have hz2' := HZ2.out
      have HS := Lib.hid (show wgts k (d + 1 - 1) = wgts k (d - 1) ++ [wgt k d] by
        obtain ⟨c, rfl⟩ : ∃ c, d = c + 1 := ⟨d - 1, by omega⟩
        exact wgts_succ k c)
      have HWT := Lib.hid (refWeight_any k d h1 h2 hd1 (by omega))
      generalize wgt k d = x at *
      have XO := Lib.hid (HO.out.alloc (.cells #[.int .u64 (x : Int)] 44))
      have XB := Lib.hid (HB.out.alloc HB.out.size (.cells #[.int .u64 (x : Int)] 44))
      have N2 := Lib.hid (fun k hk => (HO.out.lt k hk).1)
      go_wp2_with fail
      refine (HWT.out _).mono ?_
      rintro e w9 ⟨rfl, rfl⟩
      go_wp2_with (at_builtin; refine wpList_append_own _ rfl _ _ 47 rfl w.heap.size 44 i0 (.int .u64 0) 1 8 Tryz.underlying47 hi' hz0' hz1' hz2' rfl (by decide) _ _ _ rfl XO.out ⟨wr.heap.size, 0, none⟩ 1 1 [.int .u64 (x : Int)] rfl rfl (cell_one_new _ _ _) (by simp [Value.oneCell']) (by simp [maxLen]; omega) (by omega) XB.out.size ?_; intro v' w1 hown' hgrow _; have HC := Lib.hid (XB.out.grown hgrow XB.out.size N2.out); have HO2 := Lib.hid hown'; clear hown' hgrow)
      go_roundw
      case rel =>
        refine ⟨d + 1, by omega, by omega, by go_num, ?_, HC.out⟩
        rw [HS.out, List.map_append, show d + 1 - 1 = d - 1 + 1 by omega]
        exact HO2.out
      case measure => simp [intOf] <;> omega
    · have he : d - 1 = k := by omega
      have hlt' : ¬ (d : Int) ≤ (k : Int) := by omega
      rw [he] at HO
      have HL := Lib.hid (wgts_len k k)
      clear he
      go_wp2
      go_ret
      exact ⟨_, rfl, by rw [HL.out]; exact HO.out, HB.out⟩
end
section
/- Contract of layer 7's reference: Same. -/
set_option linter.unusedVariables false
set_option linter.unusedSimpArgs false
open Go.RowKit
end
section
/- Contract of layer 7's reference: Table. -/
set_option linter.unusedVariables false
set_option linter.unusedSimpArgs false
open Go.RowKit
set_option maxHeartbeats 2000000 in
theorem refTable_any (k : Nat) (h1 : 1 ≤ k) (h2 : k ≤ 64) (w : World) : Calls Tryz.prog 62 #[.int .i64 k] w (WordsRet (tbl (wgts k k)) w) := by
  obtain ⟨i0, hi, hz0, hz1, hz2⟩ := info_parts u64_infoW
  have HI := Lib.hid hi
  have HZ0 := Lib.hid hz0
  have HZ1 := Lib.hid hz1
  have HZ2 := Lib.hid hz2
  clear hi hz0 hz1 hz2
  have HWN := Lib.hid (refWeights_any k h1 h2)
  have HWL := Lib.hid (wgts_len k k)
  have HWb := Lib.hid (wgts_lt k h1 h2)
  go_enter Tryz.func62, Tryz.ntmps62
  go_wp2_with fail
  refine (HWN.out _).mono ?_
  rintro e w1 ⟨v1, rfl, ho1, hb⟩
  rw [HWL.out] at ho1
  obtain ⟨A1, c1, rfl, q1, q1', hw1⟩ := own_slice ho1 HWb.out
  have W1 := Lib.hid hw1
  have B1 := Lib.hid (chain ((Below.refl w.heap.size w).alloc (Nat.le_refl _) (.cells #[] 44)) hb)
  clear ho1 hw1 hb HWN
  generalize wgts k k = ws at *
  go_wp2_with fail
  have n1 := B1.out.size
  go_loopw [3, 4, 11] (fun v s c wr => ∃ i : Nat, i ≤ k ∧ c = .int .i64 i ∧ s = .int .u64 (sumN (ws.take i) : Nat) ∧ Hid ((i = 0 ∧ v = .slice (some ⟨w.heap.size, 0, none⟩) 0 0) ∨ (1 ≤ i ∧ wr.ownsRow w1.heap.size 44 1 v i ((tbl (ws.take i)).map u64V))) ∧ Below w1.heap.size w1 wr) (fun _ _ c _ => k - (intOf c).toNat)
  case atStart => exact ⟨0, by omega, rfl, rfl, Lib.hid (.inl ⟨rfl, rfl⟩), Below.refl _ _⟩
  case round =>
    obtain ⟨i, hi, rfl, rfl, HV, hbel⟩ := hrel
    have HB := Lib.hid hbel
    clear hbel
    by_cases hlt : i < k
    · have hlt' : (i : Int) < k := by omega
      obtain ⟨b, off, rfl, hb, hc⟩ := W1.out.2.2 (by omega)
      have cA := (HB.out.cell (p := ⟨b, off + i, none⟩) hb).trans (hc i hlt)
      clear hc
      have hsu := sumN_take ws i (by rw [HWL.out]; exact hlt)
      have hwn := wrap_nat (sumN (ws.take i)) (ws.getD i 0)
      rw [← hsu] at hwn
      have HT := Lib.hid (show tbl (ws.take (i + 1)) = tbl (ws.take i) ++ [sumN (ws.take (i + 1))] by
        rw [List.take_succ_eq_append_getElem (by rw [HWL.out]; exact hlt)]; exact tbl_snoc _ _)
      have HT0 := Lib.hid (show i = 0 → tbl (ws.take i) = [] from fun e => by rw [e]; rfl)
      clear hsu
      generalize hs' : sumN (ws.take (i + 1)) = y at *
      have HY := Lib.hid hs'
      clear hs'
      generalize sumN (ws.take i) = s0 at *
      generalize ws.getD i 0 = x at *
      have hi' := HI.out
      have hz0' := HZ0.out
      have hz1' := HZ1.out
      have hz2' := HZ2.out
      have XB := Lib.hid (HB.out.alloc HB.out.size (.cells #[.int .u64 (y : Int)] 44))
      rcases HV.out with ⟨h0, hv⟩ | ⟨h1i, hrow⟩
      · subst hv
        have H0 := Lib.hid h0
        clear h0
        go_wp2_with (at_builtin; refine wpList_append_grows _ rfl _ _ 47 rfl 44 i0 (.int .u64 0) 1 8 Tryz.underlying47 hi' hz0' hz1' hz2' rfl (by decide) (some ⟨w.heap.size, 0, none⟩) 0 0 [] rfl (fun h => by cases h) rfl (fun _ _ j u hu => by simp at hu) ⟨wr.heap.size, 0, none⟩ 1 1 [.int .u64 (y : Int)] rfl rfl (cell_one_new _ _ _) (by simp [Value.oneCell']) (by omega) (by simp [maxLen]) (by omega) ?_; intro v' w2 hown' hgrow; have HC := Lib.hid (XB.out.grown hgrow XB.out.size (fun k hk => by cases hk)); have HO2 := Lib.hid (own_low hown' XB.out.size); clear hown' hgrow)
        go_roundw
        case rel =>
          refine ⟨i + 1, by omega, by go_num, by rw [HY.out], Lib.hid (.inr ⟨by omega, ?_⟩), HC.out⟩
          rw [HT.out, HT0.out H0.out, H0.out]
          exact HO2.out
        case measure => simp [intOf] <;> omega
      · have HO := Lib.hid hrow
        clear hrow
        have XO := Lib.hid (HO.out.alloc (.cells #[.int .u64 (y : Int)] 44))
        have N2 := Lib.hid (fun k hk => (HO.out.lt k hk).1)
        obtain ⟨A', c', rfl, _⟩ := own_form HO.out
        go_wp2_with (at_builtin; refine wpList_append_own _ rfl _ _ 47 rfl w1.heap.size 44 i0 (.int .u64 0) 1 8 Tryz.underlying47 hi' hz0' hz1' hz2' rfl (by decide) _ _ _ rfl XO.out ⟨wr.heap.size, 0, none⟩ 1 1 [.int .u64 (y : Int)] rfl rfl (cell_one_new _ _ _) (by simp [Value.oneCell']) (by simp [maxLen]; omega) (by omega) XB.out.size ?_; intro v' w2 hown' hgrow _; have HC := Lib.hid (XB.out.grown hgrow XB.out.size N2.out); have HO2 := Lib.hid hown'; clear hown' hgrow)
        go_roundw
        case rel =>
          refine ⟨i + 1, by omega, by go_num, by rw [HY.out], Lib.hid (.inr ⟨by omega, ?_⟩), HC.out⟩
          rw [HT.out, List.map_append]
          exact HO2.out
        case measure => simp [intOf] <;> omega
    · have he : i = k := by omega
      have HROW := Lib.hid (HV.out.resolve_left (by omega))
      rw [he, List.take_of_length_le (by rw [HWL.out]; omega)] at HROW
      have hlt' : ¬ (i : Int) < k := by omega
      have HL := Lib.hid ((tbl_len ws).trans HWL.out)
      clear he
      obtain ⟨A', c', rfl, _⟩ := own_form HROW.out.2
      go_wp2
      go_ret
      exact ⟨_, rfl, by rw [HL.out]; exact own_low HROW.out.2 n1, chain B1.out HB.out⟩
end
section
/- Contracts of layer 7's reference: Right, Pick. -/
set_option linter.unusedVariables false
set_option linter.unusedSimpArgs false
open Go.RowKit
theorem tab_rises (ws : List Nat) : tabB ws = (risesFrom 0 ws && (decide (1 ≤ ws.length) && decide (ws.length ≤ 64))) := by
  unfold tabB; rw [Bool.and_comm]
set_option maxHeartbeats 1000000 in
theorem refPick_any (A : Option Addr) (l c : Nat) (ws : List Nat) (n : Nat) (w : World) (hw : Words w A l ws) (hl : l ≤ maxLen) (hlc : l ≤ c) (hn : n < 18446744073709551616) (ht : tabB ws = true) :
    Calls Tryz.prog 61 #[.slice A l c, .int .u64 n] w fun e w' => e = .returned (.int .i64 (pickD ws n : Nat)) ∧ ∃ q, w' = w.drewN q := by
  unfold maxLen at hl
  obtain ⟨h1, h64, hr⟩ := tab_at ht
  have hp := last_pos ht
  have hlen := hw.1
  rw [hlen] at h1 h64 hp
  obtain ⟨b, off, rfl, hb, hc⟩ := hw.2.2 h1
  have c1 := hc (l - 1) (by omega)
  have HPD := Lib.hid (show pickD ws n = pickN ws (n % ws.getD (l - 1) 0) + 1 by rw [pickD, hlen])
  have HM := Lib.hid (rises_mono ws hr)
  have HC := Lib.hid hc
  have HL := Lib.hid hlen
  have HLT := Lib.hid (Nat.mod_lt n hp)
  clear hw hc hlen ht hr
  have g1 : (1 : Int) ≤ l := by omega
  have g2 : (l : Int) ≤ 64 := by omega
  have g3 : ((l : Int) - 1).toNat = l - 1 := by omega
  generalize hX : ws.getD (l - 1) 0 = x at *
  have HX := Lib.hid hX
  clear hX
  have g4 : (0 : Int) < x := by omega
  have g5 : (x : Int) ≠ 0 := by omega
  go_enter Tryz.func61, Tryz.ntmps61
  go_wp2_with fail
  go_loop [17] (fun i => ∃ k : Nat, k ≤ l ∧ i = .int .i64 k ∧ Hid (∀ i, i < k → ws.getD i 0 ≤ n % x)) (fun i => l - (intOf i).toNat)
  case atStart => exact ⟨0, by omega, rfl, Lib.hid (fun i hi => by omega)⟩
  case round =>
    obtain ⟨k, hk, rfl, HN⟩ := hrel
    by_cases hlt : k < l
    · have hkl' : (k : Int) < (l : Int) := by omega
      have c2 := HC.out k hlt
      by_cases hx : n % x < ws.getD k 0
      · have HE := Lib.hid (pickN_of ws (n % x) k HN.out (fun i h1 h2 => by have := HM.out k i h1 h2; omega) (by rw [HL.out]; omega))
        have t : (n : Int) % (x : Int) < (ws.getD k 0 : Nat) := by omega
        generalize ws.getD k 0 = y at *
        go_wp2
        go_ret
        exact ⟨by rw [HPD.out, HE.out]; rfl, 0, rfl⟩
      · have HE := Lib.hid (show ∀ i, i < k + 1 → ws.getD i 0 ≤ n % x from fun i hi => by
          by_cases e : i = k
          · rw [e]; omega
          · exact HN.out i (by omega))
        have t : ¬ (n : Int) % (x : Int) < (ws.getD k 0 : Nat) := by omega
        generalize ws.getD k 0 = y at *
        go_wp2
        go_round
        case rel => exact ⟨k + 1, by omega, by go_num, HE⟩
        case measure => simp [intOf] <;> omega
    · exfalso
      have := HN.out (l - 1) (by omega)
      have := HLT.out
      have := HX.out
      omega
end
section
/- Contracts of the reference's words, Bit and Right. -/
set_option linter.unusedVariables false
set_option linter.unusedSimpArgs false
open Go.RowKit
theorem refWords_any (n : Nat) (h : n ≤ 1000000) (w : World) : Calls Tryz.prog 79 #[.int .i64 n] w fun e w' => e = .returned (.int .i64 (nw n)) ∧ w = w' := by
  go_enter Tryz.func79, Tryz.ntmps79
  go_wp2
  go_ret
  exact ⟨congrArg (fun z => Ending.returned (.int .i64 z)) (by unfold nw; omega), rfl⟩
def bitAt (us : List Nat) (i : Nat) : Nat := us.getD (i / 64) 0 / 2 ^ (i % 64) % 2
theorem bit_any (n : Int) (A : Option Addr) (l c i : Nat) (us : List Nat) (w : World) (hu : Words w A l us) (hi : i < 64 * l) (hl : l ≤ 1000000) :
    Calls Tryz.prog 64 #[.agg #[.int .i64 n, .slice A l c], .int .i64 i] w fun e w' => e = .returned (.int .i64 (bitAt us i : Nat)) ∧ Below w.heap.size w w' := by
  obtain ⟨b, o, rfl, hlt, hc⟩ := hu.2.2 (by omega)
  have c1 := hc (i / 64) (by omega)
  have hx := hu.2.1 (i / 64)
  have HV : Hid ((((us.getD (i / 64) 0 : Nat) : Int) / 2 ^ (i % 64)) % 2 = ((bitAt us i : Nat) : Int)) := by
    show _ = _
    unfold bitAt
    have e : ((us.getD (i / 64) 0 : Nat) : Int) / 2 ^ (i % 64) = ((us.getD (i / 64) 0 / 2 ^ (i % 64) : Nat) : Int) := by simp [Int.natCast_ediv]
    rw [e]; omega
  generalize us.getD (i / 64) 0 = x at *
  have hle : (x : Int) / 2 ^ (i % 64) ≤ x := by
    have e : (x : Int) / 2 ^ (i % 64) = ((x / 2 ^ (i % 64) : Nat) : Int) := by simp [Int.natCast_ediv]
    rw [e]
    have := Nat.div_le_self x (2 ^ (i % 64))
    omega
  have hge : 0 ≤ (x : Int) / 2 ^ (i % 64) := by
    have e : (x : Int) / 2 ^ (i % 64) = ((x / 2 ^ (i % 64) : Nat) : Int) := by simp [Int.natCast_ediv]
    rw [e]; exact Int.natCast_nonneg _
  clear hc hu
  go_enter Tryz.func64, Tryz.ntmps64
  go_wp2
  go_ret
  exact ⟨congrArg (fun z => Ending.returned (.int .i64 z)) HV.out, (Below.refl _ _).alloc (Nat.le_refl _) _⟩
theorem rightB_core (n l : Nat) (us : List Nat) (h : lmb n = true) (hl : us.length = l) (hn : l = nw n) : rightB n us = (n % 64 == 0 || us.getD (l - 1) 0 / 2 ^ (n % 64) == 0) := by
  unfold rightB
  rw [h, Int.toNat_natCast, hl, hn]
  simp
theorem right_of_bits (n l : Nat) (us : List Nat) (h : lmb n = true) (hl : us.length = l) (hn : l = nw n) (hlt : ∀ j, us.getD j 0 < 18446744073709551616) (hb : ∀ i, n ≤ i → i < 64 * l → bitAt us i = 0) : rightB n us = true := by
  rw [rightB_core n l us h hl hn]
  by_cases h0 : n % 64 = 0
  · simp [h0]
  · have hp : 1 ≤ l := by rw [hn]; unfold nw; omega
    have hd : n / 64 = l - 1 := by rw [hn]; unfold nw; omega
    have : us.getD (l - 1) 0 < 2 ^ (n % 64) := by
      apply Nat.lt_pow_two_of_testBit
      intro i hi
      by_cases hi64 : i < 64
      · have := hb (64 * (l - 1) + i) (by omega) (by omega)
        unfold bitAt at this
        rw [show (64 * (l - 1) + i) / 64 = l - 1 by omega, show (64 * (l - 1) + i) % 64 = i by omega] at this
        rw [Nat.testBit_eq_decide_div_mod_eq, this]
        rfl
      · exact Nat.testBit_lt_two_pow (Nat.lt_of_lt_of_le (hlt (l - 1)) (show 2 ^ 64 ≤ 2 ^ i from Nat.pow_le_pow_right (by omega) (by omega)))
    have e : us.getD (l - 1) 0 / 2 ^ (n % 64) = 0 := Nat.div_eq_of_lt this
    rw [e]; simp
theorem not_right_of_bit (n l i : Nat) (us : List Nat) (h : lmb n = true) (hl : us.length = l) (hn : l = nw n) (h1 : n ≤ i) (h2 : i < 64 * l) (hb : bitAt us i = 1) : rightB n us = false := by
  rw [rightB_core n l us h hl hn]
  have hnw : nw n = (n + 63) / 64 := rfl
  have h0 : ¬ n % 64 = 0 := by omega
  have hd : i / 64 = l - 1 := by omega
  have hr : n % 64 ≤ i % 64 := by omega
  unfold bitAt at hb
  rw [hd] at hb
  have hne : us.getD (l - 1) 0 / 2 ^ (n % 64) ≠ 0 := by
    intro e
    have hp : 0 < 2 ^ (n % 64) := Nat.two_pow_pos _
    have hlt : us.getD (l - 1) 0 < 2 ^ (n % 64) := by
      rcases Nat.div_eq_zero_iff.1 e with h | h
      · omega
      · exact h
    have : us.getD (l - 1) 0 / 2 ^ (i % 64) = 0 := Nat.div_eq_of_lt (Nat.lt_of_lt_of_le hlt (Nat.pow_le_pow_right (by omega) hr))
    rw [this] at hb
    simp at hb
  have e1 : (n % 64 == 0) = false := by simpa using h0
  have e2 : (us.getD (l - 1) 0 / 2 ^ (n % 64) == 0) = false := by rw [beq_eq_false_iff_ne]; exact hne
  rw [e1, e2]; rfl
theorem bitAt_le (us : List Nat) (i : Nat) : bitAt us i = 0 ∨ bitAt us i = 1 := by unfold bitAt; omega
end
section
/- Contract of the reference's From: a row of bits. -/
set_option linter.unusedVariables false
set_option linter.unusedSimpArgs false
open Go.RowKit
def accM (b : Nat → Bool) (i : Nat) : Nat → Nat
  | 0 => 0
  | m + 1 => 2 * accM b i m + if b (64 * i + (63 - m)) then 1 else 0
theorem accM_lt (b : Nat → Bool) (i m : Nat) : accM b i m < 2 ^ m := by
  induction m with
  | zero => simp [accM]
  | succ m ih =>
    simp only [accM, Nat.pow_succ]
    split <;> omega
def bitsOf (zs : List Int) (j : Nat) : Bool := decide (j < zs.length) && zs.getD j 0 == 1
def fromL (b : Nat → Bool) (k : Nat) : List Nat := (List.range k).map fun i => accM b i 64
theorem fromL_lt (b : Nat → Bool) (k j : Nat) : (fromL b k).getD j 0 < 18446744073709551616 := by
  unfold fromL
  simp only [List.getD, List.getElem?_map, List.getElem?_range]
  by_cases h : j < k
  · simp [h]
    exact accM_lt b j 64
  · simp [h]
theorem fromL_succ (b : Nat → Bool) (k : Nat) : fromL b (k + 1) = fromL b k ++ [accM b k 64] := by simp [fromL, List.range_succ]
theorem fromL_len (b : Nat → Bool) (k : Nat) : (fromL b k).length = k := by simp [fromL]
theorem u64_info : (Tryz.prog.info? 44).map (fun i => (i.zero, i.size, i.bytes)) = some (some (.int .u64 0), 1, 8) := by kernel_rfl
set_option maxHeartbeats 1000000 in
theorem from_any (A : Option Addr) (l c : Nat) (zs : List Int) (w : World) (hz : Ints w A l zs) (hl : l ≤ 10000) :
    Calls Tryz.prog 59 #[.slice A l c] w (OneRow l (fromL (bitsOf zs) (nw l)) w) := by
  obtain ⟨i0, hi, hz0, hz1, hz2⟩ := info_parts u64_info
  have hnw : nw l ≤ 1000 := by unfold nw; omega
  have Q0 := Lib.hid ((Box.new w 56 #[.int .i64 0, .slice none 0 0]).alloc (.cells #[.int .i64 l, .slice none 0 0] 56))
  have q1 := Box.new (w.alloc (.cells #[.int .i64 0, .slice none 0 0] 56)) 56 #[.int .i64 l, .slice none 0 0]
  simp only [World.size_alloc] at q1
  have Q1 := Lib.hid q1
  have HW := Lib.hid (show Below w.heap.size w ((w.alloc (.cells #[.int .i64 0, .slice none 0 0] 56)).alloc (.cells #[.int .i64 l, .slice none 0 0] 56)) from ((Below.refl _ _).alloc (Nat.le_refl _) _).alloc (by simp) _)
  have HZ := Lib.hid hz
  clear hz q1
  have HI := Lib.hid hi
  have HZ0 := Lib.hid hz0
  have HZ1 := Lib.hid hz1
  have HZ2 := Lib.hid hz2
  clear hi hz0 hz1 hz2
  go_enter Tryz.func59, Tryz.ntmps59
  go_wp2
  go_loopw [4] (fun t wr => ∃ (i : Nat) (v : Value), i ≤ nw l ∧ t = .int .i64 i ∧ Box wr (w.heap.size + 1) 56 #[.int .i64 l, v] ∧ wr.ownsRow w.heap.size 44 1 v i ((fromL (bitsOf zs) i).map fun (x : Nat) => Value.int .u64 (x : Int)) ∧ Box wr w.heap.size 56 #[.int .i64 0, .slice none 0 0] ∧ Below w.heap.size w wr)
    (fun t _ => nw l - (intOf t).toNat)
  case atStart => exact ⟨0, _, by omega, rfl, Q1.out, World.ownsRow_nil _ _ _ _, Q0.out, HW.out⟩
  case round =>
    obtain ⟨i, v, hi, rfl, B1, hown, B0, hbel⟩ := hrel
    have R1 := Lib.hid B1
    have R0 := Lib.hid B0
    have HO := Lib.hid hown
    have HB := Lib.hid hbel
    clear B1 B0 hown hbel Q0 Q1 HW
    by_cases hlt : i < nw l
    · go_wp2_with fail
      refine (refWords_any l (by omega) _).mono ?_
      rintro e w' ⟨rfl, rfl⟩
      go_wp2
      go_loop [6, 5] (fun s x => ∃ k : Nat, k ≤ 64 ∧ s = .int .i64 ((k : Int) - 1) ∧ x = .int .u64 (accM (bitsOf zs) i (64 - k) : Nat)) (fun s _ => (intOf s + 1).toNat)
      case atStart => exact ⟨64, by omega, rfl, rfl⟩
      case round =>
        obtain ⟨k, hk, rfl, rfl⟩ := hrel
        cases k with
        | zero =>
          obtain ⟨A', c', rfl, hA'⟩ := own_form HO.out
          obtain ⟨a0, a1, f0, f1⟩ := R1.out.two
          have hz := R1.out.lt
          have hacc := accM_lt (bitsOf zs) i 64
          generalize hX : accM (bitsOf zs) i (64 - 0) = x at *
          have HX := Lib.hid hX
          clear hX
          have hi' := HI.out
          have hz0' := HZ0.out
          have hz1' := HZ1.out
          have hz2' := HZ2.out
          have hne : (44 : TypeId) ≠ 56 := by decide
          have X1 := Lib.hid (R1.out.alloc (.cells #[.int .u64 (x : Int)] 44))
          have X0 := Lib.hid (R0.out.alloc (.cells #[.int .u64 (x : Int)] 44))
          have XO := Lib.hid (HO.out.alloc (.cells #[.int .u64 (x : Int)] 44))
          have XB := Lib.hid (HB.out.alloc HB.out.size (.cells #[.int .u64 (x : Int)] 44))
          have N1 := Lib.hid (own_ne XO.out X1.out hne)
          have N0 := Lib.hid (own_ne XO.out X0.out hne)
          have hsz : w.heap.size ≤ (wr.alloc (.cells #[.int .u64 (x : Int)] 44)).heap.size := XB.out.size
          have HSZ := Lib.hid hsz
          have N2 := Lib.hid (fun k hk => (HO.out.lt k hk).1)
          clear hsz hne
          go_wp2_with (at_builtin; refine wpList_append_own _ rfl _ _ 47 rfl w.heap.size 44 i0 (.int .u64 0) 1 8 Tryz.underlying47 hi' hz0' hz1' hz2' rfl (by decide) _ _ _ rfl XO.out ⟨wr.heap.size, 0, none⟩ 1 1 [.int .u64 (x : Int)] rfl rfl (cell_one_new _ _ _) (by simp [Value.oneCell']) (by simp [maxLen]; omega) (by omega) HSZ.out ?_; intro v' w1 hown' hgrow _; obtain ⟨A2, c2, rfl, hA2⟩ := own_form hown'; have S1 := Lib.hid (X1.out.grown hgrow N1.out); have S0 := Lib.hid (X0.out.grown hgrow N0.out); have HC := Lib.hid (XB.out.grown hgrow HSZ.out N2.out); have HO2 := Lib.hid hown'; clear hown' hgrow hA2; obtain ⟨e0, e1, g0, g1⟩ := S1.out.two)
          go_roundw
          case rel =>
            refine ⟨i + 1, _, by omega, by go_num, S1.out.put 1 _, ?_, S0.out.far (p := ⟨w.heap.size + 1, 1, none⟩) (by simp) _, HC.out.setCell (p := ⟨w.heap.size + 1, 1, none⟩) (by simp) _⟩
            have h1 := HO2.out
            rw [fromL_succ, List.map_append]
            have h2 : (accM (bitsOf zs) i 64) = x := HX.out
            rw [List.map_cons, List.map_nil, h2]
            exact own_far h1 S1.out (by decide) 1 _
          case measure => simp [intOf] <;> omega
        | succ j =>
          rw [show (((j + 1 : Nat) : Int) - 1) = (j : Int) by omega]
          have hx := accM_lt (bitsOf zs) i (64 - (j + 1))
          have hp : 2 ^ (64 - (j + 1)) ≤ 2 ^ 63 := Nat.pow_le_pow_right (by omega) (by omega)
          have hx2 : accM (bitsOf zs) i (64 - (j + 1)) < 9223372036854775808 := by omega
          have HS : Hid (accM (bitsOf zs) i (64 - j) = 2 * accM (bitsOf zs) i (64 - (j + 1)) + if bitsOf zs (64 * i + j) then 1 else 0) := by
            show _ = _
            rw [show 64 - j = (64 - (j + 1)) + 1 by omega]
            simp only [accM]
            rw [show 63 - (64 - (j + 1)) = j by omega]
          clear hx hp
          generalize accM (bitsOf zs) i (64 - (j + 1)) = x at *
          by_cases hin : 64 * i + j < l
          · obtain ⟨b, o, rfl, hlb, hc⟩ := HZ.out.2.2 (by omega)
            have cz := (HB.out.cell (p := ⟨b, o + (64 * i + j), none⟩) hlb).trans (hc (64 * i + j) hin)
            have hin' : 64 * (i : Int) + j < l := by omega
            obtain ⟨y, ey⟩ : ∃ y, y = zs.getD (64 * i + j) 0 := ⟨_, rfl⟩
            rw [← ey] at cz
            have EY := Lib.hid ey
            clear ey hc
            by_cases hy : y = 1
            · have t1 : (y == 1) = true := by simpa using hy
              clear hy
              have HB1 : Hid (bitsOf zs (64 * i + j) = true) := by
                show bitsOf zs (64 * i + j) = true
                unfold bitsOf
                rw [← EY.out, t1, HZ.out.1]
                simpa using hin
              go_wp2
              go_round
              case rel => exact ⟨j, by omega, rfl, by rw [HS.out, HB1.out]; first | rfl | go_num⟩
              case measure => simp [intOf] <;> omega
            · have t1 : (y == 1) = false := by simpa using hy
              clear hy
              have HB1 : Hid (bitsOf zs (64 * i + j) = false) := by
                show bitsOf zs (64 * i + j) = false
                unfold bitsOf
                rw [← EY.out, t1]; simp
              go_wp2
              go_round
              case rel => exact ⟨j, by omega, rfl, by rw [HS.out, HB1.out]; first | rfl | go_num⟩
              case measure => simp [intOf] <;> omega
          · have hin' : ¬ 64 * (i : Int) + j < l := by omega
            have HB1 : Hid (bitsOf zs (64 * i + j) = false) := by
              show bitsOf zs (64 * i + j) = false
              unfold bitsOf
              rw [HZ.out.1]; simp; omega
            go_wp2
            go_round
            case rel => exact ⟨j, by omega, rfl, by rw [HS.out, HB1.out]; first | rfl | go_num⟩
            case measure => simp [intOf] <;> omega
    · obtain rfl : i = nw l := by omega
      obtain ⟨A', c', rfl, hA'⟩ := own_form HO.out
      obtain ⟨a0, a1, -, -⟩ := R1.out.two
      obtain ⟨b0, b1, f0, f1⟩ := R0.out.two
      go_wp2_with fail
      refine (refWords_any l (by omega) _).mono ?_
      rintro e w' ⟨rfl, rfl⟩
      go_wp2
      refine close_one Tryz.results59 rfl rfl R0.out.put2 Tryz.underlying56 rfl (by kernel_rfl) ⟨_, _, _, rfl, ?_, ?_⟩
      · exact (own_words HO.out (fromL_lt _ _)).put2 R0.out _ _
      · exact (HB.out.setCell (p := ⟨w.heap.size, 0, none⟩) (Nat.le_refl _) _).setCell (p := ⟨w.heap.size, 1, none⟩) (Nat.le_refl _) _
end
section
/- Contracts of bitrow.And's join, and of bitrow.Xor and And. -/
set_option linter.unusedVariables false
set_option linter.unusedSimpArgs false
open Go.RowKit
theorem part_lt_and (us vs : List Nat) (j i : Nat) (hu : ∀ j, us.getD j 0 < 18446744073709551616) (hv : ∀ j, vs.getD j 0 < 18446744073709551616) : (part (· &&& ·) us vs j).getD i 0 < 18446744073709551616 := by
  unfold part
  simp only [List.getD, List.getElem?_append]
  split
  · rw [List.getElem?_take]
    split
    · rw [List.getElem?_zipWith]
      have h1 := hu i
      have h2 := hv i
      simp only [List.getD] at h1 h2
      cases e1 : us[i]? <;> cases e2 : vs[i]? <;> simp [e1, e2] at h1 h2 ⊢
      exact Nat.and_lt_two_pow (n := 64) _ h2
    · simp
  · rw [List.getElem?_replicate]
    split <;> simp
def joinN (n : Int) (us : List Nat) (m : Int) (vs : List Nat) : Int := if rightB n us && rightB m vs && n == m then n else 0
def joinW (g : Nat → Nat → Nat) (n : Int) (us : List Nat) (m : Int) (vs : List Nat) : List Nat := if rightB n us && rightB m vs && n == m then List.zipWith g us vs else []
def joinE (n : Int) (us : List Nat) (m : Int) (vs : List Nat) : Int := if rightB n us && rightB m vs then if n == m then 0 else 2 else 1
theorem joined_x (n m : Int) (A B : Option Addr) (l c k d : Nat) (us vs : List Nat) (w : World) (hu : Words w A l us) (hv : Words w B k vs) :
    Calls Tryz.prog 95 #[.agg #[.int .i64 n, .slice A l c], .agg #[.int .i64 m, .slice B k d], .func (.func 96) #[] #[]] w (RowOut (joinN n us m vs) (joinW (· ^^^ ·) n us m vs) (joinE n us m vs) w) := by
  unfold joinN joinW joinE
  cases h1 : rightB n us with
  | false => exact joined_arg _ n m A B l c k d us vs w hu hv (.inl h1)
  | true =>
    cases h2 : rightB m vs with
    | false => exact joined_arg _ n m A B l c k d us vs w hu hv (.inr h2)
    | true =>
      by_cases h : n = m
      · subst h
        have : (n == n) = true := by simp
        rw [this]
        exact joined_xor n A B l c k d us vs w hu hv h1 h2
      · have : (n == m) = false := by simpa using h
        rw [this]
        exact joined_size _ n m A B l c k d us vs w hu hv h1 h2 h
set_option maxHeartbeats 400000 in
theorem xor_any (n m : Int) (A B : Option Addr) (l c k d : Nat) (us vs : List Nat) (w : World) (hu : Words w A l us) (hv : Words w B k vs) :
    Calls Tryz.prog 75 #[.agg #[.int .i64 n, .slice A l c], .agg #[.int .i64 m, .slice B k d]] w (RowOut (joinN n us m vs) (joinW (· ^^^ ·) n us m vs) (joinE n us m vs) w) := by
  have q2 := Box.new ((w.alloc (.cells #[.int .i64 n, .slice A l c] 56)).alloc (.cells #[.int .i64 m, .slice B k d] 56)) 56 #[.int .i64 0, .slice none 0 0]
  have hW : Below w.heap.size w (((w.alloc (.cells #[.int .i64 n, .slice A l c] 56)).alloc (.cells #[.int .i64 m, .slice B k d] 56)).alloc (.cells #[.int .i64 0, .slice none 0 0] 56)) := (((Below.refl _ _).alloc (Nat.le_refl _) _).alloc (by simp) _).alloc (by simp; omega) _
  simp only [World.size_alloc] at q2
  have Q2 := Lib.hid q2
  have HW := Lib.hid hW
  have HU := Lib.hid (hu.below hW)
  have HV := Lib.hid (hv.below hW)
  clear q2 hW hu hv
  go_enter Tryz.func75, Tryz.ntmps75
  go_wp2_with fail
  refine (joined_x n m A B l c k d us vs _ HU.out HV.out).mono ?_
  rintro e x1 ⟨A1, l1, c1, rfl, hw, hb⟩
  have P2 := Lib.hid (Q2.out.keep hb)
  have HB := Lib.hid (chain HW.out hb)
  have HWo := Lib.hid hw
  clear hb hw
  obtain ⟨r0, r1, r2, r3⟩ := P2.out.two
  go_wp2
  refine close_cell Tryz.results75 rfl rfl rfl P2.out.put2 Tryz.underlying56 rfl (by kernel_rfl) ⟨_, _, _, rfl, ?_, ?_⟩
  · exact HWo.out.put2 P2.out _ _
  · exact (HB.out.setCell (p := ⟨w.heap.size + 1 + 1, 0, none⟩) (by simp; omega) _).setCell (p := ⟨w.heap.size + 1 + 1, 1, none⟩) (by simp; omega) _
end
end Go.Proofs.YtmfhimeffmpgaaaGreat
