/- Contracts of bitrow.New and bitrow.Of. -/
import Derived.Test.YtljooknodnblbaaBitrow2
namespace Go.Proofs.Ytljooknodnblbaa
set_option linter.unusedVariables false
set_option linter.unusedSimpArgs false
open Go.RowKit
/-- A new row of words of the call's own. -/
def NewOut (n : Int) (zs : List Nat) (w : World) (e : Ending) (w' : World) : Prop :=
  ∃ g, e = .returned (.tuple #[.agg #[.int .i64 n, .slice (some ⟨g, 0, none⟩) zs.length zs.length], .int .i64 0]) ∧ Box w' g 55 (numsA zs) ∧ w.heap.size ≤ g ∧ Below w.heap.size w w'
theorem new_no (n : Int) (h : lmb n = false) (w : World) : Calls Try.prog 34 #[.int .i64 n] w (RowOut 0 [] 2 w) := by
  have q := Box.new w 37 #[.int .i64 0, .slice none 0 0]
  have Q := Lib.hid q
  clear q
  go_enter Try.func34, Try.ntmps34
  go_wp2_with fail
  refine (lengthMayBe_any n _).mono ?_
  rintro e w' ⟨rfl, rfl⟩
  go_wp2
  refine close_cell Try.results34 rfl rfl rfl Q.out Try.underlying37 rfl (by kernel_rfl) ⟨_, _, _, rfl, Words.nil _ _, (Below.refl _ _).alloc (Nat.le_refl _) _⟩
theorem new_yes (n : Nat) (h : lmb n = true) (w : World) : Calls Try.prog 34 #[.int .i64 n] w (NewOut n (List.replicate (nw n) 0) w) := by
  have hn := (lmb_iff n).1 h
  have hnw : nw n ≤ 8 := by unfold nw; omega
  have q := Box.new w 37 #[.int .i64 0, .slice none 0 0]
  have Q := Lib.hid q
  clear q
  have hmk := make_any (nw n) (by omega)
  go_enter Try.func34, Try.ntmps34
  go_wp2_with fail
  refine (lengthMayBe_any n _).mono ?_
  rintro e w' ⟨rfl, rfl⟩
  go_wp2_with fail
  refine (wordsFor_any n (by omega) _).mono ?_
  rintro e w' ⟨rfl, rfl⟩
  go_wp2
  have q := (Box.new w 37 #[.int .i64 n, .slice (some ⟨w.heap.size + 1, 0, none⟩) (nw n) (nw n)]).alloc (.cells (numsA (List.replicate (nw n) 0)) 55)
  have q2 := Box.new (w.alloc (.cells #[.int .i64 n, .slice (some ⟨w.heap.size + 1, 0, none⟩) (nw n) (nw n)] 37)) 55 (numsA (List.replicate (nw n) 0))
  simp only [World.size_alloc] at q2
  refine close_cell Try.results34 rfl rfl rfl q Try.underlying37 rfl (by kernel_rfl) ⟨w.heap.size + 1, by rw [List.length_replicate]; rfl, q2, by omega, ((Below.refl _ _).alloc (Nat.le_refl _) _).alloc (by simp) _⟩
def orBit (ws : List Nat) (p : Nat) : List Nat := ws.set (p / 64) (ws.getD (p / 64) 0 ||| 2 ^ (p % 64))
def ofBits (n : Nat) (ps : List Int) : List Nat := ps.foldl (fun ws p => orBit ws p.toNat) (List.replicate (nw n) 0)
def there (n : Int) (ps : List Int) : Bool := ps.all fun p => decide (0 ≤ p) && decide (p < n)
theorem orBit_length (ws : List Nat) (p : Nat) : (orBit ws p).length = ws.length := by simp [orBit]
theorem orBit_lt (ws : List Nat) (p : Nat) (h : ∀ j, ws.getD j 0 < 18446744073709551616) (j : Nat) : (orBit ws p).getD j 0 < 18446744073709551616 := by
  unfold orBit
  simp only [List.getD, List.getElem?_set]
  split
  · split
    · simp only [Option.getD_some]
      have := h (p / 64)
      exact Nat.or_lt_two_pow (n := 64) this (Nat.pow_lt_pow_right (by omega) (by omega))
    · simp
  · exact h j
theorem foldl_bits (ps : List Int) (ws : List Nat) (h : ∀ j, ws.getD j 0 < 18446744073709551616) : (ps.foldl (fun ws p => orBit ws p.toNat) ws).length = ws.length ∧ ∀ j, (ps.foldl (fun ws p => orBit ws p.toNat) ws).getD j 0 < 18446744073709551616 := by
  induction ps generalizing ws with
  | nil => exact ⟨rfl, h⟩
  | cons p ps ih =>
    have := ih (orBit ws p.toNat) (orBit_lt ws _ h)
    rw [orBit_length] at this
    exact this
theorem zeros_lt (n j : Nat) : (List.replicate n 0).getD j 0 < 18446744073709551616 := by
  simp [List.getD, List.getElem?_replicate]
  split <;> simp
theorem ofBits_len (n : Nat) (ps : List Int) : (ofBits n ps).length = nw n := by
  have := (foldl_bits ps (List.replicate (nw n) 0) (zeros_lt _)).1
  rw [List.length_replicate] at this
  exact this
theorem ofBits_lt (n : Nat) (ps : List Int) (j : Nat) : (ofBits n ps).getD j 0 < 18446744073709551616 := (foldl_bits ps _ (zeros_lt _)).2 j
theorem ofBits_snoc (n : Nat) (ps : List Int) (p : Int) : ofBits n (ps ++ [p]) = orBit (ofBits n ps) p.toNat := by simp [ofBits]
theorem take_one {α : Type} (l : List α) (k : Nat) (d : α) (h : k < l.length) : l.take (k + 1) = l.take k ++ [l.getD k d] := by
  rw [List.take_succ_eq_append_getElem h]; simp [List.getD, h]
set_option maxHeartbeats 400000 in
theorem of_no (n : Int) (A : Option Addr) (l c : Nat) (h : lmb n = false) (w : World) : Calls Try.prog 27 #[.int .i64 n, .slice A l c] w (RowOut 0 [] 2 w) := by
  have Q := Lib.hid (Box.new w 37 #[.int .i64 0, .slice none 0 0])
  go_enter Try.func27, Try.ntmps27
  go_wp2_with fail
  refine (new_no n h _).mono ?_
  rintro e x1 ⟨A1, l1, c1, rfl, hw, hb⟩
  have Q := Lib.hid (Q.out.keep hb)
  have HB := Lib.hid (chain ((Below.refl _ _).alloc (Nat.le_refl _) _) hb)
  have hz := Q.out.lt
  clear hb hw
  obtain ⟨r0, r1, r2, r3⟩ := Q.out.two
  go_wp2
  refine close_cell Try.results27 rfl rfl rfl (Q.out.put2.alloc _) Try.underlying37 rfl (by kernel_rfl) ⟨_, _, _, rfl, Words.nil _ _, ?_⟩
  exact (((HB.out.setCell (p := ⟨w.heap.size, 0, none⟩) (Nat.le_refl _) _).setCell (p := ⟨w.heap.size, 1, none⟩) (Nat.le_refl _) _)).alloc (by simp; omega) _
def ofN (n : Int) (ps : List Int) : Int := if lmb n && there n ps then n else 0
def ofW (n : Int) (ps : List Int) : List Nat := if lmb n && there n ps then ofBits n.toNat ps else []
def ofE (n : Int) (ps : List Int) : Int := if lmb n then if there n ps then 0 else 3 else 2
theorem or_val (x r : Nat) (hx : x < 18446744073709551616) (hr : r < 64) : bits BinOp.or IntKind.u64 (x : Int) (IntKind.u64.wrap (2 ^ r)) = ((x ||| 2 ^ r : Nat) : Int) := by
  have hp : 2 ^ r < 2 ^ 64 := Nat.pow_lt_pow_right (by omega) hr
  have e : (2 : Int) ^ r % 18446744073709551616 = ((2 ^ r : Nat) : Int) := by
    have : (2 : Int) ^ r = ((2 ^ r : Nat) : Int) := by simp
    rw [this]
    generalize 2 ^ r = p at *
    omega
  rw [IntKind.wrap_u64, e, u64_or_nat _ _ hx hp]
set_option maxHeartbeats 1000000 in
theorem of_yes (n : Nat) (A : Option Addr) (l c : Nat) (ps : List Int) (h : lmb n = true) (w : World) (hp : Ints w A l ps) (hl : l ≤ 9223372036854775807) : Calls Try.prog 27 #[.int .i64 n, .slice A l c] w (RowOut (ofN n ps) (ofW n ps) (ofE n ps) w) := by
  have Q := Lib.hid (Box.new w 37 #[.int .i64 0, .slice none 0 0])
  have HP := Lib.hid hp
  have HL := Lib.hid h
  have hn := (lmb_iff n).1 h
  have hnw : nw n ≤ 8 := by unfold nw; omega
  clear hp
  go_enter Try.func27, Try.ntmps27
  go_wp2_with fail
  refine (new_yes n h _).mono ?_
  clear h
  rintro e x1 ⟨g, rfl, hg, hgs, hb⟩
  have Q := Lib.hid (Q.out.keep hb)
  have HB := Lib.hid (chain ((Below.refl _ _).alloc (Nat.le_refl _) _) hb)
  have hz := Q.out.lt
  have hg1 := hg.lt
  have HG := Lib.hid hg
  rw [List.length_replicate]
  simp at hgs
  clear hb hg
  go_wp2
  have P0 := Lib.hid (Q.out.alloc (.cells #[.int .i64 n, .slice (some ⟨g, 0, none⟩) (nw n) (nw n)] 37))
  have P1 := Lib.hid (Box.new x1 37 #[.int .i64 n, .slice (some ⟨g, 0, none⟩) (nw n) (nw n)])
  have P2 := Lib.hid (HG.out.alloc (.cells #[.int .i64 n, .slice (some ⟨g, 0, none⟩) (nw n) (nw n)] 37))
  have P3 := Lib.hid (HB.out.alloc HB.out.size (.cells #[.int .i64 n, .slice (some ⟨g, 0, none⟩) (nw n) (nw n)] 37))
  clear Q HB HG
  go_loopw [21] (fun i wr => ∃ j : Nat, j ≤ l ∧ i = .int .i64 j ∧ there n (ps.take j) = true ∧ Box wr g 55 (numsA (ofBits n (ps.take j))) ∧ Box wr w.heap.size 37 #[.int .i64 0, .slice none 0 0] ∧ Box wr x1.heap.size 37 #[.int .i64 n, .slice (some ⟨g, 0, none⟩) (nw n) (nw n)] ∧ Below w.heap.size w wr)
    (fun i _ => l - (intOf i).toNat)
  case atStart => exact ⟨0, by omega, rfl, rfl, P2.out, P0.out, P1.out, P3.out⟩
  case round =>
    obtain ⟨j, hj, rfl, hth, B2, B0, B1, hbel⟩ := hrel
    have R0 := Lib.hid B0
    have R1 := Lib.hid B1
    have R2 := Lib.hid B2
    have HB := Lib.hid hbel
    have HT := Lib.hid hth
    clear B0 B1 B2 hbel hth P0 P1 P2 P3
    obtain ⟨a0, a1, f0, f1⟩ := R0.out.two
    obtain ⟨b0, b1, -, -⟩ := R1.out.two
    by_cases hlt : j < l
    · obtain ⟨q, o, rfl, lt1, hc1⟩ := HP.out.2.2 (by omega)
      have cu := (HB.out.cell (p := ⟨q, o + j, none⟩) lt1).trans (hc1 j hlt)
      obtain ⟨x, ex⟩ : ∃ x, x = ps.getD j 0 := ⟨_, rfl⟩
      rw [← ex] at cu
      have EX := Lib.hid ex
      clear ex hc1
      go_wp2_with fail
      refine (isPlace_any _ _ _ _ x _).mono ?_
      rintro e w2 ⟨rfl, hb⟩
      have S0 := Lib.hid (R0.out.keep hb)
      have S1 := Lib.hid (R1.out.keep hb)
      have S2 := Lib.hid (R2.out.keep hb)
      have HC := Lib.hid (chain HB.out hb)
      clear hb a0 a1 f0 f1 b0 b1 cu
      obtain ⟨a0, a1, f0, f1⟩ := S0.out.two
      obtain ⟨b0, b1, -, -⟩ := S1.out.two
      have htk : ps.take (j + 1) = ps.take j ++ [x] := by rw [EX.out]; exact take_one ps j 0 (by rw [HP.out.1]; exact hlt)
      have HTk := Lib.hid htk
      clear htk
      by_cases hx : 0 ≤ x ∧ x < n
      · obtain ⟨y, rfl⟩ := Int.eq_ofNat_of_zero_le hx.1
        have t0 : (decide (0 ≤ (y : Int)) && decide ((y : Int) < n)) = true := by simp; omega
        rw [t0]
        clear t0
        have hlen : (ofBits n (ps.take j)).length = nw n := ofBits_len n _
        have hy8 : y / 64 < nw n := by unfold nw; omega
        have hv := ofBits_lt n (ps.take j) (y / 64)
        have cg : w2.cell? ⟨g, y / 64, none⟩ = some (.int .u64 ((ofBits n (ps.take j)).getD (y / 64) 0 : Nat)) := by rw [S2.out.cell, numsA_get _ _ (by omega)]
        have fg := S2.out.free (y / 64)
        have P2 := Lib.hid ((S2.out.put (y / 64) (.int .u64 (((ofBits n (ps.take j)).getD (y / 64) 0 ||| 2 ^ (y % 64) : Nat) : Int))).drew)
        have HV := Lib.hid (or_val ((ofBits n (ps.take j)).getD (y / 64) 0) (y % 64) hv (by omega))
        have n1 : w.heap.size ≠ g := by omega
        have n2 : x1.heap.size ≠ g := by omega
        have P0 := Lib.hid ((S0.out.far (p := ⟨g, y / 64, none⟩) n1 (.int .u64 (((ofBits n (ps.take j)).getD (y / 64) 0 ||| 2 ^ (y % 64) : Nat) : Int))).drew)
        have P1 := Lib.hid ((S1.out.far (p := ⟨g, y / 64, none⟩) n2 (.int .u64 (((ofBits n (ps.take j)).getD (y / 64) 0 ||| 2 ^ (y % 64) : Nat) : Int))).drew)
        have P3 := Lib.hid ((HC.out.setCell (p := ⟨g, y / 64, none⟩) (by simp; omega) (.int .u64 (((ofBits n (ps.take j)).getD (y / 64) 0 ||| 2 ^ (y % 64) : Nat) : Int))).drew)
        have H4 : Hid (there n (ps.take (j + 1)) = true) := by
          show there n (ps.take (j + 1)) = true
          rw [HTk.out]
          have := HT.out
          simp only [there, List.all_append, Bool.and_eq_true] at this ⊢
          exact ⟨this, by simp; omega⟩
        have H5 : Hid ((numsA (ofBits n (ps.take j))).setIfInBounds (y / 64) (.int .u64 (((ofBits n (ps.take j)).getD (y / 64) 0 ||| 2 ^ (y % 64) : Nat) : Int)) = numsA (ofBits n (ps.take (j + 1)))) := by
          show _ = _
          rw [numsA_set, HTk.out, ofBits_snoc]; rfl
        generalize (ofBits n (ps.take j)).getD (y / 64) 0 = v at *
        go_wp2
        have g1 : (y : Int).tdiv 64 = ((y / 64 : Nat) : Int) := by rw [Int.tdiv_eq_ediv_of_nonneg (by omega)]; omega
        have g2 : (y : Int).tmod 64 = ((y % 64 : Nat) : Int) := by rw [Int.tmod_eq_emod_of_nonneg (by omega)]; omega
        have g3 : IntKind.i64.wrap ((y / 64 : Nat) : Int) = ((y / 64 : Nat) : Int) := IntWalk.i64_in _ (by omega)
        have g4 : (0 : Int) ≤ ((y / 64 : Nat) : Int) := by omega
        have g5 : ((y / 64 : Nat) : Int) < (nw n : Int) := by omega
        go_region
        rw [HV.out]
        clear g1 g2 g3 g4 g5 a0 a1 f0 f1 b0 b1 cg fg
        generalize (w2.setCell ⟨g, y / 64, none⟩ (.int .u64 ((v ||| 2 ^ (y % 64) : Nat) : Int))).drew = wn at *
        go_wp2
        go_roundw
        case rel => exact ⟨j + 1, by omega, by go_num, H4.out, by have := P2.out; rw [H5.out] at this; exact this, P0.out, P1.out, P3.out⟩
        case measure => simp [intOf]; omega
      · have t0 : (decide (0 ≤ x) && decide (x < n)) = false := by simp; omega
        rw [t0]
        clear t0
        have H4 : Hid (there n ps = false) := by
          show there n ps = false
          rw [← List.take_append_drop (j + 1) ps, HTk.out]
          have : (decide (0 ≤ x) && decide (x < n)) = false := by simp; omega
          simp [there, List.all_append, this]
        go_wp2
        refine close_cell Try.results27 rfl rfl rfl S0.out.put2 Try.underlying37 rfl (by kernel_rfl) ?_
        unfold ofN ofW ofE
        rw [HL.out, H4.out]
        exact ⟨_, _, _, rfl, Words.nil _ _, (HC.out.setCell (p := ⟨w.heap.size, 0, none⟩) (Nat.le_refl _) _).setCell (p := ⟨w.heap.size, 1, none⟩) (Nat.le_refl _) _⟩
    · obtain rfl : j = l := by omega
      have H4 : Hid (ps.take j = ps) := by
        show ps.take j = ps
        exact List.take_of_length_le (by rw [HP.out.1]; omega)
      go_wp2
      refine close_cell Try.results27 rfl rfl rfl R0.out.put2 Try.underlying37 rfl (by kernel_rfl) ?_
      have h5 := HT.out
      have h6 := R2.out
      rw [H4.out] at h5 h6
      unfold ofN ofW ofE
      rw [HL.out, h5]
      have n1 : g ≠ w.heap.size := by omega
      have hw := ((h6.far (p := ⟨w.heap.size, 0, none⟩) n1 (.int .i64 n)).far (p := ⟨w.heap.size, 1, none⟩) n1 (.slice (some ⟨g, 0, none⟩) (nw n) (nw n))).words (ofBits_lt n ps)
      rw [ofBits_len] at hw
      exact ⟨_, _, _, rfl, hw, (HB.out.setCell (p := ⟨w.heap.size, 0, none⟩) (Nat.le_refl _) _).setCell (p := ⟨w.heap.size, 1, none⟩) (Nat.le_refl _) _⟩
theorem of_any (n : Int) (A : Option Addr) (l c : Nat) (ps : List Int) (w : World) (hp : Ints w A l ps) (hl : l ≤ 9223372036854775807) : Calls Try.prog 27 #[.int .i64 n, .slice A l c] w (RowOut (ofN n ps) (ofW n ps) (ofE n ps) w) := by
  cases h : lmb n with
  | false =>
    unfold ofN ofW ofE
    rw [h]
    exact of_no n A l c h w
  | true =>
    obtain ⟨m, rfl⟩ := Int.eq_ofNat_of_zero_le ((lmb_iff n).1 h).1
    exact of_yes m A l c ps h w hp hl
end Go.Proofs.Ytljooknodnblbaa
