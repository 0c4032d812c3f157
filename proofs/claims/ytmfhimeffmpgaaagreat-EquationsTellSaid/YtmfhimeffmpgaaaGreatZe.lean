/- Parts: Nb1, OwnR, Nb3, Nb5, RefD1, RefD2, RefD3, RefD4, RefD5, Deg3, Ref1, From, Bitrow3, Order1, RefXor. -/
import Derived.Test.YtmfhimeffmpgaaaGreatZd
import Derived.ArgAppend
import Derived.Deep.AppendLies
import Derived.Deep.RegionHeld3
import Derived.Deep.RegionLaw
import Derived.Deep.RegionWith
import Derived.Maps.AppendAt
namespace Go.Proofs.YtmfhimeffmpgaaaGreat
section
/- Contracts of layer 8: Places, Row. -/
set_option linter.unusedVariables false
set_option linter.unusedSimpArgs false
open Go.RowKit
/-- A symbol's state, how many blocks it has, and which. -/
def nbState (id : Nat) : Nat := nextS (mixN id)
def nbMany (k id : Nat) : Nat := pickD (tbl (wgts k k)) (mixN (nbState id))
def nbL (k id : Nat) : List Nat := someN k (nbMany k id) (nbState id)
theorem nbState_lt (id : Nat) : nbState id < 18446744073709551616 := nextS_lt _
theorem nbMany_range (k id : Nat) (h1 : 1 ≤ k) (h2 : k ≤ 64) : 1 ≤ nbMany k id ∧ nbMany k id ≤ k := by
  have := pick_range (tab_k k h1 h2) (mixN (nbState id))
  rw [tbl_len, wgts_len] at this
  exact this
theorem srcMay_any (k : Int) (w : World) : Calls Tryz.prog 37 #[.int .i64 k] w fun e w' => e = .returned (.bool (kmb k)) ∧ w = w' := by
  by_cases h : 1 ≤ k
  · by_cases h2 : k ≤ 64
    · rw [kmb_yes ⟨h, h2⟩]
      go_enter Tryz.func37, Tryz.ntmps37
      go_wp2
      go_ret
      exact ⟨rfl, rfl⟩
    · rw [kmb_no (fun x => h2 x.2)]
      have t : decide (k ≤ 64) = false := by simpa using h2
      go_enter Tryz.func37, Tryz.ntmps37
      go_wp2
      go_ret
      exact ⟨by simp, rfl⟩
  · rw [kmb_no (fun x => h x.1)]
    have t : decide (1 ≤ k) = false := by simpa using h
    go_enter Tryz.func37, Tryz.ntmps37
    go_wp2
    go_ret
    exact ⟨by simp, rfl⟩
/-- What places hands back. -/
def PlOut (k id : Nat) (w : World) (e : Ending) (w' : World) : Prop :=
  ∃ g c, e = .returned (.slice (some ⟨g, 0, none⟩) (nbMany k id) c) ∧ nbMany k id ≤ c ∧ NatsAt w' g (nbL k id) ∧ (nbL k id).length = nbMany k id ∧ w.heap.size ≤ g ∧ g < w'.heap.size ∧ Below w.heap.size w w'
set_option maxHeartbeats 1000000 in
theorem srcPlaces_any (k id : Nat) (h1 : 1 ≤ k) (h2 : k ≤ 64) (hi : id < 18446744073709551616) (w : World) : Calls Tryz.prog 51 #[.int .i64 k, .int .u64 id] w (PlOut k id w) := by
  have HST := Lib.hid (start_any id hi)
  have HNX := Lib.hid (next_any (mixN id) (mixN_lt id))
  have HTB := Lib.hid (tableN_any k h1 h2)
  have HR := Lib.hid (nbMany_range k id h1 h2)
  have HTK := Lib.hid (tab_k k h1 h2)
  have HTL := Lib.hid (show (tbl (wgts k k)).length = k by rw [tbl_len, wgts_len])
  have HTW := Lib.hid (tbl_lt (wgts k k))
  have HSM := Lib.hid (some_yes (nbState id) k (nbMany k id) (nbState_lt id) h1 (by omega) HR.out.2)
  have HX := Lib.hid (mixN_lt (nbState id))
  have HPK := Lib.hid (show nbMany k id = pickD (tbl (wgts k k)) (mixN (nbState id)) from rfl)
  go_enter Tryz.func51, Tryz.ntmps51
  go_wp2_with fail
  refine (HST.out _).mono ?_
  rintro e w1 ⟨rfl, rfl⟩
  go_wp2_with fail
  refine (HNX.out _).mono ?_
  rintro e w1 ⟨rfl, rfl⟩
  go_wp2_with fail
  refine (HTB.out _).mono ?_
  rintro e w1 ⟨v, rfl, hown, hb⟩
  rw [HTL.out] at hown
  obtain ⟨A, c, rfl, hlc, hcm, hw⟩ := own_slice hown HTW.out
  have HW := Lib.hid hw
  have B := Lib.hid hb
  clear hown hw hb HST HNX HTB
  go_wp2_with fail
  refine (pick_yes A k c _ _ _ HW.out (by unfold maxLen; omega) hlc HX.out HTK.out).mono ?_
  rintro e w2 ⟨rfl, hb⟩
  rw [← HPK.out]
  have B := Lib.hid (chain B.out hb)
  clear hb HW
  go_wp2_with fail
  refine (HSM.out _).mono ?_
  rintro e w3 ⟨g, c2, rfl, hc, hna, hl, hg0, hg1, hb⟩
  have B3 := Lib.hid (chain B.out hb)
  have hsz := B.out.size
  go_wp2_with fail
  go_ret
  exact ⟨g, c2, rfl, hc, hna, hl, by omega, hg1, B3.out⟩
/-- The row of a symbol's blocks. -/
def nbZ (k id : Nat) : List Int := castZ (nbL k id)
def nbRow (k id : Nat) : List Nat := ofBits k (nbZ k id)
theorem nb_there (k id : Nat) : there (k : Int) (nbZ k id) = true := by
  simp only [there, nbZ, castZ, List.all_eq_true, List.mem_map]
  rintro x ⟨y, hy, rfl⟩
  have := List.mem_filter.1 hy
  have h2 : y < k := by simpa using this.1
  simp; omega
theorem nb_len (k id : Nat) (h1 : 1 ≤ k) (h2 : k ≤ 64) : (nbL k id).length = nbMany k id := some_len k (nbMany k id) (nbState id) h1 (nbState_lt id) (nbMany_range k id h1 h2).2
theorem nb_ofN (k id : Nat) (h1 : 1 ≤ k) (h2 : k ≤ 64) : ofN (k : Int) (nbZ k id) = k ∧ ofW (k : Int) (nbZ k id) = nbRow k id ∧ ofE (k : Int) (nbZ k id) = 0 := by
  have h : lmb (k : Int) = true := (lmb_iff _).2 ⟨by omega, by omega⟩
  unfold ofN ofW ofE
  rw [h, nb_there]
  exact ⟨rfl, rfl, rfl⟩
theorem lmb_k (k : Nat) (h1 : 1 ≤ k) (h2 : k ≤ 64) : lmb (k : Int) = true := (lmb_iff _).2 ⟨by omega, by omega⟩
set_option maxHeartbeats 1000000 in
theorem srcRow_any (k id : Nat) (h1 : 1 ≤ k) (h2 : k ≤ 64) (hi : id < 18446744073709551616) (w : World) : Calls Tryz.prog 38 #[.int .i64 k, .int .u64 id] w (OneRow k (nbRow k id) w) := by
  have HS := Lib.hid (srcPlaces_any k id h1 h2 hi)
  have HM := Lib.hid (nbMany_range k id h1 h2)
  have HN := Lib.hid (nb_ofN k id h1 h2)
  have q0 := Box.new w 56 #[.int .i64 0, .slice none 0 0]
  have Q0 := Lib.hid q0
  have HW := Lib.hid (show Below w.heap.size w (w.alloc (.cells #[.int .i64 0, .slice none 0 0] 56)) from (Below.refl _ _).alloc (Nat.le_refl _) _)
  clear q0
  go_enter Tryz.func38, Tryz.ntmps38
  go_wp2_with fail
  refine (HS.out _).mono ?_
  rintro e w1 ⟨g, c, rfl, hc, hna, hl, hg0, hg1, hb⟩
  have Q0 := Lib.hid (Q0.out.keep hb)
  have HW := Lib.hid (chain HW.out hb)
  have HI := Lib.hid (nats_ints hna hl hg1 (some_bound k _ _ (by omega)))
  clear hna hb
  go_wp2_with fail
  refine (of_any k (some ⟨g, 0, none⟩) (nbMany k id) c (nbZ k id) _ HI.out (by have := HM.out.2; omega)).mono ?_
  rw [HN.out.1, HN.out.2.1, HN.out.2.2]
  rintro e w2 ⟨A, l, c2, rfl, hw, hb⟩
  have P0 := Lib.hid ((Q0.out.keep hb).alloc (.cells #[.int .i64 k, .slice A l c2] 56))
  have T1 := Lib.hid ((chain HW.out hb).alloc (chain HW.out hb).size (.cells #[.int .i64 k, .slice A l c2] 56))
  have HWo := Lib.hid (hw.alloc (.cells #[.int .i64 k, .slice A l c2] 56))
  clear hw hb
  obtain ⟨r0, r1, r2, r3⟩ := P0.out.two
  go_wp2
  refine close_one Tryz.results38 rfl rfl P0.out.put2 Tryz.underlying56 rfl (by kernel_rfl) ⟨_, _, _, rfl, HWo.out.put2 P0.out _ _, ?_⟩
  exact (T1.out.setCell (p := ⟨w.heap.size, 0, none⟩) (Nat.le_refl _) _).setCell (p := ⟨w.heap.size, 1, none⟩) (Nat.le_refl _) _
end
section
/- Rows of words that are a call's own: bitrow.Of so. -/
set_option linter.unusedVariables false
set_option linter.unusedSimpArgs false
open Go.RowKit
/-- A row of words in a block of words. -/
def OwnW (w : World) (A : Option Addr) (l c : Nat) (zs : List Nat) : Prop := w.ownsRow 0 44 1 (.slice A l c) l (zs.map u64V)
section
variable {w w' : World} {A : Option Addr} {l c : Nat} {zs : List Nat}
theorem OwnW.words (h : OwnW w A l c zs) (hz : ∀ j, zs.getD j 0 < 18446744073709551616) : Words w A l zs := own_words h hz
theorem OwnW.below (h : OwnW w A l c zs) (hb : Below w.heap.size w w') : OwnW w' A l c zs := own_keep h hb
theorem OwnW.alloc (h : OwnW w A l c zs) (o : Obj) : OwnW (w.alloc o) A l c zs := World.ownsRow.alloc h o
theorem OwnW.drew (h : OwnW w A l c zs) : OwnW w.drew A l c zs := h
theorem OwnW.far (h : OwnW w A l c zs) {g : Nat} {t : TypeId} {cs : Array Value} (hb : Box w g t cs) (hne : 44 ≠ t) (i : Nat) (u : Value) : OwnW (w.setCell ⟨g, i, none⟩ u) A l c zs := own_far h hb hne i u
theorem OwnW.put2 (h : OwnW w A l c zs) {g : Nat} {a b : Value} (hb : Box w g 56 #[a, b]) (u v : Value) : OwnW ((w.setCell ⟨g, 0, none⟩ u).setCell ⟨g, 1, none⟩ v) A l c zs :=
  (h.far hb (by decide) 0 u).far (hb.put 0 u) (by decide) 1 v
theorem OwnW.grown {v : Value} {base e size n : Nat} {xs : List Value} (h : OwnW w A l c zs) (ho : w.ownsRow base e size v n xs) (hne : e ≠ 44) (hg : w.grownBy w' v.ownBlock) : OwnW w' A l c zs := by
  refine World.ownsRow.kept h hg ?_
  rcases h.2 with ⟨h0, _⟩ | ⟨g, cap, cur, h0, _, hh, _⟩
  · left; rw [h0]; rfl
  · right
    rw [h0]
    exact fun e => own_ne ho hh hne e.symm
theorem Box.ownW {g n : Nat} (h : Box w g 44 (numsA zs)) (hl : zs.length = n) (hm : n ≤ maxLen) : OwnW w (some ⟨g, 0, none⟩) n n zs := by
  refine ⟨by simp [hl], .inr ⟨g, n, numsA zs, rfl, Nat.zero_le _, h, Nat.le_refl _, hm, by simp [numsA, hl], ?_⟩⟩
  have e1 : (numsA zs).toList = zs.map u64V := rfl
  rw [e1, List.take_of_length_le (by simp [hl])]
end
/-- What Of hands back, where each place is there. -/
def OwnOut (n : Int) (zs : List Nat) (w : World) (e : Ending) (w' : World) : Prop :=
  ∃ A l c, e = .returned (.tuple #[.agg #[.int .i64 n, .slice A l c], .int .i64 0]) ∧ OwnW w' A l c zs ∧ Below w.heap.size w w'
/-- What a function of one row hands back. -/
def OneOwn (n : Int) (zs : List Nat) (w : World) (e : Ending) (w' : World) : Prop :=
  ∃ A l c, e = .returned (.agg #[.int .i64 n, .slice A l c]) ∧ OwnW w' A l c zs ∧ Below w.heap.size w w'
set_option maxHeartbeats 1000000 in
theorem of_own (n : Nat) (A : Option Addr) (l c : Nat) (ps : List Int) (h : lmb n = true) (w : World) (hp : Ints w A l ps) (hl : l ≤ 9223372036854775807) (hth0 : there n ps = true) : Calls Tryz.prog 50 #[.int .i64 n, .slice A l c] w (OwnOut n (ofBits n ps) w) := by
  have Q := Lib.hid (Box.new w 56 #[.int .i64 0, .slice none 0 0])
  have HP := Lib.hid hp
  have HTH := Lib.hid hth0
  clear hth0
  have hn := (lmb_iff n).1 h
  have hnw : nw n ≤ 8 := by unfold nw; omega
  clear hp
  go_enter Tryz.func50, Tryz.ntmps50
  go_wp2_with fail
  refine (new_yes n h _).mono ?_
  clear h
  rintro e x1 ⟨g, rfl, hg, hgs, hb⟩
  have Q := Lib.hid (Q.out.keep hb)
  have HB := Lib.hid (chain ((Below.refl _ _).alloc (Nat.le_refl _) _) hb)
  have hz := Q.out.lt
  have hg1 := hg.lt
  have HG := Lib.hid hg
  rw [List.length_replicate]
  simp at hgs
  clear hb hg
  go_wp2
  have P0 := Lib.hid (Q.out.alloc (.cells #[.int .i64 n, .slice (some ⟨g, 0, none⟩) (nw n) (nw n)] 56))
  have P1 := Lib.hid (Box.new x1 56 #[.int .i64 n, .slice (some ⟨g, 0, none⟩) (nw n) (nw n)])
  have P2 := Lib.hid (HG.out.alloc (.cells #[.int .i64 n, .slice (some ⟨g, 0, none⟩) (nw n) (nw n)] 56))
  have P3 := Lib.hid (HB.out.alloc HB.out.size (.cells #[.int .i64 n, .slice (some ⟨g, 0, none⟩) (nw n) (nw n)] 56))
  clear Q HB HG
  go_loopw [21] (fun i wr => ∃ j : Nat, j ≤ l ∧ i = .int .i64 j ∧ there n (ps.take j) = true ∧ Box wr g 44 (numsA (ofBits n (ps.take j))) ∧ Box wr w.heap.size 56 #[.int .i64 0, .slice none 0 0] ∧ Box wr x1.heap.size 56 #[.int .i64 n, .slice (some ⟨g, 0, none⟩) (nw n) (nw n)] ∧ Below w.heap.size w wr)
    (fun i _ => l - (intOf i).toNat)
  case atStart => exact ⟨0, by omega, rfl, rfl, P2.out, P0.out, P1.out, P3.out⟩
  case round =>
    obtain ⟨j, hj, rfl, hth, B2, B0, B1, hbel⟩ := hrel
    have R0 := Lib.hid B0
    have R1 := Lib.hid B1
    have R2 := Lib.hid B2
    have HB := Lib.hid hbel
    have HT := Lib.hid hth
    clear B0 B1 B2 hbel hth P0 P1 P2 P3
    obtain ⟨a0, a1, f0, f1⟩ := R0.out.two
    obtain ⟨b0, b1, -, -⟩ := R1.out.two
    by_cases hlt : j < l
    · obtain ⟨q, o, rfl, lt1, hc1⟩ := HP.out.2.2 (by omega)
      have cu := (HB.out.cell (p := ⟨q, o + j, none⟩) lt1).trans (hc1 j hlt)
      obtain ⟨x, ex⟩ : ∃ x, x = ps.getD j 0 := ⟨_, rfl⟩
      rw [← ex] at cu
      have EX := Lib.hid ex
      clear ex hc1
      go_wp2_with fail
      refine (isPlace_any _ _ _ _ x _).mono ?_
      rintro e w2 ⟨rfl, hb⟩
      have S0 := Lib.hid (R0.out.keep hb)
      have S1 := Lib.hid (R1.out.keep hb)
      have S2 := Lib.hid (R2.out.keep hb)
      have HC := Lib.hid (chain HB.out hb)
      clear hb a0 a1 f0 f1 b0 b1 cu
      obtain ⟨a0, a1, f0, f1⟩ := S0.out.two
      obtain ⟨b0, b1, -, -⟩ := S1.out.two
      have htk : ps.take (j + 1) = ps.take j ++ [x] := by rw [EX.out]; exact take_one ps j 0 (by rw [HP.out.1]; exact hlt)
      have HTk := Lib.hid htk
      clear htk
      by_cases hx : 0 ≤ x ∧ x < n
      · obtain ⟨y, rfl⟩ := Int.eq_ofNat_of_zero_le hx.1
        have t0 : (decide (0 ≤ (y : Int)) && decide ((y : Int) < n)) = true := by simp; omega
        rw [t0]
        clear t0
        have hlen : (ofBits n (ps.take j)).length = nw n := ofBits_len n _
        have hy8 : y / 64 < nw n := by unfold nw; omega
        have hv := ofBits_lt n (ps.take j) (y / 64)
        have cg : w2.cell? ⟨g, y / 64, none⟩ = some (.int .u64 ((ofBits n (ps.take j)).getD (y / 64) 0 : Nat)) := by rw [S2.out.cell, numsA_get _ _ (by omega)]
        have fg := S2.out.free (y / 64)
        have P2 := Lib.hid ((S2.out.put (y / 64) (.int .u64 (((ofBits n (ps.take j)).getD (y / 64) 0 ||| 2 ^ (y % 64) : Nat) : Int))).drew)
        have HV := Lib.hid (or_val ((ofBits n (ps.take j)).getD (y / 64) 0) (y % 64) hv (by omega))
        have n1 : w.heap.size ≠ g := by omega
        have n2 : x1.heap.size ≠ g := by omega
        have P0 := Lib.hid ((S0.out.far (p := ⟨g, y / 64, none⟩) n1 (.int .u64 (((ofBits n (ps.take j)).getD (y / 64) 0 ||| 2 ^ (y % 64) : Nat) : Int))).drew)
        have P1 := Lib.hid ((S1.out.far (p := ⟨g, y / 64, none⟩) n2 (.int .u64 (((ofBits n (ps.take j)).getD (y / 64) 0 ||| 2 ^ (y % 64) : Nat) : Int))).drew)
        have P3 := Lib.hid ((HC.out.setCell (p := ⟨g, y / 64, none⟩) (by simp; omega) (.int .u64 (((ofBits n (ps.take j)).getD (y / 64) 0 ||| 2 ^ (y % 64) : Nat) : Int))).drew)
        have H4 : Hid (there n (ps.take (j + 1)) = true) := by
          show there n (ps.take (j + 1)) = true
          rw [HTk.out]
          have := HT.out
          simp only [there, List.all_append, Bool.and_eq_true] at this ⊢
          exact ⟨this, by simp; omega⟩
        have H5 : Hid ((numsA (ofBits n (ps.take j))).setIfInBounds (y / 64) (.int .u64 (((ofBits n (ps.take j)).getD (y / 64) 0 ||| 2 ^ (y % 64) : Nat) : Int)) = numsA (ofBits n (ps.take (j + 1)))) := by
          show _ = _
          rw [numsA_set, HTk.out, ofBits_snoc]; rfl
        generalize (ofBits n (ps.take j)).getD (y / 64) 0 = v at *
        go_wp2
        have g1 : (y : Int).tdiv 64 = ((y / 64 : Nat) : Int) := by rw [Int.tdiv_eq_ediv_of_nonneg (by omega)]; omega
        have g2 : (y : Int).tmod 64 = ((y % 64 : Nat) : Int) := by rw [Int.tmod_eq_emod_of_nonneg (by omega)]; omega
        have g3 : IntKind.i64.wrap ((y / 64 : Nat) : Int) = ((y / 64 : Nat) : Int) := IntWalk.i64_in _ (by omega)
        have g4 : (0 : Int) ≤ ((y / 64 : Nat) : Int) := by omega
        have g5 : ((y / 64 : Nat) : Int) < (nw n : Int) := by omega
        go_region
        rw [HV.out]
        clear g1 g2 g3 g4 g5 a0 a1 f0 f1 b0 b1 cg fg
        generalize (w2.setCell ⟨g, y / 64, none⟩ (.int .u64 ((v ||| 2 ^ (y % 64) : Nat) : Int))).drew = wn at *
        go_wp2
        go_roundw
        case rel => exact ⟨j + 1, by omega, by go_num, H4.out, by have := P2.out; rw [H5.out] at this; exact this, P0.out, P1.out, P3.out⟩
        case measure => simp [intOf]; omega
      · have t0 : (decide (0 ≤ x) && decide (x < n)) = false := by simp; omega
        rw [t0]
        clear t0
        have H4 : Hid (there n ps = false) := by
          show there n ps = false
          rw [← List.take_append_drop (j + 1) ps, HTk.out]
          have : (decide (0 ≤ x) && decide (x < n)) = false := by simp; omega
          simp [there, List.all_append, this]
        exact absurd HTH.out (by rw [H4.out]; decide)
    · obtain rfl : j = l := by omega
      have H4 : Hid (ps.take j = ps) := by
        show ps.take j = ps
        exact List.take_of_length_le (by rw [HP.out.1]; omega)
      go_wp2
      refine close_cell Tryz.results50 rfl rfl rfl R0.out.put2 Tryz.underlying56 rfl (by kernel_rfl) ?_
      have h6 := R2.out
      rw [H4.out] at h6
      have n1 : g ≠ w.heap.size := by omega
      have hw := (h6.far (p := ⟨w.heap.size, 0, none⟩) n1 (.int .i64 n)).far (p := ⟨w.heap.size, 1, none⟩) n1 (.slice (some ⟨g, 0, none⟩) (nw n) (nw n))
      exact ⟨_, _, _, rfl, hw.ownW (ofBits_len n ps) (by unfold maxLen; omega), (HB.out.setCell (p := ⟨w.heap.size, 0, none⟩) (Nat.le_refl _) _).setCell (p := ⟨w.heap.size, 1, none⟩) (Nat.le_refl _) _⟩
end
section
/- Rows of words that are a call's own: bitrow.Of and source.row so. -/
set_option linter.unusedVariables false
set_option linter.unusedSimpArgs false
open Go.RowKit
set_option maxHeartbeats 1000000 in
theorem srcRow_own (k id : Nat) (h1 : 1 ≤ k) (h2 : k ≤ 64) (hi : id < 18446744073709551616) (w : World) : Calls Tryz.prog 38 #[.int .i64 k, .int .u64 id] w (OneOwn k (nbRow k id) w) := by
  have HS := Lib.hid (srcPlaces_any k id h1 h2 hi)
  have HM := Lib.hid (nbMany_range k id h1 h2)
  have HN := Lib.hid (lmb_k k h1 h2)
  have HT := Lib.hid (nb_there k id)
  have q0 := Box.new w 56 #[.int .i64 0, .slice none 0 0]
  have Q0 := Lib.hid q0
  have HW := Lib.hid (show Below w.heap.size w (w.alloc (.cells #[.int .i64 0, .slice none 0 0] 56)) from (Below.refl _ _).alloc (Nat.le_refl _) _)
  clear q0
  go_enter Tryz.func38, Tryz.ntmps38
  go_wp2_with fail
  refine (HS.out _).mono ?_
  rintro e w1 ⟨g, c, rfl, hc, hna, hl, hg0, hg1, hb⟩
  have Q0 := Lib.hid (Q0.out.keep hb)
  have HW := Lib.hid (chain HW.out hb)
  have HI := Lib.hid (nats_ints hna hl hg1 (some_bound k _ _ (by omega)))
  clear hna hb
  go_wp2_with fail
  refine (of_own k (some ⟨g, 0, none⟩) (nbMany k id) c (nbZ k id) HN.out _ HI.out (by have := HM.out.2; omega) HT.out).mono ?_
  rintro e w2 ⟨A, l, c2, rfl, hw, hb⟩
  have P0 := Lib.hid ((Q0.out.keep hb).alloc (.cells #[.int .i64 k, .slice A l c2] 56))
  have T1 := Lib.hid ((chain HW.out hb).alloc (chain HW.out hb).size (.cells #[.int .i64 k, .slice A l c2] 56))
  have HWo := Lib.hid (hw.alloc (.cells #[.int .i64 k, .slice A l c2] 56))
  clear hw hb
  obtain ⟨r0, r1, r2, r3⟩ := P0.out.two
  go_wp2
  refine close_one Tryz.results38 rfl rfl P0.out.put2 Tryz.underlying56 rfl (by kernel_rfl) ⟨_, _, _, rfl, HWo.out.put2 P0.out _ _, ?_⟩
  exact (T1.out.setCell (p := ⟨w.heap.size, 0, none⟩) (Nat.le_refl _) _).setCell (p := ⟨w.heap.size, 1, none⟩) (Nat.le_refl _) _
end
section
/- neighbours.Rows: the rows of several symbols. -/
set_option linter.unusedVariables false
set_option linter.unusedSimpArgs false
open Go.RowKit
theorem own_drew {w : World} {base e size n : Nat} {v : Value} {xs : List Value} (h : w.ownsRow base e size v n xs) : w.drew.ownsRow base e size v n xs := h
def flatR (k : Int) (rs : List (Option Addr × Nat × Nat)) : List Value := rs.flatMap fun r => [.int .i64 k, .slice r.1 r.2.1 r.2.2]
theorem flatR_len (k : Int) (rs : List (Option Addr × Nat × Nat)) : (flatR k rs).length = rs.length * 2 := by
  induction rs with
  | nil => rfl
  | cons r rs ih => simp only [flatR, List.flatMap_cons, List.length_append, List.length_cons, List.length_nil] at *; omega
theorem flatR_snoc (k : Int) (rs : List (Option Addr × Nat × Nat)) (A : Option Addr) (l c : Nat) : flatR k (rs ++ [(A, l, c)]) = flatR k rs ++ [.int .i64 k, .slice A l c] := by simp [flatR]
/-- A row of rows of the call's own: each of k bits, and of these words. -/
def MatW (w : World) (base : Nat) (k : Int) (v : Value) (ls : List (List Nat)) : Prop :=
  ∃ rs, rs.length = ls.length ∧ w.ownsRow base 56 2 v ls.length (flatR k rs) ∧ ∀ j, j < ls.length → OwnW w (rs.getD j (none, 0, 0)).1 (rs.getD j (none, 0, 0)).2.1 (rs.getD j (none, 0, 0)).2.2 (ls.getD j [])
theorem MatW.nil (w : World) (base : Nat) (k : Int) : MatW w base k (.slice none 0 0) [] := ⟨[], rfl, World.ownsRow_nil _ _ _ _, fun j hj => by cases hj⟩
theorem MatW.below {w w' : World} {base : Nat} {k : Int} {v : Value} {ls : List (List Nat)} (h : MatW w base k v ls) (hb : Below w.heap.size w w') : MatW w' base k v ls := by
  obtain ⟨rs, h1, h2, h3⟩ := h
  exact ⟨rs, h1, own_keep h2 hb, fun j hj => (h3 j hj).below hb⟩
theorem MatW.alloc {w : World} {base : Nat} {k : Int} {v : Value} {ls : List (List Nat)} (h : MatW w base k v ls) (o : Obj) : MatW (w.alloc o) base k v ls := h.below ((Below.refl _ _).alloc (Nat.le_refl _) o)
theorem MatW.far {w : World} {base : Nat} {k : Int} {v : Value} {ls : List (List Nat)} (h : MatW w base k v ls) {g : Nat} {t : TypeId} {cs : Array Value} (hb : Box w g t cs) (hne : 44 ≠ t) (hne2 : 56 ≠ t) (i : Nat) (u : Value) : MatW (w.setCell ⟨g, i, none⟩ u) base k v ls := by
  obtain ⟨rs, h1, h2, h3⟩ := h
  exact ⟨rs, h1, own_far h2 hb hne2 i u, fun j hj => (h3 j hj).far hb hne i u⟩
theorem MatW.snoc {w : World} {base : Nat} {k : Int} {v : Value} {rs : List (Option Addr × Nat × Nat)} {ls : List (List Nat)} {A : Option Addr} {l c : Nat} {z : List Nat} (h1 : rs.length = ls.length) (h2 : w.ownsRow base 56 2 v (ls.length + 1) (flatR k rs ++ [.int .i64 k, .slice A l c]))
    (h3 : ∀ j, j < ls.length → OwnW w (rs.getD j (none, 0, 0)).1 (rs.getD j (none, 0, 0)).2.1 (rs.getD j (none, 0, 0)).2.2 (ls.getD j [])) (h4 : OwnW w A l c z) : MatW w base k v (ls ++ [z]) := by
  refine ⟨rs ++ [(A, l, c)], by simp [h1], ?_, fun j hj => ?_⟩
  · rw [flatR_snoc, List.length_append]; exact h2
  · rw [List.length_append] at hj
    simp only [List.length_cons, List.length_nil] at hj
    by_cases h : j < ls.length
    · have := h3 j h
      simp only [List.getD, List.getElem?_append_left h, List.getElem?_append_left (h1 ▸ h)] at this ⊢
      exact this
    · obtain rfl : j = ls.length := by omega
      have e1 : (rs ++ [(A, l, c)]).getD ls.length (none, 0, 0) = (A, l, c) := by rw [← h1]; simp [List.getD]
      have e2 : (ls ++ [z]).getD ls.length [] = z := by simp [List.getD]
      rw [e1, e2]; exact h4
theorem row_info : (Tryz.prog.info? 56).map (fun i => (i.zero, i.size, i.bytes)) = some (some (.agg #[.int .i64 0, .slice none 0 0]), 2, 32) := by kernel_rfl
/-- What Rows hands back. -/
def MatOut (k : Nat) (f : Nat → List Nat) (zs : List Nat) (w : World) (e : Ending) (w' : World) : Prop :=
  ∃ v, e = .returned (.tuple #[.agg #[.int .i64 k, v], .int .i64 0]) ∧ MatW w' w.heap.size k v (zs.map f) ∧ Below w.heap.size w w'
set_option maxRecDepth 100000 in
set_option maxHeartbeats 2000000 in
theorem rows_gen (k : Nat) (f : Nat → List Nat) (hk : 1 ≤ k ∧ k ≤ 64) (hM : ∀ w, Calls Tryz.prog 37 #[.int .i64 k] w fun e w' => e = .returned (.bool true) ∧ w = w')
    (hS : ∀ id : Nat, id < 18446744073709551616 → ∀ w, Calls Tryz.prog 38 #[.int .i64 k, .int .u64 id] w (OneOwn k (f id) w))
    (A : Option Addr) (l c : Nat) (zs : List Nat) (w : World) (hz : Words w A l zs) (hl : l ≤ 64) :
    Calls Tryz.prog 18 #[.int .i64 k, .slice A l c] w (MatOut k f zs w) := by
  have HM := Lib.hid hM
  have HS := Lib.hid hS
  have HZ := Lib.hid hz
  clear hM hS hz
  have hl2 : ¬ (64 : Int) < l := by omega
  obtain ⟨i0, hi, hz0, hz1, hz2⟩ := info_parts row_info
  have HI := Lib.hid hi
  have HZ0 := Lib.hid hz0
  have HZ1 := Lib.hid hz1
  have HZ2 := Lib.hid hz2
  clear hi hz0 hz1 hz2
  have Q0 := Lib.hid ((Box.new w 28 #[.int .i64 0, .slice none 0 0]).alloc (.cells #[.int .i64 k, .slice none 0 0] 28))
  have q1 := Box.new (w.alloc (.cells #[.int .i64 0, .slice none 0 0] 28)) 28 #[.int .i64 k, .slice none 0 0]
  have HW := Lib.hid (show Below w.heap.size w ((w.alloc (.cells #[.int .i64 0, .slice none 0 0] 28)).alloc (.cells #[.int .i64 k, .slice none 0 0] 28)) from ((Below.refl _ _).alloc (Nat.le_refl _) _).alloc (by simp) _)
  simp only [World.size_alloc] at q1
  have Q1 := Lib.hid q1
  clear q1
  go_enter Tryz.func18, Tryz.ntmps18
  go_wp2_with fail
  refine (HM.out _).mono ?_
  rintro e w1 ⟨rfl, rfl⟩
  go_wp2_with fail
  go_loopw [25] (fun t wr => ∃ (i : Nat) (v : Value), i ≤ l ∧ t = .int .i64 i ∧ Box wr (w.heap.size + 1) 28 #[.int .i64 k, v] ∧ MatW wr w.heap.size k v ((zs.take i).map f) ∧ Box wr w.heap.size 28 #[.int .i64 0, .slice none 0 0] ∧ Below w.heap.size w wr) (fun t _ => l - (intOf t).toNat)
  case atStart => exact ⟨0, _, by omega, rfl, Q1.out, MatW.nil _ _ _, Q0.out, HW.out⟩
  case round =>
    obtain ⟨i, v, hi, rfl, B1, hmat, B0, hbel⟩ := hrel
    have R1 := Lib.hid B1
    have R0 := Lib.hid B0
    have HMa := Lib.hid hmat
    have HB := Lib.hid hbel
    clear B1 B0 hmat hbel Q0 Q1 HW
    by_cases hlt : i < l
    · have hlt' : (i : Int) < (l : Int) := by omega
      obtain ⟨q, o, rfl, lt1, hc1⟩ := HZ.out.2.2 (by omega)
      have cu := (HB.out.cell (p := ⟨q, o + i, none⟩) lt1).trans (hc1 i hlt)
      have hx := HZ.out.2.1 i
      have HTK := Lib.hid (show (zs.take (i + 1)).map f = (zs.take i).map f ++ [f (zs.getD i 0)] by rw [take_one zs i 0 (by rw [HZ.out.1]; exact hlt)]; simp)
      have HTL := Lib.hid (show ((zs.take i).map f).length = i by have := HZ.out.1; simp; omega)
      clear hc1 lt1
      generalize zs.getD i 0 = x at *
      have HX := Lib.hid hx
      clear hx
      obtain ⟨a0, a1, f0, f1⟩ := R1.out.two
      obtain ⟨rs, hr1, hr2, hr3⟩ := HMa.out
      rw [HTL.out] at hr1 hr2 hr3
      have HOW := Lib.hid hr2
      have HRS := Lib.hid hr3
      clear hr2 hr3
      go_wp2_with fail
      go_region_law (first
        | (go_simp; go_at_call 38; refine (HS.out x HX.out _).mono ?_; rintro e1 x1 ⟨A1, l1, c1, rfl, hw, hb⟩; have S1 := Lib.hid (R1.out.drew.keep hb); have S0 := Lib.hid (R0.out.drew.keep hb); have SO := Lib.hid (own_keep (own_drew HOW.out) hb); have SR := Lib.hid (fun j hj => (HRS.out j hj).drew.below hb); have SB := Lib.hid (chain HB.out.drew hb); have SW := Lib.hid hw; clear hb hw; have T1 := Lib.hid (S1.out.alloc (.cells #[.int .i64 k, .slice A1 l1 c1] 56)); obtain ⟨s0, s1, sf0, sf1⟩ := S1.out.two; obtain ⟨t0, t1, tf0, tf1⟩ := T1.out.two; have hb0 := SB.out.size; have hn0 := SO.out.lt)
        | (refine step_append_lies _ rfl (.tmp 30) (.tmp 34) 26 rfl w.heap.size 56 i0 (.agg #[.int .i64 0, .slice none 0 0]) 2 32 Tryz.underlying26 HI.out HZ0.out HZ1.out HZ2.out rfl (by decide) v i (flatR k rs) (by simp [Act.eval, Act.put]) (World.ownsRow.alloc SO.out (.cells #[.int .i64 k, .slice A1 l1 c1] 56)) ⟨x1.heap.size, 0, none⟩ 1 1 [.int .i64 k, .slice A1 l1 c1] (by simp [Act.eval, Act.put]) rfl (World.news_of_block (Box.new x1 56 #[.int .i64 k, .slice A1 l1 c1])) (by simp [Value.oneCell']) (by omega) (by simp [maxLen]; omega) (by omega) (by simp; omega) _ rfl ?_; intro g cap w1 hown hgrow _ _; have V1 := Lib.hid (T1.out.grown hgrow (own_ne SO.out S1.out (by decide))); have HO2 := Lib.hid hown; have HG := Lib.hid hgrow; clear hown hgrow; obtain ⟨v0, v1, vf0, vf1⟩ := V1.out.two))
      all_goals
        have W0 := Lib.hid ((S0.out.alloc (.cells #[.int .i64 k, .slice A1 l1 c1] 56)).grown HG.out (own_ne SO.out S0.out (by decide)))
        have WB := Lib.hid ((SB.out.alloc SB.out.size (.cells #[.int .i64 k, .slice A1 l1 c1] 56)).grown HG.out (SB.out.alloc SB.out.size (.cells #[.int .i64 k, .slice A1 l1 c1] 56)).size (fun k hk => (SO.out.lt k hk).1))
        have WR := Lib.hid (fun j hj => OwnW.grown ((SR.out j hj).alloc (.cells #[.int .i64 k, .slice A1 l1 c1] 56)) (World.ownsRow.alloc SO.out (.cells #[.int .i64 k, .slice A1 l1 c1] 56)) (by decide) HG.out)
        have WW := Lib.hid (OwnW.grown (SW.out.alloc (.cells #[.int .i64 k, .slice A1 l1 c1] 56)) (World.ownsRow.alloc SO.out (.cells #[.int .i64 k, .slice A1 l1 c1] 56)) (by decide) HG.out)
        have WM := Lib.hid (MatW.snoc (ls := (zs.take i).map f) (by rw [HTL.out]; exact hr1) (by rw [HTL.out]; exact HO2.out) (by rw [HTL.out]; exact WR.out) WW.out)
        clear HG SO SR SB SW S0 S1 T1 HOW HRS HO2 WR WW HMa R1 R0 HB
        go_wp2_with fail
        go_roundw
        case rel => exact ⟨i + 1, _, by omega, by go_num, V1.out.put 1 _, by rw [HTK.out]; exact WM.out.far V1.out (by decide) (by decide) 1 _, W0.out.far (p := ⟨w.heap.size + 1, 1, none⟩) (by simp) _, WB.out.setCell (p := ⟨w.heap.size + 1, 1, none⟩) (by simp) _⟩
        case measure => simp [intOf] <;> omega
    · obtain rfl : i = l := by omega
      have hlt' : ¬ (i : Int) < (i : Int) := by omega
      have HTK := Lib.hid (show zs.take i = zs from List.take_of_length_le (by rw [HZ.out.1]; omega))
      rw [HTK.out] at HMa
      obtain ⟨A', c', hv⟩ : ∃ A' c', v = .slice A' zs.length c' := by
        obtain ⟨rs, -, h2, -⟩ := HMa.out
        obtain ⟨A', c', h, -⟩ := own_form h2
        rw [List.length_map] at h
        exact ⟨A', c', h⟩
      subst hv
      obtain ⟨a0, a1, -, -⟩ := R1.out.two
      obtain ⟨b0, b1, f0, f1⟩ := R0.out.two
      go_wp2
      refine close_cell Tryz.results18 rfl rfl rfl R0.out.put2 Tryz.underlying28 rfl (by kernel_rfl) ⟨_, rfl, ?_, ?_⟩
      · exact (HMa.out.far R0.out (by decide) (by decide) 0 _).far (R0.out.put 0 _) (by decide) (by decide) 1 _
      · exact (HB.out.setCell (p := ⟨w.heap.size, 0, none⟩) (Nat.le_refl _) _).setCell (p := ⟨w.heap.size, 1, none⟩) (Nat.le_refl _) _
end
section
/- Contracts of layer 7's reference: Root, digits, Same. -/
set_option linter.unusedVariables false
set_option linter.unusedSimpArgs false
open Go.RowKit
set_option maxHeartbeats 1000000 in
theorem refRoot_any (k : Nat) (hk : k ≤ 2147483647) (w : World) : Calls Tryz.prog 107 #[.int .i64 k] w fun e w' => e = .returned (.int .i64 (root k : Nat)) ∧ w = w' := by
  have HR := Lib.hid (fun s h1 h2 => (root_of k s h1 h2 hk).1)
  go_enter Tryz.func107, Tryz.ntmps107
  go_wp2
  go_loop [3, 4] (fun l h => ∃ a b : Nat, a < b ∧ b ≤ 46341 ∧ l = .int .i64 a ∧ h = .int .i64 b ∧ Hid (a * a ≤ k ∧ k < b * b)) (fun l h => (intOf h).toNat - (intOf l).toNat)
  case atStart => exact ⟨0, 46341, by omega, by omega, rfl, rfl, Lib.hid ⟨by omega, by omega⟩⟩
  case round =>
    obtain ⟨a, b, hab, hb, rfl, rfl, HK⟩ := hrel
    by_cases hlt : 1 < b - a
    · have g1 : (1 : Int) < (b : Int) - a := by omega
      obtain ⟨x, hx⟩ : ∃ x, x = (a + b) / 2 := ⟨_, rfl⟩
      have hx1 : a < x := by omega
      have hx2 : x < b := by omega
      have hxe : ((a : Int) + (b : Int)) / 2 = (x : Int) := by omega
      have m1 : x * x ≤ 46341 * 46341 := Nat.mul_le_mul (by omega) (by omega)
      have m2 : (x : Int) * (x : Int) ≤ 2147488281 := by rw [sq_cast]; omega
      have m3 : 0 ≤ (x : Int) * (x : Int) := by rw [sq_cast]; omega
      clear hx
      by_cases hs : x * x ≤ k
      · have t : (x : Int) * (x : Int) ≤ k := by rw [sq_cast]; omega
        go_wp2
        go_round
        case rel => exact ⟨x, b, hx2, hb, by rw [hxe], rfl, Lib.hid ⟨hs, HK.out.2⟩⟩
        case measure => simp [intOf] <;> omega
      · have t : ¬ (x : Int) * (x : Int) ≤ k := by rw [sq_cast]; omega
        go_wp2
        go_round
        case rel => exact ⟨a, x, hx1, by omega, rfl, by rw [hxe], Lib.hid ⟨HK.out.1, by omega⟩⟩
        case measure => simp [intOf] <;> omega
    · have g1 : ¬ (1 : Int) < (b : Int) - a := by omega
      have HE := Lib.hid (HR.out a HK.out.1 (by have h := HK.out.2; rw [show b = a + 1 by omega] at h; exact h))
      go_wp2
      go_ret
      exact ⟨by rw [HE.out]; rfl, rfl⟩
theorem bit_count : ∀ N : Fin 256, ∀ j : Fin 10, N.val / 2 ^ j.val = 0 → (j.val = 0 ∨ 0 < N.val / 2 ^ (j.val - 1)) → j.val = Lib.bitLen N.val := by decide +kernel
set_option maxHeartbeats 1000000 in
theorem digits_any (n : Nat) (hn : n < 256) (w : World) : Calls Tryz.prog 108 #[.int .i64 n] w fun e w' => e = .returned (.int .i64 (Lib.bitLen n : Nat)) ∧ w = w' := by
  have HBC := Lib.hid (fun j h1 h2 h3 => bit_count ⟨n, hn⟩ ⟨j, h1⟩ h2 h3)
  go_enter Tryz.func108, Tryz.ntmps108
  go_wp2
  go_loop [0, 3] (fun m c => ∃ j : Nat, j ≤ 8 ∧ c = .int .i64 j ∧ m = .int .i64 ((n / 2 ^ j : Nat) : Int) ∧ Hid (j = 0 ∨ 0 < n / 2 ^ (j - 1))) (fun m _ => (intOf m).toNat)
  case atStart => exact ⟨0, by omega, rfl, by simp, Lib.hid (.inl rfl)⟩
  case round =>
    obtain ⟨j, hj, rfl, rfl, HJ⟩ := hrel
    have HD := Lib.hid (show n / 2 ^ (j + 1) = n / 2 ^ j / 2 by rw [Nat.pow_succ, Nat.div_div_eq_div_mul])
    have h8 : j = 8 → n / 2 ^ j = 0 := fun e => by rw [e]; exact Nat.div_eq_of_lt (by omega)
    have HB2 := Lib.hid (fun h => HBC.out j (by omega) h HJ.out)
    have HP := Lib.hid (show 0 < n / 2 ^ j → (j + 1 = 0 ∨ 0 < n / 2 ^ (j + 1 - 1)) from fun h => .inr h)
    have hm256 : n / 2 ^ j < 256 := Nat.lt_of_le_of_lt (Nat.div_le_self _ _) hn
    generalize n / 2 ^ j = m at *
    by_cases hm : 0 < m
    · have g : (0 : Int) < m := by omega
      have hj8 : j < 8 := by rcases Nat.lt_or_ge j 8 with e | e
                             · exact e
                             · have := h8 (by omega); omega
      clear h8
      go_wp2
      go_round
      case rel => exact ⟨j + 1, by omega, by go_num, by rw [HD.out]; simp, Lib.hid (HP.out hm)⟩
      case measure => simp [intOf] <;> omega
    · obtain rfl : m = 0 := by omega
      have HE := Lib.hid (HB2.out rfl)
      clear h8
      go_wp2
      go_ret
      exact ⟨by rw [← HE.out]; rfl, rfl⟩
end
section
/- Contracts of layer 7's reference: Weight. -/
set_option linter.unusedVariables false
set_option linter.unusedSimpArgs false
open Go.RowKit
theorem dd_cast (d : Nat) (h : 1 ≤ d) : (d : Int) * ((d : Int) - 1) = ((d * (d - 1) : Nat) : Int) := by
  obtain ⟨c, rfl⟩ : ∃ c, d = c + 1 := ⟨d - 1, by omega⟩
  simp
set_option maxHeartbeats 4000000 in
theorem refWeight_any (k d : Nat) (h1 : 1 ≤ k) (h2 : k ≤ 64) (h3 : 1 ≤ d) (h4 : d ≤ 64) (w : World) : Calls Tryz.prog 98 #[.int .i64 k, .int .i64 d] w fun e w' => e = .returned (.int .u64 (wgt k d : Nat)) ∧ w = w' := by
  have hr := root_small ⟨k, by omega⟩ h1
  simp only at hr
  have HR := Lib.hid (refRoot_any k (by omega) w)
  have HD := Lib.hid (digits_any (root k) (by omega) w)
  have HW := Lib.hid (show wgt k d = plainN d k + moreN d (k / root k) (root k) k from rfl)
  have hp := Nat.div_le_self k (root k)
  have hbl := bitLen_le (root k) (by omega)
  have hX : (k : Int) / (root k : Int) = ((k / root k : Nat) : Int) := by simp
  have hMd : moreN d (k / root k) (root k) k = if d < k / root k then 4294967296 * root k / (d * k) else if d = k / root k then 4294967296 * root k * Lib.bitLen (root k) / k else 0 := rfl
  have hPd : plainN d k = if d = 1 then 4294967296 / k else 4294967296 / (d * (d - 1)) := rfl
  generalize Lib.bitLen (root k) = z at *
  generalize k / root k = p at *
  generalize root k = t at *
  generalize moreN d p t k = M at *
  generalize plainN d k = P at *
  obtain ⟨g1, g2⟩ := hr
  have gk : (1 : Int) ≤ k := by omega
  have gt : (1 : Int) ≤ t := by omega
  have dk1 : 1 * 1 ≤ d * k := Nat.mul_le_mul h3 h1
  have dk2 : d * k ≤ 64 * 64 := Nat.mul_le_mul h4 h2
  have q1 : 1 ≤ (d : Int) * (k : Int) := by rw [mul_cast]; omega
  have q2 : (d : Int) * (k : Int) ≤ 4096 := by rw [mul_cast]; omega
  have tz : t * z ≤ 8 * 8 := Nat.mul_le_mul g2 hbl
  have hz3 : 4294967296 * (t : Int) * (z : Int) = ((4294967296 * (t * z) : Nat) : Int) := by rw [Int.mul_assoc, mul_cast]; simp
  have q3 : 0 ≤ 4294967296 * (t : Int) * (z : Int) := by rw [hz3]; omega
  have q4 : 4294967296 * (t : Int) * (z : Int) ≤ 274877906944 := by rw [hz3]; omega
  have HZ3 := Lib.hid hz3
  have HPd := Lib.hid hPd
  have HMd := Lib.hid hMd
  clear hz3 hPd hMd tz dk1 dk2
  by_cases hd1 : d = 1
  · rcases Nat.lt_trichotomy d p with hdp | hdp | hdp
    · have HP := Lib.hid (show P = 4294967296 / k by rw [HPd.out, if_pos hd1])
      have eP : (4294967296 : Int) / (k : Int) = (P : Int) := by rw [HP.out]; simp
      have gP : P ≤ 4294967296 := by rw [HP.out]; exact Nat.div_le_self _ _
      have gd : ¬ (1 : Int) < d := by omega
      have HM := Lib.hid (show M = 4294967296 * t / (d * k) by rw [HMd.out, if_pos hdp])
      have eM : 4294967296 * (t : Int) / ((d : Int) * (k : Int)) = (M : Int) := by rw [HM.out, mul_cast]; simp
      have gM : M ≤ 4294967296 * t := by rw [HM.out]; exact Nat.div_le_self _ _
      have c1 : (d : Int) < p := by omega
      have c2 : ((d : Int) == (p : Int)) = false := beq_eq_false_iff_ne.2 (by omega)
      clear hd1 hdp
      go_enter Tryz.func98, Tryz.ntmps98
      go_wp2_with fail
      refine HR.out.mono ?_
      rintro e w1 ⟨rfl, rfl⟩
      go_wp2_with fail
      go_ret
      exact ⟨by rw [HW.out]; simp, rfl⟩
    · have HP := Lib.hid (show P = 4294967296 / k by rw [HPd.out, if_pos hd1])
      have eP : (4294967296 : Int) / (k : Int) = (P : Int) := by rw [HP.out]; simp
      have gP : P ≤ 4294967296 := by rw [HP.out]; exact Nat.div_le_self _ _
      have gd : ¬ (1 : Int) < d := by omega
      have HM := Lib.hid (show M = 4294967296 * t * z / k by rw [HMd.out, if_neg (by omega), if_pos hdp])
      have eM : 4294967296 * (t : Int) * (z : Int) / (k : Int) = (M : Int) := by rw [HM.out]; simp
      have gM : M ≤ 274877906944 := by have := HZ3.out; have h9 : 4294967296 * t * z / k ≤ 4294967296 * t * z := Nat.div_le_self _ _; rw [HM.out]; rw [Nat.mul_assoc] at h9 ⊢; omega
      have c1 : ¬ (d : Int) < p := by omega
      have c2 : ((d : Int) == (p : Int)) = true := beq_iff_eq.2 (by omega)
      clear hd1 hdp
      go_enter Tryz.func98, Tryz.ntmps98
      go_wp2_with fail
      refine HR.out.mono ?_
      rintro e w1 ⟨rfl, rfl⟩
      go_wp2_with fail
      refine HD.out.mono ?_
      rintro e w1 ⟨rfl, rfl⟩
      go_wp2_with fail
      go_ret
      exact ⟨by rw [HW.out]; simp, rfl⟩
    · have HP := Lib.hid (show P = 4294967296 / k by rw [HPd.out, if_pos hd1])
      have eP : (4294967296 : Int) / (k : Int) = (P : Int) := by rw [HP.out]; simp
      have gP : P ≤ 4294967296 := by rw [HP.out]; exact Nat.div_le_self _ _
      have gd : ¬ (1 : Int) < d := by omega
      have HM := Lib.hid (show M = 0 by rw [HMd.out, if_neg (by omega), if_neg (by omega)])
      have c1 : ¬ (d : Int) < p := by omega
      have c2 : ((d : Int) == (p : Int)) = false := beq_eq_false_iff_ne.2 (by omega)
      clear hd1 hdp
      go_enter Tryz.func98, Tryz.ntmps98
      go_wp2_with fail
      refine HR.out.mono ?_
      rintro e w1 ⟨rfl, rfl⟩
      go_wp2_with fail
      go_ret
      exact ⟨by rw [HW.out, HM.out, Nat.add_zero]; exact congrArg (fun x => Ending.returned (Value.int .u64 x)) eP, rfl⟩
  · rcases Nat.lt_trichotomy d p with hdp | hdp | hdp
    · have HP := Lib.hid (show P = 4294967296 / (d * (d - 1)) by rw [HPd.out, if_neg hd1])
      have u1 : 1 * 1 ≤ d * (d - 1) := Nat.mul_le_mul (by omega) (by omega)
      have u2 : d * (d - 1) ≤ 64 * 63 := Nat.mul_le_mul (by omega) (by omega)
      have v1 : 1 ≤ (d : Int) * ((d : Int) - 1) := by rw [dd_cast d h3]; omega
      have v2 : (d : Int) * ((d : Int) - 1) ≤ 4032 := by rw [dd_cast d h3]; omega
      have eP : (4294967296 : Int) / ((d : Int) * ((d : Int) - 1)) = (P : Int) := by rw [HP.out, dd_cast d h3]; simp
      have gP : P ≤ 4294967296 := by rw [HP.out]; exact Nat.div_le_self _ _
      have gd : (1 : Int) < d := by omega
      clear u1 u2
      have HM := Lib.hid (show M = 4294967296 * t / (d * k) by rw [HMd.out, if_pos hdp])
      have eM : 4294967296 * (t : Int) / ((d : Int) * (k : Int)) = (M : Int) := by rw [HM.out, mul_cast]; simp
      have gM : M ≤ 4294967296 * t := by rw [HM.out]; exact Nat.div_le_self _ _
      have c1 : (d : Int) < p := by omega
      have c2 : ((d : Int) == (p : Int)) = false := beq_eq_false_iff_ne.2 (by omega)
      clear hd1 hdp
      go_enter Tryz.func98, Tryz.ntmps98
      go_wp2_with fail
      refine HR.out.mono ?_
      rintro e w1 ⟨rfl, rfl⟩
      go_wp2_with fail
      go_ret
      exact ⟨by rw [HW.out]; simp, rfl⟩
    · have HP := Lib.hid (show P = 4294967296 / (d * (d - 1)) by rw [HPd.out, if_neg hd1])
      have u1 : 1 * 1 ≤ d * (d - 1) := Nat.mul_le_mul (by omega) (by omega)
      have u2 : d * (d - 1) ≤ 64 * 63 := Nat.mul_le_mul (by omega) (by omega)
      have v1 : 1 ≤ (d : Int) * ((d : Int) - 1) := by rw [dd_cast d h3]; omega
      have v2 : (d : Int) * ((d : Int) - 1) ≤ 4032 := by rw [dd_cast d h3]; omega
      have eP : (4294967296 : Int) / ((d : Int) * ((d : Int) - 1)) = (P : Int) := by rw [HP.out, dd_cast d h3]; simp
      have gP : P ≤ 4294967296 := by rw [HP.out]; exact Nat.div_le_self _ _
      have gd : (1 : Int) < d := by omega
      clear u1 u2
      have HM := Lib.hid (show M = 4294967296 * t * z / k by rw [HMd.out, if_neg (by omega), if_pos hdp])
      have eM : 4294967296 * (t : Int) * (z : Int) / (k : Int) = (M : Int) := by rw [HM.out]; simp
      have gM : M ≤ 274877906944 := by have := HZ3.out; have h9 : 4294967296 * t * z / k ≤ 4294967296 * t * z := Nat.div_le_self _ _; rw [HM.out]; rw [Nat.mul_assoc] at h9 ⊢; omega
      have c1 : ¬ (d : Int) < p := by omega
      have c2 : ((d : Int) == (p : Int)) = true := beq_iff_eq.2 (by omega)
      clear hd1 hdp
      go_enter Tryz.func98, Tryz.ntmps98
      go_wp2_with fail
      refine HR.out.mono ?_
      rintro e w1 ⟨rfl, rfl⟩
      go_wp2_with fail
      refine HD.out.mono ?_
      rintro e w1 ⟨rfl, rfl⟩
      go_wp2_with fail
      go_ret
      exact ⟨by rw [HW.out]; simp, rfl⟩
    · have HP := Lib.hid (show P = 4294967296 / (d * (d - 1)) by rw [HPd.out, if_neg hd1])
      have u1 : 1 * 1 ≤ d * (d - 1) := Nat.mul_le_mul (by omega) (by omega)
      have u2 : d * (d - 1) ≤ 64 * 63 := Nat.mul_le_mul (by omega) (by omega)
      have v1 : 1 ≤ (d : Int) * ((d : Int) - 1) := by rw [dd_cast d h3]; omega
      have v2 : (d : Int) * ((d : Int) - 1) ≤ 4032 := by rw [dd_cast d h3]; omega
      have eP : (4294967296 : Int) / ((d : Int) * ((d : Int) - 1)) = (P : Int) := by rw [HP.out, dd_cast d h3]; simp
      have gP : P ≤ 4294967296 := by rw [HP.out]; exact Nat.div_le_self _ _
      have gd : (1 : Int) < d := by omega
      clear u1 u2
      have HM := Lib.hid (show M = 0 by rw [HMd.out, if_neg (by omega), if_neg (by omega)])
      have c1 : ¬ (d : Int) < p := by omega
      have c2 : ((d : Int) == (p : Int)) = false := beq_eq_false_iff_ne.2 (by omega)
      clear hd1 hdp
      go_enter Tryz.func98, Tryz.ntmps98
      go_wp2_with fail
      refine HR.out.mono ?_
      rintro e w1 ⟨rfl, rfl⟩
      go_wp2_with fail
      go_ret
      exact ⟨by rw [HW.out, HM.out, Nat.add_zero]; exact congrArg (fun x => Ending.returned (Value.int .u64 x)) eP, rfl⟩
end
section
/- Contracts of layer 7's reference: Weights, Table. -/
set_option linter.unusedVariables false
set_option linter.unusedSimpArgs false
open Go.RowKit
/-- A slice of words is returned. -/
def WordsRet (zs : List Nat) (w : World) (e : Ending) (w' : World) : Prop := ∃ v, e = .returned v ∧ w'.ownsRow w.heap.size 44 1 v zs.length (zs.map u64V) ∧ Below w.heap.size w w'
set_option maxHeartbeats 2000000 in
theorem refWeights_any (k : Nat) (h1 : 1 ≤ k) (h2 : k ≤ 64) (w : World) : Calls Tryz.prog 80 #[.int .i64 k] w (WordsRet (wgts k k) w) := by
  obtain ⟨i0, hi, hz0, hz1, hz2⟩ := info_parts u64_infoW
  have HI := Lib.hid hi
  have HZ0 := Lib.hid hz0
  have HZ1 := Lib.hid hz1
  have HZ2 := Lib.hid hz2
  clear hi hz0 hz1 hz2
  go_enter Tryz.func80, Tryz.ntmps80
  go_wp2
  have HOw := Lib.hid (own_empty w w.heap.size 44 (Nat.le_refl _))
  have HW := Lib.hid ((Below.refl w.heap.size w).alloc (Nat.le_refl _) (.cells #[] 44))
  go_loopw [3, 4] (fun v t wr => ∃ d : Nat, 1 ≤ d ∧ d ≤ k + 1 ∧ t = .int .i64 d ∧ wr.ownsRow w.heap.size 44 1 v (d - 1) ((wgts k (d - 1)).map u64V) ∧ Below w.heap.size w wr)
    (fun _ t _ => k + 1 - (intOf t).toNat)
  case atStart => exact ⟨1, by omega, by omega, rfl, HOw.out, HW.out⟩
  case round =>
    obtain ⟨d, hd1, hd, rfl, hown, hbel⟩ := hrel
    have HO := Lib.hid hown
    have HB := Lib.hid hbel
    clear hown hbel HW HOw
    by_cases hlt : d ≤ k
    · have hlt' : (d : Int) ≤ (k : Int) := by omega
      have hi' := HI.out
      have hz0' := HZ0.out
      have hz1' := HZ1.out
      have hz2' := HZ2.out
      have HS := Lib.hid (show wgts k (d + 1 - 1) = wgts k (d - 1) ++ [wgt k d] by
        obtain ⟨c, rfl⟩ : ∃ c, d = c + 1 := ⟨d - 1, by omega⟩
        exact wgts_succ k c)
      have HWT := Lib.hid (refWeight_any k d h1 h2 hd1 (by omega))
      generalize wgt k d = x at *
      have XO := Lib.hid (HO.out.alloc (.cells #[.int .u64 (x : Int)] 44))
      have XB := Lib.hid (HB.out.alloc HB.out.size (.cells #[.int .u64 (x : Int)] 44))
      have N2 := Lib.hid (fun k hk => (HO.out.lt k hk).1)
      go_wp2_with fail
      refine (HWT.out _).mono ?_
      rintro e w9 ⟨rfl, rfl⟩
      go_wp2_with (at_builtin; refine wpList_append_own _ rfl _ _ 47 rfl w.heap.size 44 i0 (.int .u64 0) 1 8 Tryz.underlying47 hi' hz0' hz1' hz2' rfl (by decide) _ _ _ rfl XO.out ⟨wr.heap.size, 0, none⟩ 1 1 [.int .u64 (x : Int)] rfl rfl (cell_one_new _ _ _) (by simp [Value.oneCell']) (by simp [maxLen]; omega) (by omega) XB.out.size ?_; intro v' w1 hown' hgrow _; have HC := Lib.hid (XB.out.grown hgrow XB.out.size N2.out); have HO2 := Lib.hid hown'; clear hown' hgrow)
      go_roundw
      case rel =>
        refine ⟨d + 1, by omega, by omega, by go_num, ?_, HC.out⟩
        rw [HS.out, List.map_append, show d + 1 - 1 = d - 1 + 1 by omega]
        exact HO2.out
      case measure => simp [intOf] <;> omega
    · have he : d - 1 = k := by omega
      have hlt' : ¬ (d : Int) ≤ (k : Int) := by omega
      rw [he] at HO
      have HL := Lib.hid (wgts_len k k)
      clear he
      go_wp2
      go_ret
      exact ⟨_, rfl, by rw [HL.out]; exact HO.out, HB.out⟩
end
section
/- Contract of layer 7's reference: Same. -/
set_option linter.unusedVariables false
set_option linter.unusedSimpArgs false
open Go.RowKit
end
section
/- Contract of layer 7's reference: Table. -/
set_option linter.unusedVariables false
set_option linter.unusedSimpArgs false
open Go.RowKit
set_option maxHeartbeats 2000000 in
theorem refTable_any (k : Nat) (h1 : 1 ≤ k) (h2 : k ≤ 64) (w : World) : Calls Tryz.prog 62 #[.int .i64 k] w (WordsRet (tbl (wgts k k)) w) := by
  obtain ⟨i0, hi, hz0, hz1, hz2⟩ := info_parts u64_infoW
  have HI := Lib.hid hi
  have HZ0 := Lib.hid hz0
  have HZ1 := Lib.hid hz1
  have HZ2 := Lib.hid hz2
  clear hi hz0 hz1 hz2
  have HWN := Lib.hid (refWeights_any k h1 h2)
  have HWL := Lib.hid (wgts_len k k)
  have HWb := Lib.hid (wgts_lt k h1 h2)
  go_enter Tryz.func62, Tryz.ntmps62
  go_wp2_with fail
  refine (HWN.out _).mono ?_
  rintro e w1 ⟨v1, rfl, ho1, hb⟩
  rw [HWL.out] at ho1
  obtain ⟨A1, c1, rfl, q1, q1', hw1⟩ := own_slice ho1 HWb.out
  have W1 := Lib.hid hw1
  have B1 := Lib.hid (chain ((Below.refl w.heap.size w).alloc (Nat.le_refl _) (.cells #[] 44)) hb)
  clear ho1 hw1 hb HWN
  generalize wgts k k = ws at *
  go_wp2_with fail
  have n1 := B1.out.size
  go_loopw [3, 4, 11] (fun v s c wr => ∃ i : Nat, i ≤ k ∧ c = .int .i64 i ∧ s = .int .u64 (sumN (ws.take i) : Nat) ∧ Hid ((i = 0 ∧ v = .slice (some ⟨w.heap.size, 0, none⟩) 0 0) ∨ (1 ≤ i ∧ wr.ownsRow w1.heap.size 44 1 v i ((tbl (ws.take i)).map u64V))) ∧ Below w1.heap.size w1 wr) (fun _ _ c _ => k - (intOf c).toNat)
  case atStart => exact ⟨0, by omega, rfl, rfl, Lib.hid (.inl ⟨rfl, rfl⟩), Below.refl _ _⟩
  case round =>
    obtain ⟨i, hi, rfl, rfl, HV, hbel⟩ := hrel
    have HB := Lib.hid hbel
    clear hbel
    by_cases hlt : i < k
    · have hlt' : (i : Int) < k := by omega
      obtain ⟨b, off, rfl, hb, hc⟩ := W1.out.2.2 (by omega)
      have cA := (HB.out.cell (p := ⟨b, off + i, none⟩) hb).trans (hc i hlt)
      clear hc
      have hsu := sumN_take ws i (by rw [HWL.out]; exact hlt)
      have hwn := wrap_nat (sumN (ws.take i)) (ws.getD i 0)
      rw [← hsu] at hwn
      have HT := Lib.hid (show tbl (ws.take (i + 1)) = tbl (ws.take i) ++ [sumN (ws.take (i + 1))] by
        rw [List.take_succ_eq_append_getElem (by rw [HWL.out]; exact hlt)]; exact tbl_snoc _ _)
      have HT0 := Lib.hid (show i = 0 → tbl (ws.take i) = [] from fun e => by rw [e]; rfl)
      clear hsu
      generalize hs' : sumN (ws.take (i + 1)) = y at *
      have HY := Lib.hid hs'
      clear hs'
      generalize sumN (ws.take i) = s0 at *
      generalize ws.getD i 0 = x at *
      have hi' := HI.out
      have hz0' := HZ0.out
      have hz1' := HZ1.out
      have hz2' := HZ2.out
      have XB := Lib.hid (HB.out.alloc HB.out.size (.cells #[.int .u64 (y : Int)] 44))
      rcases HV.out with ⟨h0, hv⟩ | ⟨h1i, hrow⟩
      · subst hv
        have H0 := Lib.hid h0
        clear h0
        go_wp2_with (at_builtin; refine wpList_append_grows _ rfl _ _ 47 rfl 44 i0 (.int .u64 0) 1 8 Tryz.underlying47 hi' hz0' hz1' hz2' rfl (by decide) (some ⟨w.heap.size, 0, none⟩) 0 0 [] rfl (fun h => by cases h) rfl (fun _ _ j u hu => by simp at hu) ⟨wr.heap.size, 0, none⟩ 1 1 [.int .u64 (y : Int)] rfl rfl (cell_one_new _ _ _) (by simp [Value.oneCell']) (by omega) (by simp [maxLen]) (by omega) ?_; intro v' w2 hown' hgrow; have HC := Lib.hid (XB.out.grown hgrow XB.out.size (fun k hk => by cases hk)); have HO2 := Lib.hid (own_low hown' XB.out.size); clear hown' hgrow)
        go_roundw
        case rel =>
          refine ⟨i + 1, by omega, by go_num, by rw [HY.out], Lib.hid (.inr ⟨by omega, ?_⟩), HC.out⟩
          rw [HT.out, HT0.out H0.out, H0.out]
          exact HO2.out
        case measure => simp [intOf] <;> omega
      · have HO := Lib.hid hrow
        clear hrow
        have XO := Lib.hid (HO.out.alloc (.cells #[.int .u64 (y : Int)] 44))
        have N2 := Lib.hid (fun k hk => (HO.out.lt k hk).1)
        obtain ⟨A', c', rfl, _⟩ := own_form HO.out
        go_wp2_with (at_builtin; refine wpList_append_own _ rfl _ _ 47 rfl w1.heap.size 44 i0 (.int .u64 0) 1 8 Tryz.underlying47 hi' hz0' hz1' hz2' rfl (by decide) _ _ _ rfl XO.out ⟨wr.heap.size, 0, none⟩ 1 1 [.int .u64 (y : Int)] rfl rfl (cell_one_new _ _ _) (by simp [Value.oneCell']) (by simp [maxLen]; omega) (by omega) XB.out.size ?_; intro v' w2 hown' hgrow _; have HC := Lib.hid (XB.out.grown hgrow XB.out.size N2.out); have HO2 := Lib.hid hown'; clear hown' hgrow)
        go_roundw
        case rel =>
          refine ⟨i + 1, by omega, by go_num, by rw [HY.out], Lib.hid (.inr ⟨by omega, ?_⟩), HC.out⟩
          rw [HT.out, List.map_append]
          exact HO2.out
        case measure => simp [intOf] <;> omega
    · have he : i = k := by omega
      have HROW := Lib.hid (HV.out.resolve_left (by omega))
      rw [he, List.take_of_length_le (by rw [HWL.out]; omega)] at HROW
      have hlt' : ¬ (i : Int) < k := by omega
      have HL := Lib.hid ((tbl_len ws).trans HWL.out)
      clear he
      obtain ⟨A', c', rfl, _⟩ := own_form HROW.out.2
      go_wp2
      go_ret
      exact ⟨_, rfl, by rw [HL.out]; exact own_low HROW.out.2 n1, chain B1.out HB.out⟩
end
section
/- Contracts of layer 7's reference: Right, Pick. -/
set_option linter.unusedVariables false
set_option linter.unusedSimpArgs false
open Go.RowKit
theorem tab_rises (ws : List Nat) : tabB ws = (risesFrom 0 ws && (decide (1 ≤ ws.length) && decide (ws.length ≤ 64))) := by
  unfold tabB; rw [Bool.and_comm]
set_option maxHeartbeats 1000000 in
theorem refPick_any (A : Option Addr) (l c : Nat) (ws : List Nat) (n : Nat) (w : World) (hw : Words w A l ws) (hl : l ≤ maxLen) (hlc : l ≤ c) (hn : n < 18446744073709551616) (ht : tabB ws = true) :
    Calls Tryz.prog 61 #[.slice A l c, .int .u64 n] w fun e w' => e = .returned (.int .i64 (pickD ws n : Nat)) ∧ ∃ q, w' = w.drewN q := by
  unfold maxLen at hl
  obtain ⟨h1, h64, hr⟩ := tab_at ht
  have hp := last_pos ht
  have hlen := hw.1
  rw [hlen] at h1 h64 hp
  obtain ⟨b, off, rfl, hb, hc⟩ := hw.2.2 h1
  have c1 := hc (l - 1) (by omega)
  have HPD := Lib.hid (show pickD ws n = pickN ws (n % ws.getD (l - 1) 0) + 1 by rw [pickD, hlen])
  have HM := Lib.hid (rises_mono ws hr)
  have HC := Lib.hid hc
  have HL := Lib.hid hlen
  have HLT := Lib.hid (Nat.mod_lt n hp)
  clear hw hc hlen ht hr
  have g1 : (1 : Int) ≤ l := by omega
  have g2 : (l : Int) ≤ 64 := by omega
  have g3 : ((l : Int) - 1).toNat = l - 1 := by omega
  generalize hX : ws.getD (l - 1) 0 = x at *
  have HX := Lib.hid hX
  clear hX
  have g4 : (0 : Int) < x := by omega
  have g5 : (x : Int) ≠ 0 := by omega
  go_enter Tryz.func61, Tryz.ntmps61
  go_wp2_with fail
  go_loop [17] (fun i => ∃ k : Nat, k ≤ l ∧ i = .int .i64 k ∧ Hid (∀ i, i < k → ws.getD i 0 ≤ n % x)) (fun i => l - (intOf i).toNat)
  case atStart => exact ⟨0, by omega, rfl, Lib.hid (fun i hi => by omega)⟩
  case round =>
    obtain ⟨k, hk, rfl, HN⟩ := hrel
    by_cases hlt : k < l
    · have hkl' : (k : Int) < (l : Int) := by omega
      have c2 := HC.out k hlt
      by_cases hx : n % x < ws.getD k 0
      · have HE := Lib.hid (pickN_of ws (n % x) k HN.out (fun i h1 h2 => by have := HM.out k i h1 h2; omega) (by rw [HL.out]; omega))
        have t : (n : Int) % (x : Int) < (ws.getD k 0 : Nat) := by omega
        generalize ws.getD k 0 = y at *
        go_wp2
        go_ret
        exact ⟨by rw [HPD.out, HE.out]; rfl, 0, rfl⟩
      · have HE := Lib.hid (show ∀ i, i < k + 1 → ws.getD i 0 ≤ n % x from fun i hi => by
          by_cases e : i = k
          · rw [e]; omega
          · exact HN.out i (by omega))
        have t : ¬ (n : Int) % (x : Int) < (ws.getD k 0 : Nat) := by omega
        generalize ws.getD k 0 = y at *
        go_wp2
        go_round
        case rel => exact ⟨k + 1, by omega, by go_num, HE⟩
        case measure => simp [intOf] <;> omega
    · exfalso
      have := HN.out (l - 1) (by omega)
      have := HLT.out
      have := HX.out
      omega
end
section
/- Contracts of the reference's words, Bit and Right. -/
set_option linter.unusedVariables false
set_option linter.unusedSimpArgs false
open Go.RowKit
theorem refWords_any (n : Nat) (h : n ≤ 1000000) (w : World) : Calls Tryz.prog 79 #[.int .i64 n] w fun e w' => e = .returned (.int .i64 (nw n)) ∧ w = w' := by
  go_enter Tryz.func79, Tryz.ntmps79
  go_wp2
  go_ret
  exact ⟨congrArg (fun z => Ending.returned (.int .i64 z)) (by unfold nw; omega), rfl⟩
def bitAt (us : List Nat) (i : Nat) : Nat := us.getD (i / 64) 0 / 2 ^ (i % 64) % 2
theorem bit_any (n : Int) (A : Option Addr) (l c i : Nat) (us : List Nat) (w : World) (hu : Words w A l us) (hi : i < 64 * l) (hl : l ≤ 1000000) :
    Calls Tryz.prog 64 #[.agg #[.int .i64 n, .slice A l c], .int .i64 i] w fun e w' => e = .returned (.int .i64 (bitAt us i : Nat)) ∧ Below w.heap.size w w' := by
  obtain ⟨b, o, rfl, hlt, hc⟩ := hu.2.2 (by omega)
  have c1 := hc (i / 64) (by omega)
  have hx := hu.2.1 (i / 64)
  have HV : Hid ((((us.getD (i / 64) 0 : Nat) : Int) / 2 ^ (i % 64)) % 2 = ((bitAt us i : Nat) : Int)) := by
    show _ = _
    unfold bitAt
    have e : ((us.getD (i / 64) 0 : Nat) : Int) / 2 ^ (i % 64) = ((us.getD (i / 64) 0 / 2 ^ (i % 64) : Nat) : Int) := by simp [Int.natCast_ediv]
    rw [e]; omega
  generalize us.getD (i / 64) 0 = x at *
  have hle : (x : Int) / 2 ^ (i % 64) ≤ x := by
    have e : (x : Int) / 2 ^ (i % 64) = ((x / 2 ^ (i % 64) : Nat) : Int) := by simp [Int.natCast_ediv]
    rw [e]
    have := Nat.div_le_self x (2 ^ (i % 64))
    omega
  have hge : 0 ≤ (x : Int) / 2 ^ (i % 64) := by
    have e : (x : Int) / 2 ^ (i % 64) = ((x / 2 ^ (i % 64) : Nat) : Int) := by simp [Int.natCast_ediv]
    rw [e]; exact Int.natCast_nonneg _
  clear hc hu
  go_enter Tryz.func64, Tryz.ntmps64
  go_wp2
  go_ret
  exact ⟨congrArg (fun z => Ending.returned (.int .i64 z)) HV.out, (Below.refl _ _).alloc (Nat.le_refl _) _⟩
theorem rightB_core (n l : Nat) (us : List Nat) (h : lmb n = true) (hl : us.length = l) (hn : l = nw n) : rightB n us = (n % 64 == 0 || us.getD (l - 1) 0 / 2 ^ (n % 64) == 0) := by
  unfold rightB
  rw [h, Int.toNat_natCast, hl, hn]
  simp
theorem right_of_bits (n l : Nat) (us : List Nat) (h : lmb n = true) (hl : us.length = l) (hn : l = nw n) (hlt : ∀ j, us.getD j 0 < 18446744073709551616) (hb : ∀ i, n ≤ i → i < 64 * l → bitAt us i = 0) : rightB n us = true := by
  rw [rightB_core n l us h hl hn]
  by_cases h0 : n % 64 = 0
  · simp [h0]
  · have hp : 1 ≤ l := by rw [hn]; unfold nw; omega
    have hd : n / 64 = l - 1 := by rw [hn]; unfold nw; omega
    have : us.getD (l - 1) 0 < 2 ^ (n % 64) := by
      apply Nat.lt_pow_two_of_testBit
      intro i hi
      by_cases hi64 : i < 64
      · have := hb (64 * (l - 1) + i) (by omega) (by omega)
        unfold bitAt at this
        rw [show (64 * (l - 1) + i) / 64 = l - 1 by omega, show (64 * (l - 1) + i) % 64 = i by omega] at this
        rw [Nat.testBit_eq_decide_div_mod_eq, this]
        rfl
      · exact Nat.testBit_lt_two_pow (Nat.lt_of_lt_of_le (hlt (l - 1)) (show 2 ^ 64 ≤ 2 ^ i from Nat.pow_le_pow_right (by omega) (by omega)))
    have e : us.getD (l - 1) 0 / 2 ^ (n % 64) = 0 := Nat.div_eq_of_lt this
    rw [e]; simp
theorem not_right_of_bit (n l i : Nat) (us : List Nat) (h : lmb n = true) (hl : us.length = l) (hn : l = nw n) (h1 : n ≤ i) (h2 : i < 64 * l) (hb : bitAt us i = 1) : rightB n us = false := by
  rw [rightB_core n l us h hl hn]
  have hnw : nw n = (n + 63) / 64 := rfl
  have h0 : ¬ n % 64 = 0 := by omega
  have hd : i / 64 = l - 1 := by omega
  have hr : n % 64 ≤ i % 64 := by omega
  unfold bitAt at hb
  rw [hd] at hb
  have hne : us.getD (l - 1) 0 / 2 ^ (n % 64) ≠ 0 := by
    intro e
    have hp : 0 < 2 ^ (n % 64) := Nat.two_pow_pos _
    have hlt : us.getD (l - 1) 0 < 2 ^ (n % 64) := by
      rcases Nat.div_eq_zero_iff.1 e with h | h
      · omega
      · exact h
    have : us.getD (l - 1) 0 / 2 ^ (i % 64) = 0 := Nat.div_eq_of_lt (Nat.lt_of_lt_of_le hlt (Nat.pow_le_pow_right (by omega) hr))
    rw [this] at hb
    simp at hb
  have e1 : (n % 64 == 0) = false := by simpa using h0
  have e2 : (us.getD (l - 1) 0 / 2 ^ (n % 64) == 0) = false := by rw [beq_eq_false_iff_ne]; exact hne
  rw [e1, e2]; rfl
theorem bitAt_le (us : List Nat) (i : Nat) : bitAt us i = 0 ∨ bitAt us i = 1 := by unfold bitAt; omega
end
section
/- Contract of the reference's From: a row of bits. -/
set_option linter.unusedVariables false
set_option linter.unusedSimpArgs false
open Go.RowKit
def accM (b : Nat → Bool) (i : Nat) : Nat → Nat
  | 0 => 0
  | m + 1 => 2 * accM b i m + if b (64 * i + (63 - m)) then 1 else 0
theorem accM_lt (b : Nat → Bool) (i m : Nat) : accM b i m < 2 ^ m := by
  induction m with
  | zero => simp [accM]
  | succ m ih =>
    simp only [accM, Nat.pow_succ]
    split <;> omega
def bitsOf (zs : List Int) (j : Nat) : Bool := decide (j < zs.length) && zs.getD j 0 == 1
def fromL (b : Nat → Bool) (k : Nat) : List Nat := (List.range k).map fun i => accM b i 64
theorem fromL_lt (b : Nat → Bool) (k j : Nat) : (fromL b k).getD j 0 < 18446744073709551616 := by
  unfold fromL
  simp only [List.getD, List.getElem?_map, List.getElem?_range]
  by_cases h : j < k
  · simp [h]
    exact accM_lt b j 64
  · simp [h]
theorem fromL_succ (b : Nat → Bool) (k : Nat) : fromL b (k + 1) = fromL b k ++ [accM b k 64] := by simp [fromL, List.range_succ]
theorem fromL_len (b : Nat → Bool) (k : Nat) : (fromL b k).length = k := by simp [fromL]
theorem u64_info : (Tryz.prog.info? 44).map (fun i => (i.zero, i.size, i.bytes)) = some (some (.int .u64 0), 1, 8) := by kernel_rfl
set_option maxHeartbeats 1000000 in
theorem from_any (A : Option Addr) (l c : Nat) (zs : List Int) (w : World) (hz : Ints w A l zs) (hl : l ≤ 10000) :
    Calls Tryz.prog 59 #[.slice A l c] w (OneRow l (fromL (bitsOf zs) (nw l)) w) := by
  obtain ⟨i0, hi, hz0, hz1, hz2⟩ := info_parts u64_info
  have hnw : nw l ≤ 1000 := by unfold nw; omega
  have Q0 := Lib.hid ((Box.new w 56 #[.int .i64 0, .slice none 0 0]).alloc (.cells #[.int .i64 l, .slice none 0 0] 56))
  have q1 := Box.new (w.alloc (.cells #[.int .i64 0, .slice none 0 0] 56)) 56 #[.int .i64 l, .slice none 0 0]
  simp only [World.size_alloc] at q1
  have Q1 := Lib.hid q1
  have HW := Lib.hid (show Below w.heap.size w ((w.alloc (.cells #[.int .i64 0, .slice none 0 0] 56)).alloc (.cells #[.int .i64 l, .slice none 0 0] 56)) from ((Below.refl _ _).alloc (Nat.le_refl _) _).alloc (by simp) _)
  have HZ := Lib.hid hz
  clear hz q1
  have HI := Lib.hid hi
  have HZ0 := Lib.hid hz0
  have HZ1 := Lib.hid hz1
  have HZ2 := Lib.hid hz2
  clear hi hz0 hz1 hz2
  go_enter Tryz.func59, Tryz.ntmps59
  go_wp2
  go_loopw [4] (fun t wr => ∃ (i : Nat) (v : Value), i ≤ nw l ∧ t = .int .i64 i ∧ Box wr (w.heap.size + 1) 56 #[.int .i64 l, v] ∧ wr.ownsRow w.heap.size 44 1 v i ((fromL (bitsOf zs) i).map fun (x : Nat) => Value.int .u64 (x : Int)) ∧ Box wr w.heap.size 56 #[.int .i64 0, .slice none 0 0] ∧ Below w.heap.size w wr)
    (fun t _ => nw l - (intOf t).toNat)
  case atStart => exact ⟨0, _, by omega, rfl, Q1.out, World.ownsRow_nil _ _ _ _, Q0.out, HW.out⟩
  case round =>
    obtain ⟨i, v, hi, rfl, B1, hown, B0, hbel⟩ := hrel
    have R1 := Lib.hid B1
    have R0 := Lib.hid B0
    have HO := Lib.hid hown
    have HB := Lib.hid hbel
    clear B1 B0 hown hbel Q0 Q1 HW
    by_cases hlt : i < nw l
    · go_wp2_with fail
      refine (refWords_any l (by omega) _).mono ?_
      rintro e w' ⟨rfl, rfl⟩
      go_wp2
      go_loop [6, 5] (fun s x => ∃ k : Nat, k ≤ 64 ∧ s = .int .i64 ((k : Int) - 1) ∧ x = .int .u64 (accM (bitsOf zs) i (64 - k) : Nat)) (fun s _ => (intOf s + 1).toNat)
      case atStart => exact ⟨64, by omega, rfl, rfl⟩
      case round =>
        obtain ⟨k, hk, rfl, rfl⟩ := hrel
        cases k with
        | zero =>
          obtain ⟨A', c', rfl, hA'⟩ := own_form HO.out
          obtain ⟨a0, a1, f0, f1⟩ := R1.out.two
          have hz := R1.out.lt
          have hacc := accM_lt (bitsOf zs) i 64
          generalize hX : accM (bitsOf zs) i (64 - 0) = x at *
          have HX := Lib.hid hX
          clear hX
          have hi' := HI.out
          have hz0' := HZ0.out
          have hz1' := HZ1.out
          have hz2' := HZ2.out
          have hne : (44 : TypeId) ≠ 56 := by decide
          have X1 := Lib.hid (R1.out.alloc (.cells #[.int .u64 (x : Int)] 44))
          have X0 := Lib.hid (R0.out.alloc (.cells #[.int .u64 (x : Int)] 44))
          have XO := Lib.hid (HO.out.alloc (.cells #[.int .u64 (x : Int)] 44))
          have XB := Lib.hid (HB.out.alloc HB.out.size (.cells #[.int .u64 (x : Int)] 44))
          have N1 := Lib.hid (own_ne XO.out X1.out hne)
          have N0 := Lib.hid (own_ne XO.out X0.out hne)
          have hsz : w.heap.size ≤ (wr.alloc (.cells #[.int .u64 (x : Int)] 44)).heap.size := XB.out.size
          have HSZ := Lib.hid hsz
          have N2 := Lib.hid (fun k hk => (HO.out.lt k hk).1)
          clear hsz hne
          go_wp2_with (at_builtin; refine wpList_append_own _ rfl _ _ 47 rfl w.heap.size 44 i0 (.int .u64 0) 1 8 Tryz.underlying47 hi' hz0' hz1' hz2' rfl (by decide) _ _ _ rfl XO.out ⟨wr.heap.size, 0, none⟩ 1 1 [.int .u64 (x : Int)] rfl rfl (cell_one_new _ _ _) (by simp [Value.oneCell']) (by simp [maxLen]; omega) (by omega) HSZ.out ?_; intro v' w1 hown' hgrow _; obtain ⟨A2, c2, rfl, hA2⟩ := own_form hown'; have S1 := Lib.hid (X1.out.grown hgrow N1.out); have S0 := Lib.hid (X0.out.grown hgrow N0.out); have HC := Lib.hid (XB.out.grown hgrow HSZ.out N2.out); have HO2 := Lib.hid hown'; clear hown' hgrow hA2; obtain ⟨e0, e1, g0, g1⟩ := S1.out.two)
          go_roundw
          case rel =>
            refine ⟨i + 1, _, by omega, by go_num, S1.out.put 1 _, ?_, S0.out.far (p := ⟨w.heap.size + 1, 1, none⟩) (by simp) _, HC.out.setCell (p := ⟨w.heap.size + 1, 1, none⟩) (by simp) _⟩
            have h1 := HO2.out
            rw [fromL_succ, List.map_append]
            have h2 : (accM (bitsOf zs) i 64) = x := HX.out
            rw [List.map_cons, List.map_nil, h2]
            exact own_far h1 S1.out (by decide) 1 _
          case measure => simp [intOf] <;> omega
        | succ j =>
          rw [show (((j + 1 : Nat) : Int) - 1) = (j : Int) by omega]
          have hx := accM_lt (bitsOf zs) i (64 - (j + 1))
          have hp : 2 ^ (64 - (j + 1)) ≤ 2 ^ 63 := Nat.pow_le_pow_right (by omega) (by omega)
          have hx2 : accM (bitsOf zs) i (64 - (j + 1)) < 9223372036854775808 := by omega
          have HS : Hid (accM (bitsOf zs) i (64 - j) = 2 * accM (bitsOf zs) i (64 - (j + 1)) + if bitsOf zs (64 * i + j) then 1 else 0) := by
            show _ = _
            rw [show 64 - j = (64 - (j + 1)) + 1 by omega]
            simp only [accM]
            rw [show 63 - (64 - (j + 1)) = j by omega]
          clear hx hp
          generalize accM (bitsOf zs) i (64 - (j + 1)) = x at *
          by_cases hin : 64 * i + j < l
          · obtain ⟨b, o, rfl, hlb, hc⟩ := HZ.out.2.2 (by omega)
            have cz := (HB.out.cell (p := ⟨b, o + (64 * i + j), none⟩) hlb).trans (hc (64 * i + j) hin)
            have hin' : 64 * (i : Int) + j < l := by omega
            obtain ⟨y, ey⟩ : ∃ y, y = zs.getD (64 * i + j) 0 := ⟨_, rfl⟩
            rw [← ey] at cz
            have EY := Lib.hid ey
            clear ey hc
            by_cases hy : y = 1
            · have t1 : (y == 1) = true := by simpa using hy
              clear hy
              have HB1 : Hid (bitsOf zs (64 * i + j) = true) := by
                show bitsOf zs (64 * i + j) = true
                unfold bitsOf
                rw [← EY.out, t1, HZ.out.1]
                simpa using hin
              go_wp2
              go_round
              case rel => exact ⟨j, by omega, rfl, by rw [HS.out, HB1.out]; first | rfl | go_num⟩
              case measure => simp [intOf] <;> omega
            · have t1 : (y == 1) = false := by simpa using hy
              clear hy
              have HB1 : Hid (bitsOf zs (64 * i + j) = false) := by
                show bitsOf zs (64 * i + j) = false
                unfold bitsOf
                rw [← EY.out, t1]; simp
              go_wp2
              go_round
              case rel => exact ⟨j, by omega, rfl, by rw [HS.out, HB1.out]; first | rfl | go_num⟩
              case measure => simp [intOf] <;> omega
          · have hin' : ¬ 64 * (i : Int) + j < l := by omega
            have HB1 : Hid (bitsOf zs (64 * i + j) = false) := by
              show bitsOf zs (64 * i + j) = false
              unfold bitsOf
              rw [HZ.out.1]; simp; omega
            go_wp2
            go_round
            case rel => exact ⟨j, by omega, rfl, by rw [HS.out, HB1.out]; first | rfl | go_num⟩
            case measure => simp [intOf] <;> omega
    · obtain rfl : i = nw l := by omega
      obtain ⟨A', c', rfl, hA'⟩ := own_form HO.out
      obtain ⟨a0, a1, -, -⟩ := R1.out.two
      obtain ⟨b0, b1, f0, f1⟩ := R0.out.two
      go_wp2_with fail
      refine (refWords_any l (by omega) _).mono ?_
      rintro e w' ⟨rfl, rfl⟩
      go_wp2
      refine close_one Tryz.results59 rfl rfl R0.out.put2 Tryz.underlying56 rfl (by kernel_rfl) ⟨_, _, _, rfl, ?_, ?_⟩
      · exact (own_words HO.out (fromL_lt _ _)).put2 R0.out _ _
      · exact (HB.out.setCell (p := ⟨w.heap.size, 0, none⟩) (Nat.le_refl _) _).setCell (p := ⟨w.heap.size, 1, none⟩) (Nat.le_refl _) _
end
section
/- Contracts of bitrow.And's join, and of bitrow.Xor and And. -/
set_option linter.unusedVariables false
set_option linter.unusedSimpArgs false
open Go.RowKit
theorem part_lt_and (us vs : List Nat) (j i : Nat) (hu : ∀ j, us.getD j 0 < 18446744073709551616) (hv : ∀ j, vs.getD j 0 < 18446744073709551616) : (part (· &&& ·) us vs j).getD i 0 < 18446744073709551616 := by
  unfold part
  simp only [List.getD, List.getElem?_append]
  split
  · rw [List.getElem?_take]
    split
    · rw [List.getElem?_zipWith]
      have h1 := hu i
      have h2 := hv i
      simp only [List.getD] at h1 h2
      cases e1 : us[i]? <;> cases e2 : vs[i]? <;> simp [e1, e2] at h1 h2 ⊢
      exact Nat.and_lt_two_pow (n := 64) _ h2
    · simp
  · rw [List.getElem?_replicate]
    split <;> simp
def joinN (n : Int) (us : List Nat) (m : Int) (vs : List Nat) : Int := if rightB n us && rightB m vs && n == m then n else 0
def joinW (g : Nat → Nat → Nat) (n : Int) (us : List Nat) (m : Int) (vs : List Nat) : List Nat := if rightB n us && rightB m vs && n == m then List.zipWith g us vs else []
def joinE (n : Int) (us : List Nat) (m : Int) (vs : List Nat) : Int := if rightB n us && rightB m vs then if n == m then 0 else 2 else 1
theorem joined_x (n m : Int) (A B : Option Addr) (l c k d : Nat) (us vs : List Nat) (w : World) (hu : Words w A l us) (hv : Words w B k vs) :
    Calls Tryz.prog 95 #[.agg #[.int .i64 n, .slice A l c], .agg #[.int .i64 m, .slice B k d], .func (.func 96) #[] #[]] w (RowOut (joinN n us m vs) (joinW (· ^^^ ·) n us m vs) (joinE n us m vs) w) := by
  unfold joinN joinW joinE
  cases h1 : rightB n us with
  | false => exact joined_arg _ n m A B l c k d us vs w hu hv (.inl h1)
  | true =>
    cases h2 : rightB m vs with
    | false => exact joined_arg _ n m A B l c k d us vs w hu hv (.inr h2)
    | true =>
      by_cases h : n = m
      · subst h
        have : (n == n) = true := by simp
        rw [this]
        exact joined_xor n A B l c k d us vs w hu hv h1 h2
      · have : (n == m) = false := by simpa using h
        rw [this]
        exact joined_size _ n m A B l c k d us vs w hu hv h1 h2 h
set_option maxHeartbeats 400000 in
theorem xor_any (n m : Int) (A B : Option Addr) (l c k d : Nat) (us vs : List Nat) (w : World) (hu : Words w A l us) (hv : Words w B k vs) :
    Calls Tryz.prog 75 #[.agg #[.int .i64 n, .slice A l c], .agg #[.int .i64 m, .slice B k d]] w (RowOut (joinN n us m vs) (joinW (· ^^^ ·) n us m vs) (joinE n us m vs) w) := by
  have q2 := Box.new ((w.alloc (.cells #[.int .i64 n, .slice A l c] 56)).alloc (.cells #[.int .i64 m, .slice B k d] 56)) 56 #[.int .i64 0, .slice none 0 0]
  have hW : Below w.heap.size w (((w.alloc (.cells #[.int .i64 n, .slice A l c] 56)).alloc (.cells #[.int .i64 m, .slice B k d] 56)).alloc (.cells #[.int .i64 0, .slice none 0 0] 56)) := (((Below.refl _ _).alloc (Nat.le_refl _) _).alloc (by simp) _).alloc (by simp; omega) _
  simp only [World.size_alloc] at q2
  have Q2 := Lib.hid q2
  have HW := Lib.hid hW
  have HU := Lib.hid (hu.below hW)
  have HV := Lib.hid (hv.below hW)
  clear q2 hW hu hv
  go_enter Tryz.func75, Tryz.ntmps75
  go_wp2_with fail
  refine (joined_x n m A B l c k d us vs _ HU.out HV.out).mono ?_
  rintro e x1 ⟨A1, l1, c1, rfl, hw, hb⟩
  have P2 := Lib.hid (Q2.out.keep hb)
  have HB := Lib.hid (chain HW.out hb)
  have HWo := Lib.hid hw
  clear hb hw
  obtain ⟨r0, r1, r2, r3⟩ := P2.out.two
  go_wp2
  refine close_cell Tryz.results75 rfl rfl rfl P2.out.put2 Tryz.underlying56 rfl (by kernel_rfl) ⟨_, _, _, rfl, ?_, ?_⟩
  · exact HWo.out.put2 P2.out _ _
  · exact (HB.out.setCell (p := ⟨w.heap.size + 1 + 1, 0, none⟩) (by simp; omega) _).setCell (p := ⟨w.heap.size + 1 + 1, 1, none⟩) (by simp; omega) _
end
section
/- Rows of one size that may be: what Xor and And of them are; the plain laws of both. -/
set_option linter.unusedVariables false
set_option linter.unusedSimpArgs false
open Go.RowKit
theorem right_len_eq {n : Int} {us : List Nat} (h : rightB n us = true) : us.length = nw n.toNat := by
  simp only [rightB, Bool.and_eq_true, beq_iff_eq] at h
  exact h.1.2
theorem right_lmb {n : Int} {us : List Nat} (h : rightB n us = true) : lmb n = true := by
  simp only [rightB, Bool.and_eq_true] at h
  exact h.1.1
theorem zip_last (g : Nat → Nat → Nat) (us vs : List Nat) (i : Nat) (hu : i < us.length) (hv : i < vs.length) : (List.zipWith g us vs).getD i 0 = g (us.getD i 0) (vs.getD i 0) := by
  simp [List.getD, List.getElem?_zipWith, hu, hv]
theorem right_zip (g : Nat → Nat → Nat) (hg : ∀ x y k, x / 2 ^ k = 0 → y / 2 ^ k = 0 → g x y / 2 ^ k = 0) {n : Int} {us vs : List Nat} (h1 : rightB n us = true) (h2 : rightB n vs = true) : rightB n (List.zipWith g us vs) = true := by
  have l1 := right_len_eq h1
  have l2 := right_len_eq h2
  have hl : (List.zipWith g us vs).length = us.length := by simp; omega
  simp only [rightB, Bool.and_eq_true, Bool.or_eq_true, beq_iff_eq] at h1 h2 ⊢
  refine ⟨⟨h1.1.1, by rw [hl]; exact h1.1.2⟩, ?_⟩
  rcases h1.2 with h | h
  · exact .inl h
  · rcases h2.2 with h' | h'
    · exact .inl h'
    · by_cases h0 : us.length = 0
      · left
        rw [l1] at h0
        unfold nw at h0
        omega
      · right
        rw [hl, zip_last g us vs _ (by omega) (by omega)]
        exact hg _ _ _ h (by rw [l2, ← l1] at h'; exact h')
theorem xor_div (x y k : Nat) (h : x / 2 ^ k = 0) (h' : y / 2 ^ k = 0) : (x ^^^ y) / 2 ^ k = 0 := by
  have p : 0 < 2 ^ k := Nat.two_pow_pos k
  rw [Nat.div_eq_zero_iff] at h h' ⊢
  right
  exact Nat.xor_lt_two_pow (by omega) (by omega)
theorem and_div (x y k : Nat) (h : x / 2 ^ k = 0) (_ : y / 2 ^ k = 0) : (x &&& y) / 2 ^ k = 0 := by
  have p : 0 < 2 ^ k := Nat.two_pow_pos k
  rw [Nat.div_eq_zero_iff] at h ⊢
  right
  have := Nat.and_le_left (n := x) (m := y)
  omega
def xorL (us vs : List Nat) : List Nat := List.zipWith (· ^^^ ·) us vs
def andL (us vs : List Nat) : List Nat := List.zipWith (· &&& ·) us vs
theorem right_xor {n : Int} {us vs : List Nat} (h1 : rightB n us = true) (h2 : rightB n vs = true) : rightB n (xorL us vs) = true := right_zip _ xor_div h1 h2
theorem right_and {n : Int} {us vs : List Nat} (h1 : rightB n us = true) (h2 : rightB n vs = true) : rightB n (andL us vs) = true := right_zip _ and_div h1 h2
theorem xor_ok (n : Int) (A B : Option Addr) (l c k d : Nat) (us vs : List Nat) (w : World) (hu : Words w A l us) (hv : Words w B k vs) (h1 : rightB n us = true) (h2 : rightB n vs = true) :
    Calls Tryz.prog 75 #[.agg #[.int .i64 n, .slice A l c], .agg #[.int .i64 n, .slice B k d]] w (RowOut n (xorL us vs) 0 w) := by
  have h := xor_any n n A B l c k d us vs w hu hv
  unfold joinN joinW joinE at h
  rw [h1, h2] at h
  simpa [xorL] using h
theorem joinE_ok {n m : Int} {us vs : List Nat} (h : joinE n us m vs = 0) : rightB n us = true ∧ rightB m vs = true ∧ n = m := by
  unfold joinE at h
  split at h
  · rename_i h1
    rw [Bool.and_eq_true] at h1
    split at h
    · rename_i h2
      exact ⟨h1.1, h1.2, by simpa using h2⟩
    · omega
  · omega
theorem joinE_no {n m : Int} {us vs : List Nat} (g : Nat → Nat → Nat) (h : joinE n us m vs ≠ 0) : joinN n us m vs = 0 ∧ joinW g n us m vs = [] := by
  unfold joinE at h
  unfold joinN joinW
  by_cases h1 : (rightB n us && rightB m vs) = true
  · rw [if_pos h1] at h
    by_cases h2 : (n == m) = true
    · rw [if_pos h2] at h; omega
    · rw [if_neg (by simp [h2]), if_neg (by simp [h2])]; exact ⟨rfl, rfl⟩
  · rw [if_neg (by simp [h1]), if_neg (by simp [h1])]; exact ⟨rfl, rfl⟩
theorem xorL_comm (us vs : List Nat) : xorL us vs = xorL vs us := by
  unfold xorL
  rw [List.zipWith_comm]
  congr 1
  funext x y
  exact Nat.xor_comm _ _
theorem andL_comm (us vs : List Nat) : andL us vs = andL vs us := by
  unfold andL
  rw [List.zipWith_comm]
  congr 1
  funext x y
  exact Nat.and_comm _ _
theorem xorL_assoc (us vs zs : List Nat) : xorL (xorL us vs) zs = xorL us (xorL vs zs) := by
  induction us generalizing vs zs with
  | nil => simp [xorL]
  | cons x us ih =>
    cases vs with
    | nil => simp [xorL]
    | cons y vs =>
      cases zs with
      | nil => simp [xorL]
      | cons z zs =>
        have := ih vs zs
        simp only [xorL, List.zipWith_cons_cons] at this ⊢
        rw [this, Nat.xor_assoc]
theorem andL_xor (us vs zs : List Nat) : andL us (xorL vs zs) = xorL (andL us vs) (andL us zs) := by
  induction us generalizing vs zs with
  | nil => simp [xorL, andL]
  | cons x us ih =>
    cases vs with
    | nil => simp [xorL, andL]
    | cons y vs =>
      cases zs with
      | nil => simp [xorL, andL]
      | cons z zs =>
        have := ih vs zs
        simp only [xorL, andL, List.zipWith_cons_cons] at this ⊢
        rw [this, Nat.and_xor_distrib_left]
end
section
/- Contracts of the reference's Xor and And. -/
set_option linter.unusedVariables false
set_option linter.unusedSimpArgs false
open Go.RowKit
set_option maxRecDepth 100000
theorem int_info : (Tryz.prog.info? 3).map (fun i => (i.zero, i.size, i.bytes)) = some (some (.int .i64 0), 1, 8) := by kernel_rfl
def bitSums (g : Nat → Nat → Nat) (us vs : List Nat) (i : Nat) : List Int := (List.range i).map fun j => ((g (bitAt us j) (bitAt vs j) : Nat) : Int)
theorem bitSums_succ (g : Nat → Nat → Nat) (us vs : List Nat) (i : Nat) : bitSums g us vs (i + 1) = bitSums g us vs i ++ [((g (bitAt us i) (bitAt vs i) : Nat) : Int)] := by simp [bitSums, List.range_succ]
theorem bitSums_len (g : Nat → Nat → Nat) (us vs : List Nat) (i : Nat) : (bitSums g us vs i).length = i := by simp [bitSums]
theorem bitSums_get (g : Nat → Nat → Nat) (us vs : List Nat) (i j : Nat) (h : j < i) : (bitSums g us vs i).getD j 0 = ((g (bitAt us j) (bitAt vs j) : Nat) : Int) := by simp [bitSums, List.getD, h]
theorem bitSums_lt (us vs : List Nat) (i j : Nat) : -9223372036854775808 ≤ (bitSums (fun x y => (x + y) % 2) us vs i).getD j 0 ∧ (bitSums (fun x y => (x + y) % 2) us vs i).getD j 0 ≤ 9223372036854775807 := by
  by_cases h : j < i
  · rw [bitSums_get _ us vs i j h]; omega
  · have hn : (bitSums (fun x y => (x + y) % 2) us vs i)[j]? = none := List.getElem?_eq_none (by rw [bitSums_len]; omega)
    simp only [List.getD, hn, Option.getD_none]
    omega
theorem accM_bit (b : Nat → Bool) (i m j : Nat) (hm : m ≤ 64) : (accM b i m).testBit j = (decide (j < m) && b (64 * i + (64 - m + j))) := by
  induction m generalizing j with
  | zero => simp [accM]
  | succ m ih =>
    simp only [accM]
    cases j with
    | zero =>
      rw [Nat.testBit_zero]
      have e : 64 - (m + 1) + 0 = 63 - m := by omega
      rw [e]
      cases b (64 * i + (63 - m)) <;> simp <;> omega
    | succ j =>
      rw [Nat.testBit_succ]
      have e : (2 * accM b i m + if b (64 * i + (63 - m)) = true then 1 else 0) / 2 = accM b i m := by split <;> omega
      rw [e, ih j (by omega)]
      have e2 : 64 - m + j = 64 - (m + 1) + (j + 1) := by omega
      rw [e2]
      have e3 : decide (j < m) = decide (j + 1 < m + 1) := by simp
      rw [e3]
theorem bitAt_test (us : List Nat) (i : Nat) : (bitAt us i == 1) = (us.getD (i / 64) 0).testBit (i % 64) := by
  rw [Nat.testBit_eq_decide_div_mod_eq]; rfl
/-- A row that may be has no bits behind its last. -/
theorem right_bits {n : Nat} {us : List Nat} (h : rightB n us = true) (i : Nat) (hi : n ≤ i) (hl : i < 64 * us.length) : bitAt us i = 0 := by
  have hlm := right_lmb h
  have hle := right_len_eq h
  rw [Int.toNat_natCast] at hle
  rcases bitAt_le us i with h0 | h1
  · exact h0
  · have := not_right_of_bit n us.length i us hlm rfl hle hi hl h1
    rw [h] at this
    cases this
theorem from_zip (g : Nat → Nat → Nat) (f : Nat → Nat → Nat) (hgf : ∀ x y k, (f x y).testBit k = (g (if x.testBit k then 1 else 0) (if y.testBit k then 1 else 0) == 1)) (h00 : g 0 0 = 0) (hf : ∀ x y, x < 18446744073709551616 → y < 18446744073709551616 → f x y < 18446744073709551616) (n : Nat) (us vs : List Nat) (h1 : rightB n us = true) (h2 : rightB n vs = true)
    (hu : ∀ j, us.getD j 0 < 18446744073709551616) (hv : ∀ j, vs.getD j 0 < 18446744073709551616) :
    fromL (bitsOf (bitSums g us vs n)) (nw n) = List.zipWith f us vs := by
  have l1 := right_len_eq h1
  have l2 := right_len_eq h2
  rw [Int.toNat_natCast] at l1 l2
  apply List.ext_getElem
  · rw [fromL_len]; simp; omega
  · intro i hi1 hi2
    have hi : i < nw n := by rw [fromL_len] at hi1; exact hi1
    have iu : i < us.length := by omega
    have iv : i < vs.length := by omega
    simp only [fromL, List.getElem_map, List.getElem_range, List.getElem_zipWith]
    have eu : us[i] = us.getD i 0 := by simp [List.getD, iu]
    have ev : vs[i] = vs.getD i 0 := by simp [List.getD, iv]
    rw [eu, ev]
    apply Nat.eq_of_testBit_eq
    intro j
    rw [accM_bit _ _ _ _ (Nat.le_refl _)]
    by_cases hj : j < 64
    · have e0 : 64 * i + (64 - 64 + j) = 64 * i + j := by omega
      have ed : (64 * i + j) / 64 = i := by omega
      have em : (64 * i + j) % 64 = j := by omega
      have bu : (if (us.getD i 0).testBit j then 1 else 0) = bitAt us (64 * i + j) := by
        have := bitAt_test us (64 * i + j)
        rw [ed, em] at this
        rw [← this]
        rcases bitAt_le us (64 * i + j) with h | h <;> rw [h] <;> rfl
      have bv : (if (vs.getD i 0).testBit j then 1 else 0) = bitAt vs (64 * i + j) := by
        have := bitAt_test vs (64 * i + j)
        rw [ed, em] at this
        rw [← this]
        rcases bitAt_le vs (64 * i + j) with h | h <;> rw [h] <;> rfl
      rw [e0, hgf, bu, bv]
      have hd : decide (j < 64) = true := by simpa using hj
      rw [hd, Bool.true_and]
      unfold bitsOf
      rw [bitSums_len]
      by_cases hn : 64 * i + j < n
      · rw [bitSums_get g us vs n _ hn]
        have : decide (64 * i + j < n) = true := by simpa using hn
        rw [this, Bool.true_and]
        rw [Bool.eq_iff_iff]
        simp only [beq_iff_eq]
        omega
      · have z1 := right_bits h1 (64 * i + j) (by omega) (by omega)
        have z2 := right_bits h2 (64 * i + j) (by omega) (by omega)
        have : decide (64 * i + j < n) = false := by simpa using hn
        rw [this, Bool.false_and, z1, z2, h00]; rfl
    · have hd : decide (j < 64) = false := by simpa using hj
      rw [hd, Bool.false_and]
      symm
      exact Nat.testBit_lt_two_pow (Nat.lt_of_lt_of_le (hf _ _ (hu i) (hv i)) (show 2 ^ 64 ≤ 2 ^ j from Nat.pow_le_pow_right (by omega) (by omega)))
theorem from_xor (n : Nat) (us vs : List Nat) (h1 : rightB n us = true) (h2 : rightB n vs = true) (hu : ∀ j, us.getD j 0 < 18446744073709551616) (hv : ∀ j, vs.getD j 0 < 18446744073709551616) :
    fromL (bitsOf (bitSums (fun x y => (x + y) % 2) us vs n)) (nw n) = xorL us vs := by
  refine from_zip _ _ ?_ rfl (fun x y hx hy => Nat.xor_lt_two_pow (n := 64) hx hy) n us vs h1 h2 hu hv
  intro x y k
  rw [Nat.testBit_xor]
  cases x.testBit k <;> cases y.testBit k <;> rfl
set_option maxHeartbeats 2000000 in
theorem refXor_any (n : Nat) (A B : Option Addr) (l c k d : Nat) (us vs : List Nat) (w : World) (hu : Words w A l us) (hv : Words w B k vs) (h1 : rightB n us = true) (h2 : rightB n vs = true) :
    Calls Tryz.prog 65 #[.agg #[.int .i64 n, .slice A l c], .agg #[.int .i64 n, .slice B k d]] w (OneRow n (xorL us vs) w) := by
  obtain ⟨i0, hi, hz0, hz1, hz2⟩ := info_parts int_info
  have hn := (lmb_iff n).1 (right_lmb h1)
  have q0 := ((Box.new w 56 #[.int .i64 n, .slice A l c]).alloc (.cells #[.int .i64 n, .slice B k d] 56)).alloc (.cells #[.int .i64 0, .slice none 0 0] 56)
  have q1 := (Box.new (w.alloc (.cells #[.int .i64 n, .slice A l c] 56)) 56 #[.int .i64 n, .slice B k d]).alloc (.cells #[.int .i64 0, .slice none 0 0] 56)
  have q2 := Box.new ((w.alloc (.cells #[.int .i64 n, .slice A l c] 56)).alloc (.cells #[.int .i64 n, .slice B k d] 56)) 56 #[.int .i64 0, .slice none 0 0]
  have hW : Below w.heap.size w (((w.alloc (.cells #[.int .i64 n, .slice A l c] 56)).alloc (.cells #[.int .i64 n, .slice B k d] 56)).alloc (.cells #[.int .i64 0, .slice none 0 0] 56)) := (((Below.refl _ _).alloc (Nat.le_refl _) _).alloc (by simp) _).alloc (by simp; omega) _
  simp only [World.size_alloc] at q1 q2
  go_enter Tryz.func65, Tryz.ntmps65
  go_wp2
  have hz := q2.lt
  have how := (own_empty (((w.alloc (.cells #[.int .i64 n, .slice A l c] 56)).alloc (.cells #[.int .i64 n, .slice B k d] 56)).alloc (.cells #[.int .i64 0, .slice none 0 0] 56)) w.heap.size 3 hW.size)
  simp only [World.size_alloc] at how
  have HOw := Lib.hid how
  clear how
  have Q0 := Lib.hid (q0.alloc (.cells #[] 3))
  have Q1 := Lib.hid (q1.alloc (.cells #[] 3))
  have Q2 := Lib.hid (q2.alloc (.cells #[] 3))
  have HW := Lib.hid (hW.alloc hW.size (.cells #[] 3))
  have HU := Lib.hid hu
  have HV := Lib.hid hv
  have HR1 := Lib.hid h1
  have HR2 := Lib.hid h2
  have hl8 := rightB_len8 h1 hu.1
  have hl := right_len_eq h1
  rw [hu.1, Int.toNat_natCast] at hl
  have hk := right_len_eq h2
  rw [hv.1, Int.toNat_natCast] at hk
  have hn64 : n ≤ 64 * l := by rw [hl]; unfold nw; omega
  have hn64' : n ≤ 64 * k := by rw [hk]; unfold nw; omega
  have hk8 := rightB_len8 h2 hv.1
  clear q0 q1 q2 hW hu hv h1 h2 hz hl hk
  have HI := Lib.hid hi
  have HZ0 := Lib.hid hz0
  have HZ1 := Lib.hid hz1
  have HZ2 := Lib.hid hz2
  clear hi hz0 hz1 hz2
  go_loopw [5, 6] (fun v t wr => ∃ i : Nat, i ≤ n ∧ t = .int .i64 i ∧ wr.ownsRow w.heap.size 3 1 v i ((bitSums (fun x y => (x + y) % 2) us vs i).map (Value.int .i64)) ∧ Box wr w.heap.size 56 #[.int .i64 n, .slice A l c] ∧ Box wr (w.heap.size + 1) 56 #[.int .i64 n, .slice B k d] ∧ Box wr (w.heap.size + 1 + 1) 56 #[.int .i64 0, .slice none 0 0] ∧ Below w.heap.size w wr)
    (fun _ t _ => n - (intOf t).toNat)
  case atStart => exact ⟨0, by omega, rfl, HOw.out, Q0.out, Q1.out, Q2.out, HW.out⟩
  case round =>
    obtain ⟨i, hi, rfl, hown, B0, B1, B2, hbel⟩ := hrel
    have R0 := Lib.hid B0
    have R1 := Lib.hid B1
    have R2 := Lib.hid B2
    have HO := Lib.hid hown
    have HB := Lib.hid hbel
    clear B0 B1 B2 hown hbel Q0 Q1 Q2 HW HOw
    obtain ⟨a0, a1, -, -⟩ := R0.out.two
    obtain ⟨b0, b1, -, -⟩ := R1.out.two
    by_cases hlt : i < n
    · have hlt' : (i : Int) < (n : Int) := by omega
      have bu := bitAt_le us i
      have bv := bitAt_le vs i
      have hi' := HI.out
      have hz0' := HZ0.out
      have hz1' := HZ1.out
      have hz2' := HZ2.out
      have hz := R2.out.lt
      have hne := Lib.hid (show (3 : TypeId) ≠ 56 by decide)
      generalize hX : bitAt us i = x at *
      generalize hY : bitAt vs i = y at *
      have HX := Lib.hid hX
      have HY := Lib.hid hY
      clear hX hY
      have hxy : (x : Int) + y ≤ 2 := by omega
      have hxy0 : 0 ≤ (x : Int) + y := by omega
      have f1 : IntKind.i64.wrap ((x : Int) + y) = (x : Int) + y := IntWalk.i64_in _ (by omega)
      have f2 : ((x : Int) + y).tmod 2 = (((x + y) % 2 : Nat) : Int) := by rw [Int.tmod_eq_emod_of_nonneg (by omega)]; omega
      have HC1 := Lib.hid (fun (W : World) (h : Words W A l us) => bit_any n A l c i us W h (by omega) (by omega))
      have HC2 := Lib.hid (fun (W : World) (h : Words W B k vs) => bit_any n B k d i vs W h (by omega) (by omega))
      rw [HX.out] at HC1
      rw [HY.out] at HC2
      go_wp2
      go_region_held3 (fun w' => w'.cell? ⟨w.heap.size, 0, none⟩ = some (.int .i64 n) ∧ w'.cell? ⟨w.heap.size, 1, none⟩ = some (.slice A l c) ∧ w'.cell? ⟨w.heap.size + 1, 0, none⟩ = some (.int .i64 n) ∧ w'.cell? ⟨w.heap.size + 1, 1, none⟩ = some (.slice B k d))
        (go_keep)
        (first
          | (go_at_call_of 64 (Value.agg #[.int .i64 n, .slice A l c]); refine (HC1.out _ (HU.out.below HB.out).drew).mono ?_; rintro e1 x1 ⟨rfl, hb1⟩; have P0 := Lib.hid (R0.out.drew.keep hb1); have P1 := Lib.hid (R1.out.drew.keep hb1); have P2 := Lib.hid (R2.out.drew.keep hb1); have O1 := Lib.hid (own_keep HO.out.drew hb1); have T1 := Lib.hid (chain HB.out.drew hb1); clear hb1; obtain ⟨k0, k1, -, -⟩ := P0.out.two; obtain ⟨k2, k3, -, -⟩ := P1.out.two)
          | (go_at_call_of 64 (Value.agg #[.int .i64 n, .slice B k d]); refine (HC2.out _ (HV.out.below T1.out)).mono ?_; rintro e2 x2 ⟨rfl, hb2⟩; have S0 := Lib.hid (P0.out.keep hb2); have S1 := Lib.hid (P1.out.keep hb2); have S2 := Lib.hid (P2.out.keep hb2); have O2 := Lib.hid (own_keep O1.out hb2); have T2 := Lib.hid (chain T1.out hb2); clear hb2; obtain ⟨m0, m1, -, -⟩ := S0.out.two; obtain ⟨m2, m3, -, -⟩ := S1.out.two; have X0 := Lib.hid (S0.out.alloc (.cells #[.int .i64 (((x + y) % 2 : Nat) : Int)] 3)); have X1 := Lib.hid (S1.out.alloc (.cells #[.int .i64 (((x + y) % 2 : Nat) : Int)] 3)); have X2 := Lib.hid (S2.out.alloc (.cells #[.int .i64 (((x + y) % 2 : Nat) : Int)] 3)); have XO := Lib.hid (O2.out.alloc (.cells #[.int .i64 (((x + y) % 2 : Nat) : Int)] 3)); have XB := Lib.hid (T2.out.alloc T2.out.size (.cells #[.int .i64 (((x + y) % 2 : Nat) : Int)] 3)); have N0 := Lib.hid (own_ne XO.out X0.out hne.out); have N1 := Lib.hid (own_ne XO.out X1.out hne.out); have N2 := Lib.hid (own_ne XO.out X2.out hne.out); have N3 := Lib.hid (fun k hk => (O2.out.lt k hk).1))
          | (refine step_append_lies _ (by rfl) _ _ _ (by rfl) w.heap.size 3 i0 _ 1 8 Tryz.underlying66 hi' hz0' hz1' hz2' rfl (by omega) _ _ _ (by rfl) XO.out ⟨x2.heap.size, 0, none⟩ 1 1 [.int .i64 (((x + y) % 2 : Nat) : Int)] (by rfl) (by rfl) (cell_one_new _ _ _) (by simp [Value.oneCell']) (by omega) (by simp [maxLen]; omega) (by omega) XB.out.size (x2.heap.size + 1) (by simp) ?_; intro gg cap w1 hown1 hgrow hat hlg; have Y0 := Lib.hid (X0.out.grown hgrow N0.out); have Y1 := Lib.hid (X1.out.grown hgrow N1.out); have Y2 := Lib.hid (X2.out.grown hgrow N2.out); have YB := Lib.hid (XB.out.grown hgrow XB.out.size N3.out); have YO := Lib.hid hown1; clear hgrow hat hown1; obtain ⟨p0, p1, -, -⟩ := Y0.out.two; obtain ⟨p2, p3, -, -⟩ := Y1.out.two))
      clear p0 p1 p2 p3 m0 m1 m2 m3 k0 k1 k2 k3 a0 a1 b0 b1 f1 f2 hi' hz0' hz1' hz2'
      go_wp2
      go_roundw
      case rel =>
        refine ⟨i + 1, by omega, by go_num, ?_, Y0.out, Y1.out, Y2.out, YB.out⟩
        have h := YO.out
        rw [bitSums_succ, List.map_append, HX.out, HY.out]
        exact h
      case measure => simp [intOf] <;> omega
    · obtain rfl : i = n := by omega
      have hlt' : ¬ (i : Int) < (i : Int) := by omega
      obtain ⟨A', c', rfl, hA'⟩ := own_form HO.out
      go_wp2_with fail
      refine (from_any A' i c' _ _ (own_ints HO.out (bitSums_lt us vs i)) (by omega)).mono ?_
      rintro e x1 ⟨A1, l1, c1, rfl, hw, hb⟩
      have P2 := Lib.hid (R2.out.keep hb)
      have T1 := Lib.hid (chain HB.out hb)
      have HWo := Lib.hid hw
      clear hw hb a0 a1 b0 b1
      obtain ⟨r0, r1, r2, r3⟩ := P2.out.two
      go_wp2
      refine close_one Tryz.results65 rfl rfl P2.out.put2 Tryz.underlying56 rfl (by kernel_rfl) ⟨_, _, _, rfl, ?_, ?_⟩
      · have h := HWo.out
        rw [from_xor i us vs HR1.out HR2.out HU.out.2.1 HV.out.2.1] at h
        exact h.put2 P2.out _ _
      · exact (T1.out.setCell (p := ⟨w.heap.size + 1 + 1, 0, none⟩) (by simp; omega) _).setCell (p := ⟨w.heap.size + 1 + 1, 1, none⟩) (by simp; omega) _
theorem bitSums_lt_and (us vs : List Nat) (i j : Nat) : -9223372036854775808 ≤ (bitSums (fun x y => x * y) us vs i).getD j 0 ∧ (bitSums (fun x y => x * y) us vs i).getD j 0 ≤ 9223372036854775807 := by
  by_cases h : j < i
  · rw [bitSums_get _ us vs i j h]
    rcases bitAt_le us j with h1 | h1 <;> rcases bitAt_le vs j with h2 | h2 <;> rw [h1, h2] <;> decide
  · have hn : (bitSums (fun x y => x * y) us vs i)[j]? = none := List.getElem?_eq_none (by rw [bitSums_len]; omega)
    simp only [List.getD, hn, Option.getD_none]
    omega
theorem from_and (n : Nat) (us vs : List Nat) (h1 : rightB n us = true) (h2 : rightB n vs = true) (hu : ∀ j, us.getD j 0 < 18446744073709551616) (hv : ∀ j, vs.getD j 0 < 18446744073709551616) :
    fromL (bitsOf (bitSums (fun x y => x * y) us vs n)) (nw n) = andL us vs := by
  refine from_zip _ _ ?_ rfl (fun x y hx hy => Nat.and_lt_two_pow (n := 64) _ hy) n us vs h1 h2 hu hv
  intro x y k
  rw [Nat.testBit_and]
  cases x.testBit k <;> cases y.testBit k <;> rfl
end
end Go.Proofs.YtmfhimeffmpgaaaGreat
