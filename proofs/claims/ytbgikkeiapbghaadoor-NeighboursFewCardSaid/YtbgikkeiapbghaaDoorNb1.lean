/- Contracts of layer 8: Places, Row. -/
import Derived.Test.YtbgikkeiapbghaaDoorRndH
import Derived.Test.YtbgikkeiapbghaaDoorDegS1
import Derived.Test.YtbgikkeiapbghaaDoorOf
import Derived.Test.YtbgikkeiapbghaaDoorSame
import Derived.Test.YtbgikkeiapbghaaDoorFew
namespace Go.Proofs.YtbgikkeiapbghaaDoor
open Go.RowKit
/-- A symbol's state, how many blocks it has, and which. -/
def nbState (id : Nat) : Nat := nextS (mixN id)
def nbMany (k id : Nat) : Nat := pickD (tbl (wgts k k)) (mixN (nbState id))
def nbL (k id : Nat) : List Nat := someN k (nbMany k id) (nbState id)
theorem nbState_lt (id : Nat) : nbState id < 18446744073709551616 := nextS_lt _
theorem nbMany_range (k id : Nat) (h1 : 1 ≤ k) (h2 : k ≤ 64) : 1 ≤ nbMany k id ∧ nbMany k id ≤ k := by
  have := pick_range (tab_k k h1 h2) (mixN (nbState id))
  rw [tbl_len, wgts_len] at this
  exact this
theorem srcMay_any (k : Int) (w : World) : Calls Tryd.prog 11 #[.int .i64 k] w fun e w' => e = .returned (.bool (kmb k)) ∧ w = w' := by
  by_cases h : 1 ≤ k
  · by_cases h2 : k ≤ 64
    · rw [kmb_yes ⟨h, h2⟩]
      go_enter Tryd.func11, Tryd.ntmps11
      go_wp2
      go_ret
      exact ⟨rfl, rfl⟩
    · rw [kmb_no (fun x => h2 x.2)]
      have t : decide (k ≤ 64) = false := by simpa using h2
      go_enter Tryd.func11, Tryd.ntmps11
      go_wp2
      go_ret
      exact ⟨by simp, rfl⟩
  · rw [kmb_no (fun x => h x.1)]
    have t : decide (1 ≤ k) = false := by simpa using h
    go_enter Tryd.func11, Tryd.ntmps11
    go_wp2
    go_ret
    exact ⟨by simp, rfl⟩
/-- What places hands back. -/
def PlOut (k id : Nat) (w : World) (e : Ending) (w' : World) : Prop :=
  ∃ g c, e = .returned (.slice (some ⟨g, 0, none⟩) (nbMany k id) c) ∧ nbMany k id ≤ c ∧ NatsAt w' g (nbL k id) ∧ (nbL k id).length = nbMany k id ∧ w.heap.size ≤ g ∧ g < w'.heap.size ∧ Below w.heap.size w w'
set_option maxHeartbeats 1000000 in
theorem srcPlaces_any (k id : Nat) (h1 : 1 ≤ k) (h2 : k ≤ 64) (hi : id < 18446744073709551616) (w : World) : Calls Tryd.prog 12 #[.int .i64 k, .int .u64 id] w (PlOut k id w) := by
  have HST := Lib.hid (start_any id hi)
  have HNX := Lib.hid (next_any (mixN id) (mixN_lt id))
  have HTB := Lib.hid (tableN_any k h1 h2)
  have HR := Lib.hid (nbMany_range k id h1 h2)
  have HTK := Lib.hid (tab_k k h1 h2)
  have HTL := Lib.hid (show (tbl (wgts k k)).length = k by rw [tbl_len, wgts_len])
  have HTW := Lib.hid (tbl_lt (wgts k k))
  have HSM := Lib.hid (some_yes (nbState id) k (nbMany k id) (nbState_lt id) h1 (by omega) HR.out.2)
  have HX := Lib.hid (mixN_lt (nbState id))
  have HPK := Lib.hid (show nbMany k id = pickD (tbl (wgts k k)) (mixN (nbState id)) from rfl)
  go_enter Tryd.func12, Tryd.ntmps12
  go_wp2_with fail
  refine (HST.out _).mono ?_
  rintro e w1 ⟨rfl, rfl⟩
  go_wp2_with fail
  refine (HNX.out _).mono ?_
  rintro e w1 ⟨rfl, rfl⟩
  go_wp2_with fail
  refine (HTB.out _).mono ?_
  rintro e w1 ⟨v, rfl, hown, hb⟩
  rw [HTL.out] at hown
  obtain ⟨A, c, rfl, hlc, hcm, hw⟩ := own_slice hown HTW.out
  have HW := Lib.hid hw
  have B := Lib.hid hb
  clear hown hw hb HST HNX HTB
  go_wp2_with fail
  refine (pick_yes A k c _ _ _ HW.out (by unfold maxLen; omega) hlc HX.out HTK.out).mono ?_
  rintro e w2 ⟨rfl, hb⟩
  rw [← HPK.out]
  have B := Lib.hid (chain B.out hb)
  clear hb HW
  go_wp2_with fail
  refine (HSM.out _).mono ?_
  rintro e w3 ⟨g, c2, rfl, hc, hna, hl, hg0, hg1, hb⟩
  have B3 := Lib.hid (chain B.out hb)
  have hsz := B.out.size
  go_wp2_with fail
  go_ret
  exact ⟨g, c2, rfl, hc, hna, hl, by omega, hg1, B3.out⟩
/-- The row of a symbol's blocks. -/
def nbZ (k id : Nat) : List Int := castZ (nbL k id)
def nbRow (k id : Nat) : List Nat := ofBits k (nbZ k id)
theorem nb_there (k id : Nat) : there (k : Int) (nbZ k id) = true := by
  simp only [there, nbZ, castZ, List.all_eq_true, List.mem_map]
  rintro x ⟨y, hy, rfl⟩
  have := List.mem_filter.1 hy
  have h2 : y < k := by simpa using this.1
  simp; omega
theorem nb_len (k id : Nat) (h1 : 1 ≤ k) (h2 : k ≤ 64) : (nbL k id).length = nbMany k id := some_len k (nbMany k id) (nbState id) h1 (nbState_lt id) (nbMany_range k id h1 h2).2
theorem nb_ofN (k id : Nat) (h1 : 1 ≤ k) (h2 : k ≤ 64) : ofN (k : Int) (nbZ k id) = k ∧ ofW (k : Int) (nbZ k id) = nbRow k id ∧ ofE (k : Int) (nbZ k id) = 0 := by
  have h : lmb (k : Int) = true := (lmb_iff _).2 ⟨by omega, by omega⟩
  unfold ofN ofW ofE
  rw [h, nb_there]
  exact ⟨rfl, rfl, rfl⟩
theorem lmb_k (k : Nat) (h1 : 1 ≤ k) (h2 : k ≤ 64) : lmb (k : Int) = true := (lmb_iff _).2 ⟨by omega, by omega⟩
/-- neighbours.Places, of a number that may be. -/
theorem places_yes (k id : Nat) (h1 : 1 ≤ k) (h2 : k ≤ 64) (hi : id < 18446744073709551616) (w : World) : Calls Tryd.prog 4 #[.int .i64 k, .int .u64 id] w fun e w' => ∃ g c, e = .returned (.tuple #[.slice (some ⟨g, 0, none⟩) (nbMany k id) c, .int .i64 0]) ∧ nbMany k id ≤ c ∧ NatsAt w' g (nbL k id) ∧ (nbL k id).length = nbMany k id ∧ w.heap.size ≤ g ∧ g < w'.heap.size ∧ Below w.heap.size w w' := by
  have HM := Lib.hid (srcMay_any k)
  rw [kmb_yes (n := k) (by omega)] at HM
  have HS := Lib.hid (srcPlaces_any k id h1 h2 hi)
  go_enter Tryd.func4, Tryd.ntmps4
  go_wp2_with fail
  refine (HM.out _).mono ?_
  rintro e w1 ⟨rfl, rfl⟩
  go_wp2_with fail
  refine (HS.out _).mono ?_
  rintro e w1 ⟨g, c, rfl, hc, hna, hl, hg0, hg1, hb⟩
  go_wp2_with fail
  go_ret2
  exact ⟨g, c, rfl, hc, hna, hl, hg0, hg1, hb⟩
theorem places_no (k : Int) (id : Nat) (h : ¬ (1 ≤ k ∧ k ≤ 64)) (w : World) : Calls Tryd.prog 4 #[.int .i64 k, .int .u64 id] w fun e w' => e = .returned (.tuple #[.slice none 0 0, .int .i64 2]) ∧ w = w' := by
  have HM := Lib.hid (srcMay_any k)
  rw [kmb_no h] at HM
  go_enter Tryd.func4, Tryd.ntmps4
  go_wp2_with fail
  refine (HM.out _).mono ?_
  rintro e w1 ⟨rfl, rfl⟩
  go_wp2_with fail
  go_ret2
  exact ⟨rfl, rfl⟩
set_option maxHeartbeats 1000000 in
theorem srcRow_any (k id : Nat) (h1 : 1 ≤ k) (h2 : k ≤ 64) (hi : id < 18446744073709551616) (w : World) : Calls Tryd.prog 13 #[.int .i64 k, .int .u64 id] w (OneRow k (nbRow k id) w) := by
  have HS := Lib.hid (srcPlaces_any k id h1 h2 hi)
  have HM := Lib.hid (nbMany_range k id h1 h2)
  have HN := Lib.hid (nb_ofN k id h1 h2)
  have q0 := Box.new w 29 #[.int .i64 0, .slice none 0 0]
  have Q0 := Lib.hid q0
  have HW := Lib.hid (show Below w.heap.size w (w.alloc (.cells #[.int .i64 0, .slice none 0 0] 29)) from (Below.refl _ _).alloc (Nat.le_refl _) _)
  clear q0
  go_enter Tryd.func13, Tryd.ntmps13
  go_wp2_with fail
  refine (HS.out _).mono ?_
  rintro e w1 ⟨g, c, rfl, hc, hna, hl, hg0, hg1, hb⟩
  have Q0 := Lib.hid (Q0.out.keep hb)
  have HW := Lib.hid (chain HW.out hb)
  have HI := Lib.hid (nats_ints hna hl hg1 (some_bound k _ _ (by omega)))
  clear hna hb
  go_wp2_with fail
  refine (of_any k (some ⟨g, 0, none⟩) (nbMany k id) c (nbZ k id) _ HI.out (by have := HM.out.2; omega)).mono ?_
  rw [HN.out.1, HN.out.2.1, HN.out.2.2]
  rintro e w2 ⟨A, l, c2, rfl, hw, hb⟩
  have P0 := Lib.hid ((Q0.out.keep hb).alloc (.cells #[.int .i64 k, .slice A l c2] 29))
  have T1 := Lib.hid ((chain HW.out hb).alloc (chain HW.out hb).size (.cells #[.int .i64 k, .slice A l c2] 29))
  have HWo := Lib.hid (hw.alloc (.cells #[.int .i64 k, .slice A l c2] 29))
  clear hw hb
  obtain ⟨r0, r1, r2, r3⟩ := P0.out.two
  go_wp2
  refine close_one Tryd.results13 rfl rfl P0.out.put2 Tryd.underlying29 rfl (by kernel_rfl) ⟨_, _, _, rfl, HWo.out.put2 P0.out _ _, ?_⟩
  exact (T1.out.setCell (p := ⟨w.heap.size, 0, none⟩) (Nat.le_refl _) _).setCell (p := ⟨w.heap.size, 1, none⟩) (Nat.le_refl _) _
set_option maxHeartbeats 1000000 in
theorem row_yes (k id : Nat) (h1 : 1 ≤ k) (h2 : k ≤ 64) (hi : id < 18446744073709551616) (w : World) : Calls Tryd.prog 5 #[.int .i64 k, .int .u64 id] w (RowOut k (nbRow k id) 0 w) := by
  have HM := Lib.hid (srcMay_any k)
  rw [kmb_yes (n := k) (by omega)] at HM
  have HS := Lib.hid (srcRow_any k id h1 h2 hi)
  have Q0 := Lib.hid (Box.new w 29 #[.int .i64 0, .slice none 0 0])
  have HW := Lib.hid (show Below w.heap.size w (w.alloc (.cells #[.int .i64 0, .slice none 0 0] 29)) from (Below.refl _ _).alloc (Nat.le_refl _) _)
  go_enter Tryd.func5, Tryd.ntmps5
  go_wp2_with fail
  refine (HM.out _).mono ?_
  rintro e w1 ⟨rfl, rfl⟩
  go_wp2_with fail
  refine (HS.out _).mono ?_
  rintro e w2 ⟨A, l, c2, rfl, hw, hb⟩
  have P0 := Lib.hid (Q0.out.keep hb)
  have T1 := Lib.hid (chain HW.out hb)
  have HWo := Lib.hid hw
  clear hw hb
  obtain ⟨r0, r1, r2, r3⟩ := P0.out.two
  go_wp2
  refine close_cell Tryd.results5 rfl rfl rfl P0.out.put2 Tryd.underlying29 rfl (by kernel_rfl) ⟨_, _, _, rfl, HWo.out.put2 P0.out _ _, ?_⟩
  exact (T1.out.setCell (p := ⟨w.heap.size, 0, none⟩) (Nat.le_refl _) _).setCell (p := ⟨w.heap.size, 1, none⟩) (Nat.le_refl _) _
theorem row_no (k : Int) (id : Nat) (h : ¬ (1 ≤ k ∧ k ≤ 64)) (w : World) : Calls Tryd.prog 5 #[.int .i64 k, .int .u64 id] w (RowOut 0 [] 2 w) := by
  have HM := Lib.hid (srcMay_any k)
  rw [kmb_no h] at HM
  have q := Box.new w 29 #[.int .i64 0, .slice none 0 0]
  have Q := Lib.hid q
  clear q
  obtain ⟨r0, r1, r2, r3⟩ := Q.out.two
  go_enter Tryd.func5, Tryd.ntmps5
  go_wp2_with fail
  refine (HM.out _).mono ?_
  rintro e w1 ⟨rfl, rfl⟩
  go_wp2
  refine close_cell Tryd.results5 rfl rfl rfl Q.out Tryd.underlying29 rfl (by kernel_rfl) ⟨_, _, _, rfl, Words.nil _ _, (Below.refl _ _).alloc (Nat.le_refl _) _⟩
end Go.Proofs.YtbgikkeiapbghaaDoor
