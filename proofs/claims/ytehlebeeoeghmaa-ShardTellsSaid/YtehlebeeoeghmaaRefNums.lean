/- Contract of the reference's Numbers: are two rows the same? -/
import Derived.Test.YtehlebeeoeghmaaChecked
import Derived.Test.YtehlebeeoeghmaaWords
import Derived.IntWalk
import Derived.RegionTactic
import Derived.BigRegion
namespace Go.Proofs.Ytehlebeeoeghmaa
set_option linter.unusedVariables false
set_option linter.unusedSimpArgs false
open Go.RowKit
theorem take_eq_succ {xs ys : List Int} {i : Nat} (ha : i < xs.length) (hb : i < ys.length) (h : xs.take i = ys.take i) (e : xs.getD i 0 = ys.getD i 0) : xs.take (i + 1) = ys.take (i + 1) := by
  rw [List.take_succ_eq_append_getElem ha, List.take_succ_eq_append_getElem hb, h]
  have h1 : xs.getD i 0 = xs[i] := by simp [List.getD, ha]
  have h2 : ys.getD i 0 = ys[i] := by simp [List.getD, hb]
  rw [h1, h2] at e
  rw [e]
/-- Are two rows of numbers the same? -/
def sameZ (xs ys : List Int) : Bool := decide (xs = ys)
set_option maxHeartbeats 1000000 in
theorem refNumbers_any (A B : Option Addr) (la ca lb cb : Nat) (xs ys : List Int) (w : World) (ha : Ints w A la xs) (hb : Ints w B lb ys) (h1 : la ≤ 100000) (h2 : lb ≤ 100000) :
    Calls Try.prog 22 #[.slice A la ca, .slice B lb cb] w fun e w' => e = .returned (.bool (sameZ xs ys)) ∧ Below w.heap.size w w' := by
  have HA := Lib.hid ha
  have HB := Lib.hid hb
  clear ha hb
  by_cases hl : la = lb
  · subst hl
    have t0 : (((la : Nat) : Int) != ((la : Nat) : Int)) = false := by simp
    rcases Nat.eq_zero_or_pos la with h0 | hp
    · subst h0
      have HS := Lib.hid (show sameZ xs ys = true from by
        have e1 := List.eq_nil_of_length_eq_zero HA.out.1
        have e2 := List.eq_nil_of_length_eq_zero HB.out.1
        rw [e1, e2]; rfl)
      have hlt : ¬ (0 : Int) < 0 := by omega
      go_enter Try.func22, Try.ntmps22
      go_wp2_with fail
      go_loop [13] (fun i => i = .int .i64 0) (fun i => 0)
      case atStart => rfl
      case round =>
        subst hrel
        go_wp2
        go_ret
        exact ⟨by rw [HS.out]; rfl, Below.refl _ _⟩
    · obtain ⟨ba, oa, rfl, hba, hca⟩ := HA.out.2.2 hp
      obtain ⟨bb, ob, rfl, hbb, hcb⟩ := HB.out.2.2 hp
      have HCA := Lib.hid hca
      have HCB := Lib.hid hcb
      have HLA := Lib.hid HA.out.1
      have HLB := Lib.hid HB.out.1
      clear hca hcb HA HB
      go_enter Try.func22, Try.ntmps22
      go_wp2_with fail
      go_loopw [13] (fun i wr => ∃ j : Nat, j ≤ la ∧ i = .int .i64 j ∧ Hid (xs.take j = ys.take j) ∧ Hid (Below w.heap.size w wr)) (fun i _ => la - (intOf i).toNat)
      case atStart => exact ⟨0, by omega, rfl, Lib.hid rfl, Lib.hid (Below.refl _ _)⟩
      case round =>
        obtain ⟨j, hj, rfl, HE, HBL⟩ := hrel
        by_cases hjl : j < la
        · have hjl' : (j : Int) < la := by omega
          have c1 := (HBL.out.cell (p := ⟨ba, oa + j, none⟩) hba).trans (HCA.out j hjl)
          have c2 := (HBL.out.cell (p := ⟨bb, ob + j, none⟩) hbb).trans (HCB.out j hjl)
          have HST := Lib.hid (fun e => take_eq_succ (xs := xs) (ys := ys) (i := j) (by rw [HLA.out]; exact hjl) (by rw [HLB.out]; exact hjl) HE.out e)
          have HNE := Lib.hid (show xs.getD j 0 ≠ ys.getD j 0 → sameZ xs ys = false from fun h => decide_eq_false (fun e => h (by rw [e])))
          generalize xs.getD j 0 = x at *
          generalize ys.getD j 0 = y at *
          by_cases hxy : x = y
          · have t1 : (x != y) = false := by simp [hxy]
            have HS2 := Lib.hid (HST.out hxy)
            clear hxy
            go_wp2
            go_region
            go_wp2
            go_roundw
            case rel => exact ⟨j + 1, by omega, by go_num, HS2, Lib.hid HBL.out.drew⟩
            case measure => simp [intOf] <;> omega
          · have t1 : (x != y) = true := by simp [hxy]
            have HR := Lib.hid (HNE.out hxy)
            clear hxy
            go_wp2
            go_region
            go_wp2
            go_ret
            exact ⟨by rw [HR.out]; rfl, HBL.out.drew⟩
        · obtain rfl : j = la := by omega
          have hjl' : ¬ (j : Int) < j := by omega
          have HR := Lib.hid (show sameZ xs ys = true from decide_eq_true (by
            have := HE.out
            rw [List.take_of_length_le (Nat.le_of_eq HLA.out), List.take_of_length_le (Nat.le_of_eq HLB.out)] at this
            exact this))
          go_wp2
          go_ret
          exact ⟨by rw [HR.out]; rfl, HBL.out⟩
  · have t0 : (((la : Nat) : Int) != ((lb : Nat) : Int)) = true := by rw [bne_iff_ne]; omega
    have HS := Lib.hid (show sameZ xs ys = false from decide_eq_false (fun e => hl (by rw [← HA.out.1, ← HB.out.1, e])))
    go_enter Try.func22, Try.ntmps22
    go_wp2_with fail
    go_ret
    exact ⟨by rw [HS.out]; rfl, Below.refl _ _⟩
end Go.Proofs.Ytehlebeeoeghmaa
