/- Contracts of layer 3: columnsMayBe, Right, the reference's Right. -/
import Derived.Test.YtljooknodnblbaaMat1
import Derived.Test.YtljooknodnblbaaBlock1
import Derived.Test.YtljooknodnblbaaRef1
import Derived.Deep.RegionHeld3
namespace Go.Proofs.Ytljooknodnblbaa
set_option linter.unusedVariables false
set_option linter.unusedSimpArgs false
open Go.RowKit
theorem columnsMayBe_any (n : Int) (w : World) : Calls Try.prog 16 #[.int .i64 n] w fun e w' => e = .returned (.bool (smb n)) ∧ w = w' := by
  by_cases h : 0 ≤ n
  · by_cases h2 : n ≤ 64
    · have e : smb n = true := (smb_iff n).2 ⟨h, h2⟩
      rw [e]; clear e
      go_enter Try.func16, Try.ntmps16
      go_wp2
      go_ret
      exact ⟨rfl, rfl⟩
    · have e : smb n = false := (smb_no n).2 (by omega)
      rw [e]; clear e
      have t : decide (n ≤ 64) = false := by simpa using h2
      go_enter Try.func16, Try.ntmps16
      go_wp2
      go_ret
      exact ⟨by simp, rfl⟩
  · have e : smb n = false := (smb_no n).2 (by omega)
    rw [e]; clear e
    have t : decide (0 ≤ n) = false := by simpa using h
    go_enter Try.func16, Try.ntmps16
    go_wp2
    go_ret
    exact ⟨by simp, rfl⟩
/-- May a matrix be? -/
def rowsB (N : Int) (ms : List (Int × List Nat)) : Bool := ms.all fun r => (r.1 == N) && rightB r.1 r.2
def rightM (N : Int) (ms : List (Int × List Nat)) : Bool := smb N && decide (ms.length ≤ 64) && rowsB N ms
theorem rowsB_snoc (N : Int) (ms : List (Int × List Nat)) (j : Nat) (h : j < ms.length) : rowsB N (ms.take (j + 1)) = (rowsB N (ms.take j) && (((ms.getD j (0, [])).1 == N) && rightB (ms.getD j (0, [])).1 (ms.getD j (0, [])).2)) := by
  unfold rowsB
  rw [List.take_succ_eq_append_getElem h, List.all_append]
  simp [List.getD, h]
theorem rowsB_not (N : Int) (ms : List (Int × List Nat)) (j : Nat) (h : j < ms.length) (hz : (((ms.getD j (0, [])).1 == N) && rightB (ms.getD j (0, [])).1 (ms.getD j (0, [])).2) = false) : rowsB N ms = false := by
  rw [Bool.eq_false_iff]
  intro ha
  have := List.all_eq_true.1 ha (ms[j]) (List.getElem_mem _)
  rw [show ms.getD j (0, []) = ms[j] by simp [List.getD, h]] at hz
  rw [this] at hz; cases hz
theorem rightM_at {N : Int} {ms : List (Int × List Nat)} (h : rightM N ms = true) (j : Nat) (hj : j < ms.length) : (ms.getD j (0, [])).1 = N ∧ rightB N (ms.getD j (0, [])).2 = true := by
  simp only [rightM, Bool.and_eq_true] at h
  have := List.all_eq_true.1 h.2 (ms[j]) (List.getElem_mem _)
  rw [show ms.getD j (0, []) = ms[j] by simp [List.getD, hj]]
  simp only [Bool.and_eq_true, beq_iff_eq] at this
  exact ⟨this.1, this.1 ▸ this.2⟩
theorem rightM_bd {N : Int} {ms : List (Int × List Nat)} (h : rightM N ms = true) : 0 ≤ N ∧ N ≤ 64 ∧ ms.length ≤ 64 := by
  simp only [rightM, Bool.and_eq_true, decide_eq_true_eq] at h
  have := (smb_iff N).1 h.1.1
  exact ⟨this.1, this.2, h.1.2⟩
set_option maxHeartbeats 1000000 in
theorem mright_any (N : Int) (A : Option Addr) (l c lo : Nat) (ms : List (Int × List Nat)) (w : World) (hm : MatAt w lo A l ms) (hl : l ≤ maxLen) :
    Calls Try.prog 7 #[.agg #[.int .i64 N, .slice A l c]] w fun e w' => e = .returned (.bool (rightM N ms)) ∧ Below w.heap.size w w' := by
  unfold maxLen at hl
  have H := Lib.hid (columnsMayBe_any N)
  have Q := Lib.hid (Box.new w 24 #[.int .i64 N, .slice A l c])
  have HW := Lib.hid (show Below w.heap.size w (w.alloc (.cells #[.int .i64 N, .slice A l c] 24)) from (Below.refl _ _).alloc (Nat.le_refl _) _)
  have HM := Lib.hid hm
  have HL := Lib.hid hm.1
  clear hm
  obtain ⟨r0, r1, -, -⟩ := Q.out.two
  cases h : smb N with
  | false =>
    have HE := Lib.hid (show rightM N ms = false by simp [rightM, h])
    go_enter Try.func7, Try.ntmps7
    go_wp2_with fail
    refine (H.out _).mono ?_
    rintro e w1 ⟨rfl, rfl⟩
    go_wp2_with fail
    go_ret
    exact ⟨by rw [HE.out]; rfl, HW.out⟩
  | true =>
    by_cases h64 : l ≤ 64
    · have g1 : ¬ (64 : Int) < l := by omega
      go_enter Try.func7, Try.ntmps7
      go_wp2_with fail
      refine (H.out _).mono ?_
      rintro e w1 ⟨rfl, rfl⟩
      go_wp2_with fail
      have HSM := Lib.hid h
      clear h r0 r1 H
      go_loopw [18] (fun i wr => ∃ k : Nat, k ≤ l ∧ i = .int .i64 k ∧ Hid (rowsB N (ms.take k) = true) ∧ Box wr w.heap.size 24 #[.int .i64 N, .slice A l c] ∧ Below w.heap.size w wr) (fun i _ => l - (intOf i).toNat)
      case atStart => exact ⟨0, by omega, rfl, Lib.hid (by simp [rowsB]), Q.out, HW.out⟩
      case round =>
        obtain ⟨k, hk, rfl, HN, hbx, hbel⟩ := hrel
        have R := Lib.hid hbx
        have B := Lib.hid hbel
        clear hbx hbel Q HW
        obtain ⟨r0, r1, -, -⟩ := R.out.two
        by_cases hlt : k < l
        · have hlt' : (k : Int) < (l : Int) := by omega
          obtain ⟨b, off, B1, l1, c1, rfl, hb, x0, x1, hs, hw⟩ := (HM.out.mono (Nat.le_refl _) B.out).at k hlt
          have HS := Lib.hid (rowsB_snoc N ms k (by rw [HL.out]; exact hlt))
          have HNO := Lib.hid (rowsB_not N ms k (by rw [HL.out]; exact hlt))
          generalize (ms.getD k (0, [])).1 = n at *
          generalize (ms.getD k (0, [])).2 = us at *
          have R2 := Lib.hid (R.out.alloc (.cells #[.int .i64 n, .slice B1 l1 c1] 37))
          have B2 := Lib.hid (B.out.alloc B.out.size (.cells #[.int .i64 n, .slice B1 l1 c1] 37))
          have HW1 := Lib.hid (hw.alloc (.cells #[.int .i64 n, .slice B1 l1 c1] 37))
          have HR := Lib.hid (right_any n B1 l1 c1 us _ HW1.out)
          clear hw hs
          obtain ⟨r0, r1, -, -⟩ := R2.out.two
          by_cases hn : n = N
          · subst hn
            have t : (n != n) = false := by simp
            cases hr : rightB n us with
            | true =>
              rw [hr] at HR HS
              go_wp2_with fail
              refine HR.out.mono ?_
              rintro e w2 ⟨rfl, hb2⟩
              have B3 := Lib.hid (chain B2.out hb2)
              have R3 := Lib.hid (R2.out.keep hb2)
              clear hb2
              go_wp2_with fail
              go_roundw
              case rel => exact ⟨k + 1, by omega, by go_num, Lib.hid (by rw [HS.out, HN.out]; simp), R3.out, B3.out⟩
              case measure => simp [intOf]; omega
            | false =>
              rw [hr] at HR
              have HE := Lib.hid (show rightM n ms = false by rw [rightM, HNO.out (by simp [hr])]; simp)
              clear hr
              go_wp2_with fail
              refine HR.out.mono ?_
              rintro e w2 ⟨rfl, hb2⟩
              have B3 := Lib.hid (chain B2.out hb2)
              clear hb2
              go_wp2_with fail
              go_ret
              exact ⟨by rw [HE.out]; rfl, B3.out⟩
          · have t : (n != N) = true := by simpa using hn
            have t2 : (n == N) = false := by simpa using hn
            have HE := Lib.hid (show rightM N ms = false by rw [rightM, HNO.out (by simp [t2])]; simp)
            clear hn t2
            go_wp2_with fail
            go_ret
            exact ⟨by rw [HE.out]; rfl, B2.out⟩
        · obtain rfl : k = l := by omega
          have hlt' : ¬ (k : Int) < (k : Int) := by omega
          have HE := Lib.hid (show rightM N ms = true by
            have := HN.out
            rw [List.take_of_length_le (by rw [HL.out]; omega)] at this
            simp [rightM, HSM.out, this, HL.out, h64])
          go_wp2_with fail
          go_ret
          exact ⟨by rw [HE.out]; rfl, B.out⟩
    · have g1 : (64 : Int) < l := by omega
      have HE := Lib.hid (show rightM N ms = false by simp [rightM, HL.out, h64])
      go_enter Try.func7, Try.ntmps7
      go_wp2_with fail
      refine (H.out _).mono ?_
      rintro e w1 ⟨rfl, rfl⟩
      go_wp2_with fail
      go_ret
      exact ⟨by rw [HE.out]; rfl, HW.out⟩
end Go.Proofs.Ytljooknodnblbaa
