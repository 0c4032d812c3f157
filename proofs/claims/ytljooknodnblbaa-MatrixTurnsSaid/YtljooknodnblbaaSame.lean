/- Contract of the reference's Same: two rows are the same. -/
import Derived.Test.YtljooknodnblbaaBitrow1
namespace Go.Proofs.Ytljooknodnblbaa
set_option linter.unusedVariables false
set_option linter.unusedSimpArgs false
open Go.RowKit
def sameB (n : Int) (us : List Nat) (m : Int) (vs : List Nat) : Bool := n == m && us == vs
set_option maxHeartbeats 400000 in
theorem same_any (n m : Int) (A B : Option Addr) (l c k d : Nat) (us vs : List Nat) (w : World) (hu : Words w A l us) (hv : Words w B k vs) (hl : l ≤ 1000000) :
    Calls Try.prog 22 #[.agg #[.int .i64 n, .slice A l c], .agg #[.int .i64 m, .slice B k d]] w fun e w' => e = .returned (.bool (sameB n us m vs)) ∧ Below w.heap.size w w' := by
  have q0 := (Box.new w 37 #[.int .i64 n, .slice A l c]).alloc (.cells #[.int .i64 m, .slice B k d] 37)
  have q1 := Box.new (w.alloc (.cells #[.int .i64 n, .slice A l c] 37)) 37 #[.int .i64 m, .slice B k d]
  have hW : Below w.heap.size w ((w.alloc (.cells #[.int .i64 n, .slice A l c] 37)).alloc (.cells #[.int .i64 m, .slice B k d] 37)) := ((Below.refl _ _).alloc (Nat.le_refl _) _).alloc (by simp) _
  simp only [World.size_alloc] at q1
  have Q0 := Lib.hid q0
  have Q1 := Lib.hid q1
  have HW := Lib.hid hW
  have HU := Lib.hid hu
  have HV := Lib.hid hv
  clear q0 q1 hW hu hv
  by_cases hn : n = m
  · subst hn
    have t1 : (n != n) = false := by simp
    by_cases hk : l = k
    · subst hk
      have t2 : ((l : Int) != (l : Int)) = false := by simp
      go_enter Try.func22, Try.ntmps22
      go_wp2
      clear t1 t2
      go_loopw [23] (fun i wr => ∃ j : Nat, j ≤ l ∧ i = .int .i64 j ∧ (∀ t, t < j → us.getD t 0 = vs.getD t 0) ∧ Box wr w.heap.size 37 #[.int .i64 n, .slice A l c] ∧ Box wr (w.heap.size + 1) 37 #[.int .i64 n, .slice B l d] ∧ Below w.heap.size w wr)
        (fun i _ => l - (intOf i).toNat)
      case atStart => exact ⟨0, by omega, rfl, fun t h => by omega, Q0.out, Q1.out, HW.out⟩
      case round =>
        obtain ⟨j, hj, rfl, heq, B0, B1, hbel⟩ := hrel
        have R0 := Lib.hid B0
        have R1 := Lib.hid B1
        have HB := Lib.hid hbel
        have HE := Lib.hid heq
        clear B0 B1 hbel Q0 Q1 HW heq
        obtain ⟨a0, a1, -, -⟩ := R0.out.two
        obtain ⟨b0, b1, -, -⟩ := R1.out.two
        by_cases hlt : j < l
        · obtain ⟨p, o, rfl, lt1, hc1⟩ := HU.out.2.2 (by omega)
          obtain ⟨p2, o2, rfl, lt2, hc2⟩ := HV.out.2.2 (by omega)
          have cu := (HB.out.cell (p := ⟨p, o + j, none⟩) lt1).trans (hc1 j hlt)
          have cv := (HB.out.cell (p := ⟨p2, o2 + j, none⟩) lt2).trans (hc2 j hlt)
          have hx := HU.out.2.1 j
          have hy := HV.out.2.1 j
          obtain ⟨x, ex⟩ : ∃ x, x = us.getD j 0 := ⟨_, rfl⟩
          obtain ⟨y, ey⟩ : ∃ y, y = vs.getD j 0 := ⟨_, rfl⟩
          rw [← ex] at cu hx
          rw [← ey] at cv hy
          have hxy := Lib.hid (And.intro ex ey)
          clear ex ey hc1 hc2
          have hlt' : (j : Int) < (l : Int) := by omega
          have hj0 : (0 : Int) ≤ (j : Int) := by omega
          by_cases e : x = y
          · have t3 : ((x : Int) != (y : Int)) = false := by simp [e]
            have HXY := Lib.hid e
            clear e
            go_wp2
            go_quiet (fail)
            go_wp2
            go_roundw
            case rel =>
              refine ⟨j + 1, by omega, by go_num, fun t ht => ?_, R0.out.drewN _, R1.out.drewN _, bdN HB.out _⟩
              by_cases h : t = j
              · rw [h, ← hxy.out.1, ← hxy.out.2]; exact HXY.out
              · exact HE.out t (by omega)
            case measure => simp [intOf]; omega
          · have t3 : ((x : Int) != (y : Int)) = true := by rw [bne_iff_ne]; omega
            have HF : Hid (sameB n us n vs = false) := by
              show sameB n us n vs = false
              simp only [sameB, beq_self_eq_true, Bool.true_and, beq_eq_false_iff_ne]
              intro h
              apply e
              rw [hxy.out.1, hxy.out.2, h]
            clear e
            go_wp2
            go_quiet (fail)
            go_wp2
            go_ret
            exact ⟨by rw [HF.out]; rfl, bdN HB.out _⟩
        · obtain rfl : j = l := by omega
          have HF : Hid (sameB n us n vs = true) := by
            show sameB n us n vs = true
            simp only [sameB, beq_self_eq_true, Bool.true_and, beq_iff_eq]
            apply List.ext_getElem
            · rw [HU.out.1, HV.out.1]
            · intro i h1 h2
              have := HE.out i (by rw [HU.out.1] at h1; exact h1)
              simpa [List.getD, h1, h2] using this
          go_wp2
          go_ret
          exact ⟨by rw [HF.out]; rfl, HB.out⟩
    · have t2 : ((l : Int) != (k : Int)) = true := by rw [bne_iff_ne]; omega
      have HF : Hid (sameB n us n vs = false) := by
        show sameB n us n vs = false
        simp only [sameB, beq_self_eq_true, Bool.true_and, beq_eq_false_iff_ne]
        intro h
        apply hk
        rw [← HU.out.1, ← HV.out.1, h]
      go_enter Try.func22, Try.ntmps22
      go_wp2
      go_ret
      exact ⟨by rw [HF.out]; rfl, HW.out⟩
  · have t1 : (n != m) = true := by simpa using hn
    have HF : Hid (sameB n us m vs = false) := by
      show sameB n us m vs = false
      have : (n == m) = false := by simpa using hn
      simp [sameB, this]
    go_enter Try.func22, Try.ntmps22
    go_wp2
    go_ret
    exact ⟨by rw [HF.out]; rfl, HW.out⟩
end Go.Proofs.Ytljooknodnblbaa
