/- Parts: XorO, Same, Like, Mat3, Mat4, Mat5, Getr, Mat6. -/
import Derived.Test.YtljooknodnblbaaDoorZc
import Derived.Deep.RegionWith
import Derived.OpenShut
import Derived.Shelf.Abstract
namespace Go.Proofs.YtljooknodnblbaaDoor
section
/- bitrow.Xor and New: rows of words of the call's own. -/
set_option linter.unusedVariables false
set_option linter.unusedSimpArgs false
open Go.RowKit
set_option maxHeartbeats 400000 in
theorem joined_own (n : Int) (A B : Option Addr) (l c k d : Nat) (us vs : List Nat) (w : World) (hu : Words w A l us) (hv : Words w B k vs) (h1 : rightB n us = true) (h2 : rightB n vs = true) :
    Calls Tryd.prog 49 #[.agg #[.int .i64 n, .slice A l c], .agg #[.int .i64 n, .slice B k d], .func (.func 50) #[] #[]] w (OwnOut n (List.zipWith (· ^^^ ·) us vs) w) := by
  have hl : l ≤ 8 := rightB_len8 h1 hu.1
  have hkl : k = l := rightB_len h1 h2 hu.1 hv.1
  subst hkl
  have q0 := ((Box.new w 45 #[.int .i64 n, .slice A k c]).alloc (.cells #[.int .i64 n, .slice B k d] 45)).alloc (.cells #[.int .i64 0, .slice none 0 0] 45)
  have q1 := (Box.new (w.alloc (.cells #[.int .i64 n, .slice A k c] 45)) 45 #[.int .i64 n, .slice B k d]).alloc (.cells #[.int .i64 0, .slice none 0 0] 45)
  have q2 := Box.new ((w.alloc (.cells #[.int .i64 n, .slice A k c] 45)).alloc (.cells #[.int .i64 n, .slice B k d] 45)) 45 #[.int .i64 0, .slice none 0 0]
  have hW : Below w.heap.size w (((w.alloc (.cells #[.int .i64 n, .slice A k c] 45)).alloc (.cells #[.int .i64 n, .slice B k d] 45)).alloc (.cells #[.int .i64 0, .slice none 0 0] 45)) := (((Below.refl _ _).alloc (Nat.le_refl _) _).alloc (by simp) _).alloc (by simp; omega) _
  simp only [World.size_alloc] at q1 q2
  have hu1 := hu.below hW
  have hv1 := hv.below hW
  have Q0 := Lib.hid q0
  have Q1 := Lib.hid q1
  have Q2 := Lib.hid q2
  have HW := Lib.hid hW
  have HU := Lib.hid hu1
  have HV := Lib.hid hv1
  have HU0 := Lib.hid hu
  have HV0 := Lib.hid hv
  clear q0 q1 q2 hW hu1 hv1 hu hv
  go_enter Tryd.func49, Tryd.ntmps49
  go_wp2_with fail
  refine (right_any n A k c us _ HU.out).mono ?_
  rintro e x1 ⟨rfl, hb⟩
  have Q0 := Lib.hid (Q0.out.keep hb)
  have Q1 := Lib.hid (Q1.out.keep hb)
  have Q2 := Lib.hid (Q2.out.keep hb)
  have HV := Lib.hid (HV.out.below hb)
  have HW := Lib.hid (chain HW.out hb)
  clear HU hb
  obtain ⟨c0, c1, -, -⟩ := Q1.out.two
  go_wp2_with fail
  refine (right_any n B k d vs _ HV.out).mono ?_
  rintro e x2 ⟨rfl, hb⟩
  have Q0 := Lib.hid (Q0.out.keep hb)
  have Q1 := Lib.hid (Q1.out.keep hb)
  have Q2 := Lib.hid (Q2.out.keep hb)
  have HW := Lib.hid (chain HW.out hb)
  clear hb c0 c1 HV
  obtain ⟨r0, r1, r2, r3⟩ := Q2.out.two
  obtain ⟨a0, a1, -, -⟩ := Q0.out.two
  obtain ⟨b0, b1, -, -⟩ := Q1.out.two
  have t : (n != n) = false := by simp
  have hmk := make_any k (by omega) x2
  have HX2 := Lib.hid Q2.out.lt
  have Q3 := Lib.hid (Box.new x2 75 (numsA (List.replicate k 0)))
  have Q0 := Lib.hid (Q0.out.alloc (.cells (numsA (List.replicate k 0)) 75))
  have Q1 := Lib.hid (Q1.out.alloc (.cells (numsA (List.replicate k 0)) 75))
  have Q2 := Lib.hid (Q2.out.alloc (.cells (numsA (List.replicate k 0)) 75))
  have HW := Lib.hid (HW.out.alloc HW.out.size (.cells (numsA (List.replicate k 0)) 75))
  go_wp2
  clear hmk t h1 h2 a0 a1 b0 b1 r0 r1 r2 r3
  go_loopw [31] (fun i wr => ∃ j : Nat, j ≤ k ∧ i = .int .i64 j ∧ Box wr x2.heap.size 75 (numsA (part (· ^^^ ·) us vs j)) ∧ Box wr w.heap.size 45 #[.int .i64 n, .slice A k c] ∧ Box wr (w.heap.size + 1) 45 #[.int .i64 n, .slice B k d] ∧ Box wr (w.heap.size + 1 + 1) 45 #[.int .i64 0, .slice none 0 0] ∧ Below w.heap.size w wr)
    (fun i _ => k - (intOf i).toNat)
  case atStart => exact ⟨0, by omega, rfl, by rw [part_zero, HU0.out.1]; exact Q3.out, Q0.out, Q1.out, Q2.out, HW.out⟩
  case round =>
    obtain ⟨j, hj, rfl, B3, B0, B1, B2, hbel⟩ := hrel
    have R3 := Lib.hid B3
    have R0 := Lib.hid B0
    have R1 := Lib.hid B1
    have R2 := Lib.hid B2
    have HB := Lib.hid hbel
    clear B3 B0 B1 B2 hbel Q0 Q1 Q2 Q3 HW
    obtain ⟨a0, a1, -, -⟩ := R0.out.two
    obtain ⟨b0, b1, -, -⟩ := R1.out.two
    by_cases hlt : j < k
    · obtain ⟨p, o, rfl, lt1, hc1⟩ := HU0.out.2.2 (by omega)
      obtain ⟨p2, o2, rfl, lt2, hc2⟩ := HV0.out.2.2 (by omega)
      have cu := (HB.out.cell (p := ⟨p, o + j, none⟩) lt1).trans (hc1 j hlt)
      have cv := (HB.out.cell (p := ⟨p2, o2 + j, none⟩) lt2).trans (hc2 j hlt)
      have hx := HU0.out.2.1 j
      have hy := HV0.out.2.1 j
      obtain ⟨x, ex⟩ : ∃ x, x = us.getD j 0 := ⟨_, rfl⟩
      obtain ⟨y, ey⟩ : ∃ y, y = vs.getD j 0 := ⟨_, rfl⟩
      rw [← ex] at cu hx
      rw [← ey] at cv hy
      have hxy := Lib.hid (And.intro ex ey)
      clear ex ey
      have cg : wr.cell? ⟨x2.heap.size, j, none⟩ = some (.int .u64 0) := by rw [R3.out.cell j]; exact part_fresh _ us vs j k HU0.out.1 HV0.out.1 hlt
      have fg := R3.out.free j
      clear hc1 hc2
      have hz := HX2.out
      have n1 : ¬ x2.heap.size = w.heap.size := by omega
      have n2 : ¬ x2.heap.size = w.heap.size + 1 := by omega
      have n3 : ¬ x2.heap.size = p := by omega
      have n4 : ¬ x2.heap.size = p2 := by omega
      have n1' : ¬ w.heap.size = x2.heap.size := by omega
      have n2' : ¬ w.heap.size + 1 = x2.heap.size := by omega
      have n3' : ¬ p = x2.heap.size := by omega
      have n4' : ¬ p2 = x2.heap.size := by omega
      have n5' : ¬ w.heap.size + 1 + 1 = x2.heap.size := by omega
      go_wp2
      go_region_held3 (fun w' => w'.cell? ⟨w.heap.size, 1, none⟩ = some (.slice (some ⟨p, o, none⟩) k c) ∧ w'.cell? ⟨w.heap.size + 1, 1, none⟩ = some (.slice (some ⟨p2, o2, none⟩) k d) ∧ w'.cell? ⟨p, o + j, none⟩ = some (.int .u64 x) ∧ w'.cell? ⟨p2, o2 + j, none⟩ = some (.int .u64 y)) (go_keep) (first | (go_at_call 50; refine (xor1_any x y hx hy _).mono ?_; rintro e w' ⟨rfl, rfl⟩))
      have P1 := Lib.hid ((R3.out.put j (.int .u64 ((x ^^^ y : Nat) : Int))).drew)
      have P0 := Lib.hid ((R0.out.far (p := ⟨x2.heap.size, j, none⟩) n1' (.int .u64 ((x ^^^ y : Nat) : Int))).drew)
      have P2 := Lib.hid ((R1.out.far (p := ⟨x2.heap.size, j, none⟩) n2' (.int .u64 ((x ^^^ y : Nat) : Int))).drew)
      have P3 := Lib.hid ((R2.out.far (p := ⟨x2.heap.size, j, none⟩) n5' (.int .u64 ((x ^^^ y : Nat) : Int))).drew)
      have P4 := Lib.hid ((HB.out.setCell (p := ⟨x2.heap.size, j, none⟩) (by simp; omega) (.int .u64 ((x ^^^ y : Nat) : Int))).drew)
      clear cg fg cu cv n1 n2 n3 n4 n1' n2' n3' n4' a0 a1 b0 b1
      generalize (wr.setCell ⟨x2.heap.size, j, none⟩ (.int .u64 ((x ^^^ y : Nat) : Int))).drew = wn at *
      go_wp2
      go_roundw
      case rel => exact ⟨j + 1, by omega, by go_num, by have := P1.out; rw [numsA_set, hxy.out.1, hxy.out.2, part_set _ us vs j k HU0.out.1 HV0.out.1 hlt] at this; exact this, P0.out, P2.out, P3.out, P4.out⟩
      case measure => simp [intOf]; omega
    · obtain ⟨r0, r1, r2, r3⟩ := R2.out.two
      have hz := HX2.out
      have n5' : ¬ w.heap.size + 1 + 1 = x2.heap.size := by omega
      obtain rfl : j = k := by omega
      go_wp2
      refine close_cell Tryd.results49 rfl rfl rfl R2.out.put2 Tryd.underlying45 rfl (by kernel_rfl) ?_
      have hp : part (· ^^^ ·) us vs j = List.zipWith (· ^^^ ·) us vs := part_full _ us vs j HU0.out.1 HV0.out.1
      have hw := Box.ownW ((R3.out.far (p := ⟨w.heap.size + 1 + 1, 0, none⟩) (by simp; omega) (.int .i64 n)).far (p := ⟨w.heap.size + 1 + 1, 1, none⟩) (by simp; omega) (.slice (some ⟨x2.heap.size, 0, none⟩) j j)) (part_len _ us vs j j HU0.out.1 HV0.out.1) (by unfold maxLen; omega)
      rw [hp] at hw
      exact ⟨_, _, _, rfl, hw, (HB.out.setCell (p := ⟨w.heap.size + 1 + 1, 0, none⟩) (by simp; omega) _).setCell (p := ⟨w.heap.size + 1 + 1, 1, none⟩) (by simp; omega) _⟩
set_option maxHeartbeats 400000 in
theorem xor_own (n : Int) (A B : Option Addr) (l c k d : Nat) (us vs : List Nat) (w : World) (hu : Words w A l us) (hv : Words w B k vs) (h1 : rightB n us = true) (h2 : rightB n vs = true) :
    Calls Tryd.prog 37 #[.agg #[.int .i64 n, .slice A l c], .agg #[.int .i64 n, .slice B k d]] w (OwnOut n (xorL us vs) w) := by
  have q2 := Box.new ((w.alloc (.cells #[.int .i64 n, .slice A l c] 45)).alloc (.cells #[.int .i64 n, .slice B k d] 45)) 45 #[.int .i64 0, .slice none 0 0]
  have hW : Below w.heap.size w (((w.alloc (.cells #[.int .i64 n, .slice A l c] 45)).alloc (.cells #[.int .i64 n, .slice B k d] 45)).alloc (.cells #[.int .i64 0, .slice none 0 0] 45)) := (((Below.refl _ _).alloc (Nat.le_refl _) _).alloc (by simp) _).alloc (by simp; omega) _
  simp only [World.size_alloc] at q2
  have Q2 := Lib.hid q2
  have HW := Lib.hid hW
  have HU := Lib.hid (hu.below hW)
  have HV := Lib.hid (hv.below hW)
  clear q2 hW hu hv
  go_enter Tryd.func37, Tryd.ntmps37
  go_wp2_with fail
  refine (joined_own n A B l c k d us vs _ HU.out HV.out h1 h2).mono ?_
  rintro e x1 ⟨A1, l1, c1, rfl, hw, hb⟩
  have P2 := Lib.hid (Q2.out.keep hb)
  have HB := Lib.hid (chain HW.out hb)
  have HWo := Lib.hid hw
  clear hb hw
  obtain ⟨r0, r1, r2, r3⟩ := P2.out.two
  go_wp2
  refine close_cell Tryd.results37 rfl rfl rfl P2.out.put2 Tryd.underlying45 rfl (by kernel_rfl) ⟨_, _, _, rfl, ?_, ?_⟩
  · exact HWo.out.put2 P2.out _ _
  · exact (HB.out.setCell (p := ⟨w.heap.size + 1 + 1, 0, none⟩) (by simp; omega) _).setCell (p := ⟨w.heap.size + 1 + 1, 1, none⟩) (by simp; omega) _
theorem new_own (n : Nat) (h : lmb n = true) (w : World) : Calls Tryd.prog 35 #[.int .i64 n] w (OwnOut n (List.replicate (nw n) 0) w) := by
  refine (new_yes n h w).mono ?_
  rintro e w' ⟨g, rfl, hg, -, hb⟩
  have hn := (lmb_iff n).1 h
  have := Box.ownW hg (n := nw n) (by simp) (by unfold maxLen nw; omega)
  rw [List.length_replicate]
  exact ⟨_, _, _, rfl, this, hb⟩
end
section
/- Contract of the reference's Same: two rows are the same. -/
set_option linter.unusedVariables false
set_option linter.unusedSimpArgs false
open Go.RowKit
def sameB (n : Int) (us : List Nat) (m : Int) (vs : List Nat) : Bool := n == m && us == vs
set_option maxHeartbeats 400000 in
theorem same_any (n m : Int) (A B : Option Addr) (l c k d : Nat) (us vs : List Nat) (w : World) (hu : Words w A l us) (hv : Words w B k vs) (hl : l ≤ 1000000) :
    Calls Tryd.prog 24 #[.agg #[.int .i64 n, .slice A l c], .agg #[.int .i64 m, .slice B k d]] w fun e w' => e = .returned (.bool (sameB n us m vs)) ∧ Below w.heap.size w w' := by
  have q0 := (Box.new w 45 #[.int .i64 n, .slice A l c]).alloc (.cells #[.int .i64 m, .slice B k d] 45)
  have q1 := Box.new (w.alloc (.cells #[.int .i64 n, .slice A l c] 45)) 45 #[.int .i64 m, .slice B k d]
  have hW : Below w.heap.size w ((w.alloc (.cells #[.int .i64 n, .slice A l c] 45)).alloc (.cells #[.int .i64 m, .slice B k d] 45)) := ((Below.refl _ _).alloc (Nat.le_refl _) _).alloc (by simp) _
  simp only [World.size_alloc] at q1
  have Q0 := Lib.hid q0
  have Q1 := Lib.hid q1
  have HW := Lib.hid hW
  have HU := Lib.hid hu
  have HV := Lib.hid hv
  clear q0 q1 hW hu hv
  by_cases hn : n = m
  · subst hn
    have t1 : (n != n) = false := by simp
    by_cases hk : l = k
    · subst hk
      have t2 : ((l : Int) != (l : Int)) = false := by simp
      go_enter Tryd.func24, Tryd.ntmps24
      go_wp2
      clear t1 t2
      go_loopw [23] (fun i wr => ∃ j : Nat, j ≤ l ∧ i = .int .i64 j ∧ (∀ t, t < j → us.getD t 0 = vs.getD t 0) ∧ Box wr w.heap.size 45 #[.int .i64 n, .slice A l c] ∧ Box wr (w.heap.size + 1) 45 #[.int .i64 n, .slice B l d] ∧ Below w.heap.size w wr)
        (fun i _ => l - (intOf i).toNat)
      case atStart => exact ⟨0, by omega, rfl, fun t h => by omega, Q0.out, Q1.out, HW.out⟩
      case round =>
        obtain ⟨j, hj, rfl, heq, B0, B1, hbel⟩ := hrel
        have R0 := Lib.hid B0
        have R1 := Lib.hid B1
        have HB := Lib.hid hbel
        have HE := Lib.hid heq
        clear B0 B1 hbel Q0 Q1 HW heq
        obtain ⟨a0, a1, -, -⟩ := R0.out.two
        obtain ⟨b0, b1, -, -⟩ := R1.out.two
        by_cases hlt : j < l
        · obtain ⟨p, o, rfl, lt1, hc1⟩ := HU.out.2.2 (by omega)
          obtain ⟨p2, o2, rfl, lt2, hc2⟩ := HV.out.2.2 (by omega)
          have cu := (HB.out.cell (p := ⟨p, o + j, none⟩) lt1).trans (hc1 j hlt)
          have cv := (HB.out.cell (p := ⟨p2, o2 + j, none⟩) lt2).trans (hc2 j hlt)
          have hx := HU.out.2.1 j
          have hy := HV.out.2.1 j
          obtain ⟨x, ex⟩ : ∃ x, x = us.getD j 0 := ⟨_, rfl⟩
          obtain ⟨y, ey⟩ : ∃ y, y = vs.getD j 0 := ⟨_, rfl⟩
          rw [← ex] at cu hx
          rw [← ey] at cv hy
          have hxy := Lib.hid (And.intro ex ey)
          clear ex ey hc1 hc2
          have hlt' : (j : Int) < (l : Int) := by omega
          have hj0 : (0 : Int) ≤ (j : Int) := by omega
          by_cases e : x = y
          · have t3 : ((x : Int) != (y : Int)) = false := by simp [e]
            have HXY := Lib.hid e
            clear e
            go_wp2
            go_quiet (fail)
            go_wp2
            go_roundw
            case rel =>
              refine ⟨j + 1, by omega, by go_num, fun t ht => ?_, R0.out.drewN _, R1.out.drewN _, bdN HB.out _⟩
              by_cases h : t = j
              · rw [h, ← hxy.out.1, ← hxy.out.2]; exact HXY.out
              · exact HE.out t (by omega)
            case measure => simp [intOf]; omega
          · have t3 : ((x : Int) != (y : Int)) = true := by rw [bne_iff_ne]; omega
            have HF : Hid (sameB n us n vs = false) := by
              show sameB n us n vs = false
              simp only [sameB, beq_self_eq_true, Bool.true_and, beq_eq_false_iff_ne]
              intro h
              apply e
              rw [hxy.out.1, hxy.out.2, h]
            clear e
            go_wp2
            go_quiet (fail)
            go_wp2
            go_ret
            exact ⟨by rw [HF.out]; rfl, bdN HB.out _⟩
        · obtain rfl : j = l := by omega
          have HF : Hid (sameB n us n vs = true) := by
            show sameB n us n vs = true
            simp only [sameB, beq_self_eq_true, Bool.true_and, beq_iff_eq]
            apply List.ext_getElem
            · rw [HU.out.1, HV.out.1]
            · intro i h1 h2
              have := HE.out i (by rw [HU.out.1] at h1; exact h1)
              simpa [List.getD, h1, h2] using this
          go_wp2
          go_ret
          exact ⟨by rw [HF.out]; rfl, HB.out⟩
    · have t2 : ((l : Int) != (k : Int)) = true := by rw [bne_iff_ne]; omega
      have HF : Hid (sameB n us n vs = false) := by
        show sameB n us n vs = false
        simp only [sameB, beq_self_eq_true, Bool.true_and, beq_eq_false_iff_ne]
        intro h
        apply hk
        rw [← HU.out.1, ← HV.out.1, h]
      go_enter Tryd.func24, Tryd.ntmps24
      go_wp2
      go_ret
      exact ⟨by rw [HF.out]; rfl, HW.out⟩
  · have t1 : (n != m) = true := by simpa using hn
    have HF : Hid (sameB n us m vs = false) := by
      show sameB n us m vs = false
      have : (n == m) = false := by simpa using hn
      simp [sameB, this]
    go_enter Tryd.func24, Tryd.ntmps24
    go_wp2
    go_ret
    exact ⟨by rw [HF.out]; rfl, HW.out⟩
end
section
/- Contracts of slices.Equal at words and of bitrow.Like. -/
set_option linter.unusedVariables false
set_option linter.unusedSimpArgs false
open Go.RowKit
end
section
/- Contracts of layer 3's reference: Right, Same; matrix.Like. -/
set_option linter.unusedVariables false
set_option linter.unusedSimpArgs false
open Go.RowKit
set_option maxHeartbeats 1000000 in
theorem refRightM_any (N : Int) (A : Option Addr) (l c lo : Nat) (ms : List (Int × List Nat)) (w : World) (hm : MatAt w lo A l ms) (hl : l ≤ maxLen) :
    Calls Tryd.prog 10 #[.agg #[.int .i64 N, .slice A l c]] w fun e w' => e = .returned (.bool (rightM N ms)) ∧ Below w.heap.size w w' := by
  unfold maxLen at hl
  have Q := Lib.hid (Box.new w 24 #[.int .i64 N, .slice A l c])
  have HW := Lib.hid (show Below w.heap.size w (w.alloc (.cells #[.int .i64 N, .slice A l c] 24)) from (Below.refl _ _).alloc (Nat.le_refl _) _)
  have HM := Lib.hid hm
  have HL := Lib.hid hm.1
  clear hm
  obtain ⟨r0, r1, -, -⟩ := Q.out.two
  go_enter Tryd.func10, Tryd.ntmps10
  go_wp2_with fail
  clear r0 r1
  go_loopw [8] (fun i wr => ∃ k : Nat, k ≤ l ∧ i = .int .i64 k ∧ Hid (rowsB N (ms.take k) = true) ∧ Box wr w.heap.size 24 #[.int .i64 N, .slice A l c] ∧ Below w.heap.size w wr) (fun i _ => l - (intOf i).toNat)
  case atStart => exact ⟨0, by omega, rfl, Lib.hid (by simp [rowsB]), Q.out, HW.out⟩
  case round =>
    obtain ⟨k, hk, rfl, HN, hbx, hbel⟩ := hrel
    have R := Lib.hid hbx
    have B := Lib.hid hbel
    clear hbx hbel Q HW
    obtain ⟨r0, r1, -, -⟩ := R.out.two
    by_cases hlt : k < l
    · have hlt' : (k : Int) < (l : Int) := by omega
      obtain ⟨b, off, B1, l1, c1, rfl, hb, x0, x1, hs, hw⟩ := (HM.out.mono (Nat.le_refl _) B.out).at k hlt
      have HS := Lib.hid (rowsB_snoc N ms k (by rw [HL.out]; exact hlt))
      have HNO := Lib.hid (rowsB_not N ms k (by rw [HL.out]; exact hlt))
      generalize (ms.getD k (0, [])).1 = n at *
      generalize (ms.getD k (0, [])).2 = us at *
      have R2 := Lib.hid (R.out.alloc (.cells #[.int .i64 n, .slice B1 l1 c1] 45))
      have B2 := Lib.hid (B.out.alloc B.out.size (.cells #[.int .i64 n, .slice B1 l1 c1] 45))
      have HW1 := Lib.hid (hw.alloc (.cells #[.int .i64 n, .slice B1 l1 c1] 45))
      have HR := Lib.hid (refRight_any n B1 l1 c1 us _ HW1.out)
      clear hw hs
      obtain ⟨r0, r1, -, -⟩ := R2.out.two
      by_cases hn : n = N
      · subst hn
        have t : (n != n) = false := by simp
        cases hr : rightB n us with
        | true =>
          rw [hr] at HR HS
          go_wp2_with fail
          refine HR.out.mono ?_
          rintro e w2 ⟨rfl, hb2⟩
          have B3 := Lib.hid (chain B2.out hb2)
          have R3 := Lib.hid (R2.out.keep hb2)
          clear hb2
          go_wp2_with fail
          go_roundw
          case rel => exact ⟨k + 1, by omega, by go_num, Lib.hid (by rw [HS.out, HN.out]; simp), R3.out, B3.out⟩
          case measure => simp [intOf]; omega
        | false =>
          rw [hr] at HR
          have HE := Lib.hid (show rightM n ms = false by rw [rightM, HNO.out (by simp [hr])]; simp)
          clear hr
          go_wp2_with fail
          refine HR.out.mono ?_
          rintro e w2 ⟨rfl, hb2⟩
          have B3 := Lib.hid (chain B2.out hb2)
          clear hb2
          go_wp2_with fail
          go_ret
          exact ⟨by rw [HE.out]; rfl, B3.out⟩
      · have t : (n != N) = true := by simpa using hn
        have t2 : (n == N) = false := by simpa using hn
        have HE := Lib.hid (show rightM N ms = false by rw [rightM, HNO.out (by simp [t2])]; simp)
        clear hn t2
        go_wp2_with fail
        go_ret
        exact ⟨by rw [HE.out]; rfl, B2.out⟩
    · obtain rfl : k = l := by omega
      have hlt' : ¬ (k : Int) < (k : Int) := by omega
      have HE := Lib.hid (show rightM N ms = (smb N && decide (k ≤ 64)) by
        have := HN.out
        rw [List.take_of_length_le (by rw [HL.out]; omega)] at this
        simp [rightM, this, HL.out])
      by_cases h0 : 0 ≤ N
      · by_cases h1 : N ≤ 64
        · have HS := Lib.hid (show smb N = true from (smb_iff N).2 ⟨h0, h1⟩)
          by_cases h2 : k ≤ 64
          · have t : decide ((k : Int) ≤ 64) = true := by simp; omega
            go_wp2_with fail
            go_ret
            exact ⟨by rw [HE.out, HS.out]; simp [h2], B.out⟩
          · have t : decide ((k : Int) ≤ 64) = false := by simp; omega
            go_wp2_with fail
            go_ret
            exact ⟨by rw [HE.out, HS.out]; simp [h2], B.out⟩
        · have t : decide (N ≤ 64) = false := by simpa using h1
          have HS := Lib.hid (show smb N = false from (smb_no N).2 (by omega))
          go_wp2_with fail
          go_ret
          exact ⟨by rw [HE.out, HS.out]; simp, B.out⟩
      · have t : decide (0 ≤ N) = false := by simpa using h0
        have HS := Lib.hid (show smb N = false from (smb_no N).2 (by omega))
        go_wp2_with fail
        go_ret
        exact ⟨by rw [HE.out, HS.out]; simp, B.out⟩
/-- Are two matrices the same? -/
def sameM (N : Int) (ms : List (Int × List Nat)) (M : Int) (ks : List (Int × List Nat)) : Bool := N == M && ms == ks
theorem sameM_self (N : Int) (ms : List (Int × List Nat)) : sameM N ms N ms = true := by simp [sameM]
theorem take_same {α : Type} (ms ks : List α) (d : α) (k : Nat) (h1 : k < ms.length) (h2 : k < ks.length) (h : ms.take k = ks.take k) (he : ms.getD k d = ks.getD k d) : ms.take (k + 1) = ks.take (k + 1) := by
  rw [take_one ms k d h1, take_one ks k d h2, h, he]
set_option maxRecDepth 100000 in
set_option maxHeartbeats 4000000 in
theorem same3_any (N M : Int) (A1 A2 : Option Addr) (n m c1 c2 l1 l2 : Nat) (ms ks : List (Int × List Nat)) (w : World) (h1 : MatAt w l1 A1 n ms) (h2 : MatAt w l2 A2 m ks) (hl : n ≤ 1000000) (hr : ∀ j, (ms.getD j (0, [])).2.length ≤ 1000000) :
    Calls Tryd.prog 11 #[.agg #[.int .i64 N, .slice A1 n c1], .agg #[.int .i64 M, .slice A2 m c2]] w fun e w' => e = .returned (.bool (sameM N ms M ks)) ∧ Below w.heap.size w w' := by
  have q0 := (Box.new w 24 #[.int .i64 N, .slice A1 n c1]).alloc (.cells #[.int .i64 M, .slice A2 m c2] 24)
  have q1 := Box.new (w.alloc (.cells #[.int .i64 N, .slice A1 n c1] 24)) 24 #[.int .i64 M, .slice A2 m c2]
  have HW := Lib.hid (show Below w.heap.size w ((w.alloc (.cells #[.int .i64 N, .slice A1 n c1] 24)).alloc (.cells #[.int .i64 M, .slice A2 m c2] 24)) from ((Below.refl _ _).alloc (Nat.le_refl _) _).alloc (by simp) _)
  simp only [World.size_alloc] at q1
  have M1 := Lib.hid (h1.below HW.out)
  have M2 := Lib.hid (h2.below HW.out)
  have HL1 := Lib.hid h1.1
  have HL2 := Lib.hid h2.1
  have HR := Lib.hid hr
  have Q0 := Lib.hid q0
  have Q1 := Lib.hid q1
  clear h1 h2 q0 q1 hr
  by_cases hN : N = M
  · subst hN
    have t1 : (N != N) = false := by simp
    by_cases hn : n = m
    · subst hn
      have t2 : (((n : Nat) : Int) != ((n : Nat) : Int)) = false := by simp
      go_enter Tryd.func11, Tryd.ntmps11
      go_wp2_with fail
      generalize (w.alloc (.cells #[.int .i64 N, .slice A1 n c1] 24)).alloc (.cells #[.int .i64 N, .slice A2 n c2] 24) = W at *
      obtain ⟨a0, a1, -, -⟩ := Q0.out.two
      obtain ⟨d0, d1, -, -⟩ := Q1.out.two
      have hz0 := Q0.out.lt
      have hz1 := Q1.out.lt
      go_wp2_with fail
      clear t1 t2
      go_loopw [23] (fun t wr => ∃ i : Nat, i ≤ n ∧ t = .int .i64 i ∧ Hid (ms.take i = ks.take i) ∧ Hid (Below W.heap.size W wr)) (fun t _ => n - (intOf t).toNat)
      case atStart => exact ⟨0, by omega, rfl, Lib.hid (by simp), Lib.hid (Below.refl _ _)⟩
      case round =>
        obtain ⟨i, hi, rfl, HT, HB⟩ := hrel
        by_cases hlt : i < n
        · have hlt' : (i : Int) < (n : Int) := by omega
          obtain ⟨g1, o1, B1, k1, e1, rfl, hg1, x1, y1, s1, u1⟩ := (M1.out.below HB.out).at i hlt
          obtain ⟨g2, o2, B2, k2, e2, rfl, hg2, x2, y2, s2, u2⟩ := (M2.out.below HB.out).at i hlt
          have O1 := Lib.hid u1
          have O2 := Lib.hid u2
          have HK := Lib.hid (HR.out i)
          have HTS := Lib.hid (take_same ms ks (0, []) i (by rw [HL1.out]; exact hlt) (by rw [HL2.out]; exact hlt) HT.out)
          have HTN := Lib.hid (show ms = ks → ms.getD i (0, []) = ks.getD i (0, []) from fun e => by rw [e])
          have HP1 := Lib.hid (show ms.getD i (0, []) = ((ms.getD i (0, [])).1, (ms.getD i (0, [])).2) from rfl)
          have HP2 := Lib.hid (show ks.getD i (0, []) = ((ks.getD i (0, [])).1, (ks.getD i (0, [])).2) from rfl)
          generalize hp1 : ms.getD i (0, []) = p1 at *
          generalize hp2 : ks.getD i (0, []) = p2 at *
          clear hp1 hp2 HP1 HP2
          obtain ⟨n1, us⟩ := p1
          obtain ⟨n2, vs⟩ := p2
          simp only at x1 y1 x2 y2 O1 O2 HK
          clear u1 u2 s1 s2
          have R0 := Lib.hid (Q0.out.below HB.out hz0)
          have R1 := Lib.hid (Q1.out.below HB.out hz1)
          obtain ⟨v0, v1, -, -⟩ := R0.out.two
          obtain ⟨f0, f1, -, -⟩ := R1.out.two
          have LZ0 := Lib.hid R0.out.lt
          have LZ1 := Lib.hid R1.out.lt
          have LG1 := Lib.hid hg1
          have LG2 := Lib.hid hg2
          clear hg1 hg2
          have HSame := Lib.hid (same_any n1 n2 B1 B2 k1 e1 k2 e2 us vs _ O1.out.drew O2.out.drew (by have := O1.out.1; have := HK.out; omega))
          cases hsb : sameB n1 us n2 vs with
          | true =>
            rw [hsb] at HSame
            have HEq := Lib.hid (show ((n1, us) : Int × List Nat) = (n2, vs) by
              simp only [sameB, Bool.and_eq_true, beq_iff_eq] at hsb
              rw [hsb.1, hsb.2])
            clear hsb
            go_wp2_with fail
            go_region_held3 (fun w' => w'.cell? ⟨w.heap.size, 1, none⟩ = some (.slice (some ⟨g1, o1, none⟩) n c1) ∧ w'.cell? ⟨w.heap.size + 1, 1, none⟩ = some (.slice (some ⟨g2, o2, none⟩) n c2) ∧ w'.cell? ⟨g1, o1 + i * 2, none⟩ = some (.int .i64 n1) ∧ w'.cell? ⟨g1, o1 + i * 2 + 1, none⟩ = some (.slice B1 k1 e1) ∧ w'.cell? ⟨g2, o2 + i * 2, none⟩ = some (.int .i64 n2) ∧ w'.cell? ⟨g2, o2 + i * 2 + 1, none⟩ = some (.slice B2 k2 e2)) (go_keep)
              (first
                | (go_at_call 24; refine HSame.out.mono ?_; rintro ee ww ⟨rfl, hb⟩; have HB1 := Lib.hid (HB.out.drew.trans (hb.mono HB.out.size)); have v1' := (hb.cell (p := ⟨w.heap.size, 1, none⟩) LZ0.out).trans v1; have f1' := (hb.cell (p := ⟨w.heap.size + 1, 1, none⟩) LZ1.out).trans f1; have x1' := (hb.cell (p := ⟨g1, o1 + i * 2, none⟩) LG1.out).trans x1; have y1' := (hb.cell (p := ⟨g1, o1 + i * 2 + 1, none⟩) LG1.out).trans y1; have x2' := (hb.cell (p := ⟨g2, o2 + i * 2, none⟩) LG2.out).trans x2; have y2' := (hb.cell (p := ⟨g2, o2 + i * 2 + 1, none⟩) LG2.out).trans y2; clear hb))
            go_wp2_with fail
            go_roundw
            case rel => exact ⟨i + 1, by omega, by go_num, Lib.hid (HTS.out HEq.out), HB1⟩
            case measure => simp [intOf] <;> omega
          | false =>
            rw [hsb] at HSame
            have HF := Lib.hid (show sameM N ms N ks = false by
              simp only [sameM, beq_self_eq_true, Bool.true_and, beq_eq_false_iff_ne]
              intro e
              have := HTN.out e
              injection this with e1 e2
              rw [e1, e2] at hsb
              simp [sameB] at hsb)
            clear hsb
            go_wp2_with fail
            go_region_held3 (fun w' => w'.cell? ⟨w.heap.size, 1, none⟩ = some (.slice (some ⟨g1, o1, none⟩) n c1) ∧ w'.cell? ⟨w.heap.size + 1, 1, none⟩ = some (.slice (some ⟨g2, o2, none⟩) n c2) ∧ w'.cell? ⟨g1, o1 + i * 2, none⟩ = some (.int .i64 n1) ∧ w'.cell? ⟨g1, o1 + i * 2 + 1, none⟩ = some (.slice B1 k1 e1) ∧ w'.cell? ⟨g2, o2 + i * 2, none⟩ = some (.int .i64 n2) ∧ w'.cell? ⟨g2, o2 + i * 2 + 1, none⟩ = some (.slice B2 k2 e2)) (go_keep)
              (first
                | (go_at_call 24; refine HSame.out.mono ?_; rintro ee ww ⟨rfl, hb⟩; have HB1 := Lib.hid (HB.out.drew.trans (hb.mono HB.out.size)); have v1' := (hb.cell (p := ⟨w.heap.size, 1, none⟩) LZ0.out).trans v1; have f1' := (hb.cell (p := ⟨w.heap.size + 1, 1, none⟩) LZ1.out).trans f1; have x1' := (hb.cell (p := ⟨g1, o1 + i * 2, none⟩) LG1.out).trans x1; have y1' := (hb.cell (p := ⟨g1, o1 + i * 2 + 1, none⟩) LG1.out).trans y1; have x2' := (hb.cell (p := ⟨g2, o2 + i * 2, none⟩) LG2.out).trans x2; have y2' := (hb.cell (p := ⟨g2, o2 + i * 2 + 1, none⟩) LG2.out).trans y2; clear hb))
            go_wp2_with fail
            go_ret
            exact ⟨by rw [HF.out]; rfl, HW.out.trans (HB1.out.mono HW.out.size)⟩
        · obtain rfl : i = n := by omega
          have hlt' : ¬ (i : Int) < (i : Int) := by omega
          have HE := Lib.hid (show sameM N ms N ks = true by
            have := HT.out
            rw [List.take_of_length_le (by rw [HL1.out]; omega), List.take_of_length_le (by rw [HL2.out]; omega)] at this
            rw [this]; exact sameM_self _ _)
          go_wp2
          go_ret
          exact ⟨by rw [HE.out]; rfl, HW.out.trans (HB.out.mono HW.out.size)⟩
    · have t2 : (((n : Nat) : Int) != ((m : Nat) : Int)) = true := by rw [bne_iff_ne]; omega
      have HF := Lib.hid (show sameM N ms N ks = false by
        simp only [sameM, beq_self_eq_true, Bool.true_and, beq_eq_false_iff_ne]
        intro e
        apply hn
        rw [← HL1.out, ← HL2.out, e])
      go_enter Tryd.func11, Tryd.ntmps11
      go_wp2
      go_ret
      exact ⟨by rw [HF.out]; rfl, HW.out⟩
  · have t1 : (N != M) = true := by simpa using hN
    have HF := Lib.hid (show sameM N ms M ks = false by
      have : (N == M) = false := by simpa using hN
      simp [sameM, this])
    go_enter Tryd.func11, Tryd.ntmps11
    go_wp2
    go_ret
    exact ⟨by rw [HF.out]; rfl, HW.out⟩
end
section
/- Contracts of layer 3: slices.EqualFunc at rows, Like, rowsBy. -/
set_option linter.unusedVariables false
set_option linter.unusedSimpArgs false
open Go.RowKit
/-- Rows as cells: how many bits, and the slice of words. -/
abbrev RowV := Int × Option Addr × Nat × Nat
def rowCells (rs : List RowV) : List Value := rs.flatMap fun r => [.int .i64 r.1, .slice r.2.1 r.2.2.1 r.2.2.2]
theorem rowCells_cons (r : RowV) (rs : List RowV) : rowCells (r :: rs) = .int .i64 r.1 :: .slice r.2.1 r.2.2.1 r.2.2.2 :: rowCells rs := rfl
theorem rowCells_len (rs : List RowV) : (rowCells rs).length = rs.length * 2 := by
  induction rs with
  | nil => rfl
  | cons r rs ih => rw [rowCells_cons, List.length_cons, List.length_cons, List.length_cons, ih]; omega
theorem rowCells_snoc (rs : List RowV) (r : RowV) : rowCells (rs ++ [r]) = rowCells rs ++ [.int .i64 r.1, .slice r.2.1 r.2.2.1 r.2.2.2] := by simp [rowCells]
theorem rowCells_at (rs : List RowV) (j : Nat) (hj : j < rs.length) : (rowCells rs)[j * 2]? = some (.int .i64 (rs.getD j (0, none, 0, 0)).1) ∧ (rowCells rs)[j * 2 + 1]? = some (.slice (rs.getD j (0, none, 0, 0)).2.1 (rs.getD j (0, none, 0, 0)).2.2.1 (rs.getD j (0, none, 0, 0)).2.2.2) := by
  induction rs generalizing j with
  | nil => cases hj
  | cons r rs ih =>
    cases j with
    | zero => rw [rowCells_cons]; exact ⟨rfl, rfl⟩
    | succ j =>
      have h := ih j (by simpa using hj)
      rw [rowCells_cons, show (j + 1) * 2 = j * 2 + 1 + 1 by omega]
      exact h
theorem rowCells_set (rs : List RowV) (j : Nat) (r : RowV) : ((rowCells rs).set (j * 2) (.int .i64 r.1)).set (j * 2 + 1) (.slice r.2.1 r.2.2.1 r.2.2.2) = rowCells (rs.set j r) := by
  induction rs generalizing j with
  | nil => simp [rowCells]
  | cons q rs ih =>
    cases j with
    | zero => rw [rowCells_cons]; rfl
    | succ j =>
      rw [rowCells_cons, List.set_cons_succ, rowCells_cons, ← ih j, show (j + 1) * 2 = j * 2 + 1 + 1 by omega]
      rfl
theorem rowCells_made (n : Nat) : (madeCells #[.int .i64 0, .slice none 0 0] (n * 2)) = (rowCells (List.replicate n (0, none, 0, 0))).toArray := by
  apply Array.toList_inj.1
  show _ = rowCells _
  unfold madeCells
  rw [Array.toList_map, Array.toList_range]
  induction n with
  | zero => rfl
  | succ n ih =>
    rw [show (n + 1) * 2 = n * 2 + 1 + 1 by omega, List.range_succ, List.range_succ, List.map_append, List.map_append, ih, List.replicate_succ', rowCells_snoc]
    have e1 : n * 2 % 2 = 0 := by omega
    have e2 : (n * 2 + 1) % 2 = 1 := by omega
    simp [e1, e2]
theorem row_infoM : (Tryd.prog.info? 45).map (fun i => (i.zero, i.size, i.bytes)) = some (some (.agg #[.int .i64 0, .slice none 0 0]), 2, 32) := by kernel_rfl
theorem makeRows_any (n : Nat) (hn : n ≤ 1000000) (w : World) :
    (Instr.makeSlice 22 (.int .i64 (n : Int)) (.int .i64 (n : Int))).run Tryd.prog w = .ok (.slice (some ⟨w.heap.size, 0, none⟩) n n) (w.alloc (.cells (rowCells (List.replicate n (0, none, 0, 0))).toArray 45)) := by
  obtain ⟨i0, hi, hz0, hz1, hz2⟩ := info_parts row_infoM
  have hr := run_make (P := Tryd.prog) w _ _ i0 _ Tryd.underlying22 hi hz0 .i64 .i64 n n (by omega) (by omega) (by rw [hz2]; omega) (by omega)
  simp only [Int.toNat_natCast, hz1] at hr
  rw [hr, ← rowCells_made]
  rfl
/-- A block of rows reads these. -/
theorem Box.rows {w : World} {g : Nat} {t : TypeId} {rs : List RowV} (h : Box w g t (rowCells rs).toArray) {N : Int} {f : Nat → List Nat} (hf : ∀ j, j < rs.length → (rs.getD j (0, none, 0, 0)).1 = N ∧ SliceOk (rs.getD j (0, none, 0, 0)).2.1 (rs.getD j (0, none, 0, 0)).2.2.1 (rs.getD j (0, none, 0, 0)).2.2.2 ∧ Words w (rs.getD j (0, none, 0, 0)).2.1 (rs.getD j (0, none, 0, 0)).2.2.1 (f j)) {lo : Nat} (hg : lo ≤ g) :
    MatAt w lo (some ⟨g, 0, none⟩) rs.length ((List.range rs.length).map fun i => (N, f i)) := by
  refine ⟨by simp, fun _ => ⟨g, 0, rfl, hg, h.lt, fun j hj => ?_⟩⟩
  obtain ⟨h1, h2, h3⟩ := hf j hj
  obtain ⟨c1, c2⟩ := rowCells_at rs j hj
  have e : ((List.range rs.length).map fun i => ((N, f i) : Int × List Nat)).getD j (0, []) = (N, f j) := by simp [List.getD, hj]
  rw [e, Nat.zero_add]
  refine ⟨_, _, _, ?_, ?_, h2, h3⟩
  · rw [h.cell, List.getElem?_toArray, c1, h1]
  · rw [h.cell, List.getElem?_toArray, c2]
theorem OwnW.ok {w : World} {A : Option Addr} {l c : Nat} {zs : List Nat} (h : OwnW w A l c zs) : SliceOk A l c := by
  rcases h.2 with ⟨hv, h0⟩ | ⟨g, cap, cur, hv, hb, hh, hn, hm, hs, hx⟩
  · injection hv with e1 e2 e3
    subst e1 e2 e3
    exact ⟨Nat.le_refl _, Nat.zero_le _, fun _ => ⟨rfl, rfl⟩⟩
  · injection hv with e1 e2 e3
    subst e1 e3
    exact ⟨hn, hm, fun h => by cases h⟩
/-- What rowsBy asks of its function. -/
def RowsAsk (fn : Nat) (pre cb : Array Value) (many : Nat) (N : Int) (f : Nat → List Nat) (w : World) : Prop :=
  ∀ (W : World) (i : Nat), i < many → Below w.heap.size w W → Calls Tryd.prog fn (pre ++ #[.int .i64 i] ++ cb) W (OneOwn N (f i) W)
/-- What rowsBy hands back. -/
def MatsOut (N : Int) (f : Nat → List Nat) (many : Nat) (w : World) (e : Ending) (w' : World) : Prop :=
  ∃ g, e = .returned (.slice (some ⟨g, 0, none⟩) many many) ∧ w.heap.size ≤ g ∧ MatAt w' w.heap.size (some ⟨g, 0, none⟩) many ((List.range many).map fun i => (N, f i)) ∧ Below w.heap.size w w'
set_option maxHeartbeats 2000000 in
theorem rowsBy_any (fn : Nat) (pre cb : Array Value) (many : Nat) (N : Int) (f : Nat → List Nat) (w : World) (eg : ∀ args w, (callFunc fn args).run Tryd.prog w = .ok (.enter fn args) w) (hm : many ≤ 64) (hf : RowsAsk fn pre cb many N f w) (hz : ∀ i j, (f i).getD j 0 < 18446744073709551616) :
    Calls Tryd.prog 29 #[.int .i64 many, .func (.func fn) pre cb] w (MatsOut N f many w) := by
  have mk := makeRows_any many (by omega) w
  have BX := Lib.hid (Box.new w 45 (rowCells (List.replicate many (0, none, 0, 0))).toArray)
  have HW := Lib.hid (show Below w.heap.size w (w.alloc (.cells (rowCells (List.replicate many (0, none, 0, 0))).toArray 45)) from (Below.refl _ _).alloc (Nat.le_refl _) _)
  have HF := Lib.hid hf
  have HZ := Lib.hid hz
  clear hf hz
  go_enter Tryd.func29, Tryd.ntmps29
  go_wp2_with fail
  generalize w.alloc (.cells (rowCells (List.replicate many (0, none, 0, 0))).toArray 45) = W at *
  clear mk
  go_loopw [11] (fun t wr => ∃ (i : Nat) (rs : List RowV), i ≤ many ∧ t = .int .i64 i ∧ rs.length = many ∧ Box wr w.heap.size 45 (rowCells rs).toArray ∧ Hid (∀ j, j < i → (rs.getD j (0, none, 0, 0)).1 = N ∧ OwnW wr (rs.getD j (0, none, 0, 0)).2.1 (rs.getD j (0, none, 0, 0)).2.2.1 (rs.getD j (0, none, 0, 0)).2.2.2 (f j)) ∧ Below w.heap.size w wr) (fun t _ => many - (intOf t).toNat)
  case atStart => exact ⟨0, _, by omega, rfl, by simp, BX.out, Lib.hid (fun j hj => absurd hj (Nat.not_lt_zero _)), HW.out⟩
  case round =>
    obtain ⟨i, rs, hi, rfl, hrs, hbx, HR, hbel⟩ := hrel
    have R := Lib.hid hbx
    have HB := Lib.hid hbel
    have HL := Lib.hid hrs
    clear hbx hbel BX HW hrs
    by_cases hlt : i < many
    · have hlt' : (i : Int) < (many : Int) := by omega
      go_wp2_with fail
      refine (HF.out _ i hlt HB.out).mono ?_
      rintro e x1 ⟨A1, l1, c1, rfl, hw, hb⟩
      have R1 := Lib.hid (R.out.keep hb)
      have HB1 := Lib.hid (chain HB.out hb)
      have HW1 := Lib.hid hw
      have HR1 := Lib.hid (fun j hj => And.intro (HR.out j hj).1 ((HR.out j hj).2.below hb))
      clear hb hw
      obtain ⟨q1, q2⟩ := rowCells_at rs i (by rw [HL.out]; exact hlt)
      have c0 : x1.cell? ⟨w.heap.size, i * 2, none⟩ = some (.int .i64 (rs.getD i (0, none, 0, 0)).1) := by rw [R1.out.cell, List.getElem?_toArray, q1]
      have d0 : x1.cell? ⟨w.heap.size, i * 2 + 1, none⟩ = some (.slice (rs.getD i (0, none, 0, 0)).2.1 (rs.getD i (0, none, 0, 0)).2.2.1 (rs.getD i (0, none, 0, 0)).2.2.2) := by rw [R1.out.cell, List.getElem?_toArray, q2]
      have f0 := R1.out.free (i * 2)
      have f1 := R1.out.free (i * 2 + 1)
      clear q1 q2
      go_wp2_with fail
      go_roundw
      case rel =>
        refine ⟨i + 1, rs.set i (N, A1, l1, c1), by omega, by go_num, by simp [HL.out], ?_, Lib.hid (fun j hj => ?_), (HB1.out.setCell (p := ⟨w.heap.size, i * 2, none⟩) (Nat.le_refl _) _).setCell (p := ⟨w.heap.size, i * 2 + 1, none⟩) (Nat.le_refl _) _⟩
        · have h := (R1.out.put (i * 2) (.int .i64 N)).put (i * 2 + 1) (.slice A1 l1 c1)
          have e2 := rowCells_set rs i (N, A1, l1, c1)
          simp only at e2
          rw [← e2]
          simpa using h
        · by_cases hji : j = i
          · subst hji
            have e1 : (rs.set j (N, A1, l1, c1)).getD j (0, none, 0, 0) = (N, A1, l1, c1) := by simp [List.getD, HL.out, hlt]
            rw [e1]
            exact ⟨rfl, (HW1.out.far R1.out (by decide) _ _).far (R1.out.put _ _) (by decide) _ _⟩
          · have e1 : (rs.set i (N, A1, l1, c1)).getD j (0, none, 0, 0) = rs.getD j (0, none, 0, 0) := by
              simp only [List.getD]
              rw [List.getElem?_set_ne (by omega)]
            rw [e1]
            obtain ⟨a1, a2⟩ := HR1.out j (by omega)
            exact ⟨a1, (a2.far R1.out (by decide) _ _).far (R1.out.put _ _) (by decide) _ _⟩
      case measure => simp [intOf] <;> omega
    · obtain rfl : i = many := by omega
      have hlt' : ¬ (i : Int) < (i : Int) := by omega
      go_wp2
      go_ret
      have h := R.out.rows (N := N) (f := f) (fun j hj => by
        obtain ⟨a1, a2⟩ := HR.out j (by rw [← HL.out]; exact hj)
        exact ⟨a1, a2.ok, a2.words (HZ.out j)⟩) (Nat.le_refl _)
      rw [HL.out] at h
      exact ⟨_, rfl, Nat.le_refl _, h, HB.out⟩
end
section
/- Contracts of layer 3: alone, One. -/
set_option linter.unusedVariables false
set_option linter.unusedSimpArgs false
open Go.RowKit
theorem chainN {w w1 w2 : World} {B : Nat} (h : Below B w w1) (hB : B ≤ w1.heap.size) (h2 : Below w1.heap.size w1 w2) : Below B w w2 := h.trans (h2.mono hB)
set_option maxHeartbeats 1000000 in
theorem alone_any (n i : Nat) (hi : i < n) (hn : n ≤ 64) (w : World) : Calls Tryd.prog 32 #[.int .i64 n, .int .i64 i] w (OneOwn n (ofBits n [(i : Int)]) w) := by
  have Q0 := Lib.hid ((Box.new w 45 #[.int .i64 0, .slice none 0 0]).alloc (.cells #[.int .i64 i] 3))
  have HW := Lib.hid (show Below w.heap.size w ((w.alloc (.cells #[.int .i64 0, .slice none 0 0] 45)).alloc (.cells #[.int .i64 i] 3)) from ((Below.refl _ _).alloc (Nat.le_refl _) _).alloc (by simp) _)
  have bx := Box.new (w.alloc (.cells #[.int .i64 0, .slice none 0 0] 45)) 3 #[.int .i64 (i : Int)]
  have HI := Lib.hid (show Ints ((w.alloc (.cells #[.int .i64 0, .slice none 0 0] 45)).alloc (.cells #[.int .i64 i] 3)) (some ⟨w.heap.size + 1, 0, none⟩) 1 [(i : Int)] from by
    simp only [World.size_alloc] at bx
    refine ⟨rfl, fun j => ?_, fun _ => ⟨w.heap.size + 1, 0, rfl, bx.lt, fun j hj => ?_⟩⟩
    · match j with
      | 0 => simp; omega
      | k + 1 => simp
    · rw [Nat.zero_add, bx.cell]
      match j, hj with
      | 0, _ => rfl)
  clear bx
  have HL := Lib.hid ((lmb_iff n).2 ⟨by omega, by omega⟩)
  have HT := Lib.hid (show there n [(i : Int)] = true by simp [there]; omega)
  go_enter Tryd.func32, Tryd.ntmps32
  go_wp2_with fail
  refine (of_own n _ 1 1 [(i : Int)] HL.out _ HI.out (by omega) HT.out).mono ?_
  rintro e w2 ⟨A, l, c2, rfl, hw, hb⟩
  have P0 := Lib.hid ((Q0.out.keep hb).alloc (.cells #[.int .i64 n, .slice A l c2] 45))
  have P1 := Lib.hid (Box.new w2 45 #[.int .i64 n, .slice A l c2])
  have T1 := Lib.hid ((chainN HW.out HW.out.size hb).alloc (chainN HW.out HW.out.size hb).size (.cells #[.int .i64 n, .slice A l c2] 45))
  have HWo := Lib.hid (hw.alloc (.cells #[.int .i64 n, .slice A l c2] 45))
  clear hw hb
  obtain ⟨r0, r1, r2, r3⟩ := P0.out.two
  obtain ⟨s0, s1, -, -⟩ := P1.out.two
  go_wp2
  refine close_one Tryd.results32 rfl rfl P0.out.put2 Tryd.underlying45 rfl (by kernel_rfl) ⟨_, _, _, rfl, HWo.out.put2 P0.out _ _, ?_⟩
  exact (T1.out.setCell (p := ⟨w.heap.size, 0, none⟩) (Nat.le_refl _) _).setCell (p := ⟨w.heap.size, 1, none⟩) (Nat.le_refl _) _
/-- What a function of one matrix and an error hands back. -/
def MatRes (N : Int) (ms : List (Int × List Nat)) (err : Int) (w : World) (e : Ending) (w' : World) : Prop :=
  ∃ A c, e = .returned (.tuple #[.agg #[.int .i64 N, .slice A ms.length c], .int .i64 err]) ∧ MatAt w' w.heap.size A ms.length ms ∧ Below w.heap.size w w'
/-- What a function of one matrix hands back. -/
def MatOne (N : Int) (ms : List (Int × List Nat)) (w : World) (e : Ending) (w' : World) : Prop :=
  ∃ A c, e = .returned (.agg #[.int .i64 N, .slice A ms.length c]) ∧ MatAt w' w.heap.size A ms.length ms ∧ Below w.heap.size w w'
def oneL (n : Nat) : List (Int × List Nat) := (List.range n).map fun (i : Nat) => ((n : Int), ofBits n [(i : Int)])
theorem oneL_len (n : Nat) : (oneL n).length = n := by simp [oneL]
def oneN (n : Int) : Int := if smb n then n else 0
def oneM (n : Int) : List (Int × List Nat) := if smb n then oneL n.toNat else []
def oneE (n : Int) : Int := if smb n then 0 else 2
set_option maxHeartbeats 1000000 in
theorem one_any (n : Int) (w : World) : Calls Tryd.prog 17 #[.int .i64 n] w (MatRes (oneN n) (oneM n) (oneE n) w) := by
  have H := Lib.hid (columnsMayBe_any n)
  have Q := Lib.hid (Box.new w 24 #[.int .i64 0, .slice none 0 0])
  have HW := Lib.hid (show Below w.heap.size w (w.alloc (.cells #[.int .i64 0, .slice none 0 0] 24)) from (Below.refl _ _).alloc (Nat.le_refl _) _)
  obtain ⟨r0, r1, r2, r3⟩ := Q.out.two
  cases h : smb n with
  | false =>
    have e1 : oneN n = 0 := by simp [oneN, h]
    have e2 : oneM n = [] := by simp [oneM, h]
    have e3 : oneE n = 2 := by simp [oneE, h]
    rw [e1, e2, e3]
    clear e1 e2 e3
    go_enter Tryd.func17, Tryd.ntmps17
    go_wp2_with fail
    refine (H.out _).mono ?_
    rintro e w1 ⟨rfl, rfl⟩
    go_wp2
    refine close_cell Tryd.results17 rfl rfl rfl Q.out Tryd.underlying24 rfl (by kernel_rfl) ⟨_, _, rfl, MatAt.nil _ _ _, HW.out⟩
  | true =>
    obtain ⟨m, rfl⟩ := Int.eq_ofNat_of_zero_le ((smb_iff n).1 h).1
    have e1 : oneN m = m := by simp [oneN, h]
    have e2 : oneM m = oneL m := by simp [oneM, h]
    have e3 : oneE m = 0 := by simp [oneE, h]
    rw [e1, e2, e3]
    clear e1 e2 e3
    have hm := ((smb_iff m).1 h).2
    have HR := Lib.hid (rowsBy_any 32 #[.int .i64 m] #[] m m (fun i => ofBits m [(i : Int)]) (w.alloc (.cells #[.int .i64 0, .slice none 0 0] 24)) (enters_of Tryd.func32 (by kernel_rfl) rfl) (by omega)
      (fun W i hi _ => alone_any m i hi (by omega) W) (fun i j => ofBits_lt m _ j))
    go_enter Tryd.func17, Tryd.ntmps17
    go_wp2_with fail
    refine (H.out _).mono ?_
    rintro e w1 ⟨rfl, rfl⟩
    go_wp2_with fail
    refine HR.out.mono ?_
    rintro e x1 ⟨g, rfl, hg, hma, hb⟩
    have P := Lib.hid (Q.out.keep hb)
    have B := Lib.hid (chain HW.out hb)
    have HM := Lib.hid hma
    simp only [World.size_alloc] at hg HM
    clear hma hb r0 r1 r2 r3
    obtain ⟨r0, r1, r2, r3⟩ := P.out.two
    go_wp2_with fail
    refine close_cell Tryd.results17 rfl rfl rfl P.out.put2 Tryd.underlying24 rfl (by kernel_rfl) ⟨some ⟨g, 0, none⟩, m, by rw [oneL_len]; rfl, ?_, (B.out.setCell (p := ⟨w.heap.size, 0, none⟩) (Nat.le_refl _) _).setCell (p := ⟨w.heap.size, 1, none⟩) (Nat.le_refl _) _⟩
    rw [oneL_len]
    exact (HM.out.put2 P.out (by omega) _).low (by omega)
end
section
/- bitrow.Get. -/
set_option linter.unusedVariables false
set_option linter.unusedSimpArgs false
open Go.RowKit
/-- What Get tells. -/
def getV (N : Int) (us : List Nat) (i : Int) : Int := if rightB N us && (decide (0 ≤ i) && decide (i < N)) then (bitAt us i.toNat : Nat) else 0
def getE (N : Int) (us : List Nat) (i : Int) : Int := if rightB N us then if decide (0 ≤ i) && decide (i < N) then 0 else 3 else 1
theorem get_bad (N i : Int) (A : Option Addr) (len c : Nat) (us : List Nat) (w : World) (hr : rightB N us = false) (hW : Words w A len us) :
    Calls Tryd.prog 44 #[.agg #[.int .i64 N, .slice A len c], .int .i64 i] w fun e w' => e = .returned (.tuple #[.int .i64 0, .int .i64 1]) ∧ Below w.heap.size w w' := by
  have Q := Lib.hid (Box.new w 45 #[.int .i64 N, .slice A len c])
  have HB := Lib.hid (show Below w.heap.size w (w.alloc (.cells #[.int .i64 N, .slice A len c] 45)) from (Below.refl _ _).alloc (Nat.le_refl _) _)
  have HR := Lib.hid (right_any N A len c us _ (hW.alloc (.cells #[.int .i64 N, .slice A len c] 45)))
  rw [hr] at HR
  obtain ⟨r0, r1, -, -⟩ := Q.out.two
  clear hW hr
  go_enter Tryd.func44, Tryd.ntmps44
  go_wp2_with fail
  refine HR.out.mono ?_
  rintro e w1 ⟨rfl, hb⟩
  have B := Lib.hid (chain HB.out hb)
  clear hb
  go_wp2
  go_ret2
  exact ⟨rfl, B.out⟩
theorem get_far (N i : Int) (A : Option Addr) (len c : Nat) (us : List Nat) (w : World) (hr : rightB N us = true) (hi : (decide (0 ≤ i) && decide (i < N)) = false) (hW : Words w A len us) :
    Calls Tryd.prog 44 #[.agg #[.int .i64 N, .slice A len c], .int .i64 i] w fun e w' => e = .returned (.tuple #[.int .i64 0, .int .i64 3]) ∧ Below w.heap.size w w' := by
  have Q := Lib.hid (Box.new w 45 #[.int .i64 N, .slice A len c])
  have HB := Lib.hid (show Below w.heap.size w (w.alloc (.cells #[.int .i64 N, .slice A len c] 45)) from (Below.refl _ _).alloc (Nat.le_refl _) _)
  have HR := Lib.hid (right_any N A len c us _ (hW.alloc (.cells #[.int .i64 N, .slice A len c] 45)))
  rw [hr] at HR
  have HI := Lib.hid (isPlace_any N A len c i)
  rw [hi] at HI
  obtain ⟨r0, r1, -, -⟩ := Q.out.two
  clear hW hr hi
  go_enter Tryd.func44, Tryd.ntmps44
  go_wp2_with fail
  refine HR.out.mono ?_
  rintro e w1 ⟨rfl, hb⟩
  have B := Lib.hid (chain HB.out hb)
  have Q := Lib.hid (Q.out.keep hb)
  clear hb r0 r1
  obtain ⟨r0, r1, -, -⟩ := Q.out.two
  go_wp2_with fail
  refine (HI.out _).mono ?_
  rintro e w2 ⟨rfl, hb⟩
  have B := Lib.hid (chain B.out hb)
  clear hb
  go_wp2
  go_ret2
  exact ⟨rfl, B.out⟩
set_option maxHeartbeats 1000000 in
theorem get_yes (N i : Nat) (A : Option Addr) (len c : Nat) (us : List Nat) (w : World) (hr : rightB N us = true) (hi : i < N) (hW : Words w A len us) :
    Calls Tryd.prog 44 #[.agg #[.int .i64 N, .slice A len c], .int .i64 i] w fun e w' => e = .returned (.tuple #[.int .i64 (bitAt us i : Nat), .int .i64 0]) ∧ Below w.heap.size w w' := by
  have hl8 := rightB_len8 hr hW.1
  have hnw : i < 64 * len := by
    have h := hr
    simp only [rightB, Bool.and_eq_true, beq_iff_eq, Int.toNat_natCast] at h
    have h1 := h.1.2
    rw [hW.1] at h1
    unfold nw at h1
    omega
  have Q := Lib.hid (Box.new w 45 #[.int .i64 N, .slice A len c])
  have HB := Lib.hid (show Below w.heap.size w (w.alloc (.cells #[.int .i64 N, .slice A len c] 45)) from (Below.refl _ _).alloc (Nat.le_refl _) _)
  have HW := Lib.hid (hW.alloc (.cells #[.int .i64 N, .slice A len c] 45))
  have HR := Lib.hid (right_any N A len c us _ HW.out)
  rw [hr] at HR
  have HI := Lib.hid (isPlace_any N A len c i)
  rw [show (decide ((0 : Int) ≤ i) && decide ((i : Int) < N)) = true by simp; omega] at HI
  obtain ⟨r0, r1, -, -⟩ := Q.out.two
  clear hW hr
  go_enter Tryd.func44, Tryd.ntmps44
  go_wp2_with fail
  refine HR.out.mono ?_
  rintro e w1 ⟨rfl, hb⟩
  have B := Lib.hid (chain HB.out hb)
  have Q := Lib.hid (Q.out.keep hb)
  have HW := Lib.hid (HW.out.below hb)
  clear hb r0 r1
  obtain ⟨r0, r1, -, -⟩ := Q.out.two
  go_wp2_with fail
  refine (HI.out _).mono ?_
  rintro e w2 ⟨rfl, hb⟩
  have B := Lib.hid (chain B.out hb)
  have Q := Lib.hid (Q.out.keep hb)
  have HW := Lib.hid (HW.out.below hb)
  clear hb r0 r1 HI HR HB
  obtain ⟨r0, r1, -, -⟩ := Q.out.two
  obtain ⟨b, off, rfl, hlb, hc⟩ := HW.out.2.2 (by omega)
  have c1 := hc (i / 64) (by omega)
  have hx := HW.out.2.1 (i / 64)
  have hv : bits BinOp.and IntKind.u64 (((us.getD (i / 64) 0 : Nat) : Int) / 2 ^ (i % 64)) 1 = ((bitAt us i : Nat) : Int) := by
    have h1 := Nat.div_le_self (us.getD (i / 64) 0) (2 ^ (i % 64))
    have := u64_and_nat (us.getD (i / 64) 0 / 2 ^ (i % 64)) 1 (by omega) (by omega)
    rw [show us.getD (i / 64) 0 / 2 ^ (i % 64) &&& 1 = bitAt us i from Nat.and_one_is_mod _, Int.natCast_ediv] at this
    simpa using this
  have hb1 : bitAt us i ≤ 1 := by rcases bitAt_le us i with h | h <;> omega
  clear hc
  generalize hme : bitAt us i = v at *
  have HE := Lib.hid hme
  clear hme
  generalize us.getD (i / 64) 0 = x at *
  have g1 : (i : Int).tdiv 64 = ((i / 64 : Nat) : Int) := by rw [Int.tdiv_eq_ediv_of_nonneg (by omega)]; omega
  have g2 : (i : Int).tmod 64 = ((i % 64 : Nat) : Int) := by rw [Int.tmod_eq_emod_of_nonneg (by omega)]; omega
  have g3 : ((i / 64 : Nat) : Int) < (len : Int) := by omega
  go_wp2
  go_ret2
  exact ⟨by rw [HE.out]; rfl, B.out⟩
end
section
/- Contracts of layer 3: column, Turn. -/
set_option linter.unusedVariables false
set_option linter.unusedSimpArgs false
open Go.RowKit
theorem int_infoM : (Tryd.prog.info? 3).map (fun i => (i.zero, i.size, i.bytes)) = some (some (.int .i64 0), 1, 8) := by kernel_rfl
set_option maxHeartbeats 2000000 in
theorem column_any (N : Nat) (A : Option Addr) (l c lo : Nat) (ms : List (Int × List Nat)) (q : Nat) (w : World) (hm : MatAt w lo A l ms) (hr : rightM N ms = true) (hq : q < N) :
    Calls Tryd.prog 30 #[.agg #[.int .i64 N, .slice A l c], .int .i64 q] w (OneOwn l (ofBits l (castP (colP ms q l))) w) := by
  obtain ⟨i0, hi, hz0, hz1, hz2⟩ := info_parts int_infoM
  have HI := Lib.hid hi
  have HZ0 := Lib.hid hz0
  have HZ1 := Lib.hid hz1
  have HZ2 := Lib.hid hz2
  clear hi hz0 hz1 hz2
  have hl := (rightM_bd hr).2.2
  rw [hm.1] at hl
  have HR := Lib.hid hr
  have HM := Lib.hid hm
  have HL := Lib.hid hm.1
  have Q0 := Lib.hid ((Box.new w 47 #[.int .i64 N, .slice A l c]).alloc (.cells #[.int .i64 0, .slice none 0 0] 45))
  have q1 := Box.new (w.alloc (.cells #[.int .i64 N, .slice A l c] 47)) 45 #[.int .i64 0, .slice none 0 0]
  have HW := Lib.hid (show Below w.heap.size w ((w.alloc (.cells #[.int .i64 N, .slice A l c] 47)).alloc (.cells #[.int .i64 0, .slice none 0 0] 45)) from ((Below.refl _ _).alloc (Nat.le_refl _) _).alloc (by simp) _)
  simp only [World.size_alloc] at q1
  have Q1 := Lib.hid q1
  have n1 := Lib.hid (show (3 : TypeId) ≠ 47 by decide)
  have n2 := Lib.hid (show (3 : TypeId) ≠ 45 by decide)
  clear hm hr q1
  obtain ⟨r0, r1, -, -⟩ := Q0.out.two
  go_enter Tryd.func30, Tryd.ntmps30
  go_wp2_with fail
  clear r0 r1
  go_loopw [5, 15] (fun v t wr => ∃ k : Nat, k ≤ l ∧ t = .int .i64 k ∧ wr.ownsRow w.heap.size 3 1 v (colP ms q k).length ((castP (colP ms q k)).map (Value.int .i64)) ∧ Box wr w.heap.size 47 #[.int .i64 N, .slice A l c] ∧ Box wr (w.heap.size + 1) 45 #[.int .i64 0, .slice none 0 0] ∧ Below w.heap.size w wr) (fun _ t _ => l - (intOf t).toNat)
  case atStart => exact ⟨0, by omega, rfl, World.ownsRow_nil _ _ _ _, Q0.out, Q1.out, HW.out⟩
  case round =>
    obtain ⟨k, hk, rfl, hown, hb0, hb1, hbel⟩ := hrel
    have HO := Lib.hid hown
    have R0 := Lib.hid hb0
    have R1 := Lib.hid hb1
    have HB := Lib.hid hbel
    have hpl := colP_len ms q k
    clear hown hb0 hb1 hbel Q0 Q1 HW
    by_cases hlt : k < l
    · have hlt' : (k : Int) < (l : Int) := by omega
      have h1 := (HM.out.mono (Nat.le_refl _) HB.out)
      obtain ⟨g1, o1, B1, k1, e1, rfl, hg1, x1, y1, s1, u1⟩ := h1.at k hlt
      obtain ⟨hn, hrr⟩ := rightM_at HR.out k (by rw [HL.out]; exact hlt)
      have HS := Lib.hid (colP_succ ms q k)
      have HMB := Lib.hid (show mbit ms k q = bitAt (ms.getD k (0, [])).2 q from rfl)
      rw [hn] at x1
      clear hn h1 s1
      generalize (ms.getD k (0, [])).2 = us at *
      have X0 := Lib.hid (R0.out.alloc (.cells #[.int .i64 N, .slice B1 k1 e1] 45))
      have X1 := Lib.hid (R1.out.alloc (.cells #[.int .i64 N, .slice B1 k1 e1] 45))
      have XO := Lib.hid (HO.out.alloc (.cells #[.int .i64 N, .slice B1 k1 e1] 45))
      have XB := Lib.hid (HB.out.alloc HB.out.size (.cells #[.int .i64 N, .slice B1 k1 e1] 45))
      have HG := Lib.hid (get_yes N q B1 k1 e1 us _ hrr hq (u1.alloc (.cells #[.int .i64 N, .slice B1 k1 e1] 45)))
      have P := Box.new wr 45 #[.int .i64 N, .slice B1 k1 e1]
      obtain ⟨p0, p1, -, -⟩ := P.two
      clear P u1 hrr
      go_wp2_with fail
      refine HG.out.mono ?_
      rintro e x1 ⟨rfl, hb⟩
      have X0 := Lib.hid (X0.out.keep hb)
      have X1 := Lib.hid (X1.out.keep hb)
      have XO := Lib.hid (own_keep XO.out hb)
      have XB := Lib.hid (chainN XB.out XB.out.size hb)
      clear hb p0 p1 HG
      have hi' := HI.out
      have hz0' := HZ0.out
      have hz1' := HZ1.out
      have hz2' := HZ2.out
      rcases bitAt_le us q with hbit | hbit
      · have HS := Lib.hid (show colP ms q (k + 1) = colP ms q k by rw [HS.out, HMB.out, hbit]; simp)
        rw [hbit]
        clear hbit
        go_wp2_with fail
        go_roundw
        case rel => exact ⟨k + 1, by omega, by go_num, by rw [HS.out]; exact XO.out, X0.out, X1.out, XB.out⟩
        case measure => simp [intOf] <;> omega
      · have HS := Lib.hid (show colP ms q (k + 1) = colP ms q k ++ [k] by rw [HS.out, HMB.out, hbit]; simp)
        rw [hbit]
        clear hbit
        have Y0 := Lib.hid (X0.out.alloc (.cells #[.int .i64 k] 3))
        have Y1 := Lib.hid (X1.out.alloc (.cells #[.int .i64 k] 3))
        have YO := Lib.hid (XO.out.alloc (.cells #[.int .i64 k] 3))
        have YB := Lib.hid (XB.out.alloc XB.out.size (.cells #[.int .i64 k] 3))
        have N0 := Lib.hid (own_ne YO.out Y0.out n1.out)
        have N1 := Lib.hid (own_ne YO.out Y1.out n2.out)
        have N2 := Lib.hid (fun k hk => (XO.out.lt k hk).1)
        go_wp2_with (at_builtin; refine wpList_append_own _ rfl _ _ 55 rfl w.heap.size 3 i0 (.int .i64 0) 1 8 Tryd.underlying55 hi' hz0' hz1' hz2' rfl (by decide) _ _ _ rfl YO.out ⟨x1.heap.size, 0, none⟩ 1 1 [.int .i64 k] rfl rfl (cell_one_new _ _ _) (by simp [Value.oneCell']) (by simp [maxLen]; omega) (by omega) YB.out.size ?_; intro v' w1 hown' hgrow _; have Z0 := Lib.hid (Y0.out.grown hgrow N0.out); have Z1 := Lib.hid (Y1.out.grown hgrow N1.out); have ZB := Lib.hid (YB.out.grown hgrow YB.out.size N2.out); have HO2 := Lib.hid hown'; clear hown' hgrow)
        go_roundw
        case rel =>
          refine ⟨k + 1, by omega, by go_num, ?_, Z0.out, Z1.out, ZB.out⟩
          rw [HS.out, List.length_append, show castP (colP ms q k ++ [k]) = castP (colP ms q k) ++ [(k : Int)] by simp [castP], List.map_append]
          exact HO2.out
        case measure => simp [intOf] <;> omega
    · obtain rfl : k = l := by omega
      have hlt' : ¬ (k : Int) < (k : Int) := by omega
      obtain ⟨A', c', rfl, hA'⟩ := own_form HO.out
      obtain ⟨r0, r1, -, -⟩ := R0.out.two
      have HL2 := Lib.hid ((lmb_iff k).2 ⟨by omega, by omega⟩)
      have HP := Lib.hid (own_ints HO.out (castP_bound (k := k) (fun p hp => colP_lt hp) (by omega)))
      go_wp2_with fail
      refine (of_own k A' _ c' (castP (colP ms q k)) HL2.out _ HP.out (by omega) (colP_there ms q k)).mono ?_
      rintro e w2 ⟨A2, l2, c2, rfl, hw, hb⟩
      have P0 := Lib.hid ((R1.out.keep hb).alloc (.cells #[.int .i64 k, .slice A2 l2 c2] 45))
      have P1 := Lib.hid (Box.new w2 45 #[.int .i64 k, .slice A2 l2 c2])
      have T1 := Lib.hid ((chainN HB.out HB.out.size hb).alloc (chainN HB.out HB.out.size hb).size (.cells #[.int .i64 k, .slice A2 l2 c2] 45))
      have HWo := Lib.hid (hw.alloc (.cells #[.int .i64 k, .slice A2 l2 c2] 45))
      clear hw hb r0 r1
      obtain ⟨r0, r1, r2, r3⟩ := P0.out.two
      obtain ⟨s0, s1, -, -⟩ := P1.out.two
      go_wp2
      refine close_one Tryd.results30 rfl rfl P0.out.put2 Tryd.underlying45 rfl (by kernel_rfl) ⟨_, _, _, rfl, HWo.out.put2 P0.out _ _, ?_⟩
      exact (T1.out.setCell (p := ⟨w.heap.size + 1, 0, none⟩) (by simp) _).setCell (p := ⟨w.heap.size + 1, 1, none⟩) (by simp) _
theorem turnM_len (n : Nat) (ms : List (Int × List Nat)) : (turnM n ms).length = n := by simp [turnM]
theorem colW_lt (ms : List (Int × List Nat)) (i j : Nat) : (colW ms i).getD j 0 < 18446744073709551616 := ofBits_lt _ _ j
def turnN (N : Int) (ms : List (Int × List Nat)) : Int := if rightM N ms then ms.length else 0
def turnL (N : Int) (ms : List (Int × List Nat)) : List (Int × List Nat) := if rightM N ms then turnM N.toNat ms else []
def turnE (N : Int) (ms : List (Int × List Nat)) : Int := if rightM N ms then 0 else 1
set_option maxHeartbeats 2000000 in
theorem turn_any (N : Int) (A : Option Addr) (l c lo : Nat) (ms : List (Int × List Nat)) (w : World) (hm : MatAt w lo A l ms) (hl : l ≤ maxLen) :
    Calls Tryd.prog 16 #[.agg #[.int .i64 N, .slice A l c]] w (MatRes (turnN N ms) (turnL N ms) (turnE N ms) w) := by
  have Q0 := Lib.hid ((Box.new w 24 #[.int .i64 N, .slice A l c]).alloc (.cells #[.int .i64 0, .slice none 0 0] 24))
  have q1 := Box.new (w.alloc (.cells #[.int .i64 N, .slice A l c] 24)) 24 #[.int .i64 0, .slice none 0 0]
  have HW := Lib.hid (show Below w.heap.size w ((w.alloc (.cells #[.int .i64 N, .slice A l c] 24)).alloc (.cells #[.int .i64 0, .slice none 0 0] 24)) from ((Below.refl _ _).alloc (Nat.le_refl _) _).alloc (by simp) _)
  simp only [World.size_alloc] at q1
  have Q1 := Lib.hid q1
  have HM := Lib.hid (hm.below HW.out)
  have HL := Lib.hid hm.1
  have HR := Lib.hid (mright_any N A l c lo ms _ HM.out hl)
  clear q1 hm
  obtain ⟨r0, r1, -, -⟩ := Q0.out.two
  obtain ⟨s0, s1, s2, s3⟩ := Q1.out.two
  cases h : rightM N ms with
  | false =>
    have e1 : turnN N ms = 0 := by simp [turnN, h]
    have e2 : turnL N ms = [] := by simp [turnL, h]
    have e3 : turnE N ms = 1 := by simp [turnE, h]
    rw [e1, e2, e3]
    rw [h] at HR
    clear e1 e2 e3 h
    go_enter Tryd.func16, Tryd.ntmps16
    go_wp2_with fail
    refine HR.out.mono ?_
    rintro e w1 ⟨rfl, hb⟩
    have P := Lib.hid (Q1.out.keep hb)
    have B := Lib.hid (chain HW.out hb)
    clear hb s0 s1 s2 s3 r0 r1
    obtain ⟨s0, s1, s2, s3⟩ := P.out.two
    go_wp2
    refine close_cell Tryd.results16 rfl rfl rfl P.out.put2 Tryd.underlying24 rfl (by kernel_rfl) ⟨_, _, rfl, MatAt.nil _ _ _, ?_⟩
    exact (B.out.setCell (p := ⟨w.heap.size + 1, 0, none⟩) (by simp) _).setCell (p := ⟨w.heap.size + 1, 1, none⟩) (by simp) _
  | true =>
    obtain ⟨n, rfl⟩ := Int.eq_ofNat_of_zero_le (rightM_bd h).1
    have hbd := rightM_bd h
    have hl64 : l ≤ 64 := by have := HL.out; omega
    have e1 : turnN n ms = l := by simp [turnN, h, HL.out]
    have e2 : turnL n ms = turnM n ms := by simp [turnL, h]
    have e3 : turnE n ms = 0 := by simp [turnE, h]
    rw [e1, e2, e3]
    have HRT := Lib.hid h
    have HTL := Lib.hid (turnM_len n ms)
    rw [h] at HR
    clear e1 e2 e3 h
    go_enter Tryd.func16, Tryd.ntmps16
    go_wp2_with fail
    refine HR.out.mono ?_
    rintro e w1 ⟨rfl, hb⟩
    have P := Lib.hid (Q1.out.keep hb)
    have P0 := Lib.hid (Q0.out.keep hb)
    have B := Lib.hid (chain HW.out hb)
    have HM1 := Lib.hid (HM.out.below hb)
    have HBY := Lib.hid (rowsBy_any 30 #[.agg #[.int .i64 n, .slice A l c]] #[] n l (colW ms) w1.drew (enters_of Tryd.func30 (by kernel_rfl) rfl) (by omega)
      (fun W i hi hb => by
        have := column_any n A l c lo ms i W (HM1.out.drew.below hb) HRT.out hi
        unfold colW; rw [HL.out]; exact this) (colW_lt ms))
    clear hb s0 s1 s2 s3 r0 r1 HR HM
    obtain ⟨s0, s1, s2, s3⟩ := P.out.two
    obtain ⟨r0, r1, -, -⟩ := P0.out.two
    go_wp2_with fail
    go_region_held3 (fun w' => w'.cell? ⟨w.heap.size, 0, none⟩ = some (.int .i64 n) ∧ w'.cell? ⟨w.heap.size, 1, none⟩ = some (.slice A l c)) (go_keep)
      (first
        | (go_at_call 29; refine HBY.out.mono ?_; rintro e2 x1 ⟨g, rfl, hg, hma, hb⟩; have P2 := Lib.hid (P.out.drew.keep hb); have B2 := Lib.hid (chain B.out.drew hb); have HM2 := Lib.hid hma; obtain ⟨t0, t1, -, -⟩ := (P0.out.drew.keep hb).two; clear hb hma; obtain ⟨u0, u1, u2, u3⟩ := P2.out.two))
    have hz : w.heap.size + 1 < w1.heap.size := by have := P.out.lt; omega
    go_wp2_with fail
    refine close_cell Tryd.results16 rfl rfl rfl P2.out.put2 Tryd.underlying24 rfl (by kernel_rfl) ⟨some ⟨g, 0, none⟩, n, by rw [HTL.out]; rfl, ?_, (B2.out.setCell (p := ⟨w.heap.size + 1, 0, none⟩) (by simp) _).setCell (p := ⟨w.heap.size + 1, 1, none⟩) (by simp) _⟩
    rw [HTL.out]
    have h := (HM2.out.put2 (y := (l : Int)) P2.out hz (.slice (some ⟨g, 0, none⟩) n n)).low (l2 := w.heap.size) (by have := HW.out.size; have : w1.drew.heap.size = w1.heap.size := rfl; omega)
    unfold turnM; rw [HL.out]
    exact h
end
end Go.Proofs.YtljooknodnblbaaDoor
