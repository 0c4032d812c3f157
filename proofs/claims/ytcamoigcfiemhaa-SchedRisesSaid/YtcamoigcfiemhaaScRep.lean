/- Layer 20: slices.Repeat([]int{-1}, 4). -/
import Derived.Test.YtcamoigcfiemhaaScY
import Derived.Test.YtcamoigcfiemhaaShelf
import Derived.Laws.CopyOwn
namespace Go.Proofs.Ytcamoigcfiemhaa
set_option linter.unusedVariables false
set_option linter.unusedSimpArgs false
open Go.RowKit Go.Lib
set_option maxRecDepth 100000
abbrev cR1 : Array Value := #[.int .i64 (-1), .int .i64 0, .int .i64 0, .int .i64 0]
abbrev cR2 : Array Value := #[.int .i64 (-1), .int .i64 (-1), .int .i64 0, .int .i64 0]
abbrev cR4 : Array Value := #[.int .i64 (-1), .int .i64 (-1), .int .i64 (-1), .int .i64 (-1)]
theorem make4i (w : World) : (Instr.makeSlice 23 (.int .i64 4) (.int .i64 4)).run Try.prog w = .ok (.slice (some ⟨w.heap.size, 0, none⟩) 4 4) (w.alloc (.cells #[.int .i64 0, .int .i64 0, .int .i64 0, .int .i64 0] 3)) := by kernel_rfl
theorem copy_one {w : World} {g : Nat} {t : TypeId} {cs : Array Value} (hg : Box w g t cs) (o dl dc : Nat) (a : Addr) (sl sc : Nat) (vs : List Value) (hn : vs.length = Nat.min sl dl) (hs : ∀ j v, vs[j]? = some v → w.cell? (a.add j) = some v) (hf : o + vs.length ≤ cs.size) (h1 : ∀ v ∈ vs, v.oneCell' = true) {r : Array Value} (hr : (cs.toList.take o ++ vs ++ cs.toList.drop (o + vs.length)).toArray = r) {n : Int} (hv : (vs.length : Int) = n) :
    (Builtin.copy_ #[23, 23] 3 #[.slice (some ⟨g, o, none⟩) dl dc, .slice (some a) sl sc]).run Try.prog w = .ok (.int .i64 n) (w.setRow g r) := by
  subst hr hv
  exact run_copy_row Try.prog w _ _ _ 3 g o dl dc a sl sc cs t vs Try.underlying23 (by kernel_rfl) hg hn hs hf h1
theorem setRow_box {w : World} {g : Nat} {t : TypeId} {cs : Array Value} (h : Box w g t cs) (ds : Array Value) : Box (w.setRow g ds) g t ds := setRow_heap w g cs ds t _ h
theorem len4 (w : World) (g : Nat) : True := trivial
set_option maxHeartbeats 4000000 in
theorem repeat_any (g : Nat) (t : TypeId) (w : World) (h : Box w g t #[.int .i64 (-1)]) : Calls Try.prog 33 #[.slice (some ⟨g, 0, none⟩) 1 1, .int .i64 4] w fun e w' => ∃ A c, e = .returned (.slice A 4 c) ∧ SliceOk A 4 c ∧ Ints w' A 4 [-1, -1, -1, -1] ∧ Below w.heap.size w w' := by
  have HM := Lib.hid (show ∀ w, Calls Try.prog 56 #[.int .u64 1, .int .u64 4] w fun e w' => e = .returned (.tuple #[.int .u64 0, .int .u64 4]) ∧ w' = w from fun w => Try.bits_Mul 1 4 (by decide) (by decide) w)
  have mk := make4i
  have c0 := h.cell 0
  go_enter Try.func33, Try.ntmps33
  go_wp2_with fail
  refine (HM.out _).mono ?_
  rintro e w1 ⟨rfl, hw⟩
  obtain rfl := hw.symm
  have W1 := Lib.hid ((Below.refl w.heap.size w).alloc (Nat.le_refl _) (.cells #[.int .i64 0, .int .i64 0, .int .i64 0, .int .i64 0] 3))
  have Q1 := Lib.hid (Box.new w 3 #[.int .i64 0, .int .i64 0, .int .i64 0, .int .i64 0])
  have G1 := Lib.hid (h.alloc (.cells #[.int .i64 0, .int .i64 0, .int .i64 0, .int .i64 0] 3))
  have c0' := G1.out.cell 0
  have hcp := copy_one Q1.out 0 4 4 ⟨g, 0, none⟩ 1 1 [.int .i64 (-1)] rfl (fun j v hj => by cases j with | zero => (simp at hj; subst hj; exact c0') | succ j => simp at hj) (by decide) (by decide) (r := cR1) rfl (n := 1) rfl
  have X1 := Lib.hid (setRow_box Q1.out cR1)
  have B1 := Lib.hid (below_setRow W1.out (Nat.le_refl _) cR1)
  go_wp2_with fail
  go_loopw [8] (fun t wr => ∃ (n : Int) (cs : Array Value), (n = 1 ∧ cs = cR1 ∨ n = 2 ∧ cs = cR2 ∨ n = 4 ∧ cs = cR4) ∧ t = .int .i64 n ∧ Hid (Box wr w.heap.size 3 cs) ∧ Hid (Below w.heap.size w wr)) (fun t _ => 4 - (Go.RowKit.intOf t).toNat)
  case atStart => exact ⟨1, cR1, .inl ⟨rfl, rfl⟩, rfl, X1, B1⟩
  case round =>
    obtain ⟨n, cs, hc, rfl, X, B⟩ := hrel
    obtain ⟨W, hW⟩ : ∃ x : World, x = wr := ⟨_, rfl⟩
    subst hW
    clear hcp X1 B1 c0' G1 Q1 W1 c0
    rcases hc with ⟨rfl, rfl⟩ | ⟨rfl, rfl⟩ | ⟨rfl, rfl⟩
    · have D := Lib.hid X.out.drew
      have hcp := copy_one D.out 1 3 3 ⟨w.heap.size, 0, none⟩ 1 4 [.int .i64 (-1)] rfl (fun j v hj => by cases j with | zero => (simp at hj; subst hj; exact D.out.cell 0) | succ j => simp at hj) (by decide) (by decide) (r := cR2) rfl (n := 1) rfl
      go_upto_region 9 with (fail)
      go_region
      all_goals
        go_wp2_with fail
        go_roundw
        case rel => exact ⟨2, cR2, .inr (.inl ⟨rfl, rfl⟩), rfl, Lib.hid (setRow_box D.out cR2), Lib.hid (below_setRow B.out.drew (Nat.le_refl _) cR2)⟩
        case measure => decide
    · have D := Lib.hid X.out.drew
      have hcp := copy_one D.out 2 2 2 ⟨w.heap.size, 0, none⟩ 2 4 [.int .i64 (-1), .int .i64 (-1)] rfl (fun j v hj => by
        rcases j with - | - | j
        · simp at hj; subst hj; exact D.out.cell 0
        · simp at hj; subst hj; exact D.out.cell 1
        · simp at hj) (by decide) (by decide) (r := cR4) rfl (n := 2) rfl
      go_upto_region 9 with (fail)
      go_region
      all_goals
        go_wp2_with fail
        go_roundw
        case rel => exact ⟨4, cR4, .inr (.inr ⟨rfl, rfl⟩), rfl, Lib.hid (setRow_box D.out cR4), Lib.hid (below_setRow B.out.drew (Nat.le_refl _) cR4)⟩
        case measure => decide
    · go_wp2_with fail
      go_ret
      exact ⟨_, _, rfl, ⟨Nat.le_refl _, by decide, fun e => by cases e⟩, box4_ints X.out, B.out⟩
end Go.Proofs.Ytcamoigcfiemhaa
