/- Layer 14: compare, Before of the code and of the reference. -/
import Derived.Test.YtmfjbmojejplgaaRiA
import Derived.Deep.RegionHeld3
import Derived.Sort.Grow
namespace Go.Proofs.Ytmfjbmojejplgaa
set_option linter.unusedVariables false
set_option linter.unusedSimpArgs false
open Go.RowKit Go.Sort
set_option maxRecDepth 100000
abbrev twoD (w : World) (a b : DrR) : World := (w.alloc (.cells (drA a) 24)).alloc (.cells (drA b) 24)
theorem twoD_two (w : World) (a b : DrR) : Box (twoD w a b) w.heap.size 24 (drA a) ∧ Box (twoD w a b) (w.heap.size + 1) 24 (drA b) ∧ Below w.heap.size w (twoD w a b) := by
  refine ⟨(Box.new w _ _).alloc _, ?_, ((Below.refl _ _).alloc (Nat.le_refl _) _).alloc (by simp) _⟩
  have q := Box.new (w.alloc (.cells (drA a) 24)) 24 (drA b)
  simpa only [World.size_alloc] using q
set_option maxHeartbeats 2000000 in
theorem compare_any (a b : DrR) (w : World) : Calls Try.prog 18 #[.agg (drA a), .agg (drA b)] w fun e w' => e = .returned (.int .i64 (cmpD a b)) ∧ ∃ q os', w' = grow (w.drewN q) os' := by
  obtain ⟨p0, p1, -⟩ := twoD_two w a b
  have c0 := p0.cell 0
  have c1 := p0.cell 1
  have d0 := p1.cell 0
  have d1 := p1.cell 1
  simp only [List.getElem?_toArray, List.getElem?_cons_zero, List.getElem?_cons_succ] at c0 c1 d0 d1
  have q := Box.new (twoD w a b).drew 3 #[.int .i64 (cmpI a.1 b.1), .int .i64 (cmpI (a.2 : Int) (b.2 : Int))]
  have q0 := q.cell 0
  have q1 := q.cell 1
  simp only [List.getElem?_toArray, List.getElem?_cons_zero, List.getElem?_cons_succ] at q0 q1
  have HG := Lib.hid (show ∃ q os', ((twoD w a b).drew).alloc (.cells #[.int .i64 (cmpI a.1 b.1), .int .i64 (cmpI (a.2 : Int) (b.2 : Int))] 3) = grow (w.drewN q) os' from ⟨1, #[.cells (drA a) 24, .cells (drA b) 24, .cells #[.int .i64 (cmpI a.1 b.1), .int .i64 (cmpI (a.2 : Int) (b.2 : Int))] 3], by rw [twoD, alloc_eq_grow, alloc_eq_grow, alloc_eq_grow, drew_grow, drew_grow, grow_grow, grow_grow]; rfl⟩)
  have e2 : (twoD w a b).drew.heap.size = w.heap.size + 2 := by rw [twoD]; simp
  rw [e2] at q0 q1
  have HC := Lib.hid (cmpOr_any (cmpI a.1 b.1) (cmpI (a.2 : Int) (b.2 : Int)) (w.heap.size + 2) 2 _ q0 q1)
  have HI := Lib.hid (fun w' => cmpInt_any a.1 b.1 w')
  have HN := Lib.hid (fun w' => cmpNat_any a.2 b.2 w')
  have HE := Lib.hid (show cmpD a b = orI (cmpI a.1 b.1) (cmpI (a.2 : Int) (b.2 : Int)) from rfl)
  clear p0 p1 q q0 q1 e2
  generalize cmpI a.1 b.1 = x at *
  generalize cmpI (a.2 : Int) (b.2 : Int) = y at *
  go_enter Try.func18, Try.ntmps18
  go_wp2_with fail
  go_region_held3 (fun (w' : World) => w'.cell? ⟨w.heap.size, 0, none⟩ = some (.int .i64 a.1) ∧ w'.cell? ⟨w.heap.size, 1, none⟩ = some (.int .u64 (a.2 : Int)) ∧ w'.cell? ⟨w.heap.size + 1, 0, none⟩ = some (.int .i64 b.1) ∧ w'.cell? ⟨w.heap.size + 1, 1, none⟩ = some (.int .u64 (b.2 : Int))) (go_keep)
    (first
      | (go_at_call 22; refine (HI.out _).mono ?_; rintro e1 x1 ⟨rfl, rfl⟩)
      | (go_at_call 23; refine (HN.out _).mono ?_; rintro e2 x2 ⟨rfl, rfl⟩)
      | (go_at_call 21; refine HC.out.mono ?_; rintro e3 x3 ⟨rfl, rfl⟩))
  go_wp2_with fail
  go_ret
  exact ⟨by rw [HE.out]; rfl, HG.out⟩
theorem grow_below {w w' : World} (h : ∃ q os', w' = grow (w.drewN q) os') : Below w.heap.size w w' := by
  obtain ⟨q, os', rfl⟩ := h
  refine ⟨rfl, rfl, rfl, ?_, fun k hk => ?_⟩
  · rw [size_grow]; exact Nat.le_add_right _ _
  · show (w.heap ++ os')[k]? = w.heap[k]?
    rw [Array.getElem?_append_left hk]
set_option maxHeartbeats 1000000 in
theorem before_any (a b : DrR) (w : World) : Calls Try.prog 10 #[.agg (drA a), .agg (drA b)] w fun e w' => e = .returned (.bool (befD a b)) ∧ Below w.heap.size w w' := by
  obtain ⟨p0, p1, pb⟩ := twoD_two w a b
  have c0 := p0.cell 0
  have c1 := p0.cell 1
  have d0 := p1.cell 0
  have d1 := p1.cell 1
  simp only [List.getElem?_toArray, List.getElem?_cons_zero, List.getElem?_cons_succ] at c0 c1 d0 d1
  have HC := Lib.hid (compare_any a b (twoD w a b))
  have HB := Lib.hid pb
  have HL := Lib.hid (cmpD_lt a b)
  clear p0 p1 pb
  go_enter Try.func10, Try.ntmps10
  go_wp2_with fail
  refine HC.out.mono ?_
  rintro e w1 ⟨rfl, hg⟩
  have HB := Lib.hid (chain HB.out (grow_below hg))
  clear hg HC
  go_wp2_with fail
  go_ret
  exact ⟨by rw [← HL.out]; rfl, HB.out⟩
set_option maxHeartbeats 1000000 in
theorem refBefore14_any (a b : DrR) (w : World) : Calls Try.prog 11 #[.agg (drA a), .agg (drA b)] w fun e w' => e = .returned (.bool (befD a b)) ∧ Below w.heap.size w w' := by
  obtain ⟨p0, p1, pb⟩ := twoD_two w a b
  have c0 := p0.cell 0
  have c1 := p0.cell 1
  have d0 := p1.cell 0
  have d1 := p1.cell 1
  simp only [List.getElem?_toArray, List.getElem?_cons_zero, List.getElem?_cons_succ] at c0 c1 d0 d1
  have HB := Lib.hid pb
  clear p0 p1 pb
  by_cases h1 : a.1 = b.1
  · have t1 : (a.1 != b.1) = false := by simp [h1]
    have HL := Lib.hid (show befD a b = decide (a.2 < b.2) by unfold befD; rw [decide_eq_false (show ¬ a.1 < b.1 by omega), decide_eq_true h1, Bool.false_or, Bool.true_and])
    clear h1
    go_enter Try.func11, Try.ntmps11
    go_wp2_with fail
    go_ret
    exact ⟨by rw [HL.out]; rfl, HB.out⟩
  · have t1 : (a.1 != b.1) = true := by simp [h1]
    have HL := Lib.hid (show befD a b = decide (a.1 < b.1) by unfold befD; rw [decide_eq_false h1]; simp)
    clear h1
    go_enter Try.func11, Try.ntmps11
    go_wp2_with fail
    go_ret
    exact ⟨by rw [HL.out]; rfl, HB.out⟩
theorem few14_any (A : Option Addr) (l cp : Nat) (hs : SliceOk A l cp) (w : World) : Calls Try.prog 7 #[.slice A l cp] w fun e w' => e = .returned (.slice A (min l 60) cp) ∧ w = w' := by
  obtain ⟨hl, hc, hn⟩ := hs
  unfold maxLen at hc
  cases A with
  | none =>
    obtain ⟨rfl, rfl⟩ := hn rfl
    go_enter Try.func7, Try.ntmps7
    go_wp2_with fail
    go_ret
    exact ⟨rfl, rfl⟩
  | some ad =>
    clear hn
    by_cases h : l ≤ 60
    · have g1 : (l : Int) ≤ 60 := by omega
      have g2 : ¬ (60 : Int) < l := by omega
      have g3 : (l : Int) ≤ cp := by omega
      have HE := Lib.hid (show min l 60 = l by omega)
      go_enter Try.func7, Try.ntmps7
      go_wp2_with fail
      go_ret
      first
        | exact ⟨rfl, rfl⟩
        | exact ⟨by rw [HE.out]; rfl, rfl⟩
    · have g1 : (60 : Int) < l := by omega
      have g2 : (60 : Int) ≤ cp := by omega
      have HE := Lib.hid (show min l 60 = 60 by omega)
      go_enter Try.func7, Try.ntmps7
      go_wp2_with fail
      go_ret
      first
        | exact ⟨rfl, rfl⟩
        | exact ⟨by rw [HE.out]; rfl, rfl⟩
end Go.Proofs.Ytmfjbmojejplgaa
