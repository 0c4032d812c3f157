/- Layer 20: alive. -/
import Derived.Test.YtcamoigcfiemhaaScFc
namespace Go.Proofs.Ytcamoigcfiemhaa
set_option linter.unusedVariables false
set_option linter.unusedSimpArgs false
open Go.RowKit Go.Lib
set_option maxRecDepth 100000
def tsA : List (List InR) := [[(2, 1, 5)]]
def sA : Sys := { th := tsA, pc := [1], su := [0], lo := [-1, -1, -1, -1], ce := [0, 5, 0, 0], ch := [[], [], [], []] }
theorem newA : newRes tsA = (0, newS tsA) := by unfold newRes; rw [if_pos (by decide)]
theorem runA : runRes (newS tsA) [0, 0] = (0, sA, [0]) := by unfold runRes; rw [if_pos (by decide)]; rfl
theorem thrA {w : World} {g h : Nat} {t u : TypeId} (h1 : Box w g t #[.int .i64 2, .int .i64 1, .int .i64 5]) (h2 : Box w h u #[.slice (some ⟨g, 0, none⟩) 1 1]) : Thr w (some ⟨h, 0, none⟩) 1 tsA := by
  refine ⟨rfl, fun _ => ⟨h, 0, rfl, h2.lt, fun j hj => ?_⟩⟩
  obtain rfl : j = 0 := by omega
  refine ⟨some ⟨g, 0, none⟩, 1, 1, h2.cell 0, ⟨Nat.le_refl _, by decide, fun e => by cases e⟩, rfl, fun _ => ⟨g, 0, rfl, h1.lt, fun j hj k v hv => ?_⟩⟩
  obtain rfl : j = 0 := by omega
  rcases k with - | - | - | k
  · simp [tsA, encIn] at hv; subst hv; exact h1.cell 0
  · simp [tsA, encIn] at hv; subst hv; exact h1.cell 1
  · simp [tsA, encIn] at hv; subst hv; exact h1.cell 2
  · simp [tsA, encIn] at hv
theorem intsA {w : World} {g : Nat} {t : TypeId} (h : Box w g t #[.int .i64 0, .int .i64 0]) : Ints w (some ⟨g, 0, none⟩) 2 [0, 0] := by
  refine ⟨rfl, in64_lt (fun x hx => by simp at hx; subst hx; decide), fun _ => ⟨g, 0, rfl, h.lt, fun j hj => ?_⟩⟩
  have : j = 0 ∨ j = 1 := by omega
  rcases this with rfl | rfl
  · exact h.cell 0
  · exact h.cell 1
set_option maxHeartbeats 16000000 in
theorem alive20_any (w : World) : Calls Try.prog 15 #[] w fun e w' => e = .returned (.bool true) ∧ Below w.heap.size w w' := by
  have q0 := (Box.new w 57 #[.int .i64 2, .int .i64 1, .int .i64 5]).alloc (.cells #[.slice (some ⟨w.heap.size, 0, none⟩) 1 1] 55)
  have q1 := Box.new (w.alloc (.cells #[.int .i64 2, .int .i64 1, .int .i64 5] 57)) 55 #[.slice (some ⟨w.heap.size, 0, none⟩) 1 1]
  simp only [World.size_alloc] at q1
  have HB0 := Lib.hid (show Below w.heap.size w ((w.alloc (.cells #[.int .i64 2, .int .i64 1, .int .i64 5] 57)).alloc (.cells #[.slice (some ⟨w.heap.size, 0, none⟩) 1 1] 55)) from ((Below.refl w.heap.size w).alloc (Nat.le_refl _) _).alloc (by simp) _)
  have HN := Lib.hid (new_any (some ⟨w.heap.size + 1, 0, none⟩) 1 1 tsA _ (thrA q0 q1) ⟨Nat.le_refl _, by decide, fun e => by cases e⟩ (by decide) (fun j hj => by have h1 : j < 1 := hj; have h2 : j = 0 := Nat.lt_one_iff.1 h1; rw [h2]; decide))
  clear q0 q1
  go_enter Try.func15, Try.ntmps15
  go_wp2_with fail
  refine HN.out.mono ?_
  rintro e w1 ⟨v', rfl, hs, hb⟩
  rw [newA] at *
  obtain ⟨A0, l0, c0, A1, l1, c1, A2, l2, c2, A3, l3, c3, A4, l4, c4, A5, l5, c5, rfl, hsr⟩ := id hs
  have HS1 := Lib.hid hs
  have HB1 := Lib.hid (chain HB0.out hb)
  clear hs hb hsr HN
  have r0 := Lib.hid ((Box.new w1 26 #[.slice A0 l0 c0, .slice A1 l1 c1, .slice A2 l2 c2, .slice A3 l3 c3, .slice A4 l4 c4, .slice A5 l5 c5]).alloc (.cells #[.int .i64 0, .int .i64 0] 3))
  have p0 := Box.new (w1.alloc (.cells #[.slice A0 l0 c0, .slice A1 l1 c1, .slice A2 l2 c2, .slice A3 l3 c3, .slice A4 l4 c4, .slice A5 l5 c5] 26)) 3 #[.int .i64 0, .int .i64 0]
  simp only [World.size_alloc] at p0
  have b1 : Below w1.heap.size w1 ((w1.alloc (.cells #[.slice A0 l0 c0, .slice A1 l1 c1, .slice A2 l2 c2, .slice A3 l3 c3, .slice A4 l4 c4, .slice A5 l5 c5] 26)).alloc (.cells #[.int .i64 0, .int .i64 0] 3)) := ((Below.refl w1.heap.size w1).alloc (Nat.le_refl _) _).alloc (by simp) _
  have HR := Lib.hid (run_any _ (newS tsA) _ (HS1.out.below b1) _ 2 2 [0, 0] (intsA p0) (by decide))
  have HB2 := Lib.hid (chain HB1.out b1)
  have hz : w.heap.size ≤ w1.heap.size := HB1.out.size
  clear p0 b1
  go_wp2_with fail
  refine HR.out.mono ?_
  rintro e w2 ⟨v', B, d, rfl, hs, hi, hk, hb⟩
  rw [runA] at *
  obtain ⟨B0, m0, d0, B1, m1, d1, B2, m2, d2, B3, m3, d3, B4, m4, d4, B5, m5, d5, rfl, -, -, -, -, z4, -, -, -, -, -, j4, -⟩ := hs
  obtain rfl : 4 = m4 := j4.1
  obtain ⟨b, o, rfl, hb4, hc4⟩ := j4.2.2 (by decide)
  have k1 := hc4 1 (by decide)
  have hne : b ≠ w1.heap.size := fun e => by
    subst e
    have h0 := hc4 0 (by decide)
    have R2 := r0.out.keep hb
    rcases o with - | - | - | - | - | - | o
    · have := R2.cell 0; rw [h0] at this; cases this
    · have := R2.cell 1; rw [h0] at this; cases this
    · have := R2.cell 2; rw [h0] at this; cases this
    · have := R2.cell 3; rw [h0] at this; cases this
    · have := R2.cell 4; rw [h0] at this; cases this
    · have := R2.cell 5; rw [h0] at this; cases this
    · have := R2.cell (o + 6); rw [h0] at this; simp at this
  have R2 := Lib.hid (r0.out.keep hb)
  have HB2 := Lib.hid (chain HB2.out hb)
  have hl1 : (sA, [(0 : Int)]).2.length = 1 := rfl
  clear hi hk hb hc4 j4 z4 r0
  obtain ⟨q0, q1, q2, q3, q4, q5⟩ := R2.out.six
  have f0 := R2.out.free 0
  have f1 := R2.out.free 1
  have f2 := R2.out.free 2
  have f3 := R2.out.free 3
  have f4 := R2.out.free 4
  have f5 := R2.out.free 5
  have hne2 : w1.heap.size ≠ b := fun e => hne e.symm
  have hsA : sA.ce.getD 1 0 = 5 := rfl
  have k1' : w2.cell? ⟨b, o + 1, none⟩ = some (.int .i64 5) := k1
  have BF := Lib.hid ((((((HB2.out.setCell (p := ⟨w1.heap.size, 0, none⟩) hz (.slice B0 m0 d0)).setCell (p := ⟨w1.heap.size, 1, none⟩) hz (.slice B1 m1 d1)).setCell (p := ⟨w1.heap.size, 2, none⟩) hz (.slice B2 m2 d2)).setCell (p := ⟨w1.heap.size, 3, none⟩) hz (.slice B3 m3 d3)).setCell (p := ⟨w1.heap.size, 4, none⟩) hz (.slice (some ⟨b, o, none⟩) 4 d4)).setCell (p := ⟨w1.heap.size, 5, none⟩) hz (.slice B5 m5 d5))
  clear k1 hsA
  go_wp2_with fail
  go_ret
  exact ⟨rfl, BF.out⟩
end Go.Proofs.Ytcamoigcfiemhaa
