/- Layer 20: the reference's New. -/
import Derived.Test.YtcamoigcfiemhaaScQ
namespace Go.Proofs.Ytcamoigcfiemhaa
set_option linter.unusedVariables false
set_option linter.unusedSimpArgs false
open Go.RowKit Go.Lib
set_option maxRecDepth 100000
/-- A system ahead of its first step. -/
def newS (ts : List (List InR)) : Sys := { th := ts, pc := List.replicate ts.length 0, su := List.replicate ts.length 0, lo := [-1, -1, -1, -1], ce := List.replicate 4 0, ch := [[], [], [], []] }
def MN (a b : Nat) : Nat → Prop := fun g => g = a ∨ b ≤ g
theorem own_MN {base a b c n : Nat} {w : World} {A : Option Addr} {zs : List Int} (h : OwnI base w (.slice A zs.length c) zs) (hz : In64 zs) (hn : zs.length = n) (ha : a < base) (hw : w.heap.size ≤ b) : IntsF (MN a b) w A n zs := by
  subst hn
  refine ⟨OwnI.ints h hz, fun hp ad had hm => ?_⟩
  obtain ⟨g, rfl, hb, hlt⟩ := own_addr h hp
  injection had with had
  subst had
  rcases hm with hm | hm <;> dsimp only at hm <;> omega
theorem in64_rep (n : Nat) : In64 (List.replicate n 0) := in64_lt fun x hx => by
  have := List.eq_of_mem_replicate hx
  subst this
  decide
theorem box_at (x : World) (t : TypeId) (cs : Array Value) (n : Nat) (h : x.heap.size = n) : Box (x.alloc (.cells cs t)) n t cs := by subst h; exact Box.new x t cs
theorem box4_ints {w : World} {g : Nat} {t : TypeId} (h : Box w g t #[.int .i64 (-1), .int .i64 (-1), .int .i64 (-1), .int .i64 (-1)]) : Ints w (some ⟨g, 0, none⟩) 4 [-1, -1, -1, -1] := by
  refine ⟨rfl, in64_lt (fun x hx => by simp at hx; subst hx; decide), fun _ => ⟨g, 0, rfl, h.lt, fun j hj => ?_⟩⟩
  have : j = 0 ∨ j = 1 ∨ j = 2 ∨ j = 3 := by omega
  rcases this with rfl | rfl | rfl | rfl
  · exact h.cell 0
  · exact h.cell 1
  · exact h.cell 2
  · exact h.cell 3
theorem box4_chs {w : World} {g a b c d : Nat} {t : TypeId} (h : Box w g t #[.slice (some ⟨a, 0, none⟩) 0 0, .slice (some ⟨b, 0, none⟩) 0 0, .slice (some ⟨c, 0, none⟩) 0 0, .slice (some ⟨d, 0, none⟩) 0 0]) : Chs w (some ⟨g, 0, none⟩) 4 [[], [], [], []] := by
  have hk : ∀ x : Nat, SliceOk (some ⟨x, 0, none⟩) 0 0 := fun x => ⟨Nat.le_refl _, Nat.zero_le _, fun e => by cases e⟩
  refine ⟨rfl, fun _ => ⟨g, 0, rfl, h.lt, fun j hj => ?_⟩⟩
  have : j = 0 ∨ j = 1 ∨ j = 2 ∨ j = 3 := by omega
  rcases this with rfl | rfl | rfl | rfl
  · exact ⟨_, 0, 0, h.cell 0, hk _, Ints.nil _ _⟩
  · exact ⟨_, 0, 0, h.cell 1, hk _, Ints.nil _ _⟩
  · exact ⟨_, 0, 0, h.cell 2, hk _, Ints.nil _ _⟩
  · exact ⟨_, 0, 0, h.cell 3, hk _, Ints.nil _ _⟩
set_option maxHeartbeats 16000000 in
theorem refNew_any (A : Option Addr) (l c : Nat) (ts : List (List InR)) (w : World) (h : Thr w A l ts) (hs : SliceOk A l c) (hl : l ≤ 1000) : Calls Try.prog 16 #[.slice A l c] w fun e w' => ∃ v', e = .returned v' ∧ SysAt w' v' (newS ts) ∧ Below w.heap.size w w' := by
  have HT := Lib.hid h
  have HTl := Lib.hid h.1
  have HSl := Lib.hid hs
  clear h hs
  have HB0 := Lib.hid (show Below w.heap.size w (w.alloc (.cells #[.slice none 0 0, .slice none 0 0, .slice none 0 0, .slice none 0 0, .slice none 0 0, .slice none 0 0] 26)) from (Below.refl w.heap.size w).alloc (Nat.le_refl _) _)
  have R0 := Lib.hid (Box.new w 26 #[.slice none 0 0, .slice none 0 0, .slice none 0 0, .slice none 0 0, .slice none 0 0, .slice none 0 0])
  have hs0 : (w.alloc (.cells #[.slice none 0 0, .slice none 0 0, .slice none 0 0, .slice none 0 0, .slice none 0 0, .slice none 0 0] 26)).heap.size = w.heap.size + 1 := by simp
  have HS0 := Lib.hid hs0
  clear hs0
  go_enter Try.func16, Try.ntmps16
  go_wp2_with fail
  refine (zeros_any l hl _).mono ?_
  rintro e w1 ⟨A1, c1, rfl, ho1, hb⟩
  have O1 := Lib.hid ho1
  have HB1 := Lib.hid (chain HB0.out hb)
  have R1 := Lib.hid (R0.out.keep hb)
  have S1 := Lib.hid hb.size
  clear ho1 hb R0
  rw [HS0.out] at O1
  go_wp2_with fail
  refine (zeros_any l hl _).mono ?_
  rintro e w2 ⟨A2, c2, rfl, ho2, hb⟩
  have P1 := Lib.hid (own_keepB O1.out hb)
  have O2 := Lib.hid ho2
  have HB2 := Lib.hid (chain HB1.out hb)
  have R2 := Lib.hid (R1.out.keep hb)
  have S2 := Lib.hid hb.size
  clear ho2 hb R1 O1
  go_wp2_with fail
  refine (zeros_any 4 (by omega) _).mono ?_
  rintro e w3 ⟨A3, c3, rfl, ho3, hb⟩
  have hsz1 : w.heap.size + 1 ≤ w1.heap.size := by have h1 := S1.out; rw [HS0.out] at h1; exact h1
  have I1 := Lib.hid (own_MN (a := w.heap.size) (b := w3.heap.size) (own_keepB P1.out hb) (in64_rep l) List.length_replicate (by omega) (Nat.le_refl _))
  have I2 := Lib.hid (own_MN (a := w.heap.size) (b := w3.heap.size) (own_keepB O2.out hb) (in64_rep l) List.length_replicate (by omega) (Nat.le_refl _))
  have I3 := Lib.hid (own_MN (a := w.heap.size) (b := w3.heap.size) ho3 (in64_rep 4) List.length_replicate (by have := S2.out; omega) (Nat.le_refl _))
  have hk1 := own_cap (own_keepB P1.out hb)
  have hk2 := own_cap (own_keepB O2.out hb)
  have hk3 := own_cap ho3
  rw [List.length_replicate] at hk1 hk2 hk3
  have C1 := Lib.hid hk1
  have C2 := Lib.hid hk2
  have C3 := Lib.hid hk3
  have HB3 := Lib.hid (chain HB2.out hb)
  have R3 := Lib.hid (R2.out.keep hb)
  clear ho3 hb R2 O2 P1 S1 S2 HS0 HB0 HB1 HB2 hk1 hk2 hk3 hsz1
  go_upto_region 4 with (fail)
  obtain ⟨w5, hw5⟩ : ∃ x, x = (((((((w3.alloc (.cells #[.slice A l c, .slice A1 l c1, .slice A2 l c2, .slice (some ⟨w3.heap.size + 1, 0, none⟩) 4 4, .slice A3 4 c3, .slice (some ⟨w3.heap.size + 6, 0, none⟩) 4 4] 26)).alloc (.cells #[.int .i64 (-1), .int .i64 (-1), .int .i64 (-1), .int .i64 (-1)] 3)).alloc (.cells #[] 3)).alloc (.cells #[] 3)).alloc (.cells #[] 3)).alloc (.cells #[] 3)).alloc (.cells #[.slice (some ⟨w3.heap.size + 2, 0, none⟩) 0 0, .slice (some ⟨w3.heap.size + 3, 0, none⟩) 0 0, .slice (some ⟨w3.heap.size + 4, 0, none⟩) 0 0, .slice (some ⟨w3.heap.size + 5, 0, none⟩) 0 0] 23)) := ⟨_, rfl⟩
  have Y5 := Lib.hid (show Box w5 (w3.heap.size) 26 #[.slice A l c, .slice A1 l c1, .slice A2 l c2, .slice (some ⟨w3.heap.size + 1, 0, none⟩) 4 4, .slice A3 4 c3, .slice (some ⟨w3.heap.size + 6, 0, none⟩) 4 4] by rw [hw5]; exact ((((((Box.new w3 26 #[.slice A l c, .slice A1 l c1, .slice A2 l c2, .slice (some ⟨w3.heap.size + 1, 0, none⟩) 4 4, .slice A3 4 c3, .slice (some ⟨w3.heap.size + 6, 0, none⟩) 4 4]).alloc _).alloc _).alloc _).alloc _).alloc _).alloc _)
  have L5 := Lib.hid (show Box w5 (w3.heap.size + 1) 3 #[.int .i64 (-1), .int .i64 (-1), .int .i64 (-1), .int .i64 (-1)] by rw [hw5]; exact (((((box_at (w3.alloc (.cells #[.slice A l c, .slice A1 l c1, .slice A2 l c2, .slice (some ⟨w3.heap.size + 1, 0, none⟩) 4 4, .slice A3 4 c3, .slice (some ⟨w3.heap.size + 6, 0, none⟩) 4 4] 26)) 3 #[.int .i64 (-1), .int .i64 (-1), .int .i64 (-1), .int .i64 (-1)] (w3.heap.size + 1) (by simp)).alloc _).alloc _).alloc _).alloc _).alloc _)
  have P5 := Lib.hid (show Box w5 (w3.heap.size + 6) 23 #[.slice (some ⟨w3.heap.size + 2, 0, none⟩) 0 0, .slice (some ⟨w3.heap.size + 3, 0, none⟩) 0 0, .slice (some ⟨w3.heap.size + 4, 0, none⟩) 0 0, .slice (some ⟨w3.heap.size + 5, 0, none⟩) 0 0] by rw [hw5]; exact box_at _ _ _ _ (by simp))
  have B5 := Lib.hid (show Below w3.heap.size w3 w5 by rw [hw5]; exact (((((((Below.refl w3.heap.size w3).alloc (Nat.le_refl _) _).alloc (by simp) _).alloc (by simp <;> omega) _).alloc (by simp <;> omega) _).alloc (by simp <;> omega) _).alloc (by simp <;> omega) _).alloc (by simp <;> omega) _)
  rw [← hw5]
  clear hw5
  have R5 := Lib.hid (R3.out.keep B5.out)
  have HB5 := Lib.hid (chain HB3.out B5.out)
  have hgf := set6_grown w5 (w.heap.size) (.slice A l c) (.slice A1 l c1) (.slice A2 l c2) (.slice (some ⟨w3.heap.size + 1, 0, none⟩) 4 4) (.slice A3 4 c3) (.slice (some ⟨w3.heap.size + 6, 0, none⟩) 4 4)
  have FF := Lib.hid ((FrM.of (M := MN (w.heap.size) (w3.heap.size)) B5.out).trans (FrM.grown (M := MN (w.heap.size) (w3.heap.size)) hgf (.inl rfl)) (fun g h => .inl h))
  have LF := Lib.hid (Box.grown L5.out hgf (fun e => by injection e with e; have := R3.out.lt; omega))
  have PF9 := Lib.hid (Box.grown P5.out hgf (fun e => by injection e with e; have := R3.out.lt; omega))
  have RF := Lib.hid (((((((R5.out.put 0 (.slice A l c)).put 1 (.slice A1 l c1)).put 2 (.slice A2 l c2)).put 3 (.slice (some ⟨w3.heap.size + 1, 0, none⟩) 4 4)).put 4 (.slice A3 4 c3)).put 5 (.slice (some ⟨w3.heap.size + 6, 0, none⟩) 4 4)))
  have BF := Lib.hid (((((((HB5.out.setCell (p := ⟨w.heap.size, 0, none⟩) (Nat.le_refl _) (.slice A l c)).setCell (p := ⟨w.heap.size, 1, none⟩) (Nat.le_refl _) (.slice A1 l c1)).setCell (p := ⟨w.heap.size, 2, none⟩) (Nat.le_refl _) (.slice A2 l c2)).setCell (p := ⟨w.heap.size, 3, none⟩) (Nat.le_refl _) (.slice (some ⟨w3.heap.size + 1, 0, none⟩) 4 4)).setCell (p := ⟨w.heap.size, 4, none⟩) (Nat.le_refl _) (.slice A3 4 c3)).setCell (p := ⟨w.heap.size, 5, none⟩) (Nat.le_refl _) (.slice (some ⟨w3.heap.size + 6, 0, none⟩) 4 4)))
  clear hgf
  obtain ⟨y0, y1, y2, y3, y4, y5⟩ := Y5.out.six
  obtain ⟨r0, r1, r2, r3, r4, r5⟩ := R5.out.six
  have f0 := R5.out.free 0
  have f1 := R5.out.free 1
  have f2 := R5.out.free 2
  have f3 := R5.out.free 3
  have f4 := R5.out.free 4
  have f5 := R5.out.free 5
  go_wp2_with fail
  refine close_one Try.results16 rfl rfl RF.out Try.underlying26 rfl (by kernel_rfl) ?_
  have hk : ∀ g : Nat, SliceOk (some ⟨g, 0, none⟩) 4 4 := fun g => ⟨Nat.le_refl _, by decide, fun e => by cases e⟩
  have e0 : newS ts = { th := ts, pc := List.replicate l 0, su := List.replicate l 0, lo := [-1, -1, -1, -1], ce := List.replicate 4 0, ch := [[], [], [], []] } := by unfold newS; rw [HTl.out]
  rw [e0]
  exact ⟨_, rfl, ⟨_, _, _, _, _, _, _, _, _, _, _, _, _, _, _, _, _, _, rfl, HSl.out, C1.out, C2.out, hk _, C3.out, hk _, HT.out.below BF.out, (I1.out.frm FF.out).1, (I2.out.frm FF.out).1, box4_ints LF.out, (I3.out.frm FF.out).1, box4_chs PF9.out⟩, BF.out⟩
end Go.Proofs.Ytcamoigcfiemhaa
