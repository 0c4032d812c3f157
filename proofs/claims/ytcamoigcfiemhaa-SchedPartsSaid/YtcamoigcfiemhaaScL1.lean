/- Layer 20: what the laws share; SchedMakes. -/
import Derived.Test.YtcamoigcfiemhaaScOp
import Derived.Test.YtcamoigcfiemhaaHTail
namespace Go.Proofs.Ytcamoigcfiemhaa
set_option linter.unusedVariables false
set_option linter.unusedSimpArgs false
open Go.RowKit Go.Lib
set_option maxRecDepth 100000
theorem len_take_le {α : Type} (l : List α) (n : Nat) : (l.take n).length ≤ n := by rw [List.length_take]; omega
theorem mapTake_row {α : Type} (ts : List (List α)) (n j : Nat) : ((ts.map (·.take n)).getD j []).length ≤ n := by
  simp only [List.getD, List.getElem?_map]
  cases ts[j]? with
  | none => simp
  | some x => simp; omega
theorem rowsT_len (ts : List (List InR)) : (rowsT ts).length ≤ 10 := by unfold rowsT; rw [List.length_map]; exact len_take_le _ _
theorem rowsT_row (ts : List (List InR)) (j : Nat) : ((rowsT ts).getD j []).length ≤ 18 := mapTake_row _ 18 j
theorem few_small (s : Sys) : Small (fewS s) := by
  refine ⟨Nat.le_trans (rowsT_len _) (by decide), fun j _ => Nat.le_trans (rowsT_row _ _) (by decide), Nat.le_trans (len_take_le _ _) (by decide), Nat.le_trans (len_take_le _ _) (by decide), Nat.le_trans (len_take_le _ _) (by decide), Nat.le_trans (len_take_le _ _) (by decide), ?_, fun j _ => Nat.le_trans (mapTake_row _ 12 j) (by decide)⟩
  show ((s.ch.take 6).map (·.take 12)).length ≤ 1000
  rw [List.length_map]
  exact Nat.le_trans (len_take_le _ _) (by decide)
theorem new_small (ts : List (List InR)) (h : ts.length ≤ 100) (hr : ∀ j, (ts.getD j []).length ≤ 1000) : Small (newS ts) := by
  refine ⟨by show ts.length ≤ 1000; omega, fun j _ => hr j, by simp [newS]; omega, by simp [newS]; omega, by simp [newS], by simp [newS], by simp [newS], fun j hj => ?_⟩
  have : j < 4 := hj
  have : j = 0 ∨ j = 1 ∨ j = 2 ∨ j = 3 := by omega
  rcases this with rfl | rfl | rfl | rfl <;> simp [newS]
theorem zero_small : Small sys0 := ⟨by decide, fun j h => by simp [sys0] at h, by decide, by decide, by decide, by decide, by decide, fun j h => by simp [sys0] at h⟩
theorem same_self (s : Sys) : sameS s s = true := by unfold sameS sameZ; simp
set_option maxHeartbeats 16000000 in
theorem makes20_any (A : Option Addr) (l c : Nat) (ts : List (List InR)) (va : Value) (sa : Sys) (vb : Value) (sb : Sys) (hs : SliceOk A l c) (W : World) (h : Thr W A l ts) (ha : SysAt W va sa) (hb : SysAt W vb sb) : Calls Try.prog 3 #[.slice A l c, va, vb] W fun e w' => e = .returned (.bool true) ∧ Below W.heap.size W w' := by
  have HT := Lib.hid h
  have HSl := Lib.hid hs
  have HSa := Lib.hid ha
  have HSb := Lib.hid hb
  obtain ⟨A0, l0, c0, A1, l1, c1, A2, l2, c2, A3, l3, c3, A4, l4, c4, A5, l5, c5, rfl, har⟩ := ha
  obtain ⟨B0, m0, d0, B1, m1, d1, B2, m2, d2, B3, m3, d3, B4, m4, d4, B5, m5, d5, rfl, hbr⟩ := hb
  clear har hbr h hs
  have b2 : Below W.heap.size W ((W.alloc (.cells #[.slice A0 l0 c0, .slice A1 l1 c1, .slice A2 l2 c2, .slice A3 l3 c3, .slice A4 l4 c4, .slice A5 l5 c5] 26)).alloc (.cells #[.slice B0 m0 d0, .slice B1 m1 d1, .slice B2 m2 d2, .slice B3 m3 d3, .slice B4 m4 d4, .slice B5 m5 d5] 26)) := ((Below.refl W.heap.size W).alloc (Nat.le_refl _) _).alloc (by simp) _
  have HB2 := Lib.hid b2.drew
  have q1 := Box.new (W.alloc (.cells #[.slice A0 l0 c0, .slice A1 l1 c1, .slice A2 l2 c2, .slice A3 l3 c3, .slice A4 l4 c4, .slice A5 l5 c5] 26)) 26 #[.slice B0 m0 d0, .slice B1 m1 d1, .slice B2 m2 d2, .slice B3 m3 d3, .slice B4 m4 d4, .slice B5 m5 d5]
  simp only [World.size_alloc] at q1
  have QB2 := Lib.hid q1.drew
  have QA2 := Lib.hid ((Box.new W 26 #[.slice A0 l0 c0, .slice A1 l1 c1, .slice A2 l2 c2, .slice A3 l3 c3, .slice A4 l4 c4, .slice A5 l5 c5]).alloc (.cells #[.slice B0 m0 d0, .slice B1 m1 d1, .slice B2 m2 d2, .slice B3 m3 d3, .slice B4 m4 d4, .slice B5 m5 d5] 26)).drew
  clear q1 b2
  obtain ⟨r0, r1, r2, r3, r4, r5⟩ := QA2.out.six
  obtain ⟨q0, q1, q2, q3, q4, q5⟩ := QB2.out.six
  go_enter Try.func3, Try.ntmps3
  go_upto_region 1 with (fail)
  refine wp_held_tail (S := (fun (w' : World) => w'.cell? ⟨W.heap.size, 0, none⟩ = some (.slice A0 l0 c0) ∧ w'.cell? ⟨W.heap.size, 1, none⟩ = some (.slice A1 l1 c1) ∧ w'.cell? ⟨W.heap.size, 2, none⟩ = some (.slice A2 l2 c2) ∧ w'.cell? ⟨W.heap.size, 3, none⟩ = some (.slice A3 l3 c3) ∧ w'.cell? ⟨W.heap.size, 4, none⟩ = some (.slice A4 l4 c4) ∧ w'.cell? ⟨W.heap.size, 5, none⟩ = some (.slice A5 l5 c5) ∧ w'.cell? ⟨W.heap.size + 1, 0, none⟩ = some (.slice B0 m0 d0) ∧ w'.cell? ⟨W.heap.size + 1, 1, none⟩ = some (.slice B1 m1 d1) ∧ w'.cell? ⟨W.heap.size + 1, 2, none⟩ = some (.slice B2 m2 d2) ∧ w'.cell? ⟨W.heap.size + 1, 3, none⟩ = some (.slice B3 m3 d3) ∧ w'.cell? ⟨W.heap.size + 1, 4, none⟩ = some (.slice B4 m4 d4) ∧ w'.cell? ⟨W.heap.size + 1, 5, none⟩ = some (.slice B5 m5 d5))) 6 (by kernel_rfl) (by decide) ?_
  have hS := Lib.hid (show (fun (w' : World) => w'.cell? ⟨W.heap.size, 0, none⟩ = some (.slice A0 l0 c0) ∧ w'.cell? ⟨W.heap.size, 1, none⟩ = some (.slice A1 l1 c1) ∧ w'.cell? ⟨W.heap.size, 2, none⟩ = some (.slice A2 l2 c2) ∧ w'.cell? ⟨W.heap.size, 3, none⟩ = some (.slice A3 l3 c3) ∧ w'.cell? ⟨W.heap.size, 4, none⟩ = some (.slice A4 l4 c4) ∧ w'.cell? ⟨W.heap.size, 5, none⟩ = some (.slice A5 l5 c5) ∧ w'.cell? ⟨W.heap.size + 1, 0, none⟩ = some (.slice B0 m0 d0) ∧ w'.cell? ⟨W.heap.size + 1, 1, none⟩ = some (.slice B1 m1 d1) ∧ w'.cell? ⟨W.heap.size + 1, 2, none⟩ = some (.slice B2 m2 d2) ∧ w'.cell? ⟨W.heap.size + 1, 3, none⟩ = some (.slice B3 m3 d3) ∧ w'.cell? ⟨W.heap.size + 1, 4, none⟩ = some (.slice B4 m4 d4) ∧ w'.cell? ⟨W.heap.size + 1, 5, none⟩ = some (.slice B5 m5 d5)) ((W.alloc (.cells #[.slice A0 l0 c0, .slice A1 l1 c1, .slice A2 l2 c2, .slice A3 l3 c3, .slice A4 l4 c4, .slice A5 l5 c5] 26)).alloc (.cells #[.slice B0 m0 d0, .slice B1 m1 d1, .slice B2 m2 d2, .slice B3 m3 d3, .slice B4 m4 d4, .slice B5 m5 d5] 26)).drew from ⟨r0, r1, r2, r3, r4, r5, q0, q1, q2, q3, q4, q5⟩)
  replace hS := hS.out
  refine headH_take (i := 0) (v := ?_) rfl (by kernel_rfl) (fun _ _ _ h => h) (fun _ _ _ h => seqB_ready h.1) (Or.inl ⟨by rfl, ?hy1⟩) hS ?rest1
  case hy1 => intro w hSw; (try dsimp only at hSw); obtain ⟨hc0, hc1, hc2, hc3, hc4, hc5, hc6, hc7, hc8, hc9, hc10, hc11⟩ := hSw; go_simp; try (with_reducible rfl)
  case rest1 =>
  try simp only [Act.put, List.setIfInBounds_toArray, List.set_cons_zero, List.set_cons_succ]
  refine headH_take (i := 2) (v := ?_) rfl (by kernel_rfl) (fun _ _ _ h => h) (fun _ _ _ h => seqB_ready h.1) (Or.inl ⟨by rfl, ?hy2⟩) hS ?rest2
  case hy2 => intro w hSw; (try dsimp only at hSw); obtain ⟨hc0, hc1, hc2, hc3, hc4, hc5, hc6, hc7, hc8, hc9, hc10, hc11⟩ := hSw; go_simp; try (with_reducible rfl)
  case rest2 =>
  try simp only [Act.put, List.setIfInBounds_toArray, List.set_cons_zero, List.set_cons_succ]
  refine headH_take (i := 4) (v := ?_) rfl (by kernel_rfl) (fun _ _ _ h => h) (fun _ _ _ h => seqB_ready h.1) (Or.inl ⟨by rfl, ?hy3⟩) hS ?rest3
  case hy3 => intro w hSw; (try dsimp only at hSw); obtain ⟨hc0, hc1, hc2, hc3, hc4, hc5, hc6, hc7, hc8, hc9, hc10, hc11⟩ := hSw; go_simp; try (with_reducible rfl)
  case rest3 =>
  try simp only [Act.put, List.setIfInBounds_toArray, List.set_cons_zero, List.set_cons_succ]
  refine headH_one (i := 1) (by kernel_rfl) rfl (fun K hK => ?_)
  go_simp
  refine (rows20_any A l c ts W _ HT.out HB2.out HSl.out).mono ?_
  rintro e w3 ⟨C0, cc0, rfl, hsp, hln, hb⟩
  have QA3 := Lib.hid (QA2.out.keep hb)
  have QB3 := Lib.hid (QB2.out.keep hb)
  have HB3 := Lib.hid (chain HB2.out hb)
  have R3 := Lib.hid hsp
  have HG3 := QB3.out.lt
  have HLn := Lib.hid hln
  clear hsp hln
  clear hb r0 r1 r2 r3 r4 r5 q0 q1 q2 q3 q4 q5
  obtain ⟨r0, r1, r2, r3, r4, r5⟩ := QA3.out.six
  obtain ⟨q0, q1, q2, q3, q4, q5⟩ := QB3.out.six
  refine hK.out _ _ (show (fun (w' : World) => w'.cell? ⟨W.heap.size, 0, none⟩ = some (.slice A0 l0 c0) ∧ w'.cell? ⟨W.heap.size, 1, none⟩ = some (.slice A1 l1 c1) ∧ w'.cell? ⟨W.heap.size, 2, none⟩ = some (.slice A2 l2 c2) ∧ w'.cell? ⟨W.heap.size, 3, none⟩ = some (.slice A3 l3 c3) ∧ w'.cell? ⟨W.heap.size, 4, none⟩ = some (.slice A4 l4 c4) ∧ w'.cell? ⟨W.heap.size, 5, none⟩ = some (.slice A5 l5 c5) ∧ w'.cell? ⟨W.heap.size + 1, 0, none⟩ = some (.slice B0 m0 d0) ∧ w'.cell? ⟨W.heap.size + 1, 1, none⟩ = some (.slice B1 m1 d1) ∧ w'.cell? ⟨W.heap.size + 1, 2, none⟩ = some (.slice B2 m2 d2) ∧ w'.cell? ⟨W.heap.size + 1, 3, none⟩ = some (.slice B3 m3 d3) ∧ w'.cell? ⟨W.heap.size + 1, 4, none⟩ = some (.slice B4 m4 d4) ∧ w'.cell? ⟨W.heap.size + 1, 5, none⟩ = some (.slice B5 m5 d5)) w3 from ⟨r0, r1, r2, r3, r4, r5, q0, q1, q2, q3, q4, q5⟩) (fun hS => ?_)
  clear hK K
  refine headH_one (i := 3) (by kernel_rfl) rfl (fun K hK => ?_)
  go_simp
  refine (few20_any _ sa W _ HSa.out HB3.out).mono ?_
  rintro e w4 ⟨va', rfl, hfa, hb⟩
  have QA4 := Lib.hid (QA3.out.keep hb)
  have QB4 := Lib.hid (QB3.out.keep hb)
  have HB4 := Lib.hid (chain HB3.out hb)
  have FA4 := Lib.hid hfa
  have HG4 := QB4.out.lt
  have R4 := Lib.hid (R3.out.keepB hb)
  have SZ4 := Lib.hid hb.size
  clear hfa R3
  clear hb r0 r1 r2 r3 r4 r5 q0 q1 q2 q3 q4 q5
  obtain ⟨r0, r1, r2, r3, r4, r5⟩ := QA4.out.six
  obtain ⟨q0, q1, q2, q3, q4, q5⟩ := QB4.out.six
  refine hK.out _ _ (show (fun (w' : World) => w'.cell? ⟨W.heap.size, 0, none⟩ = some (.slice A0 l0 c0) ∧ w'.cell? ⟨W.heap.size, 1, none⟩ = some (.slice A1 l1 c1) ∧ w'.cell? ⟨W.heap.size, 2, none⟩ = some (.slice A2 l2 c2) ∧ w'.cell? ⟨W.heap.size, 3, none⟩ = some (.slice A3 l3 c3) ∧ w'.cell? ⟨W.heap.size, 4, none⟩ = some (.slice A4 l4 c4) ∧ w'.cell? ⟨W.heap.size, 5, none⟩ = some (.slice A5 l5 c5) ∧ w'.cell? ⟨W.heap.size + 1, 0, none⟩ = some (.slice B0 m0 d0) ∧ w'.cell? ⟨W.heap.size + 1, 1, none⟩ = some (.slice B1 m1 d1) ∧ w'.cell? ⟨W.heap.size + 1, 2, none⟩ = some (.slice B2 m2 d2) ∧ w'.cell? ⟨W.heap.size + 1, 3, none⟩ = some (.slice B3 m3 d3) ∧ w'.cell? ⟨W.heap.size + 1, 4, none⟩ = some (.slice B4 m4 d4) ∧ w'.cell? ⟨W.heap.size + 1, 5, none⟩ = some (.slice B5 m5 d5)) w4 from ⟨r0, r1, r2, r3, r4, r5, q0, q1, q2, q3, q4, q5⟩) (fun hS => ?_)
  clear hK K
  refine headH_one (i := 5) (by kernel_rfl) rfl (fun K hK => ?_)
  go_simp
  refine (few20_any _ sb W _ HSb.out HB4.out).mono ?_
  rintro e w5 ⟨vb', rfl, hfb, hb⟩
  have QA5 := Lib.hid (QA4.out.keep hb)
  have QB5 := Lib.hid (QB4.out.keep hb)
  have HB5 := Lib.hid (chain HB4.out hb)
  have FA5 := Lib.hid (FA4.out.keepB hb)
  have FB5 := Lib.hid hfb
  have R5 := Lib.hid (R4.out.keepB hb)
  have SZ5 := Lib.hid hb.size
  clear hfb R4 FA4
  clear hb r0 r1 r2 r3 r4 r5 q0 q1 q2 q3 q4 q5
  obtain ⟨r0, r1, r2, r3, r4, r5⟩ := QA5.out.six
  obtain ⟨q0, q1, q2, q3, q4, q5⟩ := QB5.out.six
  refine hK.out _ _ (show (fun (w' : World) => w'.cell? ⟨W.heap.size, 0, none⟩ = some (.slice A0 l0 c0) ∧ w'.cell? ⟨W.heap.size, 1, none⟩ = some (.slice A1 l1 c1) ∧ w'.cell? ⟨W.heap.size, 2, none⟩ = some (.slice A2 l2 c2) ∧ w'.cell? ⟨W.heap.size, 3, none⟩ = some (.slice A3 l3 c3) ∧ w'.cell? ⟨W.heap.size, 4, none⟩ = some (.slice A4 l4 c4) ∧ w'.cell? ⟨W.heap.size, 5, none⟩ = some (.slice A5 l5 c5) ∧ w'.cell? ⟨W.heap.size + 1, 0, none⟩ = some (.slice B0 m0 d0) ∧ w'.cell? ⟨W.heap.size + 1, 1, none⟩ = some (.slice B1 m1 d1) ∧ w'.cell? ⟨W.heap.size + 1, 2, none⟩ = some (.slice B2 m2 d2) ∧ w'.cell? ⟨W.heap.size + 1, 3, none⟩ = some (.slice B3 m3 d3) ∧ w'.cell? ⟨W.heap.size + 1, 4, none⟩ = some (.slice B4 m4 d4) ∧ w'.cell? ⟨W.heap.size + 1, 5, none⟩ = some (.slice B5 m5 d5)) w5 from ⟨r0, r1, r2, r3, r4, r5, q0, q1, q2, q3, q4, q5⟩) (fun hS => ?_)
  clear hK K
  refine ⟨by kernel_rfl, ?_⟩
  obtain ⟨E0, k0, f0, E1, k1, f1, E2, k2, f2, E3, k3, f3, E4, k4, f4, E5, k5, f5, hva, hfr⟩ := id FA5.out
  obtain ⟨F0, n0, h0, F1, n1, h1, F2, n2, h2, F3, n3, h3, F4, n4, h4, F5, n5, h5, hvb, hfr2⟩ := id FB5.out
  subst hva hvb
  clear hfr hfr2
  have u0 := QA5.out.free 0
  have u1 := QA5.out.free 1
  have u2 := QA5.out.free 2
  have u3 := QA5.out.free 3
  have u4 := QA5.out.free 4
  have u5 := QA5.out.free 5
  have z0 := QB5.out.free 0
  have z1 := QB5.out.free 1
  have z2 := QB5.out.free 2
  have z3 := QB5.out.free 3
  have z4 := QB5.out.free 4
  have z5 := QB5.out.free 5
  go_upto_region 2 with (fail)
  clear r0 r1 r2 r3 r4 r5 q0 q1 q2 q3 q4 q5 u0 u1 u2 u3 u4 u5 z0 z1 z2 z3 z4 z5 hS
  have hg1 := set6_grown w5 (W.heap.size) (.slice E0 k0 f0) (.slice E1 k1 f1) (.slice E2 k2 f2) (.slice E3 k3 f3) (.slice E4 k4 f4) (.slice E5 k5 f5)
  have hg2 := set6_grown (set6L w5 (W.heap.size) (.slice E0 k0 f0) (.slice E1 k1 f1) (.slice E2 k2 f2) (.slice E3 k3 f3) (.slice E4 k4 f4) (.slice E5 k5 f5)) (W.heap.size + 1) (.slice F0 n0 h0) (.slice F1 n1 h1) (.slice F2 n2 h2) (.slice F3 n3 h3) (.slice F4 n4 h4) (.slice F5 n5 h5)
  obtain ⟨w6, hw6⟩ : ∃ x, x = (set6L (set6L w5 (W.heap.size) (.slice E0 k0 f0) (.slice E1 k1 f1) (.slice E2 k2 f2) (.slice E3 k3 f3) (.slice E4 k4 f4) (.slice E5 k5 f5)) (W.heap.size + 1) (.slice F0 n0 h0) (.slice F1 n1 h1) (.slice F2 n2 h2) (.slice F3 n3 h3) (.slice F4 n4 h4) (.slice F5 n5 h5)) := ⟨_, rfl⟩
  have HB6 := Lib.hid (show Below W.heap.size W w6 by rw [hw6]; exact ((((((((((((HB5.out.setCell (p := ⟨W.heap.size, 0, none⟩) (Nat.le_refl _) (.slice E0 k0 f0)).setCell (p := ⟨W.heap.size, 1, none⟩) (Nat.le_refl _) (.slice E1 k1 f1)).setCell (p := ⟨W.heap.size, 2, none⟩) (Nat.le_refl _) (.slice E2 k2 f2)).setCell (p := ⟨W.heap.size, 3, none⟩) (Nat.le_refl _) (.slice E3 k3 f3)).setCell (p := ⟨W.heap.size, 4, none⟩) (Nat.le_refl _) (.slice E4 k4 f4)).setCell (p := ⟨W.heap.size, 5, none⟩) (Nat.le_refl _) (.slice E5 k5 f5)).setCell (p := ⟨W.heap.size + 1, 0, none⟩) (Nat.le_succ _) (.slice F0 n0 h0)).setCell (p := ⟨W.heap.size + 1, 1, none⟩) (Nat.le_succ _) (.slice F1 n1 h1)).setCell (p := ⟨W.heap.size + 1, 2, none⟩) (Nat.le_succ _) (.slice F2 n2 h2)).setCell (p := ⟨W.heap.size + 1, 3, none⟩) (Nat.le_succ _) (.slice F3 n3 h3)).setCell (p := ⟨W.heap.size + 1, 4, none⟩) (Nat.le_succ _) (.slice F4 n4 h4)).setCell (p := ⟨W.heap.size + 1, 5, none⟩) (Nat.le_succ _) (.slice F5 n5 h5)))
  have QA6 := Lib.hid (show Box w6 (W.heap.size) 26 #[.slice E0 k0 f0, .slice E1 k1 f1, .slice E2 k2 f2, .slice E3 k3 f3, .slice E4 k4 f4, .slice E5 k5 f5] by rw [hw6]; exact Box.grown (((((((QA5.out.put 0 (.slice E0 k0 f0)).put 1 (.slice E1 k1 f1)).put 2 (.slice E2 k2 f2)).put 3 (.slice E3 k3 f3)).put 4 (.slice E4 k4 f4)).put 5 (.slice E5 k5 f5))) hg2 (fun e => by injection e with e; omega))
  have QB6 := Lib.hid (show Box w6 (W.heap.size + 1) 26 #[.slice F0 n0 h0, .slice F1 n1 h1, .slice F2 n2 h2, .slice F3 n3 h3, .slice F4 n4 h4, .slice F5 n5 h5] by rw [hw6]; exact (((((((Box.grown QB5.out hg1 (fun e => by injection e with e; omega)).put 0 (.slice F0 n0 h0)).put 1 (.slice F1 n1 h1)).put 2 (.slice F2 n2 h2)).put 3 (.slice F3 n3 h3)).put 4 (.slice F4 n4 h4)).put 5 (.slice F5 n5 h5)))
  rw [← hw6] at hg2
  have FA6 := Lib.hid ((FA5.out.grown hg1 (by omega)).grown hg2 HG3)
  have FB6 := Lib.hid ((FB5.out.grown hg1 (by omega)).grown hg2 HG4)
  have R6 := Lib.hid ((R5.out.grown hg1 (by simp <;> omega)).grown hg2 (by simp))
  clear hg1 hg2 QA5 QB5 FA5 FB5 R5 HB5
  simp only [set6L] at hw6
  rw [← hw6]
  clear hw6 QA2 QB2 HB2 QA3 QB3 HB3 QA4 QB4 HB4
  obtain ⟨hth, hso⟩ := SpR.row R6.out HLn.out (fun A l xs hx => Recs.below hx HB6.out)
  have HNw := Lib.hid (new_any C0 (min l 10) cc0 (rowsT ts) w6 hth hso (by omega) (fun j _ => Nat.le_trans (rowsT_row _ _) (by decide)))
  have HTh := Lib.hid hth
  have HSo := Lib.hid hso
  have HSA := Lib.hid (fun wx (hb : Below w6.heap.size w6 wx) => (FA6.out.keepB hb).sys (HB6.out.trans (hb.mono HB6.out.size)))
  have HSB := Lib.hid (fun wx (hb : Below w6.heap.size w6 wx) => (FB6.out.keepB hb).sys (HB6.out.trans (hb.mono HB6.out.size)))
  have HR1 := Lib.hid (fun wx (hb : Below w6.heap.size w6 wx) => right20_any (.agg #[.slice E0 k0 f0, .slice E1 k1 f1, .slice E2 k2 f2, .slice E3 k3 f3, .slice E4 k4 f4, .slice E5 k5 f5]) (fewS sa) wx (HSA.out wx hb))
  have HR2 := Lib.hid (fun wx (hb : Below w6.heap.size w6 wx) => refRight20_any (.agg #[.slice E0 k0 f0, .slice E1 k1 f1, .slice E2 k2 f2, .slice E3 k3 f3, .slice E4 k4 f4, .slice E5 k5 f5]) (fewS sa) wx (HSA.out wx hb))
  have HL1 := Lib.hid (fun wx (hb : Below w6.heap.size w6 wx) => like_any (.agg #[.slice E0 k0 f0, .slice E1 k1 f1, .slice E2 k2 f2, .slice E3 k3 f3, .slice E4 k4 f4, .slice E5 k5 f5]) (fewS sa) (.agg #[.slice F0 n0 h0, .slice F1 n1 h1, .slice F2 n2 h2, .slice F3 n3 h3, .slice F4 n4 h4, .slice F5 n5 h5]) (fewS sb) wx (HSA.out wx hb) (HSB.out wx hb))
  have HL2 := Lib.hid (fun wx (hb : Below w6.heap.size w6 wx) => like_any (.agg #[.slice E0 k0 f0, .slice E1 k1 f1, .slice E2 k2 f2, .slice E3 k3 f3, .slice E4 k4 f4, .slice E5 k5 f5]) (fewS sa) (.agg #[.slice E0 k0 f0, .slice E1 k1 f1, .slice E2 k2 f2, .slice E3 k3 f3, .slice E4 k4 f4, .slice E5 k5 f5]) (fewS sa) wx (HSA.out wx hb) (HSA.out wx hb))
  have HS1 := Lib.hid (fun wx (hb : Below w6.heap.size w6 wx) => refSame_any (.agg #[.slice E0 k0 f0, .slice E1 k1 f1, .slice E2 k2 f2, .slice E3 k3 f3, .slice E4 k4 f4, .slice E5 k5 f5]) (fewS sa) (.agg #[.slice F0 n0 h0, .slice F1 n1 h1, .slice F2 n2 h2, .slice F3 n3 h3, .slice F4 n4 h4, .slice F5 n5 h5]) (fewS sb) wx (HSA.out wx hb) (HSB.out wx hb) (few_small _) (few_small _))
  rw [same_self] at HL2
  have HRN := Lib.hid (fun v wx (hs : SysAt wx v (newS (rowsT ts))) => refRight20_any v (newS (rowsT ts)) wx hs)
  have HRw := Lib.hid (fun wx (hb : Below w6.heap.size w6 wx) => refNew_any C0 (min l 10) cc0 (rowsT ts) wx (Thr.below HTh.out hb) HSo.out (by omega))
  clear hth hso
  generalize rightS (fewS sa) = bR at *
  generalize sameS (fewS sa) (fewS sb) = bS at *
  have t1 : (bR != bR) = false := by cases bR <;> rfl
  have t2 : (bS != bS) = false := by cases bS <;> rfl
  go_wp2_with fail
  refine HNw.out.mono ?_
  rintro e w7 ⟨v7, rfl, hs7, hb⟩
  obtain ⟨G0, u0, x0, G1, u1, x1, G2, u2, x2, G3, u3, x3, G4, u4, x4, G5, u5, x5, rfl, h7r⟩ := id hs7
  have QA7 := Lib.hid ((QA6.out.keep hb).alloc (.cells #[.slice G0 u0 x0, .slice G1 u1 x1, .slice G2 u2 x2, .slice G3 u3 x3, .slice G4 u4 x4, .slice G5 u5 x5] 26))
  have QB7 := Lib.hid ((QB6.out.keep hb).alloc (.cells #[.slice G0 u0 x0, .slice G1 u1 x1, .slice G2 u2 x2, .slice G3 u3 x3, .slice G4 u4 x4, .slice G5 u5 x5] 26))
  have S7 := Lib.hid (hs7.below ((Below.refl w7.heap.size w7).alloc (Nat.le_refl _) (.cells #[.slice G0 u0 x0, .slice G1 u1 x1, .slice G2 u2 x2, .slice G3 u3 x3, .slice G4 u4 x4, .slice G5 u5 x5] 26)))
  have QG7 := Lib.hid (Box.new w7 26 #[.slice G0 u0 x0, .slice G1 u1 x1, .slice G2 u2 x2, .slice G3 u3 x3, .slice G4 u4 x4, .slice G5 u5 x5])
  have HB7 := Lib.hid (hb.trans (((Below.refl w7.heap.size w7).alloc (Nat.le_refl _) (.cells #[.slice G0 u0 x0, .slice G1 u1 x1, .slice G2 u2 x2, .slice G3 u3 x3, .slice G4 u4 x4, .slice G5 u5 x5] 26)).mono hb.size))
  clear hb hs7 h7r QA6 QB6
  go_upto_region 3 with (fail)
  obtain ⟨w8, hw8⟩ : ∃ x, x = (w7.alloc (.cells #[.slice G0 u0 x0, .slice G1 u1 x1, .slice G2 u2 x2, .slice G3 u3 x3, .slice G4 u4 x4, .slice G5 u5 x5] 26)) := ⟨_, rfl⟩
  rw [← hw8] at QA7 QB7 S7 QG7 HB7 ⊢
  clear hw8
  have HBc := Lib.hid HB7.out.drew
  have QAc := Lib.hid QA7.out.drew
  have QBc := Lib.hid QB7.out.drew
  have QGc := Lib.hid QG7.out.drew
  have S7c := Lib.hid (S7.out.below (Below.refl w8.heap.size w8).drew)
  obtain ⟨r0, r1, r2, r3, r4, r5⟩ := QA7.out.six
  obtain ⟨q0, q1, q2, q3, q4, q5⟩ := QB7.out.six
  refine wp_held_tail (S := (fun (w' : World) => w'.cell? ⟨W.heap.size, 0, none⟩ = some (.slice E0 k0 f0) ∧ w'.cell? ⟨W.heap.size, 1, none⟩ = some (.slice E1 k1 f1) ∧ w'.cell? ⟨W.heap.size, 2, none⟩ = some (.slice E2 k2 f2) ∧ w'.cell? ⟨W.heap.size, 3, none⟩ = some (.slice E3 k3 f3) ∧ w'.cell? ⟨W.heap.size, 4, none⟩ = some (.slice E4 k4 f4) ∧ w'.cell? ⟨W.heap.size, 5, none⟩ = some (.slice E5 k5 f5) ∧ w'.cell? ⟨W.heap.size + 1, 0, none⟩ = some (.slice F0 n0 h0) ∧ w'.cell? ⟨W.heap.size + 1, 1, none⟩ = some (.slice F1 n1 h1) ∧ w'.cell? ⟨W.heap.size + 1, 2, none⟩ = some (.slice F2 n2 h2) ∧ w'.cell? ⟨W.heap.size + 1, 3, none⟩ = some (.slice F3 n3 h3) ∧ w'.cell? ⟨W.heap.size + 1, 4, none⟩ = some (.slice F4 n4 h4) ∧ w'.cell? ⟨W.heap.size + 1, 5, none⟩ = some (.slice F5 n5 h5))) 23 (by kernel_rfl) (by decide) ?_
  have hS := Lib.hid (show (fun (w' : World) => w'.cell? ⟨W.heap.size, 0, none⟩ = some (.slice E0 k0 f0) ∧ w'.cell? ⟨W.heap.size, 1, none⟩ = some (.slice E1 k1 f1) ∧ w'.cell? ⟨W.heap.size, 2, none⟩ = some (.slice E2 k2 f2) ∧ w'.cell? ⟨W.heap.size, 3, none⟩ = some (.slice E3 k3 f3) ∧ w'.cell? ⟨W.heap.size, 4, none⟩ = some (.slice E4 k4 f4) ∧ w'.cell? ⟨W.heap.size, 5, none⟩ = some (.slice E5 k5 f5) ∧ w'.cell? ⟨W.heap.size + 1, 0, none⟩ = some (.slice F0 n0 h0) ∧ w'.cell? ⟨W.heap.size + 1, 1, none⟩ = some (.slice F1 n1 h1) ∧ w'.cell? ⟨W.heap.size + 1, 2, none⟩ = some (.slice F2 n2 h2) ∧ w'.cell? ⟨W.heap.size + 1, 3, none⟩ = some (.slice F3 n3 h3) ∧ w'.cell? ⟨W.heap.size + 1, 4, none⟩ = some (.slice F4 n4 h4) ∧ w'.cell? ⟨W.heap.size + 1, 5, none⟩ = some (.slice F5 n5 h5)) w8.drew from ⟨r0, r1, r2, r3, r4, r5, q0, q1, q2, q3, q4, q5⟩)
  replace hS := hS.out
  refine headH_take (i := 0) (v := ?_) rfl (by kernel_rfl) (fun _ _ _ h => h) (fun _ _ _ h => seqB_ready h.1) (Or.inl ⟨by rfl, ?hy4⟩) hS ?rest4
  case hy4 => intro w hSw; (try dsimp only at hSw); obtain ⟨hc0, hc1, hc2, hc3, hc4, hc5, hc6, hc7, hc8, hc9, hc10, hc11⟩ := hSw; go_simp; try (with_reducible rfl)
  case rest4 =>
  try simp only [Act.put, List.setIfInBounds_toArray, List.set_cons_zero, List.set_cons_succ]
  refine headH_take (i := 2) (v := ?_) rfl (by kernel_rfl) (fun _ _ _ h => h) (fun _ _ _ h => seqB_ready h.1) (Or.inl ⟨by rfl, ?hy5⟩) hS ?rest5
  case hy5 => intro w hSw; (try dsimp only at hSw); obtain ⟨hc0, hc1, hc2, hc3, hc4, hc5, hc6, hc7, hc8, hc9, hc10, hc11⟩ := hSw; go_simp; try (with_reducible rfl)
  case rest5 =>
  try simp only [Act.put, List.setIfInBounds_toArray, List.set_cons_zero, List.set_cons_succ]
  refine headH_one (i := 1) (by kernel_rfl) rfl (fun K hK => ?_)
  go_simp
  refine (HR1.out _ HBc.out).mono ?_
  rintro e x1 ⟨rfl, hb⟩
  replace HBc := Lib.hid (chain HBc.out hb)
  replace QAc := Lib.hid (QAc.out.keep hb)
  replace QBc := Lib.hid (QBc.out.keep hb)
  replace QGc := Lib.hid (QGc.out.keep hb)
  replace S7c := Lib.hid (S7c.out.below hb)
  clear hb r0 r1 r2 r3 r4 r5 q0 q1 q2 q3 q4 q5
  obtain ⟨r0, r1, r2, r3, r4, r5⟩ := QAc.out.six
  obtain ⟨q0, q1, q2, q3, q4, q5⟩ := QBc.out.six
  refine hK.out _ _ (show (fun (w' : World) => w'.cell? ⟨W.heap.size, 0, none⟩ = some (.slice E0 k0 f0) ∧ w'.cell? ⟨W.heap.size, 1, none⟩ = some (.slice E1 k1 f1) ∧ w'.cell? ⟨W.heap.size, 2, none⟩ = some (.slice E2 k2 f2) ∧ w'.cell? ⟨W.heap.size, 3, none⟩ = some (.slice E3 k3 f3) ∧ w'.cell? ⟨W.heap.size, 4, none⟩ = some (.slice E4 k4 f4) ∧ w'.cell? ⟨W.heap.size, 5, none⟩ = some (.slice E5 k5 f5) ∧ w'.cell? ⟨W.heap.size + 1, 0, none⟩ = some (.slice F0 n0 h0) ∧ w'.cell? ⟨W.heap.size + 1, 1, none⟩ = some (.slice F1 n1 h1) ∧ w'.cell? ⟨W.heap.size + 1, 2, none⟩ = some (.slice F2 n2 h2) ∧ w'.cell? ⟨W.heap.size + 1, 3, none⟩ = some (.slice F3 n3 h3) ∧ w'.cell? ⟨W.heap.size + 1, 4, none⟩ = some (.slice F4 n4 h4) ∧ w'.cell? ⟨W.heap.size + 1, 5, none⟩ = some (.slice F5 n5 h5)) x1 from ⟨r0, r1, r2, r3, r4, r5, q0, q1, q2, q3, q4, q5⟩) (fun hS => ?_)
  clear hK K
  refine headH_one (i := 3) (by kernel_rfl) rfl (fun K hK => ?_)
  go_simp
  refine (HR2.out _ HBc.out).mono ?_
  rintro e x2 ⟨rfl, hb⟩
  replace HBc := Lib.hid (chain HBc.out hb)
  replace QAc := Lib.hid (QAc.out.keep hb)
  replace QBc := Lib.hid (QBc.out.keep hb)
  replace QGc := Lib.hid (QGc.out.keep hb)
  replace S7c := Lib.hid (S7c.out.below hb)
  clear hb r0 r1 r2 r3 r4 r5 q0 q1 q2 q3 q4 q5
  obtain ⟨r0, r1, r2, r3, r4, r5⟩ := QAc.out.six
  obtain ⟨q0, q1, q2, q3, q4, q5⟩ := QBc.out.six
  refine hK.out _ _ (show (fun (w' : World) => w'.cell? ⟨W.heap.size, 0, none⟩ = some (.slice E0 k0 f0) ∧ w'.cell? ⟨W.heap.size, 1, none⟩ = some (.slice E1 k1 f1) ∧ w'.cell? ⟨W.heap.size, 2, none⟩ = some (.slice E2 k2 f2) ∧ w'.cell? ⟨W.heap.size, 3, none⟩ = some (.slice E3 k3 f3) ∧ w'.cell? ⟨W.heap.size, 4, none⟩ = some (.slice E4 k4 f4) ∧ w'.cell? ⟨W.heap.size, 5, none⟩ = some (.slice E5 k5 f5) ∧ w'.cell? ⟨W.heap.size + 1, 0, none⟩ = some (.slice F0 n0 h0) ∧ w'.cell? ⟨W.heap.size + 1, 1, none⟩ = some (.slice F1 n1 h1) ∧ w'.cell? ⟨W.heap.size + 1, 2, none⟩ = some (.slice F2 n2 h2) ∧ w'.cell? ⟨W.heap.size + 1, 3, none⟩ = some (.slice F3 n3 h3) ∧ w'.cell? ⟨W.heap.size + 1, 4, none⟩ = some (.slice F4 n4 h4) ∧ w'.cell? ⟨W.heap.size + 1, 5, none⟩ = some (.slice F5 n5 h5)) x2 from ⟨r0, r1, r2, r3, r4, r5, q0, q1, q2, q3, q4, q5⟩) (fun hS => ?_)
  clear hK K
  refine headH_take (i := 4) (v := ?_) rfl (by kernel_rfl) (fun _ _ _ h => h) (fun _ _ _ h => seqB_ready h.1) (Or.inl ⟨by rfl, ?hy6⟩) hS ?rest6
  case hy6 => intro w hSw; (try dsimp only at hSw); obtain ⟨hc0, hc1, hc2, hc3, hc4, hc5, hc6, hc7, hc8, hc9, hc10, hc11⟩ := hSw; go_simp; try (with_reducible rfl)
  case rest6 =>
  try simp only [Act.put, List.setIfInBounds_toArray, List.set_cons_zero, List.set_cons_succ]
  refine headH_take (i := 5) (v := ?_) rfl (by kernel_rfl) (fun _ _ _ h => h) (fun _ _ _ h => seqB_ready h.1) (Or.inl ⟨by rfl, ?hy7⟩) hS ?rest7
  case hy7 => intro w hSw; (try dsimp only at hSw); obtain ⟨hc0, hc1, hc2, hc3, hc4, hc5, hc6, hc7, hc8, hc9, hc10, hc11⟩ := hSw; go_simp; try (with_reducible rfl)
  case rest7 =>
  try simp only [Act.put, List.setIfInBounds_toArray, List.set_cons_zero, List.set_cons_succ]
  refine headH_take (i := 6) (v := ?_) rfl (by kernel_rfl) (fun _ _ _ h => h) (fun _ _ _ h => seqB_ready h.1) (Or.inl ⟨by rfl, ?hy8⟩) hS ?rest8
  case hy8 => intro w hSw; (try dsimp only at hSw); obtain ⟨hc0, hc1, hc2, hc3, hc4, hc5, hc6, hc7, hc8, hc9, hc10, hc11⟩ := hSw; go_simp; try (with_reducible rfl)
  case rest8 =>
  try simp only [Act.put, List.setIfInBounds_toArray, List.set_cons_zero, List.set_cons_succ]
  refine headH_take (i := 7) (v := ?_) rfl (by kernel_rfl) (fun _ _ _ h => h) (fun _ _ _ h => seqB_ready h.1) (Or.inl ⟨by rfl, ?hy9⟩) hS ?rest9
  case hy9 => intro w hSw; (try dsimp only at hSw); obtain ⟨hc0, hc1, hc2, hc3, hc4, hc5, hc6, hc7, hc8, hc9, hc10, hc11⟩ := hSw; go_simp; try (with_reducible rfl)
  case rest9 =>
  try simp only [Act.put, List.setIfInBounds_toArray, List.set_cons_zero, List.set_cons_succ]
  refine headH_take (i := 9) (v := ?_) rfl (by kernel_rfl) (fun _ _ _ h => h) (fun _ _ _ h => seqB_ready h.1) (Or.inl ⟨by rfl, ?hy10⟩) hS ?rest10
  case hy10 => intro w hSw; (try dsimp only at hSw); obtain ⟨hc0, hc1, hc2, hc3, hc4, hc5, hc6, hc7, hc8, hc9, hc10, hc11⟩ := hSw; go_simp; try (with_reducible rfl)
  case rest10 =>
  try simp only [Act.put, List.setIfInBounds_toArray, List.set_cons_zero, List.set_cons_succ]
  refine headH_take (i := 10) (v := ?_) rfl (by kernel_rfl) (fun _ _ _ h => h) (fun _ _ _ h => seqB_ready h.1) (Or.inl ⟨by rfl, ?hy11⟩) hS ?rest11
  case hy11 => intro w hSw; (try dsimp only at hSw); obtain ⟨hc0, hc1, hc2, hc3, hc4, hc5, hc6, hc7, hc8, hc9, hc10, hc11⟩ := hSw; go_simp; try (with_reducible rfl)
  case rest11 =>
  try simp only [Act.put, List.setIfInBounds_toArray, List.set_cons_zero, List.set_cons_succ]
  refine headH_one (i := 8) (by kernel_rfl) rfl (fun K hK => ?_)
  go_simp
  refine (HL1.out _ HBc.out).mono ?_
  rintro e x3 ⟨rfl, hb⟩
  replace HBc := Lib.hid (chain HBc.out hb)
  replace QAc := Lib.hid (QAc.out.keep hb)
  replace QBc := Lib.hid (QBc.out.keep hb)
  replace QGc := Lib.hid (QGc.out.keep hb)
  replace S7c := Lib.hid (S7c.out.below hb)
  clear hb r0 r1 r2 r3 r4 r5 q0 q1 q2 q3 q4 q5
  obtain ⟨r0, r1, r2, r3, r4, r5⟩ := QAc.out.six
  obtain ⟨q0, q1, q2, q3, q4, q5⟩ := QBc.out.six
  refine hK.out _ _ (show (fun (w' : World) => w'.cell? ⟨W.heap.size, 0, none⟩ = some (.slice E0 k0 f0) ∧ w'.cell? ⟨W.heap.size, 1, none⟩ = some (.slice E1 k1 f1) ∧ w'.cell? ⟨W.heap.size, 2, none⟩ = some (.slice E2 k2 f2) ∧ w'.cell? ⟨W.heap.size, 3, none⟩ = some (.slice E3 k3 f3) ∧ w'.cell? ⟨W.heap.size, 4, none⟩ = some (.slice E4 k4 f4) ∧ w'.cell? ⟨W.heap.size, 5, none⟩ = some (.slice E5 k5 f5) ∧ w'.cell? ⟨W.heap.size + 1, 0, none⟩ = some (.slice F0 n0 h0) ∧ w'.cell? ⟨W.heap.size + 1, 1, none⟩ = some (.slice F1 n1 h1) ∧ w'.cell? ⟨W.heap.size + 1, 2, none⟩ = some (.slice F2 n2 h2) ∧ w'.cell? ⟨W.heap.size + 1, 3, none⟩ = some (.slice F3 n3 h3) ∧ w'.cell? ⟨W.heap.size + 1, 4, none⟩ = some (.slice F4 n4 h4) ∧ w'.cell? ⟨W.heap.size + 1, 5, none⟩ = some (.slice F5 n5 h5)) x3 from ⟨r0, r1, r2, r3, r4, r5, q0, q1, q2, q3, q4, q5⟩) (fun hS => ?_)
  clear hK K
  refine headH_one (i := 11) (by kernel_rfl) rfl (fun K hK => ?_)
  go_simp
  refine (HS1.out _ HBc.out).mono ?_
  rintro e x4 ⟨rfl, hb⟩
  replace HBc := Lib.hid (chain HBc.out hb)
  replace QAc := Lib.hid (QAc.out.keep hb)
  replace QBc := Lib.hid (QBc.out.keep hb)
  replace QGc := Lib.hid (QGc.out.keep hb)
  replace S7c := Lib.hid (S7c.out.below hb)
  clear hb r0 r1 r2 r3 r4 r5 q0 q1 q2 q3 q4 q5
  obtain ⟨r0, r1, r2, r3, r4, r5⟩ := QAc.out.six
  obtain ⟨q0, q1, q2, q3, q4, q5⟩ := QBc.out.six
  refine hK.out _ _ (show (fun (w' : World) => w'.cell? ⟨W.heap.size, 0, none⟩ = some (.slice E0 k0 f0) ∧ w'.cell? ⟨W.heap.size, 1, none⟩ = some (.slice E1 k1 f1) ∧ w'.cell? ⟨W.heap.size, 2, none⟩ = some (.slice E2 k2 f2) ∧ w'.cell? ⟨W.heap.size, 3, none⟩ = some (.slice E3 k3 f3) ∧ w'.cell? ⟨W.heap.size, 4, none⟩ = some (.slice E4 k4 f4) ∧ w'.cell? ⟨W.heap.size, 5, none⟩ = some (.slice E5 k5 f5) ∧ w'.cell? ⟨W.heap.size + 1, 0, none⟩ = some (.slice F0 n0 h0) ∧ w'.cell? ⟨W.heap.size + 1, 1, none⟩ = some (.slice F1 n1 h1) ∧ w'.cell? ⟨W.heap.size + 1, 2, none⟩ = some (.slice F2 n2 h2) ∧ w'.cell? ⟨W.heap.size + 1, 3, none⟩ = some (.slice F3 n3 h3) ∧ w'.cell? ⟨W.heap.size + 1, 4, none⟩ = some (.slice F4 n4 h4) ∧ w'.cell? ⟨W.heap.size + 1, 5, none⟩ = some (.slice F5 n5 h5)) x4 from ⟨r0, r1, r2, r3, r4, r5, q0, q1, q2, q3, q4, q5⟩) (fun hS => ?_)
  clear hK K
  refine headH_take (i := 12) (v := ?_) rfl (by kernel_rfl) (fun _ _ _ h => h) (fun _ _ _ h => seqB_ready h.1) (Or.inl ⟨by rfl, ?hy12⟩) hS ?rest12
  case hy12 => intro w hSw; (try dsimp only at hSw); obtain ⟨hc0, hc1, hc2, hc3, hc4, hc5, hc6, hc7, hc8, hc9, hc10, hc11⟩ := hSw; go_simp; try (with_reducible rfl)
  case rest12 =>
  try simp only [Act.put, List.setIfInBounds_toArray, List.set_cons_zero, List.set_cons_succ]
  refine headH_take (i := 13) (v := ?_) rfl (by kernel_rfl) (fun _ _ _ h => h) (fun _ _ _ h => seqB_ready h.1) (Or.inl ⟨by rfl, ?hy13⟩) hS ?rest13
  case hy13 => intro w hSw; (try dsimp only at hSw); obtain ⟨hc0, hc1, hc2, hc3, hc4, hc5, hc6, hc7, hc8, hc9, hc10, hc11⟩ := hSw; go_simp; try (with_reducible rfl)
  case rest13 =>
  try simp only [Act.put, List.setIfInBounds_toArray, List.set_cons_zero, List.set_cons_succ]
  refine headH_take (i := 14) (v := ?_) rfl (by kernel_rfl) (fun _ _ _ h => h) (fun _ _ _ h => seqB_ready h.1) (Or.inl ⟨by rfl, ?hy14⟩) hS ?rest14
  case hy14 => intro w hSw; (try dsimp only at hSw); obtain ⟨hc0, hc1, hc2, hc3, hc4, hc5, hc6, hc7, hc8, hc9, hc10, hc11⟩ := hSw; go_simp; try (with_reducible rfl)
  case rest14 =>
  try simp only [Act.put, List.setIfInBounds_toArray, List.set_cons_zero, List.set_cons_succ]
  refine headH_take (i := 15) (v := ?_) rfl (by kernel_rfl) (fun _ _ _ h => h) (fun _ _ _ h => seqB_ready h.1) (Or.inl ⟨by rfl, ?hy15⟩) hS ?rest15
  case hy15 => intro w hSw; (try dsimp only at hSw); obtain ⟨hc0, hc1, hc2, hc3, hc4, hc5, hc6, hc7, hc8, hc9, hc10, hc11⟩ := hSw; go_simp; try (with_reducible rfl)
  case rest15 =>
  try simp only [Act.put, List.setIfInBounds_toArray, List.set_cons_zero, List.set_cons_succ]
  refine headH_take (i := 16) (v := ?_) rfl (by kernel_rfl) (fun _ _ _ h => h) (fun _ _ _ h => seqB_ready h.1) (Or.inl ⟨by rfl, ?hy16⟩) hS ?rest16
  case hy16 => intro w hSw; (try dsimp only at hSw); obtain ⟨hc0, hc1, hc2, hc3, hc4, hc5, hc6, hc7, hc8, hc9, hc10, hc11⟩ := hSw; go_simp; try (with_reducible rfl)
  case rest16 =>
  try simp only [Act.put, List.setIfInBounds_toArray, List.set_cons_zero, List.set_cons_succ]
  refine headH_one (i := 17) (by kernel_rfl) rfl (fun K hK => ?_)
  go_simp
  refine (HL2.out _ HBc.out).mono ?_
  rintro e x5 ⟨rfl, hb⟩
  replace HBc := Lib.hid (chain HBc.out hb)
  replace QAc := Lib.hid (QAc.out.keep hb)
  replace QBc := Lib.hid (QBc.out.keep hb)
  replace QGc := Lib.hid (QGc.out.keep hb)
  replace S7c := Lib.hid (S7c.out.below hb)
  clear hb r0 r1 r2 r3 r4 r5 q0 q1 q2 q3 q4 q5
  obtain ⟨r0, r1, r2, r3, r4, r5⟩ := QAc.out.six
  obtain ⟨q0, q1, q2, q3, q4, q5⟩ := QBc.out.six
  refine hK.out _ _ (show (fun (w' : World) => w'.cell? ⟨W.heap.size, 0, none⟩ = some (.slice E0 k0 f0) ∧ w'.cell? ⟨W.heap.size, 1, none⟩ = some (.slice E1 k1 f1) ∧ w'.cell? ⟨W.heap.size, 2, none⟩ = some (.slice E2 k2 f2) ∧ w'.cell? ⟨W.heap.size, 3, none⟩ = some (.slice E3 k3 f3) ∧ w'.cell? ⟨W.heap.size, 4, none⟩ = some (.slice E4 k4 f4) ∧ w'.cell? ⟨W.heap.size, 5, none⟩ = some (.slice E5 k5 f5) ∧ w'.cell? ⟨W.heap.size + 1, 0, none⟩ = some (.slice F0 n0 h0) ∧ w'.cell? ⟨W.heap.size + 1, 1, none⟩ = some (.slice F1 n1 h1) ∧ w'.cell? ⟨W.heap.size + 1, 2, none⟩ = some (.slice F2 n2 h2) ∧ w'.cell? ⟨W.heap.size + 1, 3, none⟩ = some (.slice F3 n3 h3) ∧ w'.cell? ⟨W.heap.size + 1, 4, none⟩ = some (.slice F4 n4 h4) ∧ w'.cell? ⟨W.heap.size + 1, 5, none⟩ = some (.slice F5 n5 h5)) x5 from ⟨r0, r1, r2, r3, r4, r5, q0, q1, q2, q3, q4, q5⟩) (fun hS => ?_)
  clear hK K
  refine headH_take (i := 18) (v := ?_) rfl (by kernel_rfl) (fun _ _ _ h => h) (fun _ _ _ h => seqB_ready h.1) (Or.inl ⟨by rfl, ?hy17⟩) hS ?rest17
  case hy17 => intro w hSw; (try dsimp only at hSw); obtain ⟨hc0, hc1, hc2, hc3, hc4, hc5, hc6, hc7, hc8, hc9, hc10, hc11⟩ := hSw; go_simp; try (with_reducible rfl)
  case rest17 =>
  try simp only [Act.put, List.setIfInBounds_toArray, List.set_cons_zero, List.set_cons_succ]
  refine headH_take (i := 19) (v := ?_) rfl (by kernel_rfl) (fun _ _ _ h => h) (fun _ _ _ h => seqB_ready h.1) (Or.inl ⟨by rfl, ?hy18⟩) hS ?rest18
  case hy18 => intro w hSw; (try dsimp only at hSw); obtain ⟨hc0, hc1, hc2, hc3, hc4, hc5, hc6, hc7, hc8, hc9, hc10, hc11⟩ := hSw; go_simp; try (with_reducible rfl)
  case rest18 =>
  try simp only [Act.put, List.setIfInBounds_toArray, List.set_cons_zero, List.set_cons_succ]
  refine headH_take (i := 20) (v := ?_) rfl (by kernel_rfl) (fun _ _ _ h => h) (fun _ _ _ h => seqB_ready h.1) (Or.inl ⟨by rfl, ?hy19⟩) hS ?rest19
  case hy19 => intro w hSw; (try dsimp only at hSw); obtain ⟨hc0, hc1, hc2, hc3, hc4, hc5, hc6, hc7, hc8, hc9, hc10, hc11⟩ := hSw; go_simp; try (with_reducible rfl)
  case rest19 =>
  try simp only [Act.put, List.setIfInBounds_toArray, List.set_cons_zero, List.set_cons_succ]
  refine headH_one (i := 21) (by kernel_rfl) rfl (fun K hK => ?_)
  go_simp
  refine (alive20_any _).mono ?_
  rintro e x6 ⟨rfl, hb⟩
  replace HBc := Lib.hid (chain HBc.out hb)
  replace QAc := Lib.hid (QAc.out.keep hb)
  replace QBc := Lib.hid (QBc.out.keep hb)
  replace QGc := Lib.hid (QGc.out.keep hb)
  replace S7c := Lib.hid (S7c.out.below hb)
  clear hb r0 r1 r2 r3 r4 r5 q0 q1 q2 q3 q4 q5
  obtain ⟨r0, r1, r2, r3, r4, r5⟩ := QAc.out.six
  obtain ⟨q0, q1, q2, q3, q4, q5⟩ := QBc.out.six
  refine hK.out _ _ (show (fun (w' : World) => w'.cell? ⟨W.heap.size, 0, none⟩ = some (.slice E0 k0 f0) ∧ w'.cell? ⟨W.heap.size, 1, none⟩ = some (.slice E1 k1 f1) ∧ w'.cell? ⟨W.heap.size, 2, none⟩ = some (.slice E2 k2 f2) ∧ w'.cell? ⟨W.heap.size, 3, none⟩ = some (.slice E3 k3 f3) ∧ w'.cell? ⟨W.heap.size, 4, none⟩ = some (.slice E4 k4 f4) ∧ w'.cell? ⟨W.heap.size, 5, none⟩ = some (.slice E5 k5 f5) ∧ w'.cell? ⟨W.heap.size + 1, 0, none⟩ = some (.slice F0 n0 h0) ∧ w'.cell? ⟨W.heap.size + 1, 1, none⟩ = some (.slice F1 n1 h1) ∧ w'.cell? ⟨W.heap.size + 1, 2, none⟩ = some (.slice F2 n2 h2) ∧ w'.cell? ⟨W.heap.size + 1, 3, none⟩ = some (.slice F3 n3 h3) ∧ w'.cell? ⟨W.heap.size + 1, 4, none⟩ = some (.slice F4 n4 h4) ∧ w'.cell? ⟨W.heap.size + 1, 5, none⟩ = some (.slice F5 n5 h5)) x6 from ⟨r0, r1, r2, r3, r4, r5, q0, q1, q2, q3, q4, q5⟩) (fun hS => ?_)
  clear hK K
  refine headH_take (i := 22) (v := ?_) rfl (by kernel_rfl) (fun _ _ _ h => h) (fun _ _ _ h => seqB_ready h.1) (Or.inl ⟨by rfl, ?hy20⟩) hS ?rest20
  case hy20 => intro w hSw; (try dsimp only at hSw); obtain ⟨hc0, hc1, hc2, hc3, hc4, hc5, hc6, hc7, hc8, hc9, hc10, hc11⟩ := hSw; go_simp; try (with_reducible rfl)
  case rest20 =>
  try simp only [Act.put, List.setIfInBounds_toArray, List.set_cons_zero, List.set_cons_succ]
  refine ⟨by kernel_rfl, ?_⟩
  clear hS r0 r1 r2 r3 r4 r5 q0 q1 q2 q3 q4 q5
  go_wp2_with fail
  refine (HRw.out _ HBc.out).mono ?_
  rintro e wn ⟨vn, rfl, hsn, hb⟩
  obtain ⟨H0, y0, z0, H1, y1, z1, H2, y2, z2, H3, y3, z3, H4, y4, z4, H5, y5, z5, rfl, hnr⟩ := id hsn
  have ab : Below wn.heap.size wn (wn.alloc (.cells #[.slice H0 y0 z0, .slice H1 y1 z1, .slice H2 y2 z2, .slice H3 y3 z3, .slice H4 y4 z4, .slice H5 y5 z5] 26)) := (Below.refl _ _).alloc (Nat.le_refl _) _
  have SNc := Lib.hid (hsn.below ab)
  have QNc := Lib.hid (Box.new wn 26 #[.slice H0 y0 z0, .slice H1 y1 z1, .slice H2 y2 z2, .slice H3 y3 z3, .slice H4 y4 z4, .slice H5 y5 z5])
  replace HBc := Lib.hid (chain (chain HBc.out hb) ab)
  replace S7c := Lib.hid ((S7c.out.below hb).below ab)
  replace QGc := Lib.hid ((QGc.out.keep hb).keep ab)
  clear hb ab hsn hnr QAc QBc
  go_upto_region 6 with (fail)
  obtain ⟨wa, hwa⟩ : ∃ x, x = wn.alloc (.cells #[.slice H0 y0 z0, .slice H1 y1 z1, .slice H2 y2 z2, .slice H3 y3 z3, .slice H4 y4 z4, .slice H5 y5 z5] 26) := ⟨_, rfl⟩
  rw [← hwa] at SNc QNc HBc S7c QGc ⊢
  clear hwa
  obtain ⟨r0, r1, r2, r3, r4, r5⟩ := QNc.out.six
  go_wp2_with fail
  refine (HRN.out _ _ SNc.out).mono ?_
  rintro e wb ⟨rfl, hb⟩
  replace HBc := Lib.hid (chain HBc.out hb)
  replace S7c := Lib.hid (S7c.out.below hb)
  replace SNc := Lib.hid (SNc.out.below hb)
  replace QGc := Lib.hid (QGc.out.keep hb)
  replace QNc := Lib.hid (QNc.out.keep hb)
  clear hb r0 r1 r2 r3 r4 r5
  obtain ⟨r0, r1, r2, r3, r4, r5⟩ := QGc.out.six
  obtain ⟨q0, q1, q2, q3, q4, q5⟩ := QNc.out.six
  cases hr : rightS (newS (rowsT ts)) with
  | false =>
    have hE : newRes (rowsT ts) = (1, sys0) := by unfold newRes; rw [hr]; rfl
    rw [hE] at S7c ⊢
    have HSm := Lib.hid (refSame_any _ sys0 zeroV sys0 wb S7c.out (zeroV_at wb) zero_small zero_small)
    rw [same_self] at HSm
    clear hr hE
    go_wp2_with fail
    refine HSm.out.mono ?_
    rintro e wz ⟨rfl, hb⟩
    have HF := Lib.hid (HB6.out.trans ((chain HBc.out hb).mono HB6.out.size))
    clear hb
    go_wp2_with fail
    go_ret
    exact ⟨rfl, HF.out⟩
  | true =>
    have hE : newRes (rowsT ts) = (0, newS (rowsT ts)) := by unfold newRes; rw [if_pos hr]
    rw [hE] at S7c ⊢
    have HSm := Lib.hid (refSame_any _ (newS (rowsT ts)) _ (newS (rowsT ts)) wb S7c.out SNc.out (new_small _ (Nat.le_trans (rowsT_len _) (by decide)) (fun j => Nat.le_trans (rowsT_row _ _) (by decide))) (new_small _ (Nat.le_trans (rowsT_len _) (by decide)) (fun j => Nat.le_trans (rowsT_row _ _) (by decide))))
    rw [same_self] at HSm
    clear hr hE
    go_wp2_with fail
    refine HSm.out.mono ?_
    rintro e wz ⟨rfl, hb⟩
    have HF := Lib.hid (HB6.out.trans ((chain HBc.out hb).mono HB6.out.size))
    clear hb
    go_wp2_with fail
    go_ret
    exact ⟨rfl, HF.out⟩
end Go.Proofs.Ytcamoigcfiemhaa
