/- Layer 20: the law's few. -/
import Derived.Test.YtcamoigcfiemhaaScFb
import Derived.Test.YtcamoigcfiemhaaKTail
namespace Go.Proofs.Ytcamoigcfiemhaa
set_option linter.unusedVariables false
set_option linter.unusedSimpArgs false
open Go.RowKit Go.Lib
set_option maxRecDepth 100000
def fewS (s : Sys) : Sys := { th := rowsT s.th, pc := s.pc.take 12, su := s.su.take 12, lo := s.lo.take 12, ce := s.ce.take 12, ch := (s.ch.take 6).map (·.take 12) }
theorem SpR.kept {α : Type} {P : World → Option Addr → Nat → List α → Prop} {t : TypeId} {base g : Nat} {w0 w w' : World} {v : Value} {cs : List (List α)} {T : TypeId} {ys : Array Value} (h : SpR P t base w0 w v cs) (hb : Box w g T ys) (ht : t ≠ T) (hg : w.grownBy w' (some g)) : SpR P t base w0 w' v cs := by
  obtain ⟨rs, h1, h2, h3⟩ := h
  exact ⟨rs, h1, World.ownsRow.kept h2 hg (.inr (own_ne h2 hb ht)), h3⟩
theorem SpR.keepB {α : Type} {P : World → Option Addr → Nat → List α → Prop} {t : TypeId} {base : Nat} {w0 w w' : World} {v : Value} {cs : List (List α)} (h : SpR P t base w0 w v cs) (hb : Below w.heap.size w w') : SpR P t base w0 w' v cs := by
  obtain ⟨rs, h1, h2, h3⟩ := h
  exact ⟨rs, h1, own_keepB h2 hb, h3⟩
theorem SpR.apart {α : Type} {P : World → Option Addr → Nat → List α → Prop} {t e2 : TypeId} {base b2 s2 n2 : Nat} {w0 w w' : World} {v v2 : Value} {xs2 : List Value} {cs : List (List α)} (h : SpR P t base w0 w v cs) (h2 : w.ownsRow b2 e2 s2 v2 n2 xs2) (ht : t ≠ e2) (hg : w.grownBy w' v2.ownBlock) : SpR P t base w0 w' v cs := by
  obtain ⟨rs, h1, ho, h3⟩ := h
  refine ⟨rs, h1, World.ownsRow.kept ho hg ?_, h3⟩
  rcases Classical.em (v.ownBlock = none) with h0 | h0
  · exact .inl h0
  · refine .inr fun e => ?_
    obtain ⟨g, hg'⟩ := Option.ne_none_iff_exists'.1 h0
    exact nosh_types ho h2 ht g hg' (e ▸ hg')
theorem SpR.low {α : Type} {P : World → Option Addr → Nat → List α → Prop} {t : TypeId} {base base' : Nat} {w0 w : World} {v : Value} {cs : List (List α)} (h : SpR P t base w0 w v cs) (hb : base = base') : SpR P t base' w0 w v cs := hb ▸ h
theorem SpR.lower {α : Type} {P : World → Option Addr → Nat → List α → Prop} {t : TypeId} {base base' : Nat} {w0 w : World} {v : Value} {cs : List (List α)} (h : SpR P t base w0 w v cs) (hb : base' ≤ base) : SpR P t base' w0 w v cs := by
  obtain ⟨rs, h1, h2, h3⟩ := h
  refine ⟨rs, h1, ⟨h2.1, ?_⟩, h3⟩
  rcases h2.2 with h | ⟨g, cap, cur, e, hb2, rest⟩
  · exact .inl h
  · exact .inr ⟨g, cap, cur, e, Nat.le_trans hb hb2, rest⟩
theorem SpR.grown {α : Type} {P : World → Option Addr → Nat → List α → Prop} {t : TypeId} {base g : Nat} {w0 w w' : World} {v : Value} {cs : List (List α)} (h : SpR P t base w0 w v cs) (hg : w.grownBy w' (some g)) (hb : g < base) : SpR P t base w0 w' v cs := by
  obtain ⟨rs, h1, h2, h3⟩ := h
  exact ⟨rs, h1, own_grown h2 hg hb, h3⟩
theorem SpR.row {α : Type} {P : World → Option Addr → Nat → List α → Prop} {t : TypeId} {base n : Nat} {w0 w : World} {A : Option Addr} {c : Nat} {cs : List (List α)} (h : SpR P t base w0 w (.slice A n c) cs) (hn : cs.length = n) (hP : ∀ A l xs, P w0 A l xs → P w A l xs) : RRow P w A n cs ∧ SliceOk A n c := by
  subst hn
  obtain ⟨rs, h1, h2, h3⟩ := id h
  exact ⟨SpR.read h hP, own_cap h2⟩
/-- A system whose spines are made from base on, and whose rows were there at w0. -/
def FewAt (w0 : World) (base : Nat) (w : World) (v : Value) (s : Sys) : Prop :=
  ∃ A0 l0 c0 A1 l1 c1 A2 l2 c2 A3 l3 c3 A4 l4 c4 A5 l5 c5, v = .agg #[.slice A0 l0 c0, .slice A1 l1 c1, .slice A2 l2 c2, .slice A3 l3 c3, .slice A4 l4 c4, .slice A5 l5 c5] ∧
    (SliceOk A1 l1 c1 ∧ SliceOk A2 l2 c2 ∧ SliceOk A3 l3 c3 ∧ SliceOk A4 l4 c4) ∧ (Ints w0 A1 l1 s.pc ∧ Ints w0 A2 l2 s.su ∧ Ints w0 A3 l3 s.lo ∧ Ints w0 A4 l4 s.ce) ∧
    SpR Inss 55 base w0 w (.slice A0 l0 c0) s.th ∧ s.th.length = l0 ∧ SpR Ints 23 base w0 w (.slice A5 l5 c5) s.ch ∧ s.ch.length = l5
theorem FewAt.sys {w0 w : World} {base : Nat} {v : Value} {s : Sys} (h : FewAt w0 base w v s) (hb : Below w0.heap.size w0 w) : SysAt w v s := by
  obtain ⟨A0, l0, c0, A1, l1, c1, A2, l2, c2, A3, l3, c3, A4, l4, c4, A5, l5, c5, rfl, ⟨s1, s2, s3, s4⟩, ⟨p1, p2, p3, p4⟩, h0, e0, h5, e5⟩ := h
  obtain ⟨j0, k0⟩ := SpR.row h0 e0 (fun A l xs hx => Recs.below hx hb)
  obtain ⟨j5, k5⟩ := SpR.row h5 e5 (fun A l xs hx => Ints.below hx hb)
  exact ⟨_, _, _, _, _, _, _, _, _, _, _, _, _, _, _, _, _, _, rfl, k0, s1, s2, s3, s4, k5, j0, p1.below hb, p2.below hb, p3.below hb, p4.below hb, j5⟩
theorem FewAt.keepB {w0 w w' : World} {base : Nat} {v : Value} {s : Sys} (h : FewAt w0 base w v s) (hb : Below w.heap.size w w') : FewAt w0 base w' v s := by
  obtain ⟨A0, l0, c0, A1, l1, c1, A2, l2, c2, A3, l3, c3, A4, l4, c4, A5, l5, c5, rfl, hs, hp, h0, e0, h5, e5⟩ := h
  exact ⟨A0, l0, c0, A1, l1, c1, A2, l2, c2, A3, l3, c3, A4, l4, c4, A5, l5, c5, rfl, hs, hp, h0.keepB hb, e0, h5.keepB hb, e5⟩
theorem FewAt.grown {w0 w w' : World} {base g : Nat} {v : Value} {s : Sys} (h : FewAt w0 base w v s) (hg : w.grownBy w' (some g)) (hb : g < base) : FewAt w0 base w' v s := by
  obtain ⟨A0, l0, c0, A1, l1, c1, A2, l2, c2, A3, l3, c3, A4, l4, c4, A5, l5, c5, rfl, hs, hp, h0, e0, h5, e5⟩ := h
  exact ⟨A0, l0, c0, A1, l1, c1, A2, l2, c2, A3, l3, c3, A4, l4, c4, A5, l5, c5, rfl, hs, hp, h0.grown hg hb, e0, h5.grown hg hb, e5⟩
theorem SliceOk.cut {A : Option Addr} {l c : Nat} (h : SliceOk A l c) : SliceOk A (min l 12) c := ⟨by have := h.1; omega, h.2.1, fun e => by have := h.2.2 e; omega⟩
theorem Ints.cut {w : World} {A : Option Addr} {l : Nat} {zs : List Int} (h : Ints w A l zs) : Ints w A (min l 12) (zs.take 12) := by
  have h9 := Ints.take h (min l 12) (by omega)
  have e : zs.take (min l 12) = zs.take 12 := by
    have h1 := h.1
    by_cases q : l ≤ 12
    · rw [List.take_of_length_le (by omega), List.take_of_length_le (by omega)]
    · rw [show min l 12 = 12 by omega]
  rwa [e] at h9
set_option maxHeartbeats 16000000 in
theorem few20_any (v : Value) (s : Sys) (w0 w : World) (h : SysAt w0 v s) (hb0 : Below w0.heap.size w0 w) : Calls Try.prog 9 #[v] w fun e w' => ∃ v', e = .returned v' ∧ FewAt w0 w.heap.size w' v' (fewS s) ∧ Below w.heap.size w w' := by
  obtain ⟨A0, l0, c0, A1, l1, c1, A2, l2, c2, A3, l3, c3, A4, l4, c4, A5, l5, c5, rfl, s0, s1, s2, s3, s4, s5, h0, h1, h2, h3, h4, h5⟩ := h
  obtain ⟨i0, hi, hz0, hz1, hz2⟩ := info_parts sl_infoS
  have HI := Lib.hid hi
  have HZ0 := Lib.hid hz0
  have HZ1 := Lib.hid hz1
  have HZ2 := Lib.hid hz2
  have H5 := Lib.hid h5
  have L5 := Lib.hid h5.1
  have HP := Lib.hid (And.intro h1 (And.intro h2 (And.intro h3 h4)))
  have HSk := Lib.hid (And.intro s1 (And.intro s2 (And.intro s3 s4)))
  have K1 := Lib.hid (fun wx => cut20_any A1 l1 c1 wx s1)
  have K2 := Lib.hid (fun wx => cut20_any A2 l2 c2 wx s2)
  have K3 := Lib.hid (fun wx => cut20_any A3 l3 c3 wx s3)
  have K4 := Lib.hid (fun wx => cut20_any A4 l4 c4 wx s4)
  have KC := Lib.hid (fun A l c wx hs => cut20_any A l c wx hs)
  have HB2 := Lib.hid (show Below w.heap.size w ((w.alloc (.cells #[.slice A0 l0 c0, .slice A1 l1 c1, .slice A2 l2 c2, .slice A3 l3 c3, .slice A4 l4 c4, .slice A5 l5 c5] 26)).alloc (.cells #[.slice none 0 0, .slice none 0 0, .slice none 0 0, .slice none 0 0, .slice none 0 0, .slice none 0 0] 26)) from ((Below.refl w.heap.size w).alloc (Nat.le_refl _) _).alloc (by simp) _)
  have HB0 := Lib.hid hb0
  have KR := Lib.hid (rows20_any A0 l0 c0 s.th w0 ((w.alloc (.cells #[.slice A0 l0 c0, .slice A1 l1 c1, .slice A2 l2 c2, .slice A3 l3 c3, .slice A4 l4 c4, .slice A5 l5 c5] 26)).alloc (.cells #[.slice none 0 0, .slice none 0 0, .slice none 0 0, .slice none 0 0, .slice none 0 0, .slice none 0 0] 26)) h0 (HB0.out.trans (HB2.out.mono HB0.out.size)) s0)
  have hz : ((w.alloc (.cells #[.slice A0 l0 c0, .slice A1 l1 c1, .slice A2 l2 c2, .slice A3 l3 c3, .slice A4 l4 c4, .slice A5 l5 c5] 26)).alloc (.cells #[.slice none 0 0, .slice none 0 0, .slice none 0 0, .slice none 0 0, .slice none 0 0, .slice none 0 0] 26)).heap.size = w.heap.size + 2 := by simp
  have HZ := Lib.hid hz
  have q1 := Box.new (w.alloc (.cells #[.slice A0 l0 c0, .slice A1 l1 c1, .slice A2 l2 c2, .slice A3 l3 c3, .slice A4 l4 c4, .slice A5 l5 c5] 26)) 26 #[.slice none 0 0, .slice none 0 0, .slice none 0 0, .slice none 0 0, .slice none 0 0, .slice none 0 0]
  simp only [World.size_alloc] at q1
  have QZ := Lib.hid q1
  have QA := Lib.hid ((Box.new w 26 #[.slice A0 l0 c0, .slice A1 l1 c1, .slice A2 l2 c2, .slice A3 l3 c3, .slice A4 l4 c4, .slice A5 l5 c5]).alloc (.cells #[.slice none 0 0, .slice none 0 0, .slice none 0 0, .slice none 0 0, .slice none 0 0, .slice none 0 0] 26))
  have eg : ∀ args w, (callFunc 31 args).run Try.prog w = .ok (.enter 31 args) w := enters_of Try.func31 (by kernel_rfl) rfl
  clear q1 hz hi hz0 hz1 hz2 h0 h1 h2 h3 h4 h5 s0 s1 s2 s3 s4 hb0
  obtain ⟨t1, t2, t3⟩ := s5
  obtain ⟨r0, r1, r2, r3, r4, r5⟩ := QA.out.six
  go_enter Try.func9, Try.ntmps9
  go_wp2_with fail
  refine KR.out.mono ?_
  rintro e w3 ⟨B0, d0, rfl, hsp, hlen, hb⟩
  have HL0 := Lib.hid hlen
  have S3 := Lib.hid (SpR.low hsp HZ.out)
  have QA3 := Lib.hid (QA.out.keep hb)
  have QZ3 := Lib.hid (QZ.out.keep hb)
  have HB3 := Lib.hid (chain HB2.out hb)
  clear hsp hlen hb r0 r1 r2 r3 r4 r5 QA QZ HB2 KR HZ
  obtain ⟨r0, r1, r2, r3, r4, r5⟩ := QA3.out.six
  have f0 := QA3.out.free 0
  go_upto_region 3 with (fail)
  clear r0 r1 r2 r3 r4 r5 f0
  obtain ⟨w4, hw4⟩ : ∃ x, x = w3.setCell ⟨w.heap.size, 0, none⟩ (.slice B0 (min l0 10) d0) := ⟨_, rfl⟩
  have hg4 : w3.grownBy w4 (some (w.heap.size)) := by rw [hw4]; exact grown_set w3 _ _ _
  have QA4 := Lib.hid (show Box w4 (w.heap.size) 26 #[.slice B0 (min l0 10) d0, .slice A1 l1 c1, .slice A2 l2 c2, .slice A3 l3 c3, .slice A4 l4 c4, .slice A5 l5 c5] by rw [hw4]; exact QA3.out.put 0 _)
  have QZ4 := Lib.hid (Box.grown QZ3.out hg4 (fun e => by injection e with e; omega))
  have S4 := Lib.hid (S3.out.kept QA3.out (by decide) hg4)
  have HB4 := Lib.hid (show Below w.heap.size w w4 by rw [hw4]; exact HB3.out.setCell (p := ⟨w.heap.size, 0, none⟩) (Nat.le_refl _) _)
  rw [← hw4]
  clear hw4 hg4 QA3 QZ3 S3 HB3
  obtain ⟨r0, r1, r2, r3, r4, r5⟩ := QA4.out.six
  have f1 := QA4.out.free 1
  have f2 := QA4.out.free 2
  have f3 := QA4.out.free 3
  have f4 := QA4.out.free 4
  refine wp_heldK_bar [(17, fun (w' : World) => w'.cell? ⟨w.heap.size, 1, none⟩ = some (.slice A1 l1 c1)), (19, fun (w' : World) => w'.cell? ⟨w.heap.size, 2, none⟩ = some (.slice A2 l2 c2)), (21, fun (w' : World) => w'.cell? ⟨w.heap.size, 3, none⟩ = some (.slice A3 l3 c3)), (23, fun (w' : World) => w'.cell? ⟨w.heap.size, 4, none⟩ = some (.slice A4 l4 c4))] 24 (by kernel_rfl) (by decide) ?_
  have hS0 := (show (fun (w' : World) => w'.cell? ⟨w.heap.size, 1, none⟩ = some (.slice A1 l1 c1)) w4.drew from r1)
  have hS1 := (show (fun (w' : World) => w'.cell? ⟨w.heap.size, 2, none⟩ = some (.slice A2 l2 c2)) w4.drew from r2)
  have hS2 := (show (fun (w' : World) => w'.cell? ⟨w.heap.size, 3, none⟩ = some (.slice A3 l3 c3)) w4.drew from r3)
  have hS3 := (show (fun (w' : World) => w'.cell? ⟨w.heap.size, 4, none⟩ = some (.slice A4 l4 c4)) w4.drew from r4)
  refine headK_take (i := 0) (v := ?_) rfl (by kernel_rfl) (fun _ _ _ h => h) (fun _ _ _ h => passed_ready h.1) (Or.inl ⟨by rfl, ?hy1⟩) ⟨fun _ => hS0, fun _ => hS1, fun _ => hS2, fun _ => hS3, trivial⟩ ?rest1
  case hy1 => intro w _; go_simp; try (with_reducible rfl)
  case rest1 =>
  try simp only [Act.put, List.setIfInBounds_toArray, List.set_cons_zero, List.set_cons_succ]
  refine headK_take (i := 1) (v := ?_) rfl (by kernel_rfl) (fun _ _ _ h => h) (fun _ _ _ h => passed_ready h.1) (Or.inl ⟨by rfl, ?hy2⟩) ⟨fun _ => hS0, fun _ => hS1, fun _ => hS2, fun _ => hS3, trivial⟩ ?rest2
  case hy2 => intro w _; go_simp; try (with_reducible rfl)
  case rest2 =>
  try simp only [Act.put, List.setIfInBounds_toArray, List.set_cons_zero, List.set_cons_succ]
  refine headK_load 0 17 _ rfl (i := 2) (v := ?_) rfl (by kernel_rfl) (fun _ _ _ h => h) (fun _ _ _ h => passed_ready h.1) (Or.inl ⟨by rfl, ?hy3⟩) ⟨fun _ => hS0, fun _ => hS1, fun _ => hS2, fun _ => hS3, trivial⟩ ?rest3
  case hy3 => intro w hSw; (try dsimp only at hSw); go_simp; try (with_reducible rfl)
  case rest3 =>
  try simp only [Act.put, List.setIfInBounds_toArray, List.set_cons_zero, List.set_cons_succ]
  refine headK_take (i := 4) (v := ?_) rfl (by kernel_rfl) (fun _ _ _ h => h) (fun _ _ _ h => passed_ready h.1) (Or.inl ⟨by rfl, ?hy4⟩) ⟨fun _ => hS0, fun _ => hS1, fun _ => hS2, fun _ => hS3, trivial⟩ ?rest4
  case hy4 => intro w _; go_simp; try (with_reducible rfl)
  case rest4 =>
  try simp only [Act.put, List.setIfInBounds_toArray, List.set_cons_zero, List.set_cons_succ]
  refine headK_take (i := 5) (v := ?_) rfl (by kernel_rfl) (fun _ _ _ h => h) (fun _ _ _ h => passed_ready h.1) (Or.inl ⟨by rfl, ?hy5⟩) ⟨fun _ => hS0, fun _ => hS1, fun _ => hS2, fun _ => hS3, trivial⟩ ?rest5
  case hy5 => intro w _; go_simp; try (with_reducible rfl)
  case rest5 =>
  try simp only [Act.put, List.setIfInBounds_toArray, List.set_cons_zero, List.set_cons_succ]
  refine headK_load 1 19 _ rfl (i := 6) (v := ?_) rfl (by kernel_rfl) (fun _ _ _ h => h) (fun _ _ _ h => passed_ready h.1) (Or.inl ⟨by rfl, ?hy6⟩) ⟨fun _ => hS0, fun _ => hS1, fun _ => hS2, fun _ => hS3, trivial⟩ ?rest6
  case hy6 => intro w hSw; (try dsimp only at hSw); go_simp; try (with_reducible rfl)
  case rest6 =>
  try simp only [Act.put, List.setIfInBounds_toArray, List.set_cons_zero, List.set_cons_succ]
  refine headK_take (i := 8) (v := ?_) rfl (by kernel_rfl) (fun _ _ _ h => h) (fun _ _ _ h => passed_ready h.1) (Or.inl ⟨by rfl, ?hy7⟩) ⟨fun _ => hS0, fun _ => hS1, fun _ => hS2, fun _ => hS3, trivial⟩ ?rest7
  case hy7 => intro w _; go_simp; try (with_reducible rfl)
  case rest7 =>
  try simp only [Act.put, List.setIfInBounds_toArray, List.set_cons_zero, List.set_cons_succ]
  refine headK_take (i := 9) (v := ?_) rfl (by kernel_rfl) (fun _ _ _ h => h) (fun _ _ _ h => passed_ready h.1) (Or.inl ⟨by rfl, ?hy8⟩) ⟨fun _ => hS0, fun _ => hS1, fun _ => hS2, fun _ => hS3, trivial⟩ ?rest8
  case hy8 => intro w _; go_simp; try (with_reducible rfl)
  case rest8 =>
  try simp only [Act.put, List.setIfInBounds_toArray, List.set_cons_zero, List.set_cons_succ]
  refine headK_load 2 21 _ rfl (i := 10) (v := ?_) rfl (by kernel_rfl) (fun _ _ _ h => h) (fun _ _ _ h => passed_ready h.1) (Or.inl ⟨by rfl, ?hy9⟩) ⟨fun _ => hS0, fun _ => hS1, fun _ => hS2, fun _ => hS3, trivial⟩ ?rest9
  case hy9 => intro w hSw; (try dsimp only at hSw); go_simp; try (with_reducible rfl)
  case rest9 =>
  try simp only [Act.put, List.setIfInBounds_toArray, List.set_cons_zero, List.set_cons_succ]
  refine headK_take (i := 12) (v := ?_) rfl (by kernel_rfl) (fun _ _ _ h => h) (fun _ _ _ h => passed_ready h.1) (Or.inl ⟨by rfl, ?hy10⟩) ⟨fun _ => hS0, fun _ => hS1, fun _ => hS2, fun _ => hS3, trivial⟩ ?rest10
  case hy10 => intro w _; go_simp; try (with_reducible rfl)
  case rest10 =>
  try simp only [Act.put, List.setIfInBounds_toArray, List.set_cons_zero, List.set_cons_succ]
  refine headK_take (i := 13) (v := ?_) rfl (by kernel_rfl) (fun _ _ _ h => h) (fun _ _ _ h => passed_ready h.1) (Or.inl ⟨by rfl, ?hy11⟩) ⟨fun _ => hS0, fun _ => hS1, fun _ => hS2, fun _ => hS3, trivial⟩ ?rest11
  case hy11 => intro w _; go_simp; try (with_reducible rfl)
  case rest11 =>
  try simp only [Act.put, List.setIfInBounds_toArray, List.set_cons_zero, List.set_cons_succ]
  refine headK_load 3 23 _ rfl (i := 14) (v := ?_) rfl (by kernel_rfl) (fun _ _ _ h => h) (fun _ _ _ h => passed_ready h.1) (Or.inl ⟨by rfl, ?hy12⟩) ⟨fun _ => hS0, fun _ => hS1, fun _ => hS2, fun _ => hS3, trivial⟩ ?rest12
  case hy12 => intro w hSw; (try dsimp only at hSw); go_simp; try (with_reducible rfl)
  case rest12 =>
  try simp only [Act.put, List.setIfInBounds_toArray, List.set_cons_zero, List.set_cons_succ]
  refine headK_one (i := 3) (by kernel_rfl) rfl (fun K hK => ?_)
  go_simp
  refine (K1.out _).mono ?_
  rintro e x ⟨rfl, rfl⟩
  have hS0 := (show (fun (w' : World) => w'.cell? ⟨w.heap.size, 1, none⟩ = some (.slice A1 l1 c1)) w4.drew from r1)
  have hS1 := (show (fun (w' : World) => w'.cell? ⟨w.heap.size, 2, none⟩ = some (.slice A2 l2 c2)) w4.drew from r2)
  have hS2 := (show (fun (w' : World) => w'.cell? ⟨w.heap.size, 3, none⟩ = some (.slice A3 l3 c3)) w4.drew from r3)
  have hS3 := (show (fun (w' : World) => w'.cell? ⟨w.heap.size, 4, none⟩ = some (.slice A4 l4 c4)) w4.drew from r4)
  refine hK.out _ _ ⟨fun _ => hS0, fun _ => hS1, fun _ => hS2, fun _ => hS3, trivial⟩ ?_
  clear hK K
  try simp only [Act.put, List.setIfInBounds_toArray, List.set_cons_zero, List.set_cons_succ]
  refine headK_take (i := 16) (v := ?_) rfl (by kernel_rfl) (fun _ _ _ h => h) (fun _ _ _ h => passed_ready h.1) (Or.inl ⟨by rfl, ?hy13⟩) ⟨fun _ => hS0, fun _ => hS1, fun _ => hS2, fun _ => hS3, trivial⟩ ?rest13
  case hy13 => intro w _; go_simp; try (with_reducible rfl)
  case rest13 =>
  try simp only [Act.put, List.setIfInBounds_toArray, List.set_cons_zero, List.set_cons_succ]
  refine headK_one (i := 7) (by kernel_rfl) rfl (fun K hK => ?_)
  go_simp
  refine (K2.out _).mono ?_
  rintro e x ⟨rfl, rfl⟩
  have hS0 := (show (fun (w' : World) => w'.cell? ⟨w.heap.size, 1, none⟩ = some (.slice A1 l1 c1)) w4.drew from r1)
  have hS1 := (show (fun (w' : World) => w'.cell? ⟨w.heap.size, 2, none⟩ = some (.slice A2 l2 c2)) w4.drew from r2)
  have hS2 := (show (fun (w' : World) => w'.cell? ⟨w.heap.size, 3, none⟩ = some (.slice A3 l3 c3)) w4.drew from r3)
  have hS3 := (show (fun (w' : World) => w'.cell? ⟨w.heap.size, 4, none⟩ = some (.slice A4 l4 c4)) w4.drew from r4)
  refine hK.out _ _ ⟨fun _ => hS0, fun _ => hS1, fun _ => hS2, fun _ => hS3, trivial⟩ ?_
  clear hK K
  try simp only [Act.put, List.setIfInBounds_toArray, List.set_cons_zero, List.set_cons_succ]
  refine headK_one (i := 11) (by kernel_rfl) rfl (fun K hK => ?_)
  go_simp
  refine (K3.out _).mono ?_
  rintro e x ⟨rfl, rfl⟩
  have hS0 := (show (fun (w' : World) => w'.cell? ⟨w.heap.size, 1, none⟩ = some (.slice A1 l1 c1)) w4.drew from r1)
  have hS1 := (show (fun (w' : World) => w'.cell? ⟨w.heap.size, 2, none⟩ = some (.slice A2 l2 c2)) w4.drew from r2)
  have hS2 := (show (fun (w' : World) => w'.cell? ⟨w.heap.size, 3, none⟩ = some (.slice A3 l3 c3)) w4.drew from r3)
  have hS3 := (show (fun (w' : World) => w'.cell? ⟨w.heap.size, 4, none⟩ = some (.slice A4 l4 c4)) w4.drew from r4)
  refine hK.out _ _ ⟨fun _ => hS0, fun _ => hS1, fun _ => hS2, fun _ => hS3, trivial⟩ ?_
  clear hK K
  try simp only [Act.put, List.setIfInBounds_toArray, List.set_cons_zero, List.set_cons_succ]
  refine headK_one (i := 15) (by kernel_rfl) rfl (fun K hK => ?_)
  go_simp
  refine (K4.out _).mono ?_
  rintro e x ⟨rfl, rfl⟩
  have hS0 := (show (fun (w' : World) => w'.cell? ⟨w.heap.size, 1, none⟩ = some (.slice A1 l1 c1)) w4.drew from r1)
  have hS1 := (show (fun (w' : World) => w'.cell? ⟨w.heap.size, 2, none⟩ = some (.slice A2 l2 c2)) w4.drew from r2)
  have hS2 := (show (fun (w' : World) => w'.cell? ⟨w.heap.size, 3, none⟩ = some (.slice A3 l3 c3)) w4.drew from r3)
  have hS3 := (show (fun (w' : World) => w'.cell? ⟨w.heap.size, 4, none⟩ = some (.slice A4 l4 c4)) w4.drew from r4)
  refine hK.out _ _ ⟨fun _ => hS0, fun _ => hS1, fun _ => hS2, fun _ => hS3, trivial⟩ ?_
  clear hK K
  try simp only [Act.put, List.setIfInBounds_toArray, List.set_cons_zero, List.set_cons_succ]
  refine headK_one (i := 17) (by kernel_rfl) rfl (fun K hK => ?_)
  go_simp
  have hS1 := (show (fun (w' : World) => w'.cell? ⟨w.heap.size, 2, none⟩ = some (.slice A2 l2 c2)) (w4.drew.setCell ⟨w.heap.size, 1, none⟩ (.slice A1 (min l1 12) c1)) from ((QA4.out.drew.put 1 (.slice A1 (min l1 12) c1))).cell 2)
  have hS2 := (show (fun (w' : World) => w'.cell? ⟨w.heap.size, 3, none⟩ = some (.slice A3 l3 c3)) (w4.drew.setCell ⟨w.heap.size, 1, none⟩ (.slice A1 (min l1 12) c1)) from ((QA4.out.drew.put 1 (.slice A1 (min l1 12) c1))).cell 3)
  have hS3 := (show (fun (w' : World) => w'.cell? ⟨w.heap.size, 4, none⟩ = some (.slice A4 l4 c4)) (w4.drew.setCell ⟨w.heap.size, 1, none⟩ (.slice A1 (min l1 12) c1)) from ((QA4.out.drew.put 1 (.slice A1 (min l1 12) c1))).cell 4)
  refine hK.out _ _ ⟨fun h => Bool.noConfusion (show true = false from h), fun _ => hS1, fun _ => hS2, fun _ => hS3, trivial⟩ ?_
  clear hK K
  try simp only [Act.put, List.setIfInBounds_toArray, List.set_cons_zero, List.set_cons_succ]
  refine headK_take (i := 18) (v := ?_) rfl (by kernel_rfl) (fun _ _ _ h => h) (fun _ _ _ h => passed_ready h.1) (Or.inl ⟨by rfl, ?hy14⟩) ⟨fun h => Bool.noConfusion (show true = false from h), fun _ => hS1, fun _ => hS2, fun _ => hS3, trivial⟩ ?rest14
  case hy14 => intro w _; go_simp; try (with_reducible rfl)
  case rest14 =>
  try simp only [Act.put, List.setIfInBounds_toArray, List.set_cons_zero, List.set_cons_succ]
  refine headK_one (i := 19) (by kernel_rfl) rfl (fun K hK => ?_)
  go_simp
  have hS2 := (show (fun (w' : World) => w'.cell? ⟨w.heap.size, 3, none⟩ = some (.slice A3 l3 c3)) ((w4.drew.setCell ⟨w.heap.size, 1, none⟩ (.slice A1 (min l1 12) c1)).setCell ⟨w.heap.size, 2, none⟩ (.slice A2 (min l2 12) c2)) from (((QA4.out.drew.put 1 (.slice A1 (min l1 12) c1)).put 2 (.slice A2 (min l2 12) c2))).cell 3)
  have hS3 := (show (fun (w' : World) => w'.cell? ⟨w.heap.size, 4, none⟩ = some (.slice A4 l4 c4)) ((w4.drew.setCell ⟨w.heap.size, 1, none⟩ (.slice A1 (min l1 12) c1)).setCell ⟨w.heap.size, 2, none⟩ (.slice A2 (min l2 12) c2)) from (((QA4.out.drew.put 1 (.slice A1 (min l1 12) c1)).put 2 (.slice A2 (min l2 12) c2))).cell 4)
  refine hK.out _ _ ⟨fun h => Bool.noConfusion (show true = false from h), fun h => Bool.noConfusion (show true = false from h), fun _ => hS2, fun _ => hS3, trivial⟩ ?_
  clear hK K
  try simp only [Act.put, List.setIfInBounds_toArray, List.set_cons_zero, List.set_cons_succ]
  refine headK_take (i := 20) (v := ?_) rfl (by kernel_rfl) (fun _ _ _ h => h) (fun _ _ _ h => passed_ready h.1) (Or.inl ⟨by rfl, ?hy15⟩) ⟨fun h => Bool.noConfusion (show true = false from h), fun h => Bool.noConfusion (show true = false from h), fun _ => hS2, fun _ => hS3, trivial⟩ ?rest15
  case hy15 => intro w _; go_simp; try (with_reducible rfl)
  case rest15 =>
  try simp only [Act.put, List.setIfInBounds_toArray, List.set_cons_zero, List.set_cons_succ]
  refine headK_one (i := 21) (by kernel_rfl) rfl (fun K hK => ?_)
  go_simp
  have hS3 := (show (fun (w' : World) => w'.cell? ⟨w.heap.size, 4, none⟩ = some (.slice A4 l4 c4)) (((w4.drew.setCell ⟨w.heap.size, 1, none⟩ (.slice A1 (min l1 12) c1)).setCell ⟨w.heap.size, 2, none⟩ (.slice A2 (min l2 12) c2)).setCell ⟨w.heap.size, 3, none⟩ (.slice A3 (min l3 12) c3)) from ((((QA4.out.drew.put 1 (.slice A1 (min l1 12) c1)).put 2 (.slice A2 (min l2 12) c2)).put 3 (.slice A3 (min l3 12) c3))).cell 4)
  refine hK.out _ _ ⟨fun h => Bool.noConfusion (show true = false from h), fun h => Bool.noConfusion (show true = false from h), fun h => Bool.noConfusion (show true = false from h), fun _ => hS3, trivial⟩ ?_
  clear hK K
  try simp only [Act.put, List.setIfInBounds_toArray, List.set_cons_zero, List.set_cons_succ]
  refine headK_take (i := 22) (v := ?_) rfl (by kernel_rfl) (fun _ _ _ h => h) (fun _ _ _ h => passed_ready h.1) (Or.inl ⟨by rfl, ?hy16⟩) ⟨fun h => Bool.noConfusion (show true = false from h), fun h => Bool.noConfusion (show true = false from h), fun h => Bool.noConfusion (show true = false from h), fun _ => hS3, trivial⟩ ?rest16
  case hy16 => intro w _; go_simp; try (with_reducible rfl)
  case rest16 =>
  try simp only [Act.put, List.setIfInBounds_toArray, List.set_cons_zero, List.set_cons_succ]
  refine headK_one (i := 23) (by kernel_rfl) rfl (fun K hK => ?_)
  go_simp
  refine hK.out _ _ ⟨fun h => Bool.noConfusion (show true = false from h), fun h => Bool.noConfusion (show true = false from h), fun h => Bool.noConfusion (show true = false from h), fun h => Bool.noConfusion (show true = false from h), trivial⟩ ?_
  clear hK K
  try simp only [Act.put, List.setIfInBounds_toArray, List.set_cons_zero, List.set_cons_succ]
  refine ⟨by kernel_rfl, ?_⟩
  refine wpAny_done (by kernel_rfl) ?_ _
  go_upto_region 4 with (fail)
  obtain ⟨w5, hw5⟩ : ∃ x, x = ((((w4.setCell ⟨w.heap.size, 1, none⟩ (.slice A1 (min l1 12) c1)).setCell ⟨w.heap.size, 2, none⟩ (.slice A2 (min l2 12) c2)).setCell ⟨w.heap.size, 3, none⟩ (.slice A3 (min l3 12) c3)).setCell ⟨w.heap.size, 4, none⟩ (.slice A4 (min l4 12) c4)).drew := ⟨_, rfl⟩
  have hg5' := grown_trans (grown_trans (grown_trans (grown_set w4 (w.heap.size) 1 (.slice A1 (min l1 12) c1)) (grown_set _ (w.heap.size) 2 (.slice A2 (min l2 12) c2))) (grown_set _ (w.heap.size) 3 (.slice A3 (min l3 12) c3))) (grown_set _ (w.heap.size) 4 (.slice A4 (min l4 12) c4))
  have hg5 : w4.grownBy w5 (some (w.heap.size)) := by rw [hw5]; exact ⟨hg5'.os, hg5'.tape, hg5'.output, hg5'.size, hg5'.block⟩
  have QA5 := Lib.hid (show Box w5 (w.heap.size) 26 #[.slice B0 (min l0 10) d0, .slice A1 (min l1 12) c1, .slice A2 (min l2 12) c2, .slice A3 (min l3 12) c3, .slice A4 (min l4 12) c4, .slice A5 l5 c5] by rw [hw5]; exact (((((QA4.out.put 1 (.slice A1 (min l1 12) c1)).put 2 (.slice A2 (min l2 12) c2)).put 3 (.slice A3 (min l3 12) c3)).put 4 (.slice A4 (min l4 12) c4))).drew)
  have QZ5 := Lib.hid (Box.grown QZ4.out hg5 (fun e => by injection e with e; omega))
  have S5 := Lib.hid (S4.out.kept QA4.out (by decide) hg5)
  have HB5 := Lib.hid (show Below w.heap.size w w5 by rw [hw5]; exact (((((HB4.out.setCell (p := ⟨w.heap.size, 1, none⟩) (Nat.le_refl _) (.slice A1 (min l1 12) c1)).setCell (p := ⟨w.heap.size, 2, none⟩) (Nat.le_refl _) (.slice A2 (min l2 12) c2)).setCell (p := ⟨w.heap.size, 3, none⟩) (Nat.le_refl _) (.slice A3 (min l3 12) c3)).setCell (p := ⟨w.heap.size, 4, none⟩) (Nat.le_refl _) (.slice A4 (min l4 12) c4))).drew)
  rw [← hw5]
  clear hw5 hg5 hg5' QA4 QZ4 S4 HB4 K1 K2 K3 K4 f1 f2 f3 f4 r0 r1 r2 r3 r4 r5
  obtain ⟨kk, hk⟩ : ∃ k, k = min l5 6 := ⟨_, rfl⟩
  have HKL := Lib.hid (show kk ≤ l5 by omega)
  have k1 : (kk : Int) ≤ (c5 : Int) := by omega
  have k2 : (0 : Int) ≤ (kk : Int) := by omega
  have hm2 : min (l5 : Int) 6 = (kk : Int) := by omega
  have HCT := Lib.hid (show (s.ch.take 6).map (·.take 12) = (s.ch.take kk).map (·.take 12) by
    by_cases q : l5 ≤ 6
    · rw [List.take_of_length_le (by rw [L5.out]; omega), List.take_of_length_le (by rw [L5.out]; omega)]
    · rw [show kk = 6 by omega])
  have hk6 : kk ≤ 6 := by omega
  obtain ⟨r0, r1, r2, r3, r4, r5⟩ := QA5.out.six
  cases A5 with
  | none =>
    obtain ⟨rfl, rfl⟩ := t3 rfl
    obtain rfl : kk = 0 := by omega
    clear hk k1 k2 hm2 hk6 t1 t2 t3
    go_wp2_with fail
    clear r0 r1 r2 r3 r4 r5
    go_loopw [4, 39] (fun v t wr => ∃ i : Nat, i ≤ 0 ∧ t = .int .i64 (i : Int) ∧ Hid (SpR Ints 23 (w.heap.size + 2) w0 wr v ((s.ch.take i).map (·.take 12))) ∧ Hid (SpR Inss 55 (w.heap.size + 2) w0 wr (.slice B0 (min l0 10) d0) (rowsT s.th)) ∧ Hid (Box wr (w.heap.size) 26 #[.slice B0 (min l0 10) d0, .slice A1 (min l1 12) c1, .slice A2 (min l2 12) c2, .slice A3 (min l3 12) c3, .slice A4 (min l4 12) c4, .slice none 0 0]) ∧ Hid (Box wr (w.heap.size + 1) 26 #[.slice none 0 0, .slice none 0 0, .slice none 0 0, .slice none 0 0, .slice none 0 0, .slice none 0 0]) ∧ Hid (Below w.heap.size w wr)) (fun _ t _ => 0 - (Go.RowKit.intOf t).toNat)
    case atStart => exact ⟨0, Nat.zero_le _, rfl, Lib.hid ⟨[], rfl, World.ownsRow_nil _ _ _ _, fun j hj => by simp at hj⟩, S5, QA5, QZ5, HB5⟩
    case round =>
      obtain ⟨i, hi, rfl, HO, S6, QA6, QZ6, HB6⟩ := hrel
      obtain ⟨W, hW⟩ : ∃ x : World, x = wr := ⟨_, rfl⟩
      subst hW
      clear S5 QA5 QZ5 HB5
      obtain rfl : i = 0 := by omega
      obtain ⟨rs, hr1, hr2, -⟩ := HO.out
      have hln : ((s.ch.take 0).map (·.take 12)).length = 0 := by rw [List.length_map, List.length_take, L5.out]; have := HKL.out; omega
      obtain ⟨A', c', rfl, hA'⟩ := own_form hr2
      rw [hln] at *
      have HO2 := Lib.hid (show SpR Ints 23 (w.heap.size + 2) w0 W (.slice A' 0 c') ((s.ch.take 0).map (·.take 12)) from HO.out)
      clear hr1 hr2 HO hln
      have HLn := Lib.hid (show ((s.ch.take 0).map (·.take 12)).length = 0 by rw [List.length_map, List.length_take, L5.out]; have := HKL.out; omega)
      obtain ⟨r0, r1, r2, r3, r4, r5⟩ := QA6.out.six
      have f5 := QA6.out.free 5
      go_upto_region 11 with (fail)
      clear r0 r1 r2 r3 r4 r5 f5
      obtain ⟨w7, hw7⟩ : ∃ x, x = W.setCell ⟨w.heap.size, 5, none⟩ (.slice A' 0 c') := ⟨_, rfl⟩
      have hg7 : W.grownBy w7 (some (w.heap.size)) := by rw [hw7]; exact grown_set W _ _ _
      have QA7 := Lib.hid (show Box w7 (w.heap.size) 26 #[.slice B0 (min l0 10) d0, .slice A1 (min l1 12) c1, .slice A2 (min l2 12) c2, .slice A3 (min l3 12) c3, .slice A4 (min l4 12) c4, .slice A' 0 c'] by rw [hw7]; exact QA6.out.put 5 _)
      have QZ7 := Lib.hid (Box.grown QZ6.out hg7 (fun e => by injection e with e; omega))
      have S7 := Lib.hid (S6.out.kept QA6.out (by decide) hg7)
      have C7 := Lib.hid (HO2.out.kept QA6.out (by decide) hg7)
      have HB7 := Lib.hid (show Below w.heap.size w w7 by rw [hw7]; exact HB6.out.setCell (p := ⟨w.heap.size, 5, none⟩) (Nat.le_refl _) _)
      rw [← hw7]
      clear hw7 hg7 QA6 QZ6 S6 HO2 HB6
      have hgf := set6_grown w7 (w.heap.size + 1) (.slice B0 (min l0 10) d0) (.slice A1 (min l1 12) c1) (.slice A2 (min l2 12) c2) (.slice A3 (min l3 12) c3) (.slice A4 (min l4 12) c4) (.slice A' 0 c')
      have SF := Lib.hid (S7.out.kept QZ7.out (by decide) hgf)
      have CF := Lib.hid (C7.out.kept QZ7.out (by decide) hgf)
      have RF := Lib.hid (((((((QZ7.out.put 0 (.slice B0 (min l0 10) d0)).put 1 (.slice A1 (min l1 12) c1)).put 2 (.slice A2 (min l2 12) c2)).put 3 (.slice A3 (min l3 12) c3)).put 4 (.slice A4 (min l4 12) c4)).put 5 (.slice A' 0 c')))
      have BF := Lib.hid (((((((HB7.out.setCell (p := ⟨w.heap.size + 1, 0, none⟩) (Nat.le_succ _) (.slice B0 (min l0 10) d0)).setCell (p := ⟨w.heap.size + 1, 1, none⟩) (Nat.le_succ _) (.slice A1 (min l1 12) c1)).setCell (p := ⟨w.heap.size + 1, 2, none⟩) (Nat.le_succ _) (.slice A2 (min l2 12) c2)).setCell (p := ⟨w.heap.size + 1, 3, none⟩) (Nat.le_succ _) (.slice A3 (min l3 12) c3)).setCell (p := ⟨w.heap.size + 1, 4, none⟩) (Nat.le_succ _) (.slice A4 (min l4 12) c4)).setCell (p := ⟨w.heap.size + 1, 5, none⟩) (Nat.le_succ _) (.slice A' 0 c')))
      clear hgf
      obtain ⟨r0, r1, r2, r3, r4, r5⟩ := QA7.out.six
      obtain ⟨m0, m1, m2, m3, m4, m5⟩ := QZ7.out.six
      have f0 := QZ7.out.free 0
      have f1 := QZ7.out.free 1
      have f2 := QZ7.out.free 2
      have f3 := QZ7.out.free 3
      have f4 := QZ7.out.free 4
      have f5 := QZ7.out.free 5
      go_wp2_with fail
      refine close_one Try.results9 rfl rfl RF.out Try.underlying26 rfl (by kernel_rfl) ?_
      obtain ⟨p1, p2, p3, p4⟩ := HP.out
      obtain ⟨s1, s2, s3, s4⟩ := HSk.out
      refine ⟨_, rfl, ⟨_, _, _, _, _, _, _, _, _, _, _, _, _, _, _, _, _, _, rfl, ⟨s1.cut, s2.cut, s3.cut, s4.cut⟩, ⟨p1.cut, p2.cut, p3.cut, p4.cut⟩, SF.out.lower (Nat.le_add_right _ _), HL0.out, ?_, ?_⟩, BF.out⟩
      · show SpR Ints 23 w.heap.size w0 _ _ ((s.ch.take 6).map (·.take 12))
        rw [HCT.out]
        exact CF.out.lower (Nat.le_add_right _ _)
      · show ((s.ch.take 6).map (·.take 12)).length = 0
        rw [HCT.out]
        exact HLn.out
  | some ad =>
    clear hk t1 t2 t3
    go_wp2_with fail
    clear r0 r1 r2 r3 r4 r5
    go_loopw [4, 39] (fun v t wr => ∃ i : Nat, i ≤ kk ∧ t = .int .i64 (i : Int) ∧ Hid (SpR Ints 23 (w.heap.size + 2) w0 wr v ((s.ch.take i).map (·.take 12))) ∧ Hid (SpR Inss 55 (w.heap.size + 2) w0 wr (.slice B0 (min l0 10) d0) (rowsT s.th)) ∧ Hid (Box wr (w.heap.size) 26 #[.slice B0 (min l0 10) d0, .slice A1 (min l1 12) c1, .slice A2 (min l2 12) c2, .slice A3 (min l3 12) c3, .slice A4 (min l4 12) c4, .slice (some ad) l5 c5]) ∧ Hid (Box wr (w.heap.size + 1) 26 #[.slice none 0 0, .slice none 0 0, .slice none 0 0, .slice none 0 0, .slice none 0 0, .slice none 0 0]) ∧ Hid (Below w.heap.size w wr)) (fun _ t _ => kk - (Go.RowKit.intOf t).toNat)
    case atStart => exact ⟨0, Nat.zero_le _, rfl, Lib.hid ⟨[], rfl, World.ownsRow_nil _ _ _ _, fun j hj => by simp at hj⟩, S5, QA5, QZ5, HB5⟩
    case round =>
      obtain ⟨i, hi, rfl, HO, S6, QA6, QZ6, HB6⟩ := hrel
      obtain ⟨W, hW⟩ : ∃ x : World, x = wr := ⟨_, rfl⟩
      subst hW
      clear S5 QA5 QZ5 HB5
      by_cases hlt : i < kk
      · have hlt' : (i : Int) < (kk : Int) := by omega
        obtain ⟨b5, o5, B5, n5, d5, e5, hb5, c5, hs5, hx5⟩ := H5.out.at i (by have := HKL.out; omega)
        have e5' : ad = ⟨b5, o5, none⟩ := by injection e5
        subst e5'
        have c6 := ((HB0.out.trans (HB6.out.mono HB0.out.size)).cell (p := ⟨b5, o5 + i, none⟩) hb5).trans c5
        have HE := Lib.hid (rows_snoc s.ch 12 i (by rw [L5.out]; have := HKL.out; omega))
        have hel : ((s.ch.take i).map (·.take 12)).length ≤ i := by simp; omega
        obtain ⟨rs, hr1, hr2, hr3⟩ := HO.out
        have HR1 := Lib.hid hr1
        have HR2 := Lib.hid hr2
        have HR3 := Lib.hid hr3
        have N2 := Lib.hid (fun k hk => (hr2.lt k hk).1)
        have HCu := Lib.hid (KC.out B5 n5 d5 W hs5)
        have HS5 := Lib.hid hs5.cut
        have HX5 := Lib.hid hx5.cut
        obtain ⟨m, hm⟩ : ∃ m, m = min n5 12 := ⟨_, rfl⟩
        rw [← hm] at HCu HS5 HX5
        clear hr1 hr2 hr3 c5 hs5 hx5 hb5 e5 HO hm
        have ab : Below W.heap.size W (W.alloc (.cells #[.slice B5 m d5] 23)) := (Below.refl _ _).alloc (Nat.le_refl _) _
        have XO := Lib.hid (HR2.out.alloc (.cells #[.slice B5 m d5] 23))
        have hb2 : w.heap.size + 2 ≤ (W.alloc (.cells #[.slice B5 m d5] 23)).heap.size := by have := QZ6.out.lt; have := ab.size; omega
        have HB2 := Lib.hid hb2
        have S9 := Lib.hid (S6.out.keepB ab)
        have QA9 := Lib.hid (QA6.out.keep ab)
        have QZ9 := Lib.hid (QZ6.out.keep ab)
        have HB9 := Lib.hid (chain HB6.out ab)
        have NA := Lib.hid (own_ne XO.out QA9.out (by decide))
        have NZ := Lib.hid (own_ne XO.out QZ9.out (by decide))
        clear ab hb2
        go_wp2_with fail
        refine HCu.out.mono ?_
        rintro e x ⟨rfl, hx⟩
        obtain rfl := hx.symm
        go_wp2_with (at_builtin; go_loud (refine wpList_append_own _ rfl _ _ 24 rfl (w.heap.size + 2) 23 i0 (.slice none 0 0) 1 24 Try.underlying24 HI.out HZ0.out HZ1.out HZ2.out rfl (by decide) _ _ _ rfl XO.out ⟨W.heap.size, 0, none⟩ 1 1 [.slice B5 m d5] rfl rfl (cell_one_new _ _ _) (by simp [Value.oneCell']) (by simp only [maxLen]; omega) (by omega) HB2.out ?_); intro v' w2 hown' hgrow _; have SA := Lib.hid (S9.out.apart XO.out (by decide) hgrow); have QAa := Lib.hid (QA9.out.grown hgrow NA.out); have QZa := Lib.hid (QZ9.out.grown hgrow NZ.out); have HC2 := Lib.hid (HB9.out.grown hgrow HB9.out.size (fun k hk => by have := N2.out k hk; omega)); have HO2 := Lib.hid hown'; clear hown' hgrow)
        go_roundw
        case rel =>
          refine ⟨i + 1, by omega, by go_num, Lib.hid ?_, SA, QAa, QZa, HC2⟩
          rw [HE.out]
          exact SpR.snoc HR1.out HR3.out HS5.out HX5.out HO2.out
        case measure => simp [Go.RowKit.intOf] <;> omega
      · obtain rfl : kk = i := by omega
        have hlt' : ¬ (kk : Int) < (kk : Int) := by omega
        obtain ⟨rs, hr1, hr2, -⟩ := HO.out
        have hln : ((s.ch.take kk).map (·.take 12)).length = kk := by rw [List.length_map, List.length_take, L5.out]; have := HKL.out; omega
        obtain ⟨A', c', rfl, hA'⟩ := own_form hr2
        rw [hln] at *
        have HO2 := Lib.hid (show SpR Ints 23 (w.heap.size + 2) w0 W (.slice A' kk c') ((s.ch.take kk).map (·.take 12)) from HO.out)
        clear hr1 hr2 HO hln
        have HLn := Lib.hid (show ((s.ch.take kk).map (·.take 12)).length = kk by rw [List.length_map, List.length_take, L5.out]; have := HKL.out; omega)
        obtain ⟨r0, r1, r2, r3, r4, r5⟩ := QA6.out.six
        have f5 := QA6.out.free 5
        go_upto_region 11 with (fail)
        clear r0 r1 r2 r3 r4 r5 f5
        obtain ⟨w7, hw7⟩ : ∃ x, x = W.setCell ⟨w.heap.size, 5, none⟩ (.slice A' kk c') := ⟨_, rfl⟩
        have hg7 : W.grownBy w7 (some (w.heap.size)) := by rw [hw7]; exact grown_set W _ _ _
        have QA7 := Lib.hid (show Box w7 (w.heap.size) 26 #[.slice B0 (min l0 10) d0, .slice A1 (min l1 12) c1, .slice A2 (min l2 12) c2, .slice A3 (min l3 12) c3, .slice A4 (min l4 12) c4, .slice A' kk c'] by rw [hw7]; exact QA6.out.put 5 _)
        have QZ7 := Lib.hid (Box.grown QZ6.out hg7 (fun e => by injection e with e; omega))
        have S7 := Lib.hid (S6.out.kept QA6.out (by decide) hg7)
        have C7 := Lib.hid (HO2.out.kept QA6.out (by decide) hg7)
        have HB7 := Lib.hid (show Below w.heap.size w w7 by rw [hw7]; exact HB6.out.setCell (p := ⟨w.heap.size, 5, none⟩) (Nat.le_refl _) _)
        rw [← hw7]
        clear hw7 hg7 QA6 QZ6 S6 HO2 HB6
        have hgf := set6_grown w7 (w.heap.size + 1) (.slice B0 (min l0 10) d0) (.slice A1 (min l1 12) c1) (.slice A2 (min l2 12) c2) (.slice A3 (min l3 12) c3) (.slice A4 (min l4 12) c4) (.slice A' kk c')
        have SF := Lib.hid (S7.out.kept QZ7.out (by decide) hgf)
        have CF := Lib.hid (C7.out.kept QZ7.out (by decide) hgf)
        have RF := Lib.hid (((((((QZ7.out.put 0 (.slice B0 (min l0 10) d0)).put 1 (.slice A1 (min l1 12) c1)).put 2 (.slice A2 (min l2 12) c2)).put 3 (.slice A3 (min l3 12) c3)).put 4 (.slice A4 (min l4 12) c4)).put 5 (.slice A' kk c')))
        have BF := Lib.hid (((((((HB7.out.setCell (p := ⟨w.heap.size + 1, 0, none⟩) (Nat.le_succ _) (.slice B0 (min l0 10) d0)).setCell (p := ⟨w.heap.size + 1, 1, none⟩) (Nat.le_succ _) (.slice A1 (min l1 12) c1)).setCell (p := ⟨w.heap.size + 1, 2, none⟩) (Nat.le_succ _) (.slice A2 (min l2 12) c2)).setCell (p := ⟨w.heap.size + 1, 3, none⟩) (Nat.le_succ _) (.slice A3 (min l3 12) c3)).setCell (p := ⟨w.heap.size + 1, 4, none⟩) (Nat.le_succ _) (.slice A4 (min l4 12) c4)).setCell (p := ⟨w.heap.size + 1, 5, none⟩) (Nat.le_succ _) (.slice A' kk c')))
        clear hgf
        obtain ⟨r0, r1, r2, r3, r4, r5⟩ := QA7.out.six
        obtain ⟨m0, m1, m2, m3, m4, m5⟩ := QZ7.out.six
        have f0 := QZ7.out.free 0
        have f1 := QZ7.out.free 1
        have f2 := QZ7.out.free 2
        have f3 := QZ7.out.free 3
        have f4 := QZ7.out.free 4
        have f5 := QZ7.out.free 5
        go_wp2_with fail
        refine close_one Try.results9 rfl rfl RF.out Try.underlying26 rfl (by kernel_rfl) ?_
        obtain ⟨p1, p2, p3, p4⟩ := HP.out
        obtain ⟨s1, s2, s3, s4⟩ := HSk.out
        refine ⟨_, rfl, ⟨_, _, _, _, _, _, _, _, _, _, _, _, _, _, _, _, _, _, rfl, ⟨s1.cut, s2.cut, s3.cut, s4.cut⟩, ⟨p1.cut, p2.cut, p3.cut, p4.cut⟩, SF.out.lower (Nat.le_add_right _ _), HL0.out, ?_, ?_⟩, BF.out⟩
        · show SpR Ints 23 w.heap.size w0 _ _ ((s.ch.take 6).map (·.take 12))
          rw [HCT.out]
          exact CF.out.lower (Nat.le_add_right _ _)
        · show ((s.ch.take 6).map (·.take 12)).length = kk
          rw [HCT.out]
          exact HLn.out
end Go.Proofs.Ytcamoigcfiemhaa
