/- ObjectOpens: the walk. -/
import Derived.Test.YtcikoaeiopbbbaaObD
import Derived.Test.YtcikoaeiopbbbaaKTail
import Derived.Test.YtcikoaeiopbbbaaHTail
namespace Go.Proofs.Ytcikoaeiopbbbaa
set_option linter.unusedVariables false
set_option linter.unusedSimpArgs false
open Go.RowKit Go.Lib
set_option maxRecDepth 100000
theorem open_nil (c : CallR) : (openO c).2.2.2 = [] := by unfold openO; split <;> (try split) <;> rfl
theorem W3_gen (a b c : Array Value) (W : World) : Box (((W.alloc (.cells a 27)).alloc (.cells b 27)).alloc (.cells c 31)) W.heap.size 27 a ∧ Box (((W.alloc (.cells a 27)).alloc (.cells b 27)).alloc (.cells c 31)) (W.heap.size + 1) 27 b ∧ Box (((W.alloc (.cells a 27)).alloc (.cells b 27)).alloc (.cells c 31)) (W.heap.size + 1 + 1) 31 c ∧ Below W.heap.size W (((W.alloc (.cells a 27)).alloc (.cells b 27)).alloc (.cells c 31)) := by
  refine ⟨((Box.new W _ _).alloc _).alloc _, ?_, ?_, (((Below.refl _ _).alloc (Nat.le_refl _) _).alloc (by simp) _).alloc (by simp; omega) _⟩
  · have q := (Box.new (W.alloc (.cells a 27)) 27 b).alloc (.cells c 31)
    simpa only [World.size_alloc] using q
  · have q := Box.new ((W.alloc (.cells a 27)).alloc (.cells b 27)) 31 c
    simpa only [World.size_alloc] using q
theorem Box.nineO {w : World} {g : Nat} {t : TypeId} {a b c d e f u v x : Value} (h : Box w g t #[a, b, c, d, e, f, u, v, x]) : w.cell? ⟨g, 0, none⟩ = some a ∧ w.cell? ⟨g, 1, none⟩ = some b ∧ w.cell? ⟨g, 2, none⟩ = some c ∧ w.cell? ⟨g, 3, none⟩ = some d ∧ w.cell? ⟨g, 4, none⟩ = some e ∧ w.cell? ⟨g, 5, none⟩ = some f ∧ w.cell? ⟨g, 6, none⟩ = some u ∧ w.cell? ⟨g, 7, none⟩ = some v ∧ w.cell? ⟨g, 8, none⟩ = some x := ⟨h.cell 0, h.cell 1, h.cell 2, h.cell 3, h.cell 4, h.cell 5, h.cell 6, h.cell 7, h.cell 8⟩
set_option maxHeartbeats 16000000 in
theorem opens18_any (a : ObR) (A1 : Option Addr) (d1 : Nat) (b : ObR) (A2 : Option Addr) (d2 : Nat) (c : CallR) (W : World) (ha : ObAt W (.agg (obA a A1 d1)) a) (hb : ObAt W (.agg (obA b A2 d2)) b) :
    Calls Try.prog 3 #[.agg (obA a A1 d1), .agg (obA b A2 d2), callV c] W fun e w' => e = .returned (.bool true) ∧ Below W.heap.size W w' := by
  obtain ⟨q0, q1, q2, b3⟩ := W3_gen (obA a A1 d1) (obA b A2 d2) (callL c).toArray W
  have QA := Lib.hid q0
  have QB := Lib.hid q1
  have QC := Lib.hid q2
  have HB := Lib.hid b3
  have H1 := Lib.hid (fun wy => few18_any (.agg (obA a A1 d1)) a W wy ha)
  have H2 := Lib.hid (fun wy => few18_any (.agg (obA b A2 d2)) b W wy hb)
  obtain ⟨fa, hfa⟩ : ∃ y, y = fewO a := ⟨_, rfl⟩
  obtain ⟨fb, hfb⟩ : ∃ y, y = fewO b := ⟨_, rfl⟩
  rw [← hfa] at H1
  rw [← hfb] at H2
  have HN := Lib.hid (open_nil c)
  have HP := Lib.hid (fun w => oopen_any c w)
  have HR := Lib.hid (fun w => ropen_any c w)
  obtain ⟨oO, hoO⟩ : ∃ y, y = (openO c).1 := ⟨_, rfl⟩
  obtain ⟨rO, hrO⟩ : ∃ y, y = (openO c).2 := ⟨_, rfl⟩
  rw [← hoO, ← hrO] at HP HR
  rw [← hrO] at HN
  clear q0 q1 q2 b3 ha hb hfa hfb hoO hrO
  obtain ⟨r0, r1, r2, r3, r4, r5⟩ := QA.out.sixO
  obtain ⟨s0, s1, s2, s3, s4, s5⟩ := QB.out.sixO
  go_enter Try.func3, Try.ntmps3
  go_upto_region 1 with (fail)
  go_cut [] (fun wx => ∃ A3 d3 A4 d4, Hid (Box wx W.heap.size 27 (obA fa A3 d3)) ∧ Hid (Box wx (W.heap.size + 1) 27 (obA fb A4 d4)) ∧ Hid (Box wx (W.heap.size + 1 + 1) 31 (callL c).toArray) ∧ Hid (ObAt wx (.agg (obA fa A3 d3)) fa) ∧ Hid (ObAt wx (.agg (obA fb A4 d4)) fb) ∧ Hid (Below W.heap.size W wx))
  case first =>
    refine wp_heldK_bar [(4, (fun (w' : World) => w'.cell? ⟨W.heap.size, 0, none⟩ = some (.int .u64 (a.1 : Nat)) ∧ w'.cell? ⟨W.heap.size, 1, none⟩ = some (.int .i64 a.2.1.1) ∧ w'.cell? ⟨W.heap.size, 2, none⟩ = some (.int .i64 a.2.1.2.1) ∧ w'.cell? ⟨W.heap.size, 3, none⟩ = some (.int .i64 a.2.1.2.2.1) ∧ w'.cell? ⟨W.heap.size, 4, none⟩ = some (.slice A1 a.2.1.2.2.2.length d1) ∧ w'.cell? ⟨W.heap.size, 5, none⟩ = some (.int .i64 a.2.2))), (5, (fun (w' : World) => w'.cell? ⟨W.heap.size + 1, 0, none⟩ = some (.int .u64 (b.1 : Nat)) ∧ w'.cell? ⟨W.heap.size + 1, 1, none⟩ = some (.int .i64 b.2.1.1) ∧ w'.cell? ⟨W.heap.size + 1, 2, none⟩ = some (.int .i64 b.2.1.2.1) ∧ w'.cell? ⟨W.heap.size + 1, 3, none⟩ = some (.int .i64 b.2.1.2.2.1) ∧ w'.cell? ⟨W.heap.size + 1, 4, none⟩ = some (.slice A2 b.2.1.2.2.2.length d2) ∧ w'.cell? ⟨W.heap.size + 1, 5, none⟩ = some (.int .i64 b.2.2)))] 6 (by kernel_rfl) (by decide) ?_
    have hS0 := (show ((fun (w' : World) => w'.cell? ⟨W.heap.size, 0, none⟩ = some (.int .u64 (a.1 : Nat)) ∧ w'.cell? ⟨W.heap.size, 1, none⟩ = some (.int .i64 a.2.1.1) ∧ w'.cell? ⟨W.heap.size, 2, none⟩ = some (.int .i64 a.2.1.2.1) ∧ w'.cell? ⟨W.heap.size, 3, none⟩ = some (.int .i64 a.2.1.2.2.1) ∧ w'.cell? ⟨W.heap.size, 4, none⟩ = some (.slice A1 a.2.1.2.2.2.length d1) ∧ w'.cell? ⟨W.heap.size, 5, none⟩ = some (.int .i64 a.2.2))) (((W.alloc (.cells (obA a A1 d1) 27)).alloc (.cells (obA b A2 d2) 27)).alloc (.cells (callL c).toArray 31)).drew from ⟨r0, r1, r2, r3, r4, r5⟩)
    have hS1 := (show ((fun (w' : World) => w'.cell? ⟨W.heap.size + 1, 0, none⟩ = some (.int .u64 (b.1 : Nat)) ∧ w'.cell? ⟨W.heap.size + 1, 1, none⟩ = some (.int .i64 b.2.1.1) ∧ w'.cell? ⟨W.heap.size + 1, 2, none⟩ = some (.int .i64 b.2.1.2.1) ∧ w'.cell? ⟨W.heap.size + 1, 3, none⟩ = some (.int .i64 b.2.1.2.2.1) ∧ w'.cell? ⟨W.heap.size + 1, 4, none⟩ = some (.slice A2 b.2.1.2.2.2.length d2) ∧ w'.cell? ⟨W.heap.size + 1, 5, none⟩ = some (.int .i64 b.2.2))) (((W.alloc (.cells (obA a A1 d1) 27)).alloc (.cells (obA b A2 d2) 27)).alloc (.cells (callL c).toArray 31)).drew from ⟨s0, s1, s2, s3, s4, s5⟩)
    refine headK_load 0 4 _ rfl (i := 0) (v := ?_) rfl (by kernel_rfl) (fun _ _ _ h => h) (fun _ _ _ h => passed_ready h.1) (Or.inl ⟨by rfl, ?hy1⟩) ⟨fun _ => hS0, fun _ => hS1, trivial⟩ ?rest1
    case hy1 => intro w hSw; (try dsimp only at hSw); obtain ⟨hc0, hc1, hc2, hc3, hc4, hc5⟩ := hSw; go_simp; try (with_reducible rfl)
    case rest1 =>
    try simp only [Act.put, List.setIfInBounds_toArray, List.set_cons_zero, List.set_cons_succ]
    refine headK_load 1 5 _ rfl (i := 2) (v := ?_) rfl (by kernel_rfl) (fun _ _ _ h => h) (fun _ _ _ h => passed_ready h.1) (Or.inl ⟨by rfl, ?hy2⟩) ⟨fun _ => hS0, fun _ => hS1, trivial⟩ ?rest2
    case hy2 => intro w hSw; (try dsimp only at hSw); obtain ⟨hc0, hc1, hc2, hc3, hc4, hc5⟩ := hSw; go_simp; try (with_reducible rfl)
    case rest2 =>
    try simp only [Act.put, List.setIfInBounds_toArray, List.set_cons_zero, List.set_cons_succ]
    refine headK_one (i := 1) (by kernel_rfl) rfl (fun K hK => ?_)
    go_simp
    refine (H1.out _).mono ?_
    rintro e1 y1 ⟨A3, d3, rfl, hs3, hx3, hb⟩
    have PA := Lib.hid (QA.out.drew.keep hb)
    have PB := Lib.hid (QB.out.drew.keep hb)
    have PC := Lib.hid (QC.out.drew.keep hb)
    have HB1 := Lib.hid (HB.out.drew.trans (hb.mono HB.out.size))
    have X3 := Lib.hid (And.intro hs3 hx3)
    clear hb hs3 hx3 hS0 hS1
    obtain ⟨a0, a1, a2, a3, a4, a5⟩ := PA.out.sixO
    obtain ⟨e0, e1, e2, e3, e4, e5⟩ := PB.out.sixO
    have hS0 := (show ((fun (w' : World) => w'.cell? ⟨W.heap.size, 0, none⟩ = some (.int .u64 (a.1 : Nat)) ∧ w'.cell? ⟨W.heap.size, 1, none⟩ = some (.int .i64 a.2.1.1) ∧ w'.cell? ⟨W.heap.size, 2, none⟩ = some (.int .i64 a.2.1.2.1) ∧ w'.cell? ⟨W.heap.size, 3, none⟩ = some (.int .i64 a.2.1.2.2.1) ∧ w'.cell? ⟨W.heap.size, 4, none⟩ = some (.slice A1 a.2.1.2.2.2.length d1) ∧ w'.cell? ⟨W.heap.size, 5, none⟩ = some (.int .i64 a.2.2))) y1 from ⟨a0, a1, a2, a3, a4, a5⟩)
    have hS1 := (show ((fun (w' : World) => w'.cell? ⟨W.heap.size + 1, 0, none⟩ = some (.int .u64 (b.1 : Nat)) ∧ w'.cell? ⟨W.heap.size + 1, 1, none⟩ = some (.int .i64 b.2.1.1) ∧ w'.cell? ⟨W.heap.size + 1, 2, none⟩ = some (.int .i64 b.2.1.2.1) ∧ w'.cell? ⟨W.heap.size + 1, 3, none⟩ = some (.int .i64 b.2.1.2.2.1) ∧ w'.cell? ⟨W.heap.size + 1, 4, none⟩ = some (.slice A2 b.2.1.2.2.2.length d2) ∧ w'.cell? ⟨W.heap.size + 1, 5, none⟩ = some (.int .i64 b.2.2))) y1 from ⟨e0, e1, e2, e3, e4, e5⟩)
    refine hK.out _ _ ⟨fun _ => hS0, fun _ => hS1, trivial⟩ ?_
    clear hK K
    try simp only [Act.put, List.setIfInBounds_toArray, List.set_cons_zero, List.set_cons_succ]
    refine headK_one (i := 3) (by kernel_rfl) rfl (fun K hK => ?_)
    go_simp
    refine (H2.out _).mono ?_
    rintro e1 y2 ⟨A4, d4, rfl, hs4, hx4, hb⟩
    have RA := Lib.hid (PA.out.keep hb)
    have RB := Lib.hid (PB.out.keep hb)
    have RC := Lib.hid (PC.out.keep hb)
    have HB2 := Lib.hid (HB1.out.trans (hb.mono HB1.out.size))
    have X4 := Lib.hid (And.intro hs4 hx4)
    clear hb hs4 hx4 hS0 hS1
    obtain ⟨a0, a1, a2, a3, a4, a5⟩ := RA.out.sixO
    obtain ⟨e0, e1, e2, e3, e4, e5⟩ := RB.out.sixO
    have fa0 := RA.out.free 0
    have fa1 := RA.out.free 1
    have fa2 := RA.out.free 2
    have fa3 := RA.out.free 3
    have fa4 := RA.out.free 4
    have fa5 := RA.out.free 5
    have fb0 := RB.out.free 0
    have fb1 := RB.out.free 1
    have fb2 := RB.out.free 2
    have fb3 := RB.out.free 3
    have fb4 := RB.out.free 4
    have fb5 := RB.out.free 5
    have hS0 := (show ((fun (w' : World) => w'.cell? ⟨W.heap.size, 0, none⟩ = some (.int .u64 (a.1 : Nat)) ∧ w'.cell? ⟨W.heap.size, 1, none⟩ = some (.int .i64 a.2.1.1) ∧ w'.cell? ⟨W.heap.size, 2, none⟩ = some (.int .i64 a.2.1.2.1) ∧ w'.cell? ⟨W.heap.size, 3, none⟩ = some (.int .i64 a.2.1.2.2.1) ∧ w'.cell? ⟨W.heap.size, 4, none⟩ = some (.slice A1 a.2.1.2.2.2.length d1) ∧ w'.cell? ⟨W.heap.size, 5, none⟩ = some (.int .i64 a.2.2))) y2 from ⟨a0, a1, a2, a3, a4, a5⟩)
    have hS1 := (show ((fun (w' : World) => w'.cell? ⟨W.heap.size + 1, 0, none⟩ = some (.int .u64 (b.1 : Nat)) ∧ w'.cell? ⟨W.heap.size + 1, 1, none⟩ = some (.int .i64 b.2.1.1) ∧ w'.cell? ⟨W.heap.size + 1, 2, none⟩ = some (.int .i64 b.2.1.2.1) ∧ w'.cell? ⟨W.heap.size + 1, 3, none⟩ = some (.int .i64 b.2.1.2.2.1) ∧ w'.cell? ⟨W.heap.size + 1, 4, none⟩ = some (.slice A2 b.2.1.2.2.2.length d2) ∧ w'.cell? ⟨W.heap.size + 1, 5, none⟩ = some (.int .i64 b.2.2))) y2 from ⟨e0, e1, e2, e3, e4, e5⟩)
    refine hK.out _ _ ⟨fun _ => hS0, fun _ => hS1, trivial⟩ ?_
    clear hK K
    try simp only [Act.put, List.setIfInBounds_toArray, List.set_cons_zero, List.set_cons_succ]
    refine headK_one (i := 4) (by kernel_rfl) rfl (fun K hK => ?_)
    go_simp
    have hS1 := (show ((fun (w' : World) => w'.cell? ⟨W.heap.size + 1, 0, none⟩ = some (.int .u64 (b.1 : Nat)) ∧ w'.cell? ⟨W.heap.size + 1, 1, none⟩ = some (.int .i64 b.2.1.1) ∧ w'.cell? ⟨W.heap.size + 1, 2, none⟩ = some (.int .i64 b.2.1.2.1) ∧ w'.cell? ⟨W.heap.size + 1, 3, none⟩ = some (.int .i64 b.2.1.2.2.1) ∧ w'.cell? ⟨W.heap.size + 1, 4, none⟩ = some (.slice A2 b.2.1.2.2.2.length d2) ∧ w'.cell? ⟨W.heap.size + 1, 5, none⟩ = some (.int .i64 b.2.2))) ((((((y2.setCell ⟨W.heap.size, 0, none⟩ (.int .u64 (fa.1 : Nat))).setCell ⟨W.heap.size, 1, none⟩ (.int .i64 fa.2.1.1)).setCell ⟨W.heap.size, 2, none⟩ (.int .i64 fa.2.1.2.1)).setCell ⟨W.heap.size, 3, none⟩ (.int .i64 fa.2.1.2.2.1)).setCell ⟨W.heap.size, 4, none⟩ (.slice A3 fa.2.1.2.2.2.length d3)).setCell ⟨W.heap.size, 5, none⟩ (.int .i64 fa.2.2)) from (RB.out.far6o (g' := W.heap.size) (by omega) (.int .u64 (fa.1 : Nat)) (.int .i64 fa.2.1.1) (.int .i64 fa.2.1.2.1) (.int .i64 fa.2.1.2.2.1) (.slice A3 fa.2.1.2.2.2.length d3) (.int .i64 fa.2.2)).sixO)
    refine hK.out _ _ ⟨fun h => Bool.noConfusion (show true = false from h), fun _ => hS1, trivial⟩ ?_
    clear hK K
    try simp only [Act.put, List.setIfInBounds_toArray, List.set_cons_zero, List.set_cons_succ]
    refine headK_one (i := 5) (by kernel_rfl) rfl (fun K hK => ?_)
    go_simp
    refine hK.out _ _ ⟨fun h => Bool.noConfusion (show true = false from h), fun h => Bool.noConfusion (show true = false from h), trivial⟩ ?_
    clear hK K
    try simp only [Act.put, List.setIfInBounds_toArray, List.set_cons_zero, List.set_cons_succ]
    refine ⟨by kernel_rfl, ?_⟩
    refine wpAny_done (by kernel_rfl) ?_ _
    go_wp2_with fail
    go_meet
    have HF := Lib.hid (below_set6o (below_set6o HB2.out (Nat.le_refl _) (.int .u64 (fa.1 : Nat)) (.int .i64 fa.2.1.1) (.int .i64 fa.2.1.2.1) (.int .i64 fa.2.1.2.2.1) (.slice A3 fa.2.1.2.2.2.length d3) (.int .i64 fa.2.2)) (show W.heap.size ≤ W.heap.size + 1 by omega) (.int .u64 (fb.1 : Nat)) (.int .i64 fb.2.1.1) (.int .i64 fb.2.1.2.1) (.int .i64 fb.2.1.2.2.1) (.slice A4 fb.2.1.2.2.2.length d4) (.int .i64 fb.2.2))
    exact ⟨A3, d3, A4, d4, Lib.hid (RA.out.put6o.far6o (by omega) (.int .u64 (fb.1 : Nat)) (.int .i64 fb.2.1.1) (.int .i64 fb.2.1.2.1) (.int .i64 fb.2.1.2.2.1) (.slice A4 fb.2.1.2.2.2.length d4) (.int .i64 fb.2.2)), Lib.hid ((RB.out.far6o (by omega) (.int .u64 (fa.1 : Nat)) (.int .i64 fa.2.1.1) (.int .i64 fa.2.1.2.1) (.int .i64 fa.2.1.2.2.1) (.slice A3 fa.2.1.2.2.2.length d3) (.int .i64 fa.2.2)).put6o), Lib.hid ((RC.out.far6o (by omega) (.int .u64 (fa.1 : Nat)) (.int .i64 fa.2.1.1) (.int .i64 fa.2.1.2.1) (.int .i64 fa.2.1.2.2.1) (.slice A3 fa.2.1.2.2.2.length d3) (.int .i64 fa.2.2)).far6o (by omega) (.int .u64 (fb.1 : Nat)) (.int .i64 fb.2.1.1) (.int .i64 fb.2.1.2.1) (.int .i64 fb.2.1.2.2.1) (.slice A4 fb.2.1.2.2.2.length d4) (.int .i64 fb.2.2)), Lib.hid ⟨A3, d3, rfl, X3.out.1, Recs.below X3.out.2 HF.out⟩, Lib.hid ⟨A4, d4, rfl, X4.out.1, Recs.below X4.out.2 HF.out⟩, HF⟩
  case rest =>
    obtain ⟨A3, d3, A4, d4, K0, K1, K2, SA, SB, K5⟩ := hcut
    clear QA QB QC HB H1 H2 r0 r1 r2 r3 r4 r5 s0 s1 s2 s3 s4 s5
    obtain ⟨wa, rfl⟩ : ∃ x : World, x = wc := ⟨_, rfl⟩
    obtain ⟨v0, v1, v2, v3, v4, v5, v6⟩ := K2.out.sevenO
    go_wp2_with fail
    refine (HP.out _).mono ?_
    rintro e w1 ⟨A5, d5, B5, c5, rfl, hs5, hx5, ht5, hc5, hm5, hb⟩
    have b1 : Below w1.heap.size w1 (w1.alloc (.cells (obA oO A5 d5) 27)) := (Below.refl _ _).alloc (Nat.le_refl _) _
    have b2 := b1.alloc b1.size (.cells #[.int .i64 rO.1, .int .i64 rO.2.1, .slice B5 rO.2.2.length c5] 36)
    have hb2 := chain hb b2
    have u1 := Box.new (w1.alloc (.cells (obA oO A5 d5) 27)) 36 #[.int .i64 rO.1, .int .i64 rO.2.1, .slice B5 rO.2.2.length c5]
    simp only [World.size_alloc] at u1
    have L0 := Lib.hid (K0.out.keep hb2)
    have L1 := Lib.hid (K1.out.keep hb2)
    have L2 := Lib.hid (K2.out.keep hb2)
    have LO := Lib.hid ((Box.new w1 27 (obA oO A5 d5)).alloc (.cells #[.int .i64 rO.1, .int .i64 rO.2.1, .slice B5 rO.2.2.length c5] 36))
    have LR := Lib.hid u1
    have TA := Lib.hid (SA.out.below hb2)
    have TB := Lib.hid (SB.out.below hb2)
    have TO := Lib.hid (show ObAt _ (.agg (obA oO A5 d5)) oO from ⟨A5, d5, rfl, hs5, Recs.below hx5 b2⟩)
    have TR := Lib.hid (show RpAt _ (.agg #[.int .i64 rO.1, .int .i64 rO.2.1, .slice B5 rO.2.2.length c5]) rO from ⟨B5, c5, rfl, ht5.below b2, hc5, hm5⟩)
    have HC := Lib.hid (K5.out.trans (hb2.mono K5.out.size))
    clear b1 b2 hb2 u1 hb hs5 hx5 ht5 hc5 hm5 HP SA SB K0 K1 K2 K5 v0 v1 v2 v3 v4 v5 v6
    obtain ⟨gO, hgO⟩ : ∃ y, y = w1.heap.size := ⟨_, rfl⟩
    rw [← hgO] at LO LR
    obtain ⟨wb, hwb⟩ : ∃ y, y = (w1.alloc (.cells (obA oO A5 d5) 27)).alloc (.cells #[.int .i64 rO.1, .int .i64 rO.2.1, .slice B5 rO.2.2.length c5] 36) := ⟨_, rfl⟩
    rw [← hwb] at L0 L1 L2 LO LR TA TB TO TR HC
    go_upto_region 3 with (fail)
    rw [← hgO, ← hwb]
    clear hgO hwb
    obtain ⟨v0, v1, v2, v3, v4, v5, v6⟩ := L2.out.sevenO
    go_wp2_with fail
    refine (HR.out _).mono ?_
    rintro e w3 ⟨A6, d6, B6, c6, rfl, hs6, hx6, ht6, hc6, hm6, hb⟩
    have b1 : Below w3.heap.size w3 (w3.alloc (.cells #[.int .u64 (oO.1 : Nat), .int .i64 oO.2.1.1, .int .i64 oO.2.1.2.1, .int .i64 oO.2.1.2.2.1, .slice A6 oO.2.1.2.2.2.length d6, .int .i64 oO.2.2, .int .i64 rO.1, .int .i64 rO.2.1, .slice B6 rO.2.2.length c6] 40)) := (Below.refl _ _).alloc (Nat.le_refl _) _
    have hb2 := chain hb b1
    have M0 := Lib.hid (L0.out.keep hb2)
    have M1 := Lib.hid (L1.out.keep hb2)
    have MO := Lib.hid (LO.out.keep hb2)
    have MR := Lib.hid (LR.out.keep hb2)
    have MD := Lib.hid (Box.new w3 40 #[.int .u64 (oO.1 : Nat), .int .i64 oO.2.1.1, .int .i64 oO.2.1.2.1, .int .i64 oO.2.1.2.2.1, .slice A6 oO.2.1.2.2.2.length d6, .int .i64 oO.2.2, .int .i64 rO.1, .int .i64 rO.2.1, .slice B6 rO.2.2.length c6])
    have UA := Lib.hid (TA.out.below hb2)
    have UB := Lib.hid (TB.out.below hb2)
    have UO := Lib.hid (TO.out.below hb2)
    have UR := Lib.hid (TR.out.below hb2)
    have VO := Lib.hid (show ObAt _ (.agg (obA oO A6 d6)) oO from ⟨A6, d6, rfl, hs6, Recs.below hx6 b1⟩)
    have VR := Lib.hid (show RpAt _ (.agg #[.int .i64 rO.1, .int .i64 rO.2.1, .slice B6 rO.2.2.length c6]) rO from ⟨B6, c6, rfl, ht6.below b1, hc6, hm6⟩)
    have HD := Lib.hid (HC.out.trans (hb2.mono HC.out.size))
    clear b1 hb2 hb hs6 hx6 ht6 hc6 hm6 HR TA TB TO TR L0 L1 L2 LO LR HC v0 v1 v2 v3 v4 v5 v6
    obtain ⟨gD, hgD⟩ : ∃ y, y = w3.heap.size := ⟨_, rfl⟩
    rw [← hgD] at MD
    obtain ⟨wd, hwd⟩ : ∃ y, y = w3.alloc (.cells #[.int .u64 (oO.1 : Nat), .int .i64 oO.2.1.1, .int .i64 oO.2.1.2.1, .int .i64 oO.2.1.2.2.1, .slice A6 oO.2.1.2.2.2.length d6, .int .i64 oO.2.2, .int .i64 rO.1, .int .i64 rO.2.1, .slice B6 rO.2.2.length c6] 40) := ⟨_, rfl⟩
    rw [← hwd] at M0 M1 MO MR MD UA UB UO UR VO VR HD
    go_upto_region 4 with (fail)
    rw [← hgD, ← hwd]
    clear hgD hwd
    obtain ⟨rB, hrB⟩ : ∃ b, b = rightO fa := ⟨_, rfl⟩
    obtain ⟨lB, hlB⟩ : ∃ b, b = likeO fa fb := ⟨_, rfl⟩
    have hlf : likeO fa fa = true := by unfold likeO; simp
    have hlo : likeO oO oO = true := by unfold likeO; simp
    have E0 := Lib.hid (fun w => alive18_any w)
    have E1 := Lib.hid (fun w (hw : Below wd.heap.size wd w) => osame_any _ oO _ oO w (UO.out.below hw) (VO.out.below hw))
    have E2 := Lib.hid (fun w (hw : Below wd.heap.size wd w) => replies_yes _ _ rO w (UR.out.below hw) (VR.out.below hw) (by rw [HN.out]; decide))
    have E3 := Lib.hid (fun w (hw : Below wd.heap.size wd w) => oright_any _ fa w (UA.out.below hw))
    have E4 := Lib.hid (fun w (hw : Below wd.heap.size wd w) => oright18_any _ fa w (UA.out.below hw))
    have E5 := Lib.hid (fun w (hw : Below wd.heap.size wd w) => olike_any _ fa _ fb w (UA.out.below hw) (UB.out.below hw))
    have E6 := Lib.hid (fun w (hw : Below wd.heap.size wd w) => osame_any _ fa _ fb w (UA.out.below hw) (UB.out.below hw))
    have E7 := Lib.hid (fun w (hw : Below wd.heap.size wd w) => olike_any _ fa _ fa w (UA.out.below hw) (UA.out.below hw))
    rw [hlo] at E1
    rw [hlf] at E7
    rw [← hrB] at E3 E4
    rw [← hlB] at E5 E6
    have tR : (rB == rB) = true := by simp
    have tL : (lB == lB) = true := by simp
    have BC := Lib.hid (Below.refl wd.heap.size wd).drew
    clear hlf hlo hrB hlB
    obtain ⟨r0, r1, r2, r3, r4, r5⟩ := (M0.out.keep BC.out).sixO
    obtain ⟨s0, s1, s2, s3, s4, s5⟩ := (M1.out.keep BC.out).sixO
    obtain ⟨o0, o1, o2, o3, o4, o5⟩ := (MO.out.keep BC.out).sixO
    obtain ⟨t0, t1, t2⟩ := (MR.out.keep BC.out).threeO
    obtain ⟨u0, u1, u2, u3, u4, u5, u6, u7, u8⟩ := (MD.out.keep BC.out).nineO
    refine wp_held_tail (S := (fun (w' : World) => w'.cell? ⟨W.heap.size, 0, none⟩ = some (.int .u64 (fa.1 : Nat)) ∧ w'.cell? ⟨W.heap.size, 1, none⟩ = some (.int .i64 fa.2.1.1) ∧ w'.cell? ⟨W.heap.size, 2, none⟩ = some (.int .i64 fa.2.1.2.1) ∧ w'.cell? ⟨W.heap.size, 3, none⟩ = some (.int .i64 fa.2.1.2.2.1) ∧ w'.cell? ⟨W.heap.size, 4, none⟩ = some (.slice A3 fa.2.1.2.2.2.length d3) ∧ w'.cell? ⟨W.heap.size, 5, none⟩ = some (.int .i64 fa.2.2) ∧ w'.cell? ⟨W.heap.size + 1, 0, none⟩ = some (.int .u64 (fb.1 : Nat)) ∧ w'.cell? ⟨W.heap.size + 1, 1, none⟩ = some (.int .i64 fb.2.1.1) ∧ w'.cell? ⟨W.heap.size + 1, 2, none⟩ = some (.int .i64 fb.2.1.2.1) ∧ w'.cell? ⟨W.heap.size + 1, 3, none⟩ = some (.int .i64 fb.2.1.2.2.1) ∧ w'.cell? ⟨W.heap.size + 1, 4, none⟩ = some (.slice A4 fb.2.1.2.2.2.length d4) ∧ w'.cell? ⟨W.heap.size + 1, 5, none⟩ = some (.int .i64 fb.2.2) ∧ w'.cell? ⟨gO, 0, none⟩ = some (.int .u64 (oO.1 : Nat)) ∧ w'.cell? ⟨gO, 1, none⟩ = some (.int .i64 oO.2.1.1) ∧ w'.cell? ⟨gO, 2, none⟩ = some (.int .i64 oO.2.1.2.1) ∧ w'.cell? ⟨gO, 3, none⟩ = some (.int .i64 oO.2.1.2.2.1) ∧ w'.cell? ⟨gO, 4, none⟩ = some (.slice A5 oO.2.1.2.2.2.length d5) ∧ w'.cell? ⟨gO, 5, none⟩ = some (.int .i64 oO.2.2) ∧ w'.cell? ⟨gO + 1, 0, none⟩ = some (.int .i64 rO.1) ∧ w'.cell? ⟨gO + 1, 1, none⟩ = some (.int .i64 rO.2.1) ∧ w'.cell? ⟨gO + 1, 2, none⟩ = some (.slice B5 rO.2.2.length c5) ∧ w'.cell? ⟨gD, 0, none⟩ = some (.int .u64 (oO.1 : Nat)) ∧ w'.cell? ⟨gD, 1, none⟩ = some (.int .i64 oO.2.1.1) ∧ w'.cell? ⟨gD, 2, none⟩ = some (.int .i64 oO.2.1.2.1) ∧ w'.cell? ⟨gD, 3, none⟩ = some (.int .i64 oO.2.1.2.2.1) ∧ w'.cell? ⟨gD, 4, none⟩ = some (.slice A6 oO.2.1.2.2.2.length d6) ∧ w'.cell? ⟨gD, 5, none⟩ = some (.int .i64 oO.2.2) ∧ w'.cell? ⟨gD, 6, none⟩ = some (.int .i64 rO.1) ∧ w'.cell? ⟨gD, 7, none⟩ = some (.int .i64 rO.2.1) ∧ w'.cell? ⟨gD, 8, none⟩ = some (.slice B6 rO.2.2.length c6))) 34 (by kernel_rfl) (by decide) ?_
    have hS := Lib.hid (show (fun (w' : World) => w'.cell? ⟨W.heap.size, 0, none⟩ = some (.int .u64 (fa.1 : Nat)) ∧ w'.cell? ⟨W.heap.size, 1, none⟩ = some (.int .i64 fa.2.1.1) ∧ w'.cell? ⟨W.heap.size, 2, none⟩ = some (.int .i64 fa.2.1.2.1) ∧ w'.cell? ⟨W.heap.size, 3, none⟩ = some (.int .i64 fa.2.1.2.2.1) ∧ w'.cell? ⟨W.heap.size, 4, none⟩ = some (.slice A3 fa.2.1.2.2.2.length d3) ∧ w'.cell? ⟨W.heap.size, 5, none⟩ = some (.int .i64 fa.2.2) ∧ w'.cell? ⟨W.heap.size + 1, 0, none⟩ = some (.int .u64 (fb.1 : Nat)) ∧ w'.cell? ⟨W.heap.size + 1, 1, none⟩ = some (.int .i64 fb.2.1.1) ∧ w'.cell? ⟨W.heap.size + 1, 2, none⟩ = some (.int .i64 fb.2.1.2.1) ∧ w'.cell? ⟨W.heap.size + 1, 3, none⟩ = some (.int .i64 fb.2.1.2.2.1) ∧ w'.cell? ⟨W.heap.size + 1, 4, none⟩ = some (.slice A4 fb.2.1.2.2.2.length d4) ∧ w'.cell? ⟨W.heap.size + 1, 5, none⟩ = some (.int .i64 fb.2.2) ∧ w'.cell? ⟨gO, 0, none⟩ = some (.int .u64 (oO.1 : Nat)) ∧ w'.cell? ⟨gO, 1, none⟩ = some (.int .i64 oO.2.1.1) ∧ w'.cell? ⟨gO, 2, none⟩ = some (.int .i64 oO.2.1.2.1) ∧ w'.cell? ⟨gO, 3, none⟩ = some (.int .i64 oO.2.1.2.2.1) ∧ w'.cell? ⟨gO, 4, none⟩ = some (.slice A5 oO.2.1.2.2.2.length d5) ∧ w'.cell? ⟨gO, 5, none⟩ = some (.int .i64 oO.2.2) ∧ w'.cell? ⟨gO + 1, 0, none⟩ = some (.int .i64 rO.1) ∧ w'.cell? ⟨gO + 1, 1, none⟩ = some (.int .i64 rO.2.1) ∧ w'.cell? ⟨gO + 1, 2, none⟩ = some (.slice B5 rO.2.2.length c5) ∧ w'.cell? ⟨gD, 0, none⟩ = some (.int .u64 (oO.1 : Nat)) ∧ w'.cell? ⟨gD, 1, none⟩ = some (.int .i64 oO.2.1.1) ∧ w'.cell? ⟨gD, 2, none⟩ = some (.int .i64 oO.2.1.2.1) ∧ w'.cell? ⟨gD, 3, none⟩ = some (.int .i64 oO.2.1.2.2.1) ∧ w'.cell? ⟨gD, 4, none⟩ = some (.slice A6 oO.2.1.2.2.2.length d6) ∧ w'.cell? ⟨gD, 5, none⟩ = some (.int .i64 oO.2.2) ∧ w'.cell? ⟨gD, 6, none⟩ = some (.int .i64 rO.1) ∧ w'.cell? ⟨gD, 7, none⟩ = some (.int .i64 rO.2.1) ∧ w'.cell? ⟨gD, 8, none⟩ = some (.slice B6 rO.2.2.length c6)) wd.drew from ⟨r0, r1, r2, r3, r4, r5, s0, s1, s2, s3, s4, s5, o0, o1, o2, o3, o4, o5, t0, t1, t2, u0, u1, u2, u3, u4, u5, u6, u7, u8⟩)
    replace hS := hS.out
    refine headH_one (i := 0) (by kernel_rfl) rfl (fun K hK => ?_)
    go_simp
    refine (E0.out _).mono ?_
    rintro e x1 ⟨rfl, hb⟩
    replace BC := Lib.hid (chain BC.out hb)
    clear hb r0 r1 r2 r3 r4 r5 s0 s1 s2 s3 s4 s5 o0 o1 o2 o3 o4 o5 t0 t1 t2 u0 u1 u2 u3 u4 u5 u6 u7 u8
    obtain ⟨r0, r1, r2, r3, r4, r5⟩ := (M0.out.keep BC.out).sixO
    obtain ⟨s0, s1, s2, s3, s4, s5⟩ := (M1.out.keep BC.out).sixO
    obtain ⟨o0, o1, o2, o3, o4, o5⟩ := (MO.out.keep BC.out).sixO
    obtain ⟨t0, t1, t2⟩ := (MR.out.keep BC.out).threeO
    obtain ⟨u0, u1, u2, u3, u4, u5, u6, u7, u8⟩ := (MD.out.keep BC.out).nineO
    refine hK.out _ _ (show (fun (w' : World) => w'.cell? ⟨W.heap.size, 0, none⟩ = some (.int .u64 (fa.1 : Nat)) ∧ w'.cell? ⟨W.heap.size, 1, none⟩ = some (.int .i64 fa.2.1.1) ∧ w'.cell? ⟨W.heap.size, 2, none⟩ = some (.int .i64 fa.2.1.2.1) ∧ w'.cell? ⟨W.heap.size, 3, none⟩ = some (.int .i64 fa.2.1.2.2.1) ∧ w'.cell? ⟨W.heap.size, 4, none⟩ = some (.slice A3 fa.2.1.2.2.2.length d3) ∧ w'.cell? ⟨W.heap.size, 5, none⟩ = some (.int .i64 fa.2.2) ∧ w'.cell? ⟨W.heap.size + 1, 0, none⟩ = some (.int .u64 (fb.1 : Nat)) ∧ w'.cell? ⟨W.heap.size + 1, 1, none⟩ = some (.int .i64 fb.2.1.1) ∧ w'.cell? ⟨W.heap.size + 1, 2, none⟩ = some (.int .i64 fb.2.1.2.1) ∧ w'.cell? ⟨W.heap.size + 1, 3, none⟩ = some (.int .i64 fb.2.1.2.2.1) ∧ w'.cell? ⟨W.heap.size + 1, 4, none⟩ = some (.slice A4 fb.2.1.2.2.2.length d4) ∧ w'.cell? ⟨W.heap.size + 1, 5, none⟩ = some (.int .i64 fb.2.2) ∧ w'.cell? ⟨gO, 0, none⟩ = some (.int .u64 (oO.1 : Nat)) ∧ w'.cell? ⟨gO, 1, none⟩ = some (.int .i64 oO.2.1.1) ∧ w'.cell? ⟨gO, 2, none⟩ = some (.int .i64 oO.2.1.2.1) ∧ w'.cell? ⟨gO, 3, none⟩ = some (.int .i64 oO.2.1.2.2.1) ∧ w'.cell? ⟨gO, 4, none⟩ = some (.slice A5 oO.2.1.2.2.2.length d5) ∧ w'.cell? ⟨gO, 5, none⟩ = some (.int .i64 oO.2.2) ∧ w'.cell? ⟨gO + 1, 0, none⟩ = some (.int .i64 rO.1) ∧ w'.cell? ⟨gO + 1, 1, none⟩ = some (.int .i64 rO.2.1) ∧ w'.cell? ⟨gO + 1, 2, none⟩ = some (.slice B5 rO.2.2.length c5) ∧ w'.cell? ⟨gD, 0, none⟩ = some (.int .u64 (oO.1 : Nat)) ∧ w'.cell? ⟨gD, 1, none⟩ = some (.int .i64 oO.2.1.1) ∧ w'.cell? ⟨gD, 2, none⟩ = some (.int .i64 oO.2.1.2.1) ∧ w'.cell? ⟨gD, 3, none⟩ = some (.int .i64 oO.2.1.2.2.1) ∧ w'.cell? ⟨gD, 4, none⟩ = some (.slice A6 oO.2.1.2.2.2.length d6) ∧ w'.cell? ⟨gD, 5, none⟩ = some (.int .i64 oO.2.2) ∧ w'.cell? ⟨gD, 6, none⟩ = some (.int .i64 rO.1) ∧ w'.cell? ⟨gD, 7, none⟩ = some (.int .i64 rO.2.1) ∧ w'.cell? ⟨gD, 8, none⟩ = some (.slice B6 rO.2.2.length c6)) x1 from ⟨r0, r1, r2, r3, r4, r5, s0, s1, s2, s3, s4, s5, o0, o1, o2, o3, o4, o5, t0, t1, t2, u0, u1, u2, u3, u4, u5, u6, u7, u8⟩) (fun hS => ?_)
    clear hK K
    refine headH_take (i := 1) (v := ?_) rfl (by kernel_rfl) (fun _ _ _ h => h) (fun _ _ _ h => seqB_ready h.1) (Or.inl ⟨by rfl, ?hy3⟩) hS ?rest3
    case hy3 => intro w hSw; (try dsimp only at hSw); obtain ⟨hc0, hc1, hc2, hc3, hc4, hc5, hc6, hc7, hc8, hc9, hc10, hc11, hc12, hc13, hc14, hc15, hc16, hc17, hc18, hc19, hc20, hc21, hc22, hc23, hc24, hc25, hc26, hc27, hc28, hc29⟩ := hSw; go_simp; try (with_reducible rfl)
    case rest3 =>
    try simp only [Act.put, List.setIfInBounds_toArray, List.set_cons_zero, List.set_cons_succ]
    refine headH_take (i := 2) (v := ?_) rfl (by kernel_rfl) (fun _ _ _ h => h) (fun _ _ _ h => seqB_ready h.1) (Or.inl ⟨by rfl, ?hy4⟩) hS ?rest4
    case hy4 => intro w hSw; (try dsimp only at hSw); obtain ⟨hc0, hc1, hc2, hc3, hc4, hc5, hc6, hc7, hc8, hc9, hc10, hc11, hc12, hc13, hc14, hc15, hc16, hc17, hc18, hc19, hc20, hc21, hc22, hc23, hc24, hc25, hc26, hc27, hc28, hc29⟩ := hSw; go_simp; try (with_reducible rfl)
    case rest4 =>
    try simp only [Act.put, List.setIfInBounds_toArray, List.set_cons_zero, List.set_cons_succ]
    refine headH_take (i := 3) (v := ?_) rfl (by kernel_rfl) (fun _ _ _ h => h) (fun _ _ _ h => seqB_ready h.1) (Or.inl ⟨by rfl, ?hy5⟩) hS ?rest5
    case hy5 => intro w hSw; (try dsimp only at hSw); obtain ⟨hc0, hc1, hc2, hc3, hc4, hc5, hc6, hc7, hc8, hc9, hc10, hc11, hc12, hc13, hc14, hc15, hc16, hc17, hc18, hc19, hc20, hc21, hc22, hc23, hc24, hc25, hc26, hc27, hc28, hc29⟩ := hSw; go_simp; try (with_reducible rfl)
    case rest5 =>
    try simp only [Act.put, List.setIfInBounds_toArray, List.set_cons_zero, List.set_cons_succ]
    refine headH_take (i := 4) (v := ?_) rfl (by kernel_rfl) (fun _ _ _ h => h) (fun _ _ _ h => seqB_ready h.1) (Or.inl ⟨by rfl, ?hy6⟩) hS ?rest6
    case hy6 => intro w hSw; (try dsimp only at hSw); obtain ⟨hc0, hc1, hc2, hc3, hc4, hc5, hc6, hc7, hc8, hc9, hc10, hc11, hc12, hc13, hc14, hc15, hc16, hc17, hc18, hc19, hc20, hc21, hc22, hc23, hc24, hc25, hc26, hc27, hc28, hc29⟩ := hSw; go_simp; try (with_reducible rfl)
    case rest6 =>
    try simp only [Act.put, List.setIfInBounds_toArray, List.set_cons_zero, List.set_cons_succ]
    refine headH_one (i := 5) (by kernel_rfl) rfl (fun K hK => ?_)
    go_simp
    refine (E1.out _ BC.out).mono ?_
    rintro e x2 ⟨rfl, hb⟩
    replace BC := Lib.hid (chain BC.out hb)
    clear hb r0 r1 r2 r3 r4 r5 s0 s1 s2 s3 s4 s5 o0 o1 o2 o3 o4 o5 t0 t1 t2 u0 u1 u2 u3 u4 u5 u6 u7 u8
    obtain ⟨r0, r1, r2, r3, r4, r5⟩ := (M0.out.keep BC.out).sixO
    obtain ⟨s0, s1, s2, s3, s4, s5⟩ := (M1.out.keep BC.out).sixO
    obtain ⟨o0, o1, o2, o3, o4, o5⟩ := (MO.out.keep BC.out).sixO
    obtain ⟨t0, t1, t2⟩ := (MR.out.keep BC.out).threeO
    obtain ⟨u0, u1, u2, u3, u4, u5, u6, u7, u8⟩ := (MD.out.keep BC.out).nineO
    refine hK.out _ _ (show (fun (w' : World) => w'.cell? ⟨W.heap.size, 0, none⟩ = some (.int .u64 (fa.1 : Nat)) ∧ w'.cell? ⟨W.heap.size, 1, none⟩ = some (.int .i64 fa.2.1.1) ∧ w'.cell? ⟨W.heap.size, 2, none⟩ = some (.int .i64 fa.2.1.2.1) ∧ w'.cell? ⟨W.heap.size, 3, none⟩ = some (.int .i64 fa.2.1.2.2.1) ∧ w'.cell? ⟨W.heap.size, 4, none⟩ = some (.slice A3 fa.2.1.2.2.2.length d3) ∧ w'.cell? ⟨W.heap.size, 5, none⟩ = some (.int .i64 fa.2.2) ∧ w'.cell? ⟨W.heap.size + 1, 0, none⟩ = some (.int .u64 (fb.1 : Nat)) ∧ w'.cell? ⟨W.heap.size + 1, 1, none⟩ = some (.int .i64 fb.2.1.1) ∧ w'.cell? ⟨W.heap.size + 1, 2, none⟩ = some (.int .i64 fb.2.1.2.1) ∧ w'.cell? ⟨W.heap.size + 1, 3, none⟩ = some (.int .i64 fb.2.1.2.2.1) ∧ w'.cell? ⟨W.heap.size + 1, 4, none⟩ = some (.slice A4 fb.2.1.2.2.2.length d4) ∧ w'.cell? ⟨W.heap.size + 1, 5, none⟩ = some (.int .i64 fb.2.2) ∧ w'.cell? ⟨gO, 0, none⟩ = some (.int .u64 (oO.1 : Nat)) ∧ w'.cell? ⟨gO, 1, none⟩ = some (.int .i64 oO.2.1.1) ∧ w'.cell? ⟨gO, 2, none⟩ = some (.int .i64 oO.2.1.2.1) ∧ w'.cell? ⟨gO, 3, none⟩ = some (.int .i64 oO.2.1.2.2.1) ∧ w'.cell? ⟨gO, 4, none⟩ = some (.slice A5 oO.2.1.2.2.2.length d5) ∧ w'.cell? ⟨gO, 5, none⟩ = some (.int .i64 oO.2.2) ∧ w'.cell? ⟨gO + 1, 0, none⟩ = some (.int .i64 rO.1) ∧ w'.cell? ⟨gO + 1, 1, none⟩ = some (.int .i64 rO.2.1) ∧ w'.cell? ⟨gO + 1, 2, none⟩ = some (.slice B5 rO.2.2.length c5) ∧ w'.cell? ⟨gD, 0, none⟩ = some (.int .u64 (oO.1 : Nat)) ∧ w'.cell? ⟨gD, 1, none⟩ = some (.int .i64 oO.2.1.1) ∧ w'.cell? ⟨gD, 2, none⟩ = some (.int .i64 oO.2.1.2.1) ∧ w'.cell? ⟨gD, 3, none⟩ = some (.int .i64 oO.2.1.2.2.1) ∧ w'.cell? ⟨gD, 4, none⟩ = some (.slice A6 oO.2.1.2.2.2.length d6) ∧ w'.cell? ⟨gD, 5, none⟩ = some (.int .i64 oO.2.2) ∧ w'.cell? ⟨gD, 6, none⟩ = some (.int .i64 rO.1) ∧ w'.cell? ⟨gD, 7, none⟩ = some (.int .i64 rO.2.1) ∧ w'.cell? ⟨gD, 8, none⟩ = some (.slice B6 rO.2.2.length c6)) x2 from ⟨r0, r1, r2, r3, r4, r5, s0, s1, s2, s3, s4, s5, o0, o1, o2, o3, o4, o5, t0, t1, t2, u0, u1, u2, u3, u4, u5, u6, u7, u8⟩) (fun hS => ?_)
    clear hK K
    refine headH_take (i := 6) (v := ?_) rfl (by kernel_rfl) (fun _ _ _ h => h) (fun _ _ _ h => seqB_ready h.1) (Or.inl ⟨by rfl, ?hy7⟩) hS ?rest7
    case hy7 => intro w hSw; (try dsimp only at hSw); obtain ⟨hc0, hc1, hc2, hc3, hc4, hc5, hc6, hc7, hc8, hc9, hc10, hc11, hc12, hc13, hc14, hc15, hc16, hc17, hc18, hc19, hc20, hc21, hc22, hc23, hc24, hc25, hc26, hc27, hc28, hc29⟩ := hSw; go_simp; try (with_reducible rfl)
    case rest7 =>
    try simp only [Act.put, List.setIfInBounds_toArray, List.set_cons_zero, List.set_cons_succ]
    refine headH_take (i := 7) (v := ?_) rfl (by kernel_rfl) (fun _ _ _ h => h) (fun _ _ _ h => seqB_ready h.1) (Or.inl ⟨by rfl, ?hy8⟩) hS ?rest8
    case hy8 => intro w hSw; (try dsimp only at hSw); obtain ⟨hc0, hc1, hc2, hc3, hc4, hc5, hc6, hc7, hc8, hc9, hc10, hc11, hc12, hc13, hc14, hc15, hc16, hc17, hc18, hc19, hc20, hc21, hc22, hc23, hc24, hc25, hc26, hc27, hc28, hc29⟩ := hSw; go_simp; try (with_reducible rfl)
    case rest8 =>
    try simp only [Act.put, List.setIfInBounds_toArray, List.set_cons_zero, List.set_cons_succ]
    refine headH_take (i := 8) (v := ?_) rfl (by kernel_rfl) (fun _ _ _ h => h) (fun _ _ _ h => seqB_ready h.1) (Or.inl ⟨by rfl, ?hy9⟩) hS ?rest9
    case hy9 => intro w hSw; (try dsimp only at hSw); obtain ⟨hc0, hc1, hc2, hc3, hc4, hc5, hc6, hc7, hc8, hc9, hc10, hc11, hc12, hc13, hc14, hc15, hc16, hc17, hc18, hc19, hc20, hc21, hc22, hc23, hc24, hc25, hc26, hc27, hc28, hc29⟩ := hSw; go_simp; try (with_reducible rfl)
    case rest9 =>
    try simp only [Act.put, List.setIfInBounds_toArray, List.set_cons_zero, List.set_cons_succ]
    refine headH_take (i := 9) (v := ?_) rfl (by kernel_rfl) (fun _ _ _ h => h) (fun _ _ _ h => seqB_ready h.1) (Or.inl ⟨by rfl, ?hy10⟩) hS ?rest10
    case hy10 => intro w hSw; (try dsimp only at hSw); obtain ⟨hc0, hc1, hc2, hc3, hc4, hc5, hc6, hc7, hc8, hc9, hc10, hc11, hc12, hc13, hc14, hc15, hc16, hc17, hc18, hc19, hc20, hc21, hc22, hc23, hc24, hc25, hc26, hc27, hc28, hc29⟩ := hSw; go_simp; try (with_reducible rfl)
    case rest10 =>
    try simp only [Act.put, List.setIfInBounds_toArray, List.set_cons_zero, List.set_cons_succ]
    refine headH_take (i := 10) (v := ?_) rfl (by kernel_rfl) (fun _ _ _ h => h) (fun _ _ _ h => seqB_ready h.1) (Or.inl ⟨by rfl, ?hy11⟩) hS ?rest11
    case hy11 => intro w hSw; (try dsimp only at hSw); obtain ⟨hc0, hc1, hc2, hc3, hc4, hc5, hc6, hc7, hc8, hc9, hc10, hc11, hc12, hc13, hc14, hc15, hc16, hc17, hc18, hc19, hc20, hc21, hc22, hc23, hc24, hc25, hc26, hc27, hc28, hc29⟩ := hSw; go_simp; try (with_reducible rfl)
    case rest11 =>
    try simp only [Act.put, List.setIfInBounds_toArray, List.set_cons_zero, List.set_cons_succ]
    refine headH_one (i := 11) (by kernel_rfl) rfl (fun K hK => ?_)
    go_simp
    refine (E2.out _ BC.out).mono ?_
    rintro e x3 ⟨rfl, hb⟩
    replace BC := Lib.hid (chain BC.out hb)
    clear hb r0 r1 r2 r3 r4 r5 s0 s1 s2 s3 s4 s5 o0 o1 o2 o3 o4 o5 t0 t1 t2 u0 u1 u2 u3 u4 u5 u6 u7 u8
    obtain ⟨r0, r1, r2, r3, r4, r5⟩ := (M0.out.keep BC.out).sixO
    obtain ⟨s0, s1, s2, s3, s4, s5⟩ := (M1.out.keep BC.out).sixO
    obtain ⟨o0, o1, o2, o3, o4, o5⟩ := (MO.out.keep BC.out).sixO
    obtain ⟨t0, t1, t2⟩ := (MR.out.keep BC.out).threeO
    obtain ⟨u0, u1, u2, u3, u4, u5, u6, u7, u8⟩ := (MD.out.keep BC.out).nineO
    refine hK.out _ _ (show (fun (w' : World) => w'.cell? ⟨W.heap.size, 0, none⟩ = some (.int .u64 (fa.1 : Nat)) ∧ w'.cell? ⟨W.heap.size, 1, none⟩ = some (.int .i64 fa.2.1.1) ∧ w'.cell? ⟨W.heap.size, 2, none⟩ = some (.int .i64 fa.2.1.2.1) ∧ w'.cell? ⟨W.heap.size, 3, none⟩ = some (.int .i64 fa.2.1.2.2.1) ∧ w'.cell? ⟨W.heap.size, 4, none⟩ = some (.slice A3 fa.2.1.2.2.2.length d3) ∧ w'.cell? ⟨W.heap.size, 5, none⟩ = some (.int .i64 fa.2.2) ∧ w'.cell? ⟨W.heap.size + 1, 0, none⟩ = some (.int .u64 (fb.1 : Nat)) ∧ w'.cell? ⟨W.heap.size + 1, 1, none⟩ = some (.int .i64 fb.2.1.1) ∧ w'.cell? ⟨W.heap.size + 1, 2, none⟩ = some (.int .i64 fb.2.1.2.1) ∧ w'.cell? ⟨W.heap.size + 1, 3, none⟩ = some (.int .i64 fb.2.1.2.2.1) ∧ w'.cell? ⟨W.heap.size + 1, 4, none⟩ = some (.slice A4 fb.2.1.2.2.2.length d4) ∧ w'.cell? ⟨W.heap.size + 1, 5, none⟩ = some (.int .i64 fb.2.2) ∧ w'.cell? ⟨gO, 0, none⟩ = some (.int .u64 (oO.1 : Nat)) ∧ w'.cell? ⟨gO, 1, none⟩ = some (.int .i64 oO.2.1.1) ∧ w'.cell? ⟨gO, 2, none⟩ = some (.int .i64 oO.2.1.2.1) ∧ w'.cell? ⟨gO, 3, none⟩ = some (.int .i64 oO.2.1.2.2.1) ∧ w'.cell? ⟨gO, 4, none⟩ = some (.slice A5 oO.2.1.2.2.2.length d5) ∧ w'.cell? ⟨gO, 5, none⟩ = some (.int .i64 oO.2.2) ∧ w'.cell? ⟨gO + 1, 0, none⟩ = some (.int .i64 rO.1) ∧ w'.cell? ⟨gO + 1, 1, none⟩ = some (.int .i64 rO.2.1) ∧ w'.cell? ⟨gO + 1, 2, none⟩ = some (.slice B5 rO.2.2.length c5) ∧ w'.cell? ⟨gD, 0, none⟩ = some (.int .u64 (oO.1 : Nat)) ∧ w'.cell? ⟨gD, 1, none⟩ = some (.int .i64 oO.2.1.1) ∧ w'.cell? ⟨gD, 2, none⟩ = some (.int .i64 oO.2.1.2.1) ∧ w'.cell? ⟨gD, 3, none⟩ = some (.int .i64 oO.2.1.2.2.1) ∧ w'.cell? ⟨gD, 4, none⟩ = some (.slice A6 oO.2.1.2.2.2.length d6) ∧ w'.cell? ⟨gD, 5, none⟩ = some (.int .i64 oO.2.2) ∧ w'.cell? ⟨gD, 6, none⟩ = some (.int .i64 rO.1) ∧ w'.cell? ⟨gD, 7, none⟩ = some (.int .i64 rO.2.1) ∧ w'.cell? ⟨gD, 8, none⟩ = some (.slice B6 rO.2.2.length c6)) x3 from ⟨r0, r1, r2, r3, r4, r5, s0, s1, s2, s3, s4, s5, o0, o1, o2, o3, o4, o5, t0, t1, t2, u0, u1, u2, u3, u4, u5, u6, u7, u8⟩) (fun hS => ?_)
    clear hK K
    refine headH_take (i := 12) (v := ?_) rfl (by kernel_rfl) (fun _ _ _ h => h) (fun _ _ _ h => seqB_ready h.1) (Or.inl ⟨by rfl, ?hy12⟩) hS ?rest12
    case hy12 => intro w hSw; (try dsimp only at hSw); obtain ⟨hc0, hc1, hc2, hc3, hc4, hc5, hc6, hc7, hc8, hc9, hc10, hc11, hc12, hc13, hc14, hc15, hc16, hc17, hc18, hc19, hc20, hc21, hc22, hc23, hc24, hc25, hc26, hc27, hc28, hc29⟩ := hSw; go_simp; try (with_reducible rfl)
    case rest12 =>
    try simp only [Act.put, List.setIfInBounds_toArray, List.set_cons_zero, List.set_cons_succ]
    refine headH_take (i := 13) (v := ?_) rfl (by kernel_rfl) (fun _ _ _ h => h) (fun _ _ _ h => seqB_ready h.1) (Or.inl ⟨by rfl, ?hy13⟩) hS ?rest13
    case hy13 => intro w hSw; (try dsimp only at hSw); obtain ⟨hc0, hc1, hc2, hc3, hc4, hc5, hc6, hc7, hc8, hc9, hc10, hc11, hc12, hc13, hc14, hc15, hc16, hc17, hc18, hc19, hc20, hc21, hc22, hc23, hc24, hc25, hc26, hc27, hc28, hc29⟩ := hSw; go_simp; try (with_reducible rfl)
    case rest13 =>
    try simp only [Act.put, List.setIfInBounds_toArray, List.set_cons_zero, List.set_cons_succ]
    refine headH_take (i := 14) (v := ?_) rfl (by kernel_rfl) (fun _ _ _ h => h) (fun _ _ _ h => seqB_ready h.1) (Or.inl ⟨by rfl, ?hy14⟩) hS ?rest14
    case hy14 => intro w hSw; (try dsimp only at hSw); obtain ⟨hc0, hc1, hc2, hc3, hc4, hc5, hc6, hc7, hc8, hc9, hc10, hc11, hc12, hc13, hc14, hc15, hc16, hc17, hc18, hc19, hc20, hc21, hc22, hc23, hc24, hc25, hc26, hc27, hc28, hc29⟩ := hSw; go_simp; try (with_reducible rfl)
    case rest14 =>
    try simp only [Act.put, List.setIfInBounds_toArray, List.set_cons_zero, List.set_cons_succ]
    refine headH_take (i := 16) (v := ?_) rfl (by kernel_rfl) (fun _ _ _ h => h) (fun _ _ _ h => seqB_ready h.1) (Or.inl ⟨by rfl, ?hy15⟩) hS ?rest15
    case hy15 => intro w hSw; (try dsimp only at hSw); obtain ⟨hc0, hc1, hc2, hc3, hc4, hc5, hc6, hc7, hc8, hc9, hc10, hc11, hc12, hc13, hc14, hc15, hc16, hc17, hc18, hc19, hc20, hc21, hc22, hc23, hc24, hc25, hc26, hc27, hc28, hc29⟩ := hSw; go_simp; try (with_reducible rfl)
    case rest15 =>
    try simp only [Act.put, List.setIfInBounds_toArray, List.set_cons_zero, List.set_cons_succ]
    refine headH_one (i := 15) (by kernel_rfl) rfl (fun K hK => ?_)
    go_simp
    refine (E3.out _ BC.out).mono ?_
    rintro e x4 ⟨rfl, hb⟩
    replace BC := Lib.hid (chain BC.out hb)
    clear hb r0 r1 r2 r3 r4 r5 s0 s1 s2 s3 s4 s5 o0 o1 o2 o3 o4 o5 t0 t1 t2 u0 u1 u2 u3 u4 u5 u6 u7 u8
    obtain ⟨r0, r1, r2, r3, r4, r5⟩ := (M0.out.keep BC.out).sixO
    obtain ⟨s0, s1, s2, s3, s4, s5⟩ := (M1.out.keep BC.out).sixO
    obtain ⟨o0, o1, o2, o3, o4, o5⟩ := (MO.out.keep BC.out).sixO
    obtain ⟨t0, t1, t2⟩ := (MR.out.keep BC.out).threeO
    obtain ⟨u0, u1, u2, u3, u4, u5, u6, u7, u8⟩ := (MD.out.keep BC.out).nineO
    refine hK.out _ _ (show (fun (w' : World) => w'.cell? ⟨W.heap.size, 0, none⟩ = some (.int .u64 (fa.1 : Nat)) ∧ w'.cell? ⟨W.heap.size, 1, none⟩ = some (.int .i64 fa.2.1.1) ∧ w'.cell? ⟨W.heap.size, 2, none⟩ = some (.int .i64 fa.2.1.2.1) ∧ w'.cell? ⟨W.heap.size, 3, none⟩ = some (.int .i64 fa.2.1.2.2.1) ∧ w'.cell? ⟨W.heap.size, 4, none⟩ = some (.slice A3 fa.2.1.2.2.2.length d3) ∧ w'.cell? ⟨W.heap.size, 5, none⟩ = some (.int .i64 fa.2.2) ∧ w'.cell? ⟨W.heap.size + 1, 0, none⟩ = some (.int .u64 (fb.1 : Nat)) ∧ w'.cell? ⟨W.heap.size + 1, 1, none⟩ = some (.int .i64 fb.2.1.1) ∧ w'.cell? ⟨W.heap.size + 1, 2, none⟩ = some (.int .i64 fb.2.1.2.1) ∧ w'.cell? ⟨W.heap.size + 1, 3, none⟩ = some (.int .i64 fb.2.1.2.2.1) ∧ w'.cell? ⟨W.heap.size + 1, 4, none⟩ = some (.slice A4 fb.2.1.2.2.2.length d4) ∧ w'.cell? ⟨W.heap.size + 1, 5, none⟩ = some (.int .i64 fb.2.2) ∧ w'.cell? ⟨gO, 0, none⟩ = some (.int .u64 (oO.1 : Nat)) ∧ w'.cell? ⟨gO, 1, none⟩ = some (.int .i64 oO.2.1.1) ∧ w'.cell? ⟨gO, 2, none⟩ = some (.int .i64 oO.2.1.2.1) ∧ w'.cell? ⟨gO, 3, none⟩ = some (.int .i64 oO.2.1.2.2.1) ∧ w'.cell? ⟨gO, 4, none⟩ = some (.slice A5 oO.2.1.2.2.2.length d5) ∧ w'.cell? ⟨gO, 5, none⟩ = some (.int .i64 oO.2.2) ∧ w'.cell? ⟨gO + 1, 0, none⟩ = some (.int .i64 rO.1) ∧ w'.cell? ⟨gO + 1, 1, none⟩ = some (.int .i64 rO.2.1) ∧ w'.cell? ⟨gO + 1, 2, none⟩ = some (.slice B5 rO.2.2.length c5) ∧ w'.cell? ⟨gD, 0, none⟩ = some (.int .u64 (oO.1 : Nat)) ∧ w'.cell? ⟨gD, 1, none⟩ = some (.int .i64 oO.2.1.1) ∧ w'.cell? ⟨gD, 2, none⟩ = some (.int .i64 oO.2.1.2.1) ∧ w'.cell? ⟨gD, 3, none⟩ = some (.int .i64 oO.2.1.2.2.1) ∧ w'.cell? ⟨gD, 4, none⟩ = some (.slice A6 oO.2.1.2.2.2.length d6) ∧ w'.cell? ⟨gD, 5, none⟩ = some (.int .i64 oO.2.2) ∧ w'.cell? ⟨gD, 6, none⟩ = some (.int .i64 rO.1) ∧ w'.cell? ⟨gD, 7, none⟩ = some (.int .i64 rO.2.1) ∧ w'.cell? ⟨gD, 8, none⟩ = some (.slice B6 rO.2.2.length c6)) x4 from ⟨r0, r1, r2, r3, r4, r5, s0, s1, s2, s3, s4, s5, o0, o1, o2, o3, o4, o5, t0, t1, t2, u0, u1, u2, u3, u4, u5, u6, u7, u8⟩) (fun hS => ?_)
    clear hK K
    refine headH_one (i := 17) (by kernel_rfl) rfl (fun K hK => ?_)
    go_simp
    refine (E4.out _ BC.out).mono ?_
    rintro e x5 ⟨rfl, hb⟩
    replace BC := Lib.hid (chain BC.out hb)
    clear hb r0 r1 r2 r3 r4 r5 s0 s1 s2 s3 s4 s5 o0 o1 o2 o3 o4 o5 t0 t1 t2 u0 u1 u2 u3 u4 u5 u6 u7 u8
    obtain ⟨r0, r1, r2, r3, r4, r5⟩ := (M0.out.keep BC.out).sixO
    obtain ⟨s0, s1, s2, s3, s4, s5⟩ := (M1.out.keep BC.out).sixO
    obtain ⟨o0, o1, o2, o3, o4, o5⟩ := (MO.out.keep BC.out).sixO
    obtain ⟨t0, t1, t2⟩ := (MR.out.keep BC.out).threeO
    obtain ⟨u0, u1, u2, u3, u4, u5, u6, u7, u8⟩ := (MD.out.keep BC.out).nineO
    refine hK.out _ _ (show (fun (w' : World) => w'.cell? ⟨W.heap.size, 0, none⟩ = some (.int .u64 (fa.1 : Nat)) ∧ w'.cell? ⟨W.heap.size, 1, none⟩ = some (.int .i64 fa.2.1.1) ∧ w'.cell? ⟨W.heap.size, 2, none⟩ = some (.int .i64 fa.2.1.2.1) ∧ w'.cell? ⟨W.heap.size, 3, none⟩ = some (.int .i64 fa.2.1.2.2.1) ∧ w'.cell? ⟨W.heap.size, 4, none⟩ = some (.slice A3 fa.2.1.2.2.2.length d3) ∧ w'.cell? ⟨W.heap.size, 5, none⟩ = some (.int .i64 fa.2.2) ∧ w'.cell? ⟨W.heap.size + 1, 0, none⟩ = some (.int .u64 (fb.1 : Nat)) ∧ w'.cell? ⟨W.heap.size + 1, 1, none⟩ = some (.int .i64 fb.2.1.1) ∧ w'.cell? ⟨W.heap.size + 1, 2, none⟩ = some (.int .i64 fb.2.1.2.1) ∧ w'.cell? ⟨W.heap.size + 1, 3, none⟩ = some (.int .i64 fb.2.1.2.2.1) ∧ w'.cell? ⟨W.heap.size + 1, 4, none⟩ = some (.slice A4 fb.2.1.2.2.2.length d4) ∧ w'.cell? ⟨W.heap.size + 1, 5, none⟩ = some (.int .i64 fb.2.2) ∧ w'.cell? ⟨gO, 0, none⟩ = some (.int .u64 (oO.1 : Nat)) ∧ w'.cell? ⟨gO, 1, none⟩ = some (.int .i64 oO.2.1.1) ∧ w'.cell? ⟨gO, 2, none⟩ = some (.int .i64 oO.2.1.2.1) ∧ w'.cell? ⟨gO, 3, none⟩ = some (.int .i64 oO.2.1.2.2.1) ∧ w'.cell? ⟨gO, 4, none⟩ = some (.slice A5 oO.2.1.2.2.2.length d5) ∧ w'.cell? ⟨gO, 5, none⟩ = some (.int .i64 oO.2.2) ∧ w'.cell? ⟨gO + 1, 0, none⟩ = some (.int .i64 rO.1) ∧ w'.cell? ⟨gO + 1, 1, none⟩ = some (.int .i64 rO.2.1) ∧ w'.cell? ⟨gO + 1, 2, none⟩ = some (.slice B5 rO.2.2.length c5) ∧ w'.cell? ⟨gD, 0, none⟩ = some (.int .u64 (oO.1 : Nat)) ∧ w'.cell? ⟨gD, 1, none⟩ = some (.int .i64 oO.2.1.1) ∧ w'.cell? ⟨gD, 2, none⟩ = some (.int .i64 oO.2.1.2.1) ∧ w'.cell? ⟨gD, 3, none⟩ = some (.int .i64 oO.2.1.2.2.1) ∧ w'.cell? ⟨gD, 4, none⟩ = some (.slice A6 oO.2.1.2.2.2.length d6) ∧ w'.cell? ⟨gD, 5, none⟩ = some (.int .i64 oO.2.2) ∧ w'.cell? ⟨gD, 6, none⟩ = some (.int .i64 rO.1) ∧ w'.cell? ⟨gD, 7, none⟩ = some (.int .i64 rO.2.1) ∧ w'.cell? ⟨gD, 8, none⟩ = some (.slice B6 rO.2.2.length c6)) x5 from ⟨r0, r1, r2, r3, r4, r5, s0, s1, s2, s3, s4, s5, o0, o1, o2, o3, o4, o5, t0, t1, t2, u0, u1, u2, u3, u4, u5, u6, u7, u8⟩) (fun hS => ?_)
    clear hK K
    refine headH_take (i := 18) (v := ?_) rfl (by kernel_rfl) (fun _ _ _ h => h) (fun _ _ _ h => seqB_ready h.1) (Or.inl ⟨by rfl, ?hy16⟩) hS ?rest16
    case hy16 => intro w hSw; (try dsimp only at hSw); obtain ⟨hc0, hc1, hc2, hc3, hc4, hc5, hc6, hc7, hc8, hc9, hc10, hc11, hc12, hc13, hc14, hc15, hc16, hc17, hc18, hc19, hc20, hc21, hc22, hc23, hc24, hc25, hc26, hc27, hc28, hc29⟩ := hSw; go_simp; try (with_reducible rfl)
    case rest16 =>
    try simp only [Act.put, List.setIfInBounds_toArray, List.set_cons_zero, List.set_cons_succ]
    refine headH_take (i := 19) (v := ?_) rfl (by kernel_rfl) (fun _ _ _ h => h) (fun _ _ _ h => seqB_ready h.1) (Or.inl ⟨by rfl, ?hy17⟩) hS ?rest17
    case hy17 => intro w hSw; (try dsimp only at hSw); obtain ⟨hc0, hc1, hc2, hc3, hc4, hc5, hc6, hc7, hc8, hc9, hc10, hc11, hc12, hc13, hc14, hc15, hc16, hc17, hc18, hc19, hc20, hc21, hc22, hc23, hc24, hc25, hc26, hc27, hc28, hc29⟩ := hSw; go_simp; try (with_reducible rfl)
    case rest17 =>
    try simp only [Act.put, List.setIfInBounds_toArray, List.set_cons_zero, List.set_cons_succ]
    refine headH_take (i := 20) (v := ?_) rfl (by kernel_rfl) (fun _ _ _ h => h) (fun _ _ _ h => seqB_ready h.1) (Or.inl ⟨by rfl, ?hy18⟩) hS ?rest18
    case hy18 => intro w hSw; (try dsimp only at hSw); obtain ⟨hc0, hc1, hc2, hc3, hc4, hc5, hc6, hc7, hc8, hc9, hc10, hc11, hc12, hc13, hc14, hc15, hc16, hc17, hc18, hc19, hc20, hc21, hc22, hc23, hc24, hc25, hc26, hc27, hc28, hc29⟩ := hSw; go_simp; try (with_reducible rfl)
    case rest18 =>
    try simp only [Act.put, List.setIfInBounds_toArray, List.set_cons_zero, List.set_cons_succ]
    refine headH_take (i := 21) (v := ?_) rfl (by kernel_rfl) (fun _ _ _ h => h) (fun _ _ _ h => seqB_ready h.1) (Or.inl ⟨by rfl, ?hy19⟩) hS ?rest19
    case hy19 => intro w hSw; (try dsimp only at hSw); obtain ⟨hc0, hc1, hc2, hc3, hc4, hc5, hc6, hc7, hc8, hc9, hc10, hc11, hc12, hc13, hc14, hc15, hc16, hc17, hc18, hc19, hc20, hc21, hc22, hc23, hc24, hc25, hc26, hc27, hc28, hc29⟩ := hSw; go_simp; try (with_reducible rfl)
    case rest19 =>
    try simp only [Act.put, List.setIfInBounds_toArray, List.set_cons_zero, List.set_cons_succ]
    refine headH_take (i := 22) (v := ?_) rfl (by kernel_rfl) (fun _ _ _ h => h) (fun _ _ _ h => seqB_ready h.1) (Or.inl ⟨by rfl, ?hy20⟩) hS ?rest20
    case hy20 => intro w hSw; (try dsimp only at hSw); obtain ⟨hc0, hc1, hc2, hc3, hc4, hc5, hc6, hc7, hc8, hc9, hc10, hc11, hc12, hc13, hc14, hc15, hc16, hc17, hc18, hc19, hc20, hc21, hc22, hc23, hc24, hc25, hc26, hc27, hc28, hc29⟩ := hSw; go_simp; try (with_reducible rfl)
    case rest20 =>
    try simp only [Act.put, List.setIfInBounds_toArray, List.set_cons_zero, List.set_cons_succ]
    refine headH_take (i := 24) (v := ?_) rfl (by kernel_rfl) (fun _ _ _ h => h) (fun _ _ _ h => seqB_ready h.1) (Or.inl ⟨by rfl, ?hy21⟩) hS ?rest21
    case hy21 => intro w hSw; (try dsimp only at hSw); obtain ⟨hc0, hc1, hc2, hc3, hc4, hc5, hc6, hc7, hc8, hc9, hc10, hc11, hc12, hc13, hc14, hc15, hc16, hc17, hc18, hc19, hc20, hc21, hc22, hc23, hc24, hc25, hc26, hc27, hc28, hc29⟩ := hSw; go_simp; try (with_reducible rfl)
    case rest21 =>
    try simp only [Act.put, List.setIfInBounds_toArray, List.set_cons_zero, List.set_cons_succ]
    refine headH_take (i := 25) (v := ?_) rfl (by kernel_rfl) (fun _ _ _ h => h) (fun _ _ _ h => seqB_ready h.1) (Or.inl ⟨by rfl, ?hy22⟩) hS ?rest22
    case hy22 => intro w hSw; (try dsimp only at hSw); obtain ⟨hc0, hc1, hc2, hc3, hc4, hc5, hc6, hc7, hc8, hc9, hc10, hc11, hc12, hc13, hc14, hc15, hc16, hc17, hc18, hc19, hc20, hc21, hc22, hc23, hc24, hc25, hc26, hc27, hc28, hc29⟩ := hSw; go_simp; try (with_reducible rfl)
    case rest22 =>
    try simp only [Act.put, List.setIfInBounds_toArray, List.set_cons_zero, List.set_cons_succ]
    refine headH_one (i := 23) (by kernel_rfl) rfl (fun K hK => ?_)
    go_simp
    refine (E5.out _ BC.out).mono ?_
    rintro e x6 ⟨rfl, hb⟩
    replace BC := Lib.hid (chain BC.out hb)
    clear hb r0 r1 r2 r3 r4 r5 s0 s1 s2 s3 s4 s5 o0 o1 o2 o3 o4 o5 t0 t1 t2 u0 u1 u2 u3 u4 u5 u6 u7 u8
    obtain ⟨r0, r1, r2, r3, r4, r5⟩ := (M0.out.keep BC.out).sixO
    obtain ⟨s0, s1, s2, s3, s4, s5⟩ := (M1.out.keep BC.out).sixO
    obtain ⟨o0, o1, o2, o3, o4, o5⟩ := (MO.out.keep BC.out).sixO
    obtain ⟨t0, t1, t2⟩ := (MR.out.keep BC.out).threeO
    obtain ⟨u0, u1, u2, u3, u4, u5, u6, u7, u8⟩ := (MD.out.keep BC.out).nineO
    refine hK.out _ _ (show (fun (w' : World) => w'.cell? ⟨W.heap.size, 0, none⟩ = some (.int .u64 (fa.1 : Nat)) ∧ w'.cell? ⟨W.heap.size, 1, none⟩ = some (.int .i64 fa.2.1.1) ∧ w'.cell? ⟨W.heap.size, 2, none⟩ = some (.int .i64 fa.2.1.2.1) ∧ w'.cell? ⟨W.heap.size, 3, none⟩ = some (.int .i64 fa.2.1.2.2.1) ∧ w'.cell? ⟨W.heap.size, 4, none⟩ = some (.slice A3 fa.2.1.2.2.2.length d3) ∧ w'.cell? ⟨W.heap.size, 5, none⟩ = some (.int .i64 fa.2.2) ∧ w'.cell? ⟨W.heap.size + 1, 0, none⟩ = some (.int .u64 (fb.1 : Nat)) ∧ w'.cell? ⟨W.heap.size + 1, 1, none⟩ = some (.int .i64 fb.2.1.1) ∧ w'.cell? ⟨W.heap.size + 1, 2, none⟩ = some (.int .i64 fb.2.1.2.1) ∧ w'.cell? ⟨W.heap.size + 1, 3, none⟩ = some (.int .i64 fb.2.1.2.2.1) ∧ w'.cell? ⟨W.heap.size + 1, 4, none⟩ = some (.slice A4 fb.2.1.2.2.2.length d4) ∧ w'.cell? ⟨W.heap.size + 1, 5, none⟩ = some (.int .i64 fb.2.2) ∧ w'.cell? ⟨gO, 0, none⟩ = some (.int .u64 (oO.1 : Nat)) ∧ w'.cell? ⟨gO, 1, none⟩ = some (.int .i64 oO.2.1.1) ∧ w'.cell? ⟨gO, 2, none⟩ = some (.int .i64 oO.2.1.2.1) ∧ w'.cell? ⟨gO, 3, none⟩ = some (.int .i64 oO.2.1.2.2.1) ∧ w'.cell? ⟨gO, 4, none⟩ = some (.slice A5 oO.2.1.2.2.2.length d5) ∧ w'.cell? ⟨gO, 5, none⟩ = some (.int .i64 oO.2.2) ∧ w'.cell? ⟨gO + 1, 0, none⟩ = some (.int .i64 rO.1) ∧ w'.cell? ⟨gO + 1, 1, none⟩ = some (.int .i64 rO.2.1) ∧ w'.cell? ⟨gO + 1, 2, none⟩ = some (.slice B5 rO.2.2.length c5) ∧ w'.cell? ⟨gD, 0, none⟩ = some (.int .u64 (oO.1 : Nat)) ∧ w'.cell? ⟨gD, 1, none⟩ = some (.int .i64 oO.2.1.1) ∧ w'.cell? ⟨gD, 2, none⟩ = some (.int .i64 oO.2.1.2.1) ∧ w'.cell? ⟨gD, 3, none⟩ = some (.int .i64 oO.2.1.2.2.1) ∧ w'.cell? ⟨gD, 4, none⟩ = some (.slice A6 oO.2.1.2.2.2.length d6) ∧ w'.cell? ⟨gD, 5, none⟩ = some (.int .i64 oO.2.2) ∧ w'.cell? ⟨gD, 6, none⟩ = some (.int .i64 rO.1) ∧ w'.cell? ⟨gD, 7, none⟩ = some (.int .i64 rO.2.1) ∧ w'.cell? ⟨gD, 8, none⟩ = some (.slice B6 rO.2.2.length c6)) x6 from ⟨r0, r1, r2, r3, r4, r5, s0, s1, s2, s3, s4, s5, o0, o1, o2, o3, o4, o5, t0, t1, t2, u0, u1, u2, u3, u4, u5, u6, u7, u8⟩) (fun hS => ?_)
    clear hK K
    refine headH_one (i := 26) (by kernel_rfl) rfl (fun K hK => ?_)
    go_simp
    refine (E6.out _ BC.out).mono ?_
    rintro e x7 ⟨rfl, hb⟩
    replace BC := Lib.hid (chain BC.out hb)
    clear hb r0 r1 r2 r3 r4 r5 s0 s1 s2 s3 s4 s5 o0 o1 o2 o3 o4 o5 t0 t1 t2 u0 u1 u2 u3 u4 u5 u6 u7 u8
    obtain ⟨r0, r1, r2, r3, r4, r5⟩ := (M0.out.keep BC.out).sixO
    obtain ⟨s0, s1, s2, s3, s4, s5⟩ := (M1.out.keep BC.out).sixO
    obtain ⟨o0, o1, o2, o3, o4, o5⟩ := (MO.out.keep BC.out).sixO
    obtain ⟨t0, t1, t2⟩ := (MR.out.keep BC.out).threeO
    obtain ⟨u0, u1, u2, u3, u4, u5, u6, u7, u8⟩ := (MD.out.keep BC.out).nineO
    refine hK.out _ _ (show (fun (w' : World) => w'.cell? ⟨W.heap.size, 0, none⟩ = some (.int .u64 (fa.1 : Nat)) ∧ w'.cell? ⟨W.heap.size, 1, none⟩ = some (.int .i64 fa.2.1.1) ∧ w'.cell? ⟨W.heap.size, 2, none⟩ = some (.int .i64 fa.2.1.2.1) ∧ w'.cell? ⟨W.heap.size, 3, none⟩ = some (.int .i64 fa.2.1.2.2.1) ∧ w'.cell? ⟨W.heap.size, 4, none⟩ = some (.slice A3 fa.2.1.2.2.2.length d3) ∧ w'.cell? ⟨W.heap.size, 5, none⟩ = some (.int .i64 fa.2.2) ∧ w'.cell? ⟨W.heap.size + 1, 0, none⟩ = some (.int .u64 (fb.1 : Nat)) ∧ w'.cell? ⟨W.heap.size + 1, 1, none⟩ = some (.int .i64 fb.2.1.1) ∧ w'.cell? ⟨W.heap.size + 1, 2, none⟩ = some (.int .i64 fb.2.1.2.1) ∧ w'.cell? ⟨W.heap.size + 1, 3, none⟩ = some (.int .i64 fb.2.1.2.2.1) ∧ w'.cell? ⟨W.heap.size + 1, 4, none⟩ = some (.slice A4 fb.2.1.2.2.2.length d4) ∧ w'.cell? ⟨W.heap.size + 1, 5, none⟩ = some (.int .i64 fb.2.2) ∧ w'.cell? ⟨gO, 0, none⟩ = some (.int .u64 (oO.1 : Nat)) ∧ w'.cell? ⟨gO, 1, none⟩ = some (.int .i64 oO.2.1.1) ∧ w'.cell? ⟨gO, 2, none⟩ = some (.int .i64 oO.2.1.2.1) ∧ w'.cell? ⟨gO, 3, none⟩ = some (.int .i64 oO.2.1.2.2.1) ∧ w'.cell? ⟨gO, 4, none⟩ = some (.slice A5 oO.2.1.2.2.2.length d5) ∧ w'.cell? ⟨gO, 5, none⟩ = some (.int .i64 oO.2.2) ∧ w'.cell? ⟨gO + 1, 0, none⟩ = some (.int .i64 rO.1) ∧ w'.cell? ⟨gO + 1, 1, none⟩ = some (.int .i64 rO.2.1) ∧ w'.cell? ⟨gO + 1, 2, none⟩ = some (.slice B5 rO.2.2.length c5) ∧ w'.cell? ⟨gD, 0, none⟩ = some (.int .u64 (oO.1 : Nat)) ∧ w'.cell? ⟨gD, 1, none⟩ = some (.int .i64 oO.2.1.1) ∧ w'.cell? ⟨gD, 2, none⟩ = some (.int .i64 oO.2.1.2.1) ∧ w'.cell? ⟨gD, 3, none⟩ = some (.int .i64 oO.2.1.2.2.1) ∧ w'.cell? ⟨gD, 4, none⟩ = some (.slice A6 oO.2.1.2.2.2.length d6) ∧ w'.cell? ⟨gD, 5, none⟩ = some (.int .i64 oO.2.2) ∧ w'.cell? ⟨gD, 6, none⟩ = some (.int .i64 rO.1) ∧ w'.cell? ⟨gD, 7, none⟩ = some (.int .i64 rO.2.1) ∧ w'.cell? ⟨gD, 8, none⟩ = some (.slice B6 rO.2.2.length c6)) x7 from ⟨r0, r1, r2, r3, r4, r5, s0, s1, s2, s3, s4, s5, o0, o1, o2, o3, o4, o5, t0, t1, t2, u0, u1, u2, u3, u4, u5, u6, u7, u8⟩) (fun hS => ?_)
    clear hK K
    refine headH_take (i := 27) (v := ?_) rfl (by kernel_rfl) (fun _ _ _ h => h) (fun _ _ _ h => seqB_ready h.1) (Or.inl ⟨by rfl, ?hy23⟩) hS ?rest23
    case hy23 => intro w hSw; (try dsimp only at hSw); obtain ⟨hc0, hc1, hc2, hc3, hc4, hc5, hc6, hc7, hc8, hc9, hc10, hc11, hc12, hc13, hc14, hc15, hc16, hc17, hc18, hc19, hc20, hc21, hc22, hc23, hc24, hc25, hc26, hc27, hc28, hc29⟩ := hSw; go_simp; try (with_reducible rfl)
    case rest23 =>
    try simp only [Act.put, List.setIfInBounds_toArray, List.set_cons_zero, List.set_cons_succ]
    refine headH_take (i := 28) (v := ?_) rfl (by kernel_rfl) (fun _ _ _ h => h) (fun _ _ _ h => seqB_ready h.1) (Or.inl ⟨by rfl, ?hy24⟩) hS ?rest24
    case hy24 => intro w hSw; (try dsimp only at hSw); obtain ⟨hc0, hc1, hc2, hc3, hc4, hc5, hc6, hc7, hc8, hc9, hc10, hc11, hc12, hc13, hc14, hc15, hc16, hc17, hc18, hc19, hc20, hc21, hc22, hc23, hc24, hc25, hc26, hc27, hc28, hc29⟩ := hSw; go_simp; try (with_reducible rfl)
    case rest24 =>
    try simp only [Act.put, List.setIfInBounds_toArray, List.set_cons_zero, List.set_cons_succ]
    refine headH_take (i := 29) (v := ?_) rfl (by kernel_rfl) (fun _ _ _ h => h) (fun _ _ _ h => seqB_ready h.1) (Or.inl ⟨by rfl, ?hy25⟩) hS ?rest25
    case hy25 => intro w hSw; (try dsimp only at hSw); obtain ⟨hc0, hc1, hc2, hc3, hc4, hc5, hc6, hc7, hc8, hc9, hc10, hc11, hc12, hc13, hc14, hc15, hc16, hc17, hc18, hc19, hc20, hc21, hc22, hc23, hc24, hc25, hc26, hc27, hc28, hc29⟩ := hSw; go_simp; try (with_reducible rfl)
    case rest25 =>
    try simp only [Act.put, List.setIfInBounds_toArray, List.set_cons_zero, List.set_cons_succ]
    refine headH_take (i := 30) (v := ?_) rfl (by kernel_rfl) (fun _ _ _ h => h) (fun _ _ _ h => seqB_ready h.1) (Or.inl ⟨by rfl, ?hy26⟩) hS ?rest26
    case hy26 => intro w hSw; (try dsimp only at hSw); obtain ⟨hc0, hc1, hc2, hc3, hc4, hc5, hc6, hc7, hc8, hc9, hc10, hc11, hc12, hc13, hc14, hc15, hc16, hc17, hc18, hc19, hc20, hc21, hc22, hc23, hc24, hc25, hc26, hc27, hc28, hc29⟩ := hSw; go_simp; try (with_reducible rfl)
    case rest26 =>
    try simp only [Act.put, List.setIfInBounds_toArray, List.set_cons_zero, List.set_cons_succ]
    refine headH_take (i := 31) (v := ?_) rfl (by kernel_rfl) (fun _ _ _ h => h) (fun _ _ _ h => seqB_ready h.1) (Or.inl ⟨by rfl, ?hy27⟩) hS ?rest27
    case hy27 => intro w hSw; (try dsimp only at hSw); obtain ⟨hc0, hc1, hc2, hc3, hc4, hc5, hc6, hc7, hc8, hc9, hc10, hc11, hc12, hc13, hc14, hc15, hc16, hc17, hc18, hc19, hc20, hc21, hc22, hc23, hc24, hc25, hc26, hc27, hc28, hc29⟩ := hSw; go_simp; try (with_reducible rfl)
    case rest27 =>
    try simp only [Act.put, List.setIfInBounds_toArray, List.set_cons_zero, List.set_cons_succ]
    refine headH_one (i := 32) (by kernel_rfl) rfl (fun K hK => ?_)
    go_simp
    refine (E7.out _ BC.out).mono ?_
    rintro e x8 ⟨rfl, hb⟩
    replace BC := Lib.hid (chain BC.out hb)
    clear hb r0 r1 r2 r3 r4 r5 s0 s1 s2 s3 s4 s5 o0 o1 o2 o3 o4 o5 t0 t1 t2 u0 u1 u2 u3 u4 u5 u6 u7 u8
    obtain ⟨r0, r1, r2, r3, r4, r5⟩ := (M0.out.keep BC.out).sixO
    obtain ⟨s0, s1, s2, s3, s4, s5⟩ := (M1.out.keep BC.out).sixO
    obtain ⟨o0, o1, o2, o3, o4, o5⟩ := (MO.out.keep BC.out).sixO
    obtain ⟨t0, t1, t2⟩ := (MR.out.keep BC.out).threeO
    obtain ⟨u0, u1, u2, u3, u4, u5, u6, u7, u8⟩ := (MD.out.keep BC.out).nineO
    refine hK.out _ _ (show (fun (w' : World) => w'.cell? ⟨W.heap.size, 0, none⟩ = some (.int .u64 (fa.1 : Nat)) ∧ w'.cell? ⟨W.heap.size, 1, none⟩ = some (.int .i64 fa.2.1.1) ∧ w'.cell? ⟨W.heap.size, 2, none⟩ = some (.int .i64 fa.2.1.2.1) ∧ w'.cell? ⟨W.heap.size, 3, none⟩ = some (.int .i64 fa.2.1.2.2.1) ∧ w'.cell? ⟨W.heap.size, 4, none⟩ = some (.slice A3 fa.2.1.2.2.2.length d3) ∧ w'.cell? ⟨W.heap.size, 5, none⟩ = some (.int .i64 fa.2.2) ∧ w'.cell? ⟨W.heap.size + 1, 0, none⟩ = some (.int .u64 (fb.1 : Nat)) ∧ w'.cell? ⟨W.heap.size + 1, 1, none⟩ = some (.int .i64 fb.2.1.1) ∧ w'.cell? ⟨W.heap.size + 1, 2, none⟩ = some (.int .i64 fb.2.1.2.1) ∧ w'.cell? ⟨W.heap.size + 1, 3, none⟩ = some (.int .i64 fb.2.1.2.2.1) ∧ w'.cell? ⟨W.heap.size + 1, 4, none⟩ = some (.slice A4 fb.2.1.2.2.2.length d4) ∧ w'.cell? ⟨W.heap.size + 1, 5, none⟩ = some (.int .i64 fb.2.2) ∧ w'.cell? ⟨gO, 0, none⟩ = some (.int .u64 (oO.1 : Nat)) ∧ w'.cell? ⟨gO, 1, none⟩ = some (.int .i64 oO.2.1.1) ∧ w'.cell? ⟨gO, 2, none⟩ = some (.int .i64 oO.2.1.2.1) ∧ w'.cell? ⟨gO, 3, none⟩ = some (.int .i64 oO.2.1.2.2.1) ∧ w'.cell? ⟨gO, 4, none⟩ = some (.slice A5 oO.2.1.2.2.2.length d5) ∧ w'.cell? ⟨gO, 5, none⟩ = some (.int .i64 oO.2.2) ∧ w'.cell? ⟨gO + 1, 0, none⟩ = some (.int .i64 rO.1) ∧ w'.cell? ⟨gO + 1, 1, none⟩ = some (.int .i64 rO.2.1) ∧ w'.cell? ⟨gO + 1, 2, none⟩ = some (.slice B5 rO.2.2.length c5) ∧ w'.cell? ⟨gD, 0, none⟩ = some (.int .u64 (oO.1 : Nat)) ∧ w'.cell? ⟨gD, 1, none⟩ = some (.int .i64 oO.2.1.1) ∧ w'.cell? ⟨gD, 2, none⟩ = some (.int .i64 oO.2.1.2.1) ∧ w'.cell? ⟨gD, 3, none⟩ = some (.int .i64 oO.2.1.2.2.1) ∧ w'.cell? ⟨gD, 4, none⟩ = some (.slice A6 oO.2.1.2.2.2.length d6) ∧ w'.cell? ⟨gD, 5, none⟩ = some (.int .i64 oO.2.2) ∧ w'.cell? ⟨gD, 6, none⟩ = some (.int .i64 rO.1) ∧ w'.cell? ⟨gD, 7, none⟩ = some (.int .i64 rO.2.1) ∧ w'.cell? ⟨gD, 8, none⟩ = some (.slice B6 rO.2.2.length c6)) x8 from ⟨r0, r1, r2, r3, r4, r5, s0, s1, s2, s3, s4, s5, o0, o1, o2, o3, o4, o5, t0, t1, t2, u0, u1, u2, u3, u4, u5, u6, u7, u8⟩) (fun hS => ?_)
    clear hK K
    refine headH_take (i := 33) (v := ?_) rfl (by kernel_rfl) (fun _ _ _ h => h) (fun _ _ _ h => seqB_ready h.1) (Or.inl ⟨by rfl, ?hy28⟩) hS ?rest28
    case hy28 => intro w hSw; (try dsimp only at hSw); obtain ⟨hc0, hc1, hc2, hc3, hc4, hc5, hc6, hc7, hc8, hc9, hc10, hc11, hc12, hc13, hc14, hc15, hc16, hc17, hc18, hc19, hc20, hc21, hc22, hc23, hc24, hc25, hc26, hc27, hc28, hc29⟩ := hSw; go_simp; try (with_reducible rfl)
    case rest28 =>
    try simp only [Act.put, List.setIfInBounds_toArray, List.set_cons_zero, List.set_cons_succ]
    refine ⟨by kernel_rfl, ?_⟩
    go_wp2_with fail
    go_ret
    exact ⟨rfl, HD.out.trans (BC.out.mono HD.out.size)⟩
end Go.Proofs.Ytcikoaeiopbbbaa
