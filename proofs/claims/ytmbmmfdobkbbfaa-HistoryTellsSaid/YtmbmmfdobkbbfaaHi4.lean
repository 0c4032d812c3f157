/- Layer 22: spans; spanFrom: the call that begins at a place. -/
import Derived.Test.YtmbmmfdobkbbfaaHi3
namespace Go.Proofs.Ytmbmmfdobkbbfaa
set_option linter.unusedVariables false
set_option linter.unusedSimpArgs false
open Go.RowKit Go.Shelf
attribute [local go_sem] Oper.semAt_some
set_option maxRecDepth 100000
structure SpR where
  c : Int
  n : Int
  call : CallR
  rep : RepR
  fr : Int
  to : Int
instance : Inhabited SpR := ⟨⟨0, 0, zeroC, default, 0, 0⟩⟩
abbrev spA (s : SpR) : Array Value := #[.int .i64 s.c, .int .i64 s.n, .int .i64 s.call.1, .int .u64 (s.call.2.1 : Nat), .int .i64 s.call.2.2.1, .int .i64 s.call.2.2.2.1, .int .i64 s.call.2.2.2.2.1, .int .u64 (s.call.2.2.2.2.2.1 : Nat), .string s.call.2.2.2.2.2.2, .int .i64 s.rep.why, .int .i64 s.rep.n, .slice s.rep.A s.rep.l s.rep.c, .int .i64 s.fr, .int .i64 s.to]
def encP (s : SpR) : List Value := (spA s).toList
theorem encP_len (s : SpR) : (encP s).length = 14 := rfl
theorem encP_one (s : SpR) : ∀ u ∈ encP s, u.oneCell' = true := by
  intro u hu
  simp [encP] at hu
  rcases hu with rfl | rfl | rfl | rfl | rfl | rfl | rfl | rfl | rfl | rfl | rfl | rfl | rfl | rfl <;> rfl
/-- The span of the event at a place: it ends at the client's next event. -/
def spanAt (h : List EvR) (i : Nat) : Option Nat → SpR
  | none => ⟨(evAt h i).c, (evAt h i).n, (evAt h i).call, default, (i : Int), -1⟩
  | some j => ⟨(evAt h i).c, (evAt h i).n, (evAt h i).call, (evAt h j).rep, (i : Int), (j : Int)⟩
def spanOf (h : List EvR) (i : Nat) : SpR := spanAt h i (ixs h (evAt h i).c (i + 1) h.length).head?
def zeroP : SpR := ⟨0, 0, zeroC, default, 0, 0⟩
abbrev sfW (e : EvR) (s : SpR) (w : World) : World := ((w.alloc (.cells (spA zeroP) 41)).alloc (.cells (evA e) 53)).alloc (.cells (spA s) 41)
theorem sfW_three (e : EvR) (s : SpR) (w : World) : Box (sfW e s w) w.heap.size 41 (spA zeroP) ∧ Box (sfW e s w) (w.heap.size + 1) 53 (evA e) ∧ Box (sfW e s w) (w.heap.size + 2) 41 (spA s) ∧ Below w.heap.size w (sfW e s w) ∧ (sfW e s w).heap.size = w.heap.size + 3 := by
  refine ⟨((Box.new w _ _).alloc _).alloc _, ?_, ?_, (((Below.refl _ _).alloc (Nat.le_refl _) _).alloc (by simp) _).alloc (by simp; omega) _, by simp⟩
  · have q := (Box.new (w.alloc (.cells (spA zeroP) 41)) 53 (evA e)).alloc (.cells (spA s) 41)
    simpa only [World.size_alloc] using q
  · have q := Box.new ((w.alloc (.cells (spA zeroP) 41)).alloc (.cells (evA e) 53)) 41 (spA s)
    simpa only [World.size_alloc] using q
set_option maxHeartbeats 4000000 in
theorem span_in (A : Option Addr) (len cp : Nat) (h : List EvR) (i : Nat) (hi : i < len) (hlm : len ≤ 1000000) (w : World) (hH : Evs w A len h) :
    CallsIn Fence.wide 5 Try.prog 21 #[.slice A len cp, .int .i64 (i : Int)] w fun e w' => e = .returned (.agg (spA (spanOf h i))) ∧ Below w.heap.size w w' := by
  have HLt := Lib.hid (show ∀ b off, 0 < len → A = some ⟨b, off, none⟩ → b < w.heap.size from fun b off hl e => by
    obtain ⟨b', off', e', hlt, _⟩ := hH.recs.2 hl
    rw [e] at e'; injection e' with e'; injection e' with e1 _; omega)
  obtain ⟨p0, p1, p2, pb, psz⟩ := sfW_three (evAt h i) (spanAt h i none) w
  have HH := Lib.hid (hH.below pb)
  have HP := Lib.hid (And.intro p0 (And.intro p1 (And.intro p2 (And.intro pb psz))))
  have HZ := Lib.hid (show spanOf h i = spanAt h i (ixs h (evAt h i).c (i + 1) len).head? by unfold spanOf; rw [hH.len])
  clear p0 p1 p2 pb psz
  obtain ⟨b, off, rfl, hlt, hc⟩ := hH.at13 i hi
  have hc := fun k v (hv : (evA (evAt h i)).toList[k]? = some v) => ((Below.refl w.heap.size w).alloc (Nat.le_refl _) (.cells #[.int .i64 0, .int .i64 0, .int .i64 0, .int .u64 0, .int .i64 0, .int .i64 0, .int .i64 0, .int .u64 0, .string ⟨#[]⟩, .int .i64 0, .int .i64 0, .slice none 0 0, .int .i64 0, .int .i64 0] 41)).cell (p := ⟨b, off + i * 13 + k, none⟩) hlt |>.trans (hc k v hv)
  clear hH hlt
  have HSA := Lib.hid (show ∀ o, (spanAt h i o).c = (evAt h i).c ∧ (spanAt h i o).n = (evAt h i).n ∧ (spanAt h i o).call = (evAt h i).call ∧ (spanAt h i o).fr = (i : Int) from fun o => by cases o <;> exact ⟨rfl, rfl, rfl, rfl⟩)
  have HS0 := Lib.hid (show spanAt h i none = ⟨(evAt h i).c, (evAt h i).n, (evAt h i).call, default, (i : Int), -1⟩ from rfl)
  have HS1 := Lib.hid (show ∀ j, spanAt h i (some j) = ⟨(evAt h i).c, (evAt h i).n, (evAt h i).call, (evAt h j).rep, (i : Int), (j : Int)⟩ from fun j => rfl)
  rw [HS0.out] at HP HH
  generalize evAt h i = e at *
  have d0 := hc 0 _ rfl
  have d1 := hc 1 _ rfl
  have d2 := hc 2 _ rfl
  have d3 := hc 3 _ rfl
  have d4 := hc 4 _ rfl
  have d5 := hc 5 _ rfl
  have d6 := hc 6 _ rfl
  have d7 := hc 7 _ rfl
  have d8 := hc 8 _ rfl
  have d9 := hc 9 _ rfl
  have d10 := hc 10 _ rfl
  have d11 := hc 11 _ rfl
  have d12 := hc 12 _ rfl
  simp only [Nat.add_zero] at d0
  clear hc
  have hi1 : (i : Int) < len := by omega
  have hi2 : (0 : Int) ≤ i := by omega
  have hi3 : (i : Int) < 1000000 := by omega
  refine callsIn_of_wp_marks Try.func21 rfl trivial ?_ rfl
  simp only [Try.ntmps21, List.size_toArray, List.length_cons, List.length_nil, Nat.reduceAdd, Nat.reduceSub, Array.replicate_succ, Array.replicate_zero, List.push_toArray, List.append_toArray, List.nil_append, List.cons_append]
  gi_wp2
  have HE := fun w => eventsOf_any e.c (i + 1) (some ⟨b, off, none⟩) len cp w
  simp only [Int.natCast_add] at HE
  refine ⟨trivial, (callsIn_wide.2 (HE _)).mono ?_⟩
  rintro e1 w1 ⟨B0, rfl, b1, b2, b3, hge, hb⟩
  have hsz : (sfW e ⟨e.c, e.n, e.call, default, (i : Int), -1⟩ w).heap.size = w.heap.size + 3 := HP.out.2.2.2.2
  have hge' : w.heap.size + 3 ≤ B0 := hsz ▸ hge
  have l1 := b1.lt
  have q0 : Box w1 w.heap.size 41 (spA zeroP) := HP.out.1.keep hb
  have q2 : Box w1 (w.heap.size + 2) 41 (spA ⟨e.c, e.n, e.call, default, (i : Int), -1⟩) := HP.out.2.2.1.keep hb
  have hB0 : Below w.heap.size w w1 := chain HP.out.2.2.2.1 hb
  have hH1 := HH.out.below hb
  clear hb hge HP HH d0 d1 d2 d3 d4 d5 d6 d7 d8 d9 d10 d11 d12 HE
  gi_wp2
  refine wpIn_rangeFunc_ownH rfl (by omega) (gf := 27) rfl trivial (enters_of Try.func27 (by kernel_rfl) rfl)
    (events_stops (5 - 1) (by omega) B0 e.c (i + 1) _ len cp h (by omega) hlm (fun b => b < w1.heap.size ∧ b ≠ w.heap.size ∧ b ≠ w.heap.size + 1 ∧ b ≠ w.heap.size + 2) ⟨by omega, by omega, by omega, by omega⟩ ⟨by omega, by omega, by omega, by omega⟩ ⟨by omega, by omega, by omega, by omega⟩ (fun b off hl e => by have := HLt.out b off hl e; omega) w1 b1 b2 b3 hH1) KpS.trans (kpS_put (fun b h => h.1)) (Below.refl _ _) (fun _ => rfl)
    (fun pre W => (pre = [] ∧ Box W w.heap.size 41 (spA zeroP) ∧ Box W (w.heap.size + 2) 41 (spA ⟨e.c, e.n, e.call, default, (i : Int), -1⟩)) ∧ Below w.heap.size w W ∧ w1.heap.size ≤ W.heap.size)
    (fun cd pre W => ((cd = .exit 0 ∧ ∃ x, pre = [x]) ∧ Box W w.heap.size 41 (spA zeroP) ∧ Box W (w.heap.size + 2) 41 (spA ⟨e.c, e.n, e.call, (evAt h (pre.getD 0 0)).rep, (i : Int), ((pre.getD 0 0 : Nat) : Int)⟩)) ∧ Below w.heap.size w W ∧ w1.heap.size ≤ W.heap.size)
    ?hI ?hIx ⟨⟨rfl, q0, q2⟩, hB0, Nat.le_refl _⟩
    (fun x a' W => ∃ g, w1.heap.size ≤ g ∧ Box W g 53 (evA (evAt h x)) ∧ a' = { tmps := #[.slice (some ⟨b, off, none⟩) len cp, .int .i64 (i : Int), undef, undef, .pointer (some ⟨w.heap.size, 0, none⟩), .pointer (some ⟨w.heap.size + 1, 0, none⟩), .pointer (some ⟨w.heap.size + 2, 0, none⟩), .int .i64 (x : Int), .pointer (some ⟨g, 0, none⟩), .slice (some ⟨b, off, none⟩) len cp, .int .i64 (i : Int), .pointer (some ⟨b, off + i * 13, none⟩), .agg #[.int .i64 e.c, .int .i64 e.b, .int .i64 e.n, .int .i64 e.call.1, .int .u64 (e.call.2.1 : Nat), .int .i64 e.call.2.2.1, .int .i64 e.call.2.2.2.1, .int .i64 e.call.2.2.2.2.1, .int .u64 (e.call.2.2.2.2.2.1 : Nat), .string e.call.2.2.2.2.2.2, .int .i64 e.rep.why, .int .i64 e.rep.n, .slice e.rep.A e.rep.l e.rep.c], .pointer (some ⟨w.heap.size + 1, 0, none⟩), .int .i64 e.c, .pointer (some ⟨w.heap.size + 1, 2, none⟩), .int .i64 e.n, .pointer (some ⟨w.heap.size + 1, 3, none⟩), .agg #[.int .i64 e.call.1, .int .u64 (e.call.2.1 : Nat), .int .i64 e.call.2.2.1, .int .i64 e.call.2.2.2.1, .int .i64 e.call.2.2.2.2.1, .int .u64 (e.call.2.2.2.2.2.1 : Nat), .string e.call.2.2.2.2.2.2], .int .i64 (i : Int), .agg #[.int .i64 e.c, .int .i64 e.n, .int .i64 e.call.1, .int .u64 (e.call.2.1 : Nat), .int .i64 e.call.2.2.1, .int .i64 e.call.2.2.2.1, .int .i64 e.call.2.2.2.2.1, .int .u64 (e.call.2.2.2.2.2.1 : Nat), .string e.call.2.2.2.2.2.2, .int .i64 0, .int .i64 0, .slice none 0 0, .int .i64 (i : Int), .int .i64 (-1)], .slice (some ⟨b, off, none⟩) len cp, .pointer (some ⟨w.heap.size + 1, 0, none⟩), .int .i64 e.c, .int .i64 (i : Int), .int .i64 ((i : Int) + 1), .func (.func 27) #[] #[.pointer (some ⟨B0 + 2, 0, none⟩), .pointer (some ⟨B0, 0, none⟩), .pointer (some ⟨B0 + 1, 0, none⟩)], .int .i64 (x : Int), .agg (evA (evAt h x)), undef, undef, undef, undef, undef, undef], defers := [] }) ?hAx ?assign ?body ?done ?stop
  case hI =>
    refine OwnFrom.and ?_ (OwnFrom.and (ownFrom_below (Nat.le_refl _) (by omega)) (fun _ _ _ _ hs hg _ => Nat.le_trans hs hg.size))
    exact OwnFrom.and (fun _ _ _ _ hs _ _ => hs) (OwnFrom.and (Own.from (box_own w.heap.size 41 (fun _ : List Nat => spA zeroP)) _) (Own.from (box_own (w.heap.size + 2) 41 (fun _ : List Nat => spA ⟨e.c, e.n, e.call, default, (i : Int), -1⟩)) _))
  case hIx =>
    intro cd
    refine OwnFrom.and ?_ (OwnFrom.and (ownFrom_below (Nat.le_refl _) (by omega)) (fun _ _ _ _ hs hg _ => Nat.le_trans hs hg.size))
    exact OwnFrom.and (fun _ _ _ _ hs _ _ => hs) (OwnFrom.and (Own.from (box_own w.heap.size 41 (fun _ : List Nat => spA zeroP)) _) (Own.from (box_own (w.heap.size + 2) 41 (fun pre : List Nat => spA ⟨e.c, e.n, e.call, (evAt h (pre.getD 0 0)).rep, (i : Int), ((pre.getD 0 0 : Nat) : Int)⟩)) _))
  case hAx =>
    rintro x a' s W W' row ⟨g, h1, h2, h3⟩ hg hr
    exact ⟨g, h1, Own.from (box_own g 53 (fun _ : Unit => evA (evAt h x))) _ s W W' row h2 hg hr, h3⟩
  case assign =>
    rintro l pre x W K ⟨⟨rfl, h0, h2⟩, hB, hs⟩ hK
    gi_wp2
    have hal : Below W.heap.size W (W.alloc (.cells (evA (evAt h x)) 53)) := (Below.refl _ _).alloc (Nat.le_refl _) _
    refine hK _ _ ⟨by simp, fun k o hk ho _ => (Below.heap_alloc _ _ _ (Array.getElem?_eq_some_iff.1 ho).1).trans ho⟩ (fun b hb => Below.heap_alloc _ _ _ (by have := hb.1; omega)) ⟨⟨(by first | rfl | trivial), h0.keep hal, h2.keep hal⟩, chain hB hal, by simp; omega⟩ ⟨W.heap.size, hs, Box.new _ _ _, rfl⟩
  case body =>
    rintro l pre x a' W hl hr ⟨⟨rfl, h0, h2⟩, hB, hs⟩ ⟨g, hg, hbx, rfl⟩ hlt
    generalize he2 : evAt h x = e2 at *
    have HE2 := Lib.hid he2
    have d10 := hbx.cell 10
    have d11 := hbx.cell 11
    have d12 := hbx.cell 12
    have c9 := h2.cell 9
    have c10 := h2.cell 10
    have c11 := h2.cell 11
    have c13 := h2.cell 13
    have u9 := h2.free 9
    have u10 := h2.free 10
    have u11 := h2.free 11
    have u13 := h2.free 13
    have hmx : Try.prog.follows .mixedOrders = true := by kernel_rfl
    have hgn : ¬ g = w.heap.size + 2 := by omega
    have hgn2 : ¬ w.heap.size + 2 = g := by omega
    have P2 : Box ((((W.setCell ⟨w.heap.size + 2, 13, none⟩ (.int .i64 (x : Int))).setCell ⟨w.heap.size + 2, 9, none⟩ (.int .i64 e2.rep.why)).setCell ⟨w.heap.size + 2, 10, none⟩ (.int .i64 e2.rep.n)).setCell ⟨w.heap.size + 2, 11, none⟩ (.slice e2.rep.A e2.rep.l e2.rep.c)) (w.heap.size + 2) 41 (spA ⟨e.c, e.n, e.call, (evAt h x).rep, (i : Int), (x : Int)⟩) := by rw [he2]; exact (((h2.put 13 _).put 9 _).put 10 _).put 11 _
    have P0 := ((h0.far (p := ⟨w.heap.size + 2, 13, none⟩) (by show w.heap.size ≠ w.heap.size + 2; omega) (.int .i64 (x : Int))).far (p := ⟨w.heap.size + 2, 9, none⟩) (by show w.heap.size ≠ w.heap.size + 2; omega) (.int .i64 e2.rep.why)).far (p := ⟨w.heap.size + 2, 10, none⟩) (by show w.heap.size ≠ w.heap.size + 2; omega) (.int .i64 e2.rep.n) |>.far (p := ⟨w.heap.size + 2, 11, none⟩) (by show w.heap.size ≠ w.heap.size + 2; omega) (.slice e2.rep.A e2.rep.l e2.rep.c)
    have PB := ((hB.setCell (p := ⟨w.heap.size + 2, 13, none⟩) (by show w.heap.size ≤ w.heap.size + 2; omega) (.int .i64 (x : Int))).setCell (p := ⟨w.heap.size + 2, 9, none⟩) (by show w.heap.size ≤ w.heap.size + 2; omega) (.int .i64 e2.rep.why)).setCell (p := ⟨w.heap.size + 2, 10, none⟩) (by show w.heap.size ≤ w.heap.size + 2; omega) (.int .i64 e2.rep.n) |>.setCell (p := ⟨w.heap.size + 2, 11, none⟩) (by show w.heap.size ≤ w.heap.size + 2; omega) (.slice e2.rep.A e2.rep.l e2.rep.c)
    have PK := (((KeepsOthers.setCell W ⟨w.heap.size + 2, 13, none⟩ (.int .i64 (x : Int))).trans (KeepsOthers.setCell _ ⟨w.heap.size + 2, 9, none⟩ (.int .i64 e2.rep.why))).trans (KeepsOthers.setCell _ ⟨w.heap.size + 2, 10, none⟩ (.int .i64 e2.rep.n))).trans (KeepsOthers.setCell _ ⟨w.heap.size + 2, 11, none⟩ (.slice e2.rep.A e2.rep.l e2.rep.c))
    generalize hX : ((((W.setCell ⟨w.heap.size + 2, 13, none⟩ (.int .i64 (x : Int))).setCell ⟨w.heap.size + 2, 9, none⟩ (.int .i64 e2.rep.why)).setCell ⟨w.heap.size + 2, 10, none⟩ (.int .i64 e2.rep.n)).setCell ⟨w.heap.size + 2, 11, none⟩ (.slice e2.rep.A e2.rep.l e2.rep.c)) = X at *
    have HX := Lib.hid hX
    have HPost := Lib.hid (And.intro P2.drew (And.intro P0.drew (And.intro PB.drew (And.intro (show KeepsFrom w1.heap.size W X.drew from ⟨PK.size, (PK.from _).same⟩) (show w1.heap.size ≤ X.drew.heap.size from Nat.le_trans hs PK.size)))))
    clear hX
    simp at d10 d11 d12 c9 c10 c11 c13
    clear h0 h2 hB hbx hr hl hlt he2 P2 P0 PB PK
    gi_wp2
    gi_region_o
    all_goals
      gi_wp2
      rw [HX.out]
      exact ⟨HPost.out.2.2.2.1, ⟨⟨rfl, x, rfl⟩, HPost.out.2.1, HPost.out.1⟩, HPost.out.2.2.1, HPost.out.2.2.2.2⟩
  case done =>
    rintro D ys W hD rfl ⟨⟨hys, h0, h2⟩, hB, hs⟩ hK
    have HR := Lib.hid (show spanOf h i = ⟨e.c, e.n, e.call, default, (i : Int), -1⟩ by rw [HZ.out, hys]; exact HS0.out)
    generalize (⟨e.c, e.n, e.call, default, (i : Int), -1⟩ : SpR) = sp at *
    generalize zeroP = zp at *
    have HB := Lib.hid hB
    have HK := Lib.hid hK
    have H0 := Lib.hid h0
    have H2 := Lib.hid h2
    have c0 := h2.cell 0
    have r0 := h0.cell 0
    have f0 := h0.free 0
    have c1 := h2.cell 1
    have r1 := h0.cell 1
    have f1 := h0.free 1
    have c2 := h2.cell 2
    have r2 := h0.cell 2
    have f2 := h0.free 2
    have c3 := h2.cell 3
    have r3 := h0.cell 3
    have f3 := h0.free 3
    have c4 := h2.cell 4
    have r4 := h0.cell 4
    have f4 := h0.free 4
    have c5 := h2.cell 5
    have r5 := h0.cell 5
    have f5 := h0.free 5
    have c6 := h2.cell 6
    have r6 := h0.cell 6
    have f6 := h0.free 6
    have c7 := h2.cell 7
    have r7 := h0.cell 7
    have f7 := h0.free 7
    have c8 := h2.cell 8
    have r8 := h0.cell 8
    have f8 := h0.free 8
    have c9 := h2.cell 9
    have r9 := h0.cell 9
    have f9 := h0.free 9
    have c10 := h2.cell 10
    have r10 := h0.cell 10
    have f10 := h0.free 10
    have c11 := h2.cell 11
    have r11 := h0.cell 11
    have f11 := h0.free 11
    have c12 := h2.cell 12
    have r12 := h0.cell 12
    have f12 := h0.free 12
    have c13 := h2.cell 13
    have r13 := h0.cell 13
    have f13 := h0.free 13
    simp at c0 r0 c1 r1 c2 r2 c3 r3 c4 r4 c5 r5 c6 r6 c7 r7 c8 r8 c9 r9 c10 r10 c11 r11 c12 r12 c13 r13
    have hD0 : ¬ D = w.heap.size := by omega
    clear h0 h2 hB hK
    gi_wp2
    have hK2 : (setL W w.heap.size 0 [.int .i64 sp.c, .int .i64 sp.n, .int .i64 sp.call.1, .int .u64 (sp.call.2.1 : Nat), .int .i64 sp.call.2.2.1, .int .i64 sp.call.2.2.2.1, .int .i64 sp.call.2.2.2.2.1, .int .u64 (sp.call.2.2.2.2.2.1 : Nat), .string sp.call.2.2.2.2.2.2, .int .i64 sp.rep.why, .int .i64 sp.rep.n, .slice sp.rep.A sp.rep.l sp.rep.c, .int .i64 sp.fr, .int .i64 sp.to]).heap[D]? = some (.deferred (some [])) := by
      rw [heap_setL hD0]; exact HK.out
    simp only [setL, Nat.zero_add, Nat.reduceAdd] at hK2
    refine ⟨by simp, .inl ⟨_, _, rfl, run_takeDeferred hK2, ?_⟩⟩
    have P1 : Box ((setL W w.heap.size 0 [.int .i64 sp.c, .int .i64 sp.n, .int .i64 sp.call.1, .int .u64 (sp.call.2.1 : Nat), .int .i64 sp.call.2.2.1, .int .i64 sp.call.2.2.2.1, .int .i64 sp.call.2.2.2.2.1, .int .u64 (sp.call.2.2.2.2.2.1 : Nat), .string sp.call.2.2.2.2.2.2, .int .i64 sp.rep.why, .int .i64 sp.rep.n, .slice sp.rep.A sp.rep.l sp.rep.c, .int .i64 sp.fr, .int .i64 sp.to]).putObj D (.deferred none)) w.heap.size 41 (spA sp) := boxed_putObj hD0 (H0.out.putAll [.int .i64 sp.c, .int .i64 sp.n, .int .i64 sp.call.1, .int .u64 (sp.call.2.1 : Nat), .int .i64 sp.call.2.2.1, .int .i64 sp.call.2.2.2.1, .int .i64 sp.call.2.2.2.2.1, .int .u64 (sp.call.2.2.2.2.2.1 : Nat), .string sp.call.2.2.2.2.2.2, .int .i64 sp.rep.why, .int .i64 sp.rep.n, .slice sp.rep.A sp.rep.l sp.rep.c, .int .i64 sp.fr, .int .i64 sp.to] rfl)
    simp only [setL, Nat.zero_add, Nat.reduceAdd] at P1
    have g0 := P1.cell 0
    have g1 := P1.cell 1
    have g2 := P1.cell 2
    have g3 := P1.cell 3
    have g4 := P1.cell 4
    have g5 := P1.cell 5
    have g6 := P1.cell 6
    have g7 := P1.cell 7
    have g8 := P1.cell 8
    have g9 := P1.cell 9
    have g10 := P1.cell 10
    have g11 := P1.cell 11
    have g12 := P1.cell 12
    have g13 := P1.cell 13
    simp at g0 g1 g2 g3 g4 g5 g6 g7 g8 g9 g10 g11 g12 g13
    refine ⟨.agg (spA sp), by simp [results, Try.results21, go_sem, g0, g1, g2, g3, g4, g5, g6, g7, g8, g9, g10, g11, g12, g13], by rw [HR.out], ?_⟩
    have PB := below_setL (g := w.heap.size) (Nat.le_refl _) [.int .i64 sp.c, .int .i64 sp.n, .int .i64 sp.call.1, .int .u64 (sp.call.2.1 : Nat), .int .i64 sp.call.2.2.1, .int .i64 sp.call.2.2.2.1, .int .i64 sp.call.2.2.2.2.1, .int .u64 (sp.call.2.2.2.2.2.1 : Nat), .string sp.call.2.2.2.2.2.2, .int .i64 sp.rep.why, .int .i64 sp.rep.n, .slice sp.rep.A sp.rep.l sp.rep.c, .int .i64 sp.fr, .int .i64 sp.to] 0 HB.out
    simp only [setL, Nat.zero_add, Nat.reduceAdd] at PB
    exact PB.trans (belowK_b (w := w) (Nat.le_refl _) _ D _ _ (by omega) hK2 rfl rfl)
  case stop =>
    rintro D cd pre W hD hpre ⟨⟨⟨rfl, x, rfl⟩, h0, h2⟩, hB, hs⟩ hK
    have h2 : Box W (w.heap.size + 2) 41 (spA ⟨e.c, e.n, e.call, (evAt h x).rep, (i : Int), (x : Int)⟩) := h2
    have HR := Lib.hid (show spanOf h i = ⟨e.c, e.n, e.call, (evAt h x).rep, (i : Int), (x : Int)⟩ by
      obtain ⟨⟨t, ht⟩, -⟩ := hpre
      rw [HZ.out, ← ht]; exact HS1.out x)
    generalize (⟨e.c, e.n, e.call, (evAt h x).rep, (i : Int), (x : Int)⟩ : SpR) = sp at *
    generalize zeroP = zp at *
    have HB := Lib.hid hB
    have HK := Lib.hid hK
    have H0 := Lib.hid h0
    have H2 := Lib.hid h2
    have c0 := h2.cell 0
    have r0 := h0.cell 0
    have f0 := h0.free 0
    have c1 := h2.cell 1
    have r1 := h0.cell 1
    have f1 := h0.free 1
    have c2 := h2.cell 2
    have r2 := h0.cell 2
    have f2 := h0.free 2
    have c3 := h2.cell 3
    have r3 := h0.cell 3
    have f3 := h0.free 3
    have c4 := h2.cell 4
    have r4 := h0.cell 4
    have f4 := h0.free 4
    have c5 := h2.cell 5
    have r5 := h0.cell 5
    have f5 := h0.free 5
    have c6 := h2.cell 6
    have r6 := h0.cell 6
    have f6 := h0.free 6
    have c7 := h2.cell 7
    have r7 := h0.cell 7
    have f7 := h0.free 7
    have c8 := h2.cell 8
    have r8 := h0.cell 8
    have f8 := h0.free 8
    have c9 := h2.cell 9
    have r9 := h0.cell 9
    have f9 := h0.free 9
    have c10 := h2.cell 10
    have r10 := h0.cell 10
    have f10 := h0.free 10
    have c11 := h2.cell 11
    have r11 := h0.cell 11
    have f11 := h0.free 11
    have c12 := h2.cell 12
    have r12 := h0.cell 12
    have f12 := h0.free 12
    have c13 := h2.cell 13
    have r13 := h0.cell 13
    have f13 := h0.free 13
    simp at c0 r0 c1 r1 c2 r2 c3 r3 c4 r4 c5 r5 c6 r6 c7 r7 c8 r8 c9 r9 c10 r10 c11 r11 c12 r12 c13 r13
    have hD0 : ¬ D = w.heap.size := by omega
    clear h0 h2 hB hK
    gi_wp2
    have hK2 : (setL W w.heap.size 0 [.int .i64 sp.c, .int .i64 sp.n, .int .i64 sp.call.1, .int .u64 (sp.call.2.1 : Nat), .int .i64 sp.call.2.2.1, .int .i64 sp.call.2.2.2.1, .int .i64 sp.call.2.2.2.2.1, .int .u64 (sp.call.2.2.2.2.2.1 : Nat), .string sp.call.2.2.2.2.2.2, .int .i64 sp.rep.why, .int .i64 sp.rep.n, .slice sp.rep.A sp.rep.l sp.rep.c, .int .i64 sp.fr, .int .i64 sp.to]).heap[D]? = some (.deferred (some [])) := by
      rw [heap_setL hD0]; exact HK.out
    simp only [setL, Nat.zero_add, Nat.reduceAdd] at hK2
    refine ⟨by simp, .inl ⟨_, _, rfl, run_takeDeferred hK2, ?_⟩⟩
    have P1 : Box ((setL W w.heap.size 0 [.int .i64 sp.c, .int .i64 sp.n, .int .i64 sp.call.1, .int .u64 (sp.call.2.1 : Nat), .int .i64 sp.call.2.2.1, .int .i64 sp.call.2.2.2.1, .int .i64 sp.call.2.2.2.2.1, .int .u64 (sp.call.2.2.2.2.2.1 : Nat), .string sp.call.2.2.2.2.2.2, .int .i64 sp.rep.why, .int .i64 sp.rep.n, .slice sp.rep.A sp.rep.l sp.rep.c, .int .i64 sp.fr, .int .i64 sp.to]).putObj D (.deferred none)) w.heap.size 41 (spA sp) := boxed_putObj hD0 (H0.out.putAll [.int .i64 sp.c, .int .i64 sp.n, .int .i64 sp.call.1, .int .u64 (sp.call.2.1 : Nat), .int .i64 sp.call.2.2.1, .int .i64 sp.call.2.2.2.1, .int .i64 sp.call.2.2.2.2.1, .int .u64 (sp.call.2.2.2.2.2.1 : Nat), .string sp.call.2.2.2.2.2.2, .int .i64 sp.rep.why, .int .i64 sp.rep.n, .slice sp.rep.A sp.rep.l sp.rep.c, .int .i64 sp.fr, .int .i64 sp.to] rfl)
    simp only [setL, Nat.zero_add, Nat.reduceAdd] at P1
    have g0 := P1.cell 0
    have g1 := P1.cell 1
    have g2 := P1.cell 2
    have g3 := P1.cell 3
    have g4 := P1.cell 4
    have g5 := P1.cell 5
    have g6 := P1.cell 6
    have g7 := P1.cell 7
    have g8 := P1.cell 8
    have g9 := P1.cell 9
    have g10 := P1.cell 10
    have g11 := P1.cell 11
    have g12 := P1.cell 12
    have g13 := P1.cell 13
    simp at g0 g1 g2 g3 g4 g5 g6 g7 g8 g9 g10 g11 g12 g13
    refine ⟨.agg (spA sp), by simp [results, Try.results21, go_sem, g0, g1, g2, g3, g4, g5, g6, g7, g8, g9, g10, g11, g12, g13], by rw [HR.out], ?_⟩
    have PB := below_setL (g := w.heap.size) (Nat.le_refl _) [.int .i64 sp.c, .int .i64 sp.n, .int .i64 sp.call.1, .int .u64 (sp.call.2.1 : Nat), .int .i64 sp.call.2.2.1, .int .i64 sp.call.2.2.2.1, .int .i64 sp.call.2.2.2.2.1, .int .u64 (sp.call.2.2.2.2.2.1 : Nat), .string sp.call.2.2.2.2.2.2, .int .i64 sp.rep.why, .int .i64 sp.rep.n, .slice sp.rep.A sp.rep.l sp.rep.c, .int .i64 sp.fr, .int .i64 sp.to] 0 HB.out
    simp only [setL, Nat.zero_add, Nat.reduceAdd] at PB
    exact PB.trans (belowK_b (w := w) (Nat.le_refl _) _ D _ _ (by omega) hK2 rfl rfl)
end Go.Proofs.Ytmbmmfdobkbbfaa
