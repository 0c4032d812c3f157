/- ShardAdds: the walk. -/
import Derived.Test.YtehlebeeoeghmaaShM
namespace Go.Proofs.Ytehlebeeoeghmaa
set_option linter.unusedVariables false
set_option linter.unusedSimpArgs false
open Go.RowKit Go.Lib
set_option maxRecDepth 100000
theorem cutX_no (s : ByteArray) (h : s.size ≤ 66) : cutX s = s := (cutX_id s h).symm
theorem SpS.belowS {w0 w : World} {base g : Nat} {v : Value} {ls : List (List SymR)} (h : SpS w0 base w v ls) (hg : g < base) (i : Nat) (u : Value) : SpS w0 base (w.setCell ⟨g, i, none⟩ u) v ls := by
  obtain ⟨rs, e1, e2, e3⟩ := h
  exact ⟨rs, e1, ownsRow_setCell_below e2 (a := ⟨g, i, none⟩) hg u, fun j hj => ⟨(e3 j hj).1, (e3 j hj).2.imp id fun k => ownsRow_setCell_below k (a := ⟨g, i, none⟩) hg u⟩⟩
def set3 (w : World) (g : Nat) (a b c : Value) : World := ((w.setCell ⟨g, 0, none⟩ a).setCell ⟨g, 1, none⟩ b).setCell ⟨g, 2, none⟩ c
theorem Box.aside3 {w : World} {g g' : Nat} {t : TypeId} {cs : Array Value} (h : Box w g t cs) (hne : g ≠ g') (a b c : Value) : Box (set3 w g' a b c) g t cs := ((h.aside hne 0 a).aside hne 1 b).aside hne 2 c
theorem Box.put3 {w : World} {g : Nat} {t : TypeId} {a b d u v x : Value} (h : Box w g t #[a, b, d]) : Box (set3 w g u v x) g t #[u, v, x] := h.put3S
theorem SpS.below3 {w0 w : World} {base g : Nat} {v : Value} {ls : List (List SymR)} (h : SpS w0 base w v ls) (hg : g < base) (a b c : Value) : SpS w0 base (set3 w g a b c) v ls := ((h.belowS hg 0 a).belowS hg 1 b).belowS hg 2 c
theorem below_set3 {m g : Nat} {w w' : World} (h : Below m w w') (hg : m ≤ g) (a b c : Value) : Below m w (set3 w' g a b c) := ((h.setCell hg a).setCell hg b).setCell hg c
/-- What the three stores leave. -/
theorem adds_out {W y : World} {ta tb tx : TypeId} {a0 a1 a2 b0 b1 b2 x0 x1 u0 u1 u2 p0 p1 p2 z1 v3 v4 : Value} {fa fb : List (List SymR)} (RA : Box y W.heap.size ta #[a0, a1, a2]) (RB : Box y (W.heap.size + 1) tb #[b0, b1, b2]) (RX : Box y (W.heap.size + 1 + 1) tx #[x0, x1])
    (s3 : SpS W (W.heap.size + 3) y v3 fa) (s4 : SpS W (W.heap.size + 3) y v4 fb) (hb : Below W.heap.size W y) :
    Box ((set3 (set3 y W.heap.size u0 u1 u2) (W.heap.size + 1) p0 p1 p2).setCell ⟨W.heap.size + 1 + 1, 1, none⟩ z1) W.heap.size ta #[u0, u1, u2] ∧
    Box ((set3 (set3 y W.heap.size u0 u1 u2) (W.heap.size + 1) p0 p1 p2).setCell ⟨W.heap.size + 1 + 1, 1, none⟩ z1) (W.heap.size + 1) tb #[p0, p1, p2] ∧
    Box ((set3 (set3 y W.heap.size u0 u1 u2) (W.heap.size + 1) p0 p1 p2).setCell ⟨W.heap.size + 1 + 1, 1, none⟩ z1) (W.heap.size + 1 + 1) tx #[x0, z1] ∧
    SpS W W.heap.size ((set3 (set3 y W.heap.size u0 u1 u2) (W.heap.size + 1) p0 p1 p2).setCell ⟨W.heap.size + 1 + 1, 1, none⟩ z1) v3 fa ∧
    SpS W W.heap.size ((set3 (set3 y W.heap.size u0 u1 u2) (W.heap.size + 1) p0 p1 p2).setCell ⟨W.heap.size + 1 + 1, 1, none⟩ z1) v4 fb ∧
    Below W.heap.size W ((set3 (set3 y W.heap.size u0 u1 u2) (W.heap.size + 1) p0 p1 p2).setCell ⟨W.heap.size + 1 + 1, 1, none⟩ z1) :=
  ⟨((RA.put3).aside3 (by omega) _ _ _).aside (by omega) _ _, ((RB.aside3 (by omega) _ _ _).put3).aside (by omega) _ _, ((RX.aside3 (by omega) _ _ _).aside3 (by omega) _ _ _).put 1 z1,
    (((s3.below3 (by omega) _ _ _).below3 (by omega) _ _ _).belowS (by omega) _ _).low (by omega), (((s4.below3 (by omega) _ _ _).below3 (by omega) _ _ _).belowS (by omega) _ _).low (by omega),
    (below_set3 (below_set3 hb (Nat.le_refl _) _ _ _) (by omega) _ _ _).setCell (by show W.heap.size ≤ W.heap.size + 1 + 1; omega) _⟩
theorem ShAt.rows {w : World} {q z : Int} {A : Option Addr} {c : Nat} {ls : List (List SymR)} (h : ShAt w (.agg #[.int .i64 q, .int .i64 z, .slice A ls.length c]) (q, z, ls)) : SliceOk A ls.length c ∧ Lsts w A ls.length ls := by
  obtain ⟨A', c', e, h1, h2⟩ := h
  cases e
  exact ⟨h1, h2⟩
theorem SpS.at' {w0 w : World} {base n : Nat} {A : Option Addr} {c : Nat} {ls : List (List SymR)} (h : SpS w0 base w (.slice A n c) ls) (hb : Below w0.heap.size w0 w) (q z : Int) (hn : ls.length = n) : ShAt w (.agg #[.int .i64 q, .int .i64 z, .slice A n c]) (q, z, ls) := h.at hb q z
set_option maxHeartbeats 16000000 in
theorem adds13_any (q1 z1 : Int) (A1 : Option Addr) (c1 : Nat) (la : List (List SymR)) (q2 z2 : Int) (A2 : Option Addr) (c2 : Nat) (lb : List (List SymR)) (id : Nat) (dt : ByteArray) (n z q : Int) (W : World)
    (ha : SliceOk A1 la.length c1) (hla : Lsts W A1 la.length la) (hia : IdsOk la) (hb : SliceOk A2 lb.length c2) (hlb : Lsts W A2 lb.length lb) (hib : IdsOk lb) :
    Calls Try.prog 3 #[.agg #[.int .i64 q1, .int .i64 z1, .slice A1 la.length c1], .agg #[.int .i64 q2, .int .i64 z2, .slice A2 lb.length c2], .agg #[.int .u64 (id : Int), .string dt], .int .i64 n, .int .i64 z, .int .i64 q] W fun e w' => e = .returned (.bool true) ∧ Below W.heap.size W w' := by
  have b1 : Below W.heap.size W (W.alloc (.cells #[.int .i64 q1, .int .i64 z1, .slice A1 la.length c1] 24)) := (Below.refl W.heap.size W).alloc (Nat.le_refl _) _
  have b2 := b1.alloc b1.size (.cells #[.int .i64 q2, .int .i64 z2, .slice A2 lb.length c2] 24)
  have b3 := b2.alloc b2.size (.cells #[.int .u64 (id : Int), .string dt] 27)
  have HB := Lib.hid b3
  have QA := Lib.hid (((Box.new W 24 #[.int .i64 q1, .int .i64 z1, .slice A1 la.length c1]).alloc (.cells #[.int .i64 q2, .int .i64 z2, .slice A2 lb.length c2] 24)).alloc (.cells #[.int .u64 (id : Int), .string dt] 27))
  have qb := (Box.new (W.alloc (.cells #[.int .i64 q1, .int .i64 z1, .slice A1 la.length c1] 24)) 24 #[.int .i64 q2, .int .i64 z2, .slice A2 lb.length c2]).alloc (.cells #[.int .u64 (id : Int), .string dt] 27)
  have qx := Box.new ((W.alloc (.cells #[.int .i64 q1, .int .i64 z1, .slice A1 la.length c1] 24)).alloc (.cells #[.int .i64 q2, .int .i64 z2, .slice A2 lb.length c2] 24)) 27 #[.int .u64 (id : Int), .string dt]
  simp only [World.size_alloc] at qb qx
  have QB := Lib.hid qb
  have QX := Lib.hid qx
  have H1 := Lib.hid (fun wy (hw : Below W.heap.size W wy) => few13_any q1 z1 A1 c1 la wy ha (Lsts.below hla hw) W)
  have H2 := Lib.hid (fun wy (hw : Below W.heap.size W wy) => few13_any q2 z2 A2 c2 lb wy hb (Lsts.below hlb hw) W)
  have OA := Lib.hid (fewSh_ok hia)
  have OB := Lib.hid (fewSh_ok hib)
  obtain ⟨fa, hfa⟩ : ∃ y, y = fewTo la 18 := ⟨_, rfl⟩
  obtain ⟨fb, hfb⟩ : ∃ y, y = fewTo lb 18 := ⟨_, rfl⟩
  rw [← hfa] at H1 OA
  rw [← hfb] at H2 OB
  have HC1 := Lib.hid (cutX_no dt)
  have HC2 := Lib.hid (show 66 ≤ dt.size → cutX dt = dt.extract 0 66 from fun h => (cutX_min dt 66 (by omega)).symm)
  obtain ⟨ct, hct⟩ : ∃ y, y = cutX dt := ⟨_, rfl⟩
  rw [← hct] at HC1 HC2
  clear b1 b2 b3 qb qx ha hla hia hb hlb hib hfa hfb hct
  obtain ⟨r0, r1, r2⟩ := QA.out.tri
  obtain ⟨s0, s1, s2⟩ := QB.out.tri
  obtain ⟨x0, x1, -, -⟩ := QX.out.two
  go_enter Try.func3, Try.ntmps3
  go_upto_region 1 with (fail)
  go_cut [] (fun wx => ∃ A3 c3 A4 c4, Hid (Box wx W.heap.size 24 #[.int .i64 q1, .int .i64 z1, .slice A3 fa.length c3]) ∧ Hid (Box wx (W.heap.size + 1) 24 #[.int .i64 q2, .int .i64 z2, .slice A4 fb.length c4]) ∧ Hid (Box wx (W.heap.size + 1 + 1) 27 #[.int .u64 (id : Int), .string ct]) ∧ Hid (SpS W W.heap.size wx (.slice A3 fa.length c3) fa) ∧ Hid (SpS W W.heap.size wx (.slice A4 fb.length c4) fb) ∧ Hid (Below W.heap.size W wx))
  case first =>
    by_cases hd : dt.size ≤ 66
    · have hdc := (HC1.out hd).symm
      have hd1 : (dt.size : Int) ≤ 66 := by omega
      have hd2 : ¬ (66 : Int) < dt.size := by omega
      have hdm : min (dt.size : Int) 66 = (dt.size : Int) := by omega
      subst hdc
      refine wp_heldK_bar [(11, (fun (w' : World) => w'.cell? ⟨W.heap.size, 0, none⟩ = some (.int .i64 q1) ∧ w'.cell? ⟨W.heap.size, 1, none⟩ = some (.int .i64 z1) ∧ w'.cell? ⟨W.heap.size, 2, none⟩ = some (.slice A1 la.length c1))), (12, (fun (w' : World) => w'.cell? ⟨W.heap.size + 1, 0, none⟩ = some (.int .i64 q2) ∧ w'.cell? ⟨W.heap.size + 1, 1, none⟩ = some (.int .i64 z2) ∧ w'.cell? ⟨W.heap.size + 1, 2, none⟩ = some (.slice A2 lb.length c2))), (14, (fun (w' : World) => w'.cell? ⟨W.heap.size + 1 + 1, 1, none⟩ = some (.string dt)))] 15 (by kernel_rfl) (by decide) ?_
      have hS0 := (show ((fun (w' : World) => w'.cell? ⟨W.heap.size, 0, none⟩ = some (.int .i64 q1) ∧ w'.cell? ⟨W.heap.size, 1, none⟩ = some (.int .i64 z1) ∧ w'.cell? ⟨W.heap.size, 2, none⟩ = some (.slice A1 la.length c1))) (((W.alloc (.cells #[.int .i64 q1, .int .i64 z1, .slice A1 la.length c1] 24)).alloc (.cells #[.int .i64 q2, .int .i64 z2, .slice A2 lb.length c2] 24)).alloc (.cells #[.int .u64 (id : Int), .string dt] 27)).drew from ⟨r0, r1, r2⟩)
      have hS1 := (show ((fun (w' : World) => w'.cell? ⟨W.heap.size + 1, 0, none⟩ = some (.int .i64 q2) ∧ w'.cell? ⟨W.heap.size + 1, 1, none⟩ = some (.int .i64 z2) ∧ w'.cell? ⟨W.heap.size + 1, 2, none⟩ = some (.slice A2 lb.length c2))) (((W.alloc (.cells #[.int .i64 q1, .int .i64 z1, .slice A1 la.length c1] 24)).alloc (.cells #[.int .i64 q2, .int .i64 z2, .slice A2 lb.length c2] 24)).alloc (.cells #[.int .u64 (id : Int), .string dt] 27)).drew from ⟨s0, s1, s2⟩)
      have hS2 := (show ((fun (w' : World) => w'.cell? ⟨W.heap.size + 1 + 1, 1, none⟩ = some (.string dt))) (((W.alloc (.cells #[.int .i64 q1, .int .i64 z1, .slice A1 la.length c1] 24)).alloc (.cells #[.int .i64 q2, .int .i64 z2, .slice A2 lb.length c2] 24)).alloc (.cells #[.int .u64 (id : Int), .string dt] 27)).drew from x1)
      refine headK_load 0 11 _ rfl (i := 0) (v := ?_) rfl (by kernel_rfl) (fun _ _ _ h => h) (fun _ _ _ h => passed_ready h.1) (Or.inl ⟨by rfl, ?hy1⟩) ⟨fun _ => hS0, fun _ => hS1, fun _ => hS2, trivial⟩ ?rest1
      case hy1 => intro w hSw; (try dsimp only at hSw); obtain ⟨hc0, hc1, hc2⟩ := hSw; go_simp; try (with_reducible rfl)
      case rest1 =>
      try simp only [Act.put, List.setIfInBounds_toArray, List.set_cons_zero, List.set_cons_succ]
      refine headK_load 1 12 _ rfl (i := 2) (v := ?_) rfl (by kernel_rfl) (fun _ _ _ h => h) (fun _ _ _ h => passed_ready h.1) (Or.inl ⟨by rfl, ?hy2⟩) ⟨fun _ => hS0, fun _ => hS1, fun _ => hS2, trivial⟩ ?rest2
      case hy2 => intro w hSw; (try dsimp only at hSw); obtain ⟨hc0, hc1, hc2⟩ := hSw; go_simp; try (with_reducible rfl)
      case rest2 =>
      try simp only [Act.put, List.setIfInBounds_toArray, List.set_cons_zero, List.set_cons_succ]
      refine headK_take (i := 4) (v := ?_) rfl (by kernel_rfl) (fun _ _ _ h => h) (fun _ _ _ h => passed_ready h.1) (Or.inl ⟨by rfl, ?hy3⟩) ⟨fun _ => hS0, fun _ => hS1, fun _ => hS2, trivial⟩ ?rest3
      case hy3 => intro w _; go_simp; try (with_reducible rfl)
      case rest3 =>
      try simp only [Act.put, List.setIfInBounds_toArray, List.set_cons_zero, List.set_cons_succ]
      refine headK_load 2 14 _ rfl (i := 5) (v := ?_) rfl (by kernel_rfl) (fun _ _ _ h => h) (fun _ _ _ h => passed_ready h.1) (Or.inl ⟨by rfl, ?hy4⟩) ⟨fun _ => hS0, fun _ => hS1, fun _ => hS2, trivial⟩ ?rest4
      case hy4 => intro w hSw; (try dsimp only at hSw); go_simp; try (with_reducible rfl)
      case rest4 =>
      try simp only [Act.put, List.setIfInBounds_toArray, List.set_cons_zero, List.set_cons_succ]
      refine headK_take (i := 6) (v := ?_) rfl (by kernel_rfl) (fun _ _ _ h => h) (fun _ _ _ h => passed_ready h.1) (Or.inl ⟨by rfl, ?hy5⟩) ⟨fun _ => hS0, fun _ => hS1, fun _ => hS2, trivial⟩ ?rest5
      case hy5 => intro w _; go_simp; try (with_reducible rfl)
      case rest5 =>
      try simp only [Act.put, List.setIfInBounds_toArray, List.set_cons_zero, List.set_cons_succ]
      refine headK_load 2 14 _ rfl (i := 7) (v := ?_) rfl (by kernel_rfl) (fun _ _ _ h => h) (fun _ _ _ h => passed_ready h.1) (Or.inl ⟨by rfl, ?hy6⟩) ⟨fun _ => hS0, fun _ => hS1, fun _ => hS2, trivial⟩ ?rest6
      case hy6 => intro w hSw; (try dsimp only at hSw); go_simp; try (with_reducible rfl)
      case rest6 =>
      try simp only [Act.put, List.setIfInBounds_toArray, List.set_cons_zero, List.set_cons_succ]
      refine headK_take (i := 8) (v := ?_) rfl (by kernel_rfl) (fun _ _ _ h => h) (fun _ _ _ h => passed_ready h.1) (Or.inl ⟨by rfl, ?hy7⟩) ⟨fun _ => hS0, fun _ => hS1, fun _ => hS2, trivial⟩ ?rest7
      case hy7 => intro w _; go_simp; try (with_reducible rfl)
      case rest7 =>
      try simp only [Act.put, List.setIfInBounds_toArray, List.set_cons_zero, List.set_cons_succ]
      refine headK_take (i := 9) (v := ?_) rfl (by kernel_rfl) (fun _ _ _ h => h) (fun _ _ _ h => passed_ready h.1) (Or.inl ⟨by rfl, ?hy8⟩) ⟨fun _ => hS0, fun _ => hS1, fun _ => hS2, trivial⟩ ?rest8
      case hy8 => intro w _; go_simp; try (with_reducible rfl)
      case rest8 =>
      try simp only [Act.put, List.setIfInBounds_toArray, List.set_cons_zero, List.set_cons_succ]
      refine headK_take (i := 10) (v := ?_) rfl (by kernel_rfl) (fun _ _ _ h => h) (fun _ _ _ h => passed_ready h.1) (Or.inl ⟨by rfl, ?hy9⟩) ⟨fun _ => hS0, fun _ => hS1, fun _ => hS2, trivial⟩ ?rest9
      case hy9 => intro w _; go_simp; try (with_reducible rfl)
      case rest9 =>
      try simp only [Act.put, List.setIfInBounds_toArray, List.set_cons_zero, List.set_cons_succ]
      refine headK_one (i := 1) (by kernel_rfl) rfl (fun K hK => ?_)
      go_simp
      refine (H1.out _ HB.out.drew).mono ?_
      rintro e1 y1 ⟨A3, c3, rfl, hsp, hb⟩
      have PA := Lib.hid (QA.out.drew.keep hb)
      have PB := Lib.hid (QB.out.drew.keep hb)
      have PX := Lib.hid (QX.out.drew.keep hb)
      have HB1 := Lib.hid (HB.out.drew.trans (hb.mono HB.out.size))
      have SP3 := Lib.hid (hsp.low (base' := W.heap.size + 3) QX.out.lt)
      clear hb hsp hS0 hS1 hS2
      obtain ⟨a0, a1, a2⟩ := PA.out.tri
      obtain ⟨e0, e1, e2⟩ := PB.out.tri
      obtain ⟨m0, m1, -, -⟩ := PX.out.two
      have hS0 := (show ((fun (w' : World) => w'.cell? ⟨W.heap.size, 0, none⟩ = some (.int .i64 q1) ∧ w'.cell? ⟨W.heap.size, 1, none⟩ = some (.int .i64 z1) ∧ w'.cell? ⟨W.heap.size, 2, none⟩ = some (.slice A1 la.length c1))) y1 from ⟨a0, a1, a2⟩)
      have hS1 := (show ((fun (w' : World) => w'.cell? ⟨W.heap.size + 1, 0, none⟩ = some (.int .i64 q2) ∧ w'.cell? ⟨W.heap.size + 1, 1, none⟩ = some (.int .i64 z2) ∧ w'.cell? ⟨W.heap.size + 1, 2, none⟩ = some (.slice A2 lb.length c2))) y1 from ⟨e0, e1, e2⟩)
      have hS2 := (show ((fun (w' : World) => w'.cell? ⟨W.heap.size + 1 + 1, 1, none⟩ = some (.string dt))) y1 from m1)
      refine hK.out _ _ ⟨fun _ => hS0, fun _ => hS1, fun _ => hS2, trivial⟩ ?_
      clear hK K
      try simp only [Act.put, List.setIfInBounds_toArray, List.set_cons_zero, List.set_cons_succ]
      refine headK_one (i := 3) (by kernel_rfl) rfl (fun K hK => ?_)
      go_simp
      refine (H2.out _ HB1.out).mono ?_
      rintro e1 y2 ⟨A4, c4, rfl, hsp, hb⟩
      have RA := Lib.hid (PA.out.keep hb)
      have RB := Lib.hid (PB.out.keep hb)
      have RX := Lib.hid (PX.out.keep hb)
      have HB2 := Lib.hid (HB1.out.trans (hb.mono HB1.out.size))
      have SQ3 := Lib.hid (SP3.out.keepB hb)
      have SQ4 := Lib.hid (hsp.low (base' := W.heap.size + 3) PX.out.lt)
      clear hb hsp hS0 hS1 hS2
      obtain ⟨a0, a1, a2⟩ := RA.out.tri
      obtain ⟨e0, e1, e2⟩ := RB.out.tri
      obtain ⟨m0, m1, -, -⟩ := RX.out.two
      have fa0 := RA.out.free 0
      have fa1 := RA.out.free 1
      have fa2 := RA.out.free 2
      have fb0 := RB.out.free 0
      have fb1 := RB.out.free 1
      have fb2 := RB.out.free 2
      have fx1 := RX.out.free 1
      have hS0 := (show ((fun (w' : World) => w'.cell? ⟨W.heap.size, 0, none⟩ = some (.int .i64 q1) ∧ w'.cell? ⟨W.heap.size, 1, none⟩ = some (.int .i64 z1) ∧ w'.cell? ⟨W.heap.size, 2, none⟩ = some (.slice A1 la.length c1))) y2 from ⟨a0, a1, a2⟩)
      have hS1 := (show ((fun (w' : World) => w'.cell? ⟨W.heap.size + 1, 0, none⟩ = some (.int .i64 q2) ∧ w'.cell? ⟨W.heap.size + 1, 1, none⟩ = some (.int .i64 z2) ∧ w'.cell? ⟨W.heap.size + 1, 2, none⟩ = some (.slice A2 lb.length c2))) y2 from ⟨e0, e1, e2⟩)
      have hS2 := (show ((fun (w' : World) => w'.cell? ⟨W.heap.size + 1 + 1, 1, none⟩ = some (.string dt))) y2 from m1)
      refine hK.out _ _ ⟨fun _ => hS0, fun _ => hS1, fun _ => hS2, trivial⟩ ?_
      clear hK K
      try simp only [Act.put, List.setIfInBounds_toArray, List.set_cons_zero, List.set_cons_succ]
      refine headK_one (i := 11) (by kernel_rfl) rfl (fun K hK => ?_)
      go_simp
      have hS1 := (show ((fun (w' : World) => w'.cell? ⟨W.heap.size + 1, 0, none⟩ = some (.int .i64 q2) ∧ w'.cell? ⟨W.heap.size + 1, 1, none⟩ = some (.int .i64 z2) ∧ w'.cell? ⟨W.heap.size + 1, 2, none⟩ = some (.slice A2 lb.length c2))) (set3 y2 W.heap.size (.int .i64 q1) (.int .i64 z1) (.slice A3 fa.length c3)) from (RB.out.aside3 (g' := W.heap.size) (by omega) (.int .i64 q1) (.int .i64 z1) (.slice A3 fa.length c3)).tri)
      have hS2 := (show ((fun (w' : World) => w'.cell? ⟨W.heap.size + 1 + 1, 1, none⟩ = some (.string dt))) (set3 y2 W.heap.size (.int .i64 q1) (.int .i64 z1) (.slice A3 fa.length c3)) from (RX.out.aside3 (g' := W.heap.size) (by omega) (.int .i64 q1) (.int .i64 z1) (.slice A3 fa.length c3)).cell 1)
      refine hK.out _ _ ⟨fun h => Bool.noConfusion (show true = false from h), fun _ => hS1, fun _ => hS2, trivial⟩ ?_
      clear hK K
      try simp only [Act.put, List.setIfInBounds_toArray, List.set_cons_zero, List.set_cons_succ]
      refine headK_one (i := 12) (by kernel_rfl) rfl (fun K hK => ?_)
      go_simp
      have hS2 := (show ((fun (w' : World) => w'.cell? ⟨W.heap.size + 1 + 1, 1, none⟩ = some (.string dt))) (set3 (set3 y2 W.heap.size (.int .i64 q1) (.int .i64 z1) (.slice A3 fa.length c3)) (W.heap.size + 1) (.int .i64 q2) (.int .i64 z2) (.slice A4 fb.length c4)) from ((RX.out.aside3 (g' := W.heap.size) (by omega) (.int .i64 q1) (.int .i64 z1) (.slice A3 fa.length c3)).aside3 (g' := W.heap.size + 1) (by omega) (.int .i64 q2) (.int .i64 z2) (.slice A4 fb.length c4)).cell 1)
      refine hK.out _ _ ⟨fun h => Bool.noConfusion (show true = false from h), fun h => Bool.noConfusion (show true = false from h), fun _ => hS2, trivial⟩ ?_
      clear hK K
      try simp only [Act.put, List.setIfInBounds_toArray, List.set_cons_zero, List.set_cons_succ]
      refine headK_take (i := 13) (v := ?_) rfl (by kernel_rfl) (fun _ _ _ h => h) (fun _ _ _ h => passed_ready h.1) (Or.inl ⟨by rfl, ?hy10⟩) ⟨fun h => Bool.noConfusion (show true = false from h), fun h => Bool.noConfusion (show true = false from h), fun _ => hS2, trivial⟩ ?rest10
      case hy10 => intro w _; go_simp; try (with_reducible rfl)
      case rest10 =>
      try simp only [Act.put, List.setIfInBounds_toArray, List.set_cons_zero, List.set_cons_succ]
      refine headK_one (i := 14) (by kernel_rfl) rfl (fun K hK => ?_)
      go_simp
      refine hK.out _ _ ⟨fun h => Bool.noConfusion (show true = false from h), fun h => Bool.noConfusion (show true = false from h), fun h => Bool.noConfusion (show true = false from h), trivial⟩ ?_
      clear hK K
      try simp only [Act.put, List.setIfInBounds_toArray, List.set_cons_zero, List.set_cons_succ]
      refine ⟨by kernel_rfl, ?_⟩
      refine wpAny_done (by kernel_rfl) ?_ _
      go_wp2_with fail
      go_meet
      obtain ⟨k1, k2, k3, k4, k5, k6⟩ := adds_out RA.out RB.out RX.out SQ3.out SQ4.out HB2.out
      exact ⟨A3, c3, A4, c4, Lib.hid k1, Lib.hid k2, Lib.hid k3, Lib.hid k4, Lib.hid k5, Lib.hid k6⟩
    · have hdc := HC2.out (by omega)
      have hd1 : (66 : Int) < dt.size := by omega
      have hd3 : (66 : Int) ≤ dt.size := by omega
      have hdm : min (dt.size : Int) 66 = 66 := by omega
      subst hdc
      refine wp_heldK_bar [(11, (fun (w' : World) => w'.cell? ⟨W.heap.size, 0, none⟩ = some (.int .i64 q1) ∧ w'.cell? ⟨W.heap.size, 1, none⟩ = some (.int .i64 z1) ∧ w'.cell? ⟨W.heap.size, 2, none⟩ = some (.slice A1 la.length c1))), (12, (fun (w' : World) => w'.cell? ⟨W.heap.size + 1, 0, none⟩ = some (.int .i64 q2) ∧ w'.cell? ⟨W.heap.size + 1, 1, none⟩ = some (.int .i64 z2) ∧ w'.cell? ⟨W.heap.size + 1, 2, none⟩ = some (.slice A2 lb.length c2))), (14, (fun (w' : World) => w'.cell? ⟨W.heap.size + 1 + 1, 1, none⟩ = some (.string dt)))] 15 (by kernel_rfl) (by decide) ?_
      have hS0 := (show ((fun (w' : World) => w'.cell? ⟨W.heap.size, 0, none⟩ = some (.int .i64 q1) ∧ w'.cell? ⟨W.heap.size, 1, none⟩ = some (.int .i64 z1) ∧ w'.cell? ⟨W.heap.size, 2, none⟩ = some (.slice A1 la.length c1))) (((W.alloc (.cells #[.int .i64 q1, .int .i64 z1, .slice A1 la.length c1] 24)).alloc (.cells #[.int .i64 q2, .int .i64 z2, .slice A2 lb.length c2] 24)).alloc (.cells #[.int .u64 (id : Int), .string dt] 27)).drew from ⟨r0, r1, r2⟩)
      have hS1 := (show ((fun (w' : World) => w'.cell? ⟨W.heap.size + 1, 0, none⟩ = some (.int .i64 q2) ∧ w'.cell? ⟨W.heap.size + 1, 1, none⟩ = some (.int .i64 z2) ∧ w'.cell? ⟨W.heap.size + 1, 2, none⟩ = some (.slice A2 lb.length c2))) (((W.alloc (.cells #[.int .i64 q1, .int .i64 z1, .slice A1 la.length c1] 24)).alloc (.cells #[.int .i64 q2, .int .i64 z2, .slice A2 lb.length c2] 24)).alloc (.cells #[.int .u64 (id : Int), .string dt] 27)).drew from ⟨s0, s1, s2⟩)
      have hS2 := (show ((fun (w' : World) => w'.cell? ⟨W.heap.size + 1 + 1, 1, none⟩ = some (.string dt))) (((W.alloc (.cells #[.int .i64 q1, .int .i64 z1, .slice A1 la.length c1] 24)).alloc (.cells #[.int .i64 q2, .int .i64 z2, .slice A2 lb.length c2] 24)).alloc (.cells #[.int .u64 (id : Int), .string dt] 27)).drew from x1)
      refine headK_load 0 11 _ rfl (i := 0) (v := ?_) rfl (by kernel_rfl) (fun _ _ _ h => h) (fun _ _ _ h => passed_ready h.1) (Or.inl ⟨by rfl, ?hy11⟩) ⟨fun _ => hS0, fun _ => hS1, fun _ => hS2, trivial⟩ ?rest11
      case hy11 => intro w hSw; (try dsimp only at hSw); obtain ⟨hc0, hc1, hc2⟩ := hSw; go_simp; try (with_reducible rfl)
      case rest11 =>
      try simp only [Act.put, List.setIfInBounds_toArray, List.set_cons_zero, List.set_cons_succ]
      refine headK_load 1 12 _ rfl (i := 2) (v := ?_) rfl (by kernel_rfl) (fun _ _ _ h => h) (fun _ _ _ h => passed_ready h.1) (Or.inl ⟨by rfl, ?hy12⟩) ⟨fun _ => hS0, fun _ => hS1, fun _ => hS2, trivial⟩ ?rest12
      case hy12 => intro w hSw; (try dsimp only at hSw); obtain ⟨hc0, hc1, hc2⟩ := hSw; go_simp; try (with_reducible rfl)
      case rest12 =>
      try simp only [Act.put, List.setIfInBounds_toArray, List.set_cons_zero, List.set_cons_succ]
      refine headK_take (i := 4) (v := ?_) rfl (by kernel_rfl) (fun _ _ _ h => h) (fun _ _ _ h => passed_ready h.1) (Or.inl ⟨by rfl, ?hy13⟩) ⟨fun _ => hS0, fun _ => hS1, fun _ => hS2, trivial⟩ ?rest13
      case hy13 => intro w _; go_simp; try (with_reducible rfl)
      case rest13 =>
      try simp only [Act.put, List.setIfInBounds_toArray, List.set_cons_zero, List.set_cons_succ]
      refine headK_load 2 14 _ rfl (i := 5) (v := ?_) rfl (by kernel_rfl) (fun _ _ _ h => h) (fun _ _ _ h => passed_ready h.1) (Or.inl ⟨by rfl, ?hy14⟩) ⟨fun _ => hS0, fun _ => hS1, fun _ => hS2, trivial⟩ ?rest14
      case hy14 => intro w hSw; (try dsimp only at hSw); go_simp; try (with_reducible rfl)
      case rest14 =>
      try simp only [Act.put, List.setIfInBounds_toArray, List.set_cons_zero, List.set_cons_succ]
      refine headK_take (i := 6) (v := ?_) rfl (by kernel_rfl) (fun _ _ _ h => h) (fun _ _ _ h => passed_ready h.1) (Or.inl ⟨by rfl, ?hy15⟩) ⟨fun _ => hS0, fun _ => hS1, fun _ => hS2, trivial⟩ ?rest15
      case hy15 => intro w _; go_simp; try (with_reducible rfl)
      case rest15 =>
      try simp only [Act.put, List.setIfInBounds_toArray, List.set_cons_zero, List.set_cons_succ]
      refine headK_load 2 14 _ rfl (i := 7) (v := ?_) rfl (by kernel_rfl) (fun _ _ _ h => h) (fun _ _ _ h => passed_ready h.1) (Or.inl ⟨by rfl, ?hy16⟩) ⟨fun _ => hS0, fun _ => hS1, fun _ => hS2, trivial⟩ ?rest16
      case hy16 => intro w hSw; (try dsimp only at hSw); go_simp; try (with_reducible rfl)
      case rest16 =>
      try simp only [Act.put, List.setIfInBounds_toArray, List.set_cons_zero, List.set_cons_succ]
      refine headK_take (i := 8) (v := ?_) rfl (by kernel_rfl) (fun _ _ _ h => h) (fun _ _ _ h => passed_ready h.1) (Or.inl ⟨by rfl, ?hy17⟩) ⟨fun _ => hS0, fun _ => hS1, fun _ => hS2, trivial⟩ ?rest17
      case hy17 => intro w _; go_simp; try (with_reducible rfl)
      case rest17 =>
      try simp only [Act.put, List.setIfInBounds_toArray, List.set_cons_zero, List.set_cons_succ]
      refine headK_take (i := 9) (v := ?_) rfl (by kernel_rfl) (fun _ _ _ h => h) (fun _ _ _ h => passed_ready h.1) (Or.inl ⟨by rfl, ?hy18⟩) ⟨fun _ => hS0, fun _ => hS1, fun _ => hS2, trivial⟩ ?rest18
      case hy18 => intro w _; go_simp; try (with_reducible rfl)
      case rest18 =>
      try simp only [Act.put, List.setIfInBounds_toArray, List.set_cons_zero, List.set_cons_succ]
      refine headK_take (i := 10) (v := ?_) rfl (by kernel_rfl) (fun _ _ _ h => h) (fun _ _ _ h => passed_ready h.1) (Or.inl ⟨by rfl, ?hy19⟩) ⟨fun _ => hS0, fun _ => hS1, fun _ => hS2, trivial⟩ ?rest19
      case hy19 => intro w _; go_simp; try (with_reducible rfl)
      case rest19 =>
      try simp only [Act.put, List.setIfInBounds_toArray, List.set_cons_zero, List.set_cons_succ]
      refine headK_one (i := 1) (by kernel_rfl) rfl (fun K hK => ?_)
      go_simp
      refine (H1.out _ HB.out.drew).mono ?_
      rintro e1 y1 ⟨A3, c3, rfl, hsp, hb⟩
      have PA := Lib.hid (QA.out.drew.keep hb)
      have PB := Lib.hid (QB.out.drew.keep hb)
      have PX := Lib.hid (QX.out.drew.keep hb)
      have HB1 := Lib.hid (HB.out.drew.trans (hb.mono HB.out.size))
      have SP3 := Lib.hid (hsp.low (base' := W.heap.size + 3) QX.out.lt)
      clear hb hsp hS0 hS1 hS2
      obtain ⟨a0, a1, a2⟩ := PA.out.tri
      obtain ⟨e0, e1, e2⟩ := PB.out.tri
      obtain ⟨m0, m1, -, -⟩ := PX.out.two
      have hS0 := (show ((fun (w' : World) => w'.cell? ⟨W.heap.size, 0, none⟩ = some (.int .i64 q1) ∧ w'.cell? ⟨W.heap.size, 1, none⟩ = some (.int .i64 z1) ∧ w'.cell? ⟨W.heap.size, 2, none⟩ = some (.slice A1 la.length c1))) y1 from ⟨a0, a1, a2⟩)
      have hS1 := (show ((fun (w' : World) => w'.cell? ⟨W.heap.size + 1, 0, none⟩ = some (.int .i64 q2) ∧ w'.cell? ⟨W.heap.size + 1, 1, none⟩ = some (.int .i64 z2) ∧ w'.cell? ⟨W.heap.size + 1, 2, none⟩ = some (.slice A2 lb.length c2))) y1 from ⟨e0, e1, e2⟩)
      have hS2 := (show ((fun (w' : World) => w'.cell? ⟨W.heap.size + 1 + 1, 1, none⟩ = some (.string dt))) y1 from m1)
      refine hK.out _ _ ⟨fun _ => hS0, fun _ => hS1, fun _ => hS2, trivial⟩ ?_
      clear hK K
      try simp only [Act.put, List.setIfInBounds_toArray, List.set_cons_zero, List.set_cons_succ]
      refine headK_one (i := 3) (by kernel_rfl) rfl (fun K hK => ?_)
      go_simp
      refine (H2.out _ HB1.out).mono ?_
      rintro e1 y2 ⟨A4, c4, rfl, hsp, hb⟩
      have RA := Lib.hid (PA.out.keep hb)
      have RB := Lib.hid (PB.out.keep hb)
      have RX := Lib.hid (PX.out.keep hb)
      have HB2 := Lib.hid (HB1.out.trans (hb.mono HB1.out.size))
      have SQ3 := Lib.hid (SP3.out.keepB hb)
      have SQ4 := Lib.hid (hsp.low (base' := W.heap.size + 3) PX.out.lt)
      clear hb hsp hS0 hS1 hS2
      obtain ⟨a0, a1, a2⟩ := RA.out.tri
      obtain ⟨e0, e1, e2⟩ := RB.out.tri
      obtain ⟨m0, m1, -, -⟩ := RX.out.two
      have fa0 := RA.out.free 0
      have fa1 := RA.out.free 1
      have fa2 := RA.out.free 2
      have fb0 := RB.out.free 0
      have fb1 := RB.out.free 1
      have fb2 := RB.out.free 2
      have fx1 := RX.out.free 1
      have hS0 := (show ((fun (w' : World) => w'.cell? ⟨W.heap.size, 0, none⟩ = some (.int .i64 q1) ∧ w'.cell? ⟨W.heap.size, 1, none⟩ = some (.int .i64 z1) ∧ w'.cell? ⟨W.heap.size, 2, none⟩ = some (.slice A1 la.length c1))) y2 from ⟨a0, a1, a2⟩)
      have hS1 := (show ((fun (w' : World) => w'.cell? ⟨W.heap.size + 1, 0, none⟩ = some (.int .i64 q2) ∧ w'.cell? ⟨W.heap.size + 1, 1, none⟩ = some (.int .i64 z2) ∧ w'.cell? ⟨W.heap.size + 1, 2, none⟩ = some (.slice A2 lb.length c2))) y2 from ⟨e0, e1, e2⟩)
      have hS2 := (show ((fun (w' : World) => w'.cell? ⟨W.heap.size + 1 + 1, 1, none⟩ = some (.string dt))) y2 from m1)
      refine hK.out _ _ ⟨fun _ => hS0, fun _ => hS1, fun _ => hS2, trivial⟩ ?_
      clear hK K
      try simp only [Act.put, List.setIfInBounds_toArray, List.set_cons_zero, List.set_cons_succ]
      refine headK_one (i := 11) (by kernel_rfl) rfl (fun K hK => ?_)
      go_simp
      have hS1 := (show ((fun (w' : World) => w'.cell? ⟨W.heap.size + 1, 0, none⟩ = some (.int .i64 q2) ∧ w'.cell? ⟨W.heap.size + 1, 1, none⟩ = some (.int .i64 z2) ∧ w'.cell? ⟨W.heap.size + 1, 2, none⟩ = some (.slice A2 lb.length c2))) (set3 y2 W.heap.size (.int .i64 q1) (.int .i64 z1) (.slice A3 fa.length c3)) from (RB.out.aside3 (g' := W.heap.size) (by omega) (.int .i64 q1) (.int .i64 z1) (.slice A3 fa.length c3)).tri)
      have hS2 := (show ((fun (w' : World) => w'.cell? ⟨W.heap.size + 1 + 1, 1, none⟩ = some (.string dt))) (set3 y2 W.heap.size (.int .i64 q1) (.int .i64 z1) (.slice A3 fa.length c3)) from (RX.out.aside3 (g' := W.heap.size) (by omega) (.int .i64 q1) (.int .i64 z1) (.slice A3 fa.length c3)).cell 1)
      refine hK.out _ _ ⟨fun h => Bool.noConfusion (show true = false from h), fun _ => hS1, fun _ => hS2, trivial⟩ ?_
      clear hK K
      try simp only [Act.put, List.setIfInBounds_toArray, List.set_cons_zero, List.set_cons_succ]
      refine headK_one (i := 12) (by kernel_rfl) rfl (fun K hK => ?_)
      go_simp
      have hS2 := (show ((fun (w' : World) => w'.cell? ⟨W.heap.size + 1 + 1, 1, none⟩ = some (.string dt))) (set3 (set3 y2 W.heap.size (.int .i64 q1) (.int .i64 z1) (.slice A3 fa.length c3)) (W.heap.size + 1) (.int .i64 q2) (.int .i64 z2) (.slice A4 fb.length c4)) from ((RX.out.aside3 (g' := W.heap.size) (by omega) (.int .i64 q1) (.int .i64 z1) (.slice A3 fa.length c3)).aside3 (g' := W.heap.size + 1) (by omega) (.int .i64 q2) (.int .i64 z2) (.slice A4 fb.length c4)).cell 1)
      refine hK.out _ _ ⟨fun h => Bool.noConfusion (show true = false from h), fun h => Bool.noConfusion (show true = false from h), fun _ => hS2, trivial⟩ ?_
      clear hK K
      try simp only [Act.put, List.setIfInBounds_toArray, List.set_cons_zero, List.set_cons_succ]
      refine headK_take (i := 13) (v := ?_) rfl (by kernel_rfl) (fun _ _ _ h => h) (fun _ _ _ h => passed_ready h.1) (Or.inl ⟨by rfl, ?hy20⟩) ⟨fun h => Bool.noConfusion (show true = false from h), fun h => Bool.noConfusion (show true = false from h), fun _ => hS2, trivial⟩ ?rest20
      case hy20 => intro w _; go_simp; try (with_reducible rfl)
      case rest20 =>
      try simp only [Act.put, List.setIfInBounds_toArray, List.set_cons_zero, List.set_cons_succ]
      refine headK_one (i := 14) (by kernel_rfl) rfl (fun K hK => ?_)
      go_simp
      refine hK.out _ _ ⟨fun h => Bool.noConfusion (show true = false from h), fun h => Bool.noConfusion (show true = false from h), fun h => Bool.noConfusion (show true = false from h), trivial⟩ ?_
      clear hK K
      try simp only [Act.put, List.setIfInBounds_toArray, List.set_cons_zero, List.set_cons_succ]
      refine ⟨by kernel_rfl, ?_⟩
      refine wpAny_done (by kernel_rfl) ?_ _
      go_wp2_with fail
      go_meet
      obtain ⟨k1, k2, k3, k4, k5, k6⟩ := adds_out RA.out RB.out RX.out SQ3.out SQ4.out HB2.out
      exact ⟨A3, c3, A4, c4, Lib.hid k1, Lib.hid k2, Lib.hid k3, Lib.hid k4, Lib.hid k5, Lib.hid k6⟩
  case rest =>
    obtain ⟨A3, c3, A4, c4, K0, K1, K2, K3, K4, K5⟩ := hcut
    clear QA QB QX HB H1 H2 HC1 HC2 r0 r1 r2 s0 s1 s2 x0 x1
    obtain ⟨wa, rfl⟩ : ∃ x : World, x = wc := ⟨_, rfl⟩
    obtain ⟨sz, hsz⟩ : ∃ b, b = (inK n 1 16 && szB z q) := ⟨_, rfl⟩
    obtain ⟨sN, hsN⟩ : ∃ b, b = newSh n z q := ⟨_, rfl⟩
    obtain ⟨eN, heN⟩ : ∃ b : Int, b = (if sz then 0 else 2) := ⟨_, rfl⟩
    have HN := Lib.hid (show ∀ w, Calls Try.prog 6 #[.int .i64 n, .int .i64 z, .int .i64 q] w (fun e w' => ∃ A c, e = .returned (.tuple #[.agg #[.int .i64 sN.1, .int .i64 sN.2.1, .slice A sN.2.2.length c], .int .i64 eN]) ∧ SpS w w.heap.size w' (.slice A sN.2.2.length c) sN.2.2 ∧ Below w.heap.size w w') from fun w => by
      rw [hsN, heN, hsz]
      exact (shNew_any n z q w).mono fun e w' h => h.lit)
    have HsN := Lib.hid hsN
    have HeN := Lib.hid heN
    have Hsz := Lib.hid hsz
    clear hsN heN hsz
    obtain ⟨sA, hsA⟩ : ∃ b, b = addR (q1, z1, fa) (id, ct) := ⟨_, rfl⟩
    obtain ⟨eA, heA⟩ : ∃ b, b = addE (q1, z1, fa) (id, ct) := ⟨_, rfl⟩
    have HA := Lib.hid (show ∀ w, Lsts w A3 fa.length fa → SliceOk A3 fa.length c3 → Calls Try.prog 7 #[.agg #[.int .i64 q1, .int .i64 z1, .slice A3 fa.length c3], .agg #[.int .u64 (id : Int), .string ct]] w (fun e w' => ∃ A c, e = .returned (.tuple #[.agg #[.int .i64 sA.1, .int .i64 sA.2.1, .slice A sA.2.2.length c], .int .i64 eA]) ∧ SpS w w.heap.size w' (.slice A sA.2.2.length c) sA.2.2 ∧ Below w.heap.size w w') from fun w hl hs => by
      rw [hsA, heA]
      exact (shAdd_any _ (q1, z1, fa) (id, ct) w ⟨A3, c3, rfl, hs, hl⟩ OA.out).mono fun e w' h => h.lit)
    have HsA := Lib.hid hsA
    have HeA := Lib.hid heA
    clear hsA heA
    go_upto_region 2 with (fail)
    go_wp2_with fail
    refine (HN.out _).mono ?_
    rintro e w1 ⟨A5, c5, rfl, hsp, hb⟩
    have SA := Lib.hid (K3.out.at K5.out q1 z1)
    have SB := Lib.hid (K4.out.at K5.out q2 z2)
    have SN := hsp.at hb sN.1 sN.2.1
    have ab : Below w1.heap.size w1 (w1.alloc (.cells #[.int .i64 sN.1, .int .i64 sN.2.1, .slice A5 sN.2.2.length c5] 24)) := (Below.refl _ _).alloc (Nat.le_refl _) _
    have hb2 := chain hb ab
    have L0 := Lib.hid (K0.out.keep hb2)
    have L1 := Lib.hid (K1.out.keep hb2)
    have L2 := Lib.hid (K2.out.keep hb2)
    have LN := Lib.hid (Box.new w1 24 #[.int .i64 sN.1, .int .i64 sN.2.1, .slice A5 sN.2.2.length c5])
    have TA := Lib.hid (SA.out.below hb2)
    have TB := Lib.hid (SB.out.below hb2)
    have TN := Lib.hid (SN.below ab)
    have HB := Lib.hid (K5.out.trans (hb2.mono K5.out.size))
    clear SN ab hb2 hsp hb HN SA SB K0 K1 K2 K3 K4 K5
    obtain ⟨gN, hgN⟩ : ∃ y, y = w1.heap.size := ⟨_, rfl⟩
    rw [← hgN] at LN
    obtain ⟨wb, hwb⟩ : ∃ y, y = w1.alloc (.cells #[.int .i64 sN.1, .int .i64 sN.2.1, .slice A5 sN.2.2.length c5] 24) := ⟨_, rfl⟩
    rw [← hwb] at L0 L1 L2 LN TA TB TN HB
    go_upto_region 3 with (fail)
    rw [← hgN, ← hwb]
    clear hgN hwb
    obtain ⟨r0, r1, r2⟩ := L0.out.tri
    obtain ⟨x0, x1, -, -⟩ := L2.out.two
    go_wp2_with fail
    obtain ⟨hA1, hA2⟩ := TA.out.rows
    refine (HA.out _ hA2 hA1).mono ?_
    rintro e w2 ⟨A6, c6, rfl, hsp, hb⟩
    have SS := hsp.at hb sA.1 sA.2.1
    have ab : Below w2.heap.size w2 (w2.alloc (.cells #[.int .i64 sA.1, .int .i64 sA.2.1, .slice A6 sA.2.2.length c6] 24)) := (Below.refl _ _).alloc (Nat.le_refl _) _
    have hb2 := chain hb ab
    have M0 := Lib.hid (L0.out.keep hb2)
    have M1 := Lib.hid (L1.out.keep hb2)
    have M2 := Lib.hid (L2.out.keep hb2)
    have MN := Lib.hid (LN.out.keep hb2)
    have MS := Lib.hid (Box.new w2 24 #[.int .i64 sA.1, .int .i64 sA.2.1, .slice A6 sA.2.2.length c6])
    have UA := Lib.hid (TA.out.below hb2)
    have UB := Lib.hid (TB.out.below hb2)
    have UN := Lib.hid (TN.out.below hb2)
    have US := Lib.hid (SS.below ab)
    have HC := Lib.hid (HB.out.trans (hb2.mono HB.out.size))
    clear SS ab hb2 hsp hb HA hA1 hA2 L0 L1 L2 LN TA TB TN HB r0 r1 r2 x0 x1
    obtain ⟨gS, hgS⟩ : ∃ y, y = w2.heap.size := ⟨_, rfl⟩
    rw [← hgS] at MS
    obtain ⟨wd, hwd⟩ : ∃ y, y = w2.alloc (.cells #[.int .i64 sA.1, .int .i64 sA.2.1, .slice A6 sA.2.2.length c6] 24) := ⟨_, rfl⟩
    rw [← hwd] at M0 M1 M2 MN MS UA UB UN US HC
    go_upto_region 4 with (fail)
    rw [← hgS, ← hwd]
    clear hgS hwd
    obtain ⟨rB, hrB⟩ : ∃ b, b = rightSh (q1, z1, fa) := ⟨_, rfl⟩
    obtain ⟨lB, hlB⟩ : ∃ b, b = likeSh (q1, z1, fa) (q2, z2, fb) := ⟨_, rfl⟩
    have G1 := Lib.hid (show ∀ w, Below wd.heap.size wd w → Calls Try.prog 8 #[.agg #[.int .i64 q1, .int .i64 z1, .slice A3 fa.length c3]] w (fun e w' => e = .returned (.bool rB) ∧ Below w.heap.size w w') from fun w hw => by rw [hrB]; exact shRight_any _ _ _ (UA.out.below hw) OA.out)
    have G2 := Lib.hid (show ∀ w, Below wd.heap.size wd w → Calls Try.prog 9 #[.agg #[.int .i64 q1, .int .i64 z1, .slice A3 fa.length c3]] w (fun e w' => e = .returned (.bool rB) ∧ Below w.heap.size w w') from fun w hw => by rw [hrB]; exact refRight13_any _ _ _ (UA.out.below hw) OA.out)
    have G3 := Lib.hid (show ∀ w, Below wd.heap.size wd w → Calls Try.prog 10 #[.agg #[.int .i64 q1, .int .i64 z1, .slice A3 fa.length c3], .agg #[.int .i64 q2, .int .i64 z2, .slice A4 fb.length c4]] w (fun e w' => e = .returned (.bool lB) ∧ Below w.heap.size w w') from fun w hw => by rw [hlB]; exact shLike_any _ _ _ _ _ (UA.out.below hw) (UB.out.below hw))
    have G4 := Lib.hid (show ∀ w, Below wd.heap.size wd w → Calls Try.prog 11 #[.agg #[.int .i64 q1, .int .i64 z1, .slice A3 fa.length c3], .agg #[.int .i64 q2, .int .i64 z2, .slice A4 fb.length c4]] w (fun e w' => e = .returned (.bool lB) ∧ Below w.heap.size w w') from fun w hw => by rw [hlB]; exact refSame13_any _ _ _ _ _ (UA.out.below hw) (UB.out.below hw))
    have G5 := Lib.hid (show ∀ w, Below wd.heap.size wd w → Calls Try.prog 10 #[.agg #[.int .i64 q1, .int .i64 z1, .slice A3 fa.length c3], .agg #[.int .i64 q1, .int .i64 z1, .slice A3 fa.length c3]] w (fun e w' => e = .returned (.bool true) ∧ Below w.heap.size w w') from fun w hw => by rw [← likeSh_self (q1, z1, fa)]; exact shLike_any _ _ _ _ _ (UA.out.below hw) (UA.out.below hw))
    have G6 := Lib.hid alive13_any
    have HrB := Lib.hid hrB
    clear hrB hlB
    have hb1 : (rB != rB) = false := bne_self_eq_false _
    have hb2 : (lB != lB) = false := bne_self_eq_false _
    have BC := Lib.hid (Below.refl wd.heap.size wd).drew
    obtain ⟨r0, r1, r2⟩ := M0.out.tri
    obtain ⟨s0, s1, s2⟩ := M1.out.tri
    refine wp_held_tail (S := (fun w' : World => w'.cell? ⟨W.heap.size, 0, none⟩ = some (.int .i64 q1) ∧ w'.cell? ⟨W.heap.size, 1, none⟩ = some (.int .i64 z1) ∧ w'.cell? ⟨W.heap.size, 2, none⟩ = some (.slice A3 fa.length c3) ∧ w'.cell? ⟨W.heap.size + 1, 0, none⟩ = some (.int .i64 q2) ∧ w'.cell? ⟨W.heap.size + 1, 1, none⟩ = some (.int .i64 z2) ∧ w'.cell? ⟨W.heap.size + 1, 2, none⟩ = some (.slice A4 fb.length c4))) 23 (by kernel_rfl) (by decide) ?_
    have hS := Lib.hid (show (fun w' : World => w'.cell? ⟨W.heap.size, 0, none⟩ = some (.int .i64 q1) ∧ w'.cell? ⟨W.heap.size, 1, none⟩ = some (.int .i64 z1) ∧ w'.cell? ⟨W.heap.size, 2, none⟩ = some (.slice A3 fa.length c3) ∧ w'.cell? ⟨W.heap.size + 1, 0, none⟩ = some (.int .i64 q2) ∧ w'.cell? ⟨W.heap.size + 1, 1, none⟩ = some (.int .i64 z2) ∧ w'.cell? ⟨W.heap.size + 1, 2, none⟩ = some (.slice A4 fb.length c4)) wd.drew from ⟨r0, r1, r2, s0, s1, s2⟩)
    replace hS := hS.out
    refine headH_take (i := 0) (v := ?_) rfl (by kernel_rfl) (fun _ _ _ h => h) (fun _ _ _ h => seqB_ready h.1) (Or.inl ⟨by rfl, ?hy21⟩) hS ?rest21
    case hy21 => intro w hSw; (try dsimp only at hSw); obtain ⟨hc0, hc1, hc2, hc3, hc4, hc5⟩ := hSw; go_simp; try (with_reducible rfl)
    case rest21 =>
    try simp only [Act.put, List.setIfInBounds_toArray, List.set_cons_zero, List.set_cons_succ]
    refine headH_take (i := 2) (v := ?_) rfl (by kernel_rfl) (fun _ _ _ h => h) (fun _ _ _ h => seqB_ready h.1) (Or.inl ⟨by rfl, ?hy22⟩) hS ?rest22
    case hy22 => intro w hSw; (try dsimp only at hSw); obtain ⟨hc0, hc1, hc2, hc3, hc4, hc5⟩ := hSw; go_simp; try (with_reducible rfl)
    case rest22 =>
    try simp only [Act.put, List.setIfInBounds_toArray, List.set_cons_zero, List.set_cons_succ]
    refine headH_one (i := 1) (by kernel_rfl) rfl (fun K hK => ?_)
    go_simp
    refine (G1.out _ BC.out).mono ?_
    rintro e x1 ⟨rfl, hb⟩
    replace BC := Lib.hid (chain BC.out hb)
    clear hb r0 r1 r2 s0 s1 s2
    obtain ⟨r0, r1, r2⟩ := (M0.out.keep BC.out).tri
    obtain ⟨s0, s1, s2⟩ := (M1.out.keep BC.out).tri
    refine hK.out _ _ (show (fun w' : World => w'.cell? ⟨W.heap.size, 0, none⟩ = some (.int .i64 q1) ∧ w'.cell? ⟨W.heap.size, 1, none⟩ = some (.int .i64 z1) ∧ w'.cell? ⟨W.heap.size, 2, none⟩ = some (.slice A3 fa.length c3) ∧ w'.cell? ⟨W.heap.size + 1, 0, none⟩ = some (.int .i64 q2) ∧ w'.cell? ⟨W.heap.size + 1, 1, none⟩ = some (.int .i64 z2) ∧ w'.cell? ⟨W.heap.size + 1, 2, none⟩ = some (.slice A4 fb.length c4)) x1 from ⟨r0, r1, r2, s0, s1, s2⟩) (fun hS => ?_)
    clear hK K
    refine headH_one (i := 3) (by kernel_rfl) rfl (fun K hK => ?_)
    go_simp
    refine (G2.out _ BC.out).mono ?_
    rintro e x2 ⟨rfl, hb⟩
    replace BC := Lib.hid (chain BC.out hb)
    clear hb r0 r1 r2 s0 s1 s2
    obtain ⟨r0, r1, r2⟩ := (M0.out.keep BC.out).tri
    obtain ⟨s0, s1, s2⟩ := (M1.out.keep BC.out).tri
    refine hK.out _ _ (show (fun w' : World => w'.cell? ⟨W.heap.size, 0, none⟩ = some (.int .i64 q1) ∧ w'.cell? ⟨W.heap.size, 1, none⟩ = some (.int .i64 z1) ∧ w'.cell? ⟨W.heap.size, 2, none⟩ = some (.slice A3 fa.length c3) ∧ w'.cell? ⟨W.heap.size + 1, 0, none⟩ = some (.int .i64 q2) ∧ w'.cell? ⟨W.heap.size + 1, 1, none⟩ = some (.int .i64 z2) ∧ w'.cell? ⟨W.heap.size + 1, 2, none⟩ = some (.slice A4 fb.length c4)) x2 from ⟨r0, r1, r2, s0, s1, s2⟩) (fun hS => ?_)
    clear hK K
    refine headH_take (i := 4) (v := ?_) rfl (by kernel_rfl) (fun _ _ _ h => h) (fun _ _ _ h => seqB_ready h.1) (Or.inl ⟨by rfl, ?hy23⟩) hS ?rest23
    case hy23 => intro w hSw; (try dsimp only at hSw); obtain ⟨hc0, hc1, hc2, hc3, hc4, hc5⟩ := hSw; go_simp; try (with_reducible rfl)
    case rest23 =>
    try simp only [Act.put, List.setIfInBounds_toArray, List.set_cons_zero, List.set_cons_succ]
    refine headH_take (i := 5) (v := ?_) rfl (by kernel_rfl) (fun _ _ _ h => h) (fun _ _ _ h => seqB_ready h.1) (Or.inl ⟨by rfl, ?hy24⟩) hS ?rest24
    case hy24 => intro w hSw; (try dsimp only at hSw); obtain ⟨hc0, hc1, hc2, hc3, hc4, hc5⟩ := hSw; go_simp; try (with_reducible rfl)
    case rest24 =>
    try simp only [Act.put, List.setIfInBounds_toArray, List.set_cons_zero, List.set_cons_succ]
    refine headH_take (i := 6) (v := ?_) rfl (by kernel_rfl) (fun _ _ _ h => h) (fun _ _ _ h => seqB_ready h.1) (Or.inl ⟨by rfl, ?hy25⟩) hS ?rest25
    case hy25 => intro w hSw; (try dsimp only at hSw); obtain ⟨hc0, hc1, hc2, hc3, hc4, hc5⟩ := hSw; go_simp; try (with_reducible rfl)
    case rest25 =>
    try simp only [Act.put, List.setIfInBounds_toArray, List.set_cons_zero, List.set_cons_succ]
    refine headH_take (i := 7) (v := ?_) rfl (by kernel_rfl) (fun _ _ _ h => h) (fun _ _ _ h => seqB_ready h.1) (Or.inl ⟨by rfl, ?hy26⟩) hS ?rest26
    case hy26 => intro w hSw; (try dsimp only at hSw); obtain ⟨hc0, hc1, hc2, hc3, hc4, hc5⟩ := hSw; go_simp; try (with_reducible rfl)
    case rest26 =>
    try simp only [Act.put, List.setIfInBounds_toArray, List.set_cons_zero, List.set_cons_succ]
    refine headH_take (i := 9) (v := ?_) rfl (by kernel_rfl) (fun _ _ _ h => h) (fun _ _ _ h => seqB_ready h.1) (Or.inl ⟨by rfl, ?hy27⟩) hS ?rest27
    case hy27 => intro w hSw; (try dsimp only at hSw); obtain ⟨hc0, hc1, hc2, hc3, hc4, hc5⟩ := hSw; go_simp; try (with_reducible rfl)
    case rest27 =>
    try simp only [Act.put, List.setIfInBounds_toArray, List.set_cons_zero, List.set_cons_succ]
    refine headH_take (i := 10) (v := ?_) rfl (by kernel_rfl) (fun _ _ _ h => h) (fun _ _ _ h => seqB_ready h.1) (Or.inl ⟨by rfl, ?hy28⟩) hS ?rest28
    case hy28 => intro w hSw; (try dsimp only at hSw); obtain ⟨hc0, hc1, hc2, hc3, hc4, hc5⟩ := hSw; go_simp; try (with_reducible rfl)
    case rest28 =>
    try simp only [Act.put, List.setIfInBounds_toArray, List.set_cons_zero, List.set_cons_succ]
    refine headH_one (i := 8) (by kernel_rfl) rfl (fun K hK => ?_)
    go_simp
    refine (G3.out _ BC.out).mono ?_
    rintro e x3 ⟨rfl, hb⟩
    replace BC := Lib.hid (chain BC.out hb)
    clear hb r0 r1 r2 s0 s1 s2
    obtain ⟨r0, r1, r2⟩ := (M0.out.keep BC.out).tri
    obtain ⟨s0, s1, s2⟩ := (M1.out.keep BC.out).tri
    refine hK.out _ _ (show (fun w' : World => w'.cell? ⟨W.heap.size, 0, none⟩ = some (.int .i64 q1) ∧ w'.cell? ⟨W.heap.size, 1, none⟩ = some (.int .i64 z1) ∧ w'.cell? ⟨W.heap.size, 2, none⟩ = some (.slice A3 fa.length c3) ∧ w'.cell? ⟨W.heap.size + 1, 0, none⟩ = some (.int .i64 q2) ∧ w'.cell? ⟨W.heap.size + 1, 1, none⟩ = some (.int .i64 z2) ∧ w'.cell? ⟨W.heap.size + 1, 2, none⟩ = some (.slice A4 fb.length c4)) x3 from ⟨r0, r1, r2, s0, s1, s2⟩) (fun hS => ?_)
    clear hK K
    refine headH_one (i := 11) (by kernel_rfl) rfl (fun K hK => ?_)
    go_simp
    refine (G4.out _ BC.out).mono ?_
    rintro e x4 ⟨rfl, hb⟩
    replace BC := Lib.hid (chain BC.out hb)
    clear hb r0 r1 r2 s0 s1 s2
    obtain ⟨r0, r1, r2⟩ := (M0.out.keep BC.out).tri
    obtain ⟨s0, s1, s2⟩ := (M1.out.keep BC.out).tri
    refine hK.out _ _ (show (fun w' : World => w'.cell? ⟨W.heap.size, 0, none⟩ = some (.int .i64 q1) ∧ w'.cell? ⟨W.heap.size, 1, none⟩ = some (.int .i64 z1) ∧ w'.cell? ⟨W.heap.size, 2, none⟩ = some (.slice A3 fa.length c3) ∧ w'.cell? ⟨W.heap.size + 1, 0, none⟩ = some (.int .i64 q2) ∧ w'.cell? ⟨W.heap.size + 1, 1, none⟩ = some (.int .i64 z2) ∧ w'.cell? ⟨W.heap.size + 1, 2, none⟩ = some (.slice A4 fb.length c4)) x4 from ⟨r0, r1, r2, s0, s1, s2⟩) (fun hS => ?_)
    clear hK K
    refine headH_take (i := 12) (v := ?_) rfl (by kernel_rfl) (fun _ _ _ h => h) (fun _ _ _ h => seqB_ready h.1) (Or.inl ⟨by rfl, ?hy29⟩) hS ?rest29
    case hy29 => intro w hSw; (try dsimp only at hSw); obtain ⟨hc0, hc1, hc2, hc3, hc4, hc5⟩ := hSw; go_simp; try (with_reducible rfl)
    case rest29 =>
    try simp only [Act.put, List.setIfInBounds_toArray, List.set_cons_zero, List.set_cons_succ]
    refine headH_take (i := 13) (v := ?_) rfl (by kernel_rfl) (fun _ _ _ h => h) (fun _ _ _ h => seqB_ready h.1) (Or.inl ⟨by rfl, ?hy30⟩) hS ?rest30
    case hy30 => intro w hSw; (try dsimp only at hSw); obtain ⟨hc0, hc1, hc2, hc3, hc4, hc5⟩ := hSw; go_simp; try (with_reducible rfl)
    case rest30 =>
    try simp only [Act.put, List.setIfInBounds_toArray, List.set_cons_zero, List.set_cons_succ]
    refine headH_take (i := 14) (v := ?_) rfl (by kernel_rfl) (fun _ _ _ h => h) (fun _ _ _ h => seqB_ready h.1) (Or.inl ⟨by rfl, ?hy31⟩) hS ?rest31
    case hy31 => intro w hSw; (try dsimp only at hSw); obtain ⟨hc0, hc1, hc2, hc3, hc4, hc5⟩ := hSw; go_simp; try (with_reducible rfl)
    case rest31 =>
    try simp only [Act.put, List.setIfInBounds_toArray, List.set_cons_zero, List.set_cons_succ]
    refine headH_take (i := 15) (v := ?_) rfl (by kernel_rfl) (fun _ _ _ h => h) (fun _ _ _ h => seqB_ready h.1) (Or.inl ⟨by rfl, ?hy32⟩) hS ?rest32
    case hy32 => intro w hSw; (try dsimp only at hSw); obtain ⟨hc0, hc1, hc2, hc3, hc4, hc5⟩ := hSw; go_simp; try (with_reducible rfl)
    case rest32 =>
    try simp only [Act.put, List.setIfInBounds_toArray, List.set_cons_zero, List.set_cons_succ]
    refine headH_take (i := 16) (v := ?_) rfl (by kernel_rfl) (fun _ _ _ h => h) (fun _ _ _ h => seqB_ready h.1) (Or.inl ⟨by rfl, ?hy33⟩) hS ?rest33
    case hy33 => intro w hSw; (try dsimp only at hSw); obtain ⟨hc0, hc1, hc2, hc3, hc4, hc5⟩ := hSw; go_simp; try (with_reducible rfl)
    case rest33 =>
    try simp only [Act.put, List.setIfInBounds_toArray, List.set_cons_zero, List.set_cons_succ]
    refine headH_one (i := 17) (by kernel_rfl) rfl (fun K hK => ?_)
    go_simp
    refine (G5.out _ BC.out).mono ?_
    rintro e x5 ⟨rfl, hb⟩
    replace BC := Lib.hid (chain BC.out hb)
    clear hb r0 r1 r2 s0 s1 s2
    obtain ⟨r0, r1, r2⟩ := (M0.out.keep BC.out).tri
    obtain ⟨s0, s1, s2⟩ := (M1.out.keep BC.out).tri
    refine hK.out _ _ (show (fun w' : World => w'.cell? ⟨W.heap.size, 0, none⟩ = some (.int .i64 q1) ∧ w'.cell? ⟨W.heap.size, 1, none⟩ = some (.int .i64 z1) ∧ w'.cell? ⟨W.heap.size, 2, none⟩ = some (.slice A3 fa.length c3) ∧ w'.cell? ⟨W.heap.size + 1, 0, none⟩ = some (.int .i64 q2) ∧ w'.cell? ⟨W.heap.size + 1, 1, none⟩ = some (.int .i64 z2) ∧ w'.cell? ⟨W.heap.size + 1, 2, none⟩ = some (.slice A4 fb.length c4)) x5 from ⟨r0, r1, r2, s0, s1, s2⟩) (fun hS => ?_)
    clear hK K
    refine headH_take (i := 18) (v := ?_) rfl (by kernel_rfl) (fun _ _ _ h => h) (fun _ _ _ h => seqB_ready h.1) (Or.inl ⟨by rfl, ?hy34⟩) hS ?rest34
    case hy34 => intro w hSw; (try dsimp only at hSw); obtain ⟨hc0, hc1, hc2, hc3, hc4, hc5⟩ := hSw; go_simp; try (with_reducible rfl)
    case rest34 =>
    try simp only [Act.put, List.setIfInBounds_toArray, List.set_cons_zero, List.set_cons_succ]
    refine headH_take (i := 19) (v := ?_) rfl (by kernel_rfl) (fun _ _ _ h => h) (fun _ _ _ h => seqB_ready h.1) (Or.inl ⟨by rfl, ?hy35⟩) hS ?rest35
    case hy35 => intro w hSw; (try dsimp only at hSw); obtain ⟨hc0, hc1, hc2, hc3, hc4, hc5⟩ := hSw; go_simp; try (with_reducible rfl)
    case rest35 =>
    try simp only [Act.put, List.setIfInBounds_toArray, List.set_cons_zero, List.set_cons_succ]
    refine headH_take (i := 20) (v := ?_) rfl (by kernel_rfl) (fun _ _ _ h => h) (fun _ _ _ h => seqB_ready h.1) (Or.inl ⟨by rfl, ?hy36⟩) hS ?rest36
    case hy36 => intro w hSw; (try dsimp only at hSw); obtain ⟨hc0, hc1, hc2, hc3, hc4, hc5⟩ := hSw; go_simp; try (with_reducible rfl)
    case rest36 =>
    try simp only [Act.put, List.setIfInBounds_toArray, List.set_cons_zero, List.set_cons_succ]
    refine headH_one (i := 21) (by kernel_rfl) rfl (fun K hK => ?_)
    go_simp
    refine (G6.out _).mono ?_
    rintro e x6 ⟨rfl, hb⟩
    replace BC := Lib.hid (chain BC.out hb)
    clear hb r0 r1 r2 s0 s1 s2
    obtain ⟨r0, r1, r2⟩ := (M0.out.keep BC.out).tri
    obtain ⟨s0, s1, s2⟩ := (M1.out.keep BC.out).tri
    refine hK.out _ _ (show (fun w' : World => w'.cell? ⟨W.heap.size, 0, none⟩ = some (.int .i64 q1) ∧ w'.cell? ⟨W.heap.size, 1, none⟩ = some (.int .i64 z1) ∧ w'.cell? ⟨W.heap.size, 2, none⟩ = some (.slice A3 fa.length c3) ∧ w'.cell? ⟨W.heap.size + 1, 0, none⟩ = some (.int .i64 q2) ∧ w'.cell? ⟨W.heap.size + 1, 1, none⟩ = some (.int .i64 z2) ∧ w'.cell? ⟨W.heap.size + 1, 2, none⟩ = some (.slice A4 fb.length c4)) x6 from ⟨r0, r1, r2, s0, s1, s2⟩) (fun hS => ?_)
    clear hK K
    refine headH_take (i := 22) (v := ?_) rfl (by kernel_rfl) (fun _ _ _ h => h) (fun _ _ _ h => seqB_ready h.1) (Or.inl ⟨by rfl, ?hy37⟩) hS ?rest37
    case hy37 => intro w hSw; (try dsimp only at hSw); obtain ⟨hc0, hc1, hc2, hc3, hc4, hc5⟩ := hSw; go_simp; try (with_reducible rfl)
    case rest37 =>
    try simp only [Act.put, List.setIfInBounds_toArray, List.set_cons_zero, List.set_cons_succ]
    refine ⟨by kernel_rfl, ?_⟩
    clear hS r0 r1 r2 s0 s1 s2
    go_upto_region 6 with (fail)
    clear G1 G2 G3 G4 G5 G6 hb1 hb2
    go_cut [17] (fun t wx => ∃ gE g7, ∃ m : Nat, t = .pointer (some ⟨gE, 0, none⟩) ∧ Hid (m = (min (max n 0) 16).toNat) ∧ Hid (ShAt wx (.agg #[.int .i64 q, .int .i64 z, .slice (some ⟨g7, 0, none⟩) m m]) (q, z, List.replicate m [])) ∧ Hid (Box wx gE 24 #[.int .i64 q, .int .i64 z, .slice (some ⟨g7, 0, none⟩) m m]) ∧ Hid (Below wd.heap.size wd wx))
    case first =>
      by_cases hn0 : n < 0
      · have hx : max n 0 = 0 := by omega
        have hn1 : ¬ 0 ≤ n := by omega
        have hk := makeR_any 0 (by decide) x6
        rw [show ((0 : Nat) : Int) = 0 from rfl] at hk
        have hM := Lib.hid (show 0 = (min (max n 0) 16).toNat by omega)
        go_wp2_with fail
        go_meet
        have ab1 : Below x6.heap.size x6 (x6.alloc (.cells (Array.replicate 0 (Value.slice none 0 0)) 43)) := (Below.refl _ _).alloc (Nat.le_refl _) _
        have ab2 := ab1.alloc ab1.size (.cells #[.int .i64 q, .int .i64 z, .slice (some ⟨x6.heap.size, 0, none⟩) 0 0] 24)
        have sp := (SpS.made (w0 := x6) (Box.new x6 43 (Array.replicate 0 (Value.slice none 0 0))) (Nat.le_refl _) (n := 0) (by omega)).keepB ((Below.refl _ _).alloc (Nat.le_refl _) (.cells #[.int .i64 q, .int .i64 z, .slice (some ⟨x6.heap.size, 0, none⟩) 0 0] 24))
        have sq := sp.at' ab2 q z (by simp)
        have bx := Box.new (x6.alloc (.cells (Array.replicate 0 (Value.slice none 0 0)) 43)) 24 #[.int .i64 q, .int .i64 z, .slice (some ⟨x6.heap.size, 0, none⟩) 0 0]
        simp only [World.size_alloc] at bx
        exact ⟨_, _, _, rfl, hM, Lib.hid sq, Lib.hid bx, Lib.hid (chain BC.out ab2)⟩
      · by_cases hn1 : n ≤ 16
        · obtain ⟨m, rfl⟩ : ∃ m : Nat, n = m := Int.eq_ofNat_of_zero_le (by omega)
          have hx : max (m : Int) 0 = (m : Int) := by omega
          have hy : min (m : Int) 16 = (m : Int) := by omega
          have hk := makeR_any m (by omega) x6
          have hM := Lib.hid (show m = (min (max (m : Int) 0) 16).toNat by omega)
          go_wp2_with fail
          go_meet
          have ab1 : Below x6.heap.size x6 (x6.alloc (.cells (Array.replicate m (Value.slice none 0 0)) 43)) := (Below.refl _ _).alloc (Nat.le_refl _) _
          have ab2 := ab1.alloc ab1.size (.cells #[.int .i64 q, .int .i64 z, .slice (some ⟨x6.heap.size, 0, none⟩) m m] 24)
          have sp := (SpS.made (w0 := x6) (Box.new x6 43 (Array.replicate m (Value.slice none 0 0))) (Nat.le_refl _) (n := m) (by omega)).keepB ((Below.refl _ _).alloc (Nat.le_refl _) (.cells #[.int .i64 q, .int .i64 z, .slice (some ⟨x6.heap.size, 0, none⟩) m m] 24))
          have sq := sp.at' ab2 q z (by simp)
          have bx := Box.new (x6.alloc (.cells (Array.replicate m (Value.slice none 0 0)) 43)) 24 #[.int .i64 q, .int .i64 z, .slice (some ⟨x6.heap.size, 0, none⟩) m m]
          simp only [World.size_alloc] at bx
          exact ⟨_, _, _, rfl, hM, Lib.hid sq, Lib.hid bx, Lib.hid (chain BC.out ab2)⟩
        · have hx : max n 0 = n := by omega
          have hy : min n 16 = 16 := by omega
          have hn2 : ¬ n < 0 := by omega
          have hk := makeR_any 16 (by decide) x6
          rw [show ((16 : Nat) : Int) = 16 from rfl] at hk
          have hM := Lib.hid (show 16 = (min (max n 0) 16).toNat by omega)
          go_wp2_with fail
          go_meet
          have ab1 : Below x6.heap.size x6 (x6.alloc (.cells (Array.replicate 16 (Value.slice none 0 0)) 43)) := (Below.refl _ _).alloc (Nat.le_refl _) _
          have ab2 := ab1.alloc ab1.size (.cells #[.int .i64 q, .int .i64 z, .slice (some ⟨x6.heap.size, 0, none⟩) 16 16] 24)
          have sp := (SpS.made (w0 := x6) (Box.new x6 43 (Array.replicate 16 (Value.slice none 0 0))) (Nat.le_refl _) (n := 16) (by omega)).keepB ((Below.refl _ _).alloc (Nat.le_refl _) (.cells #[.int .i64 q, .int .i64 z, .slice (some ⟨x6.heap.size, 0, none⟩) 16 16] 24))
          have sq := sp.at' ab2 q z (by simp)
          have bx := Box.new (x6.alloc (.cells (Array.replicate 16 (Value.slice none 0 0)) 43)) 24 #[.int .i64 q, .int .i64 z, .slice (some ⟨x6.heap.size, 0, none⟩) 16 16]
          simp only [World.size_alloc] at bx
          exact ⟨_, _, _, rfl, hM, Lib.hid sq, Lib.hid bx, Lib.hid (chain BC.out ab2)⟩
    case rest =>
      obtain ⟨gE, g7, m, rfl, HM, VE, BE, VB⟩ := hcut
      obtain ⟨wf, rfl⟩ : ∃ x : World, x = wc := ⟨_, rfl⟩
      have N0 := Lib.hid (M0.out.keep VB.out)
      have N2 := Lib.hid (M2.out.keep VB.out)
      have NN := Lib.hid (MN.out.keep VB.out)
      have NS := Lib.hid (MS.out.keep VB.out)
      have VA := Lib.hid (UA.out.below VB.out)
      have VN := Lib.hid (UN.out.below VB.out)
      have VS := Lib.hid (US.out.below VB.out)
      have HD := Lib.hid (HC.out.trans (VB.out.mono HC.out.size))
      have HZ := Lib.hid (show ∀ w, Calls Try.prog 13 #[.int .i64 n, .int .i64 z, .int .i64 q] w (fun e w' => e = .returned (.bool sz) ∧ w = w') from fun w => by rw [Hsz.out]; exact refSizes13_any n z q w)
      clear M0 M1 M2 MN MS UA UB UN US HC BC VB
      go_upto_region 7 with (fail)
      go_wp2_with fail
      refine (HZ.out _).mono ?_
      rintro e w7 ⟨rfl, rfl⟩
      go_upto_region 8 with (fail)
      go_cut [104] (fun t wx => t = .bool false ∧ Hid (Below wf.heap.size wf wx))
      case first =>
        obtain ⟨n0, n1, n2⟩ := NN.out.tri
        obtain ⟨e0, e1, e2⟩ := BE.out.tri
        cases sz with
        | true =>
          have heq : sN = (q, z, List.replicate m []) := by
            have h1 := Hsz.out
            have h2 : inK n 1 16 = true := by
              cases h3 : inK n 1 16 with
              | true => rfl
              | false => rw [h3] at h1; simp at h1
            have h4 : m = n.toNat := by
              have h5 := HM.out
              unfold inK at h2
              simp at h2
              omega
            rw [HsN.out, h4]
            unfold newSh
            rw [← h1]
            rfl
          obtain rfl : eN = 0 := by rw [HeN.out]; rfl
          have HS := refSame13_any _ _ _ _ wf VN.out VE.out
          rw [show likeSh (sN.1, sN.2.1, sN.2.2) (q, z, List.replicate m []) = true by rw [likeSh_eq]; exact heq] at HS
          have HS := Lib.hid HS
          clear heq HZ
          go_wp2_with fail
          refine HS.out.mono ?_
          rintro e w8 ⟨rfl, hb⟩
          go_wp2_with fail
          go_meet
          exact ⟨rfl, Lib.hid hb⟩
        | false =>
          have heq : sN = (0, 0, []) := by
            rw [HsN.out]
            unfold newSh
            rw [← Hsz.out]
            rfl
          obtain rfl : eN = 2 := by rw [HeN.out]; rfl
          have HS := refSame13_any _ _ _ _ wf VN.out (shAt_zero wf)
          rw [show likeSh (sN.1, sN.2.1, sN.2.2) (0, 0, []) = true by rw [likeSh_eq]; exact heq] at HS
          have HS := Lib.hid HS
          clear heq HZ
          go_wp2_with fail
          refine HS.out.mono ?_
          rintro e w8 ⟨rfl, hb⟩
          go_wp2_with fail
          go_meet
          exact ⟨rfl, Lib.hid hb⟩
      case rest =>
        obtain ⟨rfl, WB⟩ := hcut
        obtain ⟨wg, rfl⟩ : ∃ x : World, x = wc := ⟨_, rfl⟩
        have P0 := Lib.hid (N0.out.keep WB.out)
        have P2 := Lib.hid (N2.out.keep WB.out)
        have PS := Lib.hid (NS.out.keep WB.out)
        have XA := Lib.hid (VA.out.below WB.out)
        have XS := Lib.hid (VS.out.below WB.out)
        have HE := Lib.hid (HD.out.trans (WB.out.mono HD.out.size))
        clear N0 N2 NN NS VA VN VS HD HZ WB BE VE HM Hsz HsN HeN
        obtain ⟨r0, r1, r2⟩ := P0.out.tri
        obtain ⟨x0, x1, -, -⟩ := P2.out.two
        obtain ⟨s0, s1, s2⟩ := PS.out.tri
        have hae := HeA.out
        rw [addE_ref, ← HrB.out] at hae
        have HR := Lib.hid (show Calls Try.prog 9 #[.agg #[.int .i64 q1, .int .i64 z1, .slice A3 fa.length c3]] wg (fun e w' => e = .returned (.bool rB) ∧ Below wg.heap.size wg w') by rw [HrB.out]; exact refRight13_any _ _ _ XA.out OA.out)
        have HWy := Lib.hid (show ∀ w, Below wg.heap.size wg w → Calls Try.prog 14 #[.agg #[.int .i64 q1, .int .i64 z1, .slice A3 fa.length c3], .agg #[.int .u64 (id : Int), .string ct]] w (fun e w' => e = .returned (.int .i64 (whySh (q1, z1, fa) (id, ct))) ∧ Below w.heap.size w w') from fun w hw => refWhy13_any _ _ (id, ct) _ (XA.out.below hw) OA.out)
        have HSz := Lib.hid (show eA ≠ 0 → ∀ w, Below wg.heap.size wg w → Calls Try.prog 11 #[.agg #[.int .i64 sA.1, .int .i64 sA.2.1, .slice A6 sA.2.2.length c6], .agg #[.int .i64 0, .int .i64 0, .slice none 0 0]] w (fun e w' => e = .returned (.bool true) ∧ Below w.heap.size w w') from fun h w hw => by
          have h1 := refSame13_any _ _ _ _ w (XS.out.below hw) (shAt_zero w)
          rw [show likeSh (sA.1, sA.2.1, sA.2.2) (0, 0, []) = true by
            rw [likeSh_eq]
            show sA = _
            rw [HsA.out]
            unfold addR
            rw [← HeA.out, if_neg h]] at h1
          exact h1)
        have HAd := Lib.hid (show eA = 0 → ∀ w, Below wg.heap.size wg w → Calls Try.prog 15 #[.agg #[.int .i64 q1, .int .i64 z1, .slice A3 fa.length c3], .agg #[.int .u64 (id : Int), .string ct]] w (fun e w' => ∃ v, e = .returned v ∧ ShAt w' v (sA.1, sA.2.1, sA.2.2) ∧ Below w.heap.size w w') from fun h w hw => by
          have h1 := refAdd13_any q1 z1 A3 c3 fa (id, ct) w (XA.out.below hw).rows.2 OA.out
          rw [show addSh (q1, z1, fa) (id, ct) = (sA.1, sA.2.1, sA.2.2) by
            show _ = sA
            rw [HsA.out]
            unfold addR
            rw [← HeA.out, if_pos h]] at h1
          exact h1)
        have HSs := Lib.hid (show ∀ w v, Below wg.heap.size wg w → ShAt w v (sA.1, sA.2.1, sA.2.2) → Calls Try.prog 11 #[.agg #[.int .i64 sA.1, .int .i64 sA.2.1, .slice A6 sA.2.2.length c6], v] w (fun e w' => e = .returned (.bool true) ∧ Below w.heap.size w w') from fun w v hw hv => by
          rw [← likeSh_self (sA.1, sA.2.1, sA.2.2)]
          exact refSame13_any _ _ _ _ w (XS.out.below hw) hv)
        obtain ⟨wy, hwy⟩ : ∃ b, b = whySh (q1, z1, fa) (id, ct) := ⟨_, rfl⟩
        rw [← hwy] at hae HWy
        clear hwy XA XS HsA HeA HrB
        go_upto_region 11 with (fail)
        go_wp2_with fail
        refine HR.out.mono ?_
        rintro e wh ⟨rfl, hb⟩
        have BD := Lib.hid hb
        clear hb HR r0 r1 r2 x0 x1 s0 s1 s2
        obtain ⟨r0, r1, r2⟩ := (P0.out.keep BD.out).tri
        obtain ⟨x0, x1, -, -⟩ := (P2.out.keep BD.out).two
        obtain ⟨s0, s1, s2⟩ := (PS.out.keep BD.out).tri
        cases rB with
        | false =>
          obtain rfl : eA = 1 := hae
          go_wp2_with fail
          refine (HSz.out (by decide) _ BD.out).mono ?_
          rintro e wz ⟨rfl, hb⟩
          have HF := Lib.hid (HE.out.trans ((chain BD.out hb).mono HE.out.size))
          clear hb
          go_wp2_with fail
          go_ret
          exact ⟨rfl, HF.out⟩
        | true =>
          obtain rfl : eA = wy := hae
          go_wp2_with fail
          refine (HWy.out _ BD.out).mono ?_
          rintro e wi ⟨rfl, hb⟩
          replace BD := Lib.hid (chain BD.out hb)
          clear hb r0 r1 r2 x0 x1 s0 s1 s2
          obtain ⟨r0, r1, r2⟩ := (P0.out.keep BD.out).tri
          obtain ⟨x0, x1, -, -⟩ := (P2.out.keep BD.out).two
          obtain ⟨s0, s1, s2⟩ := (PS.out.keep BD.out).tri
          by_cases h0 : eA = 0
          · have HAe := Lib.hid (HAd.out h0)
            clear HAd
            subst h0
            go_upto_region 15 with (fail)
            replace BD := Lib.hid BD.out.drew
            refine wp_held_tail (S := (fun w' : World => w'.cell? ⟨W.heap.size, 0, none⟩ = some (.int .i64 q1) ∧ w'.cell? ⟨W.heap.size, 1, none⟩ = some (.int .i64 z1) ∧ w'.cell? ⟨W.heap.size, 2, none⟩ = some (.slice A3 fa.length c3) ∧ w'.cell? ⟨W.heap.size + 1 + 1, 0, none⟩ = some (.int .u64 (id : Int)) ∧ w'.cell? ⟨W.heap.size + 1 + 1, 1, none⟩ = some (.string ct) ∧ w'.cell? ⟨gS, 0, none⟩ = some (.int .i64 sA.1) ∧ w'.cell? ⟨gS, 1, none⟩ = some (.int .i64 sA.2.1) ∧ w'.cell? ⟨gS, 2, none⟩ = some (.slice A6 sA.2.2.length c6))) 9 (by kernel_rfl) (by decide) ?_
            have hS := Lib.hid (show (fun w' : World => w'.cell? ⟨W.heap.size, 0, none⟩ = some (.int .i64 q1) ∧ w'.cell? ⟨W.heap.size, 1, none⟩ = some (.int .i64 z1) ∧ w'.cell? ⟨W.heap.size, 2, none⟩ = some (.slice A3 fa.length c3) ∧ w'.cell? ⟨W.heap.size + 1 + 1, 0, none⟩ = some (.int .u64 (id : Int)) ∧ w'.cell? ⟨W.heap.size + 1 + 1, 1, none⟩ = some (.string ct) ∧ w'.cell? ⟨gS, 0, none⟩ = some (.int .i64 sA.1) ∧ w'.cell? ⟨gS, 1, none⟩ = some (.int .i64 sA.2.1) ∧ w'.cell? ⟨gS, 2, none⟩ = some (.slice A6 sA.2.2.length c6)) wi.drew from ⟨r0, r1, r2, x0, x1, s0, s1, s2⟩)
            replace hS := hS.out
            refine headH_take (i := 0) (v := ?_) rfl (by kernel_rfl) (fun _ _ _ h => h) (fun _ _ _ h => seqB_ready h.1) (Or.inl ⟨by rfl, ?hy38⟩) hS ?rest38
            case hy38 => intro w hSw; (try dsimp only at hSw); obtain ⟨hc0, hc1, hc2, hc3, hc4, hc5, hc6, hc7⟩ := hSw; go_simp; try (with_reducible rfl)
            case rest38 =>
            try simp only [Act.put, List.setIfInBounds_toArray, List.set_cons_zero, List.set_cons_succ]
            refine headH_take (i := 1) (v := ?_) rfl (by kernel_rfl) (fun _ _ _ h => h) (fun _ _ _ h => seqB_ready h.1) (Or.inl ⟨by rfl, ?hy39⟩) hS ?rest39
            case hy39 => intro w hSw; (try dsimp only at hSw); obtain ⟨hc0, hc1, hc2, hc3, hc4, hc5, hc6, hc7⟩ := hSw; go_simp; try (with_reducible rfl)
            case rest39 =>
            try simp only [Act.put, List.setIfInBounds_toArray, List.set_cons_zero, List.set_cons_succ]
            refine headH_take (i := 2) (v := ?_) rfl (by kernel_rfl) (fun _ _ _ h => h) (fun _ _ _ h => seqB_ready h.1) (Or.inl ⟨by rfl, ?hy40⟩) hS ?rest40
            case hy40 => intro w hSw; (try dsimp only at hSw); obtain ⟨hc0, hc1, hc2, hc3, hc4, hc5, hc6, hc7⟩ := hSw; go_simp; try (with_reducible rfl)
            case rest40 =>
            try simp only [Act.put, List.setIfInBounds_toArray, List.set_cons_zero, List.set_cons_succ]
            refine headH_take (i := 3) (v := ?_) rfl (by kernel_rfl) (fun _ _ _ h => h) (fun _ _ _ h => seqB_ready h.1) (Or.inl ⟨by rfl, ?hy41⟩) hS ?rest41
            case hy41 => intro w hSw; (try dsimp only at hSw); obtain ⟨hc0, hc1, hc2, hc3, hc4, hc5, hc6, hc7⟩ := hSw; go_simp; try (with_reducible rfl)
            case rest41 =>
            try simp only [Act.put, List.setIfInBounds_toArray, List.set_cons_zero, List.set_cons_succ]
            refine headH_take (i := 4) (v := ?_) rfl (by kernel_rfl) (fun _ _ _ h => h) (fun _ _ _ h => seqB_ready h.1) (Or.inl ⟨by rfl, ?hy42⟩) hS ?rest42
            case hy42 => intro w hSw; (try dsimp only at hSw); obtain ⟨hc0, hc1, hc2, hc3, hc4, hc5, hc6, hc7⟩ := hSw; go_simp; try (with_reducible rfl)
            case rest42 =>
            try simp only [Act.put, List.setIfInBounds_toArray, List.set_cons_zero, List.set_cons_succ]
            refine headH_take (i := 5) (v := ?_) rfl (by kernel_rfl) (fun _ _ _ h => h) (fun _ _ _ h => seqB_ready h.1) (Or.inl ⟨by rfl, ?hy43⟩) hS ?rest43
            case hy43 => intro w hSw; (try dsimp only at hSw); obtain ⟨hc0, hc1, hc2, hc3, hc4, hc5, hc6, hc7⟩ := hSw; go_simp; try (with_reducible rfl)
            case rest43 =>
            try simp only [Act.put, List.setIfInBounds_toArray, List.set_cons_zero, List.set_cons_succ]
            refine headH_one (i := 6) (by kernel_rfl) rfl (fun K hK => ?_)
            go_simp
            refine (HAe.out _ BD.out).mono ?_
            rintro e v1 ⟨vv, rfl, hv, hb⟩
            replace BD := Lib.hid (chain BD.out hb)
            have HV := Lib.hid hv
            clear hv
            clear hb r0 r1 r2 x0 x1 s0 s1 s2
            obtain ⟨r0, r1, r2⟩ := (P0.out.keep BD.out).tri
            obtain ⟨x0, x1, -, -⟩ := (P2.out.keep BD.out).two
            obtain ⟨s0, s1, s2⟩ := (PS.out.keep BD.out).tri
            refine hK.out _ _ (show (fun w' : World => w'.cell? ⟨W.heap.size, 0, none⟩ = some (.int .i64 q1) ∧ w'.cell? ⟨W.heap.size, 1, none⟩ = some (.int .i64 z1) ∧ w'.cell? ⟨W.heap.size, 2, none⟩ = some (.slice A3 fa.length c3) ∧ w'.cell? ⟨W.heap.size + 1 + 1, 0, none⟩ = some (.int .u64 (id : Int)) ∧ w'.cell? ⟨W.heap.size + 1 + 1, 1, none⟩ = some (.string ct) ∧ w'.cell? ⟨gS, 0, none⟩ = some (.int .i64 sA.1) ∧ w'.cell? ⟨gS, 1, none⟩ = some (.int .i64 sA.2.1) ∧ w'.cell? ⟨gS, 2, none⟩ = some (.slice A6 sA.2.2.length c6)) v1 from ⟨r0, r1, r2, x0, x1, s0, s1, s2⟩) (fun hS => ?_)
            clear hK K
            refine headH_one (i := 7) (by kernel_rfl) rfl (fun K hK => ?_)
            go_simp
            refine (HSs.out _ vv BD.out HV.out).mono ?_
            rintro e v2 ⟨rfl, hb⟩
            replace BD := Lib.hid (chain BD.out hb)
            clear hb r0 r1 r2 x0 x1 s0 s1 s2
            obtain ⟨r0, r1, r2⟩ := (P0.out.keep BD.out).tri
            obtain ⟨x0, x1, -, -⟩ := (P2.out.keep BD.out).two
            obtain ⟨s0, s1, s2⟩ := (PS.out.keep BD.out).tri
            refine hK.out _ _ (show (fun w' : World => w'.cell? ⟨W.heap.size, 0, none⟩ = some (.int .i64 q1) ∧ w'.cell? ⟨W.heap.size, 1, none⟩ = some (.int .i64 z1) ∧ w'.cell? ⟨W.heap.size, 2, none⟩ = some (.slice A3 fa.length c3) ∧ w'.cell? ⟨W.heap.size + 1 + 1, 0, none⟩ = some (.int .u64 (id : Int)) ∧ w'.cell? ⟨W.heap.size + 1 + 1, 1, none⟩ = some (.string ct) ∧ w'.cell? ⟨gS, 0, none⟩ = some (.int .i64 sA.1) ∧ w'.cell? ⟨gS, 1, none⟩ = some (.int .i64 sA.2.1) ∧ w'.cell? ⟨gS, 2, none⟩ = some (.slice A6 sA.2.2.length c6)) v2 from ⟨r0, r1, r2, x0, x1, s0, s1, s2⟩) (fun hS => ?_)
            clear hK K
            refine headH_take (i := 8) (v := ?_) rfl (by kernel_rfl) (fun _ _ _ h => h) (fun _ _ _ h => seqB_ready h.1) (Or.inl ⟨by rfl, ?hy44⟩) hS ?rest44
            case hy44 => intro w hSw; (try dsimp only at hSw); obtain ⟨hc0, hc1, hc2, hc3, hc4, hc5, hc6, hc7⟩ := hSw; go_simp; try (with_reducible rfl)
            case rest44 =>
            try simp only [Act.put, List.setIfInBounds_toArray, List.set_cons_zero, List.set_cons_succ]
            refine ⟨by kernel_rfl, ?_⟩
            go_wp2_with fail
            go_ret
            exact ⟨rfl, HE.out.trans (BD.out.mono HE.out.size)⟩
          · have t9 : (eA != 0) = true := by simpa using h0
            have t8 : (eA == 0) = false := by simpa using h0
            have t7 : (eA == eA) = true := beq_self_eq_true _
            go_wp2_with fail
            refine (HSz.out h0 _ BD.out).mono ?_
            rintro e wz ⟨rfl, hb⟩
            have HF := Lib.hid (HE.out.trans ((chain BD.out hb).mono HE.out.size))
            clear hb
            go_wp2_with fail
            go_ret
            exact ⟨rfl, HF.out⟩
end Go.Proofs.Ytehlebeeoeghmaa
