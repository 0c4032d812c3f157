/- Layer 18: few, Open of both sides, replies compared, alive. -/
import Derived.Test.YtcikoaeiopbbbaaObB
import Derived.RegionTactic
import Derived.Test.YtcikoaeiopbbbaaKTail
namespace Go.Proofs.Ytcikoaeiopbbbaa
set_option linter.unusedVariables false
set_option linter.unusedSimpArgs false
open Go.RowKit Go.Lib
set_option maxRecDepth 100000
/-- An object and a reply are returned, apart. -/
def DoOut (o : ObR) (r : ReplyR) (w : World) (e : Ending) (w' : World) : Prop :=
  ∃ A d B c, e = .returned (.tuple #[.agg (obA o A d), .agg #[.int .i64 r.1, .int .i64 r.2.1, .slice B r.2.2.length c]]) ∧ SliceOk A o.2.1.2.2.2.length d ∧ Syms w' A o.2.1.2.2.2.length o.2.1.2.2.2 ∧ Texts w' B r.2.2.length r.2.2 ∧ r.2.2.length ≤ c ∧ c ≤ maxLen ∧ Below w.heap.size w w'
/-- An object and a reply are returned, as one. -/
def DOut (o : ObR) (r : ReplyR) (w : World) (e : Ending) (w' : World) : Prop :=
  ∃ A d B c, e = .returned (.agg #[.int .u64 (o.1 : Nat), .int .i64 o.2.1.1, .int .i64 o.2.1.2.1, .int .i64 o.2.1.2.2.1, .slice A o.2.1.2.2.2.length d, .int .i64 o.2.2, .int .i64 r.1, .int .i64 r.2.1, .slice B r.2.2.length c]) ∧ SliceOk A o.2.1.2.2.2.length d ∧ Syms w' A o.2.1.2.2.2.length o.2.1.2.2.2 ∧ Texts w' B r.2.2.length r.2.2 ∧ r.2.2.length ≤ c ∧ c ≤ maxLen ∧ Below w.heap.size w w'
set_option maxHeartbeats 2000000 in
theorem replies_yes (va vb : Value) (r : ReplyR) (w : World) (ha : RpAt w va r) (hb : RpAt w vb r) (hl : r.2.2.length ≤ 1000000) : Calls Try.prog 9 #[va, vb] w fun e w' => e = .returned (.bool true) ∧ Below w.heap.size w w' := by
  obtain ⟨A, c, rfl, hx, hc1, hc2⟩ := ha
  obtain ⟨B, c2, rfl, hy, hd1, hd2⟩ := hb
  obtain ⟨why, n, bl⟩ := r
  dsimp only at hx hy hc1 hd1 hl
  have b1 : Below w.heap.size w (w.alloc (.cells #[.int .i64 why, .int .i64 n, .slice A bl.length c] 36)) := (Below.refl _ _).alloc (Nat.le_refl _) _
  have b2 := b1.alloc b1.size (.cells #[.int .i64 why, .int .i64 n, .slice B bl.length c2] 36)
  have Q := Lib.hid ((Box.new w 36 #[.int .i64 why, .int .i64 n, .slice A bl.length c]).alloc (.cells #[.int .i64 why, .int .i64 n, .slice B bl.length c2] 36))
  have u0 := Box.new (w.alloc (.cells #[.int .i64 why, .int .i64 n, .slice A bl.length c] 36)) 36 #[.int .i64 why, .int .i64 n, .slice B bl.length c2]
  simp only [World.size_alloc] at u0
  have U := Lib.hid u0
  have HB := Lib.hid b2
  have HT := Lib.hid (refTexts_same A B bl.length c c2 bl _ (hx.below b2) (hy.below b2) hl)
  obtain ⟨r0, r1, r2⟩ := Q.out.threeO
  obtain ⟨s0, s1, s2⟩ := U.out.threeO
  have t1 : (why == why) = true := by simp
  have t2 : (n == n) = true := by simp
  clear b1 b2 hx hy hc1 hc2 hd1 hd2 u0
  go_enter Try.func9, Try.ntmps9
  go_wp2_with fail
  refine HT.out.mono ?_
  rintro e w2 ⟨rfl, hb2⟩
  have HB2 := Lib.hid (chain HB.out hb2)
  clear hb2
  go_wp2_with fail
  go_ret
  exact ⟨rfl, HB2.out⟩
theorem below_set3o {B : Nat} {w x : World} (h : Below B w x) {g : Nat} (hg : B ≤ g) (a b c : Value) : Below B w (((x.setCell ⟨g, 0, none⟩ a).setCell ⟨g, 1, none⟩ b).setCell ⟨g, 2, none⟩ c) := ((h.setCell (p := ⟨g, 0, none⟩) hg a).setCell (p := ⟨g, 1, none⟩) hg b).setCell (p := ⟨g, 2, none⟩) hg c
theorem below_set6o {B : Nat} {w x : World} (h : Below B w x) {g : Nat} (hg : B ≤ g) (a b c d e f : Value) : Below B w ((((((x.setCell ⟨g, 0, none⟩ a).setCell ⟨g, 1, none⟩ b).setCell ⟨g, 2, none⟩ c).setCell ⟨g, 3, none⟩ d).setCell ⟨g, 4, none⟩ e).setCell ⟨g, 5, none⟩ f) :=
  (((below_set3o h hg a b c).setCell (p := ⟨g, 3, none⟩) hg d).setCell (p := ⟨g, 4, none⟩) hg e).setCell (p := ⟨g, 5, none⟩) hg f
theorem Box.put3o {w : World} {g : Nat} {t : TypeId} {a b c u v x : Value} (h : Box w g t #[a, b, c]) : Box (((w.setCell ⟨g, 0, none⟩ u).setCell ⟨g, 1, none⟩ v).setCell ⟨g, 2, none⟩ x) g t #[u, v, x] := ((h.put 0 u).put 1 v).put 2 x
theorem Box.put6o {w : World} {g : Nat} {t : TypeId} {a b c d e f u v x y z k : Value} (h : Box w g t #[a, b, c, d, e, f]) : Box ((((((w.setCell ⟨g, 0, none⟩ u).setCell ⟨g, 1, none⟩ v).setCell ⟨g, 2, none⟩ x).setCell ⟨g, 3, none⟩ y).setCell ⟨g, 4, none⟩ z).setCell ⟨g, 5, none⟩ k) g t #[u, v, x, y, z, k] := (((((h.put 0 u).put 1 v).put 2 x).put 3 y).put 4 z).put 5 k
theorem Box.far3o {w : World} {g g' : Nat} {t : TypeId} {cs : Array Value} (h : Box w g t cs) (hn : g ≠ g') (a b c : Value) : Box (((w.setCell ⟨g', 0, none⟩ a).setCell ⟨g', 1, none⟩ b).setCell ⟨g', 2, none⟩ c) g t cs := ((h.far (p := ⟨g', 0, none⟩) hn a).far (p := ⟨g', 1, none⟩) hn b).far (p := ⟨g', 2, none⟩) hn c
theorem Box.far6o {w : World} {g g' : Nat} {t : TypeId} {cs : Array Value} (h : Box w g t cs) (hn : g ≠ g') (a b c d e f : Value) : Box ((((((w.setCell ⟨g', 0, none⟩ a).setCell ⟨g', 1, none⟩ b).setCell ⟨g', 2, none⟩ c).setCell ⟨g', 3, none⟩ d).setCell ⟨g', 4, none⟩ e).setCell ⟨g', 5, none⟩ f) g t cs := (((h.far3o hn a b c).far (p := ⟨g', 3, none⟩) hn d).far (p := ⟨g', 4, none⟩) hn e).far (p := ⟨g', 5, none⟩) hn f
abbrev opW (c : CallR) (w : World) : World := ((w.alloc (.cells (callL c).toArray 31)).alloc (.cells #[.int .u64 0, .int .i64 0, .int .i64 0, .int .i64 0, .slice none 0 0, .int .i64 0] 27)).alloc (.cells #[.int .i64 0, .int .i64 0, .slice none 0 0] 36)
theorem opW_three (c : CallR) (w : World) : Box (opW c w) w.heap.size 31 (callL c).toArray ∧ Box (opW c w) (w.heap.size + 1) 27 #[.int .u64 0, .int .i64 0, .int .i64 0, .int .i64 0, .slice none 0 0, .int .i64 0] ∧ Box (opW c w) (w.heap.size + 1 + 1) 36 #[.int .i64 0, .int .i64 0, .slice none 0 0] ∧ Below w.heap.size w (opW c w) := by
  refine ⟨((Box.new w _ _).alloc _).alloc _, ?_, ?_, (((Below.refl _ _).alloc (Nat.le_refl _) _).alloc (by simp) _).alloc (by simp; omega) _⟩
  · have q := (Box.new (w.alloc (.cells (callL c).toArray 31)) 27 #[.int .u64 0, .int .i64 0, .int .i64 0, .int .i64 0, .slice none 0 0, .int .i64 0]).alloc (.cells #[.int .i64 0, .int .i64 0, .slice none 0 0] 36)
    simpa only [World.size_alloc] using q
  · have q := Box.new ((w.alloc (.cells (callL c).toArray 31)).alloc (.cells #[.int .u64 0, .int .i64 0, .int .i64 0, .int .i64 0, .slice none 0 0, .int .i64 0] 27)) 36 #[.int .i64 0, .int .i64 0, .slice none 0 0]
    simpa only [World.size_alloc] using q
theorem enew18 (k s c : Int) (w : World) :
    Calls Try.prog 13 #[.int .i64 k, .int .i64 s, .int .i64 c] w fun e w' => ∃ nK nS nC nE A d, e = .returned (.tuple #[.agg #[.int .i64 nK, .int .i64 nS, .int .i64 nC, .slice A 0 d], .int .i64 nE]) ∧ ((sizesB k s c = true → nK = k ∧ nS = s ∧ nC = c ∧ nE = 0) ∧ (sizesB k s c = false → nK = 0 ∧ nS = 0 ∧ nC = 0 ∧ nE = 2)) ∧ SliceOk A 0 d ∧ Syms w' A 0 [] ∧ Below w.heap.size w w' := by
  refine (enew_any k s c w).mono ?_
  rintro e w' ⟨A, d, rfl, h1, -, h3, h4, hb⟩
  rw [storeB_new]
  refine ⟨_, _, _, _, A, d, rfl, ⟨fun h => ?_, fun h => ?_⟩, ⟨Nat.zero_le _, h3, fun e => ⟨rfl, h4 e⟩⟩, h1, hb⟩
  · rw [h]; exact ⟨rfl, rfl, rfl, rfl⟩
  · rw [h]; exact ⟨rfl, rfl, rfl, rfl⟩
theorem opW_gen (a b r : Array Value) (w : World) : Box (((w.alloc (.cells a 31)).alloc (.cells b 27)).alloc (.cells r 36)) (w.heap.size + 1) 27 b ∧ Box (((w.alloc (.cells a 31)).alloc (.cells b 27)).alloc (.cells r 36)) (w.heap.size + 1 + 1) 36 r ∧ Below w.heap.size w (((w.alloc (.cells a 31)).alloc (.cells b 27)).alloc (.cells r 36)) := by
  refine ⟨?_, ?_, (((Below.refl _ _).alloc (Nat.le_refl _) _).alloc (by simp) _).alloc (by simp; omega) _⟩
  · have q := (Box.new (w.alloc (.cells a 31)) 27 b).alloc (.cells r 36)
    simpa only [World.size_alloc] using q
  · have q := Box.new ((w.alloc (.cells a 31)).alloc (.cells b 27)) 36 r
    simpa only [World.size_alloc] using q
set_option maxHeartbeats 4000000 in
theorem oopen_no1 (what : Int) (ob : Nat) (k s cp : Int) (id : Nat) (dt : ByteArray) (h0 : ¬ what = 0) (w : World) : Calls Try.prog 5 #[callV (what, ob, k, s, cp, id, dt)] w (DoOut obZ (1, 0, []) w) := by
  obtain ⟨q0, q1, q2, b3⟩ := opW_three (what, ob, k, s, cp, id, dt) w
  have Q0 := Lib.hid q0
  obtain ⟨p1, p2, b4⟩ := opW_gen (callL (what, ob, k, s, cp, id, dt)).toArray #[.int .u64 0, .int .i64 0, .int .i64 0, .int .i64 0, .slice none 0 0, .int .i64 0] #[.int .i64 1, .int .i64 0, .slice none 0 0] w
  have P1 := Lib.hid p1
  have P2 := Lib.hid p2
  have HB := Lib.hid b4
  obtain ⟨r0, r1, r2, r3, r4, r5, r6⟩ := Q0.out.sevenO
  clear q0 q1 q2 b3 p1 p2 b4
  have t9 : (what != 0) = true := by simpa using h0
  clear h0
  go_enter Try.func5, Try.ntmps5
  go_wp2_with fail
  refine close_two Try.results5 rfl rfl rfl P1.out P2.out Try.underlying27 Try.underlying36 rfl rfl (by kernel_rfl) (by kernel_rfl) ?_
  exact ⟨none, 0, none, 0, rfl, ⟨Nat.le_refl _, Nat.zero_le _, fun _ => ⟨rfl, rfl⟩⟩, Recs.nil _ _, Texts.nil _ _, Nat.le_refl _, Nat.zero_le _, HB.out⟩
set_option maxHeartbeats 8000000 in
theorem oopen_no2 (ob : Nat) (k s cp : Int) (id : Nat) (dt : ByteArray) (hz : sizesB k s cp = false) (w : World) : Calls Try.prog 5 #[callV (0, ob, k, s, cp, id, dt)] w (DoOut obZ (2, 0, []) w) := by
  obtain ⟨q0, q1, q2, b3⟩ := opW_three (0, ob, k, s, cp, id, dt) w
  have Q0 := Lib.hid q0
  have Q1 := Lib.hid q1
  have Q2 := Lib.hid q2
  have HB := Lib.hid b3
  obtain ⟨r0, r1, r2, r3, r4, r5, r6⟩ := Q0.out.sevenO
  obtain ⟨s0, s1, s2, s3, s4, s5⟩ := Q1.out.sixO
  obtain ⟨t0, t1, t2⟩ := Q2.out.threeO
  have f0 := Q1.out.free 0
  have f1 := Q1.out.free 1
  have f2 := Q1.out.free 2
  have f3 := Q1.out.free 3
  have f4 := Q1.out.free 4
  have f5 := Q1.out.free 5
  have g0 := Q2.out.free 0
  have g1 := Q2.out.free 1
  have g2 := Q2.out.free 2
  clear q0 q1 q2 b3
  have HN := Lib.hid (enew18 k s cp (opW (0, ob, k, s, cp, id, dt) w))
  rw [hz] at HN
  clear hz
  go_enter Try.func5, Try.ntmps5
  go_wp2_with fail
  refine HN.out.mono ?_
  rintro e w2 ⟨nK, nS, nC, nE, A, d, rfl, ⟨-, h2⟩, -, hx, hb⟩
  obtain ⟨e1, e2, e3, e4⟩ := h2 trivial
  subst e1 e2 e3 e4
  have b4 : Below w2.heap.size w2 (w2.alloc (.cells #[.int .i64 0, .int .i64 0, .int .i64 0, .slice A 0 d] 25)) := (Below.refl _ _).alloc (Nat.le_refl _) _
  have hbb := chain hb b4
  have P1 := Lib.hid (Q1.out.keep hbb)
  have P2 := Lib.hid (Q2.out.keep hbb)
  have HB2 := Lib.hid (chain HB.out hbb)
  clear hbb b4 hb hx h2 HN r0 r1 r2 r3 r4 r5 r6 s0 s1 s2 s3 s4 s5 t0 t1 t2 f0 f1 f2 f3 f4 f5 g0 g1 g2
  obtain ⟨s0, s1, s2, s3, s4, s5⟩ := P1.out.sixO
  obtain ⟨t0, t1, t2⟩ := P2.out.threeO
  have f0 := P1.out.free 0
  have f1 := P1.out.free 1
  have f2 := P1.out.free 2
  have f3 := P1.out.free 3
  have f4 := P1.out.free 4
  have f5 := P1.out.free 5
  have g0 := P2.out.free 0
  have g1 := P2.out.free 1
  have g2 := P2.out.free 2
  go_wp2_with fail
  refine close_two Try.results5 rfl rfl rfl (P1.out.put6o.far3o (by omega) _ _ _) ((P2.out.far6o (g' := w.heap.size + 1) (by omega) _ _ _ _ _ _).put3o) Try.underlying27 Try.underlying36 rfl rfl (by kernel_rfl) (by kernel_rfl) ?_
  exact ⟨none, 0, none, 0, rfl, ⟨Nat.le_refl _, Nat.zero_le _, fun _ => ⟨rfl, rfl⟩⟩, Recs.nil _ _, Texts.nil _ _, Nat.le_refl _, Nat.zero_le _, below_set3o (below_set6o HB2.out (by omega) _ _ _ _ _ _) (by omega) _ _ _⟩
set_option maxHeartbeats 8000000 in
theorem oopen_yes (ob : Nat) (k s cp : Int) (id : Nat) (dt : ByteArray) (hz : sizesB k s cp = true) (w : World) : Calls Try.prog 5 #[callV (0, ob, k, s, cp, id, dt)] w (DoOut (ob, (k, s, cp, []), 0) (0, k, []) w) := by
  obtain ⟨q0, q1, q2, b3⟩ := opW_three (0, ob, k, s, cp, id, dt) w
  have Q0 := Lib.hid q0
  have Q1 := Lib.hid q1
  have Q2 := Lib.hid q2
  have HB := Lib.hid b3
  obtain ⟨r0, r1, r2, r3, r4, r5, r6⟩ := Q0.out.sevenO
  obtain ⟨s0, s1, s2, s3, s4, s5⟩ := Q1.out.sixO
  obtain ⟨t0, t1, t2⟩ := Q2.out.threeO
  have f0 := Q1.out.free 0
  have f1 := Q1.out.free 1
  have f2 := Q1.out.free 2
  have f3 := Q1.out.free 3
  have f4 := Q1.out.free 4
  have f5 := Q1.out.free 5
  have g0 := Q2.out.free 0
  have g1 := Q2.out.free 1
  have g2 := Q2.out.free 2
  clear q0 q1 q2 b3
  have HN := Lib.hid (enew18 k s cp (opW (0, ob, k, s, cp, id, dt) w))
  rw [hz] at HN
  clear hz
  go_enter Try.func5, Try.ntmps5
  go_wp2_with fail
  refine HN.out.mono ?_
  rintro e w2 ⟨nK, nS, nC, nE, A, d, rfl, ⟨h2, -⟩, hs, hx, hb⟩
  obtain ⟨e1, e2, e3, e4⟩ := h2 trivial
  subst e1 e2 e3 e4
  have b4 : Below w2.heap.size w2 (w2.alloc (.cells #[.int .i64 nK, .int .i64 nS, .int .i64 nC, .slice A 0 d] 25)) := (Below.refl _ _).alloc (Nat.le_refl _) _
  have hbb := chain hb b4
  have P0 := Lib.hid (Q0.out.keep hbb)
  have P1 := Lib.hid (Q1.out.keep hbb)
  have P2 := Lib.hid (Q2.out.keep hbb)
  have PS := Lib.hid (Box.new w2 25 #[.int .i64 nK, .int .i64 nS, .int .i64 nC, .slice A 0 d])
  have HB2 := Lib.hid (chain HB.out hbb)
  have HSo := Lib.hid hs
  have HXs := Lib.hid (Recs.below hx b4)
  have HG := Lib.hid (show w.heap.size + 1 + 1 < w2.heap.size from Nat.lt_of_lt_of_le Q2.out.lt hb.size)
  clear hbb b4 hb hx h2 HN r0 r1 r2 r3 r4 r5 r6 s0 s1 s2 s3 s4 s5 t0 t1 t2 f0 f1 f2 f3 f4 f5 g0 g1 g2
  obtain ⟨r0, r1, r2, r3, r4, r5, r6⟩ := P0.out.sevenO
  obtain ⟨s0, s1, s2, s3, s4, s5⟩ := P1.out.sixO
  obtain ⟨t0, t1, t2⟩ := P2.out.threeO
  obtain ⟨p0, p1, p2, p3, -, -, -, -⟩ := PS.out.four
  have f0 := P1.out.free 0
  have f1 := P1.out.free 1
  have f2 := P1.out.free 2
  have f3 := P1.out.free 3
  have f4 := P1.out.free 4
  have f5 := P1.out.free 5
  have g0 := P2.out.free 0
  have g1 := P2.out.free 1
  have g2 := P2.out.free 2
  have hgg := HG.out
  go_upto_region 6 with (fail)
  refine wp_heldK_bar [(8, (fun (w' : World) => w'.cell? ⟨w.heap.size, 1, none⟩ = some (.int .u64 (ob : Int)) ∧ w'.cell? ⟨w.heap.size, 2, none⟩ = some (.int .i64 nK) ∧ w'.cell? ⟨w2.heap.size, 0, none⟩ = some (.int .i64 nK) ∧ w'.cell? ⟨w2.heap.size, 1, none⟩ = some (.int .i64 nS) ∧ w'.cell? ⟨w2.heap.size, 2, none⟩ = some (.int .i64 nC) ∧ w'.cell? ⟨w2.heap.size, 3, none⟩ = some (.slice A 0 d)))] 9 (by kernel_rfl) (by decide) ?_
  have hS0 := (show ((fun (w' : World) => w'.cell? ⟨w.heap.size, 1, none⟩ = some (.int .u64 (ob : Int)) ∧ w'.cell? ⟨w.heap.size, 2, none⟩ = some (.int .i64 nK) ∧ w'.cell? ⟨w2.heap.size, 0, none⟩ = some (.int .i64 nK) ∧ w'.cell? ⟨w2.heap.size, 1, none⟩ = some (.int .i64 nS) ∧ w'.cell? ⟨w2.heap.size, 2, none⟩ = some (.int .i64 nC) ∧ w'.cell? ⟨w2.heap.size, 3, none⟩ = some (.slice A 0 d))) (w2.alloc (.cells #[.int .i64 nK, .int .i64 nS, .int .i64 nC, .slice A 0 d] 25)).drew from ⟨r1, r2, p0, p1, p2, p3⟩)
  refine headK_take (i := 0) (v := ?_) rfl (by kernel_rfl) (fun _ _ _ h => h) (fun _ _ _ h => passed_ready h.1) (Or.inl ⟨by rfl, ?hy1⟩) ⟨fun _ => hS0, trivial⟩ ?rest1
  case hy1 => intro w _; go_simp; try (with_reducible rfl)
  case rest1 =>
  try simp only [Act.put, List.setIfInBounds_toArray, List.set_cons_zero, List.set_cons_succ]
  refine headK_load 0 8 _ rfl (i := 1) (v := ?_) rfl (by kernel_rfl) (fun _ _ _ h => h) (fun _ _ _ h => passed_ready h.1) (Or.inl ⟨by rfl, ?hy2⟩) ⟨fun _ => hS0, trivial⟩ ?rest2
  case hy2 => intro w hSw; (try dsimp only at hSw); obtain ⟨hc0, hc1, hc2, hc3, hc4, hc5⟩ := hSw; go_simp; try (with_reducible rfl)
  case rest2 =>
  try simp only [Act.put, List.setIfInBounds_toArray, List.set_cons_zero, List.set_cons_succ]
  refine headK_load 0 8 _ rfl (i := 2) (v := ?_) rfl (by kernel_rfl) (fun _ _ _ h => h) (fun _ _ _ h => passed_ready h.1) (Or.inl ⟨by rfl, ?hy3⟩) ⟨fun _ => hS0, trivial⟩ ?rest3
  case hy3 => intro w hSw; (try dsimp only at hSw); obtain ⟨hc0, hc1, hc2, hc3, hc4, hc5⟩ := hSw; go_simp; try (with_reducible rfl)
  case rest3 =>
  try simp only [Act.put, List.setIfInBounds_toArray, List.set_cons_zero, List.set_cons_succ]
  refine headK_take (i := 3) (v := ?_) rfl (by kernel_rfl) (fun _ _ _ h => h) (fun _ _ _ h => passed_ready h.1) (Or.inl ⟨by rfl, ?hy4⟩) ⟨fun _ => hS0, trivial⟩ ?rest4
  case hy4 => intro w _; go_simp; try (with_reducible rfl)
  case rest4 =>
  try simp only [Act.put, List.setIfInBounds_toArray, List.set_cons_zero, List.set_cons_succ]
  refine headK_take (i := 4) (v := ?_) rfl (by kernel_rfl) (fun _ _ _ h => h) (fun _ _ _ h => passed_ready h.1) (Or.inl ⟨by rfl, ?hy5⟩) ⟨fun _ => hS0, trivial⟩ ?rest5
  case hy5 => intro w _; go_simp; try (with_reducible rfl)
  case rest5 =>
  try simp only [Act.put, List.setIfInBounds_toArray, List.set_cons_zero, List.set_cons_succ]
  refine headK_load 0 8 _ rfl (i := 5) (v := ?_) rfl (by kernel_rfl) (fun _ _ _ h => h) (fun _ _ _ h => passed_ready h.1) (Or.inl ⟨by rfl, ?hy6⟩) ⟨fun _ => hS0, trivial⟩ ?rest6
  case hy6 => intro w hSw; (try dsimp only at hSw); obtain ⟨hc0, hc1, hc2, hc3, hc4, hc5⟩ := hSw; go_simp; try (with_reducible rfl)
  case rest6 =>
  try simp only [Act.put, List.setIfInBounds_toArray, List.set_cons_zero, List.set_cons_succ]
  refine headK_take (i := 6) (v := ?_) rfl (by kernel_rfl) (fun _ _ _ h => h) (fun _ _ _ h => passed_ready h.1) (Or.inl ⟨by rfl, ?hy7⟩) ⟨fun _ => hS0, trivial⟩ ?rest7
  case hy7 => intro w _; go_simp; try (with_reducible rfl)
  case rest7 =>
  try simp only [Act.put, List.setIfInBounds_toArray, List.set_cons_zero, List.set_cons_succ]
  refine headK_one (i := 7) (by kernel_rfl) rfl (fun K hK => ?_)
  go_simp
  have hS0 := (show ((fun (w' : World) => w'.cell? ⟨w.heap.size, 1, none⟩ = some (.int .u64 (ob : Int)) ∧ w'.cell? ⟨w.heap.size, 2, none⟩ = some (.int .i64 nK) ∧ w'.cell? ⟨w2.heap.size, 0, none⟩ = some (.int .i64 nK) ∧ w'.cell? ⟨w2.heap.size, 1, none⟩ = some (.int .i64 nS) ∧ w'.cell? ⟨w2.heap.size, 2, none⟩ = some (.int .i64 nC) ∧ w'.cell? ⟨w2.heap.size, 3, none⟩ = some (.slice A 0 d))) (((((((w2.alloc (.cells #[.int .i64 nK, .int .i64 nS, .int .i64 nC, .slice A 0 d] 25)).setCell ⟨w.heap.size + 1, 0, none⟩ (.int .u64 (ob : Int))).setCell ⟨w.heap.size + 1, 1, none⟩ (.int .i64 nK)).setCell ⟨w.heap.size + 1, 2, none⟩ (.int .i64 nS)).setCell ⟨w.heap.size + 1, 3, none⟩ (.int .i64 nC)).setCell ⟨w.heap.size + 1, 4, none⟩ (.slice A 0 d)).setCell ⟨w.heap.size + 1, 5, none⟩ (.int .i64 0)).drew from ⟨(P0.out.far6o (g' := w.heap.size + 1) (by omega) (.int .u64 (ob : Int)) (.int .i64 nK) (.int .i64 nS) (.int .i64 nC) (.slice A 0 d) (.int .i64 0)).drew.cell 1, (P0.out.far6o (g' := w.heap.size + 1) (by omega) (.int .u64 (ob : Int)) (.int .i64 nK) (.int .i64 nS) (.int .i64 nC) (.slice A 0 d) (.int .i64 0)).drew.cell 2, (PS.out.far6o (g' := w.heap.size + 1) (by omega) (.int .u64 (ob : Int)) (.int .i64 nK) (.int .i64 nS) (.int .i64 nC) (.slice A 0 d) (.int .i64 0)).drew.cell 0, (PS.out.far6o (g' := w.heap.size + 1) (by omega) (.int .u64 (ob : Int)) (.int .i64 nK) (.int .i64 nS) (.int .i64 nC) (.slice A 0 d) (.int .i64 0)).drew.cell 1, (PS.out.far6o (g' := w.heap.size + 1) (by omega) (.int .u64 (ob : Int)) (.int .i64 nK) (.int .i64 nS) (.int .i64 nC) (.slice A 0 d) (.int .i64 0)).drew.cell 2, (PS.out.far6o (g' := w.heap.size + 1) (by omega) (.int .u64 (ob : Int)) (.int .i64 nK) (.int .i64 nS) (.int .i64 nC) (.slice A 0 d) (.int .i64 0)).drew.cell 3⟩)
  refine hK.out _ _ ⟨fun _ => hS0, trivial⟩ ?_
  clear hK K
  try simp only [Act.put, List.setIfInBounds_toArray, List.set_cons_zero, List.set_cons_succ]
  refine headK_one (i := 8) (by kernel_rfl) rfl (fun K hK => ?_)
  go_simp
  refine hK.out _ _ ⟨fun h => Bool.noConfusion (show true = false from h), trivial⟩ ?_
  clear hK K
  try simp only [Act.put, List.setIfInBounds_toArray, List.set_cons_zero, List.set_cons_succ]
  refine ⟨by kernel_rfl, ?_⟩
  refine wpAny_done (by kernel_rfl) ?_ _
  go_wp2_with fail
  refine close_two Try.results5 rfl rfl rfl ((P1.out.put6o.far3o (by omega) _ _ _).drew) (((P2.out.far6o (g' := w.heap.size + 1) (by omega) _ _ _ _ _ _).put3o).drew) Try.underlying27 Try.underlying36 rfl rfl (by kernel_rfl) (by kernel_rfl) ?_
  exact ⟨A, d, none, 0, rfl, HSo.out, Recs.nil _ _, Texts.nil _ _, Nat.le_refl _, Nat.zero_le _, (below_set3o (below_set6o HB2.out (by omega) _ _ _ _ _ _) (by omega) _ _ _).drew⟩
theorem oopen_any (c : CallR) (w : World) : Calls Try.prog 5 #[callV c] w (DoOut (openO c).1 (openO c).2 w) := by
  obtain ⟨what, ob, k, s, cp, id, dt⟩ := c
  by_cases h0 : what = 0
  · subst h0
    cases hz : sizesB k s cp with
    | false =>
      have HE : openO (0, ob, k, s, cp, id, dt) = (obZ, (2, 0, [])) := by unfold openO; rw [if_pos rfl, if_neg (by rw [hz]; decide)]
      rw [HE]; exact oopen_no2 ob k s cp id dt hz w
    | true =>
      have HE : openO (0, ob, k, s, cp, id, dt) = ((ob, (k, s, cp, []), 0), (0, k, [])) := by unfold openO; rw [if_pos rfl, if_pos hz]
      rw [HE]; exact oopen_yes ob k s cp id dt hz w
  · have HE : openO (what, ob, k, s, cp, id, dt) = (obZ, (1, 0, [])) := if_neg h0
    rw [HE]; exact oopen_no1 what ob k s cp id dt h0 w
end Go.Proofs.Ytcikoaeiopbbbaa
