/- Layer 18: contracts: what may be, what is the same, what is opened, of both sides. -/
import Derived.Test.YtcikoaeiopbbbaaObA
import Derived.Test.YtcikoaeiopbbbaaRefTx
import Derived.Deep.QuietTactic
import Derived.Deep.RegionHeld3
namespace Go.Proofs.Ytcikoaeiopbbbaa
set_option linter.unusedVariables false
set_option linter.unusedSimpArgs false
open Go.RowKit Go.Lib
set_option maxRecDepth 100000
theorem Box.sixO {w : World} {g : Nat} {t : TypeId} {a b c d e f : Value} (h : Box w g t #[a, b, c, d, e, f]) : w.cell? ⟨g, 0, none⟩ = some a ∧ w.cell? ⟨g, 1, none⟩ = some b ∧ w.cell? ⟨g, 2, none⟩ = some c ∧ w.cell? ⟨g, 3, none⟩ = some d ∧ w.cell? ⟨g, 4, none⟩ = some e ∧ w.cell? ⟨g, 5, none⟩ = some f := ⟨h.cell 0, h.cell 1, h.cell 2, h.cell 3, h.cell 4, h.cell 5⟩
theorem Box.sevenO {w : World} {g : Nat} {t : TypeId} {a b c d e f k : Value} (h : Box w g t #[a, b, c, d, e, f, k]) : w.cell? ⟨g, 0, none⟩ = some a ∧ w.cell? ⟨g, 1, none⟩ = some b ∧ w.cell? ⟨g, 2, none⟩ = some c ∧ w.cell? ⟨g, 3, none⟩ = some d ∧ w.cell? ⟨g, 4, none⟩ = some e ∧ w.cell? ⟨g, 5, none⟩ = some f ∧ w.cell? ⟨g, 6, none⟩ = some k := ⟨h.cell 0, h.cell 1, h.cell 2, h.cell 3, h.cell 4, h.cell 5, h.cell 6⟩
theorem Box.threeO {w : World} {g : Nat} {t : TypeId} {a b c : Value} (h : Box w g t #[a, b, c]) : w.cell? ⟨g, 0, none⟩ = some a ∧ w.cell? ⟨g, 1, none⟩ = some b ∧ w.cell? ⟨g, 2, none⟩ = some c := ⟨h.cell 0, h.cell 1, h.cell 2⟩
/-- A return of two structs in cells. -/
theorem close_two {P : Program} {fn : Func} {R : Ending → World → Prop} {a : Act} {W : World} {p q : Tmp} {T U : TypeId} {g g' : Nat} {cs ds : Array Value} {d d' : TypeDesc} (hr : fn.results = #[.cell p T, .cell q U])
    (hp : a.tmps.getD p undef = .pointer (some ⟨g, 0, none⟩)) (hq : a.tmps.getD q undef = .pointer (some ⟨g', 0, none⟩)) (hd : a.defers = []) (hbox : Box W g T cs) (hbox' : Box W g' U ds) (hu : P.underlying T = some d) (hu' : P.underlying U = some d')
    (hk : (match d with | .struct _ | .array _ _ => true | _ => false) = true) (hk' : (match d' with | .struct _ | .array _ _ => true | _ => false) = true) (hi : (P.info? T).map (·.size) = some cs.size) (hi' : (P.info? U).map (·.size) = some ds.size)
    (hR : R (.returned (.tuple #[.agg cs, .agg ds])) W) : bodyPost P fn R .ret a W := by
  refine bodyPost_ret ?_ hd hR
  have hp' : a.tmps[p]?.getD undef = .pointer (some ⟨g, 0, none⟩) := by simpa using hp
  have hq' : a.tmps[q]?.getD undef = .pointer (some ⟨g', 0, none⟩) := by simpa using hq
  simp [results, hr, hp', hq', asAddr, run_loadVar_row W g T T cs (0, 0) d hbox hu hk hi, run_loadVar_row W g' U U ds (0, 0) d' hbox' hu' hk' hi']
set_option maxHeartbeats 1000000 in
theorem oright_any (v : Value) (o : ObR) (w : World) (h : ObAt w v o) : Calls Try.prog 10 #[v] w fun e w' => e = .returned (.bool (rightO o)) ∧ Below w.heap.size w w' := by
  obtain ⟨A, d, rfl, hs, hx⟩ := h
  obtain ⟨id, ⟨k, s, c, xs⟩, cl⟩ := o
  dsimp only at hs hx
  have b1 : Below w.heap.size w (w.alloc (.cells (obA (id, (k, s, c, xs), cl) A d) 27)) := (Below.refl _ _).alloc (Nat.le_refl _) _
  have Q := Lib.hid (Box.new w 27 (obA (id, (k, s, c, xs), cl) A d))
  have HB := Lib.hid b1
  have HR := Lib.hid (eright_any k s c A xs.length d xs _ (Recs.below hx b1) hs.1 hs.2.1)
  have HE : rightO (id, (k, s, c, xs), cl) = (storeB k s c xs && (decide (cl = 0) || decide (cl = 1))) := rfl
  rw [HE]
  obtain ⟨r0, r1, r2, r3, r4, r5⟩ := Q.out.sixO
  clear b1 hs hx HE
  cases hb : storeB k s c xs with
  | false =>
    rw [hb] at HR
    clear hb
    go_enter Try.func10, Try.ntmps10
    go_wp2_with fail
    refine HR.out.mono ?_
    rintro e w2 ⟨rfl, hb2⟩
    have HB2 := Lib.hid (chain HB.out hb2)
    clear hb2
    go_wp2_with fail
    go_ret
    exact ⟨rfl, HB2.out⟩
  | true =>
    rw [hb] at HR
    clear hb
    go_enter Try.func10, Try.ntmps10
    go_wp2_with fail
    refine HR.out.mono ?_
    rintro e w2 ⟨rfl, hb2⟩
    have HB2 := Lib.hid (chain HB.out hb2)
    have Q2 := Lib.hid (Q.out.keep hb2)
    clear hb2 r0 r1 r2 r3 r4 r5
    obtain ⟨r0, r1, r2, r3, r4, r5⟩ := Q2.out.sixO
    by_cases h0 : cl = 0
    · subst h0
      go_wp2_with fail
      go_ret
      exact ⟨by simp, HB2.out⟩
    · have t0 : (cl == 0) = false := by simpa using h0
      by_cases h1 : cl = 1
      · subst h1
        go_wp2_with fail
        go_ret
        exact ⟨by simp, HB2.out⟩
      · have t1 : (cl == 1) = false := by simpa using h1
        go_wp2_with fail
        go_ret
        exact ⟨by simp [h0, h1], HB2.out⟩
set_option maxHeartbeats 1000000 in
theorem oright18_any (v : Value) (o : ObR) (w : World) (h : ObAt w v o) : Calls Try.prog 11 #[v] w fun e w' => e = .returned (.bool (rightO o)) ∧ Below w.heap.size w w' := by
  obtain ⟨A, d, rfl, hs, hx⟩ := h
  obtain ⟨id, ⟨k, s, c, xs⟩, cl⟩ := o
  dsimp only at hs hx
  have b1 : Below w.heap.size w (w.alloc (.cells (obA (id, (k, s, c, xs), cl) A d) 27)) := (Below.refl _ _).alloc (Nat.le_refl _) _
  have Q := Lib.hid (Box.new w 27 (obA (id, (k, s, c, xs), cl) A d))
  have HB := Lib.hid b1
  have HR := Lib.hid (refRight12_any k s c A xs.length d xs _ (Recs.below hx b1) hs.1 hs.2.1)
  have HE : rightO (id, (k, s, c, xs), cl) = (storeB k s c xs && (decide (cl = 0) || decide (cl = 1))) := rfl
  have HN : (decide (cl = 0) || decide (cl = 1)) = (decide (0 ≤ cl) && decide (cl ≤ 1)) := by
    rw [Bool.eq_iff_iff]; simp only [Bool.or_eq_true, Bool.and_eq_true, decide_eq_true_eq]; omega
  rw [HE, HN]
  obtain ⟨r0, r1, r2, r3, r4, r5⟩ := Q.out.sixO
  clear b1 hs hx HE HN
  cases hb : storeB k s c xs with
  | false =>
    rw [hb] at HR
    clear hb
    go_enter Try.func11, Try.ntmps11
    go_wp2_with fail
    refine HR.out.mono ?_
    rintro e w2 ⟨rfl, hb2⟩
    have HB2 := Lib.hid (chain HB.out hb2)
    clear hb2
    go_wp2_with fail
    go_ret
    exact ⟨rfl, HB2.out⟩
  | true =>
    rw [hb] at HR
    clear hb
    go_enter Try.func11, Try.ntmps11
    go_wp2_with fail
    refine HR.out.mono ?_
    rintro e w2 ⟨rfl, hb2⟩
    have HB2 := Lib.hid (chain HB.out hb2)
    have Q2 := Lib.hid (Q.out.keep hb2)
    clear hb2 r0 r1 r2 r3 r4 r5
    obtain ⟨r0, r1, r2, r3, r4, r5⟩ := Q2.out.sixO
    by_cases h0 : cl ≥ 0
    · by_cases h1 : cl ≤ 1
      · go_wp2_with fail
        go_ret
        exact ⟨by simp; omega, HB2.out⟩
      · go_wp2_with fail
        go_ret
        exact ⟨by simp; omega, HB2.out⟩
    · go_wp2_with fail
      go_ret
      exact ⟨by simp; omega, HB2.out⟩
theorem likeO_eq (id : Nat) (k s c : Int) (xs : List SymR) (cl : Int) (id2 : Nat) (k2 s2 c2 : Int) (ys : List SymR) (cl2 : Int) : likeO (id, (k, s, c, xs), cl) (id2, (k2, s2, c2, ys), cl2) = (((id : Int) == (id2 : Int)) && ((cl == cl2) && likeB k s c xs k2 s2 c2 ys)) := by
  unfold likeO
  rw [likeB_eq, Bool.eq_iff_iff]
  simp only [Bool.and_eq_true, beq_iff_eq, decide_eq_true_eq, Prod.mk.injEq]
  constructor
  · rintro ⟨h1, h2, h3⟩; exact ⟨by rw [h1], h3, h2⟩
  · rintro ⟨h1, h3, h2⟩; exact ⟨by omega, h2, h3⟩
set_option maxHeartbeats 2000000 in
theorem olike_any (va : Value) (a : ObR) (vb : Value) (b : ObR) (w : World) (ha : ObAt w va a) (hb : ObAt w vb b) : Calls Try.prog 12 #[va, vb] w fun e w' => e = .returned (.bool (likeO a b)) ∧ Below w.heap.size w w' := by
  obtain ⟨A, d, rfl, hs, hx⟩ := ha
  obtain ⟨B, d2, rfl, hs2, hy⟩ := hb
  obtain ⟨id, ⟨k, s, c, xs⟩, cl⟩ := a
  obtain ⟨id2, ⟨k2, s2, c2, ys⟩, cl2⟩ := b
  dsimp only at hs hx hs2 hy
  have b1 : Below w.heap.size w (w.alloc (.cells (obA (id, (k, s, c, xs), cl) A d) 27)) := (Below.refl _ _).alloc (Nat.le_refl _) _
  have b2 := b1.alloc b1.size (.cells (obA (id2, (k2, s2, c2, ys), cl2) B d2) 27)
  have Q := Lib.hid ((Box.new w 27 (obA (id, (k, s, c, xs), cl) A d)).alloc (.cells (obA (id2, (k2, s2, c2, ys), cl2) B d2) 27))
  have u0 := Box.new (w.alloc (.cells (obA (id, (k, s, c, xs), cl) A d) 27)) 27 (obA (id2, (k2, s2, c2, ys), cl2) B d2)
  simp only [World.size_alloc] at u0
  have U := Lib.hid u0
  have HB := Lib.hid b2
  have HL := Lib.hid (elike_any k s c A xs.length d xs k2 s2 c2 B ys.length d2 ys _ (Recs.below hx b2) (Recs.below hy b2) (Nat.le_trans hs.1 hs.2.1) (Nat.le_trans hs2.1 hs2.2.1))
  rw [likeO_eq]
  obtain ⟨r0, r1, r2, r3, r4, r5⟩ := Q.out.sixO
  obtain ⟨s0, s1, s2, s3, s4, s5⟩ := U.out.sixO
  clear b1 b2 hs hx hs2 hy u0
  cases h0 : ((id : Int) == (id2 : Int)) with
  | false =>
    go_enter Try.func12, Try.ntmps12
    go_wp2_with fail
    go_ret
    exact ⟨rfl, HB.out⟩
  | true =>
    cases h1 : (cl == cl2) with
    | false =>
      go_enter Try.func12, Try.ntmps12
      go_wp2_with fail
      go_ret
      exact ⟨rfl, HB.out⟩
    | true =>
      go_enter Try.func12, Try.ntmps12
      go_wp2_with fail
      refine HL.out.mono ?_
      rintro e w2 ⟨rfl, hb2⟩
      have HB2 := Lib.hid (chain HB.out hb2)
      clear hb2
      go_wp2_with fail
      go_ret
      exact ⟨by simp, HB2.out⟩
set_option maxHeartbeats 2000000 in
theorem osame_any (va : Value) (a : ObR) (vb : Value) (b : ObR) (w : World) (ha : ObAt w va a) (hb : ObAt w vb b) : Calls Try.prog 8 #[va, vb] w fun e w' => e = .returned (.bool (likeO a b)) ∧ Below w.heap.size w w' := by
  obtain ⟨A, d, rfl, hs, hx⟩ := ha
  obtain ⟨B, d2, rfl, hs2, hy⟩ := hb
  obtain ⟨id, ⟨k, s, c, xs⟩, cl⟩ := a
  obtain ⟨id2, ⟨k2, s2, c2, ys⟩, cl2⟩ := b
  dsimp only at hs hx hs2 hy
  have b1 : Below w.heap.size w (w.alloc (.cells (obA (id, (k, s, c, xs), cl) A d) 27)) := (Below.refl _ _).alloc (Nat.le_refl _) _
  have b2 := b1.alloc b1.size (.cells (obA (id2, (k2, s2, c2, ys), cl2) B d2) 27)
  have Q := Lib.hid ((Box.new w 27 (obA (id, (k, s, c, xs), cl) A d)).alloc (.cells (obA (id2, (k2, s2, c2, ys), cl2) B d2) 27))
  have u0 := Box.new (w.alloc (.cells (obA (id, (k, s, c, xs), cl) A d) 27)) 27 (obA (id2, (k2, s2, c2, ys), cl2) B d2)
  simp only [World.size_alloc] at u0
  have U := Lib.hid u0
  have HB := Lib.hid b2
  have HL := Lib.hid (refSame12_any k s c A xs.length d xs k2 s2 c2 B ys.length d2 ys _ (Recs.below hx b2) (Recs.below hy b2) (Nat.le_trans hs.1 hs.2.1) (Nat.le_trans hs2.1 hs2.2.1))
  rw [likeO_eq]
  obtain ⟨r0, r1, r2, r3, r4, r5⟩ := Q.out.sixO
  obtain ⟨s0, s1, s2, s3, s4, s5⟩ := U.out.sixO
  clear b1 b2 hs hx hs2 hy u0
  cases h0 : ((id : Int) == (id2 : Int)) with
  | false =>
    go_enter Try.func8, Try.ntmps8
    go_wp2_with fail
    go_ret
    exact ⟨rfl, HB.out⟩
  | true =>
    cases h1 : (cl == cl2) with
    | false =>
      go_enter Try.func8, Try.ntmps8
      go_wp2_with fail
      go_ret
      exact ⟨rfl, HB.out⟩
    | true =>
      go_enter Try.func8, Try.ntmps8
      go_wp2_with fail
      refine HL.out.mono ?_
      rintro e w2 ⟨rfl, hb2⟩
      have HB2 := Lib.hid (chain HB.out hb2)
      clear hb2
      go_wp2_with fail
      go_ret
      exact ⟨by simp, HB2.out⟩
end Go.Proofs.Ytcikoaeiopbbbaa
