/- Parts: ObJ, ObK, ObL, ObM. -/
import Derived.Test.YtcikoaeiopbbbaaGreatZi
namespace Go.Proofs.YtcikoaeiopbbbaaGreat
section
/- Layer 18: a symbol more, to an object that may be. -/
set_option linter.unusedVariables false
set_option linter.unusedSimpArgs false
open Go.RowKit Go.Lib
set_option maxRecDepth 100000
theorem Box.put4h {w : World} {g : Nat} {t : TypeId} {a b c d e f u v x y : Value} (h : Box w g t #[a, b, c, d, e, f]) : Box ((((w.setCell ⟨g, 1, none⟩ u).setCell ⟨g, 2, none⟩ v).setCell ⟨g, 3, none⟩ x).setCell ⟨g, 4, none⟩ y) g t #[a, u, v, x, y, f] := (((h.put 1 u).put 2 v).put 3 x).put 4 y
theorem Box.far4h {w : World} {g g' : Nat} {t : TypeId} {cs : Array Value} (h : Box w g t cs) (hn : g ≠ g') (a b c d : Value) : Box ((((w.setCell ⟨g', 1, none⟩ a).setCell ⟨g', 2, none⟩ b).setCell ⟨g', 3, none⟩ c).setCell ⟨g', 4, none⟩ d) g t cs := (((h.far (p := ⟨g', 1, none⟩) hn a).far (p := ⟨g', 2, none⟩) hn b).far (p := ⟨g', 3, none⟩) hn c).far (p := ⟨g', 4, none⟩) hn d
theorem Syms.far4h {w : World} {g : Nat} {A : Option Addr} {l : Nat} {xs : List SymR} (h : Syms w A l xs) (hn : ∀ b off, A = some ⟨b, off, none⟩ → 0 < l → b ≠ g) (a b c d : Value) : Syms ((((w.setCell ⟨g, 1, none⟩ a).setCell ⟨g, 2, none⟩ b).setCell ⟨g, 3, none⟩ c).setCell ⟨g, 4, none⟩ d) A l xs := (((Recs.farB h hn 1 a).farB hn 2 b).farB hn 3 c).farB hn 4 d
theorem below_set4h {B : Nat} {w x : World} (h : Below B w x) {g : Nat} (hg : B ≤ g) (a b c d : Value) : Below B w ((((x.setCell ⟨g, 1, none⟩ a).setCell ⟨g, 2, none⟩ b).setCell ⟨g, 3, none⟩ c).setCell ⟨g, 4, none⟩ d) := (((h.setCell (p := ⟨g, 1, none⟩) hg a).setCell (p := ⟨g, 2, none⟩) hg b).setCell (p := ⟨g, 3, none⟩) hg c).setCell (p := ⟨g, 4, none⟩) hg d
theorem ids_snoc {xs : List SymR} {x : SymR} (h : Ids xs) (hx : x.1 < 18446744073709551616) : Ids (xs ++ [x]) := fun j => by
  by_cases hj : j < xs.length
  · have e : (xs ++ [x]).getD j default = xs.getD j default := by simp [List.getD, List.getElem?_append_left hj]
    rw [e]; exact h j
  · by_cases he : j = xs.length
    · have e : (xs ++ [x]).getD j default = x := by subst he; simp [List.getD]
      rw [e]; exact hx
    · have e : (xs ++ [x]).getD j default = default := by
        simp only [List.getD]
        rw [List.getElem?_eq_none (by rw [List.length_append, List.length_singleton]; omega)]; rfl
      rw [e]; decide
set_option maxHeartbeats 8000000 in
theorem hadd_no (id : Nat) (k s cp : Int) (xs : List SymR) (cl : Int) (A : Option Addr) (d : Nat) (c : CallR) (w : World) (hr : storeB k s cp xs = true) (hs : SliceOk A xs.length d) (hx : Syms w A xs.length xs) (hE : ¬ whyI s cp xs (c.2.2.2.2.2.1, c.2.2.2.2.2.2) = 0) :
    Calls Tryz.prog 52 #[.agg (obA (id, (k, s, cp, xs), cl) A d), callV c] w (Ref2 (id, (k, s, cp, xs), cl) A d (whyI s cp xs (c.2.2.2.2.2.1, c.2.2.2.2.2.2)) w) := by
  have hb4 := storeB_bd hr
  have hx66 : xs.length ≤ 66 := by have := hb4.2.2.1; have := hb4.2.2.2; omega
  have HA := Lib.hid (fun wy (hw : Below w.heap.size w wy) => eadd_law k s cp A xs.length d xs (c.2.2.2.2.2.1, c.2.2.2.2.2.2) wy (Recs.below hx hw) hs.1 hs.2.1 (fun e => (hs.2.2 e).2) hx66)
  rw [addE_yes hr] at HA
  obtain ⟨E, hEe⟩ : ∃ E, E = whyI s cp xs (c.2.2.2.2.2.1, c.2.2.2.2.2.2) := ⟨_, rfl⟩
  rw [← hEe] at HA hE ⊢
  have t9 : (E != 0) = true := by simpa using hE
  clear hEe hE hb4 hx66 hs hx hr
  obtain ⟨q0, q1, q2, q3, b5⟩ := A4_gen 68 (obA (id, (k, s, cp, xs), cl) A d) (callL c).toArray oZ rZ w
  have Q0 := Lib.hid q0
  have Q1 := Lib.hid q1
  have Q2 := Lib.hid q2
  have Q3 := Lib.hid q3
  have HB := Lib.hid b5
  obtain ⟨r0, r1, r2, r3, r4, r5⟩ := Q0.out.sixO
  obtain ⟨v0, v1, v2, v3, v4, v5, v6⟩ := Q1.out.sevenO
  clear q0 q1 q2 q3 b5
  have HAw := Lib.hid (HA.out _ HB.out)
  clear HA
  go_enter Tryz.func52, Tryz.ntmps52
  go_wp2_with fail
  refine HAw.out.mono ?_
  rintro e w2 ⟨K, S, C, A', zs, d', rfl, -, -, -, -, -, -, hb⟩
  have b2 : Below w2.heap.size w2 (w2.alloc (.cells #[.int .i64 K, .int .i64 S, .int .i64 C, .slice A' zs.length d'] 25)) := (Below.refl _ _).alloc (Nat.le_refl _) _
  have hbb := chain hb b2
  have P0 := Lib.hid (Q0.out.keep hbb)
  have P1 := Lib.hid (Q1.out.keep hbb)
  have P2 := Lib.hid (Q2.out.keep hbb)
  have P3 := Lib.hid (Q3.out.keep hbb)
  have HB2 := Lib.hid (chain HB.out hbb)
  clear hb b2 hbb HAw r0 r1 r2 r3 r4 r5 v0 v1 v2 v3 v4 v5 v6
  obtain ⟨r0, r1, r2, r3, r4, r5⟩ := P0.out.sixO
  obtain ⟨v0, v1, v2, v3, v4, v5, v6⟩ := P1.out.sevenO
  go_wp2_with fail
  refine (refused_any (id, (k, s, cp, xs), cl) A d E _).mono ?_
  rintro e w3 ⟨rfl, hb⟩
  have R0 := Lib.hid (P0.out.keep hb)
  have R1 := Lib.hid (P1.out.keep hb)
  have R2 := Lib.hid (P2.out.keep hb)
  have R3 := Lib.hid (P3.out.keep hb)
  have HB3 := Lib.hid (chain HB2.out hb)
  clear hb r0 r1 r2 r3 r4 r5 v0 v1 v2 v3 v4 v5 v6
  obtain ⟨s0, s1, s2, s3, s4, s5⟩ := R2.out.sixO
  obtain ⟨t0, t1, t2⟩ := R3.out.threeO
  have f0 := R2.out.free 0
  have f1 := R2.out.free 1
  have f2 := R2.out.free 2
  have f3 := R2.out.free 3
  have f4 := R2.out.free 4
  have f5 := R2.out.free 5
  have g0 := R3.out.free 0
  have g1 := R3.out.free 1
  have g2 := R3.out.free 2
  go_wp2_with fail
  refine close_two Tryz.results52 rfl rfl rfl (R2.out.put6o.far3o (by omega) _ _ _) ((R3.out.far6o (g' := w.heap.size + 1 + 1) (by omega) _ _ _ _ _ _).put3o) Tryz.underlying27 Tryz.underlying36 rfl rfl (by kernel_rfl) (by kernel_rfl) ?_
  exact ⟨rfl, below_set3o (below_set6o HB3.out (show w.heap.size ≤ w.heap.size + 1 + 1 by omega) _ _ _ _ _ _) (show w.heap.size ≤ w.heap.size + 1 + 1 + 1 by omega) _ _ _⟩
set_option maxHeartbeats 8000000 in
theorem hadd_yes (id : Nat) (k s cp : Int) (xs : List SymR) (cl : Int) (A : Option Addr) (d : Nat) (c : CallR) (w : World) (hr : rightO (id, (k, s, cp, xs), cl) = true) (hs : SliceOk A xs.length d) (hx : Syms w A xs.length xs) (hi : Ids xs) (hci : c.2.2.2.2.2.1 < 18446744073709551616) (hE : whyI s cp xs (c.2.2.2.2.2.1, c.2.2.2.2.2.2) = 0) :
    Calls Tryz.prog 52 #[.agg (obA (id, (k, s, cp, xs), cl) A d), callV c] w (DoOut (id, (k, s, cp, xs ++ [(c.2.2.2.2.2.1, c.2.2.2.2.2.2)]), cl) (0, (rankF k (xs ++ [(c.2.2.2.2.2.1, c.2.2.2.2.2.2)]) : Int), []) w) := by
  have hst : storeB k s cp xs = true := right_store hr
  have hb4 := storeB_bd hst
  have hx66 : xs.length ≤ 66 := by have := hb4.2.2.1; have := hb4.2.2.2; omega
  have hE2 : addE k s cp xs (c.2.2.2.2.2.1, c.2.2.2.2.2.2) = 0 := by rw [addE_yes hst]; exact hE
  have HA := Lib.hid (fun wy (hw : Below w.heap.size w wy) => eadd_law k s cp A xs.length d xs (c.2.2.2.2.2.1, c.2.2.2.2.2.2) wy (Recs.below hx hw) hs.1 hs.2.1 (fun e => (hs.2.2 e).2) hx66)
  rw [hE2] at HA
  have hg := storeB_grow hE2
  have hiy : Ids (xs ++ [(c.2.2.2.2.2.1, c.2.2.2.2.2.2)]) := ids_snoc hi hci
  obtain ⟨ys, hys⟩ : ∃ y, y = xs ++ [(c.2.2.2.2.2.1, c.2.2.2.2.2.2)] := ⟨_, rfl⟩
  rw [← hys] at HA hg hiy ⊢
  have hr2 : rightO (id, (k, s, cp, ys), cl) = true := by
    unfold rightO at hr ⊢
    rw [Bool.and_eq_true] at hr ⊢
    exact ⟨hg, hr.2⟩
  have HIy := Lib.hid hiy
  have HR2 := Lib.hid hr2
  clear hiy hr2 hg hys hE2 hE hb4 hx66 hs hx hi hr hst hci
  obtain ⟨q0, q1, q2, q3, b5⟩ := A4_gen 68 (obA (id, (k, s, cp, xs), cl) A d) (callL c).toArray oZ rZ w
  have Q0 := Lib.hid q0
  have Q1 := Lib.hid q1
  have Q2 := Lib.hid q2
  have Q3 := Lib.hid q3
  have HB := Lib.hid b5
  obtain ⟨r0, r1, r2, r3, r4, r5⟩ := Q0.out.sixO
  obtain ⟨v0, v1, v2, v3, v4, v5, v6⟩ := Q1.out.sevenO
  clear q0 q1 q2 q3 b5
  have HAw := Lib.hid (HA.out _ HB.out)
  clear HA
  go_enter Tryz.func52, Tryz.ntmps52
  go_wp2_with fail
  refine HAw.out.mono ?_
  rintro e w2 ⟨K, S, C, A', zs, d', rfl, ⟨h1, -⟩, hz, hz1, hz2, hz3, hz4, hb⟩
  obtain ⟨e1, e2, e3, e4⟩ := h1 trivial
  subst e1 e2 e3 e4
  have b2 : Below w2.heap.size w2 (w2.alloc (.cells #[.int .i64 K, .int .i64 S, .int .i64 C, .slice A' zs.length d'] 25)) := (Below.refl _ _).alloc (Nat.le_refl _) _
  have hbb := chain hb b2
  have P0 := Lib.hid (Q0.out.keep hbb)
  have P1 := Lib.hid (Q1.out.keep hbb)
  have P2 := Lib.hid (Q2.out.keep hbb)
  have P3 := Lib.hid (Q3.out.keep hbb)
  have PS := Lib.hid (Box.new w2 25 #[.int .i64 K, .int .i64 S, .int .i64 C, .slice A' zs.length d'])
  have HB2 := Lib.hid (chain HB.out hbb)
  have HZ := Lib.hid (Recs.below hz b2)
  have HSl := Lib.hid (show SliceOk A' zs.length d' from ⟨hz1, hz2, fun e => ⟨by have := hz3 e; omega, hz3 e⟩⟩)
  have hln := hz4
  clear hb b2 hbb HAw hz hz1 hz2 hz3 hz4 h1 r0 r1 r2 r3 r4 r5 v0 v1 v2 v3 v4 v5 v6
  obtain ⟨r0, r1, r2, r3, r4, r5⟩ := P0.out.sixO
  obtain ⟨v0, v1, v2, v3, v4, v5, v6⟩ := P1.out.sevenO
  obtain ⟨p0, p1, p2, p3, -, -, -, -⟩ := PS.out.four
  have f1 := P0.out.free 1
  have f2 := P0.out.free 2
  have f3 := P0.out.free 3
  have f4 := P0.out.free 4
  obtain ⟨w5, hw5⟩ : ∃ y, y = ((((w2.alloc (.cells #[.int .i64 K, .int .i64 S, .int .i64 C, .slice A' zs.length d'] 25)).setCell ⟨w.heap.size, 1, none⟩ (.int .i64 K)).setCell ⟨w.heap.size, 2, none⟩ (.int .i64 S)).setCell ⟨w.heap.size, 3, none⟩ (.int .i64 C)).setCell ⟨w.heap.size, 4, none⟩ (.slice A' zs.length d') := ⟨_, rfl⟩
  have L0 := Lib.hid (show Box w5 w.heap.size 68 (obA (id, (K, S, C, zs), cl) A' d') from hw5 ▸ P0.out.put4h)
  have L1 := Lib.hid (show Box w5 (w.heap.size + 1) 31 (callL c).toArray from hw5 ▸ P1.out.far4h (by omega) (.int .i64 K) (.int .i64 S) (.int .i64 C) (.slice A' zs.length d'))
  have L2 := Lib.hid (show Box w5 (w.heap.size + 1 + 1) 27 oZ from hw5 ▸ P2.out.far4h (by omega) (.int .i64 K) (.int .i64 S) (.int .i64 C) (.slice A' zs.length d'))
  have L3 := Lib.hid (show Box w5 (w.heap.size + 1 + 1 + 1) 36 rZ from hw5 ▸ P3.out.far4h (by omega) (.int .i64 K) (.int .i64 S) (.int .i64 C) (.slice A' zs.length d'))
  have HZ5 := Lib.hid (show Syms w5 A' zs.length zs from hw5 ▸ Syms.far4h HZ.out (Syms.neO HZ.out P0.out (obA_no _ _ _)) (.int .i64 K) (.int .i64 S) (.int .i64 C) (.slice A' zs.length d'))
  have HB5 := Lib.hid (show Below w.heap.size w w5 from hw5 ▸ below_set4h HB2.out (Nat.le_refl _) (.int .i64 K) (.int .i64 S) (.int .i64 C) (.slice A' zs.length d'))
  have HPr := Lib.hid (hprog_any (id, (K, S, C, zs), cl) A' d' c w5 HR2.out HSl.out HZ5.out HIy.out)
  clear HZ PS P1 P2 P3 HB2
  go_upto_region 5 with (fail)
  rw [← hw5]
  clear hw5 P0 p0 p1 p2 p3 f1 f2 f3 f4 r0 r1 r2 r3 r4 r5 v0 v1 v2 v3 v4 v5 v6
  obtain ⟨r0, r1, r2, r3, r4, r5⟩ := L0.out.sixO
  obtain ⟨v0, v1, v2, v3, v4, v5, v6⟩ := L1.out.sevenO
  obtain ⟨rk, hrk⟩ : ∃ r : Int, r = (rankF ((id, (K, S, C, zs), cl) : ObR).2.1.1 ((id, (K, S, C, zs), cl) : ObR).2.1.2.2.2 : Int) := ⟨_, rfl⟩
  rw [← hrk] at HPr
  have HRk := Lib.hid hrk
  clear hrk
  go_wp2_with fail
  refine HPr.out.mono ?_
  rintro e w6 ⟨rfl, hb⟩
  have HZ6 := Lib.hid (Recs.below HZ5.out hb)
  have HB6 := Lib.hid (chain HB5.out hb)
  have R0 := Lib.hid (L0.out.keep hb)
  have R1 := Lib.hid (L1.out.keep hb)
  have R2 := Lib.hid (L2.out.keep hb)
  have R3 := Lib.hid (L3.out.keep hb)
  clear hb HPr HZ5 r0 r1 r2 r3 r4 r5 v0 v1 v2 v3 v4 v5 v6
  obtain ⟨s0, s1, s2, s3, s4, s5⟩ := R2.out.sixO
  obtain ⟨t0, t1, t2⟩ := R3.out.threeO
  have f0 := R2.out.free 0
  have f1 := R2.out.free 1
  have f2 := R2.out.free 2
  have f3 := R2.out.free 3
  have f4 := R2.out.free 4
  have f5 := R2.out.free 5
  have g0 := R3.out.free 0
  have g1 := R3.out.free 1
  have g2 := R3.out.free 2
  go_wp2_with fail
  refine close_two Tryz.results52 rfl rfl rfl (R2.out.put6o.far3o (by omega) _ _ _) ((R3.out.far6o (g' := w.heap.size + 1 + 1) (by omega) _ _ _ _ _ _).put3o) Tryz.underlying27 Tryz.underlying36 rfl rfl (by kernel_rfl) (by kernel_rfl) ?_
  have hrk : (rankF K zs : Int) = rk := HRk.out.symm
  rw [hrk]
  exact ⟨A', d', none, 0, rfl, HSl.out, Syms.far9 HZ6.out (Syms.neO HZ6.out R2.out oz_no) (Syms.neO HZ6.out R3.out rz_no) _ _ _ _ _ _ _ _ _, Texts.nil _ _, Nat.le_refl _, Nat.zero_le _, below_set3o (below_set6o HB6.out (show w.heap.size ≤ w.heap.size + 1 + 1 by omega) _ _ _ _ _ _) (show w.heap.size ≤ w.heap.size + 1 + 1 + 1 by omega) _ _ _⟩
end
section
/- Layer 18: byKind, Do. -/
set_option linter.unusedVariables false
set_option linter.unusedSimpArgs false
open Go.RowKit Go.Lib
set_option maxRecDepth 100000
abbrev kindsA : Array Value := #[.func (.func 51) #[] #[], .func (.func 52) #[] #[], .func (.func 53) #[] #[], .func (.func 54) #[] #[], .func (.func 55) #[] #[]]
theorem store_fnO {W : World} {g i : Nat} {t : TypeId} {cs : Array Value} (h : Box W g t cs) (hi : i < cs.size) (f : Fn) : Sem.run Tryz.prog (store ⟨g, i, none⟩ (.func f #[] #[])) W = .ok () (W.setCell ⟨g, i, none⟩ (.func f #[] #[])) := by
  rw [run_store _ _ _ _ _ rfl, h.cell i, Array.getElem?_eq_getElem hi]
  simp [h.free i]
set_option maxHeartbeats 4000000 in
theorem byKind_any (w : World) : Calls Tryz.prog 29 #[] w fun e w' => e = .returned (.agg kindsA) ∧ Below w.heap.size w w' := by
  have X1 := Lib.hid (Box.new w 71 #[.nilFunc, .nilFunc, .nilFunc, .nilFunc, .nilFunc])
  have HB := Lib.hid ((Below.refl w.heap.size w).alloc (Nat.le_refl _) (.cells #[.nilFunc, .nilFunc, .nilFunc, .nilFunc, .nilFunc] 71))
  go_enter Tryz.func29, Tryz.ntmps29
  go_wp2_with fail
  rw [store_fnO (i := 0) (X1.out) (by decide) (.func 51)]
  simp only [Result.andThen_ok]
  rw [store_fnO (i := 1) ((X1.out).put 0 (.func (.func 51) #[] #[])) (by decide) (.func 52)]
  simp only [Result.andThen_ok]
  rw [store_fnO (i := 2) (((X1.out).put 0 (.func (.func 51) #[] #[])).put 1 (.func (.func 52) #[] #[])) (by decide) (.func 53)]
  simp only [Result.andThen_ok]
  rw [store_fnO (i := 3) ((((X1.out).put 0 (.func (.func 51) #[] #[])).put 1 (.func (.func 52) #[] #[])).put 2 (.func (.func 53) #[] #[])) (by decide) (.func 54)]
  simp only [Result.andThen_ok]
  rw [store_fnO (i := 4) (((((X1.out).put 0 (.func (.func 51) #[] #[])).put 1 (.func (.func 52) #[] #[])).put 2 (.func (.func 53) #[] #[])).put 3 (.func (.func 54) #[] #[])) (by decide) (.func 55)]
  simp only [Result.andThen_ok]
  go_wp2_with fail
  exact close_one Tryz.results29 rfl rfl (Box.new w 71 kindsA) Tryz.underlying71 rfl (by kernel_rfl) ⟨rfl, (Below.refl w.heap.size w).alloc (Nat.le_refl _) _⟩
/-- What an open object that may be tells to a call of a kind. -/
noncomputable def kindO (o : ObR) (c : CallR) : ObR × ReplyR := if c.1 = 0 then (o, (11, 0, [])) else actO o c
theorem Ref2.do {o : ObR} {A : Option Addr} {d : Nat} {why : Int} {w w' : World} {e : Ending} (h : Ref2 o A d why w e w') (hs : SliceOk A o.2.1.2.2.2.length d) (hx : Syms w A o.2.1.2.2.2.length o.2.1.2.2.2) : DoOut o (why, 0, []) w e w' :=
  ⟨A, d, none, 0, h.1, hs, Recs.below hx h.2, Texts.nil _ _, Nat.le_refl _, Nat.zero_le _, h.2⟩
theorem SameOut.do {o : ObR} {A : Option Addr} {d : Nat} {n : Int} {w w' : World} {e : Ending} (h : SameOut o A d n w e w') (hs : SliceOk A o.2.1.2.2.2.length d) (hx : Syms w A o.2.1.2.2.2.length o.2.1.2.2.2) : DoOut o (0, n, []) w e w' :=
  ⟨A, d, none, 0, h.1, hs, Recs.below hx h.2, Texts.nil _ _, Nat.le_refl _, Nat.zero_le _, h.2⟩
theorem ResOut.do {o : ObR} {A : Option Addr} {d : Nat} {p : Int × List ByteArray} {w w' : World} {e : Ending} (h : ResOut o A d p w e w') (hs : SliceOk A o.2.1.2.2.2.length d) (hx : Syms w A o.2.1.2.2.2.length o.2.1.2.2.2) : DoOut o (p.1, (p.2.length : Int), p.2) w e w' := by
  obtain ⟨B, c, h1, h2, h3, h4, h5⟩ := h
  exact ⟨A, d, B, c, h1, hs, Recs.below hx h5, h2, h3, h4, h5⟩
section
set_option linter.unusedSectionVars false
variable (o : ObR) (A : Option Addr) (d : Nat) (c : CallR) (w : World) (hr : rightO o = true) (hs : SliceOk A o.2.1.2.2.2.length d) (hx : Syms w A o.2.1.2.2.2.length o.2.1.2.2.2) (hi : Ids o.2.1.2.2.2) (hci : c.2.2.2.2.2.1 < 18446744073709551616)
include hr hs hx hi hci
theorem kind0 (h : c.1 = 0) : Calls Tryz.prog 51 #[.agg (obA o A d), callV c] w (DoOut (kindO o c).1 (kindO o c).2 w) := by
  have e : kindO o c = (o, (11, 0, [])) := if_pos h
  rw [e]
  exact (hopen_any o A d c w).mono fun _ _ h => h.do hs hx
theorem kind1 (h : c.1 = 1) : Calls Tryz.prog 52 #[.agg (obA o A d), callV c] w (DoOut (kindO o c).1 (kindO o c).2 w) := by
  have e : kindO o c = actO o c := if_neg (by omega)
  rw [e]
  unfold actO
  rw [if_pos h]
  obtain ⟨id, ⟨k, s, cp, xs⟩, cl⟩ := o
  by_cases hE : whyI s cp xs (c.2.2.2.2.2.1, c.2.2.2.2.2.2) = 0
  · rw [if_pos hE]
    exact hadd_yes id k s cp xs cl A d c w hr hs hx hi hci hE
  · rw [if_neg hE]
    exact (hadd_no id k s cp xs cl A d c w (right_store hr) hs hx hE).mono fun _ _ h => h.do hs hx
theorem kind2 (h : c.1 = 2) : Calls Tryz.prog 53 #[.agg (obA o A d), callV c] w (DoOut (kindO o c).1 (kindO o c).2 w) := by
  have e : kindO o c = (o, (0, (rankF o.2.1.1 o.2.1.2.2.2 : Int), [])) := by unfold kindO actO; rw [if_neg (by omega), if_neg (by omega), if_pos h]
  rw [e]
  exact (hprog_any o A d c w hr hs hx hi).mono fun _ _ h => h.do hs hx
theorem kind3 (h : c.1 = 3) : Calls Tryz.prog 54 #[.agg (obA o A d), callV c] w (DoOut (kindO o c).1 (kindO o c).2 w) := by
  have e : kindO o c = (o, ((solveF o.2.1.1 o.2.1.2.1 o.2.1.2.2.2).1, ((solveF o.2.1.1 o.2.1.2.1 o.2.1.2.2.2).2.length : Int), (solveF o.2.1.1 o.2.1.2.1 o.2.1.2.2.2).2)) := by unfold kindO actO; rw [if_neg (by omega), if_neg (by omega), if_neg (by omega), if_pos h]
  rw [e]
  exact (hres_any o A d c w hr hs hx hi).mono fun _ _ h => h.do hs hx
theorem kind4 (h : c.1 = 4) : Calls Tryz.prog 55 #[.agg (obA o A d), callV c] w (DoOut (kindO o c).1 (kindO o c).2 w) := by
  have e : kindO o c = ((o.1, o.2.1, 1), (0, (o.2.1.2.2.2.length : Int), [])) := by unfold kindO actO; rw [if_neg (by omega), if_neg (by omega), if_neg (by omega), if_neg (by omega)]
  rw [e]
  exact (hclose_any o A d c w).mono fun _ _ h => SameOut.do (o := (o.1, o.2.1, 1)) h hs hx
end
set_option maxHeartbeats 8000000 in
theorem do_no (o : ObR) (A : Option Addr) (d : Nat) (c : CallR) (w : World) (hs : SliceOk A o.2.1.2.2.2.length d) (hx : Syms w A o.2.1.2.2.2.length o.2.1.2.2.2) (hn : ¬ (rightO o = true ∧ 0 ≤ c.1 ∧ c.1 ≤ 4)) :
    Calls Tryz.prog 9 #[.agg (obA o A d), callV c] w (Ref2 o A d 1 w) := by
  have HR := Lib.hid (fun wy (hw : Below w.heap.size w wy) => oright_any (.agg (obA o A d)) o wy ⟨A, d, rfl, hs, Recs.below hx hw⟩)
  obtain ⟨wh, ct⟩ := c
  dsimp only at hn
  obtain ⟨q0, q1, q2, q3, b5⟩ := A4_gen 27 (obA o A d) (callL (wh, ct)).toArray oZ rZ w
  have Q0 := Lib.hid q0
  have Q1 := Lib.hid q1
  have Q2 := Lib.hid q2
  have Q3 := Lib.hid q3
  have HB := Lib.hid b5
  obtain ⟨r0, r1, r2, r3, r4, r5⟩ := Q0.out.sixO
  obtain ⟨v0, v1, v2, v3, v4, v5, v6⟩ := Q1.out.sevenO
  clear q0 q1 q2 q3 b5
  cases hr : rightO o with
  | false =>
    rw [hr] at HR
    clear hr hn
    have HRw := Lib.hid (HR.out _ HB.out)
    go_enter Tryz.func9, Tryz.ntmps9
    go_wp2_with fail
    refine HRw.out.mono ?_
    rintro e w2 ⟨rfl, hb⟩
    have P0 := Lib.hid (Q0.out.keep hb)
    have P1 := Lib.hid (Q1.out.keep hb)
    have P2 := Lib.hid (Q2.out.keep hb)
    have P3 := Lib.hid (Q3.out.keep hb)
    have HB2 := Lib.hid (chain HB.out hb)
    clear hb HRw r0 r1 r2 r3 r4 r5 v0 v1 v2 v3 v4 v5 v6
    obtain ⟨r0, r1, r2, r3, r4, r5⟩ := P0.out.sixO
    obtain ⟨v0, v1, v2, v3, v4, v5, v6⟩ := P1.out.sevenO
    obtain ⟨s0, s1, s2, s3, s4, s5⟩ := P2.out.sixO
    obtain ⟨t0, t1, t2⟩ := P3.out.threeO
    have f0 := P2.out.free 0
    have f1 := P2.out.free 1
    have f2 := P2.out.free 2
    have f3 := P2.out.free 3
    have f4 := P2.out.free 4
    have f5 := P2.out.free 5
    have g0 := P3.out.free 0
    have g1 := P3.out.free 1
    have g2 := P3.out.free 2
    go_wp2_with fail
    refine close_two Tryz.results9 rfl rfl rfl (P2.out.put6o.far3o (by omega) _ _ _) ((P3.out.far6o (g' := w.heap.size + 1 + 1) (by omega) _ _ _ _ _ _).put3o) Tryz.underlying27 Tryz.underlying36 rfl rfl (by kernel_rfl) (by kernel_rfl) ?_
    exact ⟨rfl, below_set3o (below_set6o HB2.out (show w.heap.size ≤ w.heap.size + 1 + 1 by omega) _ _ _ _ _ _) (show w.heap.size ≤ w.heap.size + 1 + 1 + 1 by omega) _ _ _⟩
  | true =>
    have hn2 : ¬ (0 ≤ wh ∧ wh ≤ 4) := fun h => hn ⟨hr, h⟩
    rw [hr] at HR
    clear hr hn
    by_cases h0 : wh < 0
    · clear hn2
      have HRw := Lib.hid (HR.out _ HB.out)
      go_enter Tryz.func9, Tryz.ntmps9
      go_wp2_with fail
      refine HRw.out.mono ?_
      rintro e w2 ⟨rfl, hb⟩
      have P0 := Lib.hid (Q0.out.keep hb)
      have P1 := Lib.hid (Q1.out.keep hb)
      have P2 := Lib.hid (Q2.out.keep hb)
      have P3 := Lib.hid (Q3.out.keep hb)
      have HB2 := Lib.hid (chain HB.out hb)
      clear hb HRw r0 r1 r2 r3 r4 r5 v0 v1 v2 v3 v4 v5 v6
      obtain ⟨r0, r1, r2, r3, r4, r5⟩ := P0.out.sixO
      obtain ⟨v0, v1, v2, v3, v4, v5, v6⟩ := P1.out.sevenO
      obtain ⟨s0, s1, s2, s3, s4, s5⟩ := P2.out.sixO
      obtain ⟨t0, t1, t2⟩ := P3.out.threeO
      have f0 := P2.out.free 0
      have f1 := P2.out.free 1
      have f2 := P2.out.free 2
      have f3 := P2.out.free 3
      have f4 := P2.out.free 4
      have f5 := P2.out.free 5
      have g0 := P3.out.free 0
      have g1 := P3.out.free 1
      have g2 := P3.out.free 2
      go_wp2_with fail
      refine close_two Tryz.results9 rfl rfl rfl (P2.out.put6o.far3o (by omega) _ _ _) ((P3.out.far6o (g' := w.heap.size + 1 + 1) (by omega) _ _ _ _ _ _).put3o) Tryz.underlying27 Tryz.underlying36 rfl rfl (by kernel_rfl) (by kernel_rfl) ?_
      exact ⟨rfl, below_set3o (below_set6o HB2.out (show w.heap.size ≤ w.heap.size + 1 + 1 by omega) _ _ _ _ _ _) (show w.heap.size ≤ w.heap.size + 1 + 1 + 1 by omega) _ _ _⟩
    · have h5 : wh ≥ 5 := by omega
      clear hn2
      have HRw := Lib.hid (HR.out _ HB.out)
      go_enter Tryz.func9, Tryz.ntmps9
      go_wp2_with fail
      refine HRw.out.mono ?_
      rintro e w2 ⟨rfl, hb⟩
      have P0 := Lib.hid (Q0.out.keep hb)
      have P1 := Lib.hid (Q1.out.keep hb)
      have P2 := Lib.hid (Q2.out.keep hb)
      have P3 := Lib.hid (Q3.out.keep hb)
      have HB2 := Lib.hid (chain HB.out hb)
      clear hb HRw r0 r1 r2 r3 r4 r5 v0 v1 v2 v3 v4 v5 v6
      obtain ⟨r0, r1, r2, r3, r4, r5⟩ := P0.out.sixO
      obtain ⟨v0, v1, v2, v3, v4, v5, v6⟩ := P1.out.sevenO
      obtain ⟨s0, s1, s2, s3, s4, s5⟩ := P2.out.sixO
      obtain ⟨t0, t1, t2⟩ := P3.out.threeO
      have f0 := P2.out.free 0
      have f1 := P2.out.free 1
      have f2 := P2.out.free 2
      have f3 := P2.out.free 3
      have f4 := P2.out.free 4
      have f5 := P2.out.free 5
      have g0 := P3.out.free 0
      have g1 := P3.out.free 1
      have g2 := P3.out.free 2
      go_wp2_with fail
      refine close_two Tryz.results9 rfl rfl rfl (P2.out.put6o.far3o (by omega) _ _ _) ((P3.out.far6o (g' := w.heap.size + 1 + 1) (by omega) _ _ _ _ _ _).put3o) Tryz.underlying27 Tryz.underlying36 rfl rfl (by kernel_rfl) (by kernel_rfl) ?_
      exact ⟨rfl, below_set3o (below_set6o HB2.out (show w.heap.size ≤ w.heap.size + 1 + 1 by omega) _ _ _ _ _ _) (show w.heap.size ≤ w.heap.size + 1 + 1 + 1 by omega) _ _ _⟩
set_option maxHeartbeats 8000000 in
theorem do_closed (o : ObR) (A : Option Addr) (d : Nat) (c : CallR) (w : World) (hs : SliceOk A o.2.1.2.2.2.length d) (hx : Syms w A o.2.1.2.2.2.length o.2.1.2.2.2) (hr : rightO o = true) (h0 : 0 < c.1) (h4 : c.1 ≤ 4) (hc : o.2.2 = 1) :
    Calls Tryz.prog 9 #[.agg (obA o A d), callV c] w (Ref2 o A d 6 w) := by
  have HR := Lib.hid (fun wy (hw : Below w.heap.size w wy) => oright_any (.agg (obA o A d)) o wy ⟨A, d, rfl, hs, Recs.below hx hw⟩)
  obtain ⟨wh, ct⟩ := c
  dsimp only at h0 h4
  obtain ⟨q0, q1, q2, q3, b5⟩ := A4_gen 27 (obA o A d) (callL (wh, ct)).toArray oZ rZ w
  have Q0 := Lib.hid q0
  have Q1 := Lib.hid q1
  have Q2 := Lib.hid q2
  have Q3 := Lib.hid q3
  have HB := Lib.hid b5
  obtain ⟨r0, r1, r2, r3, r4, r5⟩ := Q0.out.sixO
  obtain ⟨v0, v1, v2, v3, v4, v5, v6⟩ := Q1.out.sevenO
  clear q0 q1 q2 q3 b5
  rw [hr] at HR
  have t1 : ¬ wh < 0 := by omega
  have t2 : ¬ wh ≥ 5 := by omega
  have t3 : (wh != 0) = true := by simpa using (show ¬ wh = 0 by omega)
  have tc : (o.2.2 == 1) = true := by simpa using hc
  clear h0 h4 hc hr
  have HRw := Lib.hid (HR.out _ HB.out)
  go_enter Tryz.func9, Tryz.ntmps9
  go_wp2_with fail
  refine HRw.out.mono ?_
  rintro e w2 ⟨rfl, hb⟩
  have P0 := Lib.hid (Q0.out.keep hb)
  have P1 := Lib.hid (Q1.out.keep hb)
  have P2 := Lib.hid (Q2.out.keep hb)
  have P3 := Lib.hid (Q3.out.keep hb)
  have HB2 := Lib.hid (chain HB.out hb)
  clear hb HRw r0 r1 r2 r3 r4 r5 v0 v1 v2 v3 v4 v5 v6
  obtain ⟨r0, r1, r2, r3, r4, r5⟩ := P0.out.sixO
  obtain ⟨v0, v1, v2, v3, v4, v5, v6⟩ := P1.out.sevenO
  go_wp2_with fail
  refine (refused_any o A d 6 _).mono ?_
  rintro e w3 ⟨rfl, hb⟩
  have R0 := Lib.hid (P0.out.keep hb)
  have R1 := Lib.hid (P1.out.keep hb)
  have R2 := Lib.hid (P2.out.keep hb)
  have R3 := Lib.hid (P3.out.keep hb)
  have HB3 := Lib.hid (chain HB2.out hb)
  clear hb r0 r1 r2 r3 r4 r5 v0 v1 v2 v3 v4 v5 v6
  obtain ⟨s0, s1, s2, s3, s4, s5⟩ := R2.out.sixO
  obtain ⟨t0, t1, t2⟩ := R3.out.threeO
  have f0 := R2.out.free 0
  have f1 := R2.out.free 1
  have f2 := R2.out.free 2
  have f3 := R2.out.free 3
  have f4 := R2.out.free 4
  have f5 := R2.out.free 5
  have g0 := R3.out.free 0
  have g1 := R3.out.free 1
  have g2 := R3.out.free 2
  go_wp2_with fail
  refine close_two Tryz.results9 rfl rfl rfl (R2.out.put6o.far3o (by omega) _ _ _) ((R3.out.far6o (g' := w.heap.size + 1 + 1) (by omega) _ _ _ _ _ _).put3o) Tryz.underlying27 Tryz.underlying36 rfl rfl (by kernel_rfl) (by kernel_rfl) ?_
  exact ⟨rfl, below_set3o (below_set6o HB3.out (show w.heap.size ≤ w.heap.size + 1 + 1 by omega) _ _ _ _ _ _) (show w.heap.size ≤ w.heap.size + 1 + 1 + 1 by omega) _ _ _⟩
set_option maxHeartbeats 8000000 in
theorem do_kind0 (o : ObR) (A : Option Addr) (d : Nat) (ct : Nat × Int × Int × Int × Nat × ByteArray) (w : World) (hs : SliceOk A o.2.1.2.2.2.length d) (hx : Syms w A o.2.1.2.2.2.length o.2.1.2.2.2) (hr : rightO o = true) (hi : Ids o.2.1.2.2.2) (hci : ct.2.2.2.2.1 < 18446744073709551616) :
    Calls Tryz.prog 9 #[.agg (obA o A d), callV (0, ct)] w (DoOut (kindO o (0, ct)).1 (kindO o (0, ct)).2 w) := by
  have HR := Lib.hid (fun wy (hw : Below w.heap.size w wy) => oright_any (.agg (obA o A d)) o wy ⟨A, d, rfl, hs, Recs.below hx hw⟩)
  have HK := Lib.hid (fun wy (hw : Below w.heap.size w wy) => kind0 o A d (0, ct) wy hr hs (Recs.below hx hw) hi hci rfl)
  obtain ⟨ro, hro⟩ : ∃ x, x = kindO o (0, ct) := ⟨_, rfl⟩
  rw [← hro] at HK ⊢
  obtain ⟨q0, q1, q2, q3, b5⟩ := A4_gen 27 (obA o A d) (callL (0, ct)).toArray oZ rZ w
  have Q0 := Lib.hid q0
  have Q1 := Lib.hid q1
  have Q2 := Lib.hid q2
  have Q3 := Lib.hid q3
  have HB := Lib.hid b5
  obtain ⟨r0, r1, r2, r3, r4, r5⟩ := Q0.out.sixO
  obtain ⟨v0, v1, v2, v3, v4, v5, v6⟩ := Q1.out.sevenO
  clear q0 q1 q2 q3 b5
  rw [hr] at HR
  have ix : ∀ w : World, (Instr.index 71 (.agg #[.func (.func 51) #[] #[], .func (.func 52) #[] #[], .func (.func 53) #[] #[], .func (.func 54) #[] #[], .func (.func 55) #[] #[]]) (.int .i64 0)).run Tryz.prog w = .ok (.func (.func 51) #[] #[]) w := fun _ => by kernel_rfl
  have eg : ∀ args w, (callFunc 51 args).run Tryz.prog w = .ok (.enter 51 args) w := enters_of Tryz.func51 (by kernel_rfl) rfl
  cases htc : (o.2.2 == 1) with
  | true =>
    clear hro hs hx hi hr
    have HRw := Lib.hid (HR.out _ HB.out)
    go_enter Tryz.func9, Tryz.ntmps9
    go_wp2_with fail
    refine HRw.out.mono ?_
    rintro e w2 ⟨rfl, hb⟩
    have P0 := Lib.hid (Q0.out.keep hb)
    have P1 := Lib.hid (Q1.out.keep hb)
    have P2 := Lib.hid (Q2.out.keep hb)
    have P3 := Lib.hid (Q3.out.keep hb)
    have HB2 := Lib.hid (chain HB.out hb)
    clear hb HRw r0 r1 r2 r3 r4 r5 v0 v1 v2 v3 v4 v5 v6
    obtain ⟨r0, r1, r2, r3, r4, r5⟩ := P0.out.sixO
    obtain ⟨v0, v1, v2, v3, v4, v5, v6⟩ := P1.out.sevenO
    go_upto_region 5 with (fail)
    have BC := Lib.hid HB2.out.drew
    have BD := Lib.hid (Below.refl w2.heap.size w2).drew
    refine wp_held_tail (S := (fun (w' : World) => w'.cell? ⟨w.heap.size, 0, none⟩ = some (.int .u64 (o.1 : Nat)) ∧ w'.cell? ⟨w.heap.size, 1, none⟩ = some (.int .i64 o.2.1.1) ∧ w'.cell? ⟨w.heap.size, 2, none⟩ = some (.int .i64 o.2.1.2.1) ∧ w'.cell? ⟨w.heap.size, 3, none⟩ = some (.int .i64 o.2.1.2.2.1) ∧ w'.cell? ⟨w.heap.size, 4, none⟩ = some (.slice A o.2.1.2.2.2.length d) ∧ w'.cell? ⟨w.heap.size, 5, none⟩ = some (.int .i64 o.2.2) ∧ w'.cell? ⟨w.heap.size + 1, 0, none⟩ = some (.int .i64 0) ∧ w'.cell? ⟨w.heap.size + 1, 1, none⟩ = some (.int .u64 (ct.1 : Nat)) ∧ w'.cell? ⟨w.heap.size + 1, 2, none⟩ = some (.int .i64 ct.2.1) ∧ w'.cell? ⟨w.heap.size + 1, 3, none⟩ = some (.int .i64 ct.2.2.1) ∧ w'.cell? ⟨w.heap.size + 1, 4, none⟩ = some (.int .i64 ct.2.2.2.1) ∧ w'.cell? ⟨w.heap.size + 1, 5, none⟩ = some (.int .u64 (ct.2.2.2.2.1 : Nat)) ∧ w'.cell? ⟨w.heap.size + 1, 6, none⟩ = some (.string ct.2.2.2.2.2))) 9 (by kernel_rfl) (by decide) ?_
    have hS := Lib.hid (show (fun (w' : World) => w'.cell? ⟨w.heap.size, 0, none⟩ = some (.int .u64 (o.1 : Nat)) ∧ w'.cell? ⟨w.heap.size, 1, none⟩ = some (.int .i64 o.2.1.1) ∧ w'.cell? ⟨w.heap.size, 2, none⟩ = some (.int .i64 o.2.1.2.1) ∧ w'.cell? ⟨w.heap.size, 3, none⟩ = some (.int .i64 o.2.1.2.2.1) ∧ w'.cell? ⟨w.heap.size, 4, none⟩ = some (.slice A o.2.1.2.2.2.length d) ∧ w'.cell? ⟨w.heap.size, 5, none⟩ = some (.int .i64 o.2.2) ∧ w'.cell? ⟨w.heap.size + 1, 0, none⟩ = some (.int .i64 0) ∧ w'.cell? ⟨w.heap.size + 1, 1, none⟩ = some (.int .u64 (ct.1 : Nat)) ∧ w'.cell? ⟨w.heap.size + 1, 2, none⟩ = some (.int .i64 ct.2.1) ∧ w'.cell? ⟨w.heap.size + 1, 3, none⟩ = some (.int .i64 ct.2.2.1) ∧ w'.cell? ⟨w.heap.size + 1, 4, none⟩ = some (.int .i64 ct.2.2.2.1) ∧ w'.cell? ⟨w.heap.size + 1, 5, none⟩ = some (.int .u64 (ct.2.2.2.2.1 : Nat)) ∧ w'.cell? ⟨w.heap.size + 1, 6, none⟩ = some (.string ct.2.2.2.2.2)) w2.drew from ⟨r0, r1, r2, r3, r4, r5, v0, v1, v2, v3, v4, v5, v6⟩)
    replace hS := hS.out
    refine headH_take (i := 1) (v := ?_) rfl (by kernel_rfl) (fun _ _ _ h => h) (fun _ _ _ h => seqB_ready h.1) (Or.inl ⟨by rfl, ?hy1⟩) hS ?rest1
    case hy1 => intro w hSw; (try dsimp only at hSw); obtain ⟨hc0, hc1, hc2, hc3, hc4, hc5, hc6, hc7, hc8, hc9, hc10, hc11, hc12⟩ := hSw; go_simp; try (with_reducible rfl)
    case rest1 =>
    try simp only [Act.put, List.setIfInBounds_toArray, List.set_cons_zero, List.set_cons_succ]
    refine headH_take (i := 2) (v := ?_) rfl (by kernel_rfl) (fun _ _ _ h => h) (fun _ _ _ h => seqB_ready h.1) (Or.inl ⟨by rfl, ?hy2⟩) hS ?rest2
    case hy2 => intro w hSw; (try dsimp only at hSw); obtain ⟨hc0, hc1, hc2, hc3, hc4, hc5, hc6, hc7, hc8, hc9, hc10, hc11, hc12⟩ := hSw; go_simp; try (with_reducible rfl)
    case rest2 =>
    try simp only [Act.put, List.setIfInBounds_toArray, List.set_cons_zero, List.set_cons_succ]
    refine headH_take (i := 4) (v := ?_) rfl (by kernel_rfl) (fun _ _ _ h => h) (fun _ _ _ h => seqB_ready h.1) (Or.inl ⟨by rfl, ?hy3⟩) hS ?rest3
    case hy3 => intro w hSw; (try dsimp only at hSw); obtain ⟨hc0, hc1, hc2, hc3, hc4, hc5, hc6, hc7, hc8, hc9, hc10, hc11, hc12⟩ := hSw; go_simp; try (with_reducible rfl)
    case rest3 =>
    try simp only [Act.put, List.setIfInBounds_toArray, List.set_cons_zero, List.set_cons_succ]
    refine headH_take (i := 5) (v := ?_) rfl (by kernel_rfl) (fun _ _ _ h => h) (fun _ _ _ h => seqB_ready h.1) (Or.inl ⟨by rfl, ?hy4⟩) hS ?rest4
    case hy4 => intro w hSw; (try dsimp only at hSw); obtain ⟨hc0, hc1, hc2, hc3, hc4, hc5, hc6, hc7, hc8, hc9, hc10, hc11, hc12⟩ := hSw; go_simp; try (with_reducible rfl)
    case rest4 =>
    try simp only [Act.put, List.setIfInBounds_toArray, List.set_cons_zero, List.set_cons_succ]
    refine headH_one (i := 0) (by kernel_rfl) rfl (fun K hK => ?_)
    go_simp
    refine (byKind_any _).mono ?_
    rintro e x1 ⟨rfl, hb⟩
    replace BC := Lib.hid (chain BC.out hb)
    replace BD := Lib.hid (chain BD.out hb)
    clear hb r0 r1 r2 r3 r4 r5 v0 v1 v2 v3 v4 v5 v6
    obtain ⟨r0, r1, r2, r3, r4, r5⟩ := (P0.out.keep BD.out).sixO
    obtain ⟨v0, v1, v2, v3, v4, v5, v6⟩ := (P1.out.keep BD.out).sevenO
    refine hK.out _ _ (show (fun (w' : World) => w'.cell? ⟨w.heap.size, 0, none⟩ = some (.int .u64 (o.1 : Nat)) ∧ w'.cell? ⟨w.heap.size, 1, none⟩ = some (.int .i64 o.2.1.1) ∧ w'.cell? ⟨w.heap.size, 2, none⟩ = some (.int .i64 o.2.1.2.1) ∧ w'.cell? ⟨w.heap.size, 3, none⟩ = some (.int .i64 o.2.1.2.2.1) ∧ w'.cell? ⟨w.heap.size, 4, none⟩ = some (.slice A o.2.1.2.2.2.length d) ∧ w'.cell? ⟨w.heap.size, 5, none⟩ = some (.int .i64 o.2.2) ∧ w'.cell? ⟨w.heap.size + 1, 0, none⟩ = some (.int .i64 0) ∧ w'.cell? ⟨w.heap.size + 1, 1, none⟩ = some (.int .u64 (ct.1 : Nat)) ∧ w'.cell? ⟨w.heap.size + 1, 2, none⟩ = some (.int .i64 ct.2.1) ∧ w'.cell? ⟨w.heap.size + 1, 3, none⟩ = some (.int .i64 ct.2.2.1) ∧ w'.cell? ⟨w.heap.size + 1, 4, none⟩ = some (.int .i64 ct.2.2.2.1) ∧ w'.cell? ⟨w.heap.size + 1, 5, none⟩ = some (.int .u64 (ct.2.2.2.2.1 : Nat)) ∧ w'.cell? ⟨w.heap.size + 1, 6, none⟩ = some (.string ct.2.2.2.2.2)) x1 from ⟨r0, r1, r2, r3, r4, r5, v0, v1, v2, v3, v4, v5, v6⟩) (fun hS => ?_)
    clear hK K
    refine headH_take (i := 3) (v := ?_) rfl (by kernel_rfl) (fun _ _ _ h => h) (fun _ _ _ h => seqB_ready h.1) (Or.inl ⟨by rfl, ?hy5⟩) hS ?rest5
    case hy5 => intro w hSw; (try dsimp only at hSw); obtain ⟨hc0, hc1, hc2, hc3, hc4, hc5, hc6, hc7, hc8, hc9, hc10, hc11, hc12⟩ := hSw; go_simp; try (with_reducible rfl)
    case rest5 =>
    try simp only [Act.put, List.setIfInBounds_toArray, List.set_cons_zero, List.set_cons_succ]
    refine headH_one (i := 6) (by kernel_rfl) rfl (fun K hK => ?_)
    go_simp
    refine (HK.out _ BC.out).mono ?_
    rintro e x2 ⟨A2, d2, B2, c2, rfl, hs2, hx2, ht2, hc2, hm2, hb⟩
    replace BC := Lib.hid (chain BC.out hb)
    replace BD := Lib.hid (chain BD.out hb)
    have HS2 := Lib.hid hs2
    have HX2 := Lib.hid hx2
    have HT2 := Lib.hid ht2
    have HC2 := Lib.hid (And.intro hc2 hm2)
    clear hb hs2 hx2 ht2 hc2 hm2 r0 r1 r2 r3 r4 r5 v0 v1 v2 v3 v4 v5 v6
    obtain ⟨r0, r1, r2, r3, r4, r5⟩ := (P0.out.keep BD.out).sixO
    obtain ⟨v0, v1, v2, v3, v4, v5, v6⟩ := (P1.out.keep BD.out).sevenO
    have R2 := Lib.hid (P2.out.keep BD.out)
    have R3 := Lib.hid (P3.out.keep BD.out)
    obtain ⟨s0, s1, s2, s3, s4, s5⟩ := R2.out.sixO
    obtain ⟨t0, t1, t2⟩ := R3.out.threeO
    have f0 := R2.out.free 0
    have f1 := R2.out.free 1
    have f2 := R2.out.free 2
    have f3 := R2.out.free 3
    have f4 := R2.out.free 4
    have f5 := R2.out.free 5
    have g0 := R3.out.free 0
    have g1 := R3.out.free 1
    have g2 := R3.out.free 2
    refine hK.out _ _ (show (fun (w' : World) => w'.cell? ⟨w.heap.size, 0, none⟩ = some (.int .u64 (o.1 : Nat)) ∧ w'.cell? ⟨w.heap.size, 1, none⟩ = some (.int .i64 o.2.1.1) ∧ w'.cell? ⟨w.heap.size, 2, none⟩ = some (.int .i64 o.2.1.2.1) ∧ w'.cell? ⟨w.heap.size, 3, none⟩ = some (.int .i64 o.2.1.2.2.1) ∧ w'.cell? ⟨w.heap.size, 4, none⟩ = some (.slice A o.2.1.2.2.2.length d) ∧ w'.cell? ⟨w.heap.size, 5, none⟩ = some (.int .i64 o.2.2) ∧ w'.cell? ⟨w.heap.size + 1, 0, none⟩ = some (.int .i64 0) ∧ w'.cell? ⟨w.heap.size + 1, 1, none⟩ = some (.int .u64 (ct.1 : Nat)) ∧ w'.cell? ⟨w.heap.size + 1, 2, none⟩ = some (.int .i64 ct.2.1) ∧ w'.cell? ⟨w.heap.size + 1, 3, none⟩ = some (.int .i64 ct.2.2.1) ∧ w'.cell? ⟨w.heap.size + 1, 4, none⟩ = some (.int .i64 ct.2.2.2.1) ∧ w'.cell? ⟨w.heap.size + 1, 5, none⟩ = some (.int .u64 (ct.2.2.2.2.1 : Nat)) ∧ w'.cell? ⟨w.heap.size + 1, 6, none⟩ = some (.string ct.2.2.2.2.2)) x2 from ⟨r0, r1, r2, r3, r4, r5, v0, v1, v2, v3, v4, v5, v6⟩) (fun hS => ?_)
    clear hK K
    refine headH_take (i := 7) (v := ?_) rfl (by kernel_rfl) (fun _ _ _ h => h) (fun _ _ _ h => seqB_ready h.1) (Or.inl ⟨by rfl, ?hy6⟩) hS ?rest6
    case hy6 => intro w hSw; (try dsimp only at hSw); obtain ⟨hc0, hc1, hc2, hc3, hc4, hc5, hc6, hc7, hc8, hc9, hc10, hc11, hc12⟩ := hSw; go_simp; try (with_reducible rfl)
    case rest6 =>
    try simp only [Act.put, List.setIfInBounds_toArray, List.set_cons_zero, List.set_cons_succ]
    refine headH_take (i := 8) (v := ?_) rfl (by kernel_rfl) (fun _ _ _ h => h) (fun _ _ _ h => seqB_ready h.1) (Or.inl ⟨by rfl, ?hy7⟩) hS ?rest7
    case hy7 => intro w hSw; (try dsimp only at hSw); obtain ⟨hc0, hc1, hc2, hc3, hc4, hc5, hc6, hc7, hc8, hc9, hc10, hc11, hc12⟩ := hSw; go_simp; try (with_reducible rfl)
    case rest7 =>
    try simp only [Act.put, List.setIfInBounds_toArray, List.set_cons_zero, List.set_cons_succ]
    refine ⟨by kernel_rfl, ?_⟩
    go_wp2_with fail
    refine close_two Tryz.results9 rfl rfl rfl (R2.out.put6o.far3o (by omega) _ _ _) ((R3.out.far6o (g' := w.heap.size + 1 + 1) (by omega) _ _ _ _ _ _).put3o) Tryz.underlying27 Tryz.underlying36 rfl rfl (by kernel_rfl) (by kernel_rfl) ?_
    exact ⟨A2, d2, B2, c2, rfl, HS2.out, Syms.far9 HX2.out (Syms.neO HX2.out R2.out oz_no) (Syms.neO HX2.out R3.out rz_no) _ _ _ _ _ _ _ _ _, HT2.out.far9 (HT2.out.neO R2.out oz_no) (HT2.out.neO R3.out rz_no) _ _ _ _ _ _ _ _ _, HC2.out.1, HC2.out.2, below_set3o (below_set6o BC.out (show w.heap.size ≤ w.heap.size + 1 + 1 by omega) _ _ _ _ _ _) (show w.heap.size ≤ w.heap.size + 1 + 1 + 1 by omega) _ _ _⟩
  | false =>
    clear hro hs hx hi hr
    have HRw := Lib.hid (HR.out _ HB.out)
    go_enter Tryz.func9, Tryz.ntmps9
    go_wp2_with fail
    refine HRw.out.mono ?_
    rintro e w2 ⟨rfl, hb⟩
    have P0 := Lib.hid (Q0.out.keep hb)
    have P1 := Lib.hid (Q1.out.keep hb)
    have P2 := Lib.hid (Q2.out.keep hb)
    have P3 := Lib.hid (Q3.out.keep hb)
    have HB2 := Lib.hid (chain HB.out hb)
    clear hb HRw r0 r1 r2 r3 r4 r5 v0 v1 v2 v3 v4 v5 v6
    obtain ⟨r0, r1, r2, r3, r4, r5⟩ := P0.out.sixO
    obtain ⟨v0, v1, v2, v3, v4, v5, v6⟩ := P1.out.sevenO
    go_upto_region 5 with (fail)
    have BC := Lib.hid HB2.out.drew
    have BD := Lib.hid (Below.refl w2.heap.size w2).drew
    refine wp_held_tail (S := (fun (w' : World) => w'.cell? ⟨w.heap.size, 0, none⟩ = some (.int .u64 (o.1 : Nat)) ∧ w'.cell? ⟨w.heap.size, 1, none⟩ = some (.int .i64 o.2.1.1) ∧ w'.cell? ⟨w.heap.size, 2, none⟩ = some (.int .i64 o.2.1.2.1) ∧ w'.cell? ⟨w.heap.size, 3, none⟩ = some (.int .i64 o.2.1.2.2.1) ∧ w'.cell? ⟨w.heap.size, 4, none⟩ = some (.slice A o.2.1.2.2.2.length d) ∧ w'.cell? ⟨w.heap.size, 5, none⟩ = some (.int .i64 o.2.2) ∧ w'.cell? ⟨w.heap.size + 1, 0, none⟩ = some (.int .i64 0) ∧ w'.cell? ⟨w.heap.size + 1, 1, none⟩ = some (.int .u64 (ct.1 : Nat)) ∧ w'.cell? ⟨w.heap.size + 1, 2, none⟩ = some (.int .i64 ct.2.1) ∧ w'.cell? ⟨w.heap.size + 1, 3, none⟩ = some (.int .i64 ct.2.2.1) ∧ w'.cell? ⟨w.heap.size + 1, 4, none⟩ = some (.int .i64 ct.2.2.2.1) ∧ w'.cell? ⟨w.heap.size + 1, 5, none⟩ = some (.int .u64 (ct.2.2.2.2.1 : Nat)) ∧ w'.cell? ⟨w.heap.size + 1, 6, none⟩ = some (.string ct.2.2.2.2.2))) 9 (by kernel_rfl) (by decide) ?_
    have hS := Lib.hid (show (fun (w' : World) => w'.cell? ⟨w.heap.size, 0, none⟩ = some (.int .u64 (o.1 : Nat)) ∧ w'.cell? ⟨w.heap.size, 1, none⟩ = some (.int .i64 o.2.1.1) ∧ w'.cell? ⟨w.heap.size, 2, none⟩ = some (.int .i64 o.2.1.2.1) ∧ w'.cell? ⟨w.heap.size, 3, none⟩ = some (.int .i64 o.2.1.2.2.1) ∧ w'.cell? ⟨w.heap.size, 4, none⟩ = some (.slice A o.2.1.2.2.2.length d) ∧ w'.cell? ⟨w.heap.size, 5, none⟩ = some (.int .i64 o.2.2) ∧ w'.cell? ⟨w.heap.size + 1, 0, none⟩ = some (.int .i64 0) ∧ w'.cell? ⟨w.heap.size + 1, 1, none⟩ = some (.int .u64 (ct.1 : Nat)) ∧ w'.cell? ⟨w.heap.size + 1, 2, none⟩ = some (.int .i64 ct.2.1) ∧ w'.cell? ⟨w.heap.size + 1, 3, none⟩ = some (.int .i64 ct.2.2.1) ∧ w'.cell? ⟨w.heap.size + 1, 4, none⟩ = some (.int .i64 ct.2.2.2.1) ∧ w'.cell? ⟨w.heap.size + 1, 5, none⟩ = some (.int .u64 (ct.2.2.2.2.1 : Nat)) ∧ w'.cell? ⟨w.heap.size + 1, 6, none⟩ = some (.string ct.2.2.2.2.2)) w2.drew from ⟨r0, r1, r2, r3, r4, r5, v0, v1, v2, v3, v4, v5, v6⟩)
    replace hS := hS.out
    refine headH_take (i := 1) (v := ?_) rfl (by kernel_rfl) (fun _ _ _ h => h) (fun _ _ _ h => seqB_ready h.1) (Or.inl ⟨by rfl, ?hy1⟩) hS ?rest1
    case hy1 => intro w hSw; (try dsimp only at hSw); obtain ⟨hc0, hc1, hc2, hc3, hc4, hc5, hc6, hc7, hc8, hc9, hc10, hc11, hc12⟩ := hSw; go_simp; try (with_reducible rfl)
    case rest1 =>
    try simp only [Act.put, List.setIfInBounds_toArray, List.set_cons_zero, List.set_cons_succ]
    refine headH_take (i := 2) (v := ?_) rfl (by kernel_rfl) (fun _ _ _ h => h) (fun _ _ _ h => seqB_ready h.1) (Or.inl ⟨by rfl, ?hy2⟩) hS ?rest2
    case hy2 => intro w hSw; (try dsimp only at hSw); obtain ⟨hc0, hc1, hc2, hc3, hc4, hc5, hc6, hc7, hc8, hc9, hc10, hc11, hc12⟩ := hSw; go_simp; try (with_reducible rfl)
    case rest2 =>
    try simp only [Act.put, List.setIfInBounds_toArray, List.set_cons_zero, List.set_cons_succ]
    refine headH_take (i := 4) (v := ?_) rfl (by kernel_rfl) (fun _ _ _ h => h) (fun _ _ _ h => seqB_ready h.1) (Or.inl ⟨by rfl, ?hy3⟩) hS ?rest3
    case hy3 => intro w hSw; (try dsimp only at hSw); obtain ⟨hc0, hc1, hc2, hc3, hc4, hc5, hc6, hc7, hc8, hc9, hc10, hc11, hc12⟩ := hSw; go_simp; try (with_reducible rfl)
    case rest3 =>
    try simp only [Act.put, List.setIfInBounds_toArray, List.set_cons_zero, List.set_cons_succ]
    refine headH_take (i := 5) (v := ?_) rfl (by kernel_rfl) (fun _ _ _ h => h) (fun _ _ _ h => seqB_ready h.1) (Or.inl ⟨by rfl, ?hy4⟩) hS ?rest4
    case hy4 => intro w hSw; (try dsimp only at hSw); obtain ⟨hc0, hc1, hc2, hc3, hc4, hc5, hc6, hc7, hc8, hc9, hc10, hc11, hc12⟩ := hSw; go_simp; try (with_reducible rfl)
    case rest4 =>
    try simp only [Act.put, List.setIfInBounds_toArray, List.set_cons_zero, List.set_cons_succ]
    refine headH_one (i := 0) (by kernel_rfl) rfl (fun K hK => ?_)
    go_simp
    refine (byKind_any _).mono ?_
    rintro e x1 ⟨rfl, hb⟩
    replace BC := Lib.hid (chain BC.out hb)
    replace BD := Lib.hid (chain BD.out hb)
    clear hb r0 r1 r2 r3 r4 r5 v0 v1 v2 v3 v4 v5 v6
    obtain ⟨r0, r1, r2, r3, r4, r5⟩ := (P0.out.keep BD.out).sixO
    obtain ⟨v0, v1, v2, v3, v4, v5, v6⟩ := (P1.out.keep BD.out).sevenO
    refine hK.out _ _ (show (fun (w' : World) => w'.cell? ⟨w.heap.size, 0, none⟩ = some (.int .u64 (o.1 : Nat)) ∧ w'.cell? ⟨w.heap.size, 1, none⟩ = some (.int .i64 o.2.1.1) ∧ w'.cell? ⟨w.heap.size, 2, none⟩ = some (.int .i64 o.2.1.2.1) ∧ w'.cell? ⟨w.heap.size, 3, none⟩ = some (.int .i64 o.2.1.2.2.1) ∧ w'.cell? ⟨w.heap.size, 4, none⟩ = some (.slice A o.2.1.2.2.2.length d) ∧ w'.cell? ⟨w.heap.size, 5, none⟩ = some (.int .i64 o.2.2) ∧ w'.cell? ⟨w.heap.size + 1, 0, none⟩ = some (.int .i64 0) ∧ w'.cell? ⟨w.heap.size + 1, 1, none⟩ = some (.int .u64 (ct.1 : Nat)) ∧ w'.cell? ⟨w.heap.size + 1, 2, none⟩ = some (.int .i64 ct.2.1) ∧ w'.cell? ⟨w.heap.size + 1, 3, none⟩ = some (.int .i64 ct.2.2.1) ∧ w'.cell? ⟨w.heap.size + 1, 4, none⟩ = some (.int .i64 ct.2.2.2.1) ∧ w'.cell? ⟨w.heap.size + 1, 5, none⟩ = some (.int .u64 (ct.2.2.2.2.1 : Nat)) ∧ w'.cell? ⟨w.heap.size + 1, 6, none⟩ = some (.string ct.2.2.2.2.2)) x1 from ⟨r0, r1, r2, r3, r4, r5, v0, v1, v2, v3, v4, v5, v6⟩) (fun hS => ?_)
    clear hK K
    refine headH_take (i := 3) (v := ?_) rfl (by kernel_rfl) (fun _ _ _ h => h) (fun _ _ _ h => seqB_ready h.1) (Or.inl ⟨by rfl, ?hy5⟩) hS ?rest5
    case hy5 => intro w hSw; (try dsimp only at hSw); obtain ⟨hc0, hc1, hc2, hc3, hc4, hc5, hc6, hc7, hc8, hc9, hc10, hc11, hc12⟩ := hSw; go_simp; try (with_reducible rfl)
    case rest5 =>
    try simp only [Act.put, List.setIfInBounds_toArray, List.set_cons_zero, List.set_cons_succ]
    refine headH_one (i := 6) (by kernel_rfl) rfl (fun K hK => ?_)
    go_simp
    refine (HK.out _ BC.out).mono ?_
    rintro e x2 ⟨A2, d2, B2, c2, rfl, hs2, hx2, ht2, hc2, hm2, hb⟩
    replace BC := Lib.hid (chain BC.out hb)
    replace BD := Lib.hid (chain BD.out hb)
    have HS2 := Lib.hid hs2
    have HX2 := Lib.hid hx2
    have HT2 := Lib.hid ht2
    have HC2 := Lib.hid (And.intro hc2 hm2)
    clear hb hs2 hx2 ht2 hc2 hm2 r0 r1 r2 r3 r4 r5 v0 v1 v2 v3 v4 v5 v6
    obtain ⟨r0, r1, r2, r3, r4, r5⟩ := (P0.out.keep BD.out).sixO
    obtain ⟨v0, v1, v2, v3, v4, v5, v6⟩ := (P1.out.keep BD.out).sevenO
    have R2 := Lib.hid (P2.out.keep BD.out)
    have R3 := Lib.hid (P3.out.keep BD.out)
    obtain ⟨s0, s1, s2, s3, s4, s5⟩ := R2.out.sixO
    obtain ⟨t0, t1, t2⟩ := R3.out.threeO
    have f0 := R2.out.free 0
    have f1 := R2.out.free 1
    have f2 := R2.out.free 2
    have f3 := R2.out.free 3
    have f4 := R2.out.free 4
    have f5 := R2.out.free 5
    have g0 := R3.out.free 0
    have g1 := R3.out.free 1
    have g2 := R3.out.free 2
    refine hK.out _ _ (show (fun (w' : World) => w'.cell? ⟨w.heap.size, 0, none⟩ = some (.int .u64 (o.1 : Nat)) ∧ w'.cell? ⟨w.heap.size, 1, none⟩ = some (.int .i64 o.2.1.1) ∧ w'.cell? ⟨w.heap.size, 2, none⟩ = some (.int .i64 o.2.1.2.1) ∧ w'.cell? ⟨w.heap.size, 3, none⟩ = some (.int .i64 o.2.1.2.2.1) ∧ w'.cell? ⟨w.heap.size, 4, none⟩ = some (.slice A o.2.1.2.2.2.length d) ∧ w'.cell? ⟨w.heap.size, 5, none⟩ = some (.int .i64 o.2.2) ∧ w'.cell? ⟨w.heap.size + 1, 0, none⟩ = some (.int .i64 0) ∧ w'.cell? ⟨w.heap.size + 1, 1, none⟩ = some (.int .u64 (ct.1 : Nat)) ∧ w'.cell? ⟨w.heap.size + 1, 2, none⟩ = some (.int .i64 ct.2.1) ∧ w'.cell? ⟨w.heap.size + 1, 3, none⟩ = some (.int .i64 ct.2.2.1) ∧ w'.cell? ⟨w.heap.size + 1, 4, none⟩ = some (.int .i64 ct.2.2.2.1) ∧ w'.cell? ⟨w.heap.size + 1, 5, none⟩ = some (.int .u64 (ct.2.2.2.2.1 : Nat)) ∧ w'.cell? ⟨w.heap.size + 1, 6, none⟩ = some (.string ct.2.2.2.2.2)) x2 from ⟨r0, r1, r2, r3, r4, r5, v0, v1, v2, v3, v4, v5, v6⟩) (fun hS => ?_)
    clear hK K
    refine headH_take (i := 7) (v := ?_) rfl (by kernel_rfl) (fun _ _ _ h => h) (fun _ _ _ h => seqB_ready h.1) (Or.inl ⟨by rfl, ?hy6⟩) hS ?rest6
    case hy6 => intro w hSw; (try dsimp only at hSw); obtain ⟨hc0, hc1, hc2, hc3, hc4, hc5, hc6, hc7, hc8, hc9, hc10, hc11, hc12⟩ := hSw; go_simp; try (with_reducible rfl)
    case rest6 =>
    try simp only [Act.put, List.setIfInBounds_toArray, List.set_cons_zero, List.set_cons_succ]
    refine headH_take (i := 8) (v := ?_) rfl (by kernel_rfl) (fun _ _ _ h => h) (fun _ _ _ h => seqB_ready h.1) (Or.inl ⟨by rfl, ?hy7⟩) hS ?rest7
    case hy7 => intro w hSw; (try dsimp only at hSw); obtain ⟨hc0, hc1, hc2, hc3, hc4, hc5, hc6, hc7, hc8, hc9, hc10, hc11, hc12⟩ := hSw; go_simp; try (with_reducible rfl)
    case rest7 =>
    try simp only [Act.put, List.setIfInBounds_toArray, List.set_cons_zero, List.set_cons_succ]
    refine ⟨by kernel_rfl, ?_⟩
    go_wp2_with fail
    refine close_two Tryz.results9 rfl rfl rfl (R2.out.put6o.far3o (by omega) _ _ _) ((R3.out.far6o (g' := w.heap.size + 1 + 1) (by omega) _ _ _ _ _ _).put3o) Tryz.underlying27 Tryz.underlying36 rfl rfl (by kernel_rfl) (by kernel_rfl) ?_
    exact ⟨A2, d2, B2, c2, rfl, HS2.out, Syms.far9 HX2.out (Syms.neO HX2.out R2.out oz_no) (Syms.neO HX2.out R3.out rz_no) _ _ _ _ _ _ _ _ _, HT2.out.far9 (HT2.out.neO R2.out oz_no) (HT2.out.neO R3.out rz_no) _ _ _ _ _ _ _ _ _, HC2.out.1, HC2.out.2, below_set3o (below_set6o BC.out (show w.heap.size ≤ w.heap.size + 1 + 1 by omega) _ _ _ _ _ _) (show w.heap.size ≤ w.heap.size + 1 + 1 + 1 by omega) _ _ _⟩
set_option maxHeartbeats 8000000 in
theorem do_kind1 (o : ObR) (A : Option Addr) (d : Nat) (ct : Nat × Int × Int × Int × Nat × ByteArray) (w : World) (hs : SliceOk A o.2.1.2.2.2.length d) (hx : Syms w A o.2.1.2.2.2.length o.2.1.2.2.2) (hr : rightO o = true) (hi : Ids o.2.1.2.2.2) (hci : ct.2.2.2.2.1 < 18446744073709551616) (hc : ¬ o.2.2 = 1) :
    Calls Tryz.prog 9 #[.agg (obA o A d), callV (1, ct)] w (DoOut (kindO o (1, ct)).1 (kindO o (1, ct)).2 w) := by
  have HR := Lib.hid (fun wy (hw : Below w.heap.size w wy) => oright_any (.agg (obA o A d)) o wy ⟨A, d, rfl, hs, Recs.below hx hw⟩)
  have HK := Lib.hid (fun wy (hw : Below w.heap.size w wy) => kind1 o A d (1, ct) wy hr hs (Recs.below hx hw) hi hci rfl)
  obtain ⟨ro, hro⟩ : ∃ x, x = kindO o (1, ct) := ⟨_, rfl⟩
  rw [← hro] at HK ⊢
  obtain ⟨q0, q1, q2, q3, b5⟩ := A4_gen 27 (obA o A d) (callL (1, ct)).toArray oZ rZ w
  have Q0 := Lib.hid q0
  have Q1 := Lib.hid q1
  have Q2 := Lib.hid q2
  have Q3 := Lib.hid q3
  have HB := Lib.hid b5
  obtain ⟨r0, r1, r2, r3, r4, r5⟩ := Q0.out.sixO
  obtain ⟨v0, v1, v2, v3, v4, v5, v6⟩ := Q1.out.sevenO
  clear q0 q1 q2 q3 b5
  rw [hr] at HR
  have ix : ∀ w : World, (Instr.index 71 (.agg #[.func (.func 51) #[] #[], .func (.func 52) #[] #[], .func (.func 53) #[] #[], .func (.func 54) #[] #[], .func (.func 55) #[] #[]]) (.int .i64 1)).run Tryz.prog w = .ok (.func (.func 52) #[] #[]) w := fun _ => by kernel_rfl
  have eg : ∀ args w, (callFunc 52 args).run Tryz.prog w = .ok (.enter 52 args) w := enters_of Tryz.func52 (by kernel_rfl) rfl
  have tc : (o.2.2 == 1) = false := by simpa using hc
  clear hc
  clear hro hs hx hi hr
  have HRw := Lib.hid (HR.out _ HB.out)
  go_enter Tryz.func9, Tryz.ntmps9
  go_wp2_with fail
  refine HRw.out.mono ?_
  rintro e w2 ⟨rfl, hb⟩
  have P0 := Lib.hid (Q0.out.keep hb)
  have P1 := Lib.hid (Q1.out.keep hb)
  have P2 := Lib.hid (Q2.out.keep hb)
  have P3 := Lib.hid (Q3.out.keep hb)
  have HB2 := Lib.hid (chain HB.out hb)
  clear hb HRw r0 r1 r2 r3 r4 r5 v0 v1 v2 v3 v4 v5 v6
  obtain ⟨r0, r1, r2, r3, r4, r5⟩ := P0.out.sixO
  obtain ⟨v0, v1, v2, v3, v4, v5, v6⟩ := P1.out.sevenO
  go_upto_region 5 with (fail)
  have BC := Lib.hid HB2.out.drew
  have BD := Lib.hid (Below.refl w2.heap.size w2).drew
  refine wp_held_tail (S := (fun (w' : World) => w'.cell? ⟨w.heap.size, 0, none⟩ = some (.int .u64 (o.1 : Nat)) ∧ w'.cell? ⟨w.heap.size, 1, none⟩ = some (.int .i64 o.2.1.1) ∧ w'.cell? ⟨w.heap.size, 2, none⟩ = some (.int .i64 o.2.1.2.1) ∧ w'.cell? ⟨w.heap.size, 3, none⟩ = some (.int .i64 o.2.1.2.2.1) ∧ w'.cell? ⟨w.heap.size, 4, none⟩ = some (.slice A o.2.1.2.2.2.length d) ∧ w'.cell? ⟨w.heap.size, 5, none⟩ = some (.int .i64 o.2.2) ∧ w'.cell? ⟨w.heap.size + 1, 0, none⟩ = some (.int .i64 1) ∧ w'.cell? ⟨w.heap.size + 1, 1, none⟩ = some (.int .u64 (ct.1 : Nat)) ∧ w'.cell? ⟨w.heap.size + 1, 2, none⟩ = some (.int .i64 ct.2.1) ∧ w'.cell? ⟨w.heap.size + 1, 3, none⟩ = some (.int .i64 ct.2.2.1) ∧ w'.cell? ⟨w.heap.size + 1, 4, none⟩ = some (.int .i64 ct.2.2.2.1) ∧ w'.cell? ⟨w.heap.size + 1, 5, none⟩ = some (.int .u64 (ct.2.2.2.2.1 : Nat)) ∧ w'.cell? ⟨w.heap.size + 1, 6, none⟩ = some (.string ct.2.2.2.2.2))) 9 (by kernel_rfl) (by decide) ?_
  have hS := Lib.hid (show (fun (w' : World) => w'.cell? ⟨w.heap.size, 0, none⟩ = some (.int .u64 (o.1 : Nat)) ∧ w'.cell? ⟨w.heap.size, 1, none⟩ = some (.int .i64 o.2.1.1) ∧ w'.cell? ⟨w.heap.size, 2, none⟩ = some (.int .i64 o.2.1.2.1) ∧ w'.cell? ⟨w.heap.size, 3, none⟩ = some (.int .i64 o.2.1.2.2.1) ∧ w'.cell? ⟨w.heap.size, 4, none⟩ = some (.slice A o.2.1.2.2.2.length d) ∧ w'.cell? ⟨w.heap.size, 5, none⟩ = some (.int .i64 o.2.2) ∧ w'.cell? ⟨w.heap.size + 1, 0, none⟩ = some (.int .i64 1) ∧ w'.cell? ⟨w.heap.size + 1, 1, none⟩ = some (.int .u64 (ct.1 : Nat)) ∧ w'.cell? ⟨w.heap.size + 1, 2, none⟩ = some (.int .i64 ct.2.1) ∧ w'.cell? ⟨w.heap.size + 1, 3, none⟩ = some (.int .i64 ct.2.2.1) ∧ w'.cell? ⟨w.heap.size + 1, 4, none⟩ = some (.int .i64 ct.2.2.2.1) ∧ w'.cell? ⟨w.heap.size + 1, 5, none⟩ = some (.int .u64 (ct.2.2.2.2.1 : Nat)) ∧ w'.cell? ⟨w.heap.size + 1, 6, none⟩ = some (.string ct.2.2.2.2.2)) w2.drew from ⟨r0, r1, r2, r3, r4, r5, v0, v1, v2, v3, v4, v5, v6⟩)
  replace hS := hS.out
  refine headH_take (i := 1) (v := ?_) rfl (by kernel_rfl) (fun _ _ _ h => h) (fun _ _ _ h => seqB_ready h.1) (Or.inl ⟨by rfl, ?hy8⟩) hS ?rest8
  case hy8 => intro w hSw; (try dsimp only at hSw); obtain ⟨hc0, hc1, hc2, hc3, hc4, hc5, hc6, hc7, hc8, hc9, hc10, hc11, hc12⟩ := hSw; go_simp; try (with_reducible rfl)
  case rest8 =>
  try simp only [Act.put, List.setIfInBounds_toArray, List.set_cons_zero, List.set_cons_succ]
  refine headH_take (i := 2) (v := ?_) rfl (by kernel_rfl) (fun _ _ _ h => h) (fun _ _ _ h => seqB_ready h.1) (Or.inl ⟨by rfl, ?hy9⟩) hS ?rest9
  case hy9 => intro w hSw; (try dsimp only at hSw); obtain ⟨hc0, hc1, hc2, hc3, hc4, hc5, hc6, hc7, hc8, hc9, hc10, hc11, hc12⟩ := hSw; go_simp; try (with_reducible rfl)
  case rest9 =>
  try simp only [Act.put, List.setIfInBounds_toArray, List.set_cons_zero, List.set_cons_succ]
  refine headH_take (i := 4) (v := ?_) rfl (by kernel_rfl) (fun _ _ _ h => h) (fun _ _ _ h => seqB_ready h.1) (Or.inl ⟨by rfl, ?hy10⟩) hS ?rest10
  case hy10 => intro w hSw; (try dsimp only at hSw); obtain ⟨hc0, hc1, hc2, hc3, hc4, hc5, hc6, hc7, hc8, hc9, hc10, hc11, hc12⟩ := hSw; go_simp; try (with_reducible rfl)
  case rest10 =>
  try simp only [Act.put, List.setIfInBounds_toArray, List.set_cons_zero, List.set_cons_succ]
  refine headH_take (i := 5) (v := ?_) rfl (by kernel_rfl) (fun _ _ _ h => h) (fun _ _ _ h => seqB_ready h.1) (Or.inl ⟨by rfl, ?hy11⟩) hS ?rest11
  case hy11 => intro w hSw; (try dsimp only at hSw); obtain ⟨hc0, hc1, hc2, hc3, hc4, hc5, hc6, hc7, hc8, hc9, hc10, hc11, hc12⟩ := hSw; go_simp; try (with_reducible rfl)
  case rest11 =>
  try simp only [Act.put, List.setIfInBounds_toArray, List.set_cons_zero, List.set_cons_succ]
  refine headH_one (i := 0) (by kernel_rfl) rfl (fun K hK => ?_)
  go_simp
  refine (byKind_any _).mono ?_
  rintro e x1 ⟨rfl, hb⟩
  replace BC := Lib.hid (chain BC.out hb)
  replace BD := Lib.hid (chain BD.out hb)
  clear hb r0 r1 r2 r3 r4 r5 v0 v1 v2 v3 v4 v5 v6
  obtain ⟨r0, r1, r2, r3, r4, r5⟩ := (P0.out.keep BD.out).sixO
  obtain ⟨v0, v1, v2, v3, v4, v5, v6⟩ := (P1.out.keep BD.out).sevenO
  refine hK.out _ _ (show (fun (w' : World) => w'.cell? ⟨w.heap.size, 0, none⟩ = some (.int .u64 (o.1 : Nat)) ∧ w'.cell? ⟨w.heap.size, 1, none⟩ = some (.int .i64 o.2.1.1) ∧ w'.cell? ⟨w.heap.size, 2, none⟩ = some (.int .i64 o.2.1.2.1) ∧ w'.cell? ⟨w.heap.size, 3, none⟩ = some (.int .i64 o.2.1.2.2.1) ∧ w'.cell? ⟨w.heap.size, 4, none⟩ = some (.slice A o.2.1.2.2.2.length d) ∧ w'.cell? ⟨w.heap.size, 5, none⟩ = some (.int .i64 o.2.2) ∧ w'.cell? ⟨w.heap.size + 1, 0, none⟩ = some (.int .i64 1) ∧ w'.cell? ⟨w.heap.size + 1, 1, none⟩ = some (.int .u64 (ct.1 : Nat)) ∧ w'.cell? ⟨w.heap.size + 1, 2, none⟩ = some (.int .i64 ct.2.1) ∧ w'.cell? ⟨w.heap.size + 1, 3, none⟩ = some (.int .i64 ct.2.2.1) ∧ w'.cell? ⟨w.heap.size + 1, 4, none⟩ = some (.int .i64 ct.2.2.2.1) ∧ w'.cell? ⟨w.heap.size + 1, 5, none⟩ = some (.int .u64 (ct.2.2.2.2.1 : Nat)) ∧ w'.cell? ⟨w.heap.size + 1, 6, none⟩ = some (.string ct.2.2.2.2.2)) x1 from ⟨r0, r1, r2, r3, r4, r5, v0, v1, v2, v3, v4, v5, v6⟩) (fun hS => ?_)
  clear hK K
  refine headH_take (i := 3) (v := ?_) rfl (by kernel_rfl) (fun _ _ _ h => h) (fun _ _ _ h => seqB_ready h.1) (Or.inl ⟨by rfl, ?hy12⟩) hS ?rest12
  case hy12 => intro w hSw; (try dsimp only at hSw); obtain ⟨hc0, hc1, hc2, hc3, hc4, hc5, hc6, hc7, hc8, hc9, hc10, hc11, hc12⟩ := hSw; go_simp; try (with_reducible rfl)
  case rest12 =>
  try simp only [Act.put, List.setIfInBounds_toArray, List.set_cons_zero, List.set_cons_succ]
  refine headH_one (i := 6) (by kernel_rfl) rfl (fun K hK => ?_)
  go_simp
  refine (HK.out _ BC.out).mono ?_
  rintro e x2 ⟨A2, d2, B2, c2, rfl, hs2, hx2, ht2, hc2, hm2, hb⟩
  replace BC := Lib.hid (chain BC.out hb)
  replace BD := Lib.hid (chain BD.out hb)
  have HS2 := Lib.hid hs2
  have HX2 := Lib.hid hx2
  have HT2 := Lib.hid ht2
  have HC2 := Lib.hid (And.intro hc2 hm2)
  clear hb hs2 hx2 ht2 hc2 hm2 r0 r1 r2 r3 r4 r5 v0 v1 v2 v3 v4 v5 v6
  obtain ⟨r0, r1, r2, r3, r4, r5⟩ := (P0.out.keep BD.out).sixO
  obtain ⟨v0, v1, v2, v3, v4, v5, v6⟩ := (P1.out.keep BD.out).sevenO
  have R2 := Lib.hid (P2.out.keep BD.out)
  have R3 := Lib.hid (P3.out.keep BD.out)
  obtain ⟨s0, s1, s2, s3, s4, s5⟩ := R2.out.sixO
  obtain ⟨t0, t1, t2⟩ := R3.out.threeO
  have f0 := R2.out.free 0
  have f1 := R2.out.free 1
  have f2 := R2.out.free 2
  have f3 := R2.out.free 3
  have f4 := R2.out.free 4
  have f5 := R2.out.free 5
  have g0 := R3.out.free 0
  have g1 := R3.out.free 1
  have g2 := R3.out.free 2
  refine hK.out _ _ (show (fun (w' : World) => w'.cell? ⟨w.heap.size, 0, none⟩ = some (.int .u64 (o.1 : Nat)) ∧ w'.cell? ⟨w.heap.size, 1, none⟩ = some (.int .i64 o.2.1.1) ∧ w'.cell? ⟨w.heap.size, 2, none⟩ = some (.int .i64 o.2.1.2.1) ∧ w'.cell? ⟨w.heap.size, 3, none⟩ = some (.int .i64 o.2.1.2.2.1) ∧ w'.cell? ⟨w.heap.size, 4, none⟩ = some (.slice A o.2.1.2.2.2.length d) ∧ w'.cell? ⟨w.heap.size, 5, none⟩ = some (.int .i64 o.2.2) ∧ w'.cell? ⟨w.heap.size + 1, 0, none⟩ = some (.int .i64 1) ∧ w'.cell? ⟨w.heap.size + 1, 1, none⟩ = some (.int .u64 (ct.1 : Nat)) ∧ w'.cell? ⟨w.heap.size + 1, 2, none⟩ = some (.int .i64 ct.2.1) ∧ w'.cell? ⟨w.heap.size + 1, 3, none⟩ = some (.int .i64 ct.2.2.1) ∧ w'.cell? ⟨w.heap.size + 1, 4, none⟩ = some (.int .i64 ct.2.2.2.1) ∧ w'.cell? ⟨w.heap.size + 1, 5, none⟩ = some (.int .u64 (ct.2.2.2.2.1 : Nat)) ∧ w'.cell? ⟨w.heap.size + 1, 6, none⟩ = some (.string ct.2.2.2.2.2)) x2 from ⟨r0, r1, r2, r3, r4, r5, v0, v1, v2, v3, v4, v5, v6⟩) (fun hS => ?_)
  clear hK K
  refine headH_take (i := 7) (v := ?_) rfl (by kernel_rfl) (fun _ _ _ h => h) (fun _ _ _ h => seqB_ready h.1) (Or.inl ⟨by rfl, ?hy13⟩) hS ?rest13
  case hy13 => intro w hSw; (try dsimp only at hSw); obtain ⟨hc0, hc1, hc2, hc3, hc4, hc5, hc6, hc7, hc8, hc9, hc10, hc11, hc12⟩ := hSw; go_simp; try (with_reducible rfl)
  case rest13 =>
  try simp only [Act.put, List.setIfInBounds_toArray, List.set_cons_zero, List.set_cons_succ]
  refine headH_take (i := 8) (v := ?_) rfl (by kernel_rfl) (fun _ _ _ h => h) (fun _ _ _ h => seqB_ready h.1) (Or.inl ⟨by rfl, ?hy14⟩) hS ?rest14
  case hy14 => intro w hSw; (try dsimp only at hSw); obtain ⟨hc0, hc1, hc2, hc3, hc4, hc5, hc6, hc7, hc8, hc9, hc10, hc11, hc12⟩ := hSw; go_simp; try (with_reducible rfl)
  case rest14 =>
  try simp only [Act.put, List.setIfInBounds_toArray, List.set_cons_zero, List.set_cons_succ]
  refine ⟨by kernel_rfl, ?_⟩
  go_wp2_with fail
  refine close_two Tryz.results9 rfl rfl rfl (R2.out.put6o.far3o (by omega) _ _ _) ((R3.out.far6o (g' := w.heap.size + 1 + 1) (by omega) _ _ _ _ _ _).put3o) Tryz.underlying27 Tryz.underlying36 rfl rfl (by kernel_rfl) (by kernel_rfl) ?_
  exact ⟨A2, d2, B2, c2, rfl, HS2.out, Syms.far9 HX2.out (Syms.neO HX2.out R2.out oz_no) (Syms.neO HX2.out R3.out rz_no) _ _ _ _ _ _ _ _ _, HT2.out.far9 (HT2.out.neO R2.out oz_no) (HT2.out.neO R3.out rz_no) _ _ _ _ _ _ _ _ _, HC2.out.1, HC2.out.2, below_set3o (below_set6o BC.out (show w.heap.size ≤ w.heap.size + 1 + 1 by omega) _ _ _ _ _ _) (show w.heap.size ≤ w.heap.size + 1 + 1 + 1 by omega) _ _ _⟩
set_option maxHeartbeats 8000000 in
theorem do_kind2 (o : ObR) (A : Option Addr) (d : Nat) (ct : Nat × Int × Int × Int × Nat × ByteArray) (w : World) (hs : SliceOk A o.2.1.2.2.2.length d) (hx : Syms w A o.2.1.2.2.2.length o.2.1.2.2.2) (hr : rightO o = true) (hi : Ids o.2.1.2.2.2) (hci : ct.2.2.2.2.1 < 18446744073709551616) (hc : ¬ o.2.2 = 1) :
    Calls Tryz.prog 9 #[.agg (obA o A d), callV (2, ct)] w (DoOut (kindO o (2, ct)).1 (kindO o (2, ct)).2 w) := by
  have HR := Lib.hid (fun wy (hw : Below w.heap.size w wy) => oright_any (.agg (obA o A d)) o wy ⟨A, d, rfl, hs, Recs.below hx hw⟩)
  have HK := Lib.hid (fun wy (hw : Below w.heap.size w wy) => kind2 o A d (2, ct) wy hr hs (Recs.below hx hw) hi hci rfl)
  obtain ⟨ro, hro⟩ : ∃ x, x = kindO o (2, ct) := ⟨_, rfl⟩
  rw [← hro] at HK ⊢
  obtain ⟨q0, q1, q2, q3, b5⟩ := A4_gen 27 (obA o A d) (callL (2, ct)).toArray oZ rZ w
  have Q0 := Lib.hid q0
  have Q1 := Lib.hid q1
  have Q2 := Lib.hid q2
  have Q3 := Lib.hid q3
  have HB := Lib.hid b5
  obtain ⟨r0, r1, r2, r3, r4, r5⟩ := Q0.out.sixO
  obtain ⟨v0, v1, v2, v3, v4, v5, v6⟩ := Q1.out.sevenO
  clear q0 q1 q2 q3 b5
  rw [hr] at HR
  have ix : ∀ w : World, (Instr.index 71 (.agg #[.func (.func 51) #[] #[], .func (.func 52) #[] #[], .func (.func 53) #[] #[], .func (.func 54) #[] #[], .func (.func 55) #[] #[]]) (.int .i64 2)).run Tryz.prog w = .ok (.func (.func 53) #[] #[]) w := fun _ => by kernel_rfl
  have eg : ∀ args w, (callFunc 53 args).run Tryz.prog w = .ok (.enter 53 args) w := enters_of Tryz.func53 (by kernel_rfl) rfl
  have tc : (o.2.2 == 1) = false := by simpa using hc
  clear hc
  clear hro hs hx hi hr
  have HRw := Lib.hid (HR.out _ HB.out)
  go_enter Tryz.func9, Tryz.ntmps9
  go_wp2_with fail
  refine HRw.out.mono ?_
  rintro e w2 ⟨rfl, hb⟩
  have P0 := Lib.hid (Q0.out.keep hb)
  have P1 := Lib.hid (Q1.out.keep hb)
  have P2 := Lib.hid (Q2.out.keep hb)
  have P3 := Lib.hid (Q3.out.keep hb)
  have HB2 := Lib.hid (chain HB.out hb)
  clear hb HRw r0 r1 r2 r3 r4 r5 v0 v1 v2 v3 v4 v5 v6
  obtain ⟨r0, r1, r2, r3, r4, r5⟩ := P0.out.sixO
  obtain ⟨v0, v1, v2, v3, v4, v5, v6⟩ := P1.out.sevenO
  go_upto_region 5 with (fail)
  have BC := Lib.hid HB2.out.drew
  have BD := Lib.hid (Below.refl w2.heap.size w2).drew
  refine wp_held_tail (S := (fun (w' : World) => w'.cell? ⟨w.heap.size, 0, none⟩ = some (.int .u64 (o.1 : Nat)) ∧ w'.cell? ⟨w.heap.size, 1, none⟩ = some (.int .i64 o.2.1.1) ∧ w'.cell? ⟨w.heap.size, 2, none⟩ = some (.int .i64 o.2.1.2.1) ∧ w'.cell? ⟨w.heap.size, 3, none⟩ = some (.int .i64 o.2.1.2.2.1) ∧ w'.cell? ⟨w.heap.size, 4, none⟩ = some (.slice A o.2.1.2.2.2.length d) ∧ w'.cell? ⟨w.heap.size, 5, none⟩ = some (.int .i64 o.2.2) ∧ w'.cell? ⟨w.heap.size + 1, 0, none⟩ = some (.int .i64 2) ∧ w'.cell? ⟨w.heap.size + 1, 1, none⟩ = some (.int .u64 (ct.1 : Nat)) ∧ w'.cell? ⟨w.heap.size + 1, 2, none⟩ = some (.int .i64 ct.2.1) ∧ w'.cell? ⟨w.heap.size + 1, 3, none⟩ = some (.int .i64 ct.2.2.1) ∧ w'.cell? ⟨w.heap.size + 1, 4, none⟩ = some (.int .i64 ct.2.2.2.1) ∧ w'.cell? ⟨w.heap.size + 1, 5, none⟩ = some (.int .u64 (ct.2.2.2.2.1 : Nat)) ∧ w'.cell? ⟨w.heap.size + 1, 6, none⟩ = some (.string ct.2.2.2.2.2))) 9 (by kernel_rfl) (by decide) ?_
  have hS := Lib.hid (show (fun (w' : World) => w'.cell? ⟨w.heap.size, 0, none⟩ = some (.int .u64 (o.1 : Nat)) ∧ w'.cell? ⟨w.heap.size, 1, none⟩ = some (.int .i64 o.2.1.1) ∧ w'.cell? ⟨w.heap.size, 2, none⟩ = some (.int .i64 o.2.1.2.1) ∧ w'.cell? ⟨w.heap.size, 3, none⟩ = some (.int .i64 o.2.1.2.2.1) ∧ w'.cell? ⟨w.heap.size, 4, none⟩ = some (.slice A o.2.1.2.2.2.length d) ∧ w'.cell? ⟨w.heap.size, 5, none⟩ = some (.int .i64 o.2.2) ∧ w'.cell? ⟨w.heap.size + 1, 0, none⟩ = some (.int .i64 2) ∧ w'.cell? ⟨w.heap.size + 1, 1, none⟩ = some (.int .u64 (ct.1 : Nat)) ∧ w'.cell? ⟨w.heap.size + 1, 2, none⟩ = some (.int .i64 ct.2.1) ∧ w'.cell? ⟨w.heap.size + 1, 3, none⟩ = some (.int .i64 ct.2.2.1) ∧ w'.cell? ⟨w.heap.size + 1, 4, none⟩ = some (.int .i64 ct.2.2.2.1) ∧ w'.cell? ⟨w.heap.size + 1, 5, none⟩ = some (.int .u64 (ct.2.2.2.2.1 : Nat)) ∧ w'.cell? ⟨w.heap.size + 1, 6, none⟩ = some (.string ct.2.2.2.2.2)) w2.drew from ⟨r0, r1, r2, r3, r4, r5, v0, v1, v2, v3, v4, v5, v6⟩)
  replace hS := hS.out
  refine headH_take (i := 1) (v := ?_) rfl (by kernel_rfl) (fun _ _ _ h => h) (fun _ _ _ h => seqB_ready h.1) (Or.inl ⟨by rfl, ?hy15⟩) hS ?rest15
  case hy15 => intro w hSw; (try dsimp only at hSw); obtain ⟨hc0, hc1, hc2, hc3, hc4, hc5, hc6, hc7, hc8, hc9, hc10, hc11, hc12⟩ := hSw; go_simp; try (with_reducible rfl)
  case rest15 =>
  try simp only [Act.put, List.setIfInBounds_toArray, List.set_cons_zero, List.set_cons_succ]
  refine headH_take (i := 2) (v := ?_) rfl (by kernel_rfl) (fun _ _ _ h => h) (fun _ _ _ h => seqB_ready h.1) (Or.inl ⟨by rfl, ?hy16⟩) hS ?rest16
  case hy16 => intro w hSw; (try dsimp only at hSw); obtain ⟨hc0, hc1, hc2, hc3, hc4, hc5, hc6, hc7, hc8, hc9, hc10, hc11, hc12⟩ := hSw; go_simp; try (with_reducible rfl)
  case rest16 =>
  try simp only [Act.put, List.setIfInBounds_toArray, List.set_cons_zero, List.set_cons_succ]
  refine headH_take (i := 4) (v := ?_) rfl (by kernel_rfl) (fun _ _ _ h => h) (fun _ _ _ h => seqB_ready h.1) (Or.inl ⟨by rfl, ?hy17⟩) hS ?rest17
  case hy17 => intro w hSw; (try dsimp only at hSw); obtain ⟨hc0, hc1, hc2, hc3, hc4, hc5, hc6, hc7, hc8, hc9, hc10, hc11, hc12⟩ := hSw; go_simp; try (with_reducible rfl)
  case rest17 =>
  try simp only [Act.put, List.setIfInBounds_toArray, List.set_cons_zero, List.set_cons_succ]
  refine headH_take (i := 5) (v := ?_) rfl (by kernel_rfl) (fun _ _ _ h => h) (fun _ _ _ h => seqB_ready h.1) (Or.inl ⟨by rfl, ?hy18⟩) hS ?rest18
  case hy18 => intro w hSw; (try dsimp only at hSw); obtain ⟨hc0, hc1, hc2, hc3, hc4, hc5, hc6, hc7, hc8, hc9, hc10, hc11, hc12⟩ := hSw; go_simp; try (with_reducible rfl)
  case rest18 =>
  try simp only [Act.put, List.setIfInBounds_toArray, List.set_cons_zero, List.set_cons_succ]
  refine headH_one (i := 0) (by kernel_rfl) rfl (fun K hK => ?_)
  go_simp
  refine (byKind_any _).mono ?_
  rintro e x1 ⟨rfl, hb⟩
  replace BC := Lib.hid (chain BC.out hb)
  replace BD := Lib.hid (chain BD.out hb)
  clear hb r0 r1 r2 r3 r4 r5 v0 v1 v2 v3 v4 v5 v6
  obtain ⟨r0, r1, r2, r3, r4, r5⟩ := (P0.out.keep BD.out).sixO
  obtain ⟨v0, v1, v2, v3, v4, v5, v6⟩ := (P1.out.keep BD.out).sevenO
  refine hK.out _ _ (show (fun (w' : World) => w'.cell? ⟨w.heap.size, 0, none⟩ = some (.int .u64 (o.1 : Nat)) ∧ w'.cell? ⟨w.heap.size, 1, none⟩ = some (.int .i64 o.2.1.1) ∧ w'.cell? ⟨w.heap.size, 2, none⟩ = some (.int .i64 o.2.1.2.1) ∧ w'.cell? ⟨w.heap.size, 3, none⟩ = some (.int .i64 o.2.1.2.2.1) ∧ w'.cell? ⟨w.heap.size, 4, none⟩ = some (.slice A o.2.1.2.2.2.length d) ∧ w'.cell? ⟨w.heap.size, 5, none⟩ = some (.int .i64 o.2.2) ∧ w'.cell? ⟨w.heap.size + 1, 0, none⟩ = some (.int .i64 2) ∧ w'.cell? ⟨w.heap.size + 1, 1, none⟩ = some (.int .u64 (ct.1 : Nat)) ∧ w'.cell? ⟨w.heap.size + 1, 2, none⟩ = some (.int .i64 ct.2.1) ∧ w'.cell? ⟨w.heap.size + 1, 3, none⟩ = some (.int .i64 ct.2.2.1) ∧ w'.cell? ⟨w.heap.size + 1, 4, none⟩ = some (.int .i64 ct.2.2.2.1) ∧ w'.cell? ⟨w.heap.size + 1, 5, none⟩ = some (.int .u64 (ct.2.2.2.2.1 : Nat)) ∧ w'.cell? ⟨w.heap.size + 1, 6, none⟩ = some (.string ct.2.2.2.2.2)) x1 from ⟨r0, r1, r2, r3, r4, r5, v0, v1, v2, v3, v4, v5, v6⟩) (fun hS => ?_)
  clear hK K
  refine headH_take (i := 3) (v := ?_) rfl (by kernel_rfl) (fun _ _ _ h => h) (fun _ _ _ h => seqB_ready h.1) (Or.inl ⟨by rfl, ?hy19⟩) hS ?rest19
  case hy19 => intro w hSw; (try dsimp only at hSw); obtain ⟨hc0, hc1, hc2, hc3, hc4, hc5, hc6, hc7, hc8, hc9, hc10, hc11, hc12⟩ := hSw; go_simp; try (with_reducible rfl)
  case rest19 =>
  try simp only [Act.put, List.setIfInBounds_toArray, List.set_cons_zero, List.set_cons_succ]
  refine headH_one (i := 6) (by kernel_rfl) rfl (fun K hK => ?_)
  go_simp
  refine (HK.out _ BC.out).mono ?_
  rintro e x2 ⟨A2, d2, B2, c2, rfl, hs2, hx2, ht2, hc2, hm2, hb⟩
  replace BC := Lib.hid (chain BC.out hb)
  replace BD := Lib.hid (chain BD.out hb)
  have HS2 := Lib.hid hs2
  have HX2 := Lib.hid hx2
  have HT2 := Lib.hid ht2
  have HC2 := Lib.hid (And.intro hc2 hm2)
  clear hb hs2 hx2 ht2 hc2 hm2 r0 r1 r2 r3 r4 r5 v0 v1 v2 v3 v4 v5 v6
  obtain ⟨r0, r1, r2, r3, r4, r5⟩ := (P0.out.keep BD.out).sixO
  obtain ⟨v0, v1, v2, v3, v4, v5, v6⟩ := (P1.out.keep BD.out).sevenO
  have R2 := Lib.hid (P2.out.keep BD.out)
  have R3 := Lib.hid (P3.out.keep BD.out)
  obtain ⟨s0, s1, s2, s3, s4, s5⟩ := R2.out.sixO
  obtain ⟨t0, t1, t2⟩ := R3.out.threeO
  have f0 := R2.out.free 0
  have f1 := R2.out.free 1
  have f2 := R2.out.free 2
  have f3 := R2.out.free 3
  have f4 := R2.out.free 4
  have f5 := R2.out.free 5
  have g0 := R3.out.free 0
  have g1 := R3.out.free 1
  have g2 := R3.out.free 2
  refine hK.out _ _ (show (fun (w' : World) => w'.cell? ⟨w.heap.size, 0, none⟩ = some (.int .u64 (o.1 : Nat)) ∧ w'.cell? ⟨w.heap.size, 1, none⟩ = some (.int .i64 o.2.1.1) ∧ w'.cell? ⟨w.heap.size, 2, none⟩ = some (.int .i64 o.2.1.2.1) ∧ w'.cell? ⟨w.heap.size, 3, none⟩ = some (.int .i64 o.2.1.2.2.1) ∧ w'.cell? ⟨w.heap.size, 4, none⟩ = some (.slice A o.2.1.2.2.2.length d) ∧ w'.cell? ⟨w.heap.size, 5, none⟩ = some (.int .i64 o.2.2) ∧ w'.cell? ⟨w.heap.size + 1, 0, none⟩ = some (.int .i64 2) ∧ w'.cell? ⟨w.heap.size + 1, 1, none⟩ = some (.int .u64 (ct.1 : Nat)) ∧ w'.cell? ⟨w.heap.size + 1, 2, none⟩ = some (.int .i64 ct.2.1) ∧ w'.cell? ⟨w.heap.size + 1, 3, none⟩ = some (.int .i64 ct.2.2.1) ∧ w'.cell? ⟨w.heap.size + 1, 4, none⟩ = some (.int .i64 ct.2.2.2.1) ∧ w'.cell? ⟨w.heap.size + 1, 5, none⟩ = some (.int .u64 (ct.2.2.2.2.1 : Nat)) ∧ w'.cell? ⟨w.heap.size + 1, 6, none⟩ = some (.string ct.2.2.2.2.2)) x2 from ⟨r0, r1, r2, r3, r4, r5, v0, v1, v2, v3, v4, v5, v6⟩) (fun hS => ?_)
  clear hK K
  refine headH_take (i := 7) (v := ?_) rfl (by kernel_rfl) (fun _ _ _ h => h) (fun _ _ _ h => seqB_ready h.1) (Or.inl ⟨by rfl, ?hy20⟩) hS ?rest20
  case hy20 => intro w hSw; (try dsimp only at hSw); obtain ⟨hc0, hc1, hc2, hc3, hc4, hc5, hc6, hc7, hc8, hc9, hc10, hc11, hc12⟩ := hSw; go_simp; try (with_reducible rfl)
  case rest20 =>
  try simp only [Act.put, List.setIfInBounds_toArray, List.set_cons_zero, List.set_cons_succ]
  refine headH_take (i := 8) (v := ?_) rfl (by kernel_rfl) (fun _ _ _ h => h) (fun _ _ _ h => seqB_ready h.1) (Or.inl ⟨by rfl, ?hy21⟩) hS ?rest21
  case hy21 => intro w hSw; (try dsimp only at hSw); obtain ⟨hc0, hc1, hc2, hc3, hc4, hc5, hc6, hc7, hc8, hc9, hc10, hc11, hc12⟩ := hSw; go_simp; try (with_reducible rfl)
  case rest21 =>
  try simp only [Act.put, List.setIfInBounds_toArray, List.set_cons_zero, List.set_cons_succ]
  refine ⟨by kernel_rfl, ?_⟩
  go_wp2_with fail
  refine close_two Tryz.results9 rfl rfl rfl (R2.out.put6o.far3o (by omega) _ _ _) ((R3.out.far6o (g' := w.heap.size + 1 + 1) (by omega) _ _ _ _ _ _).put3o) Tryz.underlying27 Tryz.underlying36 rfl rfl (by kernel_rfl) (by kernel_rfl) ?_
  exact ⟨A2, d2, B2, c2, rfl, HS2.out, Syms.far9 HX2.out (Syms.neO HX2.out R2.out oz_no) (Syms.neO HX2.out R3.out rz_no) _ _ _ _ _ _ _ _ _, HT2.out.far9 (HT2.out.neO R2.out oz_no) (HT2.out.neO R3.out rz_no) _ _ _ _ _ _ _ _ _, HC2.out.1, HC2.out.2, below_set3o (below_set6o BC.out (show w.heap.size ≤ w.heap.size + 1 + 1 by omega) _ _ _ _ _ _) (show w.heap.size ≤ w.heap.size + 1 + 1 + 1 by omega) _ _ _⟩
set_option maxHeartbeats 8000000 in
theorem do_kind3 (o : ObR) (A : Option Addr) (d : Nat) (ct : Nat × Int × Int × Int × Nat × ByteArray) (w : World) (hs : SliceOk A o.2.1.2.2.2.length d) (hx : Syms w A o.2.1.2.2.2.length o.2.1.2.2.2) (hr : rightO o = true) (hi : Ids o.2.1.2.2.2) (hci : ct.2.2.2.2.1 < 18446744073709551616) (hc : ¬ o.2.2 = 1) :
    Calls Tryz.prog 9 #[.agg (obA o A d), callV (3, ct)] w (DoOut (kindO o (3, ct)).1 (kindO o (3, ct)).2 w) := by
  have HR := Lib.hid (fun wy (hw : Below w.heap.size w wy) => oright_any (.agg (obA o A d)) o wy ⟨A, d, rfl, hs, Recs.below hx hw⟩)
  have HK := Lib.hid (fun wy (hw : Below w.heap.size w wy) => kind3 o A d (3, ct) wy hr hs (Recs.below hx hw) hi hci rfl)
  obtain ⟨ro, hro⟩ : ∃ x, x = kindO o (3, ct) := ⟨_, rfl⟩
  rw [← hro] at HK ⊢
  obtain ⟨q0, q1, q2, q3, b5⟩ := A4_gen 27 (obA o A d) (callL (3, ct)).toArray oZ rZ w
  have Q0 := Lib.hid q0
  have Q1 := Lib.hid q1
  have Q2 := Lib.hid q2
  have Q3 := Lib.hid q3
  have HB := Lib.hid b5
  obtain ⟨r0, r1, r2, r3, r4, r5⟩ := Q0.out.sixO
  obtain ⟨v0, v1, v2, v3, v4, v5, v6⟩ := Q1.out.sevenO
  clear q0 q1 q2 q3 b5
  rw [hr] at HR
  have ix : ∀ w : World, (Instr.index 71 (.agg #[.func (.func 51) #[] #[], .func (.func 52) #[] #[], .func (.func 53) #[] #[], .func (.func 54) #[] #[], .func (.func 55) #[] #[]]) (.int .i64 3)).run Tryz.prog w = .ok (.func (.func 54) #[] #[]) w := fun _ => by kernel_rfl
  have eg : ∀ args w, (callFunc 54 args).run Tryz.prog w = .ok (.enter 54 args) w := enters_of Tryz.func54 (by kernel_rfl) rfl
  have tc : (o.2.2 == 1) = false := by simpa using hc
  clear hc
  clear hro hs hx hi hr
  have HRw := Lib.hid (HR.out _ HB.out)
  go_enter Tryz.func9, Tryz.ntmps9
  go_wp2_with fail
  refine HRw.out.mono ?_
  rintro e w2 ⟨rfl, hb⟩
  have P0 := Lib.hid (Q0.out.keep hb)
  have P1 := Lib.hid (Q1.out.keep hb)
  have P2 := Lib.hid (Q2.out.keep hb)
  have P3 := Lib.hid (Q3.out.keep hb)
  have HB2 := Lib.hid (chain HB.out hb)
  clear hb HRw r0 r1 r2 r3 r4 r5 v0 v1 v2 v3 v4 v5 v6
  obtain ⟨r0, r1, r2, r3, r4, r5⟩ := P0.out.sixO
  obtain ⟨v0, v1, v2, v3, v4, v5, v6⟩ := P1.out.sevenO
  go_upto_region 5 with (fail)
  have BC := Lib.hid HB2.out.drew
  have BD := Lib.hid (Below.refl w2.heap.size w2).drew
  refine wp_held_tail (S := (fun (w' : World) => w'.cell? ⟨w.heap.size, 0, none⟩ = some (.int .u64 (o.1 : Nat)) ∧ w'.cell? ⟨w.heap.size, 1, none⟩ = some (.int .i64 o.2.1.1) ∧ w'.cell? ⟨w.heap.size, 2, none⟩ = some (.int .i64 o.2.1.2.1) ∧ w'.cell? ⟨w.heap.size, 3, none⟩ = some (.int .i64 o.2.1.2.2.1) ∧ w'.cell? ⟨w.heap.size, 4, none⟩ = some (.slice A o.2.1.2.2.2.length d) ∧ w'.cell? ⟨w.heap.size, 5, none⟩ = some (.int .i64 o.2.2) ∧ w'.cell? ⟨w.heap.size + 1, 0, none⟩ = some (.int .i64 3) ∧ w'.cell? ⟨w.heap.size + 1, 1, none⟩ = some (.int .u64 (ct.1 : Nat)) ∧ w'.cell? ⟨w.heap.size + 1, 2, none⟩ = some (.int .i64 ct.2.1) ∧ w'.cell? ⟨w.heap.size + 1, 3, none⟩ = some (.int .i64 ct.2.2.1) ∧ w'.cell? ⟨w.heap.size + 1, 4, none⟩ = some (.int .i64 ct.2.2.2.1) ∧ w'.cell? ⟨w.heap.size + 1, 5, none⟩ = some (.int .u64 (ct.2.2.2.2.1 : Nat)) ∧ w'.cell? ⟨w.heap.size + 1, 6, none⟩ = some (.string ct.2.2.2.2.2))) 9 (by kernel_rfl) (by decide) ?_
  have hS := Lib.hid (show (fun (w' : World) => w'.cell? ⟨w.heap.size, 0, none⟩ = some (.int .u64 (o.1 : Nat)) ∧ w'.cell? ⟨w.heap.size, 1, none⟩ = some (.int .i64 o.2.1.1) ∧ w'.cell? ⟨w.heap.size, 2, none⟩ = some (.int .i64 o.2.1.2.1) ∧ w'.cell? ⟨w.heap.size, 3, none⟩ = some (.int .i64 o.2.1.2.2.1) ∧ w'.cell? ⟨w.heap.size, 4, none⟩ = some (.slice A o.2.1.2.2.2.length d) ∧ w'.cell? ⟨w.heap.size, 5, none⟩ = some (.int .i64 o.2.2) ∧ w'.cell? ⟨w.heap.size + 1, 0, none⟩ = some (.int .i64 3) ∧ w'.cell? ⟨w.heap.size + 1, 1, none⟩ = some (.int .u64 (ct.1 : Nat)) ∧ w'.cell? ⟨w.heap.size + 1, 2, none⟩ = some (.int .i64 ct.2.1) ∧ w'.cell? ⟨w.heap.size + 1, 3, none⟩ = some (.int .i64 ct.2.2.1) ∧ w'.cell? ⟨w.heap.size + 1, 4, none⟩ = some (.int .i64 ct.2.2.2.1) ∧ w'.cell? ⟨w.heap.size + 1, 5, none⟩ = some (.int .u64 (ct.2.2.2.2.1 : Nat)) ∧ w'.cell? ⟨w.heap.size + 1, 6, none⟩ = some (.string ct.2.2.2.2.2)) w2.drew from ⟨r0, r1, r2, r3, r4, r5, v0, v1, v2, v3, v4, v5, v6⟩)
  replace hS := hS.out
  refine headH_take (i := 1) (v := ?_) rfl (by kernel_rfl) (fun _ _ _ h => h) (fun _ _ _ h => seqB_ready h.1) (Or.inl ⟨by rfl, ?hy22⟩) hS ?rest22
  case hy22 => intro w hSw; (try dsimp only at hSw); obtain ⟨hc0, hc1, hc2, hc3, hc4, hc5, hc6, hc7, hc8, hc9, hc10, hc11, hc12⟩ := hSw; go_simp; try (with_reducible rfl)
  case rest22 =>
  try simp only [Act.put, List.setIfInBounds_toArray, List.set_cons_zero, List.set_cons_succ]
  refine headH_take (i := 2) (v := ?_) rfl (by kernel_rfl) (fun _ _ _ h => h) (fun _ _ _ h => seqB_ready h.1) (Or.inl ⟨by rfl, ?hy23⟩) hS ?rest23
  case hy23 => intro w hSw; (try dsimp only at hSw); obtain ⟨hc0, hc1, hc2, hc3, hc4, hc5, hc6, hc7, hc8, hc9, hc10, hc11, hc12⟩ := hSw; go_simp; try (with_reducible rfl)
  case rest23 =>
  try simp only [Act.put, List.setIfInBounds_toArray, List.set_cons_zero, List.set_cons_succ]
  refine headH_take (i := 4) (v := ?_) rfl (by kernel_rfl) (fun _ _ _ h => h) (fun _ _ _ h => seqB_ready h.1) (Or.inl ⟨by rfl, ?hy24⟩) hS ?rest24
  case hy24 => intro w hSw; (try dsimp only at hSw); obtain ⟨hc0, hc1, hc2, hc3, hc4, hc5, hc6, hc7, hc8, hc9, hc10, hc11, hc12⟩ := hSw; go_simp; try (with_reducible rfl)
  case rest24 =>
  try simp only [Act.put, List.setIfInBounds_toArray, List.set_cons_zero, List.set_cons_succ]
  refine headH_take (i := 5) (v := ?_) rfl (by kernel_rfl) (fun _ _ _ h => h) (fun _ _ _ h => seqB_ready h.1) (Or.inl ⟨by rfl, ?hy25⟩) hS ?rest25
  case hy25 => intro w hSw; (try dsimp only at hSw); obtain ⟨hc0, hc1, hc2, hc3, hc4, hc5, hc6, hc7, hc8, hc9, hc10, hc11, hc12⟩ := hSw; go_simp; try (with_reducible rfl)
  case rest25 =>
  try simp only [Act.put, List.setIfInBounds_toArray, List.set_cons_zero, List.set_cons_succ]
  refine headH_one (i := 0) (by kernel_rfl) rfl (fun K hK => ?_)
  go_simp
  refine (byKind_any _).mono ?_
  rintro e x1 ⟨rfl, hb⟩
  replace BC := Lib.hid (chain BC.out hb)
  replace BD := Lib.hid (chain BD.out hb)
  clear hb r0 r1 r2 r3 r4 r5 v0 v1 v2 v3 v4 v5 v6
  obtain ⟨r0, r1, r2, r3, r4, r5⟩ := (P0.out.keep BD.out).sixO
  obtain ⟨v0, v1, v2, v3, v4, v5, v6⟩ := (P1.out.keep BD.out).sevenO
  refine hK.out _ _ (show (fun (w' : World) => w'.cell? ⟨w.heap.size, 0, none⟩ = some (.int .u64 (o.1 : Nat)) ∧ w'.cell? ⟨w.heap.size, 1, none⟩ = some (.int .i64 o.2.1.1) ∧ w'.cell? ⟨w.heap.size, 2, none⟩ = some (.int .i64 o.2.1.2.1) ∧ w'.cell? ⟨w.heap.size, 3, none⟩ = some (.int .i64 o.2.1.2.2.1) ∧ w'.cell? ⟨w.heap.size, 4, none⟩ = some (.slice A o.2.1.2.2.2.length d) ∧ w'.cell? ⟨w.heap.size, 5, none⟩ = some (.int .i64 o.2.2) ∧ w'.cell? ⟨w.heap.size + 1, 0, none⟩ = some (.int .i64 3) ∧ w'.cell? ⟨w.heap.size + 1, 1, none⟩ = some (.int .u64 (ct.1 : Nat)) ∧ w'.cell? ⟨w.heap.size + 1, 2, none⟩ = some (.int .i64 ct.2.1) ∧ w'.cell? ⟨w.heap.size + 1, 3, none⟩ = some (.int .i64 ct.2.2.1) ∧ w'.cell? ⟨w.heap.size + 1, 4, none⟩ = some (.int .i64 ct.2.2.2.1) ∧ w'.cell? ⟨w.heap.size + 1, 5, none⟩ = some (.int .u64 (ct.2.2.2.2.1 : Nat)) ∧ w'.cell? ⟨w.heap.size + 1, 6, none⟩ = some (.string ct.2.2.2.2.2)) x1 from ⟨r0, r1, r2, r3, r4, r5, v0, v1, v2, v3, v4, v5, v6⟩) (fun hS => ?_)
  clear hK K
  refine headH_take (i := 3) (v := ?_) rfl (by kernel_rfl) (fun _ _ _ h => h) (fun _ _ _ h => seqB_ready h.1) (Or.inl ⟨by rfl, ?hy26⟩) hS ?rest26
  case hy26 => intro w hSw; (try dsimp only at hSw); obtain ⟨hc0, hc1, hc2, hc3, hc4, hc5, hc6, hc7, hc8, hc9, hc10, hc11, hc12⟩ := hSw; go_simp; try (with_reducible rfl)
  case rest26 =>
  try simp only [Act.put, List.setIfInBounds_toArray, List.set_cons_zero, List.set_cons_succ]
  refine headH_one (i := 6) (by kernel_rfl) rfl (fun K hK => ?_)
  go_simp
  refine (HK.out _ BC.out).mono ?_
  rintro e x2 ⟨A2, d2, B2, c2, rfl, hs2, hx2, ht2, hc2, hm2, hb⟩
  replace BC := Lib.hid (chain BC.out hb)
  replace BD := Lib.hid (chain BD.out hb)
  have HS2 := Lib.hid hs2
  have HX2 := Lib.hid hx2
  have HT2 := Lib.hid ht2
  have HC2 := Lib.hid (And.intro hc2 hm2)
  clear hb hs2 hx2 ht2 hc2 hm2 r0 r1 r2 r3 r4 r5 v0 v1 v2 v3 v4 v5 v6
  obtain ⟨r0, r1, r2, r3, r4, r5⟩ := (P0.out.keep BD.out).sixO
  obtain ⟨v0, v1, v2, v3, v4, v5, v6⟩ := (P1.out.keep BD.out).sevenO
  have R2 := Lib.hid (P2.out.keep BD.out)
  have R3 := Lib.hid (P3.out.keep BD.out)
  obtain ⟨s0, s1, s2, s3, s4, s5⟩ := R2.out.sixO
  obtain ⟨t0, t1, t2⟩ := R3.out.threeO
  have f0 := R2.out.free 0
  have f1 := R2.out.free 1
  have f2 := R2.out.free 2
  have f3 := R2.out.free 3
  have f4 := R2.out.free 4
  have f5 := R2.out.free 5
  have g0 := R3.out.free 0
  have g1 := R3.out.free 1
  have g2 := R3.out.free 2
  refine hK.out _ _ (show (fun (w' : World) => w'.cell? ⟨w.heap.size, 0, none⟩ = some (.int .u64 (o.1 : Nat)) ∧ w'.cell? ⟨w.heap.size, 1, none⟩ = some (.int .i64 o.2.1.1) ∧ w'.cell? ⟨w.heap.size, 2, none⟩ = some (.int .i64 o.2.1.2.1) ∧ w'.cell? ⟨w.heap.size, 3, none⟩ = some (.int .i64 o.2.1.2.2.1) ∧ w'.cell? ⟨w.heap.size, 4, none⟩ = some (.slice A o.2.1.2.2.2.length d) ∧ w'.cell? ⟨w.heap.size, 5, none⟩ = some (.int .i64 o.2.2) ∧ w'.cell? ⟨w.heap.size + 1, 0, none⟩ = some (.int .i64 3) ∧ w'.cell? ⟨w.heap.size + 1, 1, none⟩ = some (.int .u64 (ct.1 : Nat)) ∧ w'.cell? ⟨w.heap.size + 1, 2, none⟩ = some (.int .i64 ct.2.1) ∧ w'.cell? ⟨w.heap.size + 1, 3, none⟩ = some (.int .i64 ct.2.2.1) ∧ w'.cell? ⟨w.heap.size + 1, 4, none⟩ = some (.int .i64 ct.2.2.2.1) ∧ w'.cell? ⟨w.heap.size + 1, 5, none⟩ = some (.int .u64 (ct.2.2.2.2.1 : Nat)) ∧ w'.cell? ⟨w.heap.size + 1, 6, none⟩ = some (.string ct.2.2.2.2.2)) x2 from ⟨r0, r1, r2, r3, r4, r5, v0, v1, v2, v3, v4, v5, v6⟩) (fun hS => ?_)
  clear hK K
  refine headH_take (i := 7) (v := ?_) rfl (by kernel_rfl) (fun _ _ _ h => h) (fun _ _ _ h => seqB_ready h.1) (Or.inl ⟨by rfl, ?hy27⟩) hS ?rest27
  case hy27 => intro w hSw; (try dsimp only at hSw); obtain ⟨hc0, hc1, hc2, hc3, hc4, hc5, hc6, hc7, hc8, hc9, hc10, hc11, hc12⟩ := hSw; go_simp; try (with_reducible rfl)
  case rest27 =>
  try simp only [Act.put, List.setIfInBounds_toArray, List.set_cons_zero, List.set_cons_succ]
  refine headH_take (i := 8) (v := ?_) rfl (by kernel_rfl) (fun _ _ _ h => h) (fun _ _ _ h => seqB_ready h.1) (Or.inl ⟨by rfl, ?hy28⟩) hS ?rest28
  case hy28 => intro w hSw; (try dsimp only at hSw); obtain ⟨hc0, hc1, hc2, hc3, hc4, hc5, hc6, hc7, hc8, hc9, hc10, hc11, hc12⟩ := hSw; go_simp; try (with_reducible rfl)
  case rest28 =>
  try simp only [Act.put, List.setIfInBounds_toArray, List.set_cons_zero, List.set_cons_succ]
  refine ⟨by kernel_rfl, ?_⟩
  go_wp2_with fail
  refine close_two Tryz.results9 rfl rfl rfl (R2.out.put6o.far3o (by omega) _ _ _) ((R3.out.far6o (g' := w.heap.size + 1 + 1) (by omega) _ _ _ _ _ _).put3o) Tryz.underlying27 Tryz.underlying36 rfl rfl (by kernel_rfl) (by kernel_rfl) ?_
  exact ⟨A2, d2, B2, c2, rfl, HS2.out, Syms.far9 HX2.out (Syms.neO HX2.out R2.out oz_no) (Syms.neO HX2.out R3.out rz_no) _ _ _ _ _ _ _ _ _, HT2.out.far9 (HT2.out.neO R2.out oz_no) (HT2.out.neO R3.out rz_no) _ _ _ _ _ _ _ _ _, HC2.out.1, HC2.out.2, below_set3o (below_set6o BC.out (show w.heap.size ≤ w.heap.size + 1 + 1 by omega) _ _ _ _ _ _) (show w.heap.size ≤ w.heap.size + 1 + 1 + 1 by omega) _ _ _⟩
set_option maxHeartbeats 8000000 in
theorem do_kind4 (o : ObR) (A : Option Addr) (d : Nat) (ct : Nat × Int × Int × Int × Nat × ByteArray) (w : World) (hs : SliceOk A o.2.1.2.2.2.length d) (hx : Syms w A o.2.1.2.2.2.length o.2.1.2.2.2) (hr : rightO o = true) (hi : Ids o.2.1.2.2.2) (hci : ct.2.2.2.2.1 < 18446744073709551616) (hc : ¬ o.2.2 = 1) :
    Calls Tryz.prog 9 #[.agg (obA o A d), callV (4, ct)] w (DoOut (kindO o (4, ct)).1 (kindO o (4, ct)).2 w) := by
  have HR := Lib.hid (fun wy (hw : Below w.heap.size w wy) => oright_any (.agg (obA o A d)) o wy ⟨A, d, rfl, hs, Recs.below hx hw⟩)
  have HK := Lib.hid (fun wy (hw : Below w.heap.size w wy) => kind4 o A d (4, ct) wy hr hs (Recs.below hx hw) hi hci rfl)
  obtain ⟨ro, hro⟩ : ∃ x, x = kindO o (4, ct) := ⟨_, rfl⟩
  rw [← hro] at HK ⊢
  obtain ⟨q0, q1, q2, q3, b5⟩ := A4_gen 27 (obA o A d) (callL (4, ct)).toArray oZ rZ w
  have Q0 := Lib.hid q0
  have Q1 := Lib.hid q1
  have Q2 := Lib.hid q2
  have Q3 := Lib.hid q3
  have HB := Lib.hid b5
  obtain ⟨r0, r1, r2, r3, r4, r5⟩ := Q0.out.sixO
  obtain ⟨v0, v1, v2, v3, v4, v5, v6⟩ := Q1.out.sevenO
  clear q0 q1 q2 q3 b5
  rw [hr] at HR
  have ix : ∀ w : World, (Instr.index 71 (.agg #[.func (.func 51) #[] #[], .func (.func 52) #[] #[], .func (.func 53) #[] #[], .func (.func 54) #[] #[], .func (.func 55) #[] #[]]) (.int .i64 4)).run Tryz.prog w = .ok (.func (.func 55) #[] #[]) w := fun _ => by kernel_rfl
  have eg : ∀ args w, (callFunc 55 args).run Tryz.prog w = .ok (.enter 55 args) w := enters_of Tryz.func55 (by kernel_rfl) rfl
  have tc : (o.2.2 == 1) = false := by simpa using hc
  clear hc
  clear hro hs hx hi hr
  have HRw := Lib.hid (HR.out _ HB.out)
  go_enter Tryz.func9, Tryz.ntmps9
  go_wp2_with fail
  refine HRw.out.mono ?_
  rintro e w2 ⟨rfl, hb⟩
  have P0 := Lib.hid (Q0.out.keep hb)
  have P1 := Lib.hid (Q1.out.keep hb)
  have P2 := Lib.hid (Q2.out.keep hb)
  have P3 := Lib.hid (Q3.out.keep hb)
  have HB2 := Lib.hid (chain HB.out hb)
  clear hb HRw r0 r1 r2 r3 r4 r5 v0 v1 v2 v3 v4 v5 v6
  obtain ⟨r0, r1, r2, r3, r4, r5⟩ := P0.out.sixO
  obtain ⟨v0, v1, v2, v3, v4, v5, v6⟩ := P1.out.sevenO
  go_upto_region 5 with (fail)
  have BC := Lib.hid HB2.out.drew
  have BD := Lib.hid (Below.refl w2.heap.size w2).drew
  refine wp_held_tail (S := (fun (w' : World) => w'.cell? ⟨w.heap.size, 0, none⟩ = some (.int .u64 (o.1 : Nat)) ∧ w'.cell? ⟨w.heap.size, 1, none⟩ = some (.int .i64 o.2.1.1) ∧ w'.cell? ⟨w.heap.size, 2, none⟩ = some (.int .i64 o.2.1.2.1) ∧ w'.cell? ⟨w.heap.size, 3, none⟩ = some (.int .i64 o.2.1.2.2.1) ∧ w'.cell? ⟨w.heap.size, 4, none⟩ = some (.slice A o.2.1.2.2.2.length d) ∧ w'.cell? ⟨w.heap.size, 5, none⟩ = some (.int .i64 o.2.2) ∧ w'.cell? ⟨w.heap.size + 1, 0, none⟩ = some (.int .i64 4) ∧ w'.cell? ⟨w.heap.size + 1, 1, none⟩ = some (.int .u64 (ct.1 : Nat)) ∧ w'.cell? ⟨w.heap.size + 1, 2, none⟩ = some (.int .i64 ct.2.1) ∧ w'.cell? ⟨w.heap.size + 1, 3, none⟩ = some (.int .i64 ct.2.2.1) ∧ w'.cell? ⟨w.heap.size + 1, 4, none⟩ = some (.int .i64 ct.2.2.2.1) ∧ w'.cell? ⟨w.heap.size + 1, 5, none⟩ = some (.int .u64 (ct.2.2.2.2.1 : Nat)) ∧ w'.cell? ⟨w.heap.size + 1, 6, none⟩ = some (.string ct.2.2.2.2.2))) 9 (by kernel_rfl) (by decide) ?_
  have hS := Lib.hid (show (fun (w' : World) => w'.cell? ⟨w.heap.size, 0, none⟩ = some (.int .u64 (o.1 : Nat)) ∧ w'.cell? ⟨w.heap.size, 1, none⟩ = some (.int .i64 o.2.1.1) ∧ w'.cell? ⟨w.heap.size, 2, none⟩ = some (.int .i64 o.2.1.2.1) ∧ w'.cell? ⟨w.heap.size, 3, none⟩ = some (.int .i64 o.2.1.2.2.1) ∧ w'.cell? ⟨w.heap.size, 4, none⟩ = some (.slice A o.2.1.2.2.2.length d) ∧ w'.cell? ⟨w.heap.size, 5, none⟩ = some (.int .i64 o.2.2) ∧ w'.cell? ⟨w.heap.size + 1, 0, none⟩ = some (.int .i64 4) ∧ w'.cell? ⟨w.heap.size + 1, 1, none⟩ = some (.int .u64 (ct.1 : Nat)) ∧ w'.cell? ⟨w.heap.size + 1, 2, none⟩ = some (.int .i64 ct.2.1) ∧ w'.cell? ⟨w.heap.size + 1, 3, none⟩ = some (.int .i64 ct.2.2.1) ∧ w'.cell? ⟨w.heap.size + 1, 4, none⟩ = some (.int .i64 ct.2.2.2.1) ∧ w'.cell? ⟨w.heap.size + 1, 5, none⟩ = some (.int .u64 (ct.2.2.2.2.1 : Nat)) ∧ w'.cell? ⟨w.heap.size + 1, 6, none⟩ = some (.string ct.2.2.2.2.2)) w2.drew from ⟨r0, r1, r2, r3, r4, r5, v0, v1, v2, v3, v4, v5, v6⟩)
  replace hS := hS.out
  refine headH_take (i := 1) (v := ?_) rfl (by kernel_rfl) (fun _ _ _ h => h) (fun _ _ _ h => seqB_ready h.1) (Or.inl ⟨by rfl, ?hy29⟩) hS ?rest29
  case hy29 => intro w hSw; (try dsimp only at hSw); obtain ⟨hc0, hc1, hc2, hc3, hc4, hc5, hc6, hc7, hc8, hc9, hc10, hc11, hc12⟩ := hSw; go_simp; try (with_reducible rfl)
  case rest29 =>
  try simp only [Act.put, List.setIfInBounds_toArray, List.set_cons_zero, List.set_cons_succ]
  refine headH_take (i := 2) (v := ?_) rfl (by kernel_rfl) (fun _ _ _ h => h) (fun _ _ _ h => seqB_ready h.1) (Or.inl ⟨by rfl, ?hy30⟩) hS ?rest30
  case hy30 => intro w hSw; (try dsimp only at hSw); obtain ⟨hc0, hc1, hc2, hc3, hc4, hc5, hc6, hc7, hc8, hc9, hc10, hc11, hc12⟩ := hSw; go_simp; try (with_reducible rfl)
  case rest30 =>
  try simp only [Act.put, List.setIfInBounds_toArray, List.set_cons_zero, List.set_cons_succ]
  refine headH_take (i := 4) (v := ?_) rfl (by kernel_rfl) (fun _ _ _ h => h) (fun _ _ _ h => seqB_ready h.1) (Or.inl ⟨by rfl, ?hy31⟩) hS ?rest31
  case hy31 => intro w hSw; (try dsimp only at hSw); obtain ⟨hc0, hc1, hc2, hc3, hc4, hc5, hc6, hc7, hc8, hc9, hc10, hc11, hc12⟩ := hSw; go_simp; try (with_reducible rfl)
  case rest31 =>
  try simp only [Act.put, List.setIfInBounds_toArray, List.set_cons_zero, List.set_cons_succ]
  refine headH_take (i := 5) (v := ?_) rfl (by kernel_rfl) (fun _ _ _ h => h) (fun _ _ _ h => seqB_ready h.1) (Or.inl ⟨by rfl, ?hy32⟩) hS ?rest32
  case hy32 => intro w hSw; (try dsimp only at hSw); obtain ⟨hc0, hc1, hc2, hc3, hc4, hc5, hc6, hc7, hc8, hc9, hc10, hc11, hc12⟩ := hSw; go_simp; try (with_reducible rfl)
  case rest32 =>
  try simp only [Act.put, List.setIfInBounds_toArray, List.set_cons_zero, List.set_cons_succ]
  refine headH_one (i := 0) (by kernel_rfl) rfl (fun K hK => ?_)
  go_simp
  refine (byKind_any _).mono ?_
  rintro e x1 ⟨rfl, hb⟩
  replace BC := Lib.hid (chain BC.out hb)
  replace BD := Lib.hid (chain BD.out hb)
  clear hb r0 r1 r2 r3 r4 r5 v0 v1 v2 v3 v4 v5 v6
  obtain ⟨r0, r1, r2, r3, r4, r5⟩ := (P0.out.keep BD.out).sixO
  obtain ⟨v0, v1, v2, v3, v4, v5, v6⟩ := (P1.out.keep BD.out).sevenO
  refine hK.out _ _ (show (fun (w' : World) => w'.cell? ⟨w.heap.size, 0, none⟩ = some (.int .u64 (o.1 : Nat)) ∧ w'.cell? ⟨w.heap.size, 1, none⟩ = some (.int .i64 o.2.1.1) ∧ w'.cell? ⟨w.heap.size, 2, none⟩ = some (.int .i64 o.2.1.2.1) ∧ w'.cell? ⟨w.heap.size, 3, none⟩ = some (.int .i64 o.2.1.2.2.1) ∧ w'.cell? ⟨w.heap.size, 4, none⟩ = some (.slice A o.2.1.2.2.2.length d) ∧ w'.cell? ⟨w.heap.size, 5, none⟩ = some (.int .i64 o.2.2) ∧ w'.cell? ⟨w.heap.size + 1, 0, none⟩ = some (.int .i64 4) ∧ w'.cell? ⟨w.heap.size + 1, 1, none⟩ = some (.int .u64 (ct.1 : Nat)) ∧ w'.cell? ⟨w.heap.size + 1, 2, none⟩ = some (.int .i64 ct.2.1) ∧ w'.cell? ⟨w.heap.size + 1, 3, none⟩ = some (.int .i64 ct.2.2.1) ∧ w'.cell? ⟨w.heap.size + 1, 4, none⟩ = some (.int .i64 ct.2.2.2.1) ∧ w'.cell? ⟨w.heap.size + 1, 5, none⟩ = some (.int .u64 (ct.2.2.2.2.1 : Nat)) ∧ w'.cell? ⟨w.heap.size + 1, 6, none⟩ = some (.string ct.2.2.2.2.2)) x1 from ⟨r0, r1, r2, r3, r4, r5, v0, v1, v2, v3, v4, v5, v6⟩) (fun hS => ?_)
  clear hK K
  refine headH_take (i := 3) (v := ?_) rfl (by kernel_rfl) (fun _ _ _ h => h) (fun _ _ _ h => seqB_ready h.1) (Or.inl ⟨by rfl, ?hy33⟩) hS ?rest33
  case hy33 => intro w hSw; (try dsimp only at hSw); obtain ⟨hc0, hc1, hc2, hc3, hc4, hc5, hc6, hc7, hc8, hc9, hc10, hc11, hc12⟩ := hSw; go_simp; try (with_reducible rfl)
  case rest33 =>
  try simp only [Act.put, List.setIfInBounds_toArray, List.set_cons_zero, List.set_cons_succ]
  refine headH_one (i := 6) (by kernel_rfl) rfl (fun K hK => ?_)
  go_simp
  refine (HK.out _ BC.out).mono ?_
  rintro e x2 ⟨A2, d2, B2, c2, rfl, hs2, hx2, ht2, hc2, hm2, hb⟩
  replace BC := Lib.hid (chain BC.out hb)
  replace BD := Lib.hid (chain BD.out hb)
  have HS2 := Lib.hid hs2
  have HX2 := Lib.hid hx2
  have HT2 := Lib.hid ht2
  have HC2 := Lib.hid (And.intro hc2 hm2)
  clear hb hs2 hx2 ht2 hc2 hm2 r0 r1 r2 r3 r4 r5 v0 v1 v2 v3 v4 v5 v6
  obtain ⟨r0, r1, r2, r3, r4, r5⟩ := (P0.out.keep BD.out).sixO
  obtain ⟨v0, v1, v2, v3, v4, v5, v6⟩ := (P1.out.keep BD.out).sevenO
  have R2 := Lib.hid (P2.out.keep BD.out)
  have R3 := Lib.hid (P3.out.keep BD.out)
  obtain ⟨s0, s1, s2, s3, s4, s5⟩ := R2.out.sixO
  obtain ⟨t0, t1, t2⟩ := R3.out.threeO
  have f0 := R2.out.free 0
  have f1 := R2.out.free 1
  have f2 := R2.out.free 2
  have f3 := R2.out.free 3
  have f4 := R2.out.free 4
  have f5 := R2.out.free 5
  have g0 := R3.out.free 0
  have g1 := R3.out.free 1
  have g2 := R3.out.free 2
  refine hK.out _ _ (show (fun (w' : World) => w'.cell? ⟨w.heap.size, 0, none⟩ = some (.int .u64 (o.1 : Nat)) ∧ w'.cell? ⟨w.heap.size, 1, none⟩ = some (.int .i64 o.2.1.1) ∧ w'.cell? ⟨w.heap.size, 2, none⟩ = some (.int .i64 o.2.1.2.1) ∧ w'.cell? ⟨w.heap.size, 3, none⟩ = some (.int .i64 o.2.1.2.2.1) ∧ w'.cell? ⟨w.heap.size, 4, none⟩ = some (.slice A o.2.1.2.2.2.length d) ∧ w'.cell? ⟨w.heap.size, 5, none⟩ = some (.int .i64 o.2.2) ∧ w'.cell? ⟨w.heap.size + 1, 0, none⟩ = some (.int .i64 4) ∧ w'.cell? ⟨w.heap.size + 1, 1, none⟩ = some (.int .u64 (ct.1 : Nat)) ∧ w'.cell? ⟨w.heap.size + 1, 2, none⟩ = some (.int .i64 ct.2.1) ∧ w'.cell? ⟨w.heap.size + 1, 3, none⟩ = some (.int .i64 ct.2.2.1) ∧ w'.cell? ⟨w.heap.size + 1, 4, none⟩ = some (.int .i64 ct.2.2.2.1) ∧ w'.cell? ⟨w.heap.size + 1, 5, none⟩ = some (.int .u64 (ct.2.2.2.2.1 : Nat)) ∧ w'.cell? ⟨w.heap.size + 1, 6, none⟩ = some (.string ct.2.2.2.2.2)) x2 from ⟨r0, r1, r2, r3, r4, r5, v0, v1, v2, v3, v4, v5, v6⟩) (fun hS => ?_)
  clear hK K
  refine headH_take (i := 7) (v := ?_) rfl (by kernel_rfl) (fun _ _ _ h => h) (fun _ _ _ h => seqB_ready h.1) (Or.inl ⟨by rfl, ?hy34⟩) hS ?rest34
  case hy34 => intro w hSw; (try dsimp only at hSw); obtain ⟨hc0, hc1, hc2, hc3, hc4, hc5, hc6, hc7, hc8, hc9, hc10, hc11, hc12⟩ := hSw; go_simp; try (with_reducible rfl)
  case rest34 =>
  try simp only [Act.put, List.setIfInBounds_toArray, List.set_cons_zero, List.set_cons_succ]
  refine headH_take (i := 8) (v := ?_) rfl (by kernel_rfl) (fun _ _ _ h => h) (fun _ _ _ h => seqB_ready h.1) (Or.inl ⟨by rfl, ?hy35⟩) hS ?rest35
  case hy35 => intro w hSw; (try dsimp only at hSw); obtain ⟨hc0, hc1, hc2, hc3, hc4, hc5, hc6, hc7, hc8, hc9, hc10, hc11, hc12⟩ := hSw; go_simp; try (with_reducible rfl)
  case rest35 =>
  try simp only [Act.put, List.setIfInBounds_toArray, List.set_cons_zero, List.set_cons_succ]
  refine ⟨by kernel_rfl, ?_⟩
  go_wp2_with fail
  refine close_two Tryz.results9 rfl rfl rfl (R2.out.put6o.far3o (by omega) _ _ _) ((R3.out.far6o (g' := w.heap.size + 1 + 1) (by omega) _ _ _ _ _ _).put3o) Tryz.underlying27 Tryz.underlying36 rfl rfl (by kernel_rfl) (by kernel_rfl) ?_
  exact ⟨A2, d2, B2, c2, rfl, HS2.out, Syms.far9 HX2.out (Syms.neO HX2.out R2.out oz_no) (Syms.neO HX2.out R3.out rz_no) _ _ _ _ _ _ _ _ _, HT2.out.far9 (HT2.out.neO R2.out oz_no) (HT2.out.neO R3.out rz_no) _ _ _ _ _ _ _ _ _, HC2.out.1, HC2.out.2, below_set3o (below_set6o BC.out (show w.heap.size ≤ w.heap.size + 1 + 1 by omega) _ _ _ _ _ _) (show w.heap.size ≤ w.heap.size + 1 + 1 + 1 by omega) _ _ _⟩
/-- What a call does to an object. -/
theorem odo_any (o : ObR) (A : Option Addr) (d : Nat) (c : CallR) (w : World) (hs : SliceOk A o.2.1.2.2.2.length d) (hx : Syms w A o.2.1.2.2.2.length o.2.1.2.2.2) (hi : Ids o.2.1.2.2.2) (hci : c.2.2.2.2.2.1 < 18446744073709551616) :
    Calls Tryz.prog 9 #[.agg (obA o A d), callV c] w (DoOut (doO o c).1 (doO o c).2 w) := by
  by_cases hn : rightO o = true ∧ 0 ≤ c.1 ∧ c.1 ≤ 4
  · have hd : doO o c = (if c.1 = 0 then (o, (11, 0, [])) else if o.2.2 = 1 then (o, (6, 0, [])) else actO o c) := if_pos hn
    obtain ⟨hr, h0, h4⟩ := hn
    rw [hd]
    obtain ⟨wh, ct⟩ := c
    dsimp only at h0 h4 hci ⊢
    by_cases hz : wh = 0
    · subst hz
      rw [if_pos rfl]
      exact do_kind0 o A d ct w hs hx hr hi hci
    · rw [if_neg hz]
      by_cases hc : o.2.2 = 1
      · rw [if_pos hc]
        exact (do_closed o A d (wh, ct) w hs hx hr (by show 0 < wh; omega) h4 hc).mono fun _ _ h => h.do hs hx
      · rw [if_neg hc]
        have hk : actO o (wh, ct) = kindO o (wh, ct) := (if_neg hz).symm
        rw [hk]
        have h5 : wh = 1 ∨ wh = 2 ∨ wh = 3 ∨ wh = 4 := by omega
        rcases h5 with rfl | rfl | rfl | rfl
        · exact do_kind1 o A d ct w hs hx hr hi hci hc
        · exact do_kind2 o A d ct w hs hx hr hi hci hc
        · exact do_kind3 o A d ct w hs hx hr hi hci hc
        · exact do_kind4 o A d ct w hs hx hr hi hci hc
  · have hd : doO o c = (o, (1, 0, [])) := if_neg hn
    rw [hd]
    exact (do_no o A d c w hs hx hn).mono fun _ _ h => h.do hs hx
end
section
/- Layer 18: the reference's Solve. -/
set_option linter.unusedVariables false
set_option linter.unusedSimpArgs false
open Go.RowKit Go.Lib
set_option maxRecDepth 100000
theorem r17_no (i : Nat) (s : ByteArray) : (#[Value.slice none 0 0, .int .i64 0] : Array Value)[i]? ≠ some (.string s) := by
  match i with
  | 0 | 1 => simp
  | n + 2 => simp
theorem Box.put2s {w : World} {g : Nat} {t : TypeId} {a b u v : Value} (h : Box w g t #[a, b]) : Box ((w.setCell ⟨g, 0, none⟩ u).setCell ⟨g, 1, none⟩ v) g t #[u, v] := (h.put 0 u).put 1 v
theorem below_set2s {B : Nat} {w x : World} (h : Below B w x) {g : Nat} (hg : B ≤ g) (a b : Value) : Below B w ((x.setCell ⟨g, 0, none⟩ a).setCell ⟨g, 1, none⟩ b) := (h.setCell (p := ⟨g, 0, none⟩) hg a).setCell (p := ⟨g, 1, none⟩) hg b
theorem S2_gen (a b : Array Value) (w : World) : Box ((w.alloc (.cells a 25)).alloc (.cells b 76)) w.heap.size 25 a ∧ Box ((w.alloc (.cells a 25)).alloc (.cells b 76)) (w.heap.size + 1) 76 b ∧ Below w.heap.size w ((w.alloc (.cells a 25)).alloc (.cells b 76)) := by
  refine ⟨(Box.new w _ _).alloc _, ?_, ((Below.refl _ _).alloc (Nat.le_refl _) _).alloc (by simp) _⟩
  have q := Box.new (w.alloc (.cells a 25)) 76 b
  simpa only [World.size_alloc] using q
set_option maxHeartbeats 8000000 in
theorem rsolve_any (k s : Nat) (c : Int) (A : Option Addr) (d : Nat) (xs : List SymR) (w : World) (hx : Syms w A xs.length xs) (hl : xs.length ≤ d) (hd : d ≤ maxLen) (hs : storeB (k : Int) (s : Int) c xs = true) (hid : Ids xs) :
    Calls Tryz.prog 33 #[.agg #[.int .i64 (k : Int), .int .i64 (s : Int), .int .i64 c, .slice A xs.length d]] w (SolveOne (solveF (k : Int) (s : Int) xs) w) := by
  obtain ⟨⟨k1, k2⟩, -, hc, hlc⟩ := storeB_bd hs
  obtain ⟨q0, q1, b3⟩ := S2_gen #[.int .i64 (k : Int), .int .i64 (s : Int), .int .i64 c, .slice A xs.length d] #[.slice none 0 0, .int .i64 0] w
  have HRw := Lib.hid (refRows12_any k s c A xs.length d xs _ (Recs.below hx b3) hl hd (by omega) (by omega) (by omega) hid)
  have HU := Lib.hid (fun wy (hw : Below w.heap.size w wy) => refSumsX_any k s c A xs.length d xs wy (Recs.below hx hw) hl hd hs)
  have HK := Lib.hid (fun (A' S : Option Addr) (cA cS base : Nat) (w' : World) hm ht h1 h2 => store_bk (A := A') (S := S) (cA := cA) (cS := cS) (base := base) (w := w') hs hm (hm.sl (idn_len k xs)) ht h1 h2)
  have HF := Lib.hid (fun (E : Int) (b : List ByteArray) (h : SvRes k s (rowsN k xs) (zs k (rowsN k xs) (dtL xs)) E b) => solveF_eq h)
  have Q := Lib.hid q0
  have QR := Lib.hid q1
  have HB := Lib.hid b3
  have hk64 : (k : Int) ≤ 64 := k2
  obtain ⟨r0, r1, r2, r3, -, -, -, -⟩ := Q.out.four
  obtain ⟨l, hll⟩ : ∃ l, l = xs.length := ⟨_, rfl⟩
  clear hx b3 hs hl q0 q1 hll hc hlc k1
  go_enter Tryz.func33, Tryz.ntmps33
  go_wp2_with fail
  refine HRw.out.mono ?_
  rintro e w1 ⟨A1, c1, rfl, hm, hb⟩
  have b2 : Below w1.heap.size w1 (w1.alloc (.cells #[.int .i64 (k : Int), .slice A1 xs.length c1] 102)) := (Below.refl _ _).alloc (Nat.le_refl _) _
  have hbb := chain hb b2
  have HM := Lib.hid (hm.below b2)
  have QM := Lib.hid (Box.new w1 102 #[.int .i64 (k : Int), .slice A1 xs.length c1])
  have Q2 := Lib.hid (Q.out.keep hbb)
  have QR2 := Lib.hid (QR.out.keep hbb)
  have HB2 := Lib.hid (chain HB.out hbb)
  clear hb b2 hbb hm r0 r1 r2 r3 HRw HB Q QR
  obtain ⟨gm, hgm⟩ : ∃ g, g = w1.heap.size := ⟨_, rfl⟩
  obtain ⟨w2, hw2⟩ : ∃ y, y = w1.alloc (.cells #[.int .i64 (k : Int), .slice A1 xs.length c1] 102) := ⟨_, rfl⟩
  rw [← hgm] at QM
  rw [← hw2] at HM QM Q2 QR2 HB2
  go_upto_region 2 with (fail)
  rw [← hgm, ← hw2]
  clear hgm hw2
  obtain ⟨r0, r1, r2, r3, -, -, -, -⟩ := Q2.out.four
  have HUw := Lib.hid (HU.out _ HB2.out)
  go_wp2_with fail
  refine HUw.out.mono ?_
  rintro e w3 ⟨S, cS, rfl, ht, h1, h2, hb⟩
  have HM3 := Lib.hid (HM.out.below hb)
  have HB3 := Lib.hid (chain HB2.out hb)
  have Q3 := Lib.hid (Q2.out.keep hb)
  have QR3 := Lib.hid (QR2.out.keep hb)
  have QM3 := Lib.hid (QM.out.keep hb)
  have HBk := Lib.hid (HK.out A1 S c1 cS _ w3 HM3.out ht h1 h2)
  have HFi := Lib.hid (refFits_any w3 HBk.out)
  clear hb ht h1 h2 r0 r1 r2 r3 HUw HM QM Q2 QR2 HB2 HU HK
  obtain ⟨r0, r1, r2, r3, -, -, -, -⟩ := Q3.out.four
  obtain ⟨m0, m1, -, -⟩ := QM3.out.two
  go_wp2_with fail
  refine HFi.out.mono ?_
  rintro e w4 ⟨b, hbf, rfl, hb⟩
  have HB4 := Lib.hid (chain HB3.out hb)
  have Q4 := Lib.hid (Q3.out.keep hb)
  have QR4 := Lib.hid (QR3.out.keep hb)
  have QM4 := Lib.hid (QM3.out.keep hb)
  have HBk4 := Lib.hid (HBk.out.below hb)
  clear hb HFi HBk HM3 HB3 Q3 QR3 QM3 r0 r1 r2 r3 m0 m1
  obtain ⟨r0, r1, r2, r3, -, -, -, -⟩ := Q4.out.four
  obtain ⟨m0, m1, -, -⟩ := QM4.out.two
  cases b with
  | false =>
    have HE := Lib.hid (HF.out 10 [] (.inl ⟨rfl, fun h => (by have := hbf.2 h; cases this), rfl⟩))
    clear hbf HF HBk4
    obtain ⟨p0, p1, f0, f1⟩ := QR4.out.two
    go_wp2_with fail
    refine close_one Tryz.results33 rfl rfl QR4.out.put2s Tryz.underlying76 rfl (by kernel_rfl) ?_
    rw [HE.out]
    exact ⟨none, 0, rfl, Texts.nil _ _, below_set2s HB4.out (by omega) _ _⟩
  | true =>
    have hf := hbf.1 rfl
    have HFt := Lib.hid hf
    have HKn := Lib.hid (refKnown_any w4 HBk4.out hf)
    clear hbf hf HBk4
    go_wp2_with fail
    refine HKn.out.mono ?_
    rintro e w5 ⟨cols, blks, B1, B2, c1', c2', rfl, hi, ht, hkn, h64, hb⟩
    have b2 : Below w5.heap.size w5 (w5.alloc (.cells #[.slice B1 cols.length c1', .slice B2 blks.length c2'] 108)) := (Below.refl _ _).alloc (Nat.le_refl _) _
    have hbb := chain hb b2
    have Q5 := Lib.hid (Q4.out.keep hbb)
    have QR5 := Lib.hid (QR4.out.keep hbb)
    have QK := Lib.hid (Box.new w5 108 #[.slice B1 cols.length c1', .slice B2 blks.length c2'])
    have HT := Lib.hid (ht.below b2)
    have HKp := Lib.hid hkn
    have HB5 := Lib.hid (chain HB4.out hbb)
    have hc64 := h64
    clear hb b2 hbb hi ht hkn h64 HKn HB4 Q4 QR4 QM4 r0 r1 r2 r3 m0 m1
    obtain ⟨r0, r1, r2, r3, -, -, -, -⟩ := Q5.out.four
    obtain ⟨p0, p1, f0, f1⟩ := QR5.out.two
    obtain ⟨n0, n1, -, -⟩ := QK.out.two
    by_cases hlt : cols.length < k
    · have hlt' : (cols.length : Int) < (k : Int) := by omega
      have HE := Lib.hid (HF.out 9 [] (.inr (.inl ⟨rfl, HFt.out, rfl, cols, blks, HKp.out, hlt⟩)))
      clear HF
      go_wp2_with fail
      refine close_one Tryz.results33 rfl rfl QR5.out.put2s Tryz.underlying76 rfl (by kernel_rfl) ?_
      rw [HE.out]
      exact ⟨none, 0, rfl, Texts.nil _ _, below_set2s HB5.out (by omega) _ _⟩
    · have hlt' : ¬ (cols.length : Int) < (k : Int) := by omega
      have HE := Lib.hid (HF.out 0 blks (.inr (.inr ⟨rfl, HFt.out, cols, HKp.out, hlt⟩)))
      clear HF
      go_wp2_with fail
      refine close_one Tryz.results33 rfl rfl QR5.out.put2s Tryz.underlying76 rfl (by kernel_rfl) ?_
      rw [HE.out]
      exact ⟨B2, c2', rfl, (HT.out.farN (HT.out.neO QR5.out r17_no) 0 _).farN (HT.out.neO QR5.out r17_no) 1 _, below_set2s HB5.out (by omega) _ _⟩
end
section
/- Layer 18: the reference's Do. -/
set_option linter.unusedVariables false
set_option linter.unusedSimpArgs false
open Go.RowKit Go.Lib
set_option maxRecDepth 100000
theorem Box.put9s {w : World} {g : Nat} {t : TypeId} {a b c d e f a1 b1 c1 u v x y z k u1 v1 x1 : Value} (h : Box w g t #[a, b, c, d, e, f, a1, b1, c1]) : Box (((((((((w.setCell ⟨g, 0, none⟩ u).setCell ⟨g, 1, none⟩ v).setCell ⟨g, 2, none⟩ x).setCell ⟨g, 3, none⟩ y).setCell ⟨g, 4, none⟩ z).setCell ⟨g, 5, none⟩ k).setCell ⟨g, 6, none⟩ u1).setCell ⟨g, 7, none⟩ v1).setCell ⟨g, 8, none⟩ x1) g t #[u, v, x, y, z, k, u1, v1, x1] := by
  have h0 : Box (w.setCell ⟨g, 0, none⟩ u) g t #[u, b, c, d, e, f, a1, b1, c1] := h.put 0 u
  have h1 : Box ((w.setCell ⟨g, 0, none⟩ u).setCell ⟨g, 1, none⟩ v) g t #[u, v, c, d, e, f, a1, b1, c1] := h0.put 1 v
  have h2 : Box (((w.setCell ⟨g, 0, none⟩ u).setCell ⟨g, 1, none⟩ v).setCell ⟨g, 2, none⟩ x) g t #[u, v, x, d, e, f, a1, b1, c1] := h1.put 2 x
  have h3 : Box ((((w.setCell ⟨g, 0, none⟩ u).setCell ⟨g, 1, none⟩ v).setCell ⟨g, 2, none⟩ x).setCell ⟨g, 3, none⟩ y) g t #[u, v, x, y, e, f, a1, b1, c1] := h2.put 3 y
  have h4 : Box (((((w.setCell ⟨g, 0, none⟩ u).setCell ⟨g, 1, none⟩ v).setCell ⟨g, 2, none⟩ x).setCell ⟨g, 3, none⟩ y).setCell ⟨g, 4, none⟩ z) g t #[u, v, x, y, z, f, a1, b1, c1] := h3.put 4 z
  have h5 : Box ((((((w.setCell ⟨g, 0, none⟩ u).setCell ⟨g, 1, none⟩ v).setCell ⟨g, 2, none⟩ x).setCell ⟨g, 3, none⟩ y).setCell ⟨g, 4, none⟩ z).setCell ⟨g, 5, none⟩ k) g t #[u, v, x, y, z, k, a1, b1, c1] := h4.put 5 k
  have h6 : Box (((((((w.setCell ⟨g, 0, none⟩ u).setCell ⟨g, 1, none⟩ v).setCell ⟨g, 2, none⟩ x).setCell ⟨g, 3, none⟩ y).setCell ⟨g, 4, none⟩ z).setCell ⟨g, 5, none⟩ k).setCell ⟨g, 6, none⟩ u1) g t #[u, v, x, y, z, k, u1, b1, c1] := h5.put 6 u1
  have h7 : Box ((((((((w.setCell ⟨g, 0, none⟩ u).setCell ⟨g, 1, none⟩ v).setCell ⟨g, 2, none⟩ x).setCell ⟨g, 3, none⟩ y).setCell ⟨g, 4, none⟩ z).setCell ⟨g, 5, none⟩ k).setCell ⟨g, 6, none⟩ u1).setCell ⟨g, 7, none⟩ v1) g t #[u, v, x, y, z, k, u1, v1, c1] := h6.put 7 v1
  have h8 : Box (((((((((w.setCell ⟨g, 0, none⟩ u).setCell ⟨g, 1, none⟩ v).setCell ⟨g, 2, none⟩ x).setCell ⟨g, 3, none⟩ y).setCell ⟨g, 4, none⟩ z).setCell ⟨g, 5, none⟩ k).setCell ⟨g, 6, none⟩ u1).setCell ⟨g, 7, none⟩ v1).setCell ⟨g, 8, none⟩ x1) g t #[u, v, x, y, z, k, u1, v1, x1] := h7.put 8 x1
  exact h8
theorem below_set9s {B : Nat} {w0 w : World} (h : Below B w0 w) {g : Nat} (hg : B ≤ g) (u v x y z k u1 v1 x1 : Value) : Below B w0 (((((((((w.setCell ⟨g, 0, none⟩ u).setCell ⟨g, 1, none⟩ v).setCell ⟨g, 2, none⟩ x).setCell ⟨g, 3, none⟩ y).setCell ⟨g, 4, none⟩ z).setCell ⟨g, 5, none⟩ k).setCell ⟨g, 6, none⟩ u1).setCell ⟨g, 7, none⟩ v1).setCell ⟨g, 8, none⟩ x1) :=
  (((below_set6o h hg u v x y z k).setCell (p := ⟨g, 6, none⟩) hg u1).setCell (p := ⟨g, 7, none⟩) hg v1).setCell (p := ⟨g, 8, none⟩) hg x1
theorem Texts.far9s {w : World} {g : Nat} {A : Option Addr} {l : Nat} {ss : List ByteArray} (h : Texts w A l ss) (hn : ∀ b off, A = some ⟨b, off, none⟩ → 0 < l → b ≠ g) (u v x y z k u1 v1 x1 : Value) : Texts (((((((((w.setCell ⟨g, 0, none⟩ u).setCell ⟨g, 1, none⟩ v).setCell ⟨g, 2, none⟩ x).setCell ⟨g, 3, none⟩ y).setCell ⟨g, 4, none⟩ z).setCell ⟨g, 5, none⟩ k).setCell ⟨g, 6, none⟩ u1).setCell ⟨g, 7, none⟩ v1).setCell ⟨g, 8, none⟩ x1) A l ss :=
  ((((((((h.farN hn 0 u).farN hn 1 v).farN hn 2 x).farN hn 3 y).farN hn 4 z).farN hn 5 k).farN hn 6 u1).farN hn 7 v1).farN hn 8 x1
theorem Syms.far9s {w : World} {g : Nat} {A : Option Addr} {l : Nat} {xs : List SymR} (h : Syms w A l xs) (hn : ∀ b off, A = some ⟨b, off, none⟩ → 0 < l → b ≠ g) (u v x y z k u1 v1 x1 : Value) : Syms (((((((((w.setCell ⟨g, 0, none⟩ u).setCell ⟨g, 1, none⟩ v).setCell ⟨g, 2, none⟩ x).setCell ⟨g, 3, none⟩ y).setCell ⟨g, 4, none⟩ z).setCell ⟨g, 5, none⟩ k).setCell ⟨g, 6, none⟩ u1).setCell ⟨g, 7, none⟩ v1).setCell ⟨g, 8, none⟩ x1) A l xs :=
  ((((((((Recs.farB h hn 0 u).farB hn 1 v).farB hn 2 x).farB hn 3 y).farB hn 4 z).farB hn 5 k).farB hn 6 u1).farB hn 7 v1).farB hn 8 x1
theorem dz_no (i : Nat) (s : ByteArray) : dZ[i]? ≠ some (.string s) := by
  match i with
  | 0 | 1 | 2 | 3 | 4 | 5 | 6 | 7 | 8 => simp
  | n + 9 => simp
/-- An object and a reply are returned, as one. -/
def DOutW (o : ObR) (r : ReplyR) (w : World) (e : Ending) (w' : World) : Prop :=
  ∃ A d B c, e = .returned (.agg #[.int .u64 (o.1 : Nat), .int .i64 o.2.1.1, .int .i64 o.2.1.2.1, .int .i64 o.2.1.2.2.1, .slice A o.2.1.2.2.2.length d, .int .i64 o.2.2, .int .i64 r.1, .int .i64 r.2.1, .slice B r.2.2.length c]) ∧ SliceOk A o.2.1.2.2.2.length d ∧ Syms w' A o.2.1.2.2.2.length o.2.1.2.2.2 ∧ Texts w' B r.2.2.length r.2.2 ∧ Below w.heap.size w w'
theorem D3_gen (t1 : TypeId) (a c b : Array Value) (w : World) : Box (((w.alloc (.cells a 27)).alloc (.cells c t1)).alloc (.cells b 40)) w.heap.size 27 a ∧ Box (((w.alloc (.cells a 27)).alloc (.cells c t1)).alloc (.cells b 40)) (w.heap.size + 1) t1 c ∧ Box (((w.alloc (.cells a 27)).alloc (.cells c t1)).alloc (.cells b 40)) (w.heap.size + 1 + 1) 40 b ∧ Below w.heap.size w (((w.alloc (.cells a 27)).alloc (.cells c t1)).alloc (.cells b 40)) := by
  refine ⟨((Box.new w _ _).alloc _).alloc _, ?_, ?_, (((Below.refl _ _).alloc (Nat.le_refl _) _).alloc (by simp) _).alloc (by simp; omega) _⟩
  · have q := (Box.new (w.alloc (.cells a 27)) t1 c).alloc (.cells b 40)
    simpa only [World.size_alloc] using q
  · have q := Box.new ((w.alloc (.cells a 27)).alloc (.cells c t1)) 40 b
    simpa only [World.size_alloc] using q
/-- One more symbol to a store that may be: the object, and the reply. -/
noncomputable def addO (o : ObR) (x : SymR) : ObR × ReplyR :=
  if whyI o.2.1.2.1 o.2.1.2.2.1 o.2.1.2.2.2 x = 0 then ((o.1, (o.2.1.1, o.2.1.2.1, o.2.1.2.2.1, o.2.1.2.2.2 ++ [x]), o.2.2), (0, (rankF o.2.1.1 (o.2.1.2.2.2 ++ [x]) : Int), [])) else (o, (whyI o.2.1.2.1 o.2.1.2.2.1 o.2.1.2.2.2 x, 0, []))
set_option maxHeartbeats 8000000 in
theorem radd_no (id : Nat) (k s cp : Int) (xs : List SymR) (cl : Int) (A : Option Addr) (d : Nat) (x : SymR) (w : World) (hl : xs.length ≤ 66) (hs : SliceOk A xs.length d) (hx : Syms w A xs.length xs) (hE : ¬ whyI s cp xs x = 0) :
    Calls Tryz.prog 31 #[.agg (obA (id, (k, s, cp, xs), cl) A d), .agg #[.int .u64 (x.1 : Int), .string x.2]] w (DOutW (id, (k, s, cp, xs), cl) (whyI s cp xs x, 0, []) w) := by
  have HW := Lib.hid (fun wy (hw : Below w.heap.size w wy) => refWhy_any k s cp A xs.length d xs x wy (Recs.below hx hw) (by unfold maxLen; omega))
  obtain ⟨E, hEe⟩ : ∃ E, E = whyI s cp xs x := ⟨_, rfl⟩
  rw [← hEe] at HW hE ⊢
  have t9 : (E != 0) = true := by simpa using hE
  have HX := Lib.hid hx
  have HS := Lib.hid hs
  clear hEe hE hs hx
  obtain ⟨z0, z1, z2, b5⟩ := D3_gen 29 (obA (id, (k, s, cp, xs), cl) A d) #[.int .u64 (x.1 : Int), .string x.2] dZ w
  have Q0 := Lib.hid z0
  have Q1 := Lib.hid z1
  have Q2 := Lib.hid z2
  have HB := Lib.hid b5
  obtain ⟨r0, r1, r2, r3, r4, r5⟩ := Q0.out.sixO
  obtain ⟨v0, v1, -, -⟩ := Q1.out.two
  clear z0 z1 z2 b5
  have HWw := Lib.hid (HW.out _ HB.out)
  clear HW
  go_enter Tryz.func31, Tryz.ntmps31
  go_wp2_with fail
  refine HWw.out.mono ?_
  rintro e w2 ⟨rfl, hb⟩
  have P0 := Lib.hid (Q0.out.keep hb)
  have P1 := Lib.hid (Q1.out.keep hb)
  have P2 := Lib.hid (Q2.out.keep hb)
  have HB2 := Lib.hid (chain HB.out hb)
  clear hb HWw r0 r1 r2 r3 r4 r5 v0 v1
  obtain ⟨r0, r1, r2, r3, r4, r5⟩ := P0.out.sixO
  obtain ⟨v0, v1, -, -⟩ := P1.out.two
  have q0 := P2.out.cell 0
  have f0 := P2.out.free 0
  have q1 := P2.out.cell 1
  have f1 := P2.out.free 1
  have q2 := P2.out.cell 2
  have f2 := P2.out.free 2
  have q3 := P2.out.cell 3
  have f3 := P2.out.free 3
  have q4 := P2.out.cell 4
  have f4 := P2.out.free 4
  have q5 := P2.out.cell 5
  have f5 := P2.out.free 5
  have q6 := P2.out.cell 6
  have f6 := P2.out.free 6
  have q7 := P2.out.cell 7
  have f7 := P2.out.free 7
  have q8 := P2.out.cell 8
  have f8 := P2.out.free 8
  go_wp2_with fail
  refine close_one Tryz.results31 rfl rfl P2.out.put9s Tryz.underlying40 rfl (by kernel_rfl) ?_
  exact ⟨A, d, none, 0, rfl, HS.out, Syms.far9s (Recs.below HX.out HB2.out) (Syms.neO (Recs.below HX.out HB2.out) P2.out dz_no) _ _ _ _ _ _ _ _ _, Texts.nil _ _, below_set9s HB2.out (show w.heap.size ≤ w.heap.size + 1 + 1 by omega) _ _ _ _ _ _ _ _ _⟩
set_option maxHeartbeats 8000000 in
theorem radd_yes (id : Nat) (k : Nat) (s cp : Int) (xs : List SymR) (cl : Int) (A : Option Addr) (d : Nat) (x : SymR) (w : World) (hst : storeB (k : Int) s cp xs = true) (hs : SliceOk A xs.length d) (hx : Syms w A xs.length xs) (hi : Ids xs) (hci : x.1 < 18446744073709551616) (hE : whyI s cp xs x = 0) :
    Calls Tryz.prog 31 #[.agg (obA (id, ((k : Int), s, cp, xs), cl) A d), .agg #[.int .u64 (x.1 : Int), .string x.2]] w (DOutW (id, ((k : Int), s, cp, xs ++ [x]), cl) (0, (rankF (k : Int) (xs ++ [x]) : Int), []) w) := by
  have hb4 := storeB_bd hst
  have hl64 : xs.length ≤ 64 := by have := hb4.2.2.1; have := hb4.2.2.2; omega
  have HW := Lib.hid (fun wy (hw : Below w.heap.size w wy) => refWhy_any k s cp A xs.length d xs x wy (Recs.below hx hw) (by unfold maxLen; omega))
  rw [hE] at HW
  have hE2 : addE (k : Int) s cp xs x = 0 := by rw [addE_yes hst]; exact hE
  have hg := storeB_grow hE2
  have hg4 := storeB_bd hg
  have HA := Lib.hid (fun wy (hw : Below w.heap.size w wy) => refAdd12_any k s cp A xs.length d xs x wy (Recs.below hx hw) hl64)
  have hiy : Ids (xs ++ [x]) := ids_snoc hi hci
  obtain ⟨ys, hys⟩ : ∃ y, y = xs ++ [x] := ⟨_, rfl⟩
  rw [← hys] at HA hg hiy hg4 ⊢
  have HRa := Lib.hid (fun (A' : Option Addr) (d' : Nat) (wy : World) (hz : Syms wy A' ys.length ys) (h1 : ys.length ≤ d') (h2 : d' ≤ maxLen) => refRank12_any k s cp A' ys.length d' ys wy hz h1 h2 (by omega) (by omega) (by omega) hiy)
  clear hiy hg hys hE2 hE hb4 hl64 hs hx hi hst hci hg4
  obtain ⟨z0, z1, z2, b5⟩ := D3_gen 29 (obA (id, ((k : Int), s, cp, xs), cl) A d) #[.int .u64 (x.1 : Int), .string x.2] dZ w
  have Q0 := Lib.hid z0
  have Q1 := Lib.hid z1
  have Q2 := Lib.hid z2
  have HB := Lib.hid b5
  obtain ⟨r0, r1, r2, r3, r4, r5⟩ := Q0.out.sixO
  obtain ⟨v0, v1, -, -⟩ := Q1.out.two
  clear z0 z1 z2 b5
  have HWw := Lib.hid (HW.out _ HB.out)
  clear HW
  go_enter Tryz.func31, Tryz.ntmps31
  go_wp2_with fail
  refine HWw.out.mono ?_
  rintro e w2 ⟨rfl, hb⟩
  have P0 := Lib.hid (Q0.out.keep hb)
  have P1 := Lib.hid (Q1.out.keep hb)
  have P2 := Lib.hid (Q2.out.keep hb)
  have HB2 := Lib.hid (chain HB.out hb)
  clear hb HWw r0 r1 r2 r3 r4 r5 v0 v1
  obtain ⟨r0, r1, r2, r3, r4, r5⟩ := P0.out.sixO
  obtain ⟨v0, v1, -, -⟩ := P1.out.two
  have HAw := Lib.hid (HA.out _ HB2.out)
  go_wp2_with fail
  refine HAw.out.mono ?_
  rintro e w3 ⟨A', d', rfl, hz, hz1, hz2, hz3, -, hb⟩
  have M0 := Lib.hid (P0.out.keep hb)
  have M1 := Lib.hid (P1.out.keep hb)
  have M2 := Lib.hid (P2.out.keep hb)
  have HB3 := Lib.hid (chain HB2.out hb)
  have HZ := Lib.hid hz
  have HSl := Lib.hid (show SliceOk A' ys.length d' from ⟨hz1, hz2, fun e => ⟨by have := hz3 e; omega, hz3 e⟩⟩)
  clear hb HAw HA hz hz1 hz2 hz3 r0 r1 r2 r3 r4 r5 v0 v1
  obtain ⟨r0, r1, r2, r3, r4, r5⟩ := M0.out.sixO
  obtain ⟨v0, v1, -, -⟩ := M1.out.two
  have f1 := M0.out.free 1
  have f2 := M0.out.free 2
  have f3 := M0.out.free 3
  have f4 := M0.out.free 4
  obtain ⟨w5, hw5⟩ : ∃ y, y = ((((w3.setCell ⟨w.heap.size, 1, none⟩ (.int .i64 k)).setCell ⟨w.heap.size, 2, none⟩ (.int .i64 s)).setCell ⟨w.heap.size, 3, none⟩ (.int .i64 cp)).setCell ⟨w.heap.size, 4, none⟩ (.slice A' ys.length d')) := ⟨_, rfl⟩
  have L0 := Lib.hid (show Box w5 w.heap.size 27 (obA (id, ((k : Int), s, cp, ys), cl) A' d') from hw5 ▸ M0.out.put4h)
  have L2 := Lib.hid (show Box w5 (w.heap.size + 1 + 1) 40 dZ from hw5 ▸ M2.out.far4h (by omega) (.int .i64 k) (.int .i64 s) (.int .i64 cp) (.slice A' ys.length d'))
  have HZ5 := Lib.hid (show Syms w5 A' ys.length ys from hw5 ▸ Syms.far4h HZ.out (Syms.neO HZ.out M0.out (obA_no _ _ _)) (.int .i64 k) (.int .i64 s) (.int .i64 cp) (.slice A' ys.length d'))
  have HB5 := Lib.hid (show Below w.heap.size w w5 from hw5 ▸ below_set4h HB3.out (Nat.le_refl _) (.int .i64 k) (.int .i64 s) (.int .i64 cp) (.slice A' ys.length d'))
  clear HZ HB2 HB3
  go_upto_region 5 with (fail)
  rw [← hw5]
  clear hw5 M0 M1 M2 P0 P1 P2 f1 f2 f3 f4 r0 r1 r2 r3 r4 r5 v0 v1
  obtain ⟨r0, r1, r2, r3, r4, r5⟩ := L0.out.sixO
  have BC := Lib.hid HB5.out.drew
  have BD := Lib.hid (Below.refl w5.heap.size w5).drew
  refine wp_held_tail (S := (fun (w' : World) => w'.cell? ⟨w.heap.size, 0, none⟩ = some (.int .u64 (id : Int)) ∧ w'.cell? ⟨w.heap.size, 1, none⟩ = some (.int .i64 (k : Int)) ∧ w'.cell? ⟨w.heap.size, 2, none⟩ = some (.int .i64 s) ∧ w'.cell? ⟨w.heap.size, 3, none⟩ = some (.int .i64 cp) ∧ w'.cell? ⟨w.heap.size, 4, none⟩ = some (.slice A' ys.length d') ∧ w'.cell? ⟨w.heap.size, 5, none⟩ = some (.int .i64 cl))) 6 (by kernel_rfl) (by decide) ?_
  have hS := Lib.hid (show (fun (w' : World) => w'.cell? ⟨w.heap.size, 0, none⟩ = some (.int .u64 (id : Int)) ∧ w'.cell? ⟨w.heap.size, 1, none⟩ = some (.int .i64 (k : Int)) ∧ w'.cell? ⟨w.heap.size, 2, none⟩ = some (.int .i64 s) ∧ w'.cell? ⟨w.heap.size, 3, none⟩ = some (.int .i64 cp) ∧ w'.cell? ⟨w.heap.size, 4, none⟩ = some (.slice A' ys.length d') ∧ w'.cell? ⟨w.heap.size, 5, none⟩ = some (.int .i64 cl)) w5.drew from ⟨r0, r1, r2, r3, r4, r5⟩)
  replace hS := hS.out
  refine headH_take (i := 0) (v := ?_) rfl (by kernel_rfl) (fun _ _ _ h => h) (fun _ _ _ h => seqB_ready h.1) (Or.inl ⟨by rfl, ?hy1⟩) hS ?rest1
  case hy1 => intro w hSw; (try dsimp only at hSw); obtain ⟨hc0, hc1, hc2, hc3, hc4, hc5⟩ := hSw; go_simp; try (with_reducible rfl)
  case rest1 =>
  try simp only [Act.put, List.setIfInBounds_toArray, List.set_cons_zero, List.set_cons_succ]
  refine headH_take (i := 1) (v := ?_) rfl (by kernel_rfl) (fun _ _ _ h => h) (fun _ _ _ h => seqB_ready h.1) (Or.inl ⟨by rfl, ?hy2⟩) hS ?rest2
  case hy2 => intro w hSw; (try dsimp only at hSw); obtain ⟨hc0, hc1, hc2, hc3, hc4, hc5⟩ := hSw; go_simp; try (with_reducible rfl)
  case rest2 =>
  try simp only [Act.put, List.setIfInBounds_toArray, List.set_cons_zero, List.set_cons_succ]
  refine headH_take (i := 2) (v := ?_) rfl (by kernel_rfl) (fun _ _ _ h => h) (fun _ _ _ h => seqB_ready h.1) (Or.inl ⟨by rfl, ?hy3⟩) hS ?rest3
  case hy3 => intro w hSw; (try dsimp only at hSw); obtain ⟨hc0, hc1, hc2, hc3, hc4, hc5⟩ := hSw; go_simp; try (with_reducible rfl)
  case rest3 =>
  try simp only [Act.put, List.setIfInBounds_toArray, List.set_cons_zero, List.set_cons_succ]
  refine headH_one (i := 3) (by kernel_rfl) rfl (fun K hK => ?_)
  go_simp
  refine (HRa.out A' d' _ (Recs.below HZ5.out BD.out) HSl.out.1 HSl.out.2.1).mono ?_
  rintro e x1 ⟨nn, rfl, hrk, hb⟩
  have HRk := Lib.hid (rankF_eq hrk)
  replace BC := Lib.hid (chain BC.out hb)
  replace BD := Lib.hid (chain BD.out hb)
  clear hb hrk r0 r1 r2 r3 r4 r5
  obtain ⟨r0, r1, r2, r3, r4, r5⟩ := (L0.out.keep BD.out).sixO
  have R2 := Lib.hid (L2.out.keep BD.out)
  have HZ6 := Lib.hid (Recs.below HZ5.out BD.out)
  have q0 := R2.out.cell 0
  have f0 := R2.out.free 0
  have q1 := R2.out.cell 1
  have f1 := R2.out.free 1
  have q2 := R2.out.cell 2
  have f2 := R2.out.free 2
  have q3 := R2.out.cell 3
  have f3 := R2.out.free 3
  have q4 := R2.out.cell 4
  have f4 := R2.out.free 4
  have q5 := R2.out.cell 5
  have f5 := R2.out.free 5
  have q6 := R2.out.cell 6
  have f6 := R2.out.free 6
  have q7 := R2.out.cell 7
  have f7 := R2.out.free 7
  have q8 := R2.out.cell 8
  have f8 := R2.out.free 8
  refine hK.out _ _ (show (fun (w' : World) => w'.cell? ⟨w.heap.size, 0, none⟩ = some (.int .u64 (id : Int)) ∧ w'.cell? ⟨w.heap.size, 1, none⟩ = some (.int .i64 (k : Int)) ∧ w'.cell? ⟨w.heap.size, 2, none⟩ = some (.int .i64 s) ∧ w'.cell? ⟨w.heap.size, 3, none⟩ = some (.int .i64 cp) ∧ w'.cell? ⟨w.heap.size, 4, none⟩ = some (.slice A' ys.length d') ∧ w'.cell? ⟨w.heap.size, 5, none⟩ = some (.int .i64 cl)) x1 from ⟨r0, r1, r2, r3, r4, r5⟩) (fun hS => ?_)
  clear hK K
  refine headH_take (i := 4) (v := ?_) rfl (by kernel_rfl) (fun _ _ _ h => h) (fun _ _ _ h => seqB_ready h.1) (Or.inl ⟨by rfl, ?hy4⟩) hS ?rest4
  case hy4 => intro w hSw; (try dsimp only at hSw); obtain ⟨hc0, hc1, hc2, hc3, hc4, hc5⟩ := hSw; go_simp; try (with_reducible rfl)
  case rest4 =>
  try simp only [Act.put, List.setIfInBounds_toArray, List.set_cons_zero, List.set_cons_succ]
  refine headH_take (i := 5) (v := ?_) rfl (by kernel_rfl) (fun _ _ _ h => h) (fun _ _ _ h => seqB_ready h.1) (Or.inl ⟨by rfl, ?hy5⟩) hS ?rest5
  case hy5 => intro w hSw; (try dsimp only at hSw); obtain ⟨hc0, hc1, hc2, hc3, hc4, hc5⟩ := hSw; go_simp; try (with_reducible rfl)
  case rest5 =>
  try simp only [Act.put, List.setIfInBounds_toArray, List.set_cons_zero, List.set_cons_succ]
  refine ⟨by kernel_rfl, ?_⟩
  go_wp2_with fail
  rw [HRk.out]
  refine close_one Tryz.results31 rfl rfl R2.out.put9s Tryz.underlying40 rfl (by kernel_rfl) ?_
  exact ⟨A', d', none, 0, rfl, HSl.out, Syms.far9s HZ6.out (Syms.neO HZ6.out R2.out dz_no) _ _ _ _ _ _ _ _ _, Texts.nil _ _, below_set9s BC.out (show w.heap.size ≤ w.heap.size + 1 + 1 by omega) _ _ _ _ _ _ _ _ _⟩
end
end Go.Proofs.YtcikoaeiopbbbaaGreat
