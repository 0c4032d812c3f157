/- Layer 20: goOn. -/
import Derived.Test.YtcamoigcfiemhaaScK
namespace Go.Proofs.Ytcamoigcfiemhaa
set_option linter.unusedVariables false
set_option linter.unusedSimpArgs false
open Go.RowKit Go.Lib
set_option maxRecDepth 100000
theorem DoesOut.of {M : Nat → Prop} {w w1 : World} {v : Value} {s' : Sys} {e : Ending} {w' : World} (hf : FrM M w w1) (h : DoesOut M w1 v s' e w') : DoesOut M w v s' e w' := by
  obtain ⟨rfl, N, h1, h2, h3⟩ := h
  exact ⟨rfl, N, h1, hf.trans h2 (fun g h => .inl h), fun g hg => by
    rcases h3 g hg with h | ⟨h, h'⟩
    · exact .inl h
    · exact .inr ⟨Nat.le_trans hf.size h, h'⟩⟩
set_option maxHeartbeats 8000000 in
theorem goOn_any (M : Nat → Prop) (v : Value) (s : Sys) (w : World) (h : OwnM M w v s) (hMw : ∀ g, M g → g < w.heap.size) (k : Nat) (hk : k ≤ 1000) (hwr : WR k s) (t : Nat) (ht : t < s.th.length) (hcan : canS s t = true) : Calls Try.prog 47 #[v, .int .i64 (t : Int)] w (DoesOut M w v (stepS s t)) := by
  have h8 := hwr.n8
  obtain ⟨A0, c0, A1, c1, A2, c2, A3, c3, A4, c4, A5, c5, rs0, rs5, rfl, P⟩ := h
  have t0 : (t : Int) < (s.th.length : Int) := by omega
  have tp : t < s.pc.length := by rw [hwr.pcl]; exact ht
  have t1 : (t : Int) < (s.pc.length : Int) := by omega
  obtain ⟨b0, o0, B, n, d, rfl, hb0, g0, -, hq⟩ := (OwnRR.read encIn_len (by decide) P.th).at t ht
  obtain ⟨g1, rfl, -, hg1⟩ := own_addr P.pc (by omega)
  have hc' : endS s t = false ∧ canI s (insAt s t) = true := by simpa [canS] using hcan
  obtain ⟨he, hci⟩ := hc'
  obtain ⟨hlt, hin⟩ := hwr.next ht he
  obtain ⟨p, hp⟩ := Nat.of_int (hwr.row t ht).2.1
  have hn := hq.1
  have hpl : p < n := by omega
  have hpl' : (p : Int) < (n : Int) := by omega
  have hp16 : (p : Int) ≤ 16 := by have := (hwr.row t ht).1; omega
  obtain ⟨b2, o2, rfl, hb2, x0, x1, x2⟩ := Inss.cells hq (Below.refl _ _) p hpl
  have hix : insAt s t = (s.th.getD t []).getD p default := by unfold insAt; rw [hp]; rfl
  rw [← hix] at x0 x1 x2
  obtain ⟨xi, hxi⟩ : ∃ xi, xi = insAt s t := ⟨_, rfl⟩
  rw [← hxi] at x0 x1 x2 hin hci
  have HIx := Lib.hid hxi.symm
  clear hxi hix hlt
  obtain ⟨op, na, nu⟩ := xi
  obtain ⟨i0, i1, i2, i3, i4, i5⟩ := inB_parts hin
  obtain ⟨a, rfl⟩ : ∃ a : Nat, na = (a : Int) := Nat.of_int i2
  have ha : a < 4 := by have i3 : (a : Int) ≤ 3 := i3; omega
  have hnu : -1000 ≤ nu ∧ nu ≤ 1000 := ⟨i4, i5⟩
  have hop : op = 0 ∨ op = 1 ∨ op = 2 ∨ op = 3 ∨ op = 4 := by have : (0 : Int) ≤ op := i0; have : op ≤ 4 := i1; omega
  have g1c := World.ownsRow.cellAt P.pc t (by omega)
  rw [List.getElem?_map, show s.pc[t]? = some (s.pc.getD t 0) by rw [List.getD, List.getElem?_eq_getElem tp]; rfl, hp] at g1c
  replace g1c : w.cell? ⟨g1, t, none⟩ = some (.int .i64 (p : Int)) := g1c
  have G0 := Lib.hid (fun wx (hb : Below w.heap.size w wx) => (hb.cell (p := ⟨b0, o0 + t, none⟩) hb0).trans g0)
  have G1 := Lib.hid (fun wx (hb : Below w.heap.size w wx) => (hb.cell (p := ⟨g1, t, none⟩) hg1).trans g1c)
  have X0 := Lib.hid (fun wx (hb : Below w.heap.size w wx) => (hb.cell (p := ⟨b2, o2 + p * 3, none⟩) hb2).trans (show w.cell? ⟨b2, o2 + p * 3, none⟩ = some (.int .i64 op) from x0))
  have X1 := Lib.hid (fun wx (hb : Below w.heap.size w wx) => (hb.cell (p := ⟨b2, o2 + p * 3 + 1, none⟩) hb2).trans (show w.cell? ⟨b2, o2 + p * 3 + 1, none⟩ = some (.int .i64 (a : Int)) from x1))
  have X2 := Lib.hid (fun wx (hb : Below w.heap.size w wx) => (hb.cell (p := ⟨b2, o2 + p * 3 + 2, none⟩) hb2).trans (show w.cell? ⟨b2, o2 + p * 3 + 2, none⟩ = some (.int .i64 nu) from x2))
  have HP := Lib.hid P
  have HHp := Lib.hid hp
  have HMw := Lib.hid hMw
  have W2 := Lib.hid ((Below.refl w.heap.size w).alloc (Nat.le_refl _) (.cells #[.slice (some ⟨b0, o0, none⟩) s.th.length c0, .slice (some ⟨g1, 0, none⟩) s.pc.length c1, .slice A2 s.su.length c2, .slice A3 s.lo.length c3, .slice A4 s.ce.length c4, .slice A5 s.ch.length c5] 26))
  have Q0 := Lib.hid (Box.new w 26 #[.slice (some ⟨b0, o0, none⟩) s.th.length c0, .slice (some ⟨g1, 0, none⟩) s.pc.length c1, .slice A2 s.su.length c2, .slice A3 s.lo.length c3, .slice A4 s.ce.length c4, .slice A5 s.ch.length c5])
  clear x0 x1 x2 hb2 i0 i1 i2 i3 i4 i5 hin g0 g1c hb0 hg1 hq hn P he hMw hp hcan
  obtain ⟨r0, r1, r2, r3, r4, r5⟩ := Q0.out.six
  go_enter Try.func47, Try.ntmps47
  go_upto_region 1 with (fail)
  go_cut [4] (fun v wx => ∃ gi : Nat, v = .pointer (some ⟨gi, 0, none⟩) ∧ Hid (w.heap.size < gi) ∧ Hid (Box wx gi 57 #[.int .i64 op, .int .i64 (a : Int), .int .i64 nu]) ∧ Hid (Box wx w.heap.size 26 #[.slice (some ⟨b0, o0, none⟩) s.th.length c0, .slice (some ⟨g1, 0, none⟩) s.pc.length c1, .slice A2 s.su.length c2, .slice A3 s.lo.length c3, .slice A4 s.ce.length c4, .slice A5 s.ch.length c5]) ∧ Hid (Below w.heap.size w wx))
  case first =>
    have HBz := W2.out.alloc W2.out.size (.cells #[.int .i64 0, .int .i64 0, .int .i64 0] 57)
    have k0 := G0.out _ HBz
    have k1 := G1.out _ HBz
    have x0 := X0.out _ HBz
    have x1 := X1.out _ HBz
    have x2 := X2.out _ HBz
    have XZ := Lib.hid (Box.new (w.alloc (.cells #[.slice (some ⟨b0, o0, none⟩) s.th.length c0, .slice (some ⟨g1, 0, none⟩) s.pc.length c1, .slice A2 s.su.length c2, .slice A3 s.lo.length c3, .slice A4 s.ce.length c4, .slice A5 s.ch.length c5] 26)) 57 #[.int .i64 0, .int .i64 0, .int .i64 0])
    have QZ := Lib.hid (Q0.out.alloc (.cells #[.int .i64 0, .int .i64 0, .int .i64 0] 57))
    obtain ⟨r0', r1', r2', r3', r4', r5'⟩ := QZ.out.six
    obtain ⟨y0, y1, y2⟩ := XZ.out.three3
    have f0 := XZ.out.free 0
    have f1 := XZ.out.free 1
    have f2 := XZ.out.free 2
    have k0' := G0.out _ W2.out
    have k1' := G1.out _ W2.out
    have x0' := X0.out _ W2.out
    have x1' := X1.out _ W2.out
    have x2' := X2.out _ W2.out
    clear HBz
    go_region
    all_goals
      go_wp2_with fail
      go_meet
      exact ⟨w.heap.size + 1, by simp, Lib.hid (Nat.lt_succ_self _), Lib.hid (by have := (Box.new (w.alloc (.cells #[.slice (some ⟨b0, o0, none⟩) s.th.length c0, .slice (some ⟨g1, 0, none⟩) s.pc.length c1, .slice A2 s.su.length c2, .slice A3 s.lo.length c3, .slice A4 s.ce.length c4, .slice A5 s.ch.length c5] 26)) 57 #[.int .i64 op, .int .i64 (a : Int), .int .i64 nu]).drew; simpa only [World.size_alloc] using this), Lib.hid (Q0.out.alloc _).drew, Lib.hid (W2.out.alloc W2.out.size _).drew⟩
  case rest =>
    obtain ⟨gi, rfl, Hgi, XI, QI, HBi⟩ := hcut
    obtain ⟨wi, hwi⟩ : ∃ x : World, x = wc := ⟨_, rfl⟩
    subst hwi
    have g1c := G1.out _ HBi.out
    have PI := Lib.hid (HP.out.keepB HBi.out)
    have g1f := World.ownsRow.frozenAt PI.out.pc t
    have ST := Lib.hid (PI.out.set_pc t ((p : Int) + 1))
    have nq := own_ne PI.out.pc QI.out (by decide)
    have nx := own_ne PI.out.pc XI.out (by decide)
    have Q2 := Lib.hid (Box.grown QI.out ST.out.2.1 (fun e => nq e))
    have X3 := Lib.hid (Box.grown XI.out ST.out.2.1 (fun e => nx e))
    have FR2 := Lib.hid ((FrM.of (M := M) HBi.out).trans (FrM.grown (M := M) ST.out.2.1 ST.out.2.2) (fun g h => .inl h))
    have OW2 := Lib.hid (show OwnM M (wi.setCell ⟨g1, t, none⟩ (.int .i64 ((p : Int) + 1))) (.agg #[.slice (some ⟨b0, o0, none⟩) s.th.length c0, .slice (some ⟨g1, 0, none⟩) s.pc.length c1, .slice A2 s.su.length c2, .slice A3 s.lo.length c3, .slice A4 s.ce.length c4, .slice A5 s.ch.length c5]) (bumpS s t) from ⟨some ⟨b0, o0, none⟩, c0, some ⟨g1, 0, none⟩, c1, A2, c2, A3, c3, A4, c4, A5, c5, rs0, rs5, by simp only [bumpS, List.length_set], by unfold bumpS; rw [HHp.out]; exact ST.out.1⟩)
    clear nq nx r0 r1 r2 r3 r4 r5 W2 Q0 G0 G1 X0 X1 X2 HP
    obtain ⟨r0, r1, r2, r3, r4, r5⟩ := QI.out.six
    go_upto_region 3 with (fail)
    clear r0 r1 r2 r3 r4 r5 g1c g1f ST PI QI XI
    generalize wi.setCell ⟨g1, t, none⟩ (.int .i64 ((p : Int) + 1)) = w2 at *
    obtain ⟨r0, r1, r2, r3, r4, r5⟩ := Q2.out.six
    obtain ⟨y0, y1, y2⟩ := X3.out.three3
    have HnM := Lib.hid (show ¬ M w.heap.size from fun h => by have := HMw.out _ h; omega)
    have HgM := Lib.hid (show ¬ M gi from fun h => by have h1 := HMw.out _ h; have h2 := Hgi.out; omega)
    have FRd := Lib.hid (FR2.out.trans (FrM.of (M := M) ((Below.refl _ _).drew)) (fun g h => .inl h))
    have OWd := Lib.hid (OW2.out.keepB ((Below.refl _ _).drew))
    have Qd := Lib.hid (Q2.out.keep ((Below.refl _ _).drew))
    have Xd := Lib.hid (X3.out.keep ((Below.refl _ _).drew))
    clear FR2 OW2 t0 t1 hpl hpl' hp16 HHp
    rcases hop with rfl | rfl | rfl | rfl | rfl
    · have HDo := Lib.hid (show ∀ wx, OwnM M wx (.agg #[.slice (some ⟨b0, o0, none⟩) s.th.length c0, .slice (some ⟨g1, 0, none⟩) s.pc.length c1, .slice A2 s.su.length c2, .slice A3 s.lo.length c3, .slice A4 s.ce.length c4, .slice A5 s.ch.length c5]) (bumpS s t) → Calls Try.prog 70 #[.agg #[.slice (some ⟨b0, o0, none⟩) s.th.length c0, .slice (some ⟨g1, 0, none⟩) s.pc.length c1, .slice A2 s.su.length c2, .slice A3 s.lo.length c3, .slice A4 s.ce.length c4, .slice A5 s.ch.length c5], .int .i64 (t : Int), .agg #[.int .i64 0, .int .i64 (a : Int), .int .i64 nu]] wx (DoesOut M wx (.agg #[.slice (some ⟨b0, o0, none⟩) s.th.length c0, .slice (some ⟨g1, 0, none⟩) s.pc.length c1, .slice A2 s.su.length c2, .slice A3 s.lo.length c3, .slice A4 s.ce.length c4, .slice A5 s.ch.length c5]) { bumpS s t with lo := (bumpS s t).lo.set a (t : Int) }) from fun wx h => lock_any M _ _ wx h t a nu ha hwr.lol)
      have HE := Lib.hid (show stepS s t = { bumpS s t with lo := (bumpS s t).lo.set a (t : Int) } from by unfold stepS; rw [HIx.out]; rfl)
      have ix : ∀ w : World, (Instr.index 84 (.agg #[.func (.func 69) #[] #[], .func (.func 70) #[] #[], .func (.func 71) #[] #[], .func (.func 72) #[] #[], .func (.func 71) #[] #[], .func (.func 73) #[] #[], .func (.func 74) #[] #[], .func (.func 75) #[] #[], .func (.func 76) #[] #[], .func (.func 77) #[] #[]]) (.int .i64 0)).run Try.prog w = .ok (.agg #[.func (.func 69) #[] #[], .func (.func 70) #[] #[]]) w := fun _ => by kernel_rfl
      have fx : ∀ w : World, (Instr.field 83 (.agg #[.func (.func 69) #[] #[], .func (.func 70) #[] #[]]) 1).run Try.prog w = .ok (.func (.func 70) #[] #[]) w := fun _ => by kernel_rfl
      have eg : ∀ args w, (callFunc 70 args).run Try.prog w = .ok (.enter 70 args) w := enters_of Try.func70 (by kernel_rfl) rfl
      clear hwr hci
      rw [HE.out]
      clear HE
      generalize { bumpS s t with lo := (bumpS s t).lo.set a (t : Int) } = sF at *
      go_region_held3 (fun (w' : World) => w'.cell? ⟨w.heap.size, 0, none⟩ = some (.slice (some ⟨b0, o0, none⟩) s.th.length c0) ∧ w'.cell? ⟨w.heap.size, 1, none⟩ = some (.slice (some ⟨g1, 0, none⟩) s.pc.length c1) ∧ w'.cell? ⟨w.heap.size, 2, none⟩ = some (.slice A2 s.su.length c2) ∧ w'.cell? ⟨w.heap.size, 3, none⟩ = some (.slice A3 s.lo.length c3) ∧ w'.cell? ⟨w.heap.size, 4, none⟩ = some (.slice A4 s.ce.length c4) ∧ w'.cell? ⟨w.heap.size, 5, none⟩ = some (.slice A5 s.ch.length c5) ∧ w'.cell? ⟨gi, 0, none⟩ = some (.int .i64 0) ∧ w'.cell? ⟨gi, 1, none⟩ = some (.int .i64 (a : Int)) ∧ w'.cell? ⟨gi, 2, none⟩ = some (.int .i64 nu)) (go_keep) (first
        | (go_at_call 60; refine (instrs_any _).mono ?_; rintro e w7 ⟨rfl, hb⟩; have FR7 := Lib.hid (FRd.out.trans (FrM.of (M := M) hb) (fun g h => .inl h)); have OW7 := Lib.hid (OWd.out.keepB hb); obtain ⟨m0, m1, m2, m3, m4, m5⟩ := (Qd.out.keep hb).six; obtain ⟨p0, p1, p2⟩ := (Xd.out.keep hb).three3; have Q7 := Lib.hid (Qd.out.keep hb); have X7 := Lib.hid (Xd.out.keep hb); clear hb)
        | (go_at_call 70; refine (HDo.out _ OW7.out).mono ?_; rintro e w8 hdo; have HD8 := Lib.hid (DoesOut.of FR7.out hdo); obtain ⟨rfl, N8, hN1, hN2, hN3⟩ := hdo; obtain ⟨n0, n1, n2, n3, n4, n5⟩ := (hN2.box Q7.out HnM.out).six; obtain ⟨u0, u1, u2⟩ := (hN2.box X7.out HgM.out).three3; clear hN1 hN2 hN3))
      all_goals
        go_wp2_with fail
        go_end0
        exact HD8.out
    · by_cases hlk : s.lo.getD a 0 = (t : Int)
      · have HDo := Lib.hid (show ∀ wx, OwnM M wx (.agg #[.slice (some ⟨b0, o0, none⟩) s.th.length c0, .slice (some ⟨g1, 0, none⟩) s.pc.length c1, .slice A2 s.su.length c2, .slice A3 s.lo.length c3, .slice A4 s.ce.length c4, .slice A5 s.ch.length c5]) (bumpS s t) → Calls Try.prog 72 #[.agg #[.slice (some ⟨b0, o0, none⟩) s.th.length c0, .slice (some ⟨g1, 0, none⟩) s.pc.length c1, .slice A2 s.su.length c2, .slice A3 s.lo.length c3, .slice A4 s.ce.length c4, .slice A5 s.ch.length c5], .int .i64 (t : Int), .agg #[.int .i64 1, .int .i64 (a : Int), .int .i64 nu]] wx (DoesOut M wx (.agg #[.slice (some ⟨b0, o0, none⟩) s.th.length c0, .slice (some ⟨g1, 0, none⟩) s.pc.length c1, .slice A2 s.su.length c2, .slice A3 s.lo.length c3, .slice A4 s.ce.length c4, .slice A5 s.ch.length c5]) { bumpS s t with lo := (bumpS s t).lo.set a (-1) }) from fun wx h => unlock_yes M _ _ wx h t a nu ha hwr.lol hlk)
        have HE := Lib.hid (show stepS s t = { bumpS s t with lo := (bumpS s t).lo.set a (-1) } from by unfold stepS; rw [HIx.out]; unfold doI; rw [if_neg (show ¬ (1 : Int) = 0 by decide), if_pos rfl]; exact if_pos hlk)
        have ix : ∀ w : World, (Instr.index 84 (.agg #[.func (.func 69) #[] #[], .func (.func 70) #[] #[], .func (.func 71) #[] #[], .func (.func 72) #[] #[], .func (.func 71) #[] #[], .func (.func 73) #[] #[], .func (.func 74) #[] #[], .func (.func 75) #[] #[], .func (.func 76) #[] #[], .func (.func 77) #[] #[]]) (.int .i64 1)).run Try.prog w = .ok (.agg #[.func (.func 71) #[] #[], .func (.func 72) #[] #[]]) w := fun _ => by kernel_rfl
        have fx : ∀ w : World, (Instr.field 83 (.agg #[.func (.func 71) #[] #[], .func (.func 72) #[] #[]]) 1).run Try.prog w = .ok (.func (.func 72) #[] #[]) w := fun _ => by kernel_rfl
        have eg : ∀ args w, (callFunc 72 args).run Try.prog w = .ok (.enter 72 args) w := enters_of Try.func72 (by kernel_rfl) rfl
        clear hwr hci
        rw [HE.out]
        clear HE
        generalize { bumpS s t with lo := (bumpS s t).lo.set a (-1) } = sF at *
        go_region_held3 (fun (w' : World) => w'.cell? ⟨w.heap.size, 0, none⟩ = some (.slice (some ⟨b0, o0, none⟩) s.th.length c0) ∧ w'.cell? ⟨w.heap.size, 1, none⟩ = some (.slice (some ⟨g1, 0, none⟩) s.pc.length c1) ∧ w'.cell? ⟨w.heap.size, 2, none⟩ = some (.slice A2 s.su.length c2) ∧ w'.cell? ⟨w.heap.size, 3, none⟩ = some (.slice A3 s.lo.length c3) ∧ w'.cell? ⟨w.heap.size, 4, none⟩ = some (.slice A4 s.ce.length c4) ∧ w'.cell? ⟨w.heap.size, 5, none⟩ = some (.slice A5 s.ch.length c5) ∧ w'.cell? ⟨gi, 0, none⟩ = some (.int .i64 1) ∧ w'.cell? ⟨gi, 1, none⟩ = some (.int .i64 (a : Int)) ∧ w'.cell? ⟨gi, 2, none⟩ = some (.int .i64 nu)) (go_keep) (first
          | (go_at_call 60; refine (instrs_any _).mono ?_; rintro e w7 ⟨rfl, hb⟩; have FR7 := Lib.hid (FRd.out.trans (FrM.of (M := M) hb) (fun g h => .inl h)); have OW7 := Lib.hid (OWd.out.keepB hb); obtain ⟨m0, m1, m2, m3, m4, m5⟩ := (Qd.out.keep hb).six; obtain ⟨p0, p1, p2⟩ := (Xd.out.keep hb).three3; have Q7 := Lib.hid (Qd.out.keep hb); have X7 := Lib.hid (Xd.out.keep hb); clear hb)
          | (go_at_call 72; refine (HDo.out _ OW7.out).mono ?_; rintro e w8 hdo; have HD8 := Lib.hid (DoesOut.of FR7.out hdo); obtain ⟨rfl, N8, hN1, hN2, hN3⟩ := hdo; obtain ⟨n0, n1, n2, n3, n4, n5⟩ := (hN2.box Q7.out HnM.out).six; obtain ⟨u0, u1, u2⟩ := (hN2.box X7.out HgM.out).three3; clear hN1 hN2 hN3))
        all_goals
          go_wp2_with fail
          go_end0
          exact HD8.out
      · have HDo := Lib.hid (show ∀ wx, OwnM M wx (.agg #[.slice (some ⟨b0, o0, none⟩) s.th.length c0, .slice (some ⟨g1, 0, none⟩) s.pc.length c1, .slice A2 s.su.length c2, .slice A3 s.lo.length c3, .slice A4 s.ce.length c4, .slice A5 s.ch.length c5]) (bumpS s t) → Calls Try.prog 72 #[.agg #[.slice (some ⟨b0, o0, none⟩) s.th.length c0, .slice (some ⟨g1, 0, none⟩) s.pc.length c1, .slice A2 s.su.length c2, .slice A3 s.lo.length c3, .slice A4 s.ce.length c4, .slice A5 s.ch.length c5], .int .i64 (t : Int), .agg #[.int .i64 1, .int .i64 (a : Int), .int .i64 nu]] wx (DoesOut M wx (.agg #[.slice (some ⟨b0, o0, none⟩) s.th.length c0, .slice (some ⟨g1, 0, none⟩) s.pc.length c1, .slice A2 s.su.length c2, .slice A3 s.lo.length c3, .slice A4 s.ce.length c4, .slice A5 s.ch.length c5]) (bumpS s t)) from fun wx h => unlock_no M _ _ wx h t a nu ha hwr.lol hlk)
        have HE := Lib.hid (show stepS s t = (bumpS s t) from by unfold stepS; rw [HIx.out]; unfold doI; rw [if_neg (show ¬ (1 : Int) = 0 by decide), if_pos rfl]; exact if_neg hlk)
        have ix : ∀ w : World, (Instr.index 84 (.agg #[.func (.func 69) #[] #[], .func (.func 70) #[] #[], .func (.func 71) #[] #[], .func (.func 72) #[] #[], .func (.func 71) #[] #[], .func (.func 73) #[] #[], .func (.func 74) #[] #[], .func (.func 75) #[] #[], .func (.func 76) #[] #[], .func (.func 77) #[] #[]]) (.int .i64 1)).run Try.prog w = .ok (.agg #[.func (.func 71) #[] #[], .func (.func 72) #[] #[]]) w := fun _ => by kernel_rfl
        have fx : ∀ w : World, (Instr.field 83 (.agg #[.func (.func 71) #[] #[], .func (.func 72) #[] #[]]) 1).run Try.prog w = .ok (.func (.func 72) #[] #[]) w := fun _ => by kernel_rfl
        have eg : ∀ args w, (callFunc 72 args).run Try.prog w = .ok (.enter 72 args) w := enters_of Try.func72 (by kernel_rfl) rfl
        clear hwr hci
        rw [HE.out]
        clear HE
        generalize (bumpS s t) = sF at *
        go_region_held3 (fun (w' : World) => w'.cell? ⟨w.heap.size, 0, none⟩ = some (.slice (some ⟨b0, o0, none⟩) s.th.length c0) ∧ w'.cell? ⟨w.heap.size, 1, none⟩ = some (.slice (some ⟨g1, 0, none⟩) s.pc.length c1) ∧ w'.cell? ⟨w.heap.size, 2, none⟩ = some (.slice A2 s.su.length c2) ∧ w'.cell? ⟨w.heap.size, 3, none⟩ = some (.slice A3 s.lo.length c3) ∧ w'.cell? ⟨w.heap.size, 4, none⟩ = some (.slice A4 s.ce.length c4) ∧ w'.cell? ⟨w.heap.size, 5, none⟩ = some (.slice A5 s.ch.length c5) ∧ w'.cell? ⟨gi, 0, none⟩ = some (.int .i64 1) ∧ w'.cell? ⟨gi, 1, none⟩ = some (.int .i64 (a : Int)) ∧ w'.cell? ⟨gi, 2, none⟩ = some (.int .i64 nu)) (go_keep) (first
          | (go_at_call 60; refine (instrs_any _).mono ?_; rintro e w7 ⟨rfl, hb⟩; have FR7 := Lib.hid (FRd.out.trans (FrM.of (M := M) hb) (fun g h => .inl h)); have OW7 := Lib.hid (OWd.out.keepB hb); obtain ⟨m0, m1, m2, m3, m4, m5⟩ := (Qd.out.keep hb).six; obtain ⟨p0, p1, p2⟩ := (Xd.out.keep hb).three3; have Q7 := Lib.hid (Qd.out.keep hb); have X7 := Lib.hid (Xd.out.keep hb); clear hb)
          | (go_at_call 72; refine (HDo.out _ OW7.out).mono ?_; rintro e w8 hdo; have HD8 := Lib.hid (DoesOut.of FR7.out hdo); obtain ⟨rfl, N8, hN1, hN2, hN3⟩ := hdo; obtain ⟨n0, n1, n2, n3, n4, n5⟩ := (hN2.box Q7.out HnM.out).six; obtain ⟨u0, u1, u2⟩ := (hN2.box X7.out HgM.out).three3; clear hN1 hN2 hN3))
        all_goals
          go_wp2_with fail
          go_end0
          exact HD8.out
    · have HDo := Lib.hid (show ∀ wx, OwnM M wx (.agg #[.slice (some ⟨b0, o0, none⟩) s.th.length c0, .slice (some ⟨g1, 0, none⟩) s.pc.length c1, .slice A2 s.su.length c2, .slice A3 s.lo.length c3, .slice A4 s.ce.length c4, .slice A5 s.ch.length c5]) (bumpS s t) → Calls Try.prog 73 #[.agg #[.slice (some ⟨b0, o0, none⟩) s.th.length c0, .slice (some ⟨g1, 0, none⟩) s.pc.length c1, .slice A2 s.su.length c2, .slice A3 s.lo.length c3, .slice A4 s.ce.length c4, .slice A5 s.ch.length c5], .int .i64 (t : Int), .agg #[.int .i64 2, .int .i64 (a : Int), .int .i64 nu]] wx (DoesOut M wx (.agg #[.slice (some ⟨b0, o0, none⟩) s.th.length c0, .slice (some ⟨g1, 0, none⟩) s.pc.length c1, .slice A2 s.su.length c2, .slice A3 s.lo.length c3, .slice A4 s.ce.length c4, .slice A5 s.ch.length c5]) { bumpS s t with ce := (bumpS s t).ce.set a ((bumpS s t).ce.getD a 0 + nu) }) from fun wx h => add_any M _ _ wx h t a nu ha hwr.cel (by have := hwr.ceb a; show -4611686018427387904 < s.ce.getD a 0 ∧ s.ce.getD a 0 < 4611686018427387904; omega) hnu)
      have HE := Lib.hid (show stepS s t = { bumpS s t with ce := (bumpS s t).ce.set a ((bumpS s t).ce.getD a 0 + nu) } from by unfold stepS; rw [HIx.out]; rfl)
      have ix : ∀ w : World, (Instr.index 84 (.agg #[.func (.func 69) #[] #[], .func (.func 70) #[] #[], .func (.func 71) #[] #[], .func (.func 72) #[] #[], .func (.func 71) #[] #[], .func (.func 73) #[] #[], .func (.func 74) #[] #[], .func (.func 75) #[] #[], .func (.func 76) #[] #[], .func (.func 77) #[] #[]]) (.int .i64 2)).run Try.prog w = .ok (.agg #[.func (.func 71) #[] #[], .func (.func 73) #[] #[]]) w := fun _ => by kernel_rfl
      have fx : ∀ w : World, (Instr.field 83 (.agg #[.func (.func 71) #[] #[], .func (.func 73) #[] #[]]) 1).run Try.prog w = .ok (.func (.func 73) #[] #[]) w := fun _ => by kernel_rfl
      have eg : ∀ args w, (callFunc 73 args).run Try.prog w = .ok (.enter 73 args) w := enters_of Try.func73 (by kernel_rfl) rfl
      clear hwr hci
      rw [HE.out]
      clear HE
      generalize { bumpS s t with ce := (bumpS s t).ce.set a ((bumpS s t).ce.getD a 0 + nu) } = sF at *
      go_region_held3 (fun (w' : World) => w'.cell? ⟨w.heap.size, 0, none⟩ = some (.slice (some ⟨b0, o0, none⟩) s.th.length c0) ∧ w'.cell? ⟨w.heap.size, 1, none⟩ = some (.slice (some ⟨g1, 0, none⟩) s.pc.length c1) ∧ w'.cell? ⟨w.heap.size, 2, none⟩ = some (.slice A2 s.su.length c2) ∧ w'.cell? ⟨w.heap.size, 3, none⟩ = some (.slice A3 s.lo.length c3) ∧ w'.cell? ⟨w.heap.size, 4, none⟩ = some (.slice A4 s.ce.length c4) ∧ w'.cell? ⟨w.heap.size, 5, none⟩ = some (.slice A5 s.ch.length c5) ∧ w'.cell? ⟨gi, 0, none⟩ = some (.int .i64 2) ∧ w'.cell? ⟨gi, 1, none⟩ = some (.int .i64 (a : Int)) ∧ w'.cell? ⟨gi, 2, none⟩ = some (.int .i64 nu)) (go_keep) (first
        | (go_at_call 60; refine (instrs_any _).mono ?_; rintro e w7 ⟨rfl, hb⟩; have FR7 := Lib.hid (FRd.out.trans (FrM.of (M := M) hb) (fun g h => .inl h)); have OW7 := Lib.hid (OWd.out.keepB hb); obtain ⟨m0, m1, m2, m3, m4, m5⟩ := (Qd.out.keep hb).six; obtain ⟨p0, p1, p2⟩ := (Xd.out.keep hb).three3; have Q7 := Lib.hid (Qd.out.keep hb); have X7 := Lib.hid (Xd.out.keep hb); clear hb)
        | (go_at_call 73; refine (HDo.out _ OW7.out).mono ?_; rintro e w8 hdo; have HD8 := Lib.hid (DoesOut.of FR7.out hdo); obtain ⟨rfl, N8, hN1, hN2, hN3⟩ := hdo; obtain ⟨n0, n1, n2, n3, n4, n5⟩ := (hN2.box Q7.out HnM.out).six; obtain ⟨u0, u1, u2⟩ := (hN2.box X7.out HgM.out).three3; clear hN1 hN2 hN3))
      all_goals
        go_wp2_with fail
        go_end0
        exact HD8.out
    · have HDo := Lib.hid (show ∀ wx, OwnM M wx (.agg #[.slice (some ⟨b0, o0, none⟩) s.th.length c0, .slice (some ⟨g1, 0, none⟩) s.pc.length c1, .slice A2 s.su.length c2, .slice A3 s.lo.length c3, .slice A4 s.ce.length c4, .slice A5 s.ch.length c5]) (bumpS s t) → Calls Try.prog 75 #[.agg #[.slice (some ⟨b0, o0, none⟩) s.th.length c0, .slice (some ⟨g1, 0, none⟩) s.pc.length c1, .slice A2 s.su.length c2, .slice A3 s.lo.length c3, .slice A4 s.ce.length c4, .slice A5 s.ch.length c5], .int .i64 (t : Int), .agg #[.int .i64 3, .int .i64 (a : Int), .int .i64 nu]] wx (DoesOut M wx (.agg #[.slice (some ⟨b0, o0, none⟩) s.th.length c0, .slice (some ⟨g1, 0, none⟩) s.pc.length c1, .slice A2 s.su.length c2, .slice A3 s.lo.length c3, .slice A4 s.ce.length c4, .slice A5 s.ch.length c5]) { bumpS s t with ch := (bumpS s t).ch.set a ((bumpS s t).ch.getD a [] ++ [nu]) }) from fun wx h => send_any M _ _ wx h t a nu ha hwr.chl (hwr.chb a).1 hnu)
      have HE := Lib.hid (show stepS s t = { bumpS s t with ch := (bumpS s t).ch.set a ((bumpS s t).ch.getD a [] ++ [nu]) } from by unfold stepS; rw [HIx.out]; rfl)
      have ix : ∀ w : World, (Instr.index 84 (.agg #[.func (.func 69) #[] #[], .func (.func 70) #[] #[], .func (.func 71) #[] #[], .func (.func 72) #[] #[], .func (.func 71) #[] #[], .func (.func 73) #[] #[], .func (.func 74) #[] #[], .func (.func 75) #[] #[], .func (.func 76) #[] #[], .func (.func 77) #[] #[]]) (.int .i64 3)).run Try.prog w = .ok (.agg #[.func (.func 74) #[] #[], .func (.func 75) #[] #[]]) w := fun _ => by kernel_rfl
      have fx : ∀ w : World, (Instr.field 83 (.agg #[.func (.func 74) #[] #[], .func (.func 75) #[] #[]]) 1).run Try.prog w = .ok (.func (.func 75) #[] #[]) w := fun _ => by kernel_rfl
      have eg : ∀ args w, (callFunc 75 args).run Try.prog w = .ok (.enter 75 args) w := enters_of Try.func75 (by kernel_rfl) rfl
      clear hwr hci
      rw [HE.out]
      clear HE
      generalize { bumpS s t with ch := (bumpS s t).ch.set a ((bumpS s t).ch.getD a [] ++ [nu]) } = sF at *
      go_region_held3 (fun (w' : World) => w'.cell? ⟨w.heap.size, 0, none⟩ = some (.slice (some ⟨b0, o0, none⟩) s.th.length c0) ∧ w'.cell? ⟨w.heap.size, 1, none⟩ = some (.slice (some ⟨g1, 0, none⟩) s.pc.length c1) ∧ w'.cell? ⟨w.heap.size, 2, none⟩ = some (.slice A2 s.su.length c2) ∧ w'.cell? ⟨w.heap.size, 3, none⟩ = some (.slice A3 s.lo.length c3) ∧ w'.cell? ⟨w.heap.size, 4, none⟩ = some (.slice A4 s.ce.length c4) ∧ w'.cell? ⟨w.heap.size, 5, none⟩ = some (.slice A5 s.ch.length c5) ∧ w'.cell? ⟨gi, 0, none⟩ = some (.int .i64 3) ∧ w'.cell? ⟨gi, 1, none⟩ = some (.int .i64 (a : Int)) ∧ w'.cell? ⟨gi, 2, none⟩ = some (.int .i64 nu)) (go_keep) (first
        | (go_at_call 60; refine (instrs_any _).mono ?_; rintro e w7 ⟨rfl, hb⟩; have FR7 := Lib.hid (FRd.out.trans (FrM.of (M := M) hb) (fun g h => .inl h)); have OW7 := Lib.hid (OWd.out.keepB hb); obtain ⟨m0, m1, m2, m3, m4, m5⟩ := (Qd.out.keep hb).six; obtain ⟨p0, p1, p2⟩ := (Xd.out.keep hb).three3; have Q7 := Lib.hid (Qd.out.keep hb); have X7 := Lib.hid (Xd.out.keep hb); clear hb)
        | (go_at_call 75; refine (HDo.out _ OW7.out).mono ?_; rintro e w8 hdo; have HD8 := Lib.hid (DoesOut.of FR7.out hdo); obtain ⟨rfl, N8, hN1, hN2, hN3⟩ := hdo; obtain ⟨n0, n1, n2, n3, n4, n5⟩ := (hN2.box Q7.out HnM.out).six; obtain ⟨u0, u1, u2⟩ := (hN2.box X7.out HgM.out).three3; clear hN1 hN2 hN3))
      all_goals
        go_wp2_with fail
        go_end0
        exact HD8.out
    · have hne4 : 0 < (s.ch.getD a []).length := by
        have h9 := (hci : canI s (4, (a : Int), nu) = true)
        simp [canI] at h9
        simpa [List.getD] using h9
      have HDo := Lib.hid (show ∀ wx, OwnM M wx (.agg #[.slice (some ⟨b0, o0, none⟩) s.th.length c0, .slice (some ⟨g1, 0, none⟩) s.pc.length c1, .slice A2 s.su.length c2, .slice A3 s.lo.length c3, .slice A4 s.ce.length c4, .slice A5 s.ch.length c5]) (bumpS s t) → Calls Try.prog 77 #[.agg #[.slice (some ⟨b0, o0, none⟩) s.th.length c0, .slice (some ⟨g1, 0, none⟩) s.pc.length c1, .slice A2 s.su.length c2, .slice A3 s.lo.length c3, .slice A4 s.ce.length c4, .slice A5 s.ch.length c5], .int .i64 (t : Int), .agg #[.int .i64 4, .int .i64 (a : Int), .int .i64 nu]] wx (DoesOut M wx (.agg #[.slice (some ⟨b0, o0, none⟩) s.th.length c0, .slice (some ⟨g1, 0, none⟩) s.pc.length c1, .slice A2 s.su.length c2, .slice A3 s.lo.length c3, .slice A4 s.ce.length c4, .slice A5 s.ch.length c5]) { bumpS s t with su := (bumpS s t).su.set t ((bumpS s t).su.getD t 0 + ((bumpS s t).ch.getD a []).getD 0 0), ch := (bumpS s t).ch.set a (((bumpS s t).ch.getD a []).drop 1) }) from fun wx h => receive_any M _ _ wx h t a nu (by show t < s.su.length; rw [hwr.sul]; exact ht) (by show s.su.length ≤ 8; rw [hwr.sul]; exact hwr.n8) ha hwr.chl (hwr.chb a).1 hne4 (by have := hwr.sub t; show -4611686018427387904 < s.su.getD t 0 ∧ s.su.getD t 0 < 4611686018427387904; omega) ((hwr.chb a).2 0))
      have HE := Lib.hid (show stepS s t = { bumpS s t with su := (bumpS s t).su.set t ((bumpS s t).su.getD t 0 + ((bumpS s t).ch.getD a []).getD 0 0), ch := (bumpS s t).ch.set a (((bumpS s t).ch.getD a []).drop 1) } from by unfold stepS; rw [HIx.out]; rfl)
      have ix : ∀ w : World, (Instr.index 84 (.agg #[.func (.func 69) #[] #[], .func (.func 70) #[] #[], .func (.func 71) #[] #[], .func (.func 72) #[] #[], .func (.func 71) #[] #[], .func (.func 73) #[] #[], .func (.func 74) #[] #[], .func (.func 75) #[] #[], .func (.func 76) #[] #[], .func (.func 77) #[] #[]]) (.int .i64 4)).run Try.prog w = .ok (.agg #[.func (.func 76) #[] #[], .func (.func 77) #[] #[]]) w := fun _ => by kernel_rfl
      have fx : ∀ w : World, (Instr.field 83 (.agg #[.func (.func 76) #[] #[], .func (.func 77) #[] #[]]) 1).run Try.prog w = .ok (.func (.func 77) #[] #[]) w := fun _ => by kernel_rfl
      have eg : ∀ args w, (callFunc 77 args).run Try.prog w = .ok (.enter 77 args) w := enters_of Try.func77 (by kernel_rfl) rfl
      clear hwr hci
      rw [HE.out]
      clear HE
      generalize { bumpS s t with su := (bumpS s t).su.set t ((bumpS s t).su.getD t 0 + ((bumpS s t).ch.getD a []).getD 0 0), ch := (bumpS s t).ch.set a (((bumpS s t).ch.getD a []).drop 1) } = sF at *
      go_region_held3 (fun (w' : World) => w'.cell? ⟨w.heap.size, 0, none⟩ = some (.slice (some ⟨b0, o0, none⟩) s.th.length c0) ∧ w'.cell? ⟨w.heap.size, 1, none⟩ = some (.slice (some ⟨g1, 0, none⟩) s.pc.length c1) ∧ w'.cell? ⟨w.heap.size, 2, none⟩ = some (.slice A2 s.su.length c2) ∧ w'.cell? ⟨w.heap.size, 3, none⟩ = some (.slice A3 s.lo.length c3) ∧ w'.cell? ⟨w.heap.size, 4, none⟩ = some (.slice A4 s.ce.length c4) ∧ w'.cell? ⟨w.heap.size, 5, none⟩ = some (.slice A5 s.ch.length c5) ∧ w'.cell? ⟨gi, 0, none⟩ = some (.int .i64 4) ∧ w'.cell? ⟨gi, 1, none⟩ = some (.int .i64 (a : Int)) ∧ w'.cell? ⟨gi, 2, none⟩ = some (.int .i64 nu)) (go_keep) (first
        | (go_at_call 60; refine (instrs_any _).mono ?_; rintro e w7 ⟨rfl, hb⟩; have FR7 := Lib.hid (FRd.out.trans (FrM.of (M := M) hb) (fun g h => .inl h)); have OW7 := Lib.hid (OWd.out.keepB hb); obtain ⟨m0, m1, m2, m3, m4, m5⟩ := (Qd.out.keep hb).six; obtain ⟨p0, p1, p2⟩ := (Xd.out.keep hb).three3; have Q7 := Lib.hid (Qd.out.keep hb); have X7 := Lib.hid (Xd.out.keep hb); clear hb)
        | (go_at_call 77; refine (HDo.out _ OW7.out).mono ?_; rintro e w8 hdo; have HD8 := Lib.hid (DoesOut.of FR7.out hdo); obtain ⟨rfl, N8, hN1, hN2, hN3⟩ := hdo; obtain ⟨n0, n1, n2, n3, n4, n5⟩ := (hN2.box Q7.out HnM.out).six; obtain ⟨u0, u1, u2⟩ := (hN2.box X7.out HgM.out).three3; clear hN1 hN2 hN3))
      all_goals
        go_wp2_with fail
        go_end0
        exact HD8.out
end Go.Proofs.Ytcamoigcfiemhaa
