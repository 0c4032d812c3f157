/- Layer 20: canGoOn, enabled. -/
import Derived.Test.YtcamoigcfiemhaaScH
namespace Go.Proofs.Ytcamoigcfiemhaa
set_option linter.unusedVariables false
set_option linter.unusedSimpArgs false
open Go.RowKit Go.Lib
set_option maxRecDepth 100000
theorem Nat.of_int {x : Int} (h : 0 ≤ x) : ∃ n : Nat, x = (n : Int) := ⟨x.toNat, by omega⟩
set_option maxHeartbeats 8000000 in
theorem can_any (v : Value) (s : Sys) (w : World) (h : SysAt w v s) (k : Nat) (hwr : WR k s) (t : Nat) (ht : t < s.th.length) : Calls Try.prog 46 #[v, .int .i64 (t : Int)] w fun e w' => e = .returned (.bool (canS s t)) ∧ Below w.heap.size w w' := by
  have h8 := hwr.n8
  have HAt := Lib.hid (fun wx (hb : Below w.heap.size w wx) => atEnd_any v s wx (h.below hb) t ht (by rw [hwr.pcl]; exact ht) (by omega))
  have HS := Lib.hid h
  obtain ⟨A0, l0, c0, A1, l1, c1, A2, l2, c2, A3, l3, c3, A4, l4, c4, A5, l5, c5, rfl, s0, s1, s2, s3, s4, s5, h0, h1, h2, h3, h4, h5⟩ := h
  have t0 : (t : Int) < (l0 : Int) := by have := h0.1; omega
  have t1 : (t : Int) < (l1 : Int) := by have := h1.1; have := hwr.pcl; omega
  obtain ⟨b0, o0, B, n, d, rfl, hb0, g0, -, hq⟩ := h0.at t (by omega)
  obtain ⟨b1, o1, rfl, hb1, hc1⟩ := h1.2.2 (by omega)
  have g1 := hc1 t (by omega)
  have G0 := Lib.hid (fun wx (hb : Below w.heap.size w wx) => (hb.cell (p := ⟨b0, o0 + t, none⟩) hb0).trans g0)
  have G1 := Lib.hid (fun wx (hb : Below w.heap.size w wx) => (hb.cell (p := ⟨b1, o1 + t, none⟩) hb1).trans g1)
  have HQ := Lib.hid hq
  clear hc1 g0 g1 hb0 hb1 h0 h1 h2 h3 h4 h5 s0 s1 s2 s3 s4 s5 hq
  have W2 := Lib.hid ((Below.refl w.heap.size w).alloc (Nat.le_refl _) (.cells #[.slice (some ⟨b0, o0, none⟩) l0 c0, .slice (some ⟨b1, o1, none⟩) l1 c1, .slice A2 l2 c2, .slice A3 l3 c3, .slice A4 l4 c4, .slice A5 l5 c5] 26))
  have Q0 := Lib.hid (Box.new w 26 #[.slice (some ⟨b0, o0, none⟩) l0 c0, .slice (some ⟨b1, o1, none⟩) l1 c1, .slice A2 l2 c2, .slice A3 l3 c3, .slice A4 l4 c4, .slice A5 l5 c5])
  obtain ⟨r0, r1, r2, r3, r4, r5⟩ := Q0.out.six
  cases he : endS s t with
  | true =>
    rw [he] at HAt
    have HE := Lib.hid (show canS s t = false by simp [canS, he])
    clear he
    go_enter Try.func46, Try.ntmps46
    go_wp2_with fail
    refine (HAt.out _ W2.out).mono ?_
    rintro e w1 ⟨rfl, hb⟩
    have HB1 := Lib.hid (chain W2.out hb)
    clear hb r0 r1 r2 r3 r4 r5
    go_wp2_with fail
    go_ret
    exact ⟨by rw [HE.out]; rfl, HB1.out⟩
  | false =>
    rw [he] at HAt
    have HEn := Lib.hid he
    obtain ⟨hlt, hin⟩ := hwr.next ht he
    clear he
    obtain ⟨p, hp⟩ := Nat.of_int (hwr.row t ht).2.1
    have hpl : p < n := by have := HQ.out.1; omega
    have hpl' : (p : Int) < (n : Int) := by omega
    obtain ⟨b2, o2, rfl, hb2, x0, x1, x2⟩ := Inss.cells HQ.out (Below.refl _ _) p hpl
    have hix : insAt s t = (s.th.getD t []).getD p default := by unfold insAt; rw [hp]; rfl
    rw [hp] at G1
    rw [← hix] at x0 x1 x2
    obtain ⟨xi, hxi⟩ : ∃ xi, xi = insAt s t := ⟨_, rfl⟩
    rw [← hxi] at x0 x1 x2 hin
    have HIx := Lib.hid hxi.symm
    clear hxi hix hp hlt
    obtain ⟨op, na, nu⟩ := xi
    obtain ⟨i0, i1, i2, i3, i4, i5⟩ := inB_parts hin
    obtain ⟨a, rfl⟩ : ∃ a : Nat, na = (a : Int) := Nat.of_int i2
    have ha : a < 4 := by have i3 : (a : Int) ≤ 3 := i3; omega
    have X0 := Lib.hid (fun wx (hb : Below w.heap.size w wx) => (hb.cell (p := ⟨b2, o2 + p * 3, none⟩) hb2).trans (show w.cell? ⟨b2, o2 + p * 3, none⟩ = some (.int .i64 op) from x0))
    have X1 := Lib.hid (fun wx (hb : Below w.heap.size w wx) => (hb.cell (p := ⟨b2, o2 + p * 3 + 1, none⟩) hb2).trans (show w.cell? ⟨b2, o2 + p * 3 + 1, none⟩ = some (.int .i64 (a : Int)) from x1))
    have X2 := Lib.hid (fun wx (hb : Below w.heap.size w wx) => (hb.cell (p := ⟨b2, o2 + p * 3 + 2, none⟩) hb2).trans (show w.cell? ⟨b2, o2 + p * 3 + 2, none⟩ = some (.int .i64 nu) from x2))
    have hop : op = 0 ∨ op = 1 ∨ op = 2 ∨ op = 3 ∨ op = 4 := by have : (0 : Int) ≤ op := i0; have : op ≤ 4 := i1; omega
    clear x0 x1 x2 hb2 i0 i1 i2 i3 i4 i5 hin
    go_enter Try.func46, Try.ntmps46
    go_wp2_with fail
    refine (HAt.out _ W2.out).mono ?_
    rintro e w1 ⟨rfl, hb⟩
    have HB1 := Lib.hid (chain W2.out hb)
    have Q1 := Lib.hid (Q0.out.keep hb)
    clear hb r0 r1 r2 r3 r4 r5
    obtain ⟨r0, r1, r2, r3, r4, r5⟩ := Q1.out.six
    go_upto_region 3 with (fail)
    go_cut [5] (fun v wx => ∃ gi : Nat, v = .pointer (some ⟨gi, 0, none⟩) ∧ Hid (Box wx gi 57 #[.int .i64 op, .int .i64 (a : Int), .int .i64 nu]) ∧ Hid (Box wx w.heap.size 26 #[.slice (some ⟨b0, o0, none⟩) l0 c0, .slice (some ⟨b1, o1, none⟩) l1 c1, .slice A2 l2 c2, .slice A3 l3 c3, .slice A4 l4 c4, .slice A5 l5 c5]) ∧ Hid (Below w.heap.size w wx))
    case first =>
      have HBz := HB1.out.alloc HB1.out.size (.cells #[.int .i64 0, .int .i64 0, .int .i64 0] 57)
      have g0 := G0.out _ HBz
      have g1 := G1.out _ HBz
      have x0 := X0.out _ HBz
      have x1 := X1.out _ HBz
      have x2 := X2.out _ HBz
      have HBZ := Lib.hid HBz
      have XZ := Lib.hid (Box.new w1 57 #[.int .i64 0, .int .i64 0, .int .i64 0])
      have QZ := Lib.hid (Q1.out.alloc (.cells #[.int .i64 0, .int .i64 0, .int .i64 0] 57))
      have g0' := G0.out _ HB1.out
      have g1' := G1.out _ HB1.out
      have x0' := X0.out _ HB1.out
      have x1' := X1.out _ HB1.out
      have x2' := X2.out _ HB1.out
      clear HBz
      obtain ⟨r0', r1', r2', r3', r4', r5'⟩ := QZ.out.six
      obtain ⟨y0, y1, y2⟩ := XZ.out.three3
      have f0 := XZ.out.free 0
      have f1 := XZ.out.free 1
      have f2 := XZ.out.free 2
      go_region
      all_goals
        go_wp2_with fail
        go_meet
        exact ⟨w1.heap.size, rfl, Lib.hid (Box.new w1 57 #[.int .i64 op, .int .i64 (a : Int), .int .i64 nu]).drew, Lib.hid (Q1.out.alloc _).drew, Lib.hid (HB1.out.alloc HB1.out.size _).drew⟩
    case rest =>
      obtain ⟨gi, rfl, XI, QI, HBi⟩ := hcut
      obtain ⟨wi, hwi⟩ : ∃ x : World, x = wc := ⟨_, rfl⟩
      subst hwi
      clear r0 r1 r2 r3 r4 r5
      obtain ⟨r0, r1, r2, r3, r4, r5⟩ := QI.out.six
      obtain ⟨y0, y1, y2⟩ := XI.out.three3
      have HBd := Lib.hid HBi.out.drew
      have Qd := Lib.hid QI.out.drew
      have Xd := Lib.hid XI.out.drew
      clear HAt HB1 Q1 G0 G1 X0 X1 X2 t0 t1
      go_upto_region 4 with (fail)
      rcases hop with rfl | rfl | rfl | rfl | rfl
      · have HCan := Lib.hid (show ∀ wx, Below w.heap.size w wx → Calls Try.prog 69 #[.agg #[.slice (some ⟨b0, o0, none⟩) l0 c0, .slice (some ⟨b1, o1, none⟩) l1 c1, .slice A2 l2 c2, .slice A3 l3 c3, .slice A4 l4 c4, .slice A5 l5 c5], .agg #[.int .i64 0, .int .i64 (a : Int), .int .i64 nu]] wx fun e w' => e = .returned (.bool (canI s (0, (a : Int), nu))) ∧ Below wx.heap.size wx w' from fun wx hb => isFree_any _ s wx (HS.out.below hb) 0 nu a (by rw [hwr.lol]; exact ha) ha)
        have HE := Lib.hid (show canS s t = canI s (0, (a : Int), nu) by unfold canS; rw [HEn.out, HIx.out]; rfl)
        have ix : ∀ w : World, (Instr.index 84 (.agg #[.func (.func 69) #[] #[], .func (.func 70) #[] #[], .func (.func 71) #[] #[], .func (.func 72) #[] #[], .func (.func 71) #[] #[], .func (.func 73) #[] #[], .func (.func 74) #[] #[], .func (.func 75) #[] #[], .func (.func 76) #[] #[], .func (.func 77) #[] #[]]) (.int .i64 0)).run Try.prog w = .ok (.agg #[.func (.func 69) #[] #[], .func (.func 70) #[] #[]]) w := fun _ => by kernel_rfl
        have fx : ∀ w : World, (Instr.field 83 (.agg #[.func (.func 69) #[] #[], .func (.func 70) #[] #[]]) 0).run Try.prog w = .ok (.func (.func 69) #[] #[]) w := fun _ => by kernel_rfl
        have eg : ∀ args w, (callFunc 69 args).run Try.prog w = .ok (.enter 69 args) w := enters_of Try.func69 (by kernel_rfl) rfl
        clear hwr
        generalize canI s (0, (a : Int), nu) = bc at *
        go_region_held3 (fun (w' : World) => w'.cell? ⟨w.heap.size, 0, none⟩ = some (.slice (some ⟨b0, o0, none⟩) l0 c0) ∧ w'.cell? ⟨w.heap.size, 1, none⟩ = some (.slice (some ⟨b1, o1, none⟩) l1 c1) ∧ w'.cell? ⟨w.heap.size, 2, none⟩ = some (.slice A2 l2 c2) ∧ w'.cell? ⟨w.heap.size, 3, none⟩ = some (.slice A3 l3 c3) ∧ w'.cell? ⟨w.heap.size, 4, none⟩ = some (.slice A4 l4 c4) ∧ w'.cell? ⟨w.heap.size, 5, none⟩ = some (.slice A5 l5 c5) ∧ w'.cell? ⟨gi, 0, none⟩ = some (.int .i64 0) ∧ w'.cell? ⟨gi, 1, none⟩ = some (.int .i64 (a : Int)) ∧ w'.cell? ⟨gi, 2, none⟩ = some (.int .i64 nu)) (go_keep) (first
          | (go_at_call 60; refine (instrs_any _).mono ?_; rintro e w7 ⟨rfl, hb⟩; have HB7 := Lib.hid (chain HBd.out hb); obtain ⟨m0, m1, m2, m3, m4, m5⟩ := (Qd.out.keep hb).six; obtain ⟨p0, p1, p2⟩ := (Xd.out.keep hb).three3; have Q7 := Lib.hid (Qd.out.keep hb); have X7 := Lib.hid (Xd.out.keep hb); clear hb)
          | (go_at_call 69; refine (HCan.out _ HB7.out).mono ?_; rintro e w8 ⟨rfl, hb⟩; have HB8 := Lib.hid (chain HB7.out hb); obtain ⟨n0, n1, n2, n3, n4, n5⟩ := (Q7.out.keep hb).six; obtain ⟨u0, u1, u2⟩ := (X7.out.keep hb).three3; clear hb))
        all_goals
          go_wp2_with fail
          go_ret
          exact ⟨by rw [HE.out]; rfl, HB8.out⟩
      · have HCan := Lib.hid (show ∀ wx, Below w.heap.size w wx → Calls Try.prog 71 #[.agg #[.slice (some ⟨b0, o0, none⟩) l0 c0, .slice (some ⟨b1, o1, none⟩) l1 c1, .slice A2 l2 c2, .slice A3 l3 c3, .slice A4 l4 c4, .slice A5 l5 c5], .agg #[.int .i64 1, .int .i64 (a : Int), .int .i64 nu]] wx fun e w' => e = .returned (.bool (canI s (1, (a : Int), nu))) ∧ Below wx.heap.size wx w' from fun wx hb => always_any _ s wx (HS.out.below hb) 1 nu a)
        have HE := Lib.hid (show canS s t = canI s (1, (a : Int), nu) by unfold canS; rw [HEn.out, HIx.out]; rfl)
        have ix : ∀ w : World, (Instr.index 84 (.agg #[.func (.func 69) #[] #[], .func (.func 70) #[] #[], .func (.func 71) #[] #[], .func (.func 72) #[] #[], .func (.func 71) #[] #[], .func (.func 73) #[] #[], .func (.func 74) #[] #[], .func (.func 75) #[] #[], .func (.func 76) #[] #[], .func (.func 77) #[] #[]]) (.int .i64 1)).run Try.prog w = .ok (.agg #[.func (.func 71) #[] #[], .func (.func 72) #[] #[]]) w := fun _ => by kernel_rfl
        have fx : ∀ w : World, (Instr.field 83 (.agg #[.func (.func 71) #[] #[], .func (.func 72) #[] #[]]) 0).run Try.prog w = .ok (.func (.func 71) #[] #[]) w := fun _ => by kernel_rfl
        have eg : ∀ args w, (callFunc 71 args).run Try.prog w = .ok (.enter 71 args) w := enters_of Try.func71 (by kernel_rfl) rfl
        clear hwr
        generalize canI s (1, (a : Int), nu) = bc at *
        go_region_held3 (fun (w' : World) => w'.cell? ⟨w.heap.size, 0, none⟩ = some (.slice (some ⟨b0, o0, none⟩) l0 c0) ∧ w'.cell? ⟨w.heap.size, 1, none⟩ = some (.slice (some ⟨b1, o1, none⟩) l1 c1) ∧ w'.cell? ⟨w.heap.size, 2, none⟩ = some (.slice A2 l2 c2) ∧ w'.cell? ⟨w.heap.size, 3, none⟩ = some (.slice A3 l3 c3) ∧ w'.cell? ⟨w.heap.size, 4, none⟩ = some (.slice A4 l4 c4) ∧ w'.cell? ⟨w.heap.size, 5, none⟩ = some (.slice A5 l5 c5) ∧ w'.cell? ⟨gi, 0, none⟩ = some (.int .i64 1) ∧ w'.cell? ⟨gi, 1, none⟩ = some (.int .i64 (a : Int)) ∧ w'.cell? ⟨gi, 2, none⟩ = some (.int .i64 nu)) (go_keep) (first
          | (go_at_call 60; refine (instrs_any _).mono ?_; rintro e w7 ⟨rfl, hb⟩; have HB7 := Lib.hid (chain HBd.out hb); obtain ⟨m0, m1, m2, m3, m4, m5⟩ := (Qd.out.keep hb).six; obtain ⟨p0, p1, p2⟩ := (Xd.out.keep hb).three3; have Q7 := Lib.hid (Qd.out.keep hb); have X7 := Lib.hid (Xd.out.keep hb); clear hb)
          | (go_at_call 71; refine (HCan.out _ HB7.out).mono ?_; rintro e w8 ⟨rfl, hb⟩; have HB8 := Lib.hid (chain HB7.out hb); obtain ⟨n0, n1, n2, n3, n4, n5⟩ := (Q7.out.keep hb).six; obtain ⟨u0, u1, u2⟩ := (X7.out.keep hb).three3; clear hb))
        all_goals
          go_wp2_with fail
          go_ret
          exact ⟨by rw [HE.out]; rfl, HB8.out⟩
      · have HCan := Lib.hid (show ∀ wx, Below w.heap.size w wx → Calls Try.prog 71 #[.agg #[.slice (some ⟨b0, o0, none⟩) l0 c0, .slice (some ⟨b1, o1, none⟩) l1 c1, .slice A2 l2 c2, .slice A3 l3 c3, .slice A4 l4 c4, .slice A5 l5 c5], .agg #[.int .i64 2, .int .i64 (a : Int), .int .i64 nu]] wx fun e w' => e = .returned (.bool (canI s (2, (a : Int), nu))) ∧ Below wx.heap.size wx w' from fun wx hb => always_any _ s wx (HS.out.below hb) 2 nu a)
        have HE := Lib.hid (show canS s t = canI s (2, (a : Int), nu) by unfold canS; rw [HEn.out, HIx.out]; rfl)
        have ix : ∀ w : World, (Instr.index 84 (.agg #[.func (.func 69) #[] #[], .func (.func 70) #[] #[], .func (.func 71) #[] #[], .func (.func 72) #[] #[], .func (.func 71) #[] #[], .func (.func 73) #[] #[], .func (.func 74) #[] #[], .func (.func 75) #[] #[], .func (.func 76) #[] #[], .func (.func 77) #[] #[]]) (.int .i64 2)).run Try.prog w = .ok (.agg #[.func (.func 71) #[] #[], .func (.func 73) #[] #[]]) w := fun _ => by kernel_rfl
        have fx : ∀ w : World, (Instr.field 83 (.agg #[.func (.func 71) #[] #[], .func (.func 73) #[] #[]]) 0).run Try.prog w = .ok (.func (.func 71) #[] #[]) w := fun _ => by kernel_rfl
        have eg : ∀ args w, (callFunc 71 args).run Try.prog w = .ok (.enter 71 args) w := enters_of Try.func71 (by kernel_rfl) rfl
        clear hwr
        generalize canI s (2, (a : Int), nu) = bc at *
        go_region_held3 (fun (w' : World) => w'.cell? ⟨w.heap.size, 0, none⟩ = some (.slice (some ⟨b0, o0, none⟩) l0 c0) ∧ w'.cell? ⟨w.heap.size, 1, none⟩ = some (.slice (some ⟨b1, o1, none⟩) l1 c1) ∧ w'.cell? ⟨w.heap.size, 2, none⟩ = some (.slice A2 l2 c2) ∧ w'.cell? ⟨w.heap.size, 3, none⟩ = some (.slice A3 l3 c3) ∧ w'.cell? ⟨w.heap.size, 4, none⟩ = some (.slice A4 l4 c4) ∧ w'.cell? ⟨w.heap.size, 5, none⟩ = some (.slice A5 l5 c5) ∧ w'.cell? ⟨gi, 0, none⟩ = some (.int .i64 2) ∧ w'.cell? ⟨gi, 1, none⟩ = some (.int .i64 (a : Int)) ∧ w'.cell? ⟨gi, 2, none⟩ = some (.int .i64 nu)) (go_keep) (first
          | (go_at_call 60; refine (instrs_any _).mono ?_; rintro e w7 ⟨rfl, hb⟩; have HB7 := Lib.hid (chain HBd.out hb); obtain ⟨m0, m1, m2, m3, m4, m5⟩ := (Qd.out.keep hb).six; obtain ⟨p0, p1, p2⟩ := (Xd.out.keep hb).three3; have Q7 := Lib.hid (Qd.out.keep hb); have X7 := Lib.hid (Xd.out.keep hb); clear hb)
          | (go_at_call 71; refine (HCan.out _ HB7.out).mono ?_; rintro e w8 ⟨rfl, hb⟩; have HB8 := Lib.hid (chain HB7.out hb); obtain ⟨n0, n1, n2, n3, n4, n5⟩ := (Q7.out.keep hb).six; obtain ⟨u0, u1, u2⟩ := (X7.out.keep hb).three3; clear hb))
        all_goals
          go_wp2_with fail
          go_ret
          exact ⟨by rw [HE.out]; rfl, HB8.out⟩
      · have HCan := Lib.hid (show ∀ wx, Below w.heap.size w wx → Calls Try.prog 74 #[.agg #[.slice (some ⟨b0, o0, none⟩) l0 c0, .slice (some ⟨b1, o1, none⟩) l1 c1, .slice A2 l2 c2, .slice A3 l3 c3, .slice A4 l4 c4, .slice A5 l5 c5], .agg #[.int .i64 3, .int .i64 (a : Int), .int .i64 nu]] wx fun e w' => e = .returned (.bool (canI s (3, (a : Int), nu))) ∧ Below wx.heap.size wx w' from fun wx hb => hasRoom_any _ s wx (HS.out.below hb) 3 nu a (by rw [hwr.chl]; exact ha) ha)
        have HE := Lib.hid (show canS s t = canI s (3, (a : Int), nu) by unfold canS; rw [HEn.out, HIx.out]; rfl)
        have ix : ∀ w : World, (Instr.index 84 (.agg #[.func (.func 69) #[] #[], .func (.func 70) #[] #[], .func (.func 71) #[] #[], .func (.func 72) #[] #[], .func (.func 71) #[] #[], .func (.func 73) #[] #[], .func (.func 74) #[] #[], .func (.func 75) #[] #[], .func (.func 76) #[] #[], .func (.func 77) #[] #[]]) (.int .i64 3)).run Try.prog w = .ok (.agg #[.func (.func 74) #[] #[], .func (.func 75) #[] #[]]) w := fun _ => by kernel_rfl
        have fx : ∀ w : World, (Instr.field 83 (.agg #[.func (.func 74) #[] #[], .func (.func 75) #[] #[]]) 0).run Try.prog w = .ok (.func (.func 74) #[] #[]) w := fun _ => by kernel_rfl
        have eg : ∀ args w, (callFunc 74 args).run Try.prog w = .ok (.enter 74 args) w := enters_of Try.func74 (by kernel_rfl) rfl
        clear hwr
        generalize canI s (3, (a : Int), nu) = bc at *
        go_region_held3 (fun (w' : World) => w'.cell? ⟨w.heap.size, 0, none⟩ = some (.slice (some ⟨b0, o0, none⟩) l0 c0) ∧ w'.cell? ⟨w.heap.size, 1, none⟩ = some (.slice (some ⟨b1, o1, none⟩) l1 c1) ∧ w'.cell? ⟨w.heap.size, 2, none⟩ = some (.slice A2 l2 c2) ∧ w'.cell? ⟨w.heap.size, 3, none⟩ = some (.slice A3 l3 c3) ∧ w'.cell? ⟨w.heap.size, 4, none⟩ = some (.slice A4 l4 c4) ∧ w'.cell? ⟨w.heap.size, 5, none⟩ = some (.slice A5 l5 c5) ∧ w'.cell? ⟨gi, 0, none⟩ = some (.int .i64 3) ∧ w'.cell? ⟨gi, 1, none⟩ = some (.int .i64 (a : Int)) ∧ w'.cell? ⟨gi, 2, none⟩ = some (.int .i64 nu)) (go_keep) (first
          | (go_at_call 60; refine (instrs_any _).mono ?_; rintro e w7 ⟨rfl, hb⟩; have HB7 := Lib.hid (chain HBd.out hb); obtain ⟨m0, m1, m2, m3, m4, m5⟩ := (Qd.out.keep hb).six; obtain ⟨p0, p1, p2⟩ := (Xd.out.keep hb).three3; have Q7 := Lib.hid (Qd.out.keep hb); have X7 := Lib.hid (Xd.out.keep hb); clear hb)
          | (go_at_call 74; refine (HCan.out _ HB7.out).mono ?_; rintro e w8 ⟨rfl, hb⟩; have HB8 := Lib.hid (chain HB7.out hb); obtain ⟨n0, n1, n2, n3, n4, n5⟩ := (Q7.out.keep hb).six; obtain ⟨u0, u1, u2⟩ := (X7.out.keep hb).three3; clear hb))
        all_goals
          go_wp2_with fail
          go_ret
          exact ⟨by rw [HE.out]; rfl, HB8.out⟩
      · have HCan := Lib.hid (show ∀ wx, Below w.heap.size w wx → Calls Try.prog 76 #[.agg #[.slice (some ⟨b0, o0, none⟩) l0 c0, .slice (some ⟨b1, o1, none⟩) l1 c1, .slice A2 l2 c2, .slice A3 l3 c3, .slice A4 l4 c4, .slice A5 l5 c5], .agg #[.int .i64 4, .int .i64 (a : Int), .int .i64 nu]] wx fun e w' => e = .returned (.bool (canI s (4, (a : Int), nu))) ∧ Below wx.heap.size wx w' from fun wx hb => hasNumber_any _ s wx (HS.out.below hb) 4 nu a (by rw [hwr.chl]; exact ha) ha)
        have HE := Lib.hid (show canS s t = canI s (4, (a : Int), nu) by unfold canS; rw [HEn.out, HIx.out]; rfl)
        have ix : ∀ w : World, (Instr.index 84 (.agg #[.func (.func 69) #[] #[], .func (.func 70) #[] #[], .func (.func 71) #[] #[], .func (.func 72) #[] #[], .func (.func 71) #[] #[], .func (.func 73) #[] #[], .func (.func 74) #[] #[], .func (.func 75) #[] #[], .func (.func 76) #[] #[], .func (.func 77) #[] #[]]) (.int .i64 4)).run Try.prog w = .ok (.agg #[.func (.func 76) #[] #[], .func (.func 77) #[] #[]]) w := fun _ => by kernel_rfl
        have fx : ∀ w : World, (Instr.field 83 (.agg #[.func (.func 76) #[] #[], .func (.func 77) #[] #[]]) 0).run Try.prog w = .ok (.func (.func 76) #[] #[]) w := fun _ => by kernel_rfl
        have eg : ∀ args w, (callFunc 76 args).run Try.prog w = .ok (.enter 76 args) w := enters_of Try.func76 (by kernel_rfl) rfl
        clear hwr
        generalize canI s (4, (a : Int), nu) = bc at *
        go_region_held3 (fun (w' : World) => w'.cell? ⟨w.heap.size, 0, none⟩ = some (.slice (some ⟨b0, o0, none⟩) l0 c0) ∧ w'.cell? ⟨w.heap.size, 1, none⟩ = some (.slice (some ⟨b1, o1, none⟩) l1 c1) ∧ w'.cell? ⟨w.heap.size, 2, none⟩ = some (.slice A2 l2 c2) ∧ w'.cell? ⟨w.heap.size, 3, none⟩ = some (.slice A3 l3 c3) ∧ w'.cell? ⟨w.heap.size, 4, none⟩ = some (.slice A4 l4 c4) ∧ w'.cell? ⟨w.heap.size, 5, none⟩ = some (.slice A5 l5 c5) ∧ w'.cell? ⟨gi, 0, none⟩ = some (.int .i64 4) ∧ w'.cell? ⟨gi, 1, none⟩ = some (.int .i64 (a : Int)) ∧ w'.cell? ⟨gi, 2, none⟩ = some (.int .i64 nu)) (go_keep) (first
          | (go_at_call 60; refine (instrs_any _).mono ?_; rintro e w7 ⟨rfl, hb⟩; have HB7 := Lib.hid (chain HBd.out hb); obtain ⟨m0, m1, m2, m3, m4, m5⟩ := (Qd.out.keep hb).six; obtain ⟨p0, p1, p2⟩ := (Xd.out.keep hb).three3; have Q7 := Lib.hid (Qd.out.keep hb); have X7 := Lib.hid (Xd.out.keep hb); clear hb)
          | (go_at_call 76; refine (HCan.out _ HB7.out).mono ?_; rintro e w8 ⟨rfl, hb⟩; have HB8 := Lib.hid (chain HB7.out hb); obtain ⟨n0, n1, n2, n3, n4, n5⟩ := (Q7.out.keep hb).six; obtain ⟨u0, u1, u2⟩ := (X7.out.keep hb).three3; clear hb))
        all_goals
          go_wp2_with fail
          go_ret
          exact ⟨by rw [HE.out]; rfl, HB8.out⟩
/-- The threads that can go on. -/
def enN (s : Sys) (k : Nat) : List Nat := (List.range k).filter (canS s)
def enL (s : Sys) (k : Nat) : List Int := (enN s k).map fun (t : Nat) => (t : Int)
theorem enL_yes (s : Sys) (k : Nat) (h : canS s k = true) : enL s (k + 1) = enL s k ++ [(k : Int)] := by simp [enL, enN, List.range_succ, h]
theorem enL_no (s : Sys) (k : Nat) (h : canS s k = false) : enL s (k + 1) = enL s k := by simp [enL, enN, List.range_succ, h]
theorem enL_len (s : Sys) (k : Nat) : (enL s k).length ≤ k := by
  have := List.length_filter_le (canS s) (List.range k)
  simpa [enL, enN] using this
/-- Numbers of the call's own, handed back. -/
def OwnOut (zs : List Int) (w : World) (e : Ending) (w' : World) : Prop := ∃ A c, e = .returned (.slice A zs.length c) ∧ OwnI w.heap.size w' (.slice A zs.length c) zs ∧ Below w.heap.size w w'
set_option maxHeartbeats 4000000 in
theorem enabled_any (v : Value) (s : Sys) (w : World) (h : SysAt w v s) (k : Nat) (hwr : WR k s) : Calls Try.prog 45 #[v] w (OwnOut (enL s s.th.length) w) := by
  have h8 := hwr.n8
  have HCan := Lib.hid (fun wx (hb : Below w.heap.size w wx) t ht => can_any v s wx (h.below hb) k hwr t ht)
  obtain ⟨A0, l0, c0, A1, l1, c1, A2, l2, c2, A3, l3, c3, A4, l4, c4, A5, l5, c5, rfl, s0, s1, s2, s3, s4, s5, h0, h1, h2, h3, h4, h5⟩ := h
  obtain rfl := h0.1
  obtain ⟨i0, hi, hz0, hz1, hz2⟩ := info_parts int_infoS
  have HI := Lib.hid hi
  have HZ0 := Lib.hid hz0
  have HZ1 := Lib.hid hz1
  have HZ2 := Lib.hid hz2
  clear h0 h1 h2 h3 h4 h5 s0 s1 s2 s3 s4 s5 hi hz0 hz1 hz2
  have W2 := Lib.hid ((Below.refl w.heap.size w).alloc (Nat.le_refl _) (.cells #[.slice A0 s.th.length c0, .slice A1 l1 c1, .slice A2 l2 c2, .slice A3 l3 c3, .slice A4 l4 c4, .slice A5 l5 c5] 26))
  have Q0 := Lib.hid (Box.new w 26 #[.slice A0 s.th.length c0, .slice A1 l1 c1, .slice A2 l2 c2, .slice A3 l3 c3, .slice A4 l4 c4, .slice A5 l5 c5])
  obtain ⟨r0, r1, r2, r3, r4, r5⟩ := Q0.out.six
  go_enter Try.func45, Try.ntmps45
  go_wp2_with fail
  go_loopw [3, 8] (fun v t wr => ∃ i : Nat, i ≤ s.th.length ∧ t = .int .i64 (i : Int) ∧ Hid (wr.ownsRow w.heap.size 3 1 v (enL s i).length ((enL s i).map (Value.int .i64))) ∧ Hid (Box wr w.heap.size 26 #[.slice A0 s.th.length c0, .slice A1 l1 c1, .slice A2 l2 c2, .slice A3 l3 c3, .slice A4 l4 c4, .slice A5 l5 c5]) ∧ Hid (Below w.heap.size w wr)) (fun _ t _ => s.th.length - (intOf t).toNat)
  case atStart => exact ⟨0, Nat.zero_le _, rfl, Lib.hid (World.ownsRow_nil _ _ _ _), Q0, W2⟩
  case round =>
    obtain ⟨i, hi, rfl, HO, Q1, HB⟩ := hrel
    clear W2 Q0 r0 r1 r2 r3 r4 r5
    obtain ⟨r0, r1, r2, r3, r4, r5⟩ := Q1.out.six
    by_cases hlt : i < s.th.length
    · have hlt' : (i : Int) < (s.th.length : Int) := by omega
      have hel := enL_len s i
      have HC := Lib.hid (HCan.out _ HB.out i hlt)
      cases hc : canS s i with
      | true =>
        rw [hc] at HC
        have HE := Lib.hid (enL_yes s i hc)
        clear hc
        go_wp2_with fail
        refine HC.out.mono ?_
        rintro e w1 ⟨rfl, hb⟩
        have HO1 := Lib.hid (own_keepB HO.out hb)
        have HB1 := Lib.hid (chain HB.out hb)
        have Q2 := Lib.hid (Q1.out.keep hb)
        clear hb r0 r1 r2 r3 r4 r5
        have XO := Lib.hid (HO1.out.alloc (.cells #[.int .i64 (i : Int)] 3))
        have XB := Lib.hid (HB1.out.alloc HB1.out.size (.cells #[.int .i64 (i : Int)] 3))
        have N2 := Lib.hid (fun k hk => (HO1.out.lt k hk).1)
        have XQ := Lib.hid (Q2.out.alloc (.cells #[.int .i64 (i : Int)] 3))
        have NQ := Lib.hid (own_ne XO.out XQ.out (by decide))
        go_wp2_with (at_builtin; refine wpList_append_own _ rfl _ _ 23 rfl w.heap.size 3 i0 (.int .i64 0) 1 8 Try.underlying23 HI.out HZ0.out HZ1.out HZ2.out rfl (by decide) _ _ _ rfl XO.out ⟨w1.heap.size, 0, none⟩ 1 1 [.int .i64 (i : Int)] rfl rfl (cell_one_new _ _ _) (by simp [Value.oneCell']) (by simp [maxLen]; omega) (by omega) XB.out.size ?_; intro v' w2 hown' hgrow _; have HC2 := Lib.hid (XB.out.grown hgrow XB.out.size N2.out); have HO2 := Lib.hid hown'; have Q3 := Lib.hid (XQ.out.grown hgrow NQ.out); clear hown' hgrow)
        go_roundw
        case rel =>
          refine ⟨i + 1, by omega, by go_num, Lib.hid ?_, Q3, HC2⟩
          rw [HE.out, List.map_append, List.length_append]
          exact HO2.out
        case measure => simp [intOf] <;> omega
      | false =>
        rw [hc] at HC
        have HE := Lib.hid (enL_no s i hc)
        clear hc
        go_wp2_with fail
        refine HC.out.mono ?_
        rintro e w1 ⟨rfl, hb⟩
        have HO1 := Lib.hid (own_keepB HO.out hb)
        have HB1 := Lib.hid (chain HB.out hb)
        have Q2 := Lib.hid (Q1.out.keep hb)
        clear hb r0 r1 r2 r3 r4 r5
        go_wp2_with fail
        go_roundw
        case rel =>
          refine ⟨i + 1, by omega, by go_num, Lib.hid ?_, Q2, HB1⟩
          rw [HE.out]; exact HO1.out
        case measure => simp [intOf] <;> omega
    · obtain rfl : i = s.th.length := by omega
      have hlt' : ¬ (s.th.length : Int) < (s.th.length : Int) := by omega
      obtain ⟨A', c', rfl, hA'⟩ := own_form HO.out
      go_wp2_with fail
      go_ret
      exact ⟨A', c', rfl, HO.out, HB.out⟩
end Go.Proofs.Ytcamoigcfiemhaa
