/- Layer 20: the reference's Can, Enabled, Done. -/
import Derived.Test.YtcamoigcfiemhaaScO
namespace Go.Proofs.Ytcamoigcfiemhaa
set_option linter.unusedVariables false
set_option linter.unusedSimpArgs false
open Go.RowKit Go.Lib
set_option maxRecDepth 100000
set_option maxHeartbeats 8000000 in
theorem refCan_any (v : Value) (s : Sys) (w : World) (h : SysAt w v s) (k : Nat) (hwr : WR k s) (t : Nat) (ht : t < s.th.length) : Calls Try.prog 23 #[v, .int .i64 (t : Int)] w fun e w' => e = .returned (.bool (canS s t)) ∧ Below w.heap.size w w' := by
  have h8 := hwr.n8
  obtain ⟨A0, l0, c0, A1, l1, c1, A2, l2, c2, A3, l3, c3, A4, l4, c4, A5, l5, c5, rfl, s0, s1, s2, s3, s4, s5, h0, h1, h2, h3, h4, h5⟩ := h
  have t0 : (t : Int) < (l0 : Int) := by have := h0.1; omega
  have t1 : (t : Int) < (l1 : Int) := by have := h1.1; have := hwr.pcl; omega
  have HLo := Lib.hid h3
  have HCh := Lib.hid h5
  obtain ⟨b0, o0, B, n, d, rfl, hb0, g0, -, hq⟩ := h0.at t (by omega)
  obtain ⟨b1, o1, rfl, hb1, hc1⟩ := h1.2.2 (by omega)
  have g1 := hc1 t (by omega)
  have G0 := Lib.hid (fun wx (hb : Below w.heap.size w wx) => (hb.cell (p := ⟨b0, o0 + t, none⟩) hb0).trans g0)
  have hrow := hwr.row t ht
  have hnl : (s.th.getD t []).length = n := hq.1
  obtain ⟨p, hp⟩ := Nat.of_int hrow.2.1
  have hen : endS s t = decide (p = n) := by
    unfold endS; rw [hp, hnl]
    by_cases q : p = n
    · subst q; simp
    · rw [decide_eq_false q]; simp; omega
  rw [hp] at g1
  have G1 := Lib.hid (fun wx (hb : Below w.heap.size w wx) => (hb.cell (p := ⟨b1, o1 + t, none⟩) hb1).trans g1)
  have HQ := Lib.hid hq
  have hpn : p ≤ n := by have := hrow.2.2; rw [hp, hnl] at this; omega
  clear hc1 g0 g1 hb0 hb1 h0 h1 h2 h3 h4 h5 s0 s1 s2 s3 s4 s5 hq
  have W2 := Lib.hid ((Below.refl w.heap.size w).alloc (Nat.le_refl _) (.cells #[.slice (some ⟨b0, o0, none⟩) l0 c0, .slice (some ⟨b1, o1, none⟩) l1 c1, .slice A2 l2 c2, .slice A3 l3 c3, .slice A4 l4 c4, .slice A5 l5 c5] 26))
  have Q0 := Lib.hid (Box.new w 26 #[.slice (some ⟨b0, o0, none⟩) l0 c0, .slice (some ⟨b1, o1, none⟩) l1 c1, .slice A2 l2 c2, .slice A3 l3 c3, .slice A4 l4 c4, .slice A5 l5 c5])
  obtain ⟨r0, r1, r2, r3, r4, r5⟩ := Q0.out.six
  by_cases he : p = n
  · have HE := Lib.hid (show canS s t = false by simp [canS, hen, he])
    have tp : (n : Int) ≤ (p : Int) := by omega
    clear he hen hnl hp hrow hwr hpn
    have g0 := G0.out _ W2.out
    have g1 := G1.out _ W2.out
    go_enter Try.func23, Try.ntmps23
    go_upto_region 1 with (fail)
    go_cut [17] (fun v wx => v = .bool true ∧ Hid (Below w.heap.size w wx))
    case first =>
      go_region
      all_goals
        go_wp2_with fail
        go_meet
        exact ⟨by simp <;> omega, Lib.hid W2.out.drew⟩
    case rest =>
      obtain ⟨rfl, HB⟩ := hcut
      go_wp2_with fail
      go_ret
      exact ⟨by rw [HE.out]; rfl, HB.out⟩
  · have hpl : p < n := by omega
    have hpl' : (p : Int) < (n : Int) := by omega
    have tp : ¬ (n : Int) ≤ (p : Int) := by omega
    have HEn := Lib.hid (show endS s t = false by rw [hen, decide_eq_false he])
    obtain ⟨hlt, hin⟩ := hwr.next ht HEn.out
    obtain ⟨b2, o2, rfl, hb2, x0, x1, x2⟩ := Inss.cells HQ.out (Below.refl _ _) p hpl
    have hix : insAt s t = (s.th.getD t []).getD p default := by unfold insAt; rw [hp]; rfl
    rw [← hix] at x0 x1 x2
    obtain ⟨xi, hxi⟩ : ∃ xi, xi = insAt s t := ⟨_, rfl⟩
    rw [← hxi] at x0 x1 x2 hin
    have HIx := Lib.hid hxi.symm
    clear hxi hix hp hlt he hen hnl hrow hpn
    obtain ⟨op, na, nu⟩ := xi
    obtain ⟨i0, i1, i2, i3, i4, i5⟩ := inB_parts hin
    obtain ⟨a, rfl⟩ : ∃ a : Nat, na = (a : Int) := Nat.of_int i2
    have ha : a < 4 := by have i3 : (a : Int) ≤ 3 := i3; omega
    have X0 := Lib.hid (fun wx (hb : Below w.heap.size w wx) => (hb.cell (p := ⟨b2, o2 + p * 3, none⟩) hb2).trans (show w.cell? ⟨b2, o2 + p * 3, none⟩ = some (.int .i64 op) from x0))
    have X1 := Lib.hid (fun wx (hb : Below w.heap.size w wx) => (hb.cell (p := ⟨b2, o2 + p * 3 + 1, none⟩) hb2).trans (show w.cell? ⟨b2, o2 + p * 3 + 1, none⟩ = some (.int .i64 (a : Int)) from x1))
    have X2 := Lib.hid (fun wx (hb : Below w.heap.size w wx) => (hb.cell (p := ⟨b2, o2 + p * 3 + 2, none⟩) hb2).trans (show w.cell? ⟨b2, o2 + p * 3 + 2, none⟩ = some (.int .i64 nu) from x2))
    have hop : op = 0 ∨ op = 1 ∨ op = 2 ∨ op = 3 ∨ op = 4 := by have : (0 : Int) ≤ op := i0; have : op ≤ 4 := i1; omega
    clear x0 x1 x2 hb2 i0 i1 i2 i3 i4 i5 hin
    have g0 := G0.out _ W2.out
    have g1 := G1.out _ W2.out
    go_enter Try.func23, Try.ntmps23
    go_upto_region 1 with (fail)
    go_cut [17] (fun v wx => v = .bool false ∧ Hid (Box wx w.heap.size 26 #[.slice (some ⟨b0, o0, none⟩) l0 c0, .slice (some ⟨b1, o1, none⟩) l1 c1, .slice A2 l2 c2, .slice A3 l3 c3, .slice A4 l4 c4, .slice A5 l5 c5]) ∧ Hid (Below w.heap.size w wx))
    case first =>
      go_region
      all_goals
        go_wp2_with fail
        go_meet
        exact ⟨by simp <;> omega, Lib.hid Q0.out.drew, Lib.hid W2.out.drew⟩
    case rest =>
      obtain ⟨rfl, Q1, HB1⟩ := hcut
      obtain ⟨w1, hw1⟩ : ∃ x : World, x = wc := ⟨_, rfl⟩
      subst hw1
      clear r0 r1 r2 r3 r4 r5 g0 g1 Q0 W2
      obtain ⟨r0, r1, r2, r3, r4, r5⟩ := Q1.out.six
      go_upto_region 3 with (fail)
      go_cut [5] (fun v wx => ∃ gi : Nat, v = .pointer (some ⟨gi, 0, none⟩) ∧ Hid (Box wx gi 57 #[.int .i64 op, .int .i64 (a : Int), .int .i64 nu]) ∧ Hid (Box wx w.heap.size 26 #[.slice (some ⟨b0, o0, none⟩) l0 c0, .slice (some ⟨b1, o1, none⟩) l1 c1, .slice A2 l2 c2, .slice A3 l3 c3, .slice A4 l4 c4, .slice A5 l5 c5]) ∧ Hid (Below w.heap.size w wx))
      case first =>
        have HBz := HB1.out.alloc HB1.out.size (.cells #[.int .i64 0, .int .i64 0, .int .i64 0] 57)
        have g0 := G0.out _ HBz
        have g1 := G1.out _ HBz
        have x0 := X0.out _ HBz
        have x1 := X1.out _ HBz
        have x2 := X2.out _ HBz
        have HBZ := Lib.hid HBz
        have XZ := Lib.hid (Box.new w1 57 #[.int .i64 0, .int .i64 0, .int .i64 0])
        have QZ := Lib.hid (Q1.out.alloc (.cells #[.int .i64 0, .int .i64 0, .int .i64 0] 57))
        have g0' := G0.out _ HB1.out
        have g1' := G1.out _ HB1.out
        have x0' := X0.out _ HB1.out
        have x1' := X1.out _ HB1.out
        have x2' := X2.out _ HB1.out
        clear HBz
        obtain ⟨r0', r1', r2', r3', r4', r5'⟩ := QZ.out.six
        obtain ⟨y0, y1, y2⟩ := XZ.out.three3
        have f0 := XZ.out.free 0
        have f1 := XZ.out.free 1
        have f2 := XZ.out.free 2
        go_region
        all_goals
          go_wp2_with fail
          go_meet
          exact ⟨w1.heap.size, rfl, Lib.hid (Box.new w1 57 #[.int .i64 op, .int .i64 (a : Int), .int .i64 nu]).drew, Lib.hid (Q1.out.alloc _).drew, Lib.hid (HB1.out.alloc HB1.out.size _).drew⟩
      case rest =>
        obtain ⟨gi, rfl, XI, QI, HBi⟩ := hcut
        obtain ⟨wi, hwi⟩ : ∃ x : World, x = wc := ⟨_, rfl⟩
        subst hwi
        clear r0 r1 r2 r3 r4 r5
        obtain ⟨r0, r1, r2, r3, r4, r5⟩ := QI.out.six
        obtain ⟨y0, y1, y2⟩ := XI.out.three3
        have HEC := Lib.hid (show canS s t = canI s (op, (a : Int), nu) by unfold canS; rw [HEn.out, HIx.out]; rfl)
        clear HEn HIx G0 G1 X0 X1 X2 t0 t1 HB1 Q1
        rcases hop with rfl | rfl | rfl | rfl | rfl
        · have ll : a < l3 := by have := (HLo.out : Ints _ _ _ _).1; have := hwr.lol; omega
          have ll' : (a : Int) < (l3 : Int) := by omega
          obtain ⟨b3, o3, rfl, -, hc3⟩ := (HLo.out.below HBi.out).2.2 (by omega)
          have c3' := hc3 a ll
          have hlb := hwr.lob a ha
          have HEc := Lib.hid (show canI s (0, (a : Int), nu) = (s.lo.getD a 0 == -1) by simp [canI])
          obtain ⟨x, hx⟩ : ∃ x, x = s.lo.getD a 0 := ⟨_, rfl⟩
          rw [← hx] at c3' HEc hlb
          clear hx hc3 hwr
          by_cases q : x < 0
          · have HEb := Lib.hid (show (x == -1) = true by simp; omega)
            clear hlb
            go_wp2_with fail
            go_ret
            exact ⟨by rw [HEC.out, HEc.out, HEb.out]; rfl, HBi.out⟩
          · have HEb := Lib.hid (show (x == -1) = false by simp; omega)
            clear hlb
            go_wp2_with fail
            go_ret
            exact ⟨by rw [HEC.out, HEc.out, HEb.out]; rfl, HBi.out⟩
        · have HEc := Lib.hid (show canI s (1, (a : Int), nu) = true by simp [canI])
          go_wp2_with fail
          go_ret
          exact ⟨by rw [HEC.out, HEc.out]; rfl, HBi.out⟩
        · have HEc := Lib.hid (show canI s (2, (a : Int), nu) = true by simp [canI])
          go_wp2_with fail
          go_ret
          exact ⟨by rw [HEC.out, HEc.out]; rfl, HBi.out⟩
        · have ll : a < l5 := by have := HCh.out.1; have := hwr.chl; omega
          have ll' : (a : Int) < (l5 : Int) := by omega
          obtain ⟨b5, o5, B5, n5, d5, rfl, hb5, c5', -, hq5⟩ := (Chs.below HCh.out HBi.out).at a ll
          have HEc := Lib.hid (show canI s (3, (a : Int), nu) = decide ((n5 : Int) < 2) by have e := hq5.1; unfold canI; rw [if_neg (show ¬ (3 : Int) = 0 by decide), if_pos rfl]; show decide (((s.ch.getD a []).length : Int) < 2) = _; rw [e])
          clear hwr hq5
          by_cases q : (n5 : Int) < 2
          · have HEb := Lib.hid (show decide ((n5 : Int) < 2) = true from decide_eq_true q)
            go_wp2_with fail
            go_ret
            exact ⟨by rw [HEC.out, HEc.out, HEb.out]; rfl, HBi.out⟩
          · have HEb := Lib.hid (show decide ((n5 : Int) < 2) = false from decide_eq_false q)
            go_wp2_with fail
            go_ret
            exact ⟨by rw [HEC.out, HEc.out, HEb.out]; rfl, HBi.out⟩
        · have ll : a < l5 := by have := HCh.out.1; have := hwr.chl; omega
          have ll' : (a : Int) < (l5 : Int) := by omega
          obtain ⟨b5, o5, B5, n5, d5, rfl, hb5, c5', -, hq5⟩ := (Chs.below HCh.out HBi.out).at a ll
          have HEc := Lib.hid (show canI s (4, (a : Int), nu) = decide (0 < n5) by have e := hq5.1; unfold canI; rw [if_neg (show ¬ (4 : Int) = 0 by decide), if_neg (show ¬ (4 : Int) = 3 by decide), if_pos rfl]; show decide (0 < ((s.ch.getD a []).length : Int)) = _; rw [e]; simp)
          clear hwr hq5
          go_wp2_with fail
          go_ret
          exact ⟨by rw [HEC.out, HEc.out]; rfl, HBi.out⟩
theorem enN_len_le (s : Sys) (i : Nat) : (enL s i).length ≤ i := enL_len s i
set_option maxHeartbeats 4000000 in
theorem refEnabled_any (v : Value) (s : Sys) (w : World) (h : SysAt w v s) (k : Nat) (hwr : WR k s) : Calls Try.prog 21 #[v] w (OwnOut (enL s s.th.length) w) := by
  have h8 := hwr.n8
  have HCan := Lib.hid (fun wx (hb : Below w.heap.size w wx) t ht => refCan_any v s wx (h.below hb) k hwr t ht)
  obtain ⟨A0, l0, c0, A1, l1, c1, A2, l2, c2, A3, l3, c3, A4, l4, c4, A5, l5, c5, rfl, s0, s1, s2, s3, s4, s5, h0, h1, h2, h3, h4, h5⟩ := h
  obtain rfl := h0.1
  obtain ⟨i0, hi, hz0, hz1, hz2⟩ := info_parts int_infoS
  have HI := Lib.hid hi
  have HZ0 := Lib.hid hz0
  have HZ1 := Lib.hid hz1
  have HZ2 := Lib.hid hz2
  clear h0 h1 h2 h3 h4 h5 s0 s1 s2 s3 s4 s5 hi hz0 hz1 hz2
  have W1 := (Below.refl w.heap.size w).alloc (Nat.le_refl _) (.cells #[.slice A0 s.th.length c0, .slice A1 l1 c1, .slice A2 l2 c2, .slice A3 l3 c3, .slice A4 l4 c4, .slice A5 l5 c5] 26)
  have W2 := Lib.hid (W1.alloc W1.size (.cells #[] 3))
  have HO0 := Lib.hid (own_emptyS (w.alloc (.cells #[.slice A0 s.th.length c0, .slice A1 l1 c1, .slice A2 l2 c2, .slice A3 l3 c3, .slice A4 l4 c4, .slice A5 l5 c5] 26)) w.heap.size 3 1 W1.size)
  have Q0 := Lib.hid ((Box.new w 26 #[.slice A0 s.th.length c0, .slice A1 l1 c1, .slice A2 l2 c2, .slice A3 l3 c3, .slice A4 l4 c4, .slice A5 l5 c5]).alloc (.cells #[] 3))
  clear W1
  obtain ⟨r0, r1, r2, r3, r4, r5⟩ := Q0.out.six
  go_enter Try.func21, Try.ntmps21
  go_wp2_with fail
  go_loopw [3, 9] (fun v t wr => ∃ i : Nat, i ≤ s.th.length ∧ t = .int .i64 (i : Int) ∧ Hid (wr.ownsRow w.heap.size 3 1 v (enL s i).length ((enL s i).map (Value.int .i64))) ∧ Hid (Box wr w.heap.size 26 #[.slice A0 s.th.length c0, .slice A1 l1 c1, .slice A2 l2 c2, .slice A3 l3 c3, .slice A4 l4 c4, .slice A5 l5 c5]) ∧ Hid (Below w.heap.size w wr)) (fun _ t _ => s.th.length - (Go.RowKit.intOf t).toNat)
  case atStart => exact ⟨0, Nat.zero_le _, rfl, by simp only [World.size_alloc] at HO0; exact HO0, Q0, W2⟩
  case round =>
    obtain ⟨i, hi, rfl, HO, Q1, HB⟩ := hrel
    clear W2 Q0 HO0 r0 r1 r2 r3 r4 r5
    obtain ⟨r0, r1, r2, r3, r4, r5⟩ := Q1.out.six
    by_cases hlt : i < s.th.length
    · have hlt' : (i : Int) < (s.th.length : Int) := by omega
      have hel := enL_len s i
      have HC := Lib.hid (HCan.out _ HB.out i hlt)
      cases hc : canS s i with
      | true =>
        rw [hc] at HC
        have HE := Lib.hid (enL_yes s i hc)
        clear hc
        go_wp2_with fail
        refine HC.out.mono ?_
        rintro e w1 ⟨rfl, hb⟩
        have HO1 := Lib.hid (own_keepB HO.out hb)
        have HB1 := Lib.hid (chain HB.out hb)
        have Q2 := Lib.hid (Q1.out.keep hb)
        clear hb r0 r1 r2 r3 r4 r5
        have XO := Lib.hid (HO1.out.alloc (.cells #[.int .i64 (i : Int)] 3))
        have XB := Lib.hid (HB1.out.alloc HB1.out.size (.cells #[.int .i64 (i : Int)] 3))
        have N2 := Lib.hid (fun k hk => (HO1.out.lt k hk).1)
        have XQ := Lib.hid (Q2.out.alloc (.cells #[.int .i64 (i : Int)] 3))
        have NQ := Lib.hid (own_ne XO.out XQ.out (by decide))
        go_wp2_with (at_builtin; refine wpList_append_own _ rfl _ _ 23 rfl w.heap.size 3 i0 (.int .i64 0) 1 8 Try.underlying23 HI.out HZ0.out HZ1.out HZ2.out rfl (by decide) _ _ _ rfl XO.out ⟨w1.heap.size, 0, none⟩ 1 1 [.int .i64 (i : Int)] rfl rfl (cell_one_new _ _ _) (by simp [Value.oneCell']) (by simp [maxLen]; omega) (by omega) XB.out.size ?_; intro v' w2 hown' hgrow _; have HC2 := Lib.hid (XB.out.grown hgrow XB.out.size N2.out); have HO2 := Lib.hid hown'; have Q3 := Lib.hid (XQ.out.grown hgrow NQ.out); clear hown' hgrow)
        go_roundw
        case rel =>
          refine ⟨i + 1, by omega, by go_num, Lib.hid ?_, Q3, HC2⟩
          rw [HE.out, List.map_append, List.length_append]
          exact HO2.out
        case measure => simp [Go.RowKit.intOf] <;> omega
      | false =>
        rw [hc] at HC
        have HE := Lib.hid (enL_no s i hc)
        clear hc
        go_wp2_with fail
        refine HC.out.mono ?_
        rintro e w1 ⟨rfl, hb⟩
        have HO1 := Lib.hid (own_keepB HO.out hb)
        have HB1 := Lib.hid (chain HB.out hb)
        have Q2 := Lib.hid (Q1.out.keep hb)
        clear hb r0 r1 r2 r3 r4 r5
        go_wp2_with fail
        go_roundw
        case rel =>
          refine ⟨i + 1, by omega, by go_num, Lib.hid ?_, Q2, HB1⟩
          rw [HE.out]; exact HO1.out
        case measure => simp [Go.RowKit.intOf] <;> omega
    · obtain rfl : i = s.th.length := by omega
      have hlt' : ¬ (s.th.length : Int) < (s.th.length : Int) := by omega
      obtain ⟨A', c', rfl, hA'⟩ := own_form HO.out
      go_wp2_with fail
      go_ret
      exact ⟨A', c', rfl, HO.out, HB.out⟩
set_option maxHeartbeats 4000000 in
theorem refDone_any (v : Value) (s : Sys) (w : World) (h : SysAt w v s) (k : Nat) (hwr : WR k s) : Calls Try.prog 22 #[v] w fun e w' => e = .returned (.bool (doneB s)) ∧ Below w.heap.size w w' := by
  have h8 := hwr.n8
  obtain ⟨A0, l0, c0, A1, l1, c1, A2, l2, c2, A3, l3, c3, A4, l4, c4, A5, l5, c5, rfl, s0, s1, s2, s3, s4, s5, h0, h1, h2, h3, h4, h5⟩ := h
  have HT := Lib.hid h0
  have HP := Lib.hid h1
  have HL0 := Lib.hid h0.1
  have HPc := Lib.hid hwr.pcl
  have HL1 := Lib.hid (show l1 = l0 by have := h1.1; have := h0.1; have := hwr.pcl; omega)
  have HRow := Lib.hid hwr.row
  have l08 : l0 ≤ 8 := by have := h0.1; omega
  clear h0 h1 h2 h3 h4 h5 s0 s1 s2 s3 s4 s5 hwr
  have W1 := Lib.hid ((Below.refl w.heap.size w).alloc (Nat.le_refl _) (.cells #[.slice A0 l0 c0, .slice A1 l1 c1, .slice A2 l2 c2, .slice A3 l3 c3, .slice A4 l4 c4, .slice A5 l5 c5] 26))
  have Q0 := Lib.hid (Box.new w 26 #[.slice A0 l0 c0, .slice A1 l1 c1, .slice A2 l2 c2, .slice A3 l3 c3, .slice A4 l4 c4, .slice A5 l5 c5])
  obtain ⟨r0, r1, r2, r3, r4, r5⟩ := Q0.out.six
  go_enter Try.func22, Try.ntmps22
  go_wp2_with fail
  go_loopw [8] (fun t wr => ∃ k : Nat, k ≤ l0 ∧ t = .int .i64 (k : Int) ∧ Hid ((List.range k).all (endS s) = true) ∧ Hid (Box wr w.heap.size 26 #[.slice A0 l0 c0, .slice A1 l1 c1, .slice A2 l2 c2, .slice A3 l3 c3, .slice A4 l4 c4, .slice A5 l5 c5]) ∧ Hid (Below w.heap.size w wr)) (fun t _ => l0 - (Go.RowKit.intOf t).toNat)
  case atStart => exact ⟨0, Nat.zero_le _, rfl, Lib.hid rfl, Q0, W1⟩
  case round =>
    obtain ⟨k, hk, rfl, HA, Q, HB⟩ := hrel
    clear Q0 W1 r0 r1 r2 r3 r4 r5
    obtain ⟨r0, r1, r2, r3, r4, r5⟩ := Q.out.six
    by_cases hlt : k < l0
    · have hlt' : (k : Int) < (l0 : Int) := by omega
      have hlt1 : (k : Int) < (l1 : Int) := by rw [HL1.out]; omega
      have HS := Lib.hid (all_range_snoc (endS s) k)
      have HNo := Lib.hid (fun h => all_range_no (endS s) s.th.length k (by rw [HL0.out]; exact hlt) h)
      obtain ⟨b0, o0, B, n, d, rfl, hb0, g0, -, hq⟩ := (Thr.below HT.out HB.out).at k hlt
      obtain ⟨b1, o1, rfl, hb1, hc1⟩ := (HP.out.below HB.out).2.2 (by omega)
      have g1 := hc1 k (by rw [HL1.out]; omega)
      have hrow := HRow.out k (by rw [HL0.out]; exact hlt)
      have hnl : (s.th.getD k []).length = n := hq.1
      rw [hnl] at hrow
      have hen : endS s k = (s.pc.getD k 0 == (n : Int)) := by unfold endS; rw [hnl]
      obtain ⟨x, hx⟩ : ∃ x, x = s.pc.getD k 0 := ⟨_, rfl⟩
      rw [← hx] at g1 hrow hen
      clear hc1 hq hnl hx hb0 hb1
      by_cases q : x < (n : Int)
      · have HF := Lib.hid (show doneB s = false from HNo.out (by rw [hen]; simp; omega))
        clear hen hrow
        go_wp2_with fail
        go_ret
        exact ⟨by rw [HF.out]; rfl, HB.out⟩
      · have HSx := Lib.hid (show (List.range (k + 1)).all (endS s) = true from HS.out.trans (by rw [HA.out, hen]; simp; omega))
        clear hen hrow
        go_wp2_with fail
        go_roundw
        case rel => exact ⟨k + 1, by omega, by go_num, HSx, Q, HB⟩
        case measure => simp [Go.RowKit.intOf] <;> omega
    · have hlt' : ¬ (k : Int) < (l0 : Int) := by omega
      have HF := Lib.hid (show doneB s = true by
        have := HA.out
        rwa [show k = s.th.length by rw [HL0.out]; omega] at this)
      go_wp2_with fail
      go_ret
      exact ⟨by rw [HF.out]; rfl, HB.out⟩
end Go.Proofs.Ytcamoigcfiemhaa
