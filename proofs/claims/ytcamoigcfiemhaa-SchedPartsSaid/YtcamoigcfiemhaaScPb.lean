/- Layer 20: Step hands back a system of its own; slices.Grow of nil, slices.Concat of two; runs in parts; a system that goes on being read. -/
import Derived.Test.YtcamoigcfiemhaaScL1
import Derived.Lib.AppendZerosOnto
import Derived.Lib.AppendZeros
namespace Go.Proofs.Ytcamoigcfiemhaa
set_option linter.unusedVariables false
set_option linter.unusedSimpArgs false
open Go.RowKit Go.Lib
set_option maxRecDepth 100000
def SysE2 (r : Int × Sys) (w : World) (e : Ending) (w' : World) : Prop := ∃ v', e = .returned (.tuple #[v', .int .i64 r.1]) ∧ SysAt w' v' r.2 ∧ (r.1 = 0 → ∃ M, OwnM M w' v' r.2) ∧ Below w.heap.size w w'
set_option maxHeartbeats 16000000 in
theorem step2_any (v : Value) (s : Sys) (w : World) (h : SysAt w v s) (t : Int) (ht1 : -9223372036854775808 ≤ t) (ht2 : t ≤ 9223372036854775807) : Calls Try.prog 18 #[v, .int .i64 t] w (SysE2 (stepRes s t) w) := by
  have HR := Lib.hid (fun w' (hb : Below w.heap.size w w') => right20_any v s w' (h.below hb))
  have HCp := Lib.hid (fun w' (hb : Below w.heap.size w w') hs => copied_any v s w' (h.below hb) hs)
  have HCan := Lib.hid (fun w' (hb : Below w.heap.size w w') hr t ht => can_any v s w' (h.below hb) 0 (WR.of hr) t ht)
  obtain ⟨A0, l0, c0, A1, l1, c1, A2, l2, c2, A3, l3, c3, A4, l4, c4, A5, l5, c5, rfl, s0, s1, s2, s3, s4, s5, h0, h1, h2, h3, h4, h5⟩ := h
  have e0 := h0.1
  have hlm := Nat.le_trans s0.1 s0.2.1
  unfold maxLen at hlm
  clear h0 h1 h2 h3 h4 h5 s0 s1 s2 s3 s4 s5
  have hb2 : Below w.heap.size w ((w.alloc (.cells #[.slice A0 l0 c0, .slice A1 l1 c1, .slice A2 l2 c2, .slice A3 l3 c3, .slice A4 l4 c4, .slice A5 l5 c5] 26)).alloc (.cells #[.slice none 0 0, .slice none 0 0, .slice none 0 0, .slice none 0 0, .slice none 0 0, .slice none 0 0] 26)) := ((Below.refl w.heap.size w).alloc (Nat.le_refl _) _).alloc (by simp) _
  have q1 := Box.new (w.alloc (.cells #[.slice A0 l0 c0, .slice A1 l1 c1, .slice A2 l2 c2, .slice A3 l3 c3, .slice A4 l4 c4, .slice A5 l5 c5] 26)) 26 #[.slice none 0 0, .slice none 0 0, .slice none 0 0, .slice none 0 0, .slice none 0 0, .slice none 0 0]
  simp only [World.size_alloc] at q1
  have Q0 := Lib.hid ((Box.new w 26 #[.slice A0 l0 c0, .slice A1 l1 c1, .slice A2 l2 c2, .slice A3 l3 c3, .slice A4 l4 c4, .slice A5 l5 c5]).alloc (.cells #[.slice none 0 0, .slice none 0 0, .slice none 0 0, .slice none 0 0, .slice none 0 0, .slice none 0 0] 26))
  have Q1 := Lib.hid q1
  have W2 := Lib.hid hb2
  clear q1 hb2
  obtain ⟨r0, r1, r2, r3, r4, r5⟩ := Q0.out.six
  cases hr : rightS s with
  | false =>
    rw [hr] at HR
    have HE := Lib.hid (show stepRes s t = (1, sys0) by simp [stepRes, hr])
    clear hr HCp HCan
    go_enter Try.func18, Try.ntmps18
    go_wp2_with fail
    refine (HR.out _ W2.out).mono ?_
    rintro e w1 ⟨rfl, hb⟩
    have HB1 := Lib.hid (chain W2.out hb)
    have X1 := Lib.hid (Q1.out.keep hb)
    have Y1 := Lib.hid (Q0.out.keep hb)
    clear hb r0 r1 r2 r3 r4 r5
    obtain ⟨m0, m1, m2, m3, m4, m5⟩ := X1.out.six
    have f0 := X1.out.free 0
    have f1 := X1.out.free 1
    have f2 := X1.out.free 2
    have f3 := X1.out.free 3
    have f4 := X1.out.free 4
    have f5 := X1.out.free 5
    have XF := Lib.hid (((((((X1.out.put 0 (.slice none 0 0)).put 1 (.slice none 0 0)).put 2 (.slice none 0 0)).put 3 (.slice none 0 0)).put 4 (.slice none 0 0)).put 5 (.slice none 0 0)))
    have BF := Lib.hid (((((((HB1.out.setCell (p := ⟨w.heap.size + 1, 0, none⟩) (Nat.le_succ _) (.slice none 0 0)).setCell (p := ⟨w.heap.size + 1, 1, none⟩) (Nat.le_succ _) (.slice none 0 0)).setCell (p := ⟨w.heap.size + 1, 2, none⟩) (Nat.le_succ _) (.slice none 0 0)).setCell (p := ⟨w.heap.size + 1, 3, none⟩) (Nat.le_succ _) (.slice none 0 0)).setCell (p := ⟨w.heap.size + 1, 4, none⟩) (Nat.le_succ _) (.slice none 0 0)).setCell (p := ⟨w.heap.size + 1, 5, none⟩) (Nat.le_succ _) (.slice none 0 0)))
    go_wp2_with fail
    refine close_cell Try.results18 rfl rfl rfl XF.out Try.underlying26 rfl (by kernel_rfl) ?_
    rw [HE.out]
    exact ⟨zeroV, rfl, zeroV_at _, (fun h => by cases h), BF.out⟩
  | true =>
    have HRt := Lib.hid hr
    have h8 := (WR.of hr).n8
    have l08 : (l0 : Int) ≤ 8 := by omega
    rw [hr] at HR
    by_cases q : 0 ≤ t ∧ t < (s.th.length : Int)
    · have q0 : ¬ t < 0 := by omega
      have q1 : ¬ (l0 : Int) ≤ t := by omega
      obtain ⟨tn, rfl⟩ := Nat.of_int q.1
      have htn : tn < s.th.length := by omega
      have HCn := Lib.hid (fun w' hb => HCan.out w' hb HRt.out tn htn)
      cases hc : canS s tn with
      | false =>
        rw [hc] at HCn
        have HE := Lib.hid (show stepRes s (tn : Int) = (11, sys0) by rw [stepRes, if_pos hr, if_pos q]; simp [hc])
        clear hr hc HCp HCan q ht1 ht2 e0
        go_enter Try.func18, Try.ntmps18
        go_wp2_with fail
        refine (HR.out _ W2.out).mono ?_
        rintro e w1 ⟨rfl, hb⟩
        have HB1 := Lib.hid (chain W2.out hb)
        have X1 := Lib.hid (Q1.out.keep hb)
        have Y1 := Lib.hid (Q0.out.keep hb)
        clear hb r0 r1 r2 r3 r4 r5
        obtain ⟨r0, r1, r2, r3, r4, r5⟩ := Y1.out.six
        go_wp2_with fail
        refine (HCn.out _ HB1.out).mono ?_
        rintro e w2 ⟨rfl, hb⟩
        have HB2 := Lib.hid (chain HB1.out hb)
        have X2 := Lib.hid (X1.out.keep hb)
        clear hb r0 r1 r2 r3 r4 r5
        obtain ⟨m0, m1, m2, m3, m4, m5⟩ := X2.out.six
        have f0 := X2.out.free 0
        have f1 := X2.out.free 1
        have f2 := X2.out.free 2
        have f3 := X2.out.free 3
        have f4 := X2.out.free 4
        have f5 := X2.out.free 5
        have XF := Lib.hid (((((((X2.out.put 0 (.slice none 0 0)).put 1 (.slice none 0 0)).put 2 (.slice none 0 0)).put 3 (.slice none 0 0)).put 4 (.slice none 0 0)).put 5 (.slice none 0 0)))
        have BF := Lib.hid (((((((HB2.out.setCell (p := ⟨w.heap.size + 1, 0, none⟩) (Nat.le_succ _) (.slice none 0 0)).setCell (p := ⟨w.heap.size + 1, 1, none⟩) (Nat.le_succ _) (.slice none 0 0)).setCell (p := ⟨w.heap.size + 1, 2, none⟩) (Nat.le_succ _) (.slice none 0 0)).setCell (p := ⟨w.heap.size + 1, 3, none⟩) (Nat.le_succ _) (.slice none 0 0)).setCell (p := ⟨w.heap.size + 1, 4, none⟩) (Nat.le_succ _) (.slice none 0 0)).setCell (p := ⟨w.heap.size + 1, 5, none⟩) (Nat.le_succ _) (.slice none 0 0)))
        go_wp2_with fail
        refine close_cell Try.results18 rfl rfl rfl XF.out Try.underlying26 rfl (by kernel_rfl) ?_
        rw [HE.out]
        exact ⟨zeroV, rfl, zeroV_at _, (fun h => by cases h), BF.out⟩
      | true =>
        rw [hc] at HCn
        have HE := Lib.hid (show stepRes s (tn : Int) = (0, stepS s tn) by rw [stepRes, if_pos hr, if_pos q]; simp [hc])
        have HSm := Lib.hid (small_of (WR.of hr))
        have HW0 := Lib.hid (WR.of hr)
        have HGo := Lib.hid (fun M vx wx (ho : OwnM M wx vx s) hm => goOn_any M vx s wx ho hm 0 (by omega) (WR.of hr) tn htn hc)
        have HNm := Lib.hid (((WR.of hr).step htn hc).nums (by omega))
        clear hr hc HCan q ht1 ht2 e0
        go_enter Try.func18, Try.ntmps18
        go_wp2_with fail
        refine (HR.out _ W2.out).mono ?_
        rintro e w1 ⟨rfl, hb⟩
        have HB1 := Lib.hid (chain W2.out hb)
        have X1 := Lib.hid (Q1.out.keep hb)
        have Y1 := Lib.hid (Q0.out.keep hb)
        clear hb r0 r1 r2 r3 r4 r5
        obtain ⟨r0, r1, r2, r3, r4, r5⟩ := Y1.out.six
        go_wp2_with fail
        refine (HCn.out _ HB1.out).mono ?_
        rintro e w2 ⟨rfl, hb⟩
        have HB2 := Lib.hid (chain HB1.out hb)
        have X2 := Lib.hid (X1.out.keep hb)
        have Y2 := Lib.hid (Y1.out.keep hb)
        clear hb r0 r1 r2 r3 r4 r5
        obtain ⟨r0, r1, r2, r3, r4, r5⟩ := Y2.out.six
        go_wp2_with fail
        have hsz : w.heap.size + 1 < w2.heap.size := X2.out.lt
        refine (HCp.out _ HB2.out HSm.out).mono ?_
        rintro e w3 ⟨v', rfl, hos, hb⟩
        obtain ⟨M, hM0, hMs⟩ : ∃ M : Nat → Prop, OwnM M w3 v' s ∧ ∀ g, M g → w2.heap.size ≤ g ∧ g < w3.heap.size := ⟨_, hos.toM, fun g h => h⟩
        obtain ⟨B0, d0, B1, d1, B2, d2, B3, d3, B4, d4, B5, d5, rs0, rs5, rfl, hparts⟩ := hM0
        have OW3 := Lib.hid (show OwnM M w3 (.agg #[.slice B0 s.th.length d0, .slice B1 s.pc.length d1, .slice B2 s.su.length d2, .slice B3 s.lo.length d3, .slice B4 s.ce.length d4, .slice B5 s.ch.length d5]) s from ⟨B0, d0, B1, d1, B2, d2, B3, d3, B4, d4, B5, d5, rs0, rs5, rfl, hparts⟩)
        have HB3 := Lib.hid (chain HB2.out hb)
        have X3 := Lib.hid (X2.out.keep hb)
        have Y3 := Lib.hid (Y2.out.keep hb)
        have HMs := Lib.hid hMs
        clear hb hos hparts hMs r0 r1 r2 r3 r4 r5 HCp HR rs0 rs5
        obtain ⟨r0, r1, r2, r3, r4, r5⟩ := Y3.out.six
        have f0 := Y3.out.free 0
        have f1 := Y3.out.free 1
        have f2 := Y3.out.free 2
        have f3 := Y3.out.free 3
        have f4 := Y3.out.free 4
        have f5 := Y3.out.free 5
        have OW4 := Lib.hid (OwnM.box_gr OW3.out Y3.out (set6_grown _ _ (.slice B0 s.th.length d0) (.slice B1 s.pc.length d1) (.slice B2 s.su.length d2) (.slice B3 s.lo.length d3) (.slice B4 s.ce.length d4) (.slice B5 s.ch.length d5)))
        have Y4 := Lib.hid (((((((Y3.out.put 0 (.slice B0 s.th.length d0)).put 1 (.slice B1 s.pc.length d1)).put 2 (.slice B2 s.su.length d2)).put 3 (.slice B3 s.lo.length d3)).put 4 (.slice B4 s.ce.length d4)).put 5 (.slice B5 s.ch.length d5)))
        have X4 := Lib.hid (Box.grown X3.out (set6_grown w3 w.heap.size (.slice B0 s.th.length d0) (.slice B1 s.pc.length d1) (.slice B2 s.su.length d2) (.slice B3 s.lo.length d3) (.slice B4 s.ce.length d4) (.slice B5 s.ch.length d5)) (fun e => by injection e with e; omega))
        have HB4 := Lib.hid (((((((HB3.out.setCell (p := ⟨w.heap.size, 0, none⟩) (Nat.le_refl _) (.slice B0 s.th.length d0)).setCell (p := ⟨w.heap.size, 1, none⟩) (Nat.le_refl _) (.slice B1 s.pc.length d1)).setCell (p := ⟨w.heap.size, 2, none⟩) (Nat.le_refl _) (.slice B2 s.su.length d2)).setCell (p := ⟨w.heap.size, 3, none⟩) (Nat.le_refl _) (.slice B3 s.lo.length d3)).setCell (p := ⟨w.heap.size, 4, none⟩) (Nat.le_refl _) (.slice B4 s.ce.length d4)).setCell (p := ⟨w.heap.size, 5, none⟩) (Nat.le_refl _) (.slice B5 s.ch.length d5)))
        have hs4 : (((((((w3.setCell ⟨w.heap.size, 0, none⟩ (.slice B0 s.th.length d0)).setCell ⟨w.heap.size, 1, none⟩ (.slice B1 s.pc.length d1)).setCell ⟨w.heap.size, 2, none⟩ (.slice B2 s.su.length d2)).setCell ⟨w.heap.size, 3, none⟩ (.slice B3 s.lo.length d3)).setCell ⟨w.heap.size, 4, none⟩ (.slice B4 s.ce.length d4)).setCell ⟨w.heap.size, 5, none⟩ (.slice B5 s.ch.length d5))).heap.size = w3.heap.size := by simp [World.setCell]
        have HS4 := Lib.hid hs4
        go_upto_region 8 with (fail)
        clear r0 r1 r2 r3 r4 r5 f0 f1 f2 f3 f4 f5 OW3 Y3 X3 HB3 hs4
        obtain ⟨w4, hw4⟩ : ∃ w4, w4 = ((((((w3.setCell ⟨w.heap.size, 0, none⟩ (.slice B0 s.th.length d0)).setCell ⟨w.heap.size, 1, none⟩ (.slice B1 s.pc.length d1)).setCell ⟨w.heap.size, 2, none⟩ (.slice B2 s.su.length d2)).setCell ⟨w.heap.size, 3, none⟩ (.slice B3 s.lo.length d3)).setCell ⟨w.heap.size, 4, none⟩ (.slice B4 s.ce.length d4)).setCell ⟨w.heap.size, 5, none⟩ (.slice B5 s.ch.length d5)) := ⟨_, rfl⟩
        simp only [set6L] at OW4 X4
        rw [← hw4] at OW4 Y4 X4 HB4 HS4 ⊢
        clear hw4
        obtain ⟨r0, r1, r2, r3, r4, r5⟩ := Y4.out.six
        go_wp2_with fail
        refine (HGo.out M _ _ OW4.out (fun g h => by rw [HS4.out]; exact (HMs.out g h).2)).mono ?_
        rintro e w5 ⟨rfl, N, hN1, hN2, hN3⟩
        have OW := Lib.hid hN1
        have Q := Lib.hid (hN2.box Y4.out (fun h => by have := (HMs.out _ h).1; omega))
        have X := Lib.hid (hN2.box X4.out (fun h => by have := (HMs.out _ h).1; omega))
        have HB := Lib.hid (HB4.out.trans (hN2.below (B := w.heap.size) HB4.out.size (fun g h => by have := (HMs.out g h).1; omega)))
        clear hN1 hN2 hN3 r0 r1 r2 r3 r4 r5 OW4 Y4 X4 HB4
        obtain ⟨m0, m1, m2, m3, m4, m5⟩ := X.out.six
        have f0 := X.out.free 0
        have f1 := X.out.free 1
        have f2 := X.out.free 2
        have f3 := X.out.free 3
        have f4 := X.out.free 4
        have f5 := X.out.free 5
        have OF := Lib.hid (OwnM.box_gr OW.out X.out (set6_grown _ _ (.slice B0 s.th.length d0) (.slice B1 s.pc.length d1) (.slice B2 s.su.length d2) (.slice B3 s.lo.length d3) (.slice B4 s.ce.length d4) (.slice B5 s.ch.length d5)))
        have XF := Lib.hid (((((((X.out.put 0 (.slice B0 s.th.length d0)).put 1 (.slice B1 s.pc.length d1)).put 2 (.slice B2 s.su.length d2)).put 3 (.slice B3 s.lo.length d3)).put 4 (.slice B4 s.ce.length d4)).put 5 (.slice B5 s.ch.length d5)))
        have BF := Lib.hid (((((((HB.out.setCell (p := ⟨w.heap.size + 1, 0, none⟩) (Nat.le_succ _) (.slice B0 s.th.length d0)).setCell (p := ⟨w.heap.size + 1, 1, none⟩) (Nat.le_succ _) (.slice B1 s.pc.length d1)).setCell (p := ⟨w.heap.size + 1, 2, none⟩) (Nat.le_succ _) (.slice B2 s.su.length d2)).setCell (p := ⟨w.heap.size + 1, 3, none⟩) (Nat.le_succ _) (.slice B3 s.lo.length d3)).setCell (p := ⟨w.heap.size + 1, 4, none⟩) (Nat.le_succ _) (.slice B4 s.ce.length d4)).setCell (p := ⟨w.heap.size + 1, 5, none⟩) (Nat.le_succ _) (.slice B5 s.ch.length d5)))
        obtain ⟨r0, r1, r2, r3, r4, r5⟩ := Q.out.six
        go_wp2_with fail
        refine close_cell Try.results18 rfl rfl rfl XF.out Try.underlying26 rfl (by kernel_rfl) ?_
        rw [HE.out]
        exact ⟨_, rfl, OF.out.sys.at HNm.out, (fun _ => ⟨_, OF.out⟩), BF.out⟩
    · have HE := Lib.hid (show stepRes s t = (3, sys0) by rw [stepRes, if_pos hr, if_neg q])
      by_cases q0 : t < 0
      · clear hr HCp HCan q
        go_enter Try.func18, Try.ntmps18
        go_wp2_with fail
        refine (HR.out _ W2.out).mono ?_
        rintro e w1 ⟨rfl, hb⟩
        have HB1 := Lib.hid (chain W2.out hb)
        have X1 := Lib.hid (Q1.out.keep hb)
        have Y1 := Lib.hid (Q0.out.keep hb)
        clear hb r0 r1 r2 r3 r4 r5
        obtain ⟨r0, r1, r2, r3, r4, r5⟩ := Y1.out.six
        obtain ⟨m0, m1, m2, m3, m4, m5⟩ := X1.out.six
        have f0 := X1.out.free 0
        have f1 := X1.out.free 1
        have f2 := X1.out.free 2
        have f3 := X1.out.free 3
        have f4 := X1.out.free 4
        have f5 := X1.out.free 5
        have XF := Lib.hid (((((((X1.out.put 0 (.slice none 0 0)).put 1 (.slice none 0 0)).put 2 (.slice none 0 0)).put 3 (.slice none 0 0)).put 4 (.slice none 0 0)).put 5 (.slice none 0 0)))
        have BF := Lib.hid (((((((HB1.out.setCell (p := ⟨w.heap.size + 1, 0, none⟩) (Nat.le_succ _) (.slice none 0 0)).setCell (p := ⟨w.heap.size + 1, 1, none⟩) (Nat.le_succ _) (.slice none 0 0)).setCell (p := ⟨w.heap.size + 1, 2, none⟩) (Nat.le_succ _) (.slice none 0 0)).setCell (p := ⟨w.heap.size + 1, 3, none⟩) (Nat.le_succ _) (.slice none 0 0)).setCell (p := ⟨w.heap.size + 1, 4, none⟩) (Nat.le_succ _) (.slice none 0 0)).setCell (p := ⟨w.heap.size + 1, 5, none⟩) (Nat.le_succ _) (.slice none 0 0)))
        go_wp2_with fail
        refine close_cell Try.results18 rfl rfl rfl XF.out Try.underlying26 rfl (by kernel_rfl) ?_
        rw [HE.out]
        exact ⟨zeroV, rfl, zeroV_at _, (fun h => by cases h), BF.out⟩
      · have q1 : (l0 : Int) ≤ t := by omega
        clear hr HCp HCan q
        go_enter Try.func18, Try.ntmps18
        go_wp2_with fail
        refine (HR.out _ W2.out).mono ?_
        rintro e w1 ⟨rfl, hb⟩
        have HB1 := Lib.hid (chain W2.out hb)
        have X1 := Lib.hid (Q1.out.keep hb)
        have Y1 := Lib.hid (Q0.out.keep hb)
        clear hb r0 r1 r2 r3 r4 r5
        obtain ⟨r0, r1, r2, r3, r4, r5⟩ := Y1.out.six
        obtain ⟨m0, m1, m2, m3, m4, m5⟩ := X1.out.six
        have f0 := X1.out.free 0
        have f1 := X1.out.free 1
        have f2 := X1.out.free 2
        have f3 := X1.out.free 3
        have f4 := X1.out.free 4
        have f5 := X1.out.free 5
        have XF := Lib.hid (((((((X1.out.put 0 (.slice none 0 0)).put 1 (.slice none 0 0)).put 2 (.slice none 0 0)).put 3 (.slice none 0 0)).put 4 (.slice none 0 0)).put 5 (.slice none 0 0)))
        have BF := Lib.hid (((((((HB1.out.setCell (p := ⟨w.heap.size + 1, 0, none⟩) (Nat.le_succ _) (.slice none 0 0)).setCell (p := ⟨w.heap.size + 1, 1, none⟩) (Nat.le_succ _) (.slice none 0 0)).setCell (p := ⟨w.heap.size + 1, 2, none⟩) (Nat.le_succ _) (.slice none 0 0)).setCell (p := ⟨w.heap.size + 1, 3, none⟩) (Nat.le_succ _) (.slice none 0 0)).setCell (p := ⟨w.heap.size + 1, 4, none⟩) (Nat.le_succ _) (.slice none 0 0)).setCell (p := ⟨w.heap.size + 1, 5, none⟩) (Nat.le_succ _) (.slice none 0 0)))
        go_wp2_with fail
        refine close_cell Try.results18 rfl rfl rfl XF.out Try.underlying26 rfl (by kernel_rfl) ?_
        rw [HE.out]
        exact ⟨zeroV, rfl, zeroV_at _, (fun h => by cases h), BF.out⟩
theorem own_room {w : World} {e : TypeId} {cs : Array Value} {base c : Nat} (hb : base ≤ w.heap.size) (hc : cs.size = c) (hm : c ≤ maxLen) : (w.alloc (.cells cs e)).ownsRow base e 1 (.slice (some ⟨w.heap.size, 0, none⟩) 0 c) 0 [] := by
  refine ⟨rfl, .inr ⟨w.heap.size, c, cs, rfl, hb, Box.new w e cs, Nat.zero_le _, hm, by rw [hc, Nat.mul_one], by simp⟩⟩
theorem zeroCells_size (z : Array Value) (h : z.size = 1) (n : Nat) : (Builtin.zeroCells z n).size = n := by simp [Builtin.zeroCells, h]
set_option maxHeartbeats 4000000 in
theorem grow_any (n : Nat) (hn : n ≤ 1000) (w : World) : Calls Try.prog 52 #[.slice none 0 0, .int .i64 (n : Int)] w fun e w' => ∃ A c, e = .returned (.slice A 0 c) ∧ w'.ownsRow w.heap.size 3 1 (.slice A 0 c) 0 [] ∧ Below w.heap.size w w' := by
  rcases Nat.eq_zero_or_pos n with h0 | h0
  · subst h0
    go_enter Try.func52, Try.ntmps52
    go_wp2_with fail
    go_ret
    exact ⟨none, 0, rfl, World.ownsRow_nil _ _ _ _, Below.refl _ _⟩
  · obtain ⟨i0, hi, hz0, hz1, hz2⟩ := info_parts int_infoS
    have hr := Lib.run_append_nil_zeros (P := Try.prog) w 23 3 23 3 i0 (.int .i64 0) .i64 .i64 Try.underlying23 Try.underlying3 hi hz0 n h0 (by rw [hz1]; decide) (by omega) (by rw [hz2]; omega)
    have hsz : ∀ k, (Builtin.zeroCells (Value.int .i64 0).cells k).size = k := zeroCells_size _ rfl
    have hge := grownCap_ge w n 0 3
    have hle := grownCap_le_maxLen w n 0 3 (by unfold maxLen; omega)
    obtain ⟨G, hG⟩ : ∃ G, G = grownCap w n 0 3 := ⟨_, rfl⟩
    rw [← hG] at hr hge hle
    obtain ⟨cs, hcs⟩ : ∃ cs, cs = Builtin.zeroCells (Value.int .i64 0).cells n ++ Builtin.zeroCells (Value.int .i64 0).cells (G - n) := ⟨_, rfl⟩
    have hcz : cs.size = G := by rw [hcs, Array.size_append, hsz, hsz]; omega
    rw [← hcs] at hr
    clear hcs hsz hG
    have h1 : ¬ ((n : Int) < 0) := by omega
    have h4 : (n : Int) > 0 := by omega
    have h5 : IntKind.i64.wrap (n : Int) = n := IntWalk.i64_in _ (by omega)
    have HO := Lib.hid (own_room (w := w.drew) (e := 3) (cs := cs) (base := w.heap.size) (Nat.le_refl _) hcz hle)
    have HB := Lib.hid (show Below w.heap.size w (w.drew.alloc (.cells cs 3)) from ((Below.refl w.heap.size w).drew).alloc (Nat.le_refl _) _)
    have hG0 : (0 : Int) ≤ (G : Int) := by omega
    clear hi hz0 hz1 hz2
    unfold maxLen at hle
    go_enter Try.func52, Try.ntmps52
    go_wp2_with (at_builtin; refine Lib.wpList_append_run _ rfl _ _ _ _ rfl _ _ rfl rfl _ _ hr ?_)
    go_ret
    exact ⟨_, _, rfl, HO.out, HB.out⟩
theorem own_lowA2 {w : World} {base base' e size n : Nat} {v : Value} {xs : List Value} (h : w.ownsRow base e size v n xs) (hb : base' ≤ base) : w.ownsRow base' e size v n xs := by
  refine ⟨h.1, ?_⟩
  rcases h.2 with h | ⟨g, cap, cur, e, hb2, rest⟩
  · exact .inl h
  · exact .inr ⟨g, cap, cur, e, Nat.le_trans hb hb2, rest⟩
set_option maxHeartbeats 8000000 in
theorem concat2_any (g : Nat) (t : TypeId) (A : Option Addr) (n c : Nat) (xs : List Int) (B : Option Addr) (m d : Nat) (ys : List Int) (w : World) (hg : Box w g t #[.slice A n c, .slice B m d]) (hx : Ints w A n xs) (hy : Ints w B m ys) (hA : A = none → n = 0) (hB : B = none → m = 0) (hn : n ≤ 400) (hm : m ≤ 400) :
    Calls Try.prog 29 #[.slice (some ⟨g, 0, none⟩) 2 2] w (OwnOut (xs ++ ys) w) := by
  obtain ⟨i0, hi, hz0, hz1, hz2⟩ := info_parts int_infoS
  have HI := Lib.hid hi
  have HZ0 := Lib.hid hz0
  have HZ1 := Lib.hid hz1
  have HZ2 := Lib.hid hz2
  have HG := Lib.hid hg
  have HX := Lib.hid hx
  have HY := Lib.hid hy
  have HLx := Lib.hid hx.1
  have HLy := Lib.hid hy.1
  have HNA := Lib.hid hA
  have HNB := Lib.hid hB
  clear hi hz0 hz1 hz2 hg hx hy hA hB
  have sn : IntKind.i64.wrap (0 + (n : Int)) = n := IntWalk.i64_in _ (by omega) |>.trans (by omega)
  have sn1 : IntKind.i64.wrap (n : Int) = n := IntWalk.i64_in _ (by omega)
  have sm : IntKind.i64.wrap ((n : Int) + (m : Int)) = ((n + m : Nat) : Int) := (IntWalk.i64_in _ (by omega)).trans (by omega)
  go_enter Try.func29, Try.ntmps29
  go_wp2_with fail
  go_loopw [3, 11] (fun sz t wr => ∃ i : Nat, (i = 0 ∧ sz = .int .i64 0 ∨ i = 1 ∧ sz = .int .i64 (n : Int) ∨ i = 2 ∧ sz = .int .i64 ((n + m : Nat) : Int)) ∧ t = .int .i64 (i : Int) ∧ Hid (Below w.heap.size w wr)) (fun _ t _ => 2 - (Go.RowKit.intOf t).toNat)
  case atStart => exact ⟨0, .inl ⟨rfl, rfl⟩, rfl, Lib.hid (Below.refl _ _)⟩
  case round =>
    obtain ⟨i, hc, rfl, HB⟩ := hrel
    have c0 := (HG.out.keep HB.out).cell 0
    have c1 := (HG.out.keep HB.out).cell 1
    rcases hc with ⟨rfl, rfl⟩ | ⟨rfl, rfl⟩ | ⟨rfl, rfl⟩
    · go_wp2_with fail
      go_roundw
      case rel => exact ⟨1, .inr (.inl ⟨rfl, rfl⟩), rfl, HB⟩
      case measure => decide
    · go_wp2_with fail
      go_roundw
      case rel => exact ⟨2, .inr (.inr ⟨rfl, rfl⟩), rfl, HB⟩
      case measure => decide
    · go_wp2_with fail
      refine (grow_any (n + m) (by omega) _).mono ?_
      rintro e w2 ⟨D, q, rfl, ho, hb⟩
      have HO := Lib.hid ho
      have HB2 := Lib.hid (chain HB.out hb)
      have HSz := Lib.hid HB.out.size
      clear ho hb c0 c1 HB
      go_wp2_with fail
      go_loopw [6, 27] (fun v t wr => ∃ i : Nat, i ≤ 2 ∧ t = .int .i64 (i : Int) ∧ Hid (OwnI w.heap.size wr v (if i = 0 then [] else if i = 1 then xs else xs ++ ys)) ∧ Hid (Below w.heap.size w wr)) (fun _ t _ => 2 - (Go.RowKit.intOf t).toNat)
      case atStart => exact ⟨0, by decide, rfl, Lib.hid (own_lowA2 HO.out HSz.out), HB2⟩
      case round =>
        obtain ⟨i, hi, rfl, HO, HB⟩ := hrel
        have c0 := (HG.out.keep HB.out).cell 0
        have c1 := (HG.out.keep HB.out).cell 1
        have HXw := Lib.hid (HX.out.below HB.out)
        have HYw := Lib.hid (HY.out.below HB.out)
        have hi3 : i = 0 ∨ i = 1 ∨ i = 2 := by omega
        rcases hi3 with rfl | rfl | rfl
        · have HOi := Lib.hid (show wr.ownsRow w.heap.size 3 1 _ (([] : List Int)).length ((([] : List Int)).map (Value.int .i64)) from HO.out)
          have N2 := Lib.hid (fun k hk => (HOi.out.lt k hk).1)
          have hel : (([] : List Int)).length ≤ 800 := by simp
          go_wp2_with (at_builtin; go_loud (refine wpList_opt rfl _ _ 23 rfl w.heap.size 3 i0 (.int .i64 0) 1 8 Try.underlying23 HI.out HZ0.out HZ1.out HZ2.out rfl (by decide) _ _ _ rfl HOi.out A n c (xs.map (Value.int .i64)) rfl (by rw [List.length_map, Nat.mul_one]; exact HXw.out.1) HNA.out (ints_news HXw.out (Below.refl _ _)) (ints_one xs) (by simp only [maxLen]; omega) (by omega) HB.out.size ?_); intro v' w3 ho3 hg3; have HC3 := Lib.hid (Below.grown HB.out hg3 HB.out.size N2.out); have HO3 := Lib.hid ho3; clear ho3 hg3)
          go_roundw
          case rel =>
            refine ⟨1, by decide, rfl, Lib.hid ?_, HC3⟩
            have h9 := HO3.out
            simp only [List.map_nil, List.nil_append, List.length_nil, Nat.zero_add] at h9
            rw [← HLx.out] at h9
            exact h9
          case measure => decide
        · have HOi := Lib.hid (show wr.ownsRow w.heap.size 3 1 _ (xs).length ((xs).map (Value.int .i64)) from HO.out)
          have N2 := Lib.hid (fun k hk => (HOi.out.lt k hk).1)
          have hel : (xs).length ≤ 800 := by rw [HLx.out]; omega
          go_wp2_with (at_builtin; go_loud (refine wpList_opt rfl _ _ 23 rfl w.heap.size 3 i0 (.int .i64 0) 1 8 Try.underlying23 HI.out HZ0.out HZ1.out HZ2.out rfl (by decide) _ _ _ rfl HOi.out B m d (ys.map (Value.int .i64)) rfl (by rw [List.length_map, Nat.mul_one]; exact HYw.out.1) HNB.out (ints_news HYw.out (Below.refl _ _)) (ints_one ys) (by simp only [maxLen]; omega) (by omega) HB.out.size ?_); intro v' w3 ho3 hg3; have HC3 := Lib.hid (Below.grown HB.out hg3 HB.out.size N2.out); have HO3 := Lib.hid ho3; clear ho3 hg3)
          go_roundw
          case rel =>
            refine ⟨2, by decide, rfl, Lib.hid ?_, HC3⟩
            have h9 := HO3.out
            rw [← HLy.out, ← List.map_append, ← List.length_append] at h9
            exact h9
          case measure => decide
        · have HOi := Lib.hid (show OwnI w.heap.size wr _ (xs ++ ys) from HO.out)
          obtain ⟨A', c', rfl, -⟩ := own_form HOi.out
          clear HO
          go_wp2_with fail
          go_ret
          exact ⟨A', c', rfl, HOi.out, HB.out⟩
/-- The steps of threads, one after the other. -/
def foldS (s : Sys) (l : List Int) : Sys := l.foldl (fun s t => stepS s t.toNat) s
theorem foldS_snoc (s : Sys) (l : List Int) (t : Int) : foldS s (l ++ [t]) = stepS (foldS s l) t.toNat := by unfold foldS; rw [List.foldl_append]; rfl
def okAt (s : Sys) (l : List Int) (i : Nat) : Prop := ∃ t : Nat, l.getD i 0 = (t : Int) ∧ t < (foldS s (l.take i)).th.length ∧ canS (foldS s (l.take i)) t = true
def Good (s : Sys) (st : Sys × List Int) : Prop := st.1 = foldS s st.2 ∧ ∀ i, i < st.2.length → okAt s st.2 i
theorem Good.pick {s : Sys} {st : Sys × List Int} (h : Good s st) (p : Int) : Good s (pickP st p) := by
  unfold pickP
  split
  · exact h
  · next hn =>
    obtain ⟨h1, h2⟩ := h
    obtain ⟨m1, m2⟩ := mem_enN (pickT_mem p hn)
    refine ⟨?_, fun i hi => ?_⟩
    · show stepS st.1 (pickT st.1 p) = foldS s (st.2 ++ [((pickT st.1 p : Nat) : Int)])
      rw [foldS_snoc, ← h1, Int.toNat_natCast]
    · have hl : i < st.2.length + 1 := by
        have : i < (st.2 ++ [((pickT st.1 p : Nat) : Int)]).length := hi
        rwa [List.length_append] at this
      show okAt s (st.2 ++ [((pickT st.1 p : Nat) : Int)]) i
      by_cases q : i < st.2.length
      · obtain ⟨t, e1, e2, e3⟩ := h2 i q
        have ht : (st.2 ++ [((pickT st.1 p : Nat) : Int)]).take i = st.2.take i := by rw [List.take_append_of_le_length (by omega)]
        refine ⟨t, ?_, by rw [ht]; exact e2, by rw [ht]; exact e3⟩
        rw [← e1]; simp [List.getD, List.getElem?_append_left q]
      · obtain rfl : i = st.2.length := by omega
        have ht : (st.2 ++ [((pickT st.1 p : Nat) : Int)]).take st.2.length = st.2 := by rw [List.take_append_of_le_length (Nat.le_refl _), List.take_length]
        refine ⟨pickT st.1 p, by simp [List.getD], by rw [ht, ← h1]; exact m1, by rw [ht, ← h1]; exact m2⟩
theorem good_fold {s : Sys} : ∀ (ps : List Int) (st : Sys × List Int), Good s st → Good s (ps.foldl pickP st)
  | [], _, h => h
  | p :: ps, st, h => good_fold ps _ (h.pick p)
theorem run_good (s : Sys) (ps : List Int) : Good s (runS s ps) := good_fold ps (s, []) ⟨rfl, fun i hi => by simp at hi⟩
theorem fold_acc : ∀ (ps : List Int) (c : Sys) (ws : List Int), ps.foldl pickP (c, ws) = ((ps.foldl pickP (c, [])).1, ws ++ (ps.foldl pickP (c, [])).2)
  | [], c, ws => by simp
  | p :: ps, c, ws => by
    rw [List.foldl_cons, List.foldl_cons]
    by_cases h : enN c c.th.length = []
    · have e1 : ∀ us, pickP (c, us) p = (c, us) := fun us => by unfold pickP; rw [if_pos h]
      rw [e1, e1]
      exact fold_acc ps c ws
    · have e1 : ∀ us, pickP (c, us) p = (stepS c (pickT c p), us ++ [((pickT c p : Nat) : Int)]) := fun us => by unfold pickP; rw [if_neg h]
      rw [e1, e1, fold_acc ps _ (ws ++ _), fold_acc ps _ ([] ++ _)]
      simp
theorem run_append (s : Sys) (p q : List Int) : runS s (p ++ q) = ((runS (runS s p).1 q).1, (runS s p).2 ++ (runS (runS s p).1 q).2) := by
  show (p ++ q).foldl pickP (s, []) = _
  rw [List.foldl_append]
  exact fold_acc q (runS s p).1 (runS s p).2
theorem run_parts (s : Sys) (ps : List Int) (j : Nat) : (runS (runS s (ps.take j)).1 (ps.drop j)).1 = (runS s ps).1 ∧ (runS s (ps.take j)).2 ++ (runS (runS s (ps.take j)).1 (ps.drop j)).2 = (runS s ps).2 := by
  have := run_append s (ps.take j) (ps.drop j)
  rw [List.take_append_drop] at this
  rw [this]
  exact ⟨rfl, rfl⟩
/-- A system that other systems' boxes leave alone. -/
def NowAt (w0 : World) (w : World) (v : Value) (s : Sys) : Prop := ((∃ base, FewAt w0 base w v s) ∨ ∃ M, OwnM M w v s) ∧ Nums s
theorem NowAt.sys {w0 w : World} {v : Value} {s : Sys} (h : NowAt w0 w v s) (hb : Below w0.heap.size w0 w) : SysAt w v s := by
  rcases h.1 with ⟨base, h1⟩ | ⟨M, h1⟩
  · exact h1.sys hb
  · exact OwnSys.at h1.sys h.2
theorem NowAt.keepB {w0 w w' : World} {v : Value} {s : Sys} (h : NowAt w0 w v s) (hb : Below w.heap.size w w') : NowAt w0 w' v s := by
  refine ⟨?_, h.2⟩
  rcases h.1 with ⟨base, h1⟩ | ⟨M, h1⟩
  · exact .inl ⟨base, h1.keepB hb⟩
  · exact .inr ⟨M, h1.keepB hb⟩
theorem NowAt.box {w0 w w' : World} {v : Value} {s : Sys} {g : Nat} {cs : Array Value} (h : NowAt w0 w v s) (hb : Box w g 26 cs) (hg : w.grownBy w' (some g)) : NowAt w0 w' v s := by
  refine ⟨?_, h.2⟩
  rcases h.1 with ⟨base, A0, l0, c0, A1, l1, c1, A2, l2, c2, A3, l3, c3, A4, l4, c4, A5, l5, c5, rfl, hs, hp, h0, e0, h5, e5⟩ | ⟨M, h1⟩
  · exact .inl ⟨base, A0, l0, c0, A1, l1, c1, A2, l2, c2, A3, l3, c3, A4, l4, c4, A5, l5, c5, rfl, hs, hp, h0.kept hb (by decide) hg, e0, h5.kept hb (by decide) hg, e5⟩
  · exact .inr ⟨M, h1.box_gr hb hg⟩
theorem enL_mem {s : Sys} {t : Nat} (ht : t < s.th.length) (hc : canS s t = true) : ((enL s s.th.length).contains ((t : Nat) : Int)) = true := by
  rw [List.contains_iff_mem]
  exact List.mem_map.2 ⟨t, List.mem_filter.2 ⟨List.mem_range.2 ht, hc⟩, rfl⟩
theorem Ints.dropK {w : World} {b o l : Nat} {zs : List Int} (h : Ints w (some ⟨b, o, none⟩) l zs) (k : Nat) (hk : k ≤ l) (A : Option Addr) (hA : k < l → A = some ⟨b, o + k, none⟩) : Ints w A (l - k) (zs.drop k) := by
  obtain ⟨h1, h2, h3⟩ := h
  refine ⟨by rw [List.length_drop]; omega, fun j => ?_, fun hp => ?_⟩
  · have := h2 (k + j)
    simpa [List.getD, List.getElem?_drop] using this
  · obtain ⟨b', o', e, hb, hc⟩ := h3 (by omega)
    injection e with e
    injection e with e1 e2
    subst e1 e2
    refine ⟨b, o + k, hA (by omega), hb, fun j hj => ?_⟩
    have := hc (k + j) (by omega)
    rw [show o + k + j = o + (k + j) by omega, this]
    simp [List.getD, List.getElem?_drop]
end Go.Proofs.Ytcamoigcfiemhaa
