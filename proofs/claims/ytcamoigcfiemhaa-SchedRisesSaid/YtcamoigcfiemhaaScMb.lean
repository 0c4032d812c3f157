/- Layer 20: Run hands back a system of its own. -/
import Derived.Test.YtcamoigcfiemhaaScFd
import Derived.Test.YtcamoigcfiemhaaHTail
namespace Go.Proofs.Ytcamoigcfiemhaa
set_option linter.unusedVariables false
set_option linter.unusedSimpArgs false
open Go.RowKit Go.Lib
set_option maxRecDepth 100000
def RunOut2 (s : Sys) (ps : List Int) (w : World) (e : Ending) (w' : World) : Prop :=
  ∃ v' A c, e = .returned (.tuple #[v', .slice A (runRes s ps).2.2.length c, .int .i64 (runRes s ps).1]) ∧ SysAt w' v' (runRes s ps).2.1 ∧ ((runRes s ps).1 = 0 → ∃ M, OwnM M w' v' (runRes s ps).2.1) ∧ Ints w' A (runRes s ps).2.2.length (runRes s ps).2.2 ∧ SliceOk A (runRes s ps).2.2.length c ∧ Below w.heap.size w w'
theorem Ints.box_gr {w w' : World} {A : Option Addr} {l g : Nat} {zs : List Int} {a b c d e f : Value} {t : TypeId} (h : Ints w A l zs) (hb : Box w g t #[a, b, c, d, e, f]) (hn : ∀ x ∈ [a, b, c, d, e, f], ∀ k n, x ≠ .int k n) (hg : w.grownBy w' (some g)) : Ints w' A l zs := by
  obtain ⟨h1, h2, h3⟩ := h
  refine ⟨h1, h2, fun hp => ?_⟩
  obtain ⟨bb, o, rfl, hlt, hc⟩ := h3 hp
  have hne : bb ≠ g := fun e => by
    subst e
    have h0 := hc 0 hp
    have h9 := hb.cell (o + 0)
    rw [h0] at h9
    have : (#[a, b, c, d, e, f] : Array Value)[o + 0]? = some (.int .i64 (zs.getD 0 0)) := h9.symm
    have hm := Array.mem_of_getElem? this
    exact hn _ (by simpa using hm) _ _ rfl
  exact ⟨bb, o, rfl, Nat.lt_of_lt_of_le hlt hg.size, fun j hj => by
    have hbk := hg.block bb hlt (fun e => hne (by injection e))
    rw [← hc j hj]
    unfold World.cell?
    rw [hbk]⟩
set_option maxHeartbeats 16000000 in
theorem run2_any (v : Value) (s : Sys) (w : World) (h : SysAt w v s) (A : Option Addr) (l cp : Nat) (ps : List Int) (hp : Ints w A l ps) (hl : l ≤ 500) : Calls Try.prog 25 #[v, .slice A l cp] w (RunOut2 s ps w) := by
  have HR := Lib.hid (fun w' (hb : Below w.heap.size w w') => right20_any v s w' (h.below hb))
  have HCp := Lib.hid (fun w' (hb : Below w.heap.size w w') hs => copied_any v s w' (h.below hb) hs)
  have HPs := Lib.hid hp
  have HPl := Lib.hid hp.1
  clear hp
  obtain ⟨A0, l0, c0, A1, l1, c1, A2, l2, c2, A3, l3, c3, A4, l4, c4, A5, l5, c5, rfl, s0, s1, s2, s3, s4, s5, h0, h1, h2, h3, h4, h5⟩ := h
  clear h0 h1 h2 h3 h4 h5 s0 s1 s2 s3 s4 s5
  have hb2 : Below w.heap.size w ((w.alloc (.cells #[.slice A0 l0 c0, .slice A1 l1 c1, .slice A2 l2 c2, .slice A3 l3 c3, .slice A4 l4 c4, .slice A5 l5 c5] 26)).alloc (.cells #[.slice none 0 0, .slice none 0 0, .slice none 0 0, .slice none 0 0, .slice none 0 0, .slice none 0 0] 26)) := ((Below.refl w.heap.size w).alloc (Nat.le_refl _) _).alloc (by simp) _
  have q1 := Box.new (w.alloc (.cells #[.slice A0 l0 c0, .slice A1 l1 c1, .slice A2 l2 c2, .slice A3 l3 c3, .slice A4 l4 c4, .slice A5 l5 c5] 26)) 26 #[.slice none 0 0, .slice none 0 0, .slice none 0 0, .slice none 0 0, .slice none 0 0, .slice none 0 0]
  simp only [World.size_alloc] at q1
  have Q0 := Lib.hid ((Box.new w 26 #[.slice A0 l0 c0, .slice A1 l1 c1, .slice A2 l2 c2, .slice A3 l3 c3, .slice A4 l4 c4, .slice A5 l5 c5]).alloc (.cells #[.slice none 0 0, .slice none 0 0, .slice none 0 0, .slice none 0 0, .slice none 0 0, .slice none 0 0] 26))
  have Q1 := Lib.hid q1
  have W2 := Lib.hid hb2
  clear q1 hb2
  obtain ⟨r0, r1, r2, r3, r4, r5⟩ := Q0.out.six
  obtain ⟨m0, m1, m2, m3, m4, m5⟩ := Q1.out.six
  have f0 := Q1.out.free 0
  have f1 := Q1.out.free 1
  have f2 := Q1.out.free 2
  have f3 := Q1.out.free 3
  have f4 := Q1.out.free 4
  have f5 := Q1.out.free 5
  cases hr : rightS s with
  | false =>
    rw [hr] at HR
    have HE := Lib.hid (show runRes s ps = (1, sys0, []) by simp [runRes, hr])
    clear hr HCp
    go_enter Try.func25, Try.ntmps25
    go_wp2_with fail
    refine (HR.out _ W2.out).mono ?_
    rintro e w1 ⟨rfl, hb⟩
    have HB1 := Lib.hid (chain W2.out hb)
    have X1 := Lib.hid (Q1.out.keep hb)
    clear hb r0 r1 r2 r3 r4 r5 m0 m1 m2 m3 m4 m5 f0 f1 f2 f3 f4 f5
    obtain ⟨m0, m1, m2, m3, m4, m5⟩ := X1.out.six
    have f0 := X1.out.free 0
    have f1 := X1.out.free 1
    have f2 := X1.out.free 2
    have f3 := X1.out.free 3
    have f4 := X1.out.free 4
    have f5 := X1.out.free 5
    have XF := Lib.hid (((((((X1.out.put 0 (.slice none 0 0)).put 1 (.slice none 0 0)).put 2 (.slice none 0 0)).put 3 (.slice none 0 0)).put 4 (.slice none 0 0)).put 5 (.slice none 0 0)))
    have BF := Lib.hid (((((((HB1.out.setCell (p := ⟨w.heap.size + 1, 0, none⟩) (Nat.le_succ _) (.slice none 0 0)).setCell (p := ⟨w.heap.size + 1, 1, none⟩) (Nat.le_succ _) (.slice none 0 0)).setCell (p := ⟨w.heap.size + 1, 2, none⟩) (Nat.le_succ _) (.slice none 0 0)).setCell (p := ⟨w.heap.size + 1, 3, none⟩) (Nat.le_succ _) (.slice none 0 0)).setCell (p := ⟨w.heap.size + 1, 4, none⟩) (Nat.le_succ _) (.slice none 0 0)).setCell (p := ⟨w.heap.size + 1, 5, none⟩) (Nat.le_succ _) (.slice none 0 0)))
    go_wp2_with fail
    exact results_cell3 Try.results25 rfl rfl rfl rfl XF.out Try.underlying26 rfl (by kernel_rfl) ⟨zeroV, none, 0, by rw [HE.out]; rfl, by rw [HE.out]; exact zeroV_at _, (by rw [HE.out]; intro h; cases h), by rw [HE.out]; exact Ints.nil _ _, by rw [HE.out]; exact ⟨Nat.le_refl _, Nat.zero_le _, fun _ => ⟨rfl, rfl⟩⟩, BF.out⟩
  | true =>
    have HE0 := Lib.hid (show ∀ st, runS s ps = st → runRes s ps = (0, st.1, st.2) from fun st h => by rw [runRes, if_pos hr, h])
    rw [hr] at HR
    have HW0 := Lib.hid (WR.of hr)
    have HSm := Lib.hid (small_of (WR.of hr))
    clear hr
    have h8 := HW0.out.n8
    obtain ⟨i0, hi, hz0, hz1, hz2⟩ := info_parts int_infoS
    have HI := Lib.hid hi
    have HZ0 := Lib.hid hz0
    have HZ1 := Lib.hid hz1
    have HZ2 := Lib.hid hz2
    clear hi hz0 hz1 hz2 f0 f1 f2 f3 f4 f5
    go_enter Try.func25, Try.ntmps25
    go_wp2_with fail
    refine (HR.out _ W2.out).mono ?_
    rintro e w1 ⟨rfl, hb⟩
    have HB1 := Lib.hid (chain W2.out hb)
    have X1 := Lib.hid (Q1.out.keep hb)
    have Y1 := Lib.hid (Q0.out.keep hb)
    have hsz : w.heap.size + 1 < w1.heap.size := X1.out.lt
    clear hb r0 r1 r2 r3 r4 r5 m0 m1 m2 m3 m4 m5
    obtain ⟨r0, r1, r2, r3, r4, r5⟩ := Y1.out.six
    go_wp2_with fail
    refine (HCp.out _ HB1.out HSm.out).mono ?_
    rintro e w2 ⟨v', rfl, hos, hb⟩
    obtain ⟨M0, hM0, hMs⟩ : ∃ M : Nat → Prop, OwnM M w2 v' s ∧ ∀ g, M g → w1.heap.size ≤ g ∧ g < w2.heap.size := ⟨_, hos.toM, fun g h => h⟩
    obtain ⟨B0, d0, B1, d1, B2, d2, B3, d3, B4, d4, B5, d5, rs0, rs5, rfl, hparts⟩ := hM0
    have OW2 := Lib.hid (show OwnM M0 w2 (.agg #[.slice B0 s.th.length d0, .slice B1 s.pc.length d1, .slice B2 s.su.length d2, .slice B3 s.lo.length d3, .slice B4 s.ce.length d4, .slice B5 s.ch.length d5]) s from ⟨B0, d0, B1, d1, B2, d2, B3, d3, B4, d4, B5, d5, rs0, rs5, rfl, hparts⟩)
    have HB2 := Lib.hid (chain HB1.out hb)
    have X2 := Lib.hid (X1.out.keep hb)
    have Y2 := Lib.hid (Y1.out.keep hb)
    have HMs := Lib.hid hMs
    have HL2 := Lib.hid hb.size
    clear hb hos hparts hMs r0 r1 r2 r3 r4 r5 HCp HR rs0 rs5
    obtain ⟨r0, r1, r2, r3, r4, r5⟩ := Y2.out.six
    have f0 := Y2.out.free 0
    have f1 := Y2.out.free 1
    have f2 := Y2.out.free 2
    have f3 := Y2.out.free 3
    have f4 := Y2.out.free 4
    have f5 := Y2.out.free 5
    have OW3 := Lib.hid (OwnM.box_gr OW2.out Y2.out (set6_grown _ _ (.slice B0 s.th.length d0) (.slice B1 s.pc.length d1) (.slice B2 s.su.length d2) (.slice B3 s.lo.length d3) (.slice B4 s.ce.length d4) (.slice B5 s.ch.length d5)))
    have Y3 := Lib.hid (((((((Y2.out.put 0 (.slice B0 s.th.length d0)).put 1 (.slice B1 s.pc.length d1)).put 2 (.slice B2 s.su.length d2)).put 3 (.slice B3 s.lo.length d3)).put 4 (.slice B4 s.ce.length d4)).put 5 (.slice B5 s.ch.length d5)))
    have X3 := Lib.hid (Box.grown X2.out (set6_grown w2 w.heap.size (.slice B0 s.th.length d0) (.slice B1 s.pc.length d1) (.slice B2 s.su.length d2) (.slice B3 s.lo.length d3) (.slice B4 s.ce.length d4) (.slice B5 s.ch.length d5)) (fun e => by injection e with e; omega))
    have HB3 := Lib.hid (((((((HB2.out.setCell (p := ⟨w.heap.size, 0, none⟩) (Nat.le_refl _) (.slice B0 s.th.length d0)).setCell (p := ⟨w.heap.size, 1, none⟩) (Nat.le_refl _) (.slice B1 s.pc.length d1)).setCell (p := ⟨w.heap.size, 2, none⟩) (Nat.le_refl _) (.slice B2 s.su.length d2)).setCell (p := ⟨w.heap.size, 3, none⟩) (Nat.le_refl _) (.slice B3 s.lo.length d3)).setCell (p := ⟨w.heap.size, 4, none⟩) (Nat.le_refl _) (.slice B4 s.ce.length d4)).setCell (p := ⟨w.heap.size, 5, none⟩) (Nat.le_refl _) (.slice B5 s.ch.length d5)))
    have hs3 : (((((((w2.setCell ⟨w.heap.size, 0, none⟩ (.slice B0 s.th.length d0)).setCell ⟨w.heap.size, 1, none⟩ (.slice B1 s.pc.length d1)).setCell ⟨w.heap.size, 2, none⟩ (.slice B2 s.su.length d2)).setCell ⟨w.heap.size, 3, none⟩ (.slice B3 s.lo.length d3)).setCell ⟨w.heap.size, 4, none⟩ (.slice B4 s.ce.length d4)).setCell ⟨w.heap.size, 5, none⟩ (.slice B5 s.ch.length d5))).heap.size = w2.heap.size := by simp [World.setCell]
    have HS3 := Lib.hid hs3
    go_upto_region 4 with (fail)
    clear r0 r1 r2 r3 r4 r5 f0 f1 f2 f3 f4 f5 OW2 Y2 X2 HB2 hs3
    obtain ⟨w3, hw3⟩ : ∃ w3, w3 = ((((((w2.setCell ⟨w.heap.size, 0, none⟩ (.slice B0 s.th.length d0)).setCell ⟨w.heap.size, 1, none⟩ (.slice B1 s.pc.length d1)).setCell ⟨w.heap.size, 2, none⟩ (.slice B2 s.su.length d2)).setCell ⟨w.heap.size, 3, none⟩ (.slice B3 s.lo.length d3)).setCell ⟨w.heap.size, 4, none⟩ (.slice B4 s.ce.length d4)).setCell ⟨w.heap.size, 5, none⟩ (.slice B5 s.ch.length d5)) := ⟨_, rfl⟩
    simp only [set6L] at OW3 X3
    rw [← hw3] at OW3 Y3 X3 HB3 HS3 ⊢
    clear hw3
    go_wp2_with fail
    go_loopw [7, 20] (fun vw t wr => ∃ (k : Nat) (M : Nat → Prop), k ≤ l ∧ t = .int .i64 (k : Int) ∧ Hid (OwnM M wr (.agg #[.slice B0 s.th.length d0, .slice B1 s.pc.length d1, .slice B2 s.su.length d2, .slice B3 s.lo.length d3, .slice B4 s.ce.length d4, .slice B5 s.ch.length d5]) (runS s (ps.take k)).1) ∧ Hid (∀ g, M g → w1.heap.size ≤ g ∧ g < wr.heap.size) ∧ Hid (wr.ownsRow w1.heap.size 3 1 vw (runS s (ps.take k)).2.length ((runS s (ps.take k)).2.map (Value.int .i64))) ∧ Hid (∀ g, vw.ownBlock = some g → ¬ M g) ∧ Hid (Box wr w.heap.size 26 #[.slice B0 s.th.length d0, .slice B1 s.pc.length d1, .slice B2 s.su.length d2, .slice B3 s.lo.length d3, .slice B4 s.ce.length d4, .slice B5 s.ch.length d5]) ∧ Hid (Box wr (w.heap.size + 1) 26 #[.slice none 0 0, .slice none 0 0, .slice none 0 0, .slice none 0 0, .slice none 0 0, .slice none 0 0]) ∧ Hid (w1.heap.size ≤ wr.heap.size) ∧ Hid (Below w.heap.size w wr)) (fun _ t _ => l - (Go.RowKit.intOf t).toNat)
    case atStart => exact ⟨0, M0, Nat.zero_le _, rfl, OW3, Lib.hid (fun g h => by rw [HS3.out]; exact HMs.out g h), Lib.hid (World.ownsRow_nil _ _ _ _), Lib.hid (fun g h => by simp [Value.ownBlock] at h), Y3, X3, Lib.hid (by rw [HS3.out]; exact HL2.out), HB3⟩
    case round =>
      obtain ⟨k, M, hk, rfl, OW, HM, WN, HN, Q, X, HLw, HB⟩ := hrel
      clear OW3 Y3 X3 HB3 HS3 HMs HB1 X1 Y1 Q0 Q1 W2 M0
      have hkl : (ps.take k).length = k := by rw [List.length_take, HPl.out]; omega
      have hwk := run_wr HW0.out (ps.take k)
      rw [hkl] at hwk
      have HWk := Lib.hid hwk
      have HNm := Lib.hid (hwk.nums (by omega))
      have HWs := Lib.hid (went_small s (ps.take k) h8)
      have HWl := run_len s (ps.take k)
      rw [hkl] at HWl
      have HSn := Lib.hid (fun h => run_snoc s ps k (by rw [HPl.out]; exact h))
      have HSt := Lib.hid (run_stuck s ps k)
      have HFl := Lib.hid (fun (h : k = l) => show runS s ps = runS s (ps.take k) by rw [List.take_of_length_le (by rw [HPl.out]; omega)])
      have HTh := Lib.hid (run_th s (ps.take k))
      obtain ⟨st, hst⟩ : ∃ st, st = runS s (ps.take k) := ⟨_, rfl⟩
      simp only [← hst] at OW WN HWk HNm HWs HWl HSn HSt HFl HTh
      clear hst hwk hkl
      obtain ⟨c, ws⟩ := st
      have OW : Hid (OwnM M wr (.agg #[.slice B0 s.th.length d0, .slice B1 s.pc.length d1, .slice B2 s.su.length d2, .slice B3 s.lo.length d3, .slice B4 s.ce.length d4, .slice B5 s.ch.length d5]) c) := OW
      have WN : Hid (wr.ownsRow w1.heap.size 3 1 _ ws.length (ws.map (Value.int .i64))) := WN
      obtain ⟨AW, cW, hvw, -⟩ := own_form WN.out
      subst hvw
      by_cases hlt : k < l
      · have hlt' : (k : Int) < (l : Int) := by omega
        obtain ⟨bp, op, rfl, hbp, hcp⟩ := (HPs.out.below HB.out).2.2 (by omega)
        have c0 := hcp k hlt
        obtain ⟨p, hpe⟩ : ∃ p, p = ps.getD k 0 := ⟨_, rfl⟩
        rw [← hpe] at c0 HSn
        clear hcp hpe
        have HEn := Lib.hid (enabled_any _ c wr (OW.out.sys.at HNm.out) k HWk.out)
        obtain ⟨r0, r1, r2, r3, r4, r5⟩ := Q.out.six
        go_wp2_with fail
        refine HEn.out.mono ?_
        rintro e w4 ⟨A9, c9, rfl, ho9, hb⟩
        have O9 := Lib.hid ho9
        have OW4 := Lib.hid (OW.out.keepB hb)
        have HM4 := Lib.hid (show ∀ g, M g → w1.heap.size ≤ g ∧ g < w4.heap.size from fun g h => ⟨(HM.out g h).1, Nat.lt_of_lt_of_le (HM.out g h).2 hb.size⟩)
        have WN4 := Lib.hid (own_keepB WN.out hb)
        have Q4 := Lib.hid (Q.out.keep hb)
        have X4 := Lib.hid (X.out.keep hb)
        have HB4 := Lib.hid (chain HB.out hb)
        have HL14 := Lib.hid (Nat.le_trans HLw.out hb.size)
        have h9 := enL_length c c.th.length
        have hel := enL_len c c.th.length
        have hth8 : c.th.length ≤ 8 := HWk.out.n8
        have HNl := Lib.hid (enL_nil (s := c) (k := c.th.length))
        have HAt := Lib.hid (enL_at c c.th.length)
        have H9 := Lib.hid h9
        clear ho9 hb r0 r1 r2 r3 r4 r5 c0 OW HM WN Q X HB h9
        obtain ⟨zs, hzs⟩ : ∃ zs, zs = enL c c.th.length := ⟨_, rfl⟩
        have HZs := Lib.hid hzs
        rw [← hzs] at O9 hel
        rw [← hzs]
        clear hzs
        have OW := OW4
        have HM := HM4
        have WN := WN4
        have Q := Q4
        have X := X4
        have HB := HB4
        clear OW4 HM4 WN4 Q4 X4 HB4
        by_cases hz : zs.length = 0
        · have tz : ((zs.length : Int) == 0) = true := by simpa using hz
          have HE := Lib.hid (HE0.out _ (HSt.out (by
            have h1 : zs = [] := List.eq_nil_of_length_eq_zero hz
            rw [HZs.out] at h1
            exact HNl.out.1 h1)))
          clear hz
          obtain ⟨m0, m1, m2, m3, m4, m5⟩ := X.out.six
          have f0 := X.out.free 0
          have f1 := X.out.free 1
          have f2 := X.out.free 2
          have f3 := X.out.free 3
          have f4 := X.out.free 4
          have f5 := X.out.free 5
          have OF := Lib.hid (OwnM.box_gr OW.out X.out (set6_grown _ _ (.slice B0 s.th.length d0) (.slice B1 s.pc.length d1) (.slice B2 s.su.length d2) (.slice B3 s.lo.length d3) (.slice B4 s.ce.length d4) (.slice B5 s.ch.length d5)))
          have RF := Lib.hid (World.ownsRow.kept WN.out (set6_grown _ (w.heap.size + 1) (.slice B0 s.th.length d0) (.slice B1 s.pc.length d1) (.slice B2 s.su.length d2) (.slice B3 s.lo.length d3) (.slice B4 s.ce.length d4) (.slice B5 s.ch.length d5)) (.inr (own_ne WN.out X.out (by decide))))
          have XF := Lib.hid (((((((X.out.put 0 (.slice B0 s.th.length d0)).put 1 (.slice B1 s.pc.length d1)).put 2 (.slice B2 s.su.length d2)).put 3 (.slice B3 s.lo.length d3)).put 4 (.slice B4 s.ce.length d4)).put 5 (.slice B5 s.ch.length d5)))
          have BF := Lib.hid (((((((HB.out.setCell (p := ⟨w.heap.size + 1, 0, none⟩) (Nat.le_succ _) (.slice B0 s.th.length d0)).setCell (p := ⟨w.heap.size + 1, 1, none⟩) (Nat.le_succ _) (.slice B1 s.pc.length d1)).setCell (p := ⟨w.heap.size + 1, 2, none⟩) (Nat.le_succ _) (.slice B2 s.su.length d2)).setCell (p := ⟨w.heap.size + 1, 3, none⟩) (Nat.le_succ _) (.slice B3 s.lo.length d3)).setCell (p := ⟨w.heap.size + 1, 4, none⟩) (Nat.le_succ _) (.slice B4 s.ce.length d4)).setCell (p := ⟨w.heap.size + 1, 5, none⟩) (Nat.le_succ _) (.slice B5 s.ch.length d5)))
          obtain ⟨r0, r1, r2, r3, r4, r5⟩ := Q.out.six
          go_wp2_with fail
          refine results_cell3 Try.results25 rfl rfl rfl rfl XF.out Try.underlying26 rfl (by kernel_rfl) ?_
          rw [RunOut2, HE.out]
          exact ⟨_, AW, cW, rfl, OF.out.sys.at HNm.out, (fun _ => ⟨_, OF.out⟩), OwnI.ints RF.out HWs.out, own_cap RF.out, BF.out⟩
        · have tz : ((zs.length : Int) == 0) = false := by simpa using hz
          have hz0 : 0 < zs.length := by omega
          have hzl : zs.length = (enN c c.th.length).length := by rw [HZs.out]; exact H9.out
          have hne : enN c c.th.length ≠ [] := fun h => by rw [h] at hzl; have h0 : zs.length = 0 := hzl; omega
          have HMo := Lib.hid (fun wx => modulo_any p zs.length hz0 (by omega) wx)
          have hpm : pmod p zs.length < zs.length := pmod_lt p hz0
          obtain ⟨h1t, h2t⟩ := mem_enN (pickT_mem p hne)
          obtain ⟨g9, rfl, -, -⟩ := own_addr O9.out hz0
          have cz := World.ownsRow.cellAt O9.out (pmod p zs.length) (by omega)
          have hval : zs.getD (pmod p zs.length) 0 = ((pickT c p : Nat) : Int) := by
            have e1 := HAt.out (pmod p zs.length) (by omega)
            rw [← HZs.out] at e1
            rw [e1, hzl]; rfl
          rw [List.getElem?_map, show zs[pmod p zs.length]? = some (zs.getD (pmod p zs.length) 0) by rw [List.getD, List.getElem?_eq_getElem hpm]; rfl, hval] at cz
          replace cz : w4.cell? ⟨g9, pmod p zs.length, none⟩ = some (.int .i64 ((pickT c p : Nat) : Int)) := cz
          have HPk := Lib.hid (show pickP (c, ws) p = (stepS c (pickT c p), ws ++ [((pickT c p : Nat) : Int)]) by unfold pickP; rw [if_neg hne])
          obtain ⟨j, hj⟩ : ∃ j, j = pmod p zs.length := ⟨_, rfl⟩
          rw [← hj] at cz hpm HMo
          obtain ⟨t, hte⟩ : ∃ t, t = pickT c p := ⟨_, rfl⟩
          rw [← hte] at cz HPk h1t h2t
          have hjl : (j : Int) < (zs.length : Int) := by omega
          have HGo := Lib.hid (fun wx (ho : OwnM M wx (.agg #[.slice B0 s.th.length d0, .slice B1 s.pc.length d1, .slice B2 s.su.length d2, .slice B3 s.lo.length d3, .slice B4 s.ce.length d4, .slice B5 s.ch.length d5]) c) hm => goOn_any M _ c wx ho hm k (by omega) HWk.out t h1t h2t)
          clear hz hj hte hval hzl hne h1t h2t
          obtain ⟨r0, r1, r2, r3, r4, r5⟩ := Q.out.six
          go_wp2_with fail
          refine (HMo.out _).mono ?_
          rintro e w9 ⟨rfl, hw9⟩
          obtain rfl := hw9.symm
          clear hw9
          go_wp2_with fail
          refine (HGo.out _ OW.out (fun g h => (HM.out g h).2)).mono ?_
          rintro e w5 ⟨rfl, N, hN1, hN2, hN3⟩
          have OW5 := Lib.hid hN1
          have HM5 := Lib.hid (show ∀ g, N g → w1.heap.size ≤ g ∧ g < w5.heap.size from fun g h => by
            rcases hN3 g h with h | h
            · exact ⟨(HM.out g h).1, Nat.lt_of_lt_of_le (HM.out g h).2 hN2.size⟩
            · exact ⟨Nat.le_trans HL14.out h.1, h.2⟩)
          have WN5 := Lib.hid (hN2.own WN.out HN.out)
          have HN5 := Lib.hid (show ∀ g, (Value.slice AW ws.length cW).ownBlock = some g → ¬ N g from fun g hg h => by
            rcases hN3 g h with h | h
            · exact HN.out g hg h
            · have := (WN.out.lt g hg).2; omega)
          have Q5 := Lib.hid (hN2.box Q.out (fun h => by have := (HM.out _ h).1; omega))
          have X5 := Lib.hid (hN2.box X.out (fun h => by have := (HM.out _ h).1; omega))
          have HL15 := Lib.hid (Nat.le_trans HL14.out hN2.size)
          have HB5 := Lib.hid (HB.out.trans (hN2.below (B := w.heap.size) HB.out.size (fun g h => by have := (HM.out g h).1; omega)))
          clear hN1 hN2 hN3 r0 r1 r2 r3 r4 r5 cz OW HM WN Q X HB HN
          have b6 : Below w5.heap.size w5 (w5.alloc (.cells #[.int .i64 (t : Int)] 3)) := (Below.refl _ _).alloc (Nat.le_refl _) _
          have XO := Lib.hid (WN5.out.alloc (.cells #[.int .i64 (t : Int)] 3))
          have OW6 := Lib.hid (OW5.out.keepB b6)
          have Q6 := Lib.hid (Q5.out.keep b6)
          have X6 := Lib.hid (X5.out.keep b6)
          have HB6 := Lib.hid (HB5.out.alloc HB5.out.size (.cells #[.int .i64 (t : Int)] 3))
          have NQ := Lib.hid (own_ne XO.out Q6.out (by decide))
          have NX := Lib.hid (own_ne XO.out X6.out (by decide))
          have hs6 : (w5.alloc (.cells #[.int .i64 (t : Int)] 3)).heap.size = w5.heap.size + 1 := by simp
          have HS6 := Lib.hid hs6
          have hb16 : w1.heap.size ≤ (w5.alloc (.cells #[.int .i64 (t : Int)] 3)).heap.size := by rw [hs6]; have h1 := HL15.out; omega
          clear b6 hs6
          go_wp2_with (at_builtin; refine wpList_append_lies _ rfl _ _ 23 rfl w1.heap.size 3 i0 (.int .i64 0) 1 8 Try.underlying23 HI.out HZ0.out HZ1.out HZ2.out rfl (by decide) _ _ _ rfl XO.out ⟨w5.heap.size, 0, none⟩ 1 1 [.int .i64 (t : Int)] rfl rfl (cell_one_new _ _ _) (by simp [Value.oneCell']) (by omega) (by simp [maxLen]; omega) (by omega) hb16 _ rfl ?_; intro g7 cap7 w7 hown' hgrow hat hlt7; have WN7 := Lib.hid hown'; have OW7 := Lib.hid (OW6.out.grownW XO.out HN5.out hgrow); have Q7 := Lib.hid (Q6.out.grown hgrow NQ.out); have X7 := Lib.hid (X6.out.grown hgrow NX.out); have HB7 := Lib.hid (HB6.out.grown hgrow HB6.out.size (fun g hg => by have := (XO.out.lt g hg).1; omega)); have HAt7 := Lib.hid hat; have HSz7 := Lib.hid hgrow.size; clear hown' hgrow hat)
          go_roundw
          case rel =>
            have hs := HSn.out hlt
            rw [HPk.out] at hs
            refine ⟨k + 1, N, by omega, by go_num, Lib.hid (by rw [hs]; exact OW7.out), Lib.hid (fun g h => ⟨(HM5.out g h).1, ?_⟩), Lib.hid (by rw [hs]; show World.ownsRow _ _ _ 1 _ (ws ++ [(t : Int)]).length ((ws ++ [(t : Int)]).map (Value.int .i64)); rw [List.length_append, List.map_append]; exact WN7.out), Lib.hid (fun g hg h => ?_), Q7, X7, Lib.hid (by have h1 := HL15.out; have h2 := HSz7.out; rw [HS6.out] at h2; omega), HB7⟩
            · have h1 := (HM5.out g h).2
              have h2 := HSz7.out
              rw [HS6.out] at h2
              omega
            · have hg' : g7 = g := by simpa [Value.ownBlock] using hg
              subst hg'
              rcases HAt7.out with e | e
              · exact HN5.out _ e h
              · have h1 := (HM5.out _ h).2
                rw [e, HS6.out] at h1
                omega
          case measure => simp [Go.RowKit.intOf] <;> omega
      · have hlt' : ¬ (k : Int) < (l : Int) := by omega
        have HE := Lib.hid (HE0.out _ (HFl.out (by omega)))
        obtain ⟨m0, m1, m2, m3, m4, m5⟩ := X.out.six
        have f0 := X.out.free 0
        have f1 := X.out.free 1
        have f2 := X.out.free 2
        have f3 := X.out.free 3
        have f4 := X.out.free 4
        have f5 := X.out.free 5
        have OF := Lib.hid (OwnM.box_gr OW.out X.out (set6_grown _ _ (.slice B0 s.th.length d0) (.slice B1 s.pc.length d1) (.slice B2 s.su.length d2) (.slice B3 s.lo.length d3) (.slice B4 s.ce.length d4) (.slice B5 s.ch.length d5)))
        have RF := Lib.hid (World.ownsRow.kept WN.out (set6_grown _ (w.heap.size + 1) (.slice B0 s.th.length d0) (.slice B1 s.pc.length d1) (.slice B2 s.su.length d2) (.slice B3 s.lo.length d3) (.slice B4 s.ce.length d4) (.slice B5 s.ch.length d5)) (.inr (own_ne WN.out X.out (by decide))))
        have XF := Lib.hid (((((((X.out.put 0 (.slice B0 s.th.length d0)).put 1 (.slice B1 s.pc.length d1)).put 2 (.slice B2 s.su.length d2)).put 3 (.slice B3 s.lo.length d3)).put 4 (.slice B4 s.ce.length d4)).put 5 (.slice B5 s.ch.length d5)))
        have BF := Lib.hid (((((((HB.out.setCell (p := ⟨w.heap.size + 1, 0, none⟩) (Nat.le_succ _) (.slice B0 s.th.length d0)).setCell (p := ⟨w.heap.size + 1, 1, none⟩) (Nat.le_succ _) (.slice B1 s.pc.length d1)).setCell (p := ⟨w.heap.size + 1, 2, none⟩) (Nat.le_succ _) (.slice B2 s.su.length d2)).setCell (p := ⟨w.heap.size + 1, 3, none⟩) (Nat.le_succ _) (.slice B3 s.lo.length d3)).setCell (p := ⟨w.heap.size + 1, 4, none⟩) (Nat.le_succ _) (.slice B4 s.ce.length d4)).setCell (p := ⟨w.heap.size + 1, 5, none⟩) (Nat.le_succ _) (.slice B5 s.ch.length d5)))
        obtain ⟨r0, r1, r2, r3, r4, r5⟩ := Q.out.six
        go_wp2_with fail
        refine results_cell3 Try.results25 rfl rfl rfl rfl XF.out Try.underlying26 rfl (by kernel_rfl) ?_
        rw [RunOut2, HE.out]
        exact ⟨_, AW, cW, rfl, OF.out.sys.at HNm.out, (fun _ => ⟨_, OF.out⟩), OwnI.ints RF.out HWs.out, own_cap RF.out, BF.out⟩
/-- Run, of a system that may be. -/
def RunOk (st : Sys × List Int) (w : World) (e : Ending) (w' : World) : Prop := ∃ A0 c0 A1 c1 A2 c2 A3 c3 A4 c4 A5 c5 A c, e = .returned (.tuple #[.agg #[.slice A0 st.1.th.length c0, .slice A1 st.1.pc.length c1, .slice A2 st.1.su.length c2, .slice A3 st.1.lo.length c3, .slice A4 st.1.ce.length c4, .slice A5 st.1.ch.length c5], .slice A st.2.length c, .int .i64 0]) ∧ (∃ M, OwnM M w' (.agg #[.slice A0 st.1.th.length c0, .slice A1 st.1.pc.length c1, .slice A2 st.1.su.length c2, .slice A3 st.1.lo.length c3, .slice A4 st.1.ce.length c4, .slice A5 st.1.ch.length c5]) st.1) ∧ Ints w' A st.2.length st.2 ∧ SliceOk A st.2.length c ∧ Below w.heap.size w w'
theorem run_ok_any (v : Value) (s : Sys) (w : World) (h : SysAt w v s) (A : Option Addr) (l cp : Nat) (ps : List Int) (hp : Ints w A l ps) (hl : l ≤ 500) (hr : rightS s = true) : Calls Try.prog 25 #[v, .slice A l cp] w (RunOk (runS s ps) w) := by
  refine (run2_any v s w h A l cp ps hp hl).mono ?_
  have hE : runRes s ps = (0, (runS s ps).1, (runS s ps).2) := by unfold runRes; rw [if_pos hr]
  rintro e w' ⟨v', B, d, rfl, -, hM, hi, hk, hb⟩
  rw [hE] at hM hi hk ⊢
  obtain ⟨M, hM⟩ := hM rfl
  obtain ⟨A0, c0, A1, c1, A2, c2, A3, c3, A4, c4, A5, c5, rs0, rs5, hv, hpp⟩ := id hM
  dsimp only at hv hM
  subst hv
  exact ⟨A0, c0, A1, c1, A2, c2, A3, c3, A4, c4, A5, c5, B, d, rfl, ⟨M, hM⟩, hi, hk, hb⟩
theorem run_no_any (v : Value) (s : Sys) (w : World) (h : SysAt w v s) (A : Option Addr) (l cp : Nat) (ps : List Int) (hp : Ints w A l ps) (hl : l ≤ 500) (hr : rightS s = false) : Calls Try.prog 25 #[v, .slice A l cp] w fun e w' => ∃ A0 l0 c0 A1 l1 c1 A2 l2 c2 A3 l3 c3 A4 l4 c4 A5 l5 c5 B d, e = .returned (.tuple #[.agg #[.slice A0 l0 c0, .slice A1 l1 c1, .slice A2 l2 c2, .slice A3 l3 c3, .slice A4 l4 c4, .slice A5 l5 c5], .slice B 0 d, .int .i64 1]) ∧ Below w.heap.size w w' := by
  refine (run2_any v s w h A l cp ps hp hl).mono ?_
  have hE : runRes s ps = (1, sys0, []) := by unfold runRes; rw [hr]; rfl
  rintro e w' ⟨v', B, d, rfl, hs, -, hi, hk, hb⟩
  rw [hE] at hs hi hk ⊢
  obtain ⟨A0, l0, c0, A1, l1, c1, A2, l2, c2, A3, l3, c3, A4, l4, c4, A5, l5, c5, rfl, -⟩ := hs
  exact ⟨A0, l0, c0, A1, l1, c1, A2, l2, c2, A3, l3, c3, A4, l4, c4, A5, l5, c5, B, d, rfl, hb⟩
end Go.Proofs.Ytcamoigcfiemhaa
