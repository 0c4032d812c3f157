/- Layer 20: Enabled, Step, Done. -/
import Derived.Test.YtcamoigcfiemhaaScM
namespace Go.Proofs.Ytcamoigcfiemhaa
set_option linter.unusedVariables false
set_option linter.unusedSimpArgs false
open Go.RowKit Go.Lib
set_option maxRecDepth 100000
def enbRes (s : Sys) : Int × List Int := if rightS s = true then (0, enL s s.th.length) else (1, [])
/-- Numbers and an error, handed back. -/
def NumsE (r : Int × List Int) (w : World) (e : Ending) (w' : World) : Prop := ∃ A c, e = .returned (.tuple #[.slice A r.2.length c, .int .i64 r.1]) ∧ Ints w' A r.2.length r.2 ∧ SliceOk A r.2.length c ∧ Below w.heap.size w w'
theorem enL_in64 (s : Sys) (k : Nat) (hk : k ≤ 1000) : In64 (enL s k) := in64_lt fun x hx => by
  obtain ⟨t, ht, rfl⟩ := List.mem_map.1 hx
  have := (mem_enN ht).1
  omega
set_option maxHeartbeats 4000000 in
theorem enabledE_any (v : Value) (s : Sys) (w : World) (h : SysAt w v s) : Calls Try.prog 17 #[v] w (NumsE (enbRes s) w) := by
  have HR := Lib.hid (fun w' (hb : Below w.heap.size w w') => right20_any v s w' (h.below hb))
  have HEn := Lib.hid (fun w' (hb : Below w.heap.size w w') hr => enabled_any v s w' (h.below hb) 0 (WR.of hr))
  obtain ⟨A0, l0, c0, A1, l1, c1, A2, l2, c2, A3, l3, c3, A4, l4, c4, A5, l5, c5, rfl, s0, s1, s2, s3, s4, s5, h0, h1, h2, h3, h4, h5⟩ := h
  clear h0 h1 h2 h3 h4 h5 s0 s1 s2 s3 s4 s5
  have W1 := Lib.hid ((Below.refl w.heap.size w).alloc (Nat.le_refl _) (.cells #[.slice A0 l0 c0, .slice A1 l1 c1, .slice A2 l2 c2, .slice A3 l3 c3, .slice A4 l4 c4, .slice A5 l5 c5] 26))
  have Q0 := Lib.hid (Box.new w 26 #[.slice A0 l0 c0, .slice A1 l1 c1, .slice A2 l2 c2, .slice A3 l3 c3, .slice A4 l4 c4, .slice A5 l5 c5])
  obtain ⟨r0, r1, r2, r3, r4, r5⟩ := Q0.out.six
  cases hr : rightS s with
  | false =>
    rw [hr] at HR
    have HE := Lib.hid (show enbRes s = (1, []) by simp [enbRes, hr])
    clear hr HEn
    go_enter Try.func17, Try.ntmps17
    go_wp2_with fail
    refine (HR.out _ W1.out).mono ?_
    rintro e w1 ⟨rfl, hb⟩
    have HB1 := Lib.hid (chain W1.out hb)
    have Y1 := Lib.hid (Q0.out.keep hb)
    clear hb r0 r1 r2 r3 r4 r5
    go_wp2_with fail
    go_ret2
    rw [HE.out]
    exact ⟨none, 0, rfl, Ints.nil _ _, ⟨Nat.le_refl _, Nat.zero_le _, fun _ => ⟨rfl, rfl⟩⟩, HB1.out⟩
  | true =>
    have HRt := Lib.hid hr
    have HE := Lib.hid (show enbRes s = (0, enL s s.th.length) by simp [enbRes, hr])
    have HN := Lib.hid (enL_in64 s s.th.length (by have := (WR.of hr).n8; omega))
    rw [hr] at HR
    clear hr
    go_enter Try.func17, Try.ntmps17
    go_wp2_with fail
    refine (HR.out _ W1.out).mono ?_
    rintro e w1 ⟨rfl, hb⟩
    have HB1 := Lib.hid (chain W1.out hb)
    have Y1 := Lib.hid (Q0.out.keep hb)
    clear hb r0 r1 r2 r3 r4 r5
    obtain ⟨r0, r1, r2, r3, r4, r5⟩ := Y1.out.six
    go_wp2_with fail
    refine (HEn.out _ HB1.out HRt.out).mono ?_
    rintro e w2 ⟨A9, c9, rfl, ho, hb⟩
    have HO := Lib.hid ho
    have HB2 := Lib.hid (chain HB1.out hb)
    clear ho hb r0 r1 r2 r3 r4 r5
    go_wp2_with fail
    go_ret2
    rw [HE.out]
    exact ⟨A9, c9, rfl, OwnI.ints HO.out HN.out, own_cap HO.out, HB2.out⟩
/-- Are all threads at their ends? -/
def doneB (s : Sys) : Bool := (List.range s.th.length).all (endS s)
def doneRes (s : Sys) : Bool × Int := if rightS s = true then (doneB s, 0) else (false, 1)
set_option maxHeartbeats 4000000 in
theorem done_any (v : Value) (s : Sys) (w : World) (h : SysAt w v s) : Calls Try.prog 19 #[v] w fun e w' => e = .returned (.tuple #[.bool (doneRes s).1, .int .i64 (doneRes s).2]) ∧ Below w.heap.size w w' := by
  have HR := Lib.hid (fun w' (hb : Below w.heap.size w w') => right20_any v s w' (h.below hb))
  have HAt := Lib.hid (fun w' (hb : Below w.heap.size w w') t ht hp h64 => atEnd_any v s w' (h.below hb) t ht hp h64)
  obtain ⟨A0, l0, c0, A1, l1, c1, A2, l2, c2, A3, l3, c3, A4, l4, c4, A5, l5, c5, rfl, s0, s1, s2, s3, s4, s5, h0, h1, h2, h3, h4, h5⟩ := h
  have e0 := h0.1
  clear h0 h1 h2 h3 h4 h5 s0 s1 s2 s3 s4 s5
  have W1 := Lib.hid ((Below.refl w.heap.size w).alloc (Nat.le_refl _) (.cells #[.slice A0 l0 c0, .slice A1 l1 c1, .slice A2 l2 c2, .slice A3 l3 c3, .slice A4 l4 c4, .slice A5 l5 c5] 26))
  have Q0 := Lib.hid (Box.new w 26 #[.slice A0 l0 c0, .slice A1 l1 c1, .slice A2 l2 c2, .slice A3 l3 c3, .slice A4 l4 c4, .slice A5 l5 c5])
  obtain ⟨r0, r1, r2, r3, r4, r5⟩ := Q0.out.six
  cases hr : rightS s with
  | false =>
    rw [hr] at HR
    have HE := Lib.hid (show doneRes s = (false, 1) by simp [doneRes, hr])
    clear hr HAt
    go_enter Try.func19, Try.ntmps19
    go_wp2_with fail
    refine (HR.out _ W1.out).mono ?_
    rintro e w1 ⟨rfl, hb⟩
    have HB1 := Lib.hid (chain W1.out hb)
    have Y1 := Lib.hid (Q0.out.keep hb)
    clear hb r0 r1 r2 r3 r4 r5
    go_wp2_with fail
    go_ret2
    rw [HE.out]
    exact ⟨rfl, HB1.out⟩
  | true =>
    have hw := WR.of hr
    have h8 := hw.n8
    have hpc := hw.pcl
    have HE := Lib.hid (show doneRes s = (doneB s, 0) by simp [doneRes, hr])
    have HL0 := Lib.hid e0
    have HPc := Lib.hid hpc
    have l08 : l0 ≤ 8 := by omega
    rw [hr] at HR
    clear hr hw hpc e0
    go_enter Try.func19, Try.ntmps19
    go_wp2_with fail
    refine (HR.out _ W1.out).mono ?_
    rintro e w1 ⟨rfl, hb⟩
    have HB1 := Lib.hid (chain W1.out hb)
    have Y1 := Lib.hid (Q0.out.keep hb)
    clear hb r0 r1 r2 r3 r4 r5
    obtain ⟨r0, r1, r2, r3, r4, r5⟩ := Y1.out.six
    go_wp2_with fail
    go_loopw [11] (fun t wr => ∃ k : Nat, k ≤ l0 ∧ t = .int .i64 (k : Int) ∧ Hid ((List.range k).all (endS s) = true) ∧ Hid (Box wr w.heap.size 26 #[.slice A0 l0 c0, .slice A1 l1 c1, .slice A2 l2 c2, .slice A3 l3 c3, .slice A4 l4 c4, .slice A5 l5 c5]) ∧ Hid (Below w.heap.size w wr)) (fun t _ => l0 - (Go.RowKit.intOf t).toNat)
    case atStart => exact ⟨0, Nat.zero_le _, rfl, Lib.hid rfl, Y1, HB1⟩
    case round =>
      obtain ⟨k, hk, rfl, HA, Q, HB⟩ := hrel
      clear Y1 HB1 r0 r1 r2 r3 r4 r5
      obtain ⟨r0, r1, r2, r3, r4, r5⟩ := Q.out.six
      by_cases hlt : k < l0
      · have hlt' : (k : Int) < (l0 : Int) := by omega
        have HS := Lib.hid (all_range_snoc (endS s) k)
        have HNo := Lib.hid (fun h => all_range_no (endS s) s.th.length k (by rw [HL0.out]; exact hlt) h)
        have HC := Lib.hid (HAt.out _ HB.out k (by rw [HL0.out]; exact hlt) (by rw [HPc.out, HL0.out]; exact hlt) (by omega))
        cases he : endS s k with
        | true =>
          rw [he] at HC
          have HSx := Lib.hid (HS.out.trans (by rw [HA.out, he]))
          clear he
          go_wp2_with fail
          refine HC.out.mono ?_
          rintro e w2 ⟨rfl, hb⟩
          have Q2 := Lib.hid (Q.out.keep hb)
          have HB2 := Lib.hid (chain HB.out hb)
          clear hb
          go_wp2_with fail
          go_roundw
          case rel => exact ⟨k + 1, by omega, by go_num, HSx, Q2, HB2⟩
          case measure => simp [Go.RowKit.intOf] <;> omega
        | false =>
          rw [he] at HC
          have HF := Lib.hid (show doneB s = false from HNo.out he)
          clear he
          go_wp2_with fail
          refine HC.out.mono ?_
          rintro e w2 ⟨rfl, hb⟩
          have HB2 := Lib.hid (chain HB.out hb)
          clear hb
          go_wp2_with fail
          go_ret2
          rw [HE.out, HF.out]
          exact ⟨rfl, HB2.out⟩
      · have hlt' : ¬ (k : Int) < (l0 : Int) := by omega
        have HF := Lib.hid (show doneB s = true by
          have := HA.out
          rwa [show k = s.th.length by rw [HL0.out]; omega] at this)
        go_wp2_with fail
        go_ret2
        rw [HE.out, HF.out]
        exact ⟨rfl, HB.out⟩
/-- What Step hands back. -/
def stepRes (s : Sys) (t : Int) : Int × Sys := if rightS s = true then (if 0 ≤ t ∧ t < (s.th.length : Int) then (if canS s t.toNat = true then (0, stepS s t.toNat) else (11, sys0)) else (3, sys0)) else (1, sys0)
def SysE (r : Int × Sys) (w : World) (e : Ending) (w' : World) : Prop := ∃ v', e = .returned (.tuple #[v', .int .i64 r.1]) ∧ SysAt w' v' r.2 ∧ Below w.heap.size w w'
set_option maxHeartbeats 16000000 in
theorem step_any (v : Value) (s : Sys) (w : World) (h : SysAt w v s) (t : Int) (ht1 : -9223372036854775808 ≤ t) (ht2 : t ≤ 9223372036854775807) : Calls Try.prog 18 #[v, .int .i64 t] w (SysE (stepRes s t) w) := by
  have HR := Lib.hid (fun w' (hb : Below w.heap.size w w') => right20_any v s w' (h.below hb))
  have HCp := Lib.hid (fun w' (hb : Below w.heap.size w w') hs => copied_any v s w' (h.below hb) hs)
  have HCan := Lib.hid (fun w' (hb : Below w.heap.size w w') hr t ht => can_any v s w' (h.below hb) 0 (WR.of hr) t ht)
  obtain ⟨A0, l0, c0, A1, l1, c1, A2, l2, c2, A3, l3, c3, A4, l4, c4, A5, l5, c5, rfl, s0, s1, s2, s3, s4, s5, h0, h1, h2, h3, h4, h5⟩ := h
  have e0 := h0.1
  have hlm := Nat.le_trans s0.1 s0.2.1
  unfold maxLen at hlm
  clear h0 h1 h2 h3 h4 h5 s0 s1 s2 s3 s4 s5
  have hb2 : Below w.heap.size w ((w.alloc (.cells #[.slice A0 l0 c0, .slice A1 l1 c1, .slice A2 l2 c2, .slice A3 l3 c3, .slice A4 l4 c4, .slice A5 l5 c5] 26)).alloc (.cells #[.slice none 0 0, .slice none 0 0, .slice none 0 0, .slice none 0 0, .slice none 0 0, .slice none 0 0] 26)) := ((Below.refl w.heap.size w).alloc (Nat.le_refl _) _).alloc (by simp) _
  have q1 := Box.new (w.alloc (.cells #[.slice A0 l0 c0, .slice A1 l1 c1, .slice A2 l2 c2, .slice A3 l3 c3, .slice A4 l4 c4, .slice A5 l5 c5] 26)) 26 #[.slice none 0 0, .slice none 0 0, .slice none 0 0, .slice none 0 0, .slice none 0 0, .slice none 0 0]
  simp only [World.size_alloc] at q1
  have Q0 := Lib.hid ((Box.new w 26 #[.slice A0 l0 c0, .slice A1 l1 c1, .slice A2 l2 c2, .slice A3 l3 c3, .slice A4 l4 c4, .slice A5 l5 c5]).alloc (.cells #[.slice none 0 0, .slice none 0 0, .slice none 0 0, .slice none 0 0, .slice none 0 0, .slice none 0 0] 26))
  have Q1 := Lib.hid q1
  have W2 := Lib.hid hb2
  clear q1 hb2
  obtain ⟨r0, r1, r2, r3, r4, r5⟩ := Q0.out.six
  cases hr : rightS s with
  | false =>
    rw [hr] at HR
    have HE := Lib.hid (show stepRes s t = (1, sys0) by simp [stepRes, hr])
    clear hr HCp HCan
    go_enter Try.func18, Try.ntmps18
    go_wp2_with fail
    refine (HR.out _ W2.out).mono ?_
    rintro e w1 ⟨rfl, hb⟩
    have HB1 := Lib.hid (chain W2.out hb)
    have X1 := Lib.hid (Q1.out.keep hb)
    have Y1 := Lib.hid (Q0.out.keep hb)
    clear hb r0 r1 r2 r3 r4 r5
    obtain ⟨m0, m1, m2, m3, m4, m5⟩ := X1.out.six
    have f0 := X1.out.free 0
    have f1 := X1.out.free 1
    have f2 := X1.out.free 2
    have f3 := X1.out.free 3
    have f4 := X1.out.free 4
    have f5 := X1.out.free 5
    have XF := Lib.hid (((((((X1.out.put 0 (.slice none 0 0)).put 1 (.slice none 0 0)).put 2 (.slice none 0 0)).put 3 (.slice none 0 0)).put 4 (.slice none 0 0)).put 5 (.slice none 0 0)))
    have BF := Lib.hid (((((((HB1.out.setCell (p := ⟨w.heap.size + 1, 0, none⟩) (Nat.le_succ _) (.slice none 0 0)).setCell (p := ⟨w.heap.size + 1, 1, none⟩) (Nat.le_succ _) (.slice none 0 0)).setCell (p := ⟨w.heap.size + 1, 2, none⟩) (Nat.le_succ _) (.slice none 0 0)).setCell (p := ⟨w.heap.size + 1, 3, none⟩) (Nat.le_succ _) (.slice none 0 0)).setCell (p := ⟨w.heap.size + 1, 4, none⟩) (Nat.le_succ _) (.slice none 0 0)).setCell (p := ⟨w.heap.size + 1, 5, none⟩) (Nat.le_succ _) (.slice none 0 0)))
    go_wp2_with fail
    refine close_cell Try.results18 rfl rfl rfl XF.out Try.underlying26 rfl (by kernel_rfl) ?_
    rw [HE.out]
    exact ⟨zeroV, rfl, zeroV_at _, BF.out⟩
  | true =>
    have HRt := Lib.hid hr
    have h8 := (WR.of hr).n8
    have l08 : (l0 : Int) ≤ 8 := by omega
    rw [hr] at HR
    by_cases q : 0 ≤ t ∧ t < (s.th.length : Int)
    · have q0 : ¬ t < 0 := by omega
      have q1 : ¬ (l0 : Int) ≤ t := by omega
      obtain ⟨tn, rfl⟩ := Nat.of_int q.1
      have htn : tn < s.th.length := by omega
      have HCn := Lib.hid (fun w' hb => HCan.out w' hb HRt.out tn htn)
      cases hc : canS s tn with
      | false =>
        rw [hc] at HCn
        have HE := Lib.hid (show stepRes s (tn : Int) = (11, sys0) by rw [stepRes, if_pos hr, if_pos q]; simp [hc])
        clear hr hc HCp HCan q ht1 ht2 e0
        go_enter Try.func18, Try.ntmps18
        go_wp2_with fail
        refine (HR.out _ W2.out).mono ?_
        rintro e w1 ⟨rfl, hb⟩
        have HB1 := Lib.hid (chain W2.out hb)
        have X1 := Lib.hid (Q1.out.keep hb)
        have Y1 := Lib.hid (Q0.out.keep hb)
        clear hb r0 r1 r2 r3 r4 r5
        obtain ⟨r0, r1, r2, r3, r4, r5⟩ := Y1.out.six
        go_wp2_with fail
        refine (HCn.out _ HB1.out).mono ?_
        rintro e w2 ⟨rfl, hb⟩
        have HB2 := Lib.hid (chain HB1.out hb)
        have X2 := Lib.hid (X1.out.keep hb)
        clear hb r0 r1 r2 r3 r4 r5
        obtain ⟨m0, m1, m2, m3, m4, m5⟩ := X2.out.six
        have f0 := X2.out.free 0
        have f1 := X2.out.free 1
        have f2 := X2.out.free 2
        have f3 := X2.out.free 3
        have f4 := X2.out.free 4
        have f5 := X2.out.free 5
        have XF := Lib.hid (((((((X2.out.put 0 (.slice none 0 0)).put 1 (.slice none 0 0)).put 2 (.slice none 0 0)).put 3 (.slice none 0 0)).put 4 (.slice none 0 0)).put 5 (.slice none 0 0)))
        have BF := Lib.hid (((((((HB2.out.setCell (p := ⟨w.heap.size + 1, 0, none⟩) (Nat.le_succ _) (.slice none 0 0)).setCell (p := ⟨w.heap.size + 1, 1, none⟩) (Nat.le_succ _) (.slice none 0 0)).setCell (p := ⟨w.heap.size + 1, 2, none⟩) (Nat.le_succ _) (.slice none 0 0)).setCell (p := ⟨w.heap.size + 1, 3, none⟩) (Nat.le_succ _) (.slice none 0 0)).setCell (p := ⟨w.heap.size + 1, 4, none⟩) (Nat.le_succ _) (.slice none 0 0)).setCell (p := ⟨w.heap.size + 1, 5, none⟩) (Nat.le_succ _) (.slice none 0 0)))
        go_wp2_with fail
        refine close_cell Try.results18 rfl rfl rfl XF.out Try.underlying26 rfl (by kernel_rfl) ?_
        rw [HE.out]
        exact ⟨zeroV, rfl, zeroV_at _, BF.out⟩
      | true =>
        rw [hc] at HCn
        have HE := Lib.hid (show stepRes s (tn : Int) = (0, stepS s tn) by rw [stepRes, if_pos hr, if_pos q]; simp [hc])
        have HSm := Lib.hid (small_of (WR.of hr))
        have HW0 := Lib.hid (WR.of hr)
        have HGo := Lib.hid (fun M vx wx (ho : OwnM M wx vx s) hm => goOn_any M vx s wx ho hm 0 (by omega) (WR.of hr) tn htn hc)
        have HNm := Lib.hid (((WR.of hr).step htn hc).nums (by omega))
        clear hr hc HCan q ht1 ht2 e0
        go_enter Try.func18, Try.ntmps18
        go_wp2_with fail
        refine (HR.out _ W2.out).mono ?_
        rintro e w1 ⟨rfl, hb⟩
        have HB1 := Lib.hid (chain W2.out hb)
        have X1 := Lib.hid (Q1.out.keep hb)
        have Y1 := Lib.hid (Q0.out.keep hb)
        clear hb r0 r1 r2 r3 r4 r5
        obtain ⟨r0, r1, r2, r3, r4, r5⟩ := Y1.out.six
        go_wp2_with fail
        refine (HCn.out _ HB1.out).mono ?_
        rintro e w2 ⟨rfl, hb⟩
        have HB2 := Lib.hid (chain HB1.out hb)
        have X2 := Lib.hid (X1.out.keep hb)
        have Y2 := Lib.hid (Y1.out.keep hb)
        clear hb r0 r1 r2 r3 r4 r5
        obtain ⟨r0, r1, r2, r3, r4, r5⟩ := Y2.out.six
        go_wp2_with fail
        have hsz : w.heap.size + 1 < w2.heap.size := X2.out.lt
        refine (HCp.out _ HB2.out HSm.out).mono ?_
        rintro e w3 ⟨v', rfl, hos, hb⟩
        obtain ⟨M, hM0, hMs⟩ : ∃ M : Nat → Prop, OwnM M w3 v' s ∧ ∀ g, M g → w2.heap.size ≤ g ∧ g < w3.heap.size := ⟨_, hos.toM, fun g h => h⟩
        obtain ⟨B0, d0, B1, d1, B2, d2, B3, d3, B4, d4, B5, d5, rs0, rs5, rfl, hparts⟩ := hM0
        have OW3 := Lib.hid (show OwnM M w3 (.agg #[.slice B0 s.th.length d0, .slice B1 s.pc.length d1, .slice B2 s.su.length d2, .slice B3 s.lo.length d3, .slice B4 s.ce.length d4, .slice B5 s.ch.length d5]) s from ⟨B0, d0, B1, d1, B2, d2, B3, d3, B4, d4, B5, d5, rs0, rs5, rfl, hparts⟩)
        have HB3 := Lib.hid (chain HB2.out hb)
        have X3 := Lib.hid (X2.out.keep hb)
        have Y3 := Lib.hid (Y2.out.keep hb)
        have HMs := Lib.hid hMs
        clear hb hos hparts hMs r0 r1 r2 r3 r4 r5 HCp HR rs0 rs5
        obtain ⟨r0, r1, r2, r3, r4, r5⟩ := Y3.out.six
        have f0 := Y3.out.free 0
        have f1 := Y3.out.free 1
        have f2 := Y3.out.free 2
        have f3 := Y3.out.free 3
        have f4 := Y3.out.free 4
        have f5 := Y3.out.free 5
        have OW4 := Lib.hid (OwnM.box_gr OW3.out Y3.out (set6_grown _ _ (.slice B0 s.th.length d0) (.slice B1 s.pc.length d1) (.slice B2 s.su.length d2) (.slice B3 s.lo.length d3) (.slice B4 s.ce.length d4) (.slice B5 s.ch.length d5)))
        have Y4 := Lib.hid (((((((Y3.out.put 0 (.slice B0 s.th.length d0)).put 1 (.slice B1 s.pc.length d1)).put 2 (.slice B2 s.su.length d2)).put 3 (.slice B3 s.lo.length d3)).put 4 (.slice B4 s.ce.length d4)).put 5 (.slice B5 s.ch.length d5)))
        have X4 := Lib.hid (Box.grown X3.out (set6_grown w3 w.heap.size (.slice B0 s.th.length d0) (.slice B1 s.pc.length d1) (.slice B2 s.su.length d2) (.slice B3 s.lo.length d3) (.slice B4 s.ce.length d4) (.slice B5 s.ch.length d5)) (fun e => by injection e with e; omega))
        have HB4 := Lib.hid (((((((HB3.out.setCell (p := ⟨w.heap.size, 0, none⟩) (Nat.le_refl _) (.slice B0 s.th.length d0)).setCell (p := ⟨w.heap.size, 1, none⟩) (Nat.le_refl _) (.slice B1 s.pc.length d1)).setCell (p := ⟨w.heap.size, 2, none⟩) (Nat.le_refl _) (.slice B2 s.su.length d2)).setCell (p := ⟨w.heap.size, 3, none⟩) (Nat.le_refl _) (.slice B3 s.lo.length d3)).setCell (p := ⟨w.heap.size, 4, none⟩) (Nat.le_refl _) (.slice B4 s.ce.length d4)).setCell (p := ⟨w.heap.size, 5, none⟩) (Nat.le_refl _) (.slice B5 s.ch.length d5)))
        have hs4 : (((((((w3.setCell ⟨w.heap.size, 0, none⟩ (.slice B0 s.th.length d0)).setCell ⟨w.heap.size, 1, none⟩ (.slice B1 s.pc.length d1)).setCell ⟨w.heap.size, 2, none⟩ (.slice B2 s.su.length d2)).setCell ⟨w.heap.size, 3, none⟩ (.slice B3 s.lo.length d3)).setCell ⟨w.heap.size, 4, none⟩ (.slice B4 s.ce.length d4)).setCell ⟨w.heap.size, 5, none⟩ (.slice B5 s.ch.length d5))).heap.size = w3.heap.size := by simp [World.setCell]
        have HS4 := Lib.hid hs4
        go_upto_region 8 with (fail)
        clear r0 r1 r2 r3 r4 r5 f0 f1 f2 f3 f4 f5 OW3 Y3 X3 HB3 hs4
        obtain ⟨w4, hw4⟩ : ∃ w4, w4 = ((((((w3.setCell ⟨w.heap.size, 0, none⟩ (.slice B0 s.th.length d0)).setCell ⟨w.heap.size, 1, none⟩ (.slice B1 s.pc.length d1)).setCell ⟨w.heap.size, 2, none⟩ (.slice B2 s.su.length d2)).setCell ⟨w.heap.size, 3, none⟩ (.slice B3 s.lo.length d3)).setCell ⟨w.heap.size, 4, none⟩ (.slice B4 s.ce.length d4)).setCell ⟨w.heap.size, 5, none⟩ (.slice B5 s.ch.length d5)) := ⟨_, rfl⟩
        simp only [set6L] at OW4 X4
        rw [← hw4] at OW4 Y4 X4 HB4 HS4 ⊢
        clear hw4
        obtain ⟨r0, r1, r2, r3, r4, r5⟩ := Y4.out.six
        go_wp2_with fail
        refine (HGo.out M _ _ OW4.out (fun g h => by rw [HS4.out]; exact (HMs.out g h).2)).mono ?_
        rintro e w5 ⟨rfl, N, hN1, hN2, hN3⟩
        have OW := Lib.hid hN1
        have Q := Lib.hid (hN2.box Y4.out (fun h => by have := (HMs.out _ h).1; omega))
        have X := Lib.hid (hN2.box X4.out (fun h => by have := (HMs.out _ h).1; omega))
        have HB := Lib.hid (HB4.out.trans (hN2.below (B := w.heap.size) HB4.out.size (fun g h => by have := (HMs.out g h).1; omega)))
        clear hN1 hN2 hN3 r0 r1 r2 r3 r4 r5 OW4 Y4 X4 HB4
        obtain ⟨m0, m1, m2, m3, m4, m5⟩ := X.out.six
        have f0 := X.out.free 0
        have f1 := X.out.free 1
        have f2 := X.out.free 2
        have f3 := X.out.free 3
        have f4 := X.out.free 4
        have f5 := X.out.free 5
        have OF := Lib.hid (OwnM.box_gr OW.out X.out (set6_grown _ _ (.slice B0 s.th.length d0) (.slice B1 s.pc.length d1) (.slice B2 s.su.length d2) (.slice B3 s.lo.length d3) (.slice B4 s.ce.length d4) (.slice B5 s.ch.length d5)))
        have XF := Lib.hid (((((((X.out.put 0 (.slice B0 s.th.length d0)).put 1 (.slice B1 s.pc.length d1)).put 2 (.slice B2 s.su.length d2)).put 3 (.slice B3 s.lo.length d3)).put 4 (.slice B4 s.ce.length d4)).put 5 (.slice B5 s.ch.length d5)))
        have BF := Lib.hid (((((((HB.out.setCell (p := ⟨w.heap.size + 1, 0, none⟩) (Nat.le_succ _) (.slice B0 s.th.length d0)).setCell (p := ⟨w.heap.size + 1, 1, none⟩) (Nat.le_succ _) (.slice B1 s.pc.length d1)).setCell (p := ⟨w.heap.size + 1, 2, none⟩) (Nat.le_succ _) (.slice B2 s.su.length d2)).setCell (p := ⟨w.heap.size + 1, 3, none⟩) (Nat.le_succ _) (.slice B3 s.lo.length d3)).setCell (p := ⟨w.heap.size + 1, 4, none⟩) (Nat.le_succ _) (.slice B4 s.ce.length d4)).setCell (p := ⟨w.heap.size + 1, 5, none⟩) (Nat.le_succ _) (.slice B5 s.ch.length d5)))
        obtain ⟨r0, r1, r2, r3, r4, r5⟩ := Q.out.six
        go_wp2_with fail
        refine close_cell Try.results18 rfl rfl rfl XF.out Try.underlying26 rfl (by kernel_rfl) ?_
        rw [HE.out]
        exact ⟨_, rfl, OF.out.sys.at HNm.out, BF.out⟩
    · have HE := Lib.hid (show stepRes s t = (3, sys0) by rw [stepRes, if_pos hr, if_neg q])
      by_cases q0 : t < 0
      · clear hr HCp HCan q
        go_enter Try.func18, Try.ntmps18
        go_wp2_with fail
        refine (HR.out _ W2.out).mono ?_
        rintro e w1 ⟨rfl, hb⟩
        have HB1 := Lib.hid (chain W2.out hb)
        have X1 := Lib.hid (Q1.out.keep hb)
        have Y1 := Lib.hid (Q0.out.keep hb)
        clear hb r0 r1 r2 r3 r4 r5
        obtain ⟨r0, r1, r2, r3, r4, r5⟩ := Y1.out.six
        obtain ⟨m0, m1, m2, m3, m4, m5⟩ := X1.out.six
        have f0 := X1.out.free 0
        have f1 := X1.out.free 1
        have f2 := X1.out.free 2
        have f3 := X1.out.free 3
        have f4 := X1.out.free 4
        have f5 := X1.out.free 5
        have XF := Lib.hid (((((((X1.out.put 0 (.slice none 0 0)).put 1 (.slice none 0 0)).put 2 (.slice none 0 0)).put 3 (.slice none 0 0)).put 4 (.slice none 0 0)).put 5 (.slice none 0 0)))
        have BF := Lib.hid (((((((HB1.out.setCell (p := ⟨w.heap.size + 1, 0, none⟩) (Nat.le_succ _) (.slice none 0 0)).setCell (p := ⟨w.heap.size + 1, 1, none⟩) (Nat.le_succ _) (.slice none 0 0)).setCell (p := ⟨w.heap.size + 1, 2, none⟩) (Nat.le_succ _) (.slice none 0 0)).setCell (p := ⟨w.heap.size + 1, 3, none⟩) (Nat.le_succ _) (.slice none 0 0)).setCell (p := ⟨w.heap.size + 1, 4, none⟩) (Nat.le_succ _) (.slice none 0 0)).setCell (p := ⟨w.heap.size + 1, 5, none⟩) (Nat.le_succ _) (.slice none 0 0)))
        go_wp2_with fail
        refine close_cell Try.results18 rfl rfl rfl XF.out Try.underlying26 rfl (by kernel_rfl) ?_
        rw [HE.out]
        exact ⟨zeroV, rfl, zeroV_at _, BF.out⟩
      · have q1 : (l0 : Int) ≤ t := by omega
        clear hr HCp HCan q
        go_enter Try.func18, Try.ntmps18
        go_wp2_with fail
        refine (HR.out _ W2.out).mono ?_
        rintro e w1 ⟨rfl, hb⟩
        have HB1 := Lib.hid (chain W2.out hb)
        have X1 := Lib.hid (Q1.out.keep hb)
        have Y1 := Lib.hid (Q0.out.keep hb)
        clear hb r0 r1 r2 r3 r4 r5
        obtain ⟨r0, r1, r2, r3, r4, r5⟩ := Y1.out.six
        obtain ⟨m0, m1, m2, m3, m4, m5⟩ := X1.out.six
        have f0 := X1.out.free 0
        have f1 := X1.out.free 1
        have f2 := X1.out.free 2
        have f3 := X1.out.free 3
        have f4 := X1.out.free 4
        have f5 := X1.out.free 5
        have XF := Lib.hid (((((((X1.out.put 0 (.slice none 0 0)).put 1 (.slice none 0 0)).put 2 (.slice none 0 0)).put 3 (.slice none 0 0)).put 4 (.slice none 0 0)).put 5 (.slice none 0 0)))
        have BF := Lib.hid (((((((HB1.out.setCell (p := ⟨w.heap.size + 1, 0, none⟩) (Nat.le_succ _) (.slice none 0 0)).setCell (p := ⟨w.heap.size + 1, 1, none⟩) (Nat.le_succ _) (.slice none 0 0)).setCell (p := ⟨w.heap.size + 1, 2, none⟩) (Nat.le_succ _) (.slice none 0 0)).setCell (p := ⟨w.heap.size + 1, 3, none⟩) (Nat.le_succ _) (.slice none 0 0)).setCell (p := ⟨w.heap.size + 1, 4, none⟩) (Nat.le_succ _) (.slice none 0 0)).setCell (p := ⟨w.heap.size + 1, 5, none⟩) (Nat.le_succ _) (.slice none 0 0)))
        go_wp2_with fail
        refine close_cell Try.results18 rfl rfl rfl XF.out Try.underlying26 rfl (by kernel_rfl) ?_
        rw [HE.out]
        exact ⟨zeroV, rfl, zeroV_at _, BF.out⟩
end Go.Proofs.Ytcamoigcfiemhaa
