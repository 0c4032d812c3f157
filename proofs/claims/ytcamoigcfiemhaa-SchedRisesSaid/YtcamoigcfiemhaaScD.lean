/- Layer 20: the reference's Right. -/
import Derived.Test.YtcamoigcfiemhaaScC
import Derived.Test.YtcamoigcfiemhaaScA
namespace Go.Proofs.Ytcamoigcfiemhaa
set_option linter.unusedVariables false
set_option linter.unusedSimpArgs false
open Go.RowKit
set_option maxRecDepth 100000
theorem right_split (s : Sys) : rightS s = ((sh3B s && thrB s) && (decide (s.lo.length = 4) && (decide (s.ce.length = 4) && (decide (s.ch.length = 4) && (smL s.su && (smL s.ce && (loB s.th.length s.lo && chB s.ch))))))) := by
  unfold rightS shapeB sh3B
  generalize decide (s.th.length ≤ 8) = a
  generalize decide (s.pc.length = s.th.length) = b
  generalize decide (s.su.length = s.th.length) = c
  generalize decide (s.lo.length = 4) = d
  generalize decide (s.ce.length = 4) = e
  generalize decide (s.ch.length = 4) = f
  generalize thrB s = g
  generalize loB s.th.length s.lo = h
  generalize chB s.ch = i
  generalize smL s.su = j
  generalize smL s.ce = k
  ac_rfl
set_option maxHeartbeats 8000000 in
theorem refRight20_any (v : Value) (s : Sys) (w : World) (h : SysAt w v s) : Calls Try.prog 12 #[v] w fun e w' => e = .returned (.bool (rightS s)) ∧ Below w.heap.size w w' := by
  have HTh := Lib.hid (fun w' (hb : Below w.heap.size w w') => refThreads_any v s w' (h.below hb))
  obtain ⟨A0, l0, c0, A1, l1, c1, A2, l2, c2, A3, l3, c3, A4, l4, c4, A5, l5, c5, rfl, s0, s1, s2, s3, s4, s5, h0, h1, h2, h3, h4, h5⟩ := h
  have Q := Lib.hid (Box.new w 26 #[.slice A0 l0 c0, .slice A1 l1 c1, .slice A2 l2 c2, .slice A3 l3 c3, .slice A4 l4 c4, .slice A5 l5 c5])
  have HB := Lib.hid ((Below.refl w.heap.size w).alloc (Nat.le_refl _) (.cells #[.slice A0 l0 c0, .slice A1 l1 c1, .slice A2 l2 c2, .slice A3 l3 c3, .slice A4 l4 c4, .slice A5 l5 c5] 26))
  obtain ⟨r0, r1, r2, r3, r4, r5⟩ := Q.out.six
  have HS3 := Lib.hid h3
  have HS5 := Lib.hid h5
  have HL0 := Lib.hid h0.1
  have HL3 := Lib.hid h3.1
  have HL4 := Lib.hid h4.1
  have HL5 := Lib.hid h5.1
  have hlm := Nat.le_trans s3.1 s3.2.1
  have hlm0 := Nat.le_trans s0.1 s0.2.1
  have hlm4 := Nat.le_trans s4.1 s4.2.1
  have hlm5 := Nat.le_trans s5.1 s5.2.1
  have m2 := Nat.le_trans s2.1 s2.2.1
  have HW2 := Lib.hid (fun wx (hb : Below w.heap.size w wx) => refSmall_any A2 l2 c2 s.su wx (h2.below hb) m2)
  have HW4 := Lib.hid (fun wx (hb : Below w.heap.size w wx) => refSmall_any A4 l4 c4 s.ce wx (h4.below hb) hlm4)
  unfold maxLen at hlm hlm0 hlm4 hlm5
  clear h0 h1 h2 h3 h4 h5 s0 s1 s2 s3 s4 s5 m2
  cases hth : (sh3B s && thrB s) with
  | false =>
    rw [hth] at HTh
    have HE := Lib.hid (show rightS s = false by
      rw [right_split]
      rw [hth]; simp)
    clear hth
    go_enter Try.func12, Try.ntmps12
    go_wp2_with fail
    refine (HTh.out _ HB.out).mono ?_
    rintro e w1 ⟨rfl, hb⟩
    have HB1 := Lib.hid (chain HB.out hb)
    have Q1 := Lib.hid (Q.out.keep hb)
    clear hb r0 r1 r2 r3 r4 r5
    obtain ⟨r0, r1, r2, r3, r4, r5⟩ := Q1.out.six
    go_wp2_with fail
    go_ret
    exact ⟨by rw [HE.out]; rfl, HB1.out⟩
  | true =>
    have HTH := Lib.hid hth
    rw [hth] at HTh
    clear hth
    by_cases q0 : l3 = 4
    · have t0 : ((l3 : Int) != 4) = false := by simp; omega
      by_cases q1 : l4 = 4
      · have t1 : ((l4 : Int) != 4) = false := by simp; omega
        by_cases q2 : l5 = 4
        · have t2 : ((l5 : Int) != 4) = false := by simp; omega
          have e3 := Lib.hid q0
          have e4 := Lib.hid q1
          have e5 := Lib.hid q2
          clear q0 q1 q2
          cases hsu : smL s.su with
          | false =>
            rw [hsu] at HW2
            have HE := Lib.hid (show rightS s = false by
              rw [right_split]
              rw [hsu]; simp)
            clear hsu
            go_enter Try.func12, Try.ntmps12
            go_wp2_with fail
            refine (HTh.out _ HB.out).mono ?_
            rintro e w1 ⟨rfl, hb⟩
            have HB1 := Lib.hid (chain HB.out hb)
            have Q1 := Lib.hid (Q.out.keep hb)
            clear hb r0 r1 r2 r3 r4 r5
            obtain ⟨r0, r1, r2, r3, r4, r5⟩ := Q1.out.six
            go_wp2_with fail
            refine (HW2.out _ HB1.out).mono ?_
            rintro e w2 ⟨rfl, hb⟩
            have HB2 := Lib.hid (chain HB1.out hb)
            have Q2 := Lib.hid (Q1.out.keep hb)
            clear hb r0 r1 r2 r3 r4 r5
            obtain ⟨r0, r1, r2, r3, r4, r5⟩ := Q2.out.six
            go_wp2_with fail
            go_ret
            exact ⟨by rw [HE.out]; rfl, HB2.out⟩
          | true =>
            have HSU := Lib.hid hsu
            rw [hsu] at HW2
            clear hsu
            cases hce : smL s.ce with
            | false =>
              rw [hce] at HW4
              have HE := Lib.hid (show rightS s = false by
                rw [right_split]
                rw [hce]; simp)
              clear hce
              go_enter Try.func12, Try.ntmps12
              go_wp2_with fail
              refine (HTh.out _ HB.out).mono ?_
              rintro e w1 ⟨rfl, hb⟩
              have HB1 := Lib.hid (chain HB.out hb)
              have Q1 := Lib.hid (Q.out.keep hb)
              clear hb r0 r1 r2 r3 r4 r5
              obtain ⟨r0, r1, r2, r3, r4, r5⟩ := Q1.out.six
              go_wp2_with fail
              refine (HW2.out _ HB1.out).mono ?_
              rintro e w2 ⟨rfl, hb⟩
              have HB2 := Lib.hid (chain HB1.out hb)
              have Q2 := Lib.hid (Q1.out.keep hb)
              clear hb r0 r1 r2 r3 r4 r5
              obtain ⟨r0, r1, r2, r3, r4, r5⟩ := Q2.out.six
              go_wp2_with fail
              refine (HW4.out _ HB2.out).mono ?_
              rintro e w3 ⟨rfl, hb⟩
              have HB3 := Lib.hid (chain HB2.out hb)
              have Q3 := Lib.hid (Q2.out.keep hb)
              clear hb r0 r1 r2 r3 r4 r5
              obtain ⟨r0, r1, r2, r3, r4, r5⟩ := Q3.out.six
              go_wp2_with fail
              go_ret
              exact ⟨by rw [HE.out]; rfl, HB3.out⟩
            | true =>
              have HCE := Lib.hid hce
              rw [hce] at HW4
              clear hce
              go_enter Try.func12, Try.ntmps12
              go_wp2_with fail
              refine (HTh.out _ HB.out).mono ?_
              rintro e w1 ⟨rfl, hb⟩
              have HB1 := Lib.hid (chain HB.out hb)
              have Q1 := Lib.hid (Q.out.keep hb)
              clear hb r0 r1 r2 r3 r4 r5
              obtain ⟨r0, r1, r2, r3, r4, r5⟩ := Q1.out.six
              go_wp2_with fail
              refine (HW2.out _ HB1.out).mono ?_
              rintro e w2 ⟨rfl, hb⟩
              have HB2 := Lib.hid (chain HB1.out hb)
              have Q2 := Lib.hid (Q1.out.keep hb)
              clear hb r0 r1 r2 r3 r4 r5
              obtain ⟨r0, r1, r2, r3, r4, r5⟩ := Q2.out.six
              go_wp2_with fail
              refine (HW4.out _ HB2.out).mono ?_
              rintro e w3 ⟨rfl, hb⟩
              have HB3 := Lib.hid (chain HB2.out hb)
              have Q3 := Lib.hid (Q2.out.keep hb)
              clear hb r0 r1 r2 r3 r4 r5
              obtain ⟨r0, r1, r2, r3, r4, r5⟩ := Q3.out.six
              go_wp2_with fail
              have HB3 := HB3
              clear Q Q1 Q2 HB HB1 HB2 r0 r1 r2 r3 r4 r5 HW2 HW4 HTh t0 t1 t2
              go_loopw [43] (fun t wr => ∃ k : Nat, k ≤ l3 ∧ t = .int .i64 (k : Int) ∧ Hid ((s.lo.take k).all (fun x => decide (-1 ≤ x ∧ x ≤ (s.th.length : Int) - 1)) = true) ∧ Hid (Box wr w.heap.size 26 #[.slice A0 l0 c0, .slice A1 l1 c1, .slice A2 l2 c2, .slice A3 l3 c3, .slice A4 l4 c4, .slice A5 l5 c5]) ∧ Hid (Below w.heap.size w wr)) (fun t _ => l3 - (intOf t).toNat)
              case atStart => exact ⟨0, Nat.zero_le _, rfl, Lib.hid rfl, Q3, HB3⟩
              case round =>
                clear Q3 HB3
                obtain ⟨k, hk, rfl, HAll, Q2, HB2⟩ := hrel
                have hk4 : k ≤ 4 := by have := e3.out; omega
                obtain ⟨r0, r1, r2, r3, r4, r5⟩ := Q2.out.six
                by_cases hlt : k < l3
                · have hlt' : (k : Int) < (l3 : Int) := by omega
                  obtain ⟨b3, o3, rfl, hb3, hc3⟩ := (HS3.out.below HB2.out).2.2 (by omega)
                  have g3 := hc3 k hlt
                  have HSn := Lib.hid (all_take_snoc (fun x => decide (-1 ≤ x ∧ x ≤ (s.th.length : Int) - 1)) s.lo k (by rw [HL3.out]; exact hlt))
                  have HNo := Lib.hid (fun h => all_no (fun x => decide (-1 ≤ x ∧ x ≤ (s.th.length : Int) - 1)) s.lo k (by rw [HL3.out]; exact hlt) h)
                  obtain ⟨x, hx⟩ : ∃ x, x = s.lo.getD k 0 := ⟨_, rfl⟩
                  have hd : s.lo.getD k default = x := hx.symm
                  simp only [← hx, hd] at HSn HNo g3
                  clear hx hd hc3
                  by_cases q1 : x < -1
                  · have HLo := Lib.hid (show loB s.th.length s.lo = false from HNo.out (decide_eq_false (by omega)))
                    have HE := Lib.hid (show rightS s = false by rw [right_split, HLo.out]; simp)
                    go_wp2_with fail
                    go_ret
                    exact ⟨by rw [HE.out]; rfl, HB2.out⟩
                  · by_cases q2 : (l0 : Int) ≤ x
                    · have HLo := Lib.hid (show loB s.th.length s.lo = false from HNo.out (decide_eq_false (by rw [HL0.out]; omega)))
                      have HE := Lib.hid (show rightS s = false by rw [right_split, HLo.out]; simp)
                      go_wp2_with fail
                      go_ret
                      exact ⟨by rw [HE.out]; rfl, HB2.out⟩
                    · have HSx := Lib.hid (HSn.out.trans (by rw [HAll.out, decide_eq_true (by rw [HL0.out]; omega)]))
                      go_wp2_with fail
                      go_roundw
                      case rel => exact ⟨k + 1, by omega, by go_num, HSx, Q2, HB2⟩
                      case measure => simp [intOf] <;> omega
                · have hlt' : ¬ (k : Int) < (l3 : Int) := by omega
                  have HLO := Lib.hid (show loB s.th.length s.lo = true by
                    have := HAll.out
                    rwa [List.take_of_length_le (by rw [HL3.out]; omega)] at this)
                  clear hlt
                  go_wp2_with fail
                  obtain ⟨x1, hx1⟩ : ∃ x : World, x = wr := ⟨_, rfl⟩
                  subst hx1
                  go_loopw [60] (fun t wr => ∃ k : Nat, k ≤ l5 ∧ t = .int .i64 (k : Int) ∧ Hid ((s.ch.take k).all ch1B = true) ∧ Hid (Below w.heap.size w wr)) (fun t _ => l5 - (intOf t).toNat)
                  case atStart => exact ⟨0, Nat.zero_le _, rfl, Lib.hid rfl, HB2⟩
                  case round =>
                    obtain ⟨i, hi, rfl, HAl, HB3⟩ := hrel
                    clear Q2 HB2 r0 r1 r2 r3 r4 r5
                    have hi4 : i ≤ 4 := by have := e5.out; omega
                    by_cases hlt2 : i < l5
                    · have hlt2' : (i : Int) < (l5 : Int) := by omega
                      obtain ⟨b5, o5, B, lk, ck, rfl, hb5, g5, hsk, hck⟩ := (Chs.below HS5.out HB3.out).at i hlt2
                      have HCk := Lib.hid hck
                      have HSn := Lib.hid (all_take_snoc ch1B s.ch i (by rw [HL5.out]; exact hlt2))
                      have HNo := Lib.hid (fun h => all_no ch1B s.ch i (by rw [HL5.out]; exact hlt2) h)
                      obtain ⟨cl, hcl⟩ : ∃ x, x = s.ch.getD i [] := ⟨_, rfl⟩
                      have hd : s.ch.getD i default = cl := hcl.symm
                      simp only [← hcl, hd] at HSn HNo HCk
                      have HLk := Lib.hid HCk.out.1
                      have hlm := Nat.le_trans hsk.1 hsk.2.1
                      have HAS := Lib.hid (refSmall_any B lk ck cl wr HCk.out hlm)
                      clear hcl hd hck hsk hlm
                      by_cases q2 : lk ≤ 2
                      · have q2' : ¬ (2 : Int) < (lk : Int) := by omega
                        have HQ2 := Lib.hid q2
                        cases hs : smL cl with
                        | true =>
                          rw [hs] at HAS
                          have HSx := Lib.hid (HSn.out.trans (by rw [HAl.out, show ch1B cl = true by simp [ch1B, HLk.out, HQ2.out, hs]]))
                          clear hs q2
                          go_wp2_with fail
                          refine HAS.out.mono ?_
                          rintro e w1 ⟨rfl, hb⟩
                          have HBx := Lib.hid (chain HB3.out hb)
                          clear hb
                          go_wp2_with fail
                          go_roundw
                          case rel => exact ⟨i + 1, by omega, by go_num, HSx, HBx⟩
                          case measure => simp [intOf] <;> omega
                        | false =>
                          rw [hs] at HAS
                          have HCf := Lib.hid (show chB s.ch = false from HNo.out (by simp [ch1B, hs]))
                          have HE := Lib.hid (show rightS s = false by rw [right_split, HCf.out]; simp)
                          clear hs q2
                          go_wp2_with fail
                          refine HAS.out.mono ?_
                          rintro e w1 ⟨rfl, hb⟩
                          have HBx := Lib.hid (chain HB3.out hb)
                          clear hb
                          go_wp2_with fail
                          go_ret
                          exact ⟨by rw [HE.out]; rfl, HBx.out⟩
                      · have q2' : (2 : Int) < (lk : Int) := by omega
                        have HCf := Lib.hid (show chB s.ch = false from HNo.out (by simp [ch1B, HLk.out, q2]))
                        have HE := Lib.hid (show rightS s = false by rw [right_split, HCf.out]; simp)
                        clear q2
                        go_wp2_with fail
                        go_ret
                        exact ⟨by rw [HE.out]; rfl, HB3.out⟩
                    · have hlt2' : ¬ (i : Int) < (l5 : Int) := by omega
                      have HCH := Lib.hid (show chB s.ch = true by
                        have := HAl.out
                        rwa [List.take_of_length_le (by rw [HL5.out]; omega)] at this)
                      have HE := Lib.hid (show rightS s = true by
                        rw [right_split, HTH.out, HLO.out, HCH.out, HSU.out, HCE.out]
                        simp [HL3.out, HL4.out, HL5.out, e3.out, e4.out, e5.out])
                      go_wp2_with fail
                      go_ret
                      exact ⟨by rw [HE.out]; rfl, HB3.out⟩
        · have t2 : ((l5 : Int) != 4) = true := by simp; omega
          have HE := Lib.hid (show rightS s = false by
            rw [right_split]
            simp [HL3.out, HL4.out, HL5.out, q2])
          clear q0 q1 q2
          go_enter Try.func12, Try.ntmps12
          go_wp2_with fail
          refine (HTh.out _ HB.out).mono ?_
          rintro e w1 ⟨rfl, hb⟩
          have HB1 := Lib.hid (chain HB.out hb)
          have Q1 := Lib.hid (Q.out.keep hb)
          clear hb r0 r1 r2 r3 r4 r5
          obtain ⟨r0, r1, r2, r3, r4, r5⟩ := Q1.out.six
          go_wp2_with fail
          go_ret
          exact ⟨by rw [HE.out]; rfl, HB1.out⟩
      · have t1 : ((l4 : Int) != 4) = true := by simp; omega
        have HE := Lib.hid (show rightS s = false by
          rw [right_split]
          simp [HL3.out, HL4.out, HL5.out, q1])
        clear q0 q1
        go_enter Try.func12, Try.ntmps12
        go_wp2_with fail
        refine (HTh.out _ HB.out).mono ?_
        rintro e w1 ⟨rfl, hb⟩
        have HB1 := Lib.hid (chain HB.out hb)
        have Q1 := Lib.hid (Q.out.keep hb)
        clear hb r0 r1 r2 r3 r4 r5
        obtain ⟨r0, r1, r2, r3, r4, r5⟩ := Q1.out.six
        go_wp2_with fail
        go_ret
        exact ⟨by rw [HE.out]; rfl, HB1.out⟩
    · have t0 : ((l3 : Int) != 4) = true := by simp; omega
      have HE := Lib.hid (show rightS s = false by
        rw [right_split]
        simp [HL3.out, HL4.out, HL5.out, q0])
      clear q0
      go_enter Try.func12, Try.ntmps12
      go_wp2_with fail
      refine (HTh.out _ HB.out).mono ?_
      rintro e w1 ⟨rfl, hb⟩
      have HB1 := Lib.hid (chain HB.out hb)
      have Q1 := Lib.hid (Q.out.keep hb)
      clear hb r0 r1 r2 r3 r4 r5
      obtain ⟨r0, r1, r2, r3, r4, r5⟩ := Q1.out.six
      go_wp2_with fail
      go_ret
      exact ⟨by rw [HE.out]; rfl, HB1.out⟩
end Go.Proofs.Ytcamoigcfiemhaa
