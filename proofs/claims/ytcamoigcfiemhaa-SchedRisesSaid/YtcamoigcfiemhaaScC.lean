/- Layer 20: the reference's tests of a system. -/
import Derived.Test.YtcamoigcfiemhaaScB
import Derived.Test.YtcamoigcfiemhaaScA
namespace Go.Proofs.Ytcamoigcfiemhaa
set_option linter.unusedVariables false
set_option linter.unusedSimpArgs false
open Go.RowKit
set_option maxRecDepth 100000
set_option maxHeartbeats 2000000 in
theorem refSmall_any (A : Option Addr) (l c : Nat) (zs : List Int) (w : World) (h : Ints w A l zs) (hl : l ≤ maxLen) :
    Calls Try.prog 38 #[.slice A l c] w fun e w' => e = .returned (.bool (smL zs)) ∧ Below w.heap.size w w' := by
  unfold maxLen at hl
  have HI := Lib.hid h
  have HL := Lib.hid h.1
  clear h
  go_enter Try.func38, Try.ntmps38
  go_wp2_with fail
  go_loopw [7] (fun t wr => ∃ k : Nat, k ≤ l ∧ t = .int .i64 (k : Int) ∧ Hid ((zs.take k).all smB = true) ∧ Hid (Below w.heap.size w wr)) (fun t _ => l - (intOf t).toNat)
  case atStart => exact ⟨0, Nat.zero_le _, rfl, Lib.hid rfl, Lib.hid (Below.refl _ _)⟩
  case round =>
    obtain ⟨k, hk, rfl, HN, HB⟩ := hrel
    by_cases hlt : k < l
    · have hlt' : (k : Int) < (l : Int) := by omega
      obtain ⟨b, off, rfl, hb, hc⟩ := (HI.out.below HB.out).2.2 (by omega)
      have c0 := hc k hlt
      have HS := Lib.hid (all_take_snoc smB zs k (by rw [HL.out]; exact hlt))
      have HNo := Lib.hid (all_no smB zs k (by rw [HL.out]; exact hlt))
      have hd : (default : Int) = 0 := rfl
      rw [hd] at HS HNo
      clear hc hd
      obtain ⟨x, hx⟩ : ∃ x, x = zs.getD k 0 := ⟨_, rfl⟩
      rw [← hx] at c0 HS HNo
      clear hx
      by_cases q1 : x ≤ -1073741824
      · have HF := Lib.hid (show smL zs = false from HNo.out (by simp [smB]; omega))
        go_wp2_with fail
        go_ret
        exact ⟨by rw [HF.out]; rfl, HB.out⟩
      · by_cases q2 : 1073741824 ≤ x
        · have HF := Lib.hid (show smL zs = false from HNo.out (by simp [smB]; omega))
          go_wp2_with fail
          go_ret
          exact ⟨by rw [HF.out]; rfl, HB.out⟩
        · have HSx := Lib.hid (HS.out.trans (by rw [HN.out, show smB x = true by simp [smB]; omega]))
          go_wp2_with fail
          go_roundw
          case rel => exact ⟨k + 1, by omega, by go_num, HSx, HB⟩
          case measure => simp [intOf] <;> omega
    · have hlt' : ¬ (k : Int) < (l : Int) := by omega
      have HF := Lib.hid (show smL zs = true by
        have := HN.out
        rwa [List.take_of_length_le (by rw [HL.out]; omega)] at this)
      go_wp2_with fail
      go_ret
      exact ⟨by rw [HF.out]; rfl, HB.out⟩
set_option maxHeartbeats 4000000 in
theorem refInstr_any (op na nu : Int) (w : World) : Calls Try.prog 59 #[.agg #[.int .i64 op, .int .i64 na, .int .i64 nu]] w fun e w' => e = .returned (.bool (inB (op, na, nu))) ∧ Below w.heap.size w w' := by
  have HB := Lib.hid ((Below.refl w.heap.size w).alloc (Nat.le_refl _) (.cells #[.int .i64 op, .int .i64 na, .int .i64 nu] 57))
  obtain ⟨y0, y1, y2⟩ := (Box.new w 57 #[.int .i64 op, .int .i64 na, .int .i64 nu]).three3
  by_cases q0 : 0 ≤ op
  · by_cases q1 : op ≤ 4
    · by_cases q2 : 0 ≤ na
      · by_cases q3 : na ≤ 3
        · by_cases q4 : -1000 ≤ nu
          · by_cases q5 : nu ≤ 1000
            · have HE := Lib.hid (show inB (op, na, nu) = true by simp [inB, q0, q1, q2, q3, q4, q5])
              go_enter Try.func59, Try.ntmps59
              go_wp2_with fail
              go_ret
              exact ⟨by rw [HE.out]; rfl, HB.out⟩
            · have HE := Lib.hid (show inB (op, na, nu) = false by simp [inB]; omega)
              go_enter Try.func59, Try.ntmps59
              go_wp2_with fail
              go_ret
              exact ⟨by rw [HE.out]; rfl, HB.out⟩
          · have HE := Lib.hid (show inB (op, na, nu) = false by simp [inB]; omega)
            go_enter Try.func59, Try.ntmps59
            go_wp2_with fail
            go_ret
            exact ⟨by rw [HE.out]; rfl, HB.out⟩
        · have HE := Lib.hid (show inB (op, na, nu) = false by simp [inB]; omega)
          go_enter Try.func59, Try.ntmps59
          go_wp2_with fail
          go_ret
          exact ⟨by rw [HE.out]; rfl, HB.out⟩
      · have HE := Lib.hid (show inB (op, na, nu) = false by simp [inB]; omega)
        go_enter Try.func59, Try.ntmps59
        go_wp2_with fail
        go_ret
        exact ⟨by rw [HE.out]; rfl, HB.out⟩
    · have HE := Lib.hid (show inB (op, na, nu) = false by simp [inB]; omega)
      go_enter Try.func59, Try.ntmps59
      go_wp2_with fail
      go_ret
      exact ⟨by rw [HE.out]; rfl, HB.out⟩
  · have HE := Lib.hid (show inB (op, na, nu) = false by simp [inB]; omega)
    go_enter Try.func59, Try.ntmps59
    go_wp2_with fail
    go_ret
    exact ⟨by rw [HE.out]; rfl, HB.out⟩
def sh3B (s : Sys) : Bool := decide (s.th.length ≤ 8) && decide (s.pc.length = s.th.length) && decide (s.su.length = s.th.length)
set_option maxHeartbeats 8000000 in
theorem refThreads_any (v : Value) (s : Sys) (w : World) (h : SysAt w v s) : Calls Try.prog 37 #[v] w fun e w' => e = .returned (.bool (sh3B s && thrB s)) ∧ Below w.heap.size w w' := by
  obtain ⟨A0, l0, c0, A1, l1, c1, A2, l2, c2, A3, l3, c3, A4, l4, c4, A5, l5, c5, rfl, s0, s1, s2, s3, s4, s5, h0, h1, h2, h3, h4, h5⟩ := h
  have Q := Lib.hid (Box.new w 26 #[.slice A0 l0 c0, .slice A1 l1 c1, .slice A2 l2 c2, .slice A3 l3 c3, .slice A4 l4 c4, .slice A5 l5 c5])
  have HB := Lib.hid ((Below.refl w.heap.size w).alloc (Nat.le_refl _) (.cells #[.slice A0 l0 c0, .slice A1 l1 c1, .slice A2 l2 c2, .slice A3 l3 c3, .slice A4 l4 c4, .slice A5 l5 c5] 26))
  obtain ⟨r0, r1, r2, r3, r4, r5⟩ := Q.out.six
  have HT := Lib.hid h0
  have HP := Lib.hid h1
  have HL0 := Lib.hid h0.1
  have HL1 := Lib.hid h1.1
  have HL2 := Lib.hid h2.1
  have hlm := Nat.le_trans s0.1 s0.2.1
  have hlm2 := Nat.le_trans s1.1 s1.2.1
  have hlm3 := Nat.le_trans s2.1 s2.2.1
  unfold maxLen at hlm hlm2 hlm3
  clear h0 h1 h2 h3 h4 h5 s0 s1 s2 s3 s4 s5
  by_cases q0 : l0 ≤ 8
  · have t0 : ¬ (8 : Int) < (l0 : Int) := by omega
    by_cases q1 : l1 = l0
    · have t1 : ((l1 : Int) != (l0 : Int)) = false := by simp; omega
      by_cases q2 : l2 = l0
      · have t2 : ((l2 : Int) != (l0 : Int)) = false := by simp; omega
        have HSh := Lib.hid (show sh3B s = true by simp [sh3B, HL0.out, HL1.out, HL2.out, q0, q1, q2])
        have l1e := Lib.hid q1
        clear q1 q2
        go_enter Try.func37, Try.ntmps37
        go_wp2_with fail
        go_loopw [32] (fun t wr => ∃ k : Nat, k ≤ l0 ∧ t = .int .i64 (k : Int) ∧ Hid ((List.range k).all (fun j => thr1B (s.th.getD j []) (s.pc.getD j 0)) = true) ∧ Hid (Box wr w.heap.size 26 #[.slice A0 l0 c0, .slice A1 l1 c1, .slice A2 l2 c2, .slice A3 l3 c3, .slice A4 l4 c4, .slice A5 l5 c5]) ∧ Hid (Below w.heap.size w wr)) (fun t _ => l0 - (intOf t).toNat)
        case atStart => exact ⟨0, Nat.zero_le _, rfl, Lib.hid rfl, Q, HB⟩
        case round =>
          clear Q HB r0 r1 r2 r3 r4 r5
          obtain ⟨k, hk, rfl, HAll, Q2, HB2⟩ := hrel
          by_cases hlt : k < l0
          · have hlt' : (k : Int) < (l0 : Int) := by omega
            obtain ⟨b0, o0, B, lk, ck, rfl, hb0, g0, hsk, htk⟩ := (Thr.below HT.out HB2.out).at k hlt
            obtain ⟨b1, o1, rfl, hb1, hc1⟩ := (HP.out.below HB2.out).2.2 (by have := l1e.out; omega)
            have g1 := hc1 k (by have := l1e.out; omega)
            have hk1 : (k : Int) < (l1 : Int) := by have := l1e.out; omega
            have HTk := Lib.hid htk
            have HLk := Lib.hid htk.1
            have hlm : lk ≤ maxLen := Nat.le_trans hsk.1 hsk.2.1
            unfold maxLen at hlm
            have HRs := Lib.hid (all_range_snoc (fun j => thr1B (s.th.getD j []) (s.pc.getD j 0)) k)
            have HNo := Lib.hid (fun h => all_range_no (fun j => thr1B (s.th.getD j []) (s.pc.getD j 0)) s.th.length k (by rw [HL0.out]; exact hlt) h)
            obtain ⟨tk, htke⟩ : ∃ tk, tk = s.th.getD k [] := ⟨_, rfl⟩
            obtain ⟨pk, hpk⟩ : ∃ pk, pk = s.pc.getD k 0 := ⟨_, rfl⟩
            simp only [← htke, ← hpk] at HRs HNo HTk HLk g1
            clear htke hpk htk hc1 hsk
            have Q3 := Q2
            have HB3 := HB2
            clear Q2 HB2
            obtain ⟨r0, r1, r2, r3, r4, r5⟩ := Q3.out.six
            by_cases h16 : lk ≤ 16
            · have h16' : ¬ (16 : Int) < (lk : Int) := by omega
              by_cases hp0 : 0 ≤ pk
              · have hp0' : ¬ pk < 0 := by omega
                by_cases hp1 : pk ≤ (lk : Int)
                · have hp1' : ¬ (lk : Int) < pk := by omega
                  have P16 := Lib.hid h16
                  have PPk := Lib.hid (show 0 ≤ pk ∧ pk ≤ (lk : Int) from ⟨hp0, hp1⟩)
                  go_wp2_with fail
                  obtain ⟨x1, hx1⟩ : ∃ x : World, x = wr := ⟨_, rfl⟩
                  subst hx1
                  go_loopw [60] (fun t wr => ∃ i : Nat, i ≤ lk ∧ t = .int .i64 (i : Int) ∧ Hid ((tk.take i).all inB = true) ∧ Hid (Box wr w.heap.size 26 #[.slice (some ⟨b0, o0, none⟩) l0 c0, .slice (some ⟨b1, o1, none⟩) l1 c1, .slice A2 l2 c2, .slice A3 l3 c3, .slice A4 l4 c4, .slice A5 l5 c5]) ∧ Hid (Below w.heap.size w wr) ∧ Hid (Below x1.heap.size x1 wr)) (fun t _ => lk - (intOf t).toNat)
                  case atStart => exact ⟨0, Nat.zero_le _, rfl, Lib.hid rfl, Q3, HB3, Lib.hid (Below.refl _ _)⟩
                  case round =>
                    obtain ⟨i, hi, rfl, HAl, Q4, HB4, HBi⟩ := hrel
                    clear Q3 HB3 r0 r1 r2 r3 r4 r5
                    by_cases hlt2 : i < lk
                    · have hlt2' : (i : Int) < (lk : Int) := by omega
                      obtain ⟨b2, o2, rfl, hb2, x0, x1', x2⟩ := Inss.cells (Recs.below HTk.out HBi.out) (Below.refl _ _) i hlt2
                      have HAs := Lib.hid (all_take_snoc inB tk i (by rw [HLk.out]; exact hlt2))
                      have HAn := Lib.hid (all_no inB tk i (by rw [HLk.out]; exact hlt2))
                      obtain ⟨xi, hxi⟩ : ∃ xi, xi = tk.getD i default := ⟨_, rfl⟩
                      rw [← hxi] at x0 x1' x2 HAs HAn
                      clear hxi
                      obtain ⟨op, na, nu⟩ := xi
                      have x0 : wr.cell? ⟨b2, o2 + i * 3, none⟩ = some (.int .i64 op) := x0
                      have x1' : wr.cell? ⟨b2, o2 + i * 3 + 1, none⟩ = some (.int .i64 na) := x1'
                      have x2 : wr.cell? ⟨b2, o2 + i * 3 + 2, none⟩ = some (.int .i64 nu) := x2
                      have Q5 := Lib.hid (Q4.out.alloc (.cells #[.int .i64 op, .int .i64 na, .int .i64 nu] 57))
                      have HB5 := Lib.hid (HB4.out.alloc HB4.out.size (.cells #[.int .i64 op, .int .i64 na, .int .i64 nu] 57))
                      have HBi5 := Lib.hid (HBi.out.alloc HBi.out.size (.cells #[.int .i64 op, .int .i64 na, .int .i64 nu] 57))
                      have HIs := Lib.hid (fun wx (_ : Below w.heap.size w wx) => refInstr_any op na nu wx)
                      obtain ⟨y0, y1, y2⟩ := (Box.new wr 57 #[.int .i64 op, .int .i64 na, .int .i64 nu]).three3
                      cases hin : inB (op, na, nu) with
                      | true =>
                        rw [hin] at HIs
                        have HSx := Lib.hid (HAs.out.trans (by rw [HAl.out, hin]))
                        clear hin
                        go_wp2_with fail
                        refine (HIs.out _ HB5.out).mono ?_
                        rintro e w1 ⟨rfl, hb⟩
                        have HBx := Lib.hid (chain HB5.out hb)
                        have HBix := Lib.hid (chain HBi5.out hb)
                        have Q6 := Lib.hid (Q5.out.keep hb)
                        clear hb
                        go_wp2_with fail
                        go_roundw
                        case rel => exact ⟨i + 1, by omega, by go_num, HSx, Q6, HBx, HBix⟩
                        case measure => simp [intOf] <;> omega
                      | false =>
                        rw [hin] at HIs
                        have HE := Lib.hid (show (sh3B s && thrB s) = false by rw [show thrB s = false from HNo.out (show thr1B tk pk = false by simp [thr1B, HAn.out hin])]; simp)
                        clear hin
                        go_wp2_with fail
                        refine (HIs.out _ HB5.out).mono ?_
                        rintro e w1 ⟨rfl, hb⟩
                        have HBx := Lib.hid (chain HB5.out hb)
                        have HBix := Lib.hid (chain HBi5.out hb)
                        have Q6 := Lib.hid (Q5.out.keep hb)
                        clear hb
                        go_wp2_with fail
                        go_ret
                        exact ⟨by rw [HE.out]; rfl, HBx.out⟩
                    · have hlt2' : ¬ (i : Int) < (lk : Int) := by omega
                      have HT1 := Lib.hid (show thr1B tk pk = true by
                        have := HAl.out
                        rw [List.take_of_length_le (by rw [HLk.out]; omega)] at this
                        simp [thr1B, HLk.out, P16.out, PPk.out, this])
                      go_wp2_with fail
                      go_roundw
                      case rel => exact ⟨k + 1, by omega, by go_num, Lib.hid (by rw [HRs.out, HAll.out, HT1.out]; rfl), Q4, HB4⟩
                      case measure => simp [intOf] <;> omega
                · have hp1' : (lk : Int) < pk := by omega
                  have HE := Lib.hid (show (sh3B s && thrB s) = false by rw [show thrB s = false from HNo.out (show thr1B tk pk = false by simp [thr1B, HLk.out]; intros; omega)]; simp)
                  go_wp2_with fail
                  go_ret
                  exact ⟨by rw [HE.out]; rfl, HB3.out⟩
              · have hp0' : pk < 0 := by omega
                have HE := Lib.hid (show (sh3B s && thrB s) = false by rw [show thrB s = false from HNo.out (show thr1B tk pk = false by simp [thr1B, HLk.out]; intros; omega)]; simp)
                go_wp2_with fail
                go_ret
                exact ⟨by rw [HE.out]; rfl, HB3.out⟩
            · have h16' : (16 : Int) < (lk : Int) := by omega
              have HE := Lib.hid (show (sh3B s && thrB s) = false by rw [show thrB s = false from HNo.out (show thr1B tk pk = false by simp [thr1B, HLk.out]; intros; omega)]; simp)
              go_wp2_with fail
              go_ret
              exact ⟨by rw [HE.out]; rfl, HB3.out⟩
          · have hlt' : ¬ (k : Int) < (l0 : Int) := by omega
            have HE := Lib.hid (show (sh3B s && thrB s) = true by
              have := HAll.out
              rw [show k = s.th.length by rw [HL0.out]; omega] at this
              rw [HSh.out, show thrB s = true from this]; rfl)
            go_wp2_with fail
            go_ret
            exact ⟨by rw [HE.out]; rfl, HB2.out⟩
      · have t2 : ((l2 : Int) != (l0 : Int)) = true := by simp; omega
        have HE := Lib.hid (show (sh3B s && thrB s) = false by simp [sh3B, HL0.out, HL1.out, HL2.out, q2])
        clear q0 q1 q2
        go_enter Try.func37, Try.ntmps37
        go_wp2_with fail
        go_ret
        exact ⟨by rw [HE.out]; rfl, HB.out⟩
    · have t1 : ((l1 : Int) != (l0 : Int)) = true := by simp; omega
      have HE := Lib.hid (show (sh3B s && thrB s) = false by simp [sh3B, HL0.out, HL1.out, HL2.out, q1])
      clear q0 q1
      go_enter Try.func37, Try.ntmps37
      go_wp2_with fail
      go_ret
      exact ⟨by rw [HE.out]; rfl, HB.out⟩
  · have t0 : (8 : Int) < (l0 : Int) := by omega
    have HE := Lib.hid (show (sh3B s && thrB s) = false by simp [sh3B, HL0.out, HL1.out, HL2.out, q0])
    clear q0
    go_enter Try.func37, Try.ntmps37
    go_wp2_with fail
    go_ret
    exact ⟨by rw [HE.out]; rfl, HB.out⟩
end Go.Proofs.Ytcamoigcfiemhaa
