/- Layer 20: the program's tests of a system. -/
import Derived.Test.YtcamoigcfiemhaaScA
namespace Go.Proofs.Ytcamoigcfiemhaa
set_option linter.unusedVariables false
set_option linter.unusedSimpArgs false
open Go.RowKit
set_option maxRecDepth 100000
set_option maxHeartbeats 4000000 in
theorem shape_any (v : Value) (s : Sys) (w : World) (h : SysAt w v s) : Calls Try.prog 34 #[v] w fun e w' => e = .returned (.bool (shapeB s)) ∧ Below w.heap.size w w' := by
  obtain ⟨A0, l0, c0, A1, l1, c1, A2, l2, c2, A3, l3, c3, A4, l4, c4, A5, l5, c5, rfl, s0, s1, s2, s3, s4, s5, h0, h1, h2, h3, h4, h5⟩ := h
  have Q := Lib.hid (Box.new w 26 #[.slice A0 l0 c0, .slice A1 l1 c1, .slice A2 l2 c2, .slice A3 l3 c3, .slice A4 l4 c4, .slice A5 l5 c5])
  have HB := Lib.hid ((Below.refl w.heap.size w).alloc (Nat.le_refl _) (.cells #[.slice A0 l0 c0, .slice A1 l1 c1, .slice A2 l2 c2, .slice A3 l3 c3, .slice A4 l4 c4, .slice A5 l5 c5] 26))
  obtain ⟨r0, r1, r2, r3, r4, r5⟩ := Q.out.six
  have HL0 := Lib.hid h0.1
  have HL1 := Lib.hid h1.1
  have HL2 := Lib.hid h2.1
  have HL3 := Lib.hid h3.1
  have HL4 := Lib.hid h4.1
  have HL5 := Lib.hid h5.1
  clear h0 h1 h2 h3 h4 h5 s0 s1 s2 s3 s4 s5
  by_cases q0 : l0 ≤ 8
  · have t0 : (l0 : Int) ≤ 8 := by omega
    by_cases q1 : l1 = l0
    · have t1 : ((l1 : Int) == (l0 : Int)) = true := beq_iff_eq.2 (by omega)
      by_cases q2 : l2 = l0
      · have t2 : ((l2 : Int) == (l0 : Int)) = true := beq_iff_eq.2 (by omega)
        by_cases q3 : l3 = 4
        · have t3 : ((l3 : Int) == 4) = true := beq_iff_eq.2 (by omega)
          by_cases q4 : l4 = 4
          · have t4 : ((l4 : Int) == 4) = true := beq_iff_eq.2 (by omega)
            by_cases q5 : l5 = 4
            · have t5 : ((l5 : Int) == 4) = true := beq_iff_eq.2 (by omega)
              have HE := Lib.hid (show shapeB s = true by simp [shapeB, HL0.out, HL1.out, HL2.out, HL3.out, HL4.out, HL5.out, q0, q1, q2, q3, q4, q5])
              clear q0 q1 q2 q3 q4 q5
              go_enter Try.func34, Try.ntmps34
              go_wp2_with fail
              go_ret
              exact ⟨by rw [HE.out]; rfl, HB.out⟩
            · have t5 : ((l5 : Int) == 4) = false := beq_eq_false_iff_ne.2 (by omega)
              have HE := Lib.hid (show shapeB s = false by simp [shapeB, HL0.out, HL1.out, HL2.out, HL3.out, HL4.out, HL5.out, q5])
              clear q0 q1 q2 q3 q4 q5
              go_enter Try.func34, Try.ntmps34
              go_wp2_with fail
              go_ret
              exact ⟨by rw [HE.out]; rfl, HB.out⟩
          · have t4 : ((l4 : Int) == 4) = false := beq_eq_false_iff_ne.2 (by omega)
            have HE := Lib.hid (show shapeB s = false by simp [shapeB, HL0.out, HL1.out, HL2.out, HL3.out, HL4.out, HL5.out, q4])
            clear q0 q1 q2 q3 q4
            go_enter Try.func34, Try.ntmps34
            go_wp2_with fail
            go_ret
            exact ⟨by rw [HE.out]; rfl, HB.out⟩
        · have t3 : ((l3 : Int) == 4) = false := beq_eq_false_iff_ne.2 (by omega)
          have HE := Lib.hid (show shapeB s = false by simp [shapeB, HL0.out, HL1.out, HL2.out, HL3.out, HL4.out, HL5.out, q3])
          clear q0 q1 q2 q3
          go_enter Try.func34, Try.ntmps34
          go_wp2_with fail
          go_ret
          exact ⟨by rw [HE.out]; rfl, HB.out⟩
      · have t2 : ((l2 : Int) == (l0 : Int)) = false := beq_eq_false_iff_ne.2 (by omega)
        have HE := Lib.hid (show shapeB s = false by simp [shapeB, HL0.out, HL1.out, HL2.out, HL3.out, HL4.out, HL5.out, q2])
        clear q0 q1 q2
        go_enter Try.func34, Try.ntmps34
        go_wp2_with fail
        go_ret
        exact ⟨by rw [HE.out]; rfl, HB.out⟩
    · have t1 : ((l1 : Int) == (l0 : Int)) = false := beq_eq_false_iff_ne.2 (by omega)
      have HE := Lib.hid (show shapeB s = false by simp [shapeB, HL0.out, HL1.out, HL2.out, HL3.out, HL4.out, HL5.out, q1])
      clear q0 q1
      go_enter Try.func34, Try.ntmps34
      go_wp2_with fail
      go_ret
      exact ⟨by rw [HE.out]; rfl, HB.out⟩
  · have t0 : ¬ (l0 : Int) ≤ 8 := by omega
    have HE := Lib.hid (show shapeB s = false by simp [shapeB, HL0.out, HL1.out, HL2.out, HL3.out, HL4.out, HL5.out, q0])
    clear q0
    go_enter Try.func34, Try.ntmps34
    go_wp2_with fail
    go_ret
    exact ⟨by rw [HE.out]; rfl, HB.out⟩
theorem Inss.cells {w x : World} {A : Option Addr} {l : Nat} {xs : List InR} (h : Inss w A l xs) (hb : Below w.heap.size w x) (j : Nat) (hj : j < l) : ∃ b off, A = some ⟨b, off, none⟩ ∧ b < w.heap.size ∧ x.cell? ⟨b, off + j * 3, none⟩ = some (.int .i64 (xs.getD j default).1) ∧ x.cell? ⟨b, off + j * 3 + 1, none⟩ = some (.int .i64 (xs.getD j default).2.1) ∧ x.cell? ⟨b, off + j * 3 + 2, none⟩ = some (.int .i64 (xs.getD j default).2.2) := by
  obtain ⟨b, off, e, hlt, hc⟩ := Recs.at h j hj
  have hc := fun k v (hv : (encIn (xs.getD j default))[k]? = some v) => (hb.cell (p := ⟨b, off + j * 3 + k, none⟩) hlt).trans (hc k v hv)
  exact ⟨b, off, e, hlt, hc 0 _ rfl, hc 1 _ rfl, hc 2 _ rfl⟩
theorem Box.three3 {w : World} {g : Nat} {t : TypeId} {a b c : Value} (h : Box w g t #[a, b, c]) : w.cell? ⟨g, 0, none⟩ = some a ∧ w.cell? ⟨g, 1, none⟩ = some b ∧ w.cell? ⟨g, 2, none⟩ = some c := ⟨h.cell 0, h.cell 1, h.cell 2⟩
theorem within_yes {x a b : Int} (h : a ≤ x ∧ x ≤ b) (w : World) : Calls Try.prog 57 #[.int .i64 x, .int .i64 a, .int .i64 b] w fun e w' => e = .returned (.bool true) ∧ w' = w := by
  have := within_any x a b w
  rwa [decide_eq_true h] at this
theorem within_no {x a b : Int} (h : ¬ (a ≤ x ∧ x ≤ b)) (w : World) : Calls Try.prog 57 #[.int .i64 x, .int .i64 a, .int .i64 b] w fun e w' => e = .returned (.bool false) ∧ w' = w := by
  have := within_any x a b w
  rwa [decide_eq_false h] at this
theorem shape_parts {s : Sys} (h : shapeB s = true) : s.th.length ≤ 8 ∧ s.pc.length = s.th.length ∧ s.su.length = s.th.length ∧ s.lo.length = 4 ∧ s.ce.length = 4 ∧ s.ch.length = 4 := by
  simp only [shapeB, Bool.and_eq_true, decide_eq_true_eq] at h
  exact ⟨h.1.1.1.1.1, h.1.1.1.1.2, h.1.1.1.2, h.1.1.2, h.1.2, h.2⟩
set_option maxHeartbeats 8000000 in
theorem threads_any (v : Value) (s : Sys) (w : World) (h : SysAt w v s) (hsh : shapeB s = true) : Calls Try.prog 35 #[v] w fun e w' => e = .returned (.bool (thrB s)) ∧ Below w.heap.size w w' := by
  obtain ⟨n0, n1, n2, n3, n4, n5⟩ := shape_parts hsh
  obtain ⟨A0, l0, c0, A1, l1, c1, A2, l2, c2, A3, l3, c3, A4, l4, c4, A5, l5, c5, rfl, s0, s1, s2, s3, s4, s5, h0, h1, h2, h3, h4, h5⟩ := h
  have Q := Lib.hid (Box.new w 26 #[.slice A0 l0 c0, .slice A1 l1 c1, .slice A2 l2 c2, .slice A3 l3 c3, .slice A4 l4 c4, .slice A5 l5 c5])
  have HB := Lib.hid ((Below.refl w.heap.size w).alloc (Nat.le_refl _) (.cells #[.slice A0 l0 c0, .slice A1 l1 c1, .slice A2 l2 c2, .slice A3 l3 c3, .slice A4 l4 c4, .slice A5 l5 c5] 26))
  obtain ⟨r0, r1, r2, r3, r4, r5⟩ := Q.out.six
  have HT := Lib.hid h0
  have HP := Lib.hid h1
  have HL0 := Lib.hid h0.1
  have e0 := h0.1
  have e1 := h1.1
  have l08 : l0 ≤ 8 := by omega
  have l1e := Lib.hid (show l1 = l0 by omega)
  have hpw : w.heap.size < (w.alloc (.cells #[] 26)).heap.size := by simp
  clear h0 h1 h2 h3 h4 h5 s0 s1 s2 s3 s4 s5 hsh n0 n1 n2 n3 n4 n5 e0 e1 hpw
  go_enter Try.func35, Try.ntmps35
  go_wp2_with fail
  go_loopw [10] (fun t wr => ∃ k : Nat, k ≤ l0 ∧ t = .int .i64 (k : Int) ∧ Hid ((List.range k).all (fun j => thr1B (s.th.getD j []) (s.pc.getD j 0)) = true) ∧ Hid (Box wr w.heap.size 26 #[.slice A0 l0 c0, .slice A1 l1 c1, .slice A2 l2 c2, .slice A3 l3 c3, .slice A4 l4 c4, .slice A5 l5 c5]) ∧ Hid (Below w.heap.size w wr)) (fun t _ => l0 - (intOf t).toNat)
  case atStart => exact ⟨0, Nat.zero_le _, rfl, Lib.hid rfl, Q, HB⟩
  case round =>
    clear Q HB r0 r1 r2 r3 r4 r5
    obtain ⟨k, hk, rfl, HAll, Q2, HB2⟩ := hrel
    by_cases hlt : k < l0
    · have hlt' : (k : Int) < (l0 : Int) := by omega
      obtain ⟨b0, o0, B, lk, ck, rfl, hb0, g0, hsk, htk⟩ := (Thr.below HT.out HB2.out).at k hlt
      obtain ⟨b1, o1, rfl, hb1, hc1⟩ := (HP.out.below HB2.out).2.2 (by have := l1e.out; omega)
      have g1 := hc1 k (by have := l1e.out; omega)
      have hk1 : (k : Int) < (l1 : Int) := by have := l1e.out; omega
      have HTk := Lib.hid htk
      have HLk := Lib.hid htk.1
      have hlm : lk ≤ maxLen := Nat.le_trans hsk.1 hsk.2.1
      unfold maxLen at hlm
      have HRs := Lib.hid (all_range_snoc (fun j => thr1B (s.th.getD j []) (s.pc.getD j 0)) k)
      have HNo := Lib.hid (fun h => all_range_no (fun j => thr1B (s.th.getD j []) (s.pc.getD j 0)) s.th.length k (by rw [HL0.out]; exact hlt) h)
      obtain ⟨tk, htke⟩ : ∃ tk, tk = s.th.getD k [] := ⟨_, rfl⟩
      obtain ⟨pk, hpk⟩ : ∃ pk, pk = s.pc.getD k 0 := ⟨_, rfl⟩
      simp only [← htke, ← hpk] at HRs HNo HTk HLk g1
      clear htke hpk htk hc1 hsk
      have Q3 := Q2
      have HB3 := HB2
      clear Q2 HB2
      obtain ⟨r0, r1, r2, r3, r4, r5⟩ := Q3.out.six
      by_cases h16 : lk ≤ 16
      · have h16' : ¬ (16 : Int) < (lk : Int) := by omega
        have P16 := Lib.hid h16
        by_cases hpp : 0 ≤ pk ∧ pk ≤ (lk : Int)
        · have PPk := Lib.hid hpp
          clear hpp h16
          go_wp2_with fail
          refine (within_yes PPk.out _).mono ?_
          rintro e w1 ⟨rfl, rfl⟩
          go_wp2_with fail
          obtain ⟨x1, hx1⟩ : ∃ x : World, x = w1 := ⟨_, rfl⟩
          subst hx1
          go_loopw [31] (fun t wr => ∃ i : Nat, i ≤ lk ∧ t = .int .i64 (i : Int) ∧ Hid ((tk.take i).all inB = true) ∧ Hid (Box wr w.heap.size 26 #[.slice (some ⟨b0, o0, none⟩) l0 c0, .slice (some ⟨b1, o1, none⟩) l1 c1, .slice A2 l2 c2, .slice A3 l3 c3, .slice A4 l4 c4, .slice A5 l5 c5]) ∧ Hid (Below w.heap.size w wr) ∧ Hid (Below x1.heap.size x1 wr)) (fun t _ => lk - (intOf t).toNat)
          case atStart => exact ⟨0, Nat.zero_le _, rfl, Lib.hid rfl, Q3, HB3, Lib.hid (Below.refl _ _)⟩
          case round =>
            obtain ⟨i, hi, rfl, HAl, Q4, HB4, HBi⟩ := hrel
            clear Q3 HB3 r0 r1 r2 r3 r4 r5
            by_cases hlt2 : i < lk
            · have hlt2' : (i : Int) < (lk : Int) := by omega
              obtain ⟨b2, o2, rfl, hb2, x0, x1', x2⟩ := Inss.cells (Recs.below HTk.out HBi.out) (Below.refl _ _) i hlt2
              have HAs := Lib.hid (all_take_snoc inB tk i (by rw [HLk.out]; exact hlt2))
              have HAn := Lib.hid (all_no inB tk i (by rw [HLk.out]; exact hlt2))
              obtain ⟨xi, hxi⟩ : ∃ xi, xi = tk.getD i default := ⟨_, rfl⟩
              rw [← hxi] at x0 x1' x2 HAs HAn
              clear hxi
              obtain ⟨op, na, nu⟩ := xi
              have x0 : wr.cell? ⟨b2, o2 + i * 3, none⟩ = some (.int .i64 op) := x0
              have x1' : wr.cell? ⟨b2, o2 + i * 3 + 1, none⟩ = some (.int .i64 na) := x1'
              have x2 : wr.cell? ⟨b2, o2 + i * 3 + 2, none⟩ = some (.int .i64 nu) := x2
              have Q5 := Lib.hid (Q4.out.alloc (.cells #[.int .i64 op, .int .i64 na, .int .i64 nu] 57))
              have HB5 := Lib.hid (HB4.out.alloc HB4.out.size (.cells #[.int .i64 op, .int .i64 na, .int .i64 nu] 57))
              have HBi5 := Lib.hid (HBi.out.alloc HBi.out.size (.cells #[.int .i64 op, .int .i64 na, .int .i64 nu] 57))
              obtain ⟨y0, y1, y2⟩ := (Box.new wr 57 #[.int .i64 op, .int .i64 na, .int .i64 nu]).three3
              by_cases p0 : 0 ≤ op ∧ op ≤ 4
              · have P0 := Lib.hid p0
                clear p0
                by_cases p1 : 0 ≤ na ∧ na ≤ 3
                · have P1 := Lib.hid p1
                  clear p1
                  by_cases p2 : -1000 ≤ nu ∧ nu ≤ 1000
                  · have P2 := Lib.hid p2
                    clear p2
                    have HIn := Lib.hid (show inB (op, na, nu) = true by simp [inB, P0.out, P1.out, P2.out])
                    go_wp2_with fail
                    refine (within_yes P0.out _).mono ?_
                    rintro e w1 ⟨rfl, rfl⟩
                    go_wp2_with fail
                    refine (within_yes P1.out _).mono ?_
                    rintro e w1 ⟨rfl, rfl⟩
                    go_wp2_with fail
                    refine (within_yes P2.out _).mono ?_
                    rintro e w1 ⟨rfl, rfl⟩
                    go_wp2_with fail
                    go_roundw
                    case rel => exact ⟨i + 1, by omega, by go_num, Lib.hid (by rw [HAs.out, HAl.out, HIn.out]; rfl), Q5, HB5, HBi5⟩
                    case measure => simp [intOf] <;> omega
                  · have HIn := Lib.hid (HAn.out (show inB (op, na, nu) = false by simp [inB, p2]))
                    have P2 := Lib.hid p2
                    clear p2
                    have HE := Lib.hid (show thrB s = false from HNo.out (show thr1B tk pk = false by simp [thr1B, HIn.out]))
                    go_wp2_with fail
                    refine (within_yes P0.out _).mono ?_
                    rintro e w1 ⟨rfl, rfl⟩
                    go_wp2_with fail
                    refine (within_yes P1.out _).mono ?_
                    rintro e w1 ⟨rfl, rfl⟩
                    go_wp2_with fail
                    refine (within_no P2.out _).mono ?_
                    rintro e w1 ⟨rfl, rfl⟩
                    go_wp2_with fail
                    go_ret
                    exact ⟨by rw [HE.out]; rfl, HB5.out⟩
                · have HIn := Lib.hid (HAn.out (show inB (op, na, nu) = false by simp [inB, p1]))
                  have P1 := Lib.hid p1
                  clear p1
                  have HE := Lib.hid (show thrB s = false from HNo.out (show thr1B tk pk = false by simp [thr1B, HIn.out]))
                  go_wp2_with fail
                  refine (within_yes P0.out _).mono ?_
                  rintro e w1 ⟨rfl, rfl⟩
                  go_wp2_with fail
                  refine (within_no P1.out _).mono ?_
                  rintro e w1 ⟨rfl, rfl⟩
                  go_wp2_with fail
                  go_ret
                  exact ⟨by rw [HE.out]; rfl, HB5.out⟩
              · have HIn := Lib.hid (HAn.out (show inB (op, na, nu) = false by simp [inB, p0]))
                have P0 := Lib.hid p0
                clear p0
                have HE := Lib.hid (show thrB s = false from HNo.out (show thr1B tk pk = false by simp [thr1B, HIn.out]))
                go_wp2_with fail
                refine (within_no P0.out _).mono ?_
                rintro e w1 ⟨rfl, rfl⟩
                go_wp2_with fail
                go_ret
                exact ⟨by rw [HE.out]; rfl, HB5.out⟩
            · have hlt2' : ¬ (i : Int) < (lk : Int) := by omega
              have HT1 := Lib.hid (show thr1B tk pk = true by
                have := HAl.out
                rw [List.take_of_length_le (by rw [HLk.out]; omega)] at this
                simp [thr1B, HLk.out, P16.out, PPk.out, this])
              go_wp2_with fail
              go_roundw
              case rel => exact ⟨k + 1, by omega, by go_num, Lib.hid (by rw [HRs.out, HAll.out, HT1.out]; rfl), Q4, HB4⟩
              case measure => simp [intOf] <;> omega
        · have PPk := Lib.hid hpp
          have HE := Lib.hid (show thrB s = false from HNo.out (show thr1B tk pk = false by simp [thr1B, HLk.out]; intros; omega))
          clear hpp h16
          go_wp2_with fail
          refine (within_no PPk.out _).mono ?_
          rintro e w1 ⟨rfl, rfl⟩
          go_wp2_with fail
          go_ret
          exact ⟨by rw [HE.out]; rfl, HB3.out⟩
      · have h16' : (16 : Int) < (lk : Int) := by omega
        have HE := Lib.hid (show thrB s = false from HNo.out (show thr1B tk pk = false by simp [thr1B, HLk.out, h16]))
        go_wp2_with fail
        go_ret
        exact ⟨by rw [HE.out]; rfl, HB3.out⟩
    · have hlt' : ¬ (k : Int) < (l0 : Int) := by omega
      have HE := Lib.hid (show thrB s = true by
        have := HAll.out
        rwa [show k = s.th.length by rw [HL0.out]; omega] at this)
      go_wp2_with fail
      go_ret
      exact ⟨by rw [HE.out]; rfl, HB2.out⟩
set_option maxHeartbeats 8000000 in
theorem things_any (v : Value) (s : Sys) (w : World) (h : SysAt w v s) (hsh : shapeB s = true) : Calls Try.prog 36 #[v] w fun e w' => e = .returned (.bool (loB s.th.length s.lo && chB s.ch && smL s.su && smL s.ce)) ∧ Below w.heap.size w w' := by
  obtain ⟨n0, n1, n2, n3, n4, n5⟩ := shape_parts hsh
  obtain ⟨A0, l0, c0, A1, l1, c1, A2, l2, c2, A3, l3, c3, A4, l4, c4, A5, l5, c5, rfl, s0, s1, s2, s3, s4, s5, h0, h1, h2, h3, h4, h5⟩ := h
  have Q := Lib.hid (Box.new w 26 #[.slice A0 l0 c0, .slice A1 l1 c1, .slice A2 l2 c2, .slice A3 l3 c3, .slice A4 l4 c4, .slice A5 l5 c5])
  have HB := Lib.hid ((Below.refl w.heap.size w).alloc (Nat.le_refl _) (.cells #[.slice A0 l0 c0, .slice A1 l1 c1, .slice A2 l2 c2, .slice A3 l3 c3, .slice A4 l4 c4, .slice A5 l5 c5] 26))
  obtain ⟨r0, r1, r2, r3, r4, r5⟩ := Q.out.six
  have HS2 := Lib.hid h2
  have HS3 := Lib.hid h3
  have HS4 := Lib.hid h4
  have HS5 := Lib.hid h5
  have HL0 := Lib.hid h0.1
  have HL3 := Lib.hid (show s.lo.length = 4 from n3)
  have HL5 := Lib.hid (show s.ch.length = 4 from n5)
  have e0 := h0.1
  have e3 := Lib.hid (show l3 = 4 by have := h3.1; omega)
  have e5 := Lib.hid (show l5 = 4 by have := h5.1; omega)
  have m2 := Nat.le_trans s2.1 s2.2.1
  have m4 := Nat.le_trans s4.1 s4.2.1
  have l08 : (l0 : Int) ≤ 8 := by omega
  clear h0 h1 h2 h3 h4 h5 s0 s1 s2 s3 s4 s5 hsh n0 n1 n2 n3 n4 n5 e0
  go_enter Try.func36, Try.ntmps36
  go_wp2_with fail
  go_loopw [10] (fun t wr => ∃ k : Nat, k ≤ l3 ∧ t = .int .i64 (k : Int) ∧ Hid ((s.lo.take k).all (fun x => decide (-1 ≤ x ∧ x ≤ (s.th.length : Int) - 1)) = true) ∧ Hid (Box wr w.heap.size 26 #[.slice A0 l0 c0, .slice A1 l1 c1, .slice A2 l2 c2, .slice A3 l3 c3, .slice A4 l4 c4, .slice A5 l5 c5]) ∧ Hid (Below w.heap.size w wr)) (fun t _ => l3 - (intOf t).toNat)
  case atStart => exact ⟨0, Nat.zero_le _, rfl, Lib.hid rfl, Q, HB⟩
  case round =>
    clear Q HB r0 r1 r2 r3 r4 r5
    obtain ⟨k, hk, rfl, HAll, Q2, HB2⟩ := hrel
    have hk4 : k ≤ 4 := by have := e3.out; omega
    obtain ⟨r0, r1, r2, r3, r4, r5⟩ := Q2.out.six
    by_cases hlt : k < l3
    · have hlt' : (k : Int) < (l3 : Int) := by omega
      obtain ⟨b3, o3, rfl, hb3, hc3⟩ := (HS3.out.below HB2.out).2.2 (by omega)
      have g3 := hc3 k hlt
      have HSn := Lib.hid (all_take_snoc (fun x => decide (-1 ≤ x ∧ x ≤ (s.th.length : Int) - 1)) s.lo k (by rw [HL3.out]; have := e3.out; omega))
      have HNo := Lib.hid (fun h => all_no (fun x => decide (-1 ≤ x ∧ x ≤ (s.th.length : Int) - 1)) s.lo k (by rw [HL3.out]; have := e3.out; omega) h)
      obtain ⟨x, hx⟩ : ∃ x, x = s.lo.getD k 0 := ⟨_, rfl⟩
      have hd : s.lo.getD k default = x := hx.symm
      simp only [← hx, hd] at HSn HNo g3
      clear hx hd hc3
      by_cases q : -1 ≤ x ∧ x ≤ (l0 : Int) - 1
      · have HQ := Lib.hid (within_yes q)
        have HSx := Lib.hid (HSn.out.trans (by rw [HAll.out, decide_eq_true (by rw [HL0.out]; exact q)]))
        clear q
        go_wp2_with fail
        refine (HQ.out _).mono ?_
        rintro e w1 ⟨rfl, rfl⟩
        go_wp2_with fail
        go_roundw
        case rel => exact ⟨k + 1, by omega, by go_num, HSx, Q2, HB2⟩
        case measure => simp [intOf] <;> omega
      · have HQ := Lib.hid (within_no q)
        have HLo := Lib.hid (show loB s.th.length s.lo = false from HNo.out (decide_eq_false (by rw [HL0.out]; exact q)))
        have HE := Lib.hid (show (loB s.th.length s.lo && chB s.ch && smL s.su && smL s.ce) = false by rw [HLo.out]; rfl)
        clear q
        go_wp2_with fail
        refine (HQ.out _).mono ?_
        rintro e w1 ⟨rfl, rfl⟩
        go_wp2_with fail
        go_ret
        exact ⟨by rw [HE.out]; rfl, HB2.out⟩
    · have hlt' : ¬ (k : Int) < (l3 : Int) := by omega
      have HLO := Lib.hid (show loB s.th.length s.lo = true by
        have := HAll.out
        rwa [List.take_of_length_le (by rw [HL3.out]; have := e3.out; omega)] at this)
      clear hlt
      go_wp2_with fail
      obtain ⟨x1, hx1⟩ : ∃ x : World, x = wr := ⟨_, rfl⟩
      subst hx1
      go_loopw [25] (fun t wr => ∃ k : Nat, k ≤ l5 ∧ t = .int .i64 (k : Int) ∧ Hid ((s.ch.take k).all ch1B = true) ∧ Hid (Box wr w.heap.size 26 #[.slice A0 l0 c0, .slice A1 l1 c1, .slice A2 l2 c2, .slice A3 l3 c3, .slice A4 l4 c4, .slice A5 l5 c5]) ∧ Hid (Below w.heap.size w wr)) (fun t _ => l5 - (intOf t).toNat)
      case atStart => exact ⟨0, Nat.zero_le _, rfl, Lib.hid rfl, Q2, HB2⟩
      case round =>
        obtain ⟨i, hi, rfl, HAl, Q3, HB3⟩ := hrel
        clear Q2 HB2 r0 r1 r2 r3 r4 r5
        have hi4 : i ≤ 4 := by have := e5.out; omega
        by_cases hlt2 : i < l5
        · have hlt2' : (i : Int) < (l5 : Int) := by omega
          obtain ⟨b5, o5, B, lk, ck, rfl, hb5, g5, hsk, hck⟩ := (Chs.below HS5.out HB3.out).at i hlt2
          have HCk := Lib.hid hck
          have HSn := Lib.hid (all_take_snoc ch1B s.ch i (by rw [HL5.out]; have := e5.out; omega))
          have HNo := Lib.hid (fun h => all_no ch1B s.ch i (by rw [HL5.out]; have := e5.out; omega) h)
          obtain ⟨cl, hcl⟩ : ∃ x, x = s.ch.getD i [] := ⟨_, rfl⟩
          have hd : s.ch.getD i default = cl := hcl.symm
          simp only [← hcl, hd] at HSn HNo HCk
          have HLk := Lib.hid HCk.out.1
          have hlm := Nat.le_trans hsk.1 hsk.2.1
          have HAS := Lib.hid (fun wx (hb : Below wr.heap.size wr wx) => allSmall_any B lk ck cl wx (HCk.out.below hb) hlm)
          clear hcl hd hck hsk hlm
          by_cases q2 : lk ≤ 2
          · have q2' : ¬ (2 : Int) < (lk : Int) := by omega
            have HQ2 := Lib.hid q2
            cases hs : smL cl with
            | true =>
              rw [hs] at HAS
              have HSx := Lib.hid (HSn.out.trans (by rw [HAl.out, show ch1B cl = true by simp [ch1B, HLk.out, HQ2.out, hs]]))
              clear hs q2
              go_wp2_with fail
              refine (HAS.out _ (Below.refl _ _)).mono ?_
              rintro e w1 ⟨rfl, hb⟩
              have HBx := Lib.hid (chain HB3.out hb)
              have Q4 := Lib.hid (Q3.out.keep hb)
              clear hb
              go_wp2_with fail
              go_roundw
              case rel => exact ⟨i + 1, by omega, by go_num, HSx, Q4, HBx⟩
              case measure => simp [intOf] <;> omega
            | false =>
              rw [hs] at HAS
              have HCf := Lib.hid (show chB s.ch = false from HNo.out (by simp [ch1B, hs]))
              have HE := Lib.hid (show (loB s.th.length s.lo && chB s.ch && smL s.su && smL s.ce) = false by rw [HCf.out]; simp)
              clear hs q2
              go_wp2_with fail
              refine (HAS.out _ (Below.refl _ _)).mono ?_
              rintro e w1 ⟨rfl, hb⟩
              have HBx := Lib.hid (chain HB3.out hb)
              clear hb
              go_wp2_with fail
              go_ret
              exact ⟨by rw [HE.out]; rfl, HBx.out⟩
          · have q2' : (2 : Int) < (lk : Int) := by omega
            have HCf := Lib.hid (show chB s.ch = false from HNo.out (by simp [ch1B, HLk.out, q2]))
            have HE := Lib.hid (show (loB s.th.length s.lo && chB s.ch && smL s.su && smL s.ce) = false by rw [HCf.out]; simp)
            clear q2
            go_wp2_with fail
            go_ret
            exact ⟨by rw [HE.out]; rfl, HB3.out⟩
        · have hlt2' : ¬ (i : Int) < (l5 : Int) := by omega
          have HCH := Lib.hid (show chB s.ch = true by
            have := HAl.out
            rwa [List.take_of_length_le (by rw [HL5.out]; have := e5.out; omega)] at this)
          obtain ⟨wt, hwt⟩ : ∃ x : World, x = wr := ⟨_, rfl⟩
          subst hwt
          have W2 := Lib.hid (allSmall_any A2 l2 c2 s.su wt (HS2.out.below HB3.out) m2)
          obtain ⟨r0, r1, r2, r3, r4, r5⟩ := Q3.out.six
          cases h2 : smL s.su with
          | false =>
            rw [h2] at W2
            have HE := Lib.hid (show (loB s.th.length s.lo && chB s.ch && smL s.su && smL s.ce) = false by rw [h2]; simp)
            clear h2
            go_wp2_with fail
            refine W2.out.mono ?_
            rintro e w1 ⟨rfl, hb⟩
            have HBx := Lib.hid (chain HB3.out hb)
            clear hb r0 r1 r2 r3 r4 r5
            go_wp2_with fail
            go_ret
            exact ⟨by rw [HE.out]; rfl, HBx.out⟩
          | true =>
            rw [h2] at W2
            have HE := Lib.hid (show (loB s.th.length s.lo && chB s.ch && smL s.su && smL s.ce) = smL s.ce by rw [h2, HLO.out, HCH.out]; simp)
            clear h2
            go_wp2_with fail
            refine W2.out.mono ?_
            rintro e w1 ⟨rfl, hb⟩
            have HBx := Lib.hid (chain HB3.out hb)
            have Q4 := Lib.hid (Q3.out.keep hb)
            clear hb r0 r1 r2 r3 r4 r5
            obtain ⟨r0, r1, r2, r3, r4, r5⟩ := Q4.out.six
            have W4 := Lib.hid (allSmall_any A4 l4 c4 s.ce w1 (HS4.out.below HBx.out) m4)
            go_wp2_with fail
            refine W4.out.mono ?_
            rintro e w2 ⟨rfl, hb⟩
            have HBy := Lib.hid (chain HBx.out hb)
            clear hb r0 r1 r2 r3 r4 r5
            go_wp2_with fail
            go_ret
            exact ⟨by rw [HE.out]; rfl, HBy.out⟩
set_option maxHeartbeats 4000000 in
theorem right20_any (v : Value) (s : Sys) (w : World) (h : SysAt w v s) : Calls Try.prog 11 #[v] w fun e w' => e = .returned (.bool (rightS s)) ∧ Below w.heap.size w w' := by
  have HSh := Lib.hid (fun w' (hb : Below w.heap.size w w') => shape_any v s w' (h.below hb))
  have HTh := Lib.hid (fun w' (hb : Below w.heap.size w w') hs => threads_any v s w' (h.below hb) hs)
  have HTg := Lib.hid (fun w' (hb : Below w.heap.size w w') hs => things_any v s w' (h.below hb) hs)
  obtain ⟨A0, l0, c0, A1, l1, c1, A2, l2, c2, A3, l3, c3, A4, l4, c4, A5, l5, c5, rfl, s0, s1, s2, s3, s4, s5, h0, h1, h2, h3, h4, h5⟩ := h
  have Q := Lib.hid (Box.new w 26 #[.slice A0 l0 c0, .slice A1 l1 c1, .slice A2 l2 c2, .slice A3 l3 c3, .slice A4 l4 c4, .slice A5 l5 c5])
  have HB := Lib.hid ((Below.refl w.heap.size w).alloc (Nat.le_refl _) (.cells #[.slice A0 l0 c0, .slice A1 l1 c1, .slice A2 l2 c2, .slice A3 l3 c3, .slice A4 l4 c4, .slice A5 l5 c5] 26))
  clear h0 h1 h2 h3 h4 h5 s0 s1 s2 s3 s4 s5
  obtain ⟨r0, r1, r2, r3, r4, r5⟩ := Q.out.six
  cases hs : shapeB s with
  | false =>
    rw [hs] at HSh
    have HE := Lib.hid (show rightS s = false by simp [rightS, hs])
    clear hs HTh HTg
    go_enter Try.func11, Try.ntmps11
    go_wp2_with fail
    refine (HSh.out _ HB.out).mono ?_
    rintro e w1 ⟨rfl, hb⟩
    have HBx := Lib.hid (chain HB.out hb)
    clear hb r0 r1 r2 r3 r4 r5
    go_wp2_with fail
    go_ret
    exact ⟨by rw [HE.out]; rfl, HBx.out⟩
  | true =>
    have HS1 := Lib.hid hs
    rw [hs] at HSh
    clear hs
    cases ht : thrB s with
    | false =>
      rw [ht] at HTh
      have HE := Lib.hid (show rightS s = false by simp [rightS, ht])
      clear ht HTg
      go_enter Try.func11, Try.ntmps11
      go_wp2_with fail
      refine (HSh.out _ HB.out).mono ?_
      rintro e w1 ⟨rfl, hb⟩
      have HBx := Lib.hid (chain HB.out hb)
      have Q1 := Lib.hid (Q.out.keep hb)
      clear hb r0 r1 r2 r3 r4 r5
      obtain ⟨r0, r1, r2, r3, r4, r5⟩ := Q1.out.six
      go_wp2_with fail
      refine (HTh.out _ HBx.out HS1.out).mono ?_
      rintro e w2 ⟨rfl, hb⟩
      have HBy := Lib.hid (chain HBx.out hb)
      clear hb r0 r1 r2 r3 r4 r5
      go_wp2_with fail
      go_ret
      exact ⟨by rw [HE.out]; rfl, HBy.out⟩
    | true =>
      rw [ht] at HTh
      have HE := Lib.hid (show rightS s = (loB s.th.length s.lo && chB s.ch && smL s.su && smL s.ce) by simp [rightS, ht, HS1.out])
      clear ht
      go_enter Try.func11, Try.ntmps11
      go_wp2_with fail
      refine (HSh.out _ HB.out).mono ?_
      rintro e w1 ⟨rfl, hb⟩
      have HBx := Lib.hid (chain HB.out hb)
      have Q1 := Lib.hid (Q.out.keep hb)
      clear hb r0 r1 r2 r3 r4 r5
      obtain ⟨r0, r1, r2, r3, r4, r5⟩ := Q1.out.six
      go_wp2_with fail
      refine (HTh.out _ HBx.out HS1.out).mono ?_
      rintro e w2 ⟨rfl, hb⟩
      have HBy := Lib.hid (chain HBx.out hb)
      have Q2 := Lib.hid (Q1.out.keep hb)
      clear hb r0 r1 r2 r3 r4 r5
      obtain ⟨r0, r1, r2, r3, r4, r5⟩ := Q2.out.six
      go_wp2_with fail
      refine (HTg.out _ HBy.out HS1.out).mono ?_
      rintro e w3 ⟨rfl, hb⟩
      have HBz := Lib.hid (chain HBy.out hb)
      clear hb r0 r1 r2 r3 r4 r5
      go_wp2_with fail
      go_ret
      exact ⟨by rw [HE.out]; rfl, HBz.out⟩
end Go.Proofs.Ytcamoigcfiemhaa
