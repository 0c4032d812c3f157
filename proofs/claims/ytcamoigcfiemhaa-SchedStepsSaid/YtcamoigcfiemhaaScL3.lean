/- Layer 20: SchedSteps. -/
import Derived.Test.YtcamoigcfiemhaaScL1
namespace Go.Proofs.Ytcamoigcfiemhaa
set_option linter.unusedVariables false
set_option linter.unusedSimpArgs false
open Go.RowKit Go.Lib
set_option maxRecDepth 100000
set_option maxHeartbeats 16000000 in
theorem steps20_any (va : Value) (sa : Sys) (t : Int) (ht1 : -9223372036854775808 ≤ t) (ht2 : t ≤ 9223372036854775807) (W : World) (ha : SysAt W va sa) : Calls Try.prog 4 #[va, .int .i64 t] W fun e w' => e = .returned (.bool true) ∧ Below W.heap.size W w' := by
  have HSa := Lib.hid ha
  obtain ⟨A0, l0, c0, A1, l1, c1, A2, l2, c2, A3, l3, c3, A4, l4, c4, A5, l5, c5, rfl, har⟩ := ha
  clear har
  have HB2 := Lib.hid (show Below W.heap.size W (W.alloc (.cells #[.slice A0 l0 c0, .slice A1 l1 c1, .slice A2 l2 c2, .slice A3 l3 c3, .slice A4 l4 c4, .slice A5 l5 c5] 26)) from (Below.refl W.heap.size W).alloc (Nat.le_refl _) _)
  have QA2 := Lib.hid (Box.new W 26 #[.slice A0 l0 c0, .slice A1 l1 c1, .slice A2 l2 c2, .slice A3 l3 c3, .slice A4 l4 c4, .slice A5 l5 c5])
  obtain ⟨r0, r1, r2, r3, r4, r5⟩ := QA2.out.six
  go_enter Try.func4, Try.ntmps4
  go_wp2_with fail
  refine (few20_any _ sa W _ HSa.out HB2.out).mono ?_
  rintro e w3 ⟨va', rfl, hfa, hb⟩
  have FA3 := Lib.hid hfa
  have HB3 := Lib.hid (chain HB2.out hb)
  have QA3 := Lib.hid (QA2.out.keep hb)
  have HG3 : W.heap.size < (W.alloc (.cells #[.slice A0 l0 c0, .slice A1 l1 c1, .slice A2 l2 c2, .slice A3 l3 c3, .slice A4 l4 c4, .slice A5 l5 c5] 26)).heap.size := QA2.out.lt
  clear hfa hb r0 r1 r2 r3 r4 r5
  obtain ⟨r0, r1, r2, r3, r4, r5⟩ := QA3.out.six
  obtain ⟨E0, k0, f0, E1, k1, f1, E2, k2, f2, E3, k3, f3, E4, k4, f4, E5, k5, f5, hva, -, -, -, hk0, -, -⟩ := id FA3.out
  subst hva
  have HK0 := Lib.hid hk0
  clear hk0
  have u0 := QA3.out.free 0
  have u1 := QA3.out.free 1
  have u2 := QA3.out.free 2
  have u3 := QA3.out.free 3
  have u4 := QA3.out.free 4
  have u5 := QA3.out.free 5
  go_upto_region 2 with (fail)
  clear r0 r1 r2 r3 r4 r5 u0 u1 u2 u3 u4 u5
  have hg1 := set6_grown w3 (W.heap.size) (.slice E0 k0 f0) (.slice E1 k1 f1) (.slice E2 k2 f2) (.slice E3 k3 f3) (.slice E4 k4 f4) (.slice E5 k5 f5)
  obtain ⟨w6, hw6⟩ : ∃ x, x = (set6L w3 (W.heap.size) (.slice E0 k0 f0) (.slice E1 k1 f1) (.slice E2 k2 f2) (.slice E3 k3 f3) (.slice E4 k4 f4) (.slice E5 k5 f5)) := ⟨_, rfl⟩
  have HB6 := Lib.hid (show Below W.heap.size W w6 by rw [hw6]; exact ((((((HB3.out.setCell (p := ⟨W.heap.size, 0, none⟩) (Nat.le_refl _) (.slice E0 k0 f0)).setCell (p := ⟨W.heap.size, 1, none⟩) (Nat.le_refl _) (.slice E1 k1 f1)).setCell (p := ⟨W.heap.size, 2, none⟩) (Nat.le_refl _) (.slice E2 k2 f2)).setCell (p := ⟨W.heap.size, 3, none⟩) (Nat.le_refl _) (.slice E3 k3 f3)).setCell (p := ⟨W.heap.size, 4, none⟩) (Nat.le_refl _) (.slice E4 k4 f4)).setCell (p := ⟨W.heap.size, 5, none⟩) (Nat.le_refl _) (.slice E5 k5 f5)))
  have QA6 := Lib.hid (show Box w6 (W.heap.size) 26 #[.slice E0 k0 f0, .slice E1 k1 f1, .slice E2 k2 f2, .slice E3 k3 f3, .slice E4 k4 f4, .slice E5 k5 f5] by rw [hw6]; exact ((((((QA3.out.put 0 (.slice E0 k0 f0)).put 1 (.slice E1 k1 f1)).put 2 (.slice E2 k2 f2)).put 3 (.slice E3 k3 f3)).put 4 (.slice E4 k4 f4)).put 5 (.slice E5 k5 f5)))
  rw [← hw6] at hg1
  have FA6 := Lib.hid (FA3.out.grown hg1 HG3)
  simp only [set6L] at hw6
  rw [← hw6]
  clear hw6 hg1 QA3 FA3 HB3 QA2 HB2 HG3
  have HS6 := Lib.hid (FA6.out.sys HB6.out)
  have HSx := Lib.hid (fun wx (hb : Below w6.heap.size w6 wx) => HS6.out.below hb)
  obtain ⟨r0, r1, r2, r3, r4, r5⟩ := QA6.out.six
  go_wp2_with fail
  refine (enabledE_any (.agg #[.slice E0 k0 f0, .slice E1 k1 f1, .slice E2 k2 f2, .slice E3 k3 f3, .slice E4 k4 f4, .slice E5 k5 f5]) (fewS sa) w6 HS6.out).mono ?_
  rintro e w7 ⟨B, d, rfl, hi, hk, hb⟩
  have QAc := Lib.hid (QA6.out.keep hb)
  have I7c := Lib.hid hi
  have HBc := Lib.hid hb
  clear hi hk hb r0 r1 r2 r3 r4 r5 QA6
  obtain ⟨r0, r1, r2, r3, r4, r5⟩ := QAc.out.six
  go_wp2_with fail
  refine (step_any (.agg #[.slice E0 k0 f0, .slice E1 k1 f1, .slice E2 k2 f2, .slice E3 k3 f3, .slice E4 k4 f4, .slice E5 k5 f5]) (fewS sa) _ (HSx.out _ HBc.out) t ht1 ht2).mono ?_
  rintro e w8 ⟨v8, rfl, hs8, hb⟩
  obtain ⟨G0, u0, x0, G1, u1, x1, G2, u2, x2, G3, u3, x3, G4, u4, x4, G5, u5, x5, rfl, h8r⟩ := id hs8
  have ab : Below w8.heap.size w8 (w8.alloc (.cells #[.slice G0 u0 x0, .slice G1 u1 x1, .slice G2 u2 x2, .slice G3 u3 x3, .slice G4 u4 x4, .slice G5 u5 x5] 26)) := (Below.refl _ _).alloc (Nat.le_refl _) _
  replace QAc := Lib.hid ((QAc.out.keep hb).keep ab)
  replace I7c := Lib.hid ((I7c.out.below hb).below ab)
  have S8c := Lib.hid (hs8.below ab)
  have QGc := Lib.hid (Box.new w8 26 #[.slice G0 u0 x0, .slice G1 u1 x1, .slice G2 u2 x2, .slice G3 u3 x3, .slice G4 u4 x4, .slice G5 u5 x5])
  replace HBc := Lib.hid (chain (chain HBc.out hb) ab)
  clear hb ab hs8 h8r r0 r1 r2 r3 r4 r5
  go_upto_region 4 with (fail)
  obtain ⟨w9, hw9⟩ : ∃ x, x = w8.alloc (.cells #[.slice G0 u0 x0, .slice G1 u1 x1, .slice G2 u2 x2, .slice G3 u3 x3, .slice G4 u4 x4, .slice G5 u5 x5] 26) := ⟨_, rfl⟩
  rw [← hw9] at QAc S8c I7c QGc HBc ⊢
  clear hw9
  obtain ⟨r0, r1, r2, r3, r4, r5⟩ := QAc.out.six
  go_wp2_with fail
  refine (done_any (.agg #[.slice E0 k0 f0, .slice E1 k1 f1, .slice E2 k2 f2, .slice E3 k3 f3, .slice E4 k4 f4, .slice E5 k5 f5]) (fewS sa) _ (HSx.out _ HBc.out)).mono ?_
  rintro e wa ⟨rfl, hb⟩
  replace HBc := Lib.hid (chain HBc.out hb)
  replace QAc := Lib.hid (QAc.out.keep hb)
  replace I7c := Lib.hid (I7c.out.below hb)
  replace S8c := Lib.hid (S8c.out.below hb)
  replace QGc := Lib.hid (QGc.out.keep hb)
  clear hb r0 r1 r2 r3 r4 r5
  obtain ⟨r0, r1, r2, r3, r4, r5⟩ := QAc.out.six
  go_wp2_with fail
  refine (refRight20_any (.agg #[.slice E0 k0 f0, .slice E1 k1 f1, .slice E2 k2 f2, .slice E3 k3 f3, .slice E4 k4 f4, .slice E5 k5 f5]) (fewS sa) _ (HSx.out _ HBc.out)).mono ?_
  rintro e wb ⟨rfl, hb⟩
  replace HBc := Lib.hid (chain HBc.out hb)
  replace QAc := Lib.hid (QAc.out.keep hb)
  replace I7c := Lib.hid (I7c.out.below hb)
  replace S8c := Lib.hid (S8c.out.below hb)
  replace QGc := Lib.hid (QGc.out.keep hb)
  clear hb r0 r1 r2 r3 r4 r5
  cases hr : rightS (fewS sa) with
  | false =>
    have hE1 : enbRes (fewS sa) = (1, []) := by unfold enbRes; rw [hr]; rfl
    have hE2 : stepRes (fewS sa) t = (1, sys0) := by unfold stepRes; rw [hr]; rfl
    have hE3 : doneRes (fewS sa) = (false, 1) := by unfold doneRes; rw [hr]; rfl
    rw [hE1] at I7c ⊢
    rw [hE2] at S8c ⊢
    rw [hE3]
    clear hr hE1 hE2 hE3
    go_wp2_with fail
    refine (alive20_any _).mono ?_
    rintro e wc ⟨rfl, hb⟩
    replace HBc := Lib.hid (chain HBc.out hb)
    replace QAc := Lib.hid (QAc.out.keep hb)
    replace I7c := Lib.hid (I7c.out.below hb)
    replace S8c := Lib.hid (S8c.out.below hb)
    replace QGc := Lib.hid (QGc.out.keep hb)
    clear hb
    have HSm := Lib.hid (refSame_any _ sys0 zeroV sys0 _ S8c.out (zeroV_at _) zero_small zero_small)
    rw [same_self] at HSm
    obtain ⟨q0, q1, q2, q3, q4, q5⟩ := QGc.out.six
    go_wp2_with fail
    refine HSm.out.mono ?_
    rintro e wz ⟨rfl, hb⟩
    have HF := Lib.hid (HB6.out.trans ((chain HBc.out hb).mono HB6.out.size))
    clear hb
    go_wp2_with fail
    go_ret
    exact ⟨rfl, HF.out⟩
  | true =>
    have HW := WR.of hr
    have hE1 : enbRes (fewS sa) = (0, enL (fewS sa) (fewS sa).th.length) := by unfold enbRes; rw [if_pos hr]
    have hE3 : doneRes (fewS sa) = (doneB (fewS sa), 0) := by unfold doneRes; rw [if_pos hr]
    rw [hE1] at I7c ⊢
    rw [hE3]
    have HEn := Lib.hid (fun wx (hb : Below w6.heap.size w6 wx) => refEnabled_any (.agg #[.slice E0 k0 f0, .slice E1 k1 f1, .slice E2 k2 f2, .slice E3 k3 f3, .slice E4 k4 f4, .slice E5 k5 f5]) (fewS sa) wx (HSx.out wx hb) 0 HW)
    have HDn := Lib.hid (fun wx (hb : Below w6.heap.size w6 wx) => refDone_any (.agg #[.slice E0 k0 f0, .slice E1 k1 f1, .slice E2 k2 f2, .slice E3 k3 f3, .slice E4 k4 f4, .slice E5 k5 f5]) (fewS sa) wx (HSx.out wx hb) 0 HW)
    have H64 := Lib.hid (enL_in64 (fewS sa) (fewS sa).th.length (by have := HW.n8; omega))
    have hel := enL_len (fewS sa) (fewS sa).th.length
    have h8 := HW.n8
    have HWh := Lib.hid HW
    have HRt := Lib.hid hr
    have HSR := Lib.hid (show ∀ x, stepRes (fewS sa) t = x → SysAt wb (.agg #[.slice G0 u0 x0, .slice G1 u1 x1, .slice G2 u2 x2, .slice G3 u3 x3, .slice G4 u4 x4, .slice G5 u5 x5]) x.2 from fun x hx => by rw [← hx]; exact S8c.out)
    obtain ⟨zs, hzs⟩ : ∃ zs, zs = enL (fewS sa) (fewS sa).th.length := ⟨_, rfl⟩
    rw [← hzs] at I7c HEn H64 hel ⊢
    have I7c : Hid (Ints wb B zs.length zs) := I7c
    have hzl : zs.length ≤ 8 := by omega
    obtain ⟨bD, hbD⟩ : ∃ b, b = doneB (fewS sa) := ⟨_, rfl⟩
    rw [← hbD] at HDn ⊢
    have tD : (bD != bD) = false := by cases bD <;> rfl
    clear hr hE1 hE3 HW hzs hel h8 hbD
    dsimp only
    obtain ⟨r0, r1, r2, r3, r4, r5⟩ := QAc.out.six
    go_wp2_with fail
    refine (HEn.out _ HBc.out).mono ?_
    rintro e wc ⟨D, dd, rfl, hoD, hb⟩
    have ID := Lib.hid (OwnI.ints hoD H64.out)
    replace HBc := Lib.hid (chain HBc.out hb)
    replace QAc := Lib.hid (QAc.out.keep hb)
    replace I7c := Lib.hid (I7c.out.below hb)
    replace S8c := Lib.hid (S8c.out.below hb)
    replace QGc := Lib.hid (QGc.out.keep hb)
    clear hb hoD r0 r1 r2 r3 r4 r5
    have HNm := Lib.hid (refNumbers_any B D zs.length d zs.length dd zs zs wc I7c.out ID.out (by omega) (by omega))
    rw [show sameZ zs zs = true from decide_eq_true rfl] at HNm
    go_wp2_with fail
    refine HNm.out.mono ?_
    rintro e wd ⟨rfl, hb⟩
    replace HBc := Lib.hid (chain HBc.out hb)
    replace QAc := Lib.hid (QAc.out.keep hb)
    replace I7c := Lib.hid (I7c.out.below hb)
    replace S8c := Lib.hid (S8c.out.below hb)
    replace QGc := Lib.hid (QGc.out.keep hb)
    clear hb
    obtain ⟨r0, r1, r2, r3, r4, r5⟩ := QAc.out.six
    go_wp2_with fail
    refine (HDn.out _ HBc.out).mono ?_
    rintro e we ⟨rfl, hb⟩
    replace HBc := Lib.hid (chain HBc.out hb)
    replace QAc := Lib.hid (QAc.out.keep hb)
    replace I7c := Lib.hid (I7c.out.below hb)
    replace S8c := Lib.hid (S8c.out.below hb)
    replace QGc := Lib.hid (QGc.out.keep hb)
    clear hb r0 r1 r2 r3 r4 r5
    go_wp2_with fail
    refine (alive20_any _).mono ?_
    rintro e wf ⟨rfl, hb⟩
    replace HBc := Lib.hid (chain HBc.out hb)
    replace QAc := Lib.hid (QAc.out.keep hb)
    replace I7c := Lib.hid (I7c.out.below hb)
    replace S8c := Lib.hid (S8c.out.below hb)
    replace QGc := Lib.hid (QGc.out.keep hb)
    clear hb
    obtain ⟨r0, r1, r2, r3, r4, r5⟩ := QAc.out.six
    by_cases q0 : t < 0
    · have hE : stepRes (fewS sa) t = (3, sys0) := by unfold stepRes; rw [if_pos HRt.out, if_neg (by omega)]
      rw [hE] at S8c ⊢
      clear hE
      have HSm := Lib.hid (refSame_any _ sys0 zeroV sys0 _ S8c.out (zeroV_at _) zero_small zero_small)
      rw [same_self] at HSm
      obtain ⟨q0, q1, q2, q3, q4, q5⟩ := QGc.out.six
      go_wp2_with fail
      refine HSm.out.mono ?_
      rintro e wz ⟨rfl, hb⟩
      have HF := Lib.hid (HB6.out.trans ((chain HBc.out hb).mono HB6.out.size))
      clear hb
      go_wp2_with fail
      go_ret
      exact ⟨rfl, HF.out⟩
    · by_cases q1 : t < (k0 : Int)
      · obtain ⟨tn, rfl⟩ := Nat.of_int (show 0 ≤ t by omega)
        have htn : tn < (fewS sa).th.length := by rw [HK0.out]; omega
        have q2 : ¬ (k0 : Int) ≤ (tn : Int) := by omega
        have htl : (0 : Int) ≤ (tn : Int) ∧ (tn : Int) < ((fewS sa).th.length : Int) := by omega
        have HCn := Lib.hid (fun wx (hb : Below w6.heap.size w6 wx) => refCan_any (.agg #[.slice E0 k0 f0, .slice E1 k1 f1, .slice E2 k2 f2, .slice E3 k3 f3, .slice E4 k4 f4, .slice E5 k5 f5]) (fewS sa) wx (HSx.out wx hb) 0 HWh.out tn htn)
        have HStp := Lib.hid (fun wx (hb : Below w6.heap.size w6 wx) hc => refStep_any (.agg #[.slice E0 k0 f0, .slice E1 k1 f1, .slice E2 k2 f2, .slice E3 k3 f3, .slice E4 k4 f4, .slice E5 k5 f5]) (fewS sa) wx (HSx.out wx hb) 0 HWh.out (by decide) tn htn hc)
        cases hc : canS (fewS sa) tn with
        | false =>
          have hE : stepRes (fewS sa) (tn : Int) = (11, sys0) := by unfold stepRes; rw [if_pos HRt.out, if_pos htl, Int.toNat_natCast, hc]; rfl
          rw [hE] at S8c ⊢
          rw [hc] at HCn
          clear hE hc htl htn q0
          go_wp2_with fail
          refine (HCn.out _ HBc.out).mono ?_
          rintro e wg ⟨rfl, hb⟩
          replace HBc := Lib.hid (chain HBc.out hb)
          replace QAc := Lib.hid (QAc.out.keep hb)
          replace I7c := Lib.hid (I7c.out.below hb)
          replace S8c := Lib.hid (S8c.out.below hb)
          replace QGc := Lib.hid (QGc.out.keep hb)
          clear hb r0 r1 r2 r3 r4 r5
          have HSm := Lib.hid (refSame_any _ sys0 zeroV sys0 _ S8c.out (zeroV_at _) zero_small zero_small)
          rw [same_self] at HSm
          obtain ⟨q0, q1, q2, q3, q4, q5⟩ := QGc.out.six
          go_wp2_with fail
          refine HSm.out.mono ?_
          rintro e wz ⟨rfl, hb⟩
          have HF := Lib.hid (HB6.out.trans ((chain HBc.out hb).mono HB6.out.size))
          clear hb
          go_wp2_with fail
          go_ret
          exact ⟨rfl, HF.out⟩
        | true =>
          have hE : stepRes (fewS sa) (tn : Int) = (0, stepS (fewS sa) tn) := by unfold stepRes; rw [if_pos HRt.out, if_pos htl, Int.toNat_natCast, if_pos hc]
          rw [hE] at S8c ⊢
          rw [hc] at HCn
          have HSt := Lib.hid (fun wx hb => HStp.out wx hb hc)
          have HSm1 := Lib.hid (small_of (WR.step HWh.out htn hc))
          clear hE hc htl htn q0 HStp
          go_wp2_with fail
          refine (HCn.out _ HBc.out).mono ?_
          rintro e wg ⟨rfl, hb⟩
          replace HBc := Lib.hid (chain HBc.out hb)
          replace QAc := Lib.hid (QAc.out.keep hb)
          replace I7c := Lib.hid (I7c.out.below hb)
          replace S8c := Lib.hid (S8c.out.below hb)
          replace QGc := Lib.hid (QGc.out.keep hb)
          clear hb r0 r1 r2 r3 r4 r5
          obtain ⟨r0, r1, r2, r3, r4, r5⟩ := QAc.out.six
          obtain ⟨q0, q1, q2, q3, q4, q5⟩ := QGc.out.six
          go_upto_region 13 with (fail)
          refine wp_held_tail (S := (fun (w' : World) => w'.cell? ⟨W.heap.size, 0, none⟩ = some (.slice E0 k0 f0) ∧ w'.cell? ⟨W.heap.size, 1, none⟩ = some (.slice E1 k1 f1) ∧ w'.cell? ⟨W.heap.size, 2, none⟩ = some (.slice E2 k2 f2) ∧ w'.cell? ⟨W.heap.size, 3, none⟩ = some (.slice E3 k3 f3) ∧ w'.cell? ⟨W.heap.size, 4, none⟩ = some (.slice E4 k4 f4) ∧ w'.cell? ⟨W.heap.size, 5, none⟩ = some (.slice E5 k5 f5) ∧ w'.cell? ⟨w8.heap.size, 0, none⟩ = some (.slice G0 u0 x0) ∧ w'.cell? ⟨w8.heap.size, 1, none⟩ = some (.slice G1 u1 x1) ∧ w'.cell? ⟨w8.heap.size, 2, none⟩ = some (.slice G2 u2 x2) ∧ w'.cell? ⟨w8.heap.size, 3, none⟩ = some (.slice G3 u3 x3) ∧ w'.cell? ⟨w8.heap.size, 4, none⟩ = some (.slice G4 u4 x4) ∧ w'.cell? ⟨w8.heap.size, 5, none⟩ = some (.slice G5 u5 x5))) 8 (by kernel_rfl) (by decide) ?_
          have hS := Lib.hid (show (fun (w' : World) => w'.cell? ⟨W.heap.size, 0, none⟩ = some (.slice E0 k0 f0) ∧ w'.cell? ⟨W.heap.size, 1, none⟩ = some (.slice E1 k1 f1) ∧ w'.cell? ⟨W.heap.size, 2, none⟩ = some (.slice E2 k2 f2) ∧ w'.cell? ⟨W.heap.size, 3, none⟩ = some (.slice E3 k3 f3) ∧ w'.cell? ⟨W.heap.size, 4, none⟩ = some (.slice E4 k4 f4) ∧ w'.cell? ⟨W.heap.size, 5, none⟩ = some (.slice E5 k5 f5) ∧ w'.cell? ⟨w8.heap.size, 0, none⟩ = some (.slice G0 u0 x0) ∧ w'.cell? ⟨w8.heap.size, 1, none⟩ = some (.slice G1 u1 x1) ∧ w'.cell? ⟨w8.heap.size, 2, none⟩ = some (.slice G2 u2 x2) ∧ w'.cell? ⟨w8.heap.size, 3, none⟩ = some (.slice G3 u3 x3) ∧ w'.cell? ⟨w8.heap.size, 4, none⟩ = some (.slice G4 u4 x4) ∧ w'.cell? ⟨w8.heap.size, 5, none⟩ = some (.slice G5 u5 x5)) wg.drew from ⟨r0, r1, r2, r3, r4, r5, q0, q1, q2, q3, q4, q5⟩)
          replace hS := hS.out
          refine headH_take (i := 0) (v := ?_) rfl (by kernel_rfl) (fun _ _ _ h => h) (fun _ _ _ h => seqB_ready h.1) (Or.inl ⟨by rfl, ?hy1⟩) hS ?rest1
          case hy1 => intro w hSw; (try dsimp only at hSw); obtain ⟨hc0, hc1, hc2, hc3, hc4, hc5, hc6, hc7, hc8, hc9, hc10, hc11⟩ := hSw; go_simp; try (with_reducible rfl)
          case rest1 =>
          try simp only [Act.put, List.setIfInBounds_toArray, List.set_cons_zero, List.set_cons_succ]
          refine headH_take (i := 1) (v := ?_) rfl (by kernel_rfl) (fun _ _ _ h => h) (fun _ _ _ h => seqB_ready h.1) (Or.inl ⟨by rfl, ?hy2⟩) hS ?rest2
          case hy2 => intro w hSw; (try dsimp only at hSw); obtain ⟨hc0, hc1, hc2, hc3, hc4, hc5, hc6, hc7, hc8, hc9, hc10, hc11⟩ := hSw; go_simp; try (with_reducible rfl)
          case rest2 =>
          try simp only [Act.put, List.setIfInBounds_toArray, List.set_cons_zero, List.set_cons_succ]
          refine headH_take (i := 2) (v := ?_) rfl (by kernel_rfl) (fun _ _ _ h => h) (fun _ _ _ h => seqB_ready h.1) (Or.inl ⟨by rfl, ?hy3⟩) hS ?rest3
          case hy3 => intro w hSw; (try dsimp only at hSw); obtain ⟨hc0, hc1, hc2, hc3, hc4, hc5, hc6, hc7, hc8, hc9, hc10, hc11⟩ := hSw; go_simp; try (with_reducible rfl)
          case rest3 =>
          try simp only [Act.put, List.setIfInBounds_toArray, List.set_cons_zero, List.set_cons_succ]
          refine headH_take (i := 3) (v := ?_) rfl (by kernel_rfl) (fun _ _ _ h => h) (fun _ _ _ h => seqB_ready h.1) (Or.inl ⟨by rfl, ?hy4⟩) hS ?rest4
          case hy4 => intro w hSw; (try dsimp only at hSw); obtain ⟨hc0, hc1, hc2, hc3, hc4, hc5, hc6, hc7, hc8, hc9, hc10, hc11⟩ := hSw; go_simp; try (with_reducible rfl)
          case rest4 =>
          try simp only [Act.put, List.setIfInBounds_toArray, List.set_cons_zero, List.set_cons_succ]
          refine headH_take (i := 4) (v := ?_) rfl (by kernel_rfl) (fun _ _ _ h => h) (fun _ _ _ h => seqB_ready h.1) (Or.inl ⟨by rfl, ?hy5⟩) hS ?rest5
          case hy5 => intro w hSw; (try dsimp only at hSw); obtain ⟨hc0, hc1, hc2, hc3, hc4, hc5, hc6, hc7, hc8, hc9, hc10, hc11⟩ := hSw; go_simp; try (with_reducible rfl)
          case rest5 =>
          try simp only [Act.put, List.setIfInBounds_toArray, List.set_cons_zero, List.set_cons_succ]
          refine headH_take (i := 5) (v := ?_) rfl (by kernel_rfl) (fun _ _ _ h => h) (fun _ _ _ h => seqB_ready h.1) (Or.inl ⟨by rfl, ?hy6⟩) hS ?rest6
          case hy6 => intro w hSw; (try dsimp only at hSw); obtain ⟨hc0, hc1, hc2, hc3, hc4, hc5, hc6, hc7, hc8, hc9, hc10, hc11⟩ := hSw; go_simp; try (with_reducible rfl)
          case rest6 =>
          try simp only [Act.put, List.setIfInBounds_toArray, List.set_cons_zero, List.set_cons_succ]
          refine headH_one (i := 6) (by kernel_rfl) rfl (fun K hK => ?_)
          go_simp
          refine (HSt.out _ HBc.out.drew).mono ?_
          rintro e wh ⟨v9, rfl, hs9, hb0⟩
          have hb : Below wg.heap.size wg wh := (Below.refl _ _).drew.trans (hb0.mono (Nat.le_refl _))
          replace HBc := Lib.hid (chain HBc.out hb)
          replace QAc := Lib.hid (QAc.out.keep hb)
          replace I7c := Lib.hid (I7c.out.below hb)
          replace S8c := Lib.hid (S8c.out.below hb)
          replace QGc := Lib.hid (QGc.out.keep hb)
          have S9 := Lib.hid hs9
          clear hs9 hb0
          clear hb r0 r1 r2 r3 r4 r5 q0 q1 q2 q3 q4 q5
          obtain ⟨r0, r1, r2, r3, r4, r5⟩ := QAc.out.six
          obtain ⟨q0, q1, q2, q3, q4, q5⟩ := QGc.out.six
          have HSm := Lib.hid (refSame_any _ _ _ _ wh S8c.out S9.out HSm1.out HSm1.out)
          rw [same_self] at HSm
          refine hK.out _ _ (show (fun (w' : World) => w'.cell? ⟨W.heap.size, 0, none⟩ = some (.slice E0 k0 f0) ∧ w'.cell? ⟨W.heap.size, 1, none⟩ = some (.slice E1 k1 f1) ∧ w'.cell? ⟨W.heap.size, 2, none⟩ = some (.slice E2 k2 f2) ∧ w'.cell? ⟨W.heap.size, 3, none⟩ = some (.slice E3 k3 f3) ∧ w'.cell? ⟨W.heap.size, 4, none⟩ = some (.slice E4 k4 f4) ∧ w'.cell? ⟨W.heap.size, 5, none⟩ = some (.slice E5 k5 f5) ∧ w'.cell? ⟨w8.heap.size, 0, none⟩ = some (.slice G0 u0 x0) ∧ w'.cell? ⟨w8.heap.size, 1, none⟩ = some (.slice G1 u1 x1) ∧ w'.cell? ⟨w8.heap.size, 2, none⟩ = some (.slice G2 u2 x2) ∧ w'.cell? ⟨w8.heap.size, 3, none⟩ = some (.slice G3 u3 x3) ∧ w'.cell? ⟨w8.heap.size, 4, none⟩ = some (.slice G4 u4 x4) ∧ w'.cell? ⟨w8.heap.size, 5, none⟩ = some (.slice G5 u5 x5)) wh from ⟨r0, r1, r2, r3, r4, r5, q0, q1, q2, q3, q4, q5⟩) (fun hS => ?_)
          clear hK K
          refine headH_one (i := 7) (by kernel_rfl) rfl (fun K hK => ?_)
          go_simp
          refine HSm.out.mono ?_
          rintro e wi ⟨rfl, hb⟩
          replace HBc := Lib.hid (chain HBc.out hb)
          replace QAc := Lib.hid (QAc.out.keep hb)
          replace I7c := Lib.hid (I7c.out.below hb)
          replace S8c := Lib.hid (S8c.out.below hb)
          replace QGc := Lib.hid (QGc.out.keep hb)
          clear hb r0 r1 r2 r3 r4 r5 q0 q1 q2 q3 q4 q5
          obtain ⟨r0, r1, r2, r3, r4, r5⟩ := QAc.out.six
          obtain ⟨q0, q1, q2, q3, q4, q5⟩ := QGc.out.six
          refine hK.out _ _ (show (fun (w' : World) => w'.cell? ⟨W.heap.size, 0, none⟩ = some (.slice E0 k0 f0) ∧ w'.cell? ⟨W.heap.size, 1, none⟩ = some (.slice E1 k1 f1) ∧ w'.cell? ⟨W.heap.size, 2, none⟩ = some (.slice E2 k2 f2) ∧ w'.cell? ⟨W.heap.size, 3, none⟩ = some (.slice E3 k3 f3) ∧ w'.cell? ⟨W.heap.size, 4, none⟩ = some (.slice E4 k4 f4) ∧ w'.cell? ⟨W.heap.size, 5, none⟩ = some (.slice E5 k5 f5) ∧ w'.cell? ⟨w8.heap.size, 0, none⟩ = some (.slice G0 u0 x0) ∧ w'.cell? ⟨w8.heap.size, 1, none⟩ = some (.slice G1 u1 x1) ∧ w'.cell? ⟨w8.heap.size, 2, none⟩ = some (.slice G2 u2 x2) ∧ w'.cell? ⟨w8.heap.size, 3, none⟩ = some (.slice G3 u3 x3) ∧ w'.cell? ⟨w8.heap.size, 4, none⟩ = some (.slice G4 u4 x4) ∧ w'.cell? ⟨w8.heap.size, 5, none⟩ = some (.slice G5 u5 x5)) wi from ⟨r0, r1, r2, r3, r4, r5, q0, q1, q2, q3, q4, q5⟩) (fun hS => ?_)
          clear hK K
          refine ⟨by kernel_rfl, ?_⟩
          have HF := Lib.hid (HB6.out.trans (HBc.out.mono HB6.out.size))
          go_wp2_with fail
          go_ret
          exact ⟨rfl, HF.out⟩
      · have q2 : (k0 : Int) ≤ t := by omega
        have hE : stepRes (fewS sa) t = (3, sys0) := by unfold stepRes; rw [if_pos HRt.out, if_neg (by rw [HK0.out]; omega)]
        rw [hE] at S8c ⊢
        clear hE
        have HSm := Lib.hid (refSame_any _ sys0 zeroV sys0 _ S8c.out (zeroV_at _) zero_small zero_small)
        rw [same_self] at HSm
        obtain ⟨q0, q1, q2, q3, q4, q5⟩ := QGc.out.six
        go_wp2_with fail
        refine HSm.out.mono ?_
        rintro e wz ⟨rfl, hb⟩
        have HF := Lib.hid (HB6.out.trans ((chain HBc.out hb).mono HB6.out.size))
        clear hb
        go_wp2_with fail
        go_ret
        exact ⟨rfl, HF.out⟩
end Go.Proofs.Ytcamoigcfiemhaa
