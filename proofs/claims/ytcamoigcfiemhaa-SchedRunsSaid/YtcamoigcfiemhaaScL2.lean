/- Layer 20: SchedRuns. -/
import Derived.Test.YtcamoigcfiemhaaScL1
namespace Go.Proofs.Ytcamoigcfiemhaa
set_option linter.unusedVariables false
set_option linter.unusedSimpArgs false
open Go.RowKit Go.Lib
set_option maxRecDepth 100000
set_option maxHeartbeats 16000000 in
theorem runs20_some (va : Value) (sa : Sys) (ad : Addr) (l c : Nat) (ps : List Int) (hs : SliceOk (some ad) l c) (W : World) (ha : SysAt W va sa) (hp : Ints W (some ad) l ps) : Calls Try.prog 5 #[va, .slice (some ad) l c] W fun e w' => e = .returned (.bool true) ∧ Below W.heap.size W w' := by
  have HSa := Lib.hid ha
  obtain ⟨A0, l0, c0, A1, l1, c1, A2, l2, c2, A3, l3, c3, A4, l4, c4, A5, l5, c5, rfl, har⟩ := ha
  clear har
  obtain ⟨kk, hkk⟩ : ∃ k, k = min l 100 := ⟨_, rfl⟩
  have HP := Lib.hid (Ints.take hp kk (by omega))
  have hm2 : min (l : Int) 100 = (kk : Int) := by omega
  have g1 : (kk : Int) ≤ (c : Int) := by have := hs.1; omega
  have g2 : (0 : Int) ≤ (kk : Int) := by omega
  have hk100 : kk ≤ 100 := by omega
  obtain ⟨qs, hqs⟩ : ∃ qs, qs = ps.take kk := ⟨_, rfl⟩
  rw [← hqs] at HP
  clear hp hs hkk hqs
  have b2 : Below W.heap.size W (W.alloc (.cells #[.slice A0 l0 c0, .slice A1 l1 c1, .slice A2 l2 c2, .slice A3 l3 c3, .slice A4 l4 c4, .slice A5 l5 c5] 26)) := (Below.refl W.heap.size W).alloc (Nat.le_refl _) _
  have HB2 := Lib.hid b2.drew
  have QA2 := Lib.hid (Box.new W 26 #[.slice A0 l0 c0, .slice A1 l1 c1, .slice A2 l2 c2, .slice A3 l3 c3, .slice A4 l4 c4, .slice A5 l5 c5]).drew
  clear b2
  obtain ⟨r0, r1, r2, r3, r4, r5⟩ := QA2.out.six
  go_enter Try.func5, Try.ntmps5
  go_upto_region 1 with (fail)
  refine wp_heldK_bar [(7, (fun (w' : World) => w'.cell? ⟨W.heap.size, 0, none⟩ = some (.slice A0 l0 c0) ∧ w'.cell? ⟨W.heap.size, 1, none⟩ = some (.slice A1 l1 c1) ∧ w'.cell? ⟨W.heap.size, 2, none⟩ = some (.slice A2 l2 c2) ∧ w'.cell? ⟨W.heap.size, 3, none⟩ = some (.slice A3 l3 c3) ∧ w'.cell? ⟨W.heap.size, 4, none⟩ = some (.slice A4 l4 c4) ∧ w'.cell? ⟨W.heap.size, 5, none⟩ = some (.slice A5 l5 c5)))] 9 (by kernel_rfl) (by decide) ?_
  have hS0 := (show ((fun (w' : World) => w'.cell? ⟨W.heap.size, 0, none⟩ = some (.slice A0 l0 c0) ∧ w'.cell? ⟨W.heap.size, 1, none⟩ = some (.slice A1 l1 c1) ∧ w'.cell? ⟨W.heap.size, 2, none⟩ = some (.slice A2 l2 c2) ∧ w'.cell? ⟨W.heap.size, 3, none⟩ = some (.slice A3 l3 c3) ∧ w'.cell? ⟨W.heap.size, 4, none⟩ = some (.slice A4 l4 c4) ∧ w'.cell? ⟨W.heap.size, 5, none⟩ = some (.slice A5 l5 c5))) (W.alloc (.cells #[.slice A0 l0 c0, .slice A1 l1 c1, .slice A2 l2 c2, .slice A3 l3 c3, .slice A4 l4 c4, .slice A5 l5 c5] 26)).drew from ⟨r0, r1, r2, r3, r4, r5⟩)
  refine headK_take (i := 2) (v := ?_) rfl (by kernel_rfl) (fun _ _ _ h => h) (fun _ _ _ h => passed_ready h.1) (Or.inl ⟨by rfl, ?hy1⟩) ⟨fun _ => hS0, trivial⟩ ?rest1
  case hy1 => intro w _; go_simp; try (with_reducible rfl)
  case rest1 =>
  try simp only [Act.put, List.setIfInBounds_toArray, List.set_cons_zero, List.set_cons_succ]
  refine headK_take (i := 3) (v := ?_) rfl (by kernel_rfl) (fun _ _ _ h => h) (fun _ _ _ h => passed_ready h.1) (Or.inl ⟨by rfl, ?hy2⟩) ⟨fun _ => hS0, trivial⟩ ?rest2
  case hy2 => intro w _; go_simp; try (with_reducible rfl)
  case rest2 =>
  try simp only [Act.put, List.setIfInBounds_toArray, List.set_cons_zero, List.set_cons_succ]
  refine headK_take (i := 4) (v := ?_) rfl (by kernel_rfl) (fun _ _ _ h => h) (fun _ _ _ h => passed_ready h.1) (Or.inl ⟨by rfl, ?hy3⟩) ⟨fun _ => hS0, trivial⟩ ?rest3
  case hy3 => intro w _; go_simp; try (with_reducible rfl)
  case rest3 =>
  try simp only [Act.put, List.setIfInBounds_toArray, List.set_cons_zero, List.set_cons_succ]
  refine headK_take (i := 5) (v := ?_) rfl (by kernel_rfl) (fun _ _ _ h => h) (fun _ _ _ h => passed_ready h.1) (Or.inl ⟨by rfl, ?hy4⟩) ⟨fun _ => hS0, trivial⟩ ?rest4
  case hy4 => intro w _; go_simp; try (with_reducible rfl)
  case rest4 =>
  try simp only [Act.put, List.setIfInBounds_toArray, List.set_cons_zero, List.set_cons_succ]
  refine headK_take (i := 6) (v := ?_) rfl (by kernel_rfl) (fun _ _ _ h => h) (fun _ _ _ h => passed_ready h.1) (Or.inl ⟨by rfl, ?hy5⟩) ⟨fun _ => hS0, trivial⟩ ?rest5
  case hy5 => intro w _; go_simp; try (with_reducible rfl)
  case rest5 =>
  try simp only [Act.put, List.setIfInBounds_toArray, List.set_cons_zero, List.set_cons_succ]
  refine headK_load 0 7 _ rfl (i := 0) (v := ?_) rfl (by kernel_rfl) (fun _ _ _ h => h) (fun _ _ _ h => passed_ready h.1) (Or.inl ⟨by rfl, ?hy6⟩) ⟨fun _ => hS0, trivial⟩ ?rest6
  case hy6 => intro w hSw; (try dsimp only at hSw); obtain ⟨hc0, hc1, hc2, hc3, hc4, hc5⟩ := hSw; go_simp; try (with_reducible rfl)
  case rest6 =>
  try simp only [Act.put, List.setIfInBounds_toArray, List.set_cons_zero, List.set_cons_succ]
  refine headK_one (i := 1) (by kernel_rfl) rfl (fun K hK => ?_)
  go_simp
  refine (few20_any _ sa W _ HSa.out HB2.out).mono ?_
  rintro e w3 ⟨va', rfl, hfa, hb⟩
  have FA3 := Lib.hid hfa
  have HB3 := Lib.hid (chain HB2.out hb)
  have QA3 := Lib.hid (QA2.out.keep hb)
  have HG3 : W.heap.size < (W.alloc (.cells #[.slice A0 l0 c0, .slice A1 l1 c1, .slice A2 l2 c2, .slice A3 l3 c3, .slice A4 l4 c4, .slice A5 l5 c5] 26)).drew.heap.size := QA2.out.lt
  clear hfa hb r0 r1 r2 r3 r4 r5
  obtain ⟨r0, r1, r2, r3, r4, r5⟩ := QA3.out.six
  obtain ⟨E0, k0, f0, E1, k1, f1, E2, k2, f2, E3, k3, f3, E4, k4, f4, E5, k5, f5, hva, hfr⟩ := id FA3.out
  subst hva
  clear hfr
  have u0 := QA3.out.free 0
  have u1 := QA3.out.free 1
  have u2 := QA3.out.free 2
  have u3 := QA3.out.free 3
  have u4 := QA3.out.free 4
  have u5 := QA3.out.free 5
  have hS0 := (show ((fun (w' : World) => w'.cell? ⟨W.heap.size, 0, none⟩ = some (.slice A0 l0 c0) ∧ w'.cell? ⟨W.heap.size, 1, none⟩ = some (.slice A1 l1 c1) ∧ w'.cell? ⟨W.heap.size, 2, none⟩ = some (.slice A2 l2 c2) ∧ w'.cell? ⟨W.heap.size, 3, none⟩ = some (.slice A3 l3 c3) ∧ w'.cell? ⟨W.heap.size, 4, none⟩ = some (.slice A4 l4 c4) ∧ w'.cell? ⟨W.heap.size, 5, none⟩ = some (.slice A5 l5 c5))) w3 from ⟨r0, r1, r2, r3, r4, r5⟩)
  refine hK.out _ _ ⟨fun _ => hS0, trivial⟩ ?_
  clear hK K
  try simp only [Act.put, List.setIfInBounds_toArray, List.set_cons_zero, List.set_cons_succ]
  refine headK_one (i := 7) (by kernel_rfl) rfl (fun K hK => ?_)
  go_simp
  refine hK.out _ _ ⟨fun h => Bool.noConfusion (show true = false from h), trivial⟩ ?_
  clear hK K
  try simp only [Act.put, List.setIfInBounds_toArray, List.set_cons_zero, List.set_cons_succ]
  refine headK_take (i := 8) (v := ?_) rfl (by kernel_rfl) (fun _ _ _ h => h) (fun _ _ _ h => passed_ready h.1) (Or.inl ⟨by rfl, ?hy7⟩) ⟨fun h => Bool.noConfusion (show true = false from h), trivial⟩ ?rest7
  case hy7 => intro w _; go_simp; try (with_reducible rfl)
  case rest7 =>
  try simp only [Act.put, List.setIfInBounds_toArray, List.set_cons_zero, List.set_cons_succ]
  refine ⟨by kernel_rfl, ?_⟩
  refine wpAny_done (by kernel_rfl) ?_ _
  go_upto_region 2 with (fail)
  clear r0 r1 r2 r3 r4 r5 u0 u1 u2 u3 u4 u5 hS0
  have hg1 := set6_grown w3 (W.heap.size) (.slice E0 k0 f0) (.slice E1 k1 f1) (.slice E2 k2 f2) (.slice E3 k3 f3) (.slice E4 k4 f4) (.slice E5 k5 f5)
  obtain ⟨w6, hw6⟩ : ∃ x, x = (set6L w3 (W.heap.size) (.slice E0 k0 f0) (.slice E1 k1 f1) (.slice E2 k2 f2) (.slice E3 k3 f3) (.slice E4 k4 f4) (.slice E5 k5 f5)) := ⟨_, rfl⟩
  have HB6 := Lib.hid (show Below W.heap.size W w6 by rw [hw6]; exact ((((((HB3.out.setCell (p := ⟨W.heap.size, 0, none⟩) (Nat.le_refl _) (.slice E0 k0 f0)).setCell (p := ⟨W.heap.size, 1, none⟩) (Nat.le_refl _) (.slice E1 k1 f1)).setCell (p := ⟨W.heap.size, 2, none⟩) (Nat.le_refl _) (.slice E2 k2 f2)).setCell (p := ⟨W.heap.size, 3, none⟩) (Nat.le_refl _) (.slice E3 k3 f3)).setCell (p := ⟨W.heap.size, 4, none⟩) (Nat.le_refl _) (.slice E4 k4 f4)).setCell (p := ⟨W.heap.size, 5, none⟩) (Nat.le_refl _) (.slice E5 k5 f5)))
  have QA6 := Lib.hid (show Box w6 (W.heap.size) 26 #[.slice E0 k0 f0, .slice E1 k1 f1, .slice E2 k2 f2, .slice E3 k3 f3, .slice E4 k4 f4, .slice E5 k5 f5] by rw [hw6]; exact ((((((QA3.out.put 0 (.slice E0 k0 f0)).put 1 (.slice E1 k1 f1)).put 2 (.slice E2 k2 f2)).put 3 (.slice E3 k3 f3)).put 4 (.slice E4 k4 f4)).put 5 (.slice E5 k5 f5)))
  rw [← hw6] at hg1
  have FA6 := Lib.hid (FA3.out.grown hg1 HG3)
  simp only [set6L] at hw6
  rw [← hw6]
  clear hw6 hg1 QA3 FA3 HB3 QA2 HB2 HG3
  have HS6 := Lib.hid (FA6.out.sys HB6.out)
  have HP6 := Lib.hid (HP.out.below HB6.out)
  have HRn := Lib.hid (run_any (.agg #[.slice E0 k0 f0, .slice E1 k1 f1, .slice E2 k2 f2, .slice E3 k3 f3, .slice E4 k4 f4, .slice E5 k5 f5]) (fewS sa) w6 HS6.out (some ad) kk c qs HP6.out (by omega))
  have HRr := Lib.hid (fun wx (hb : Below w6.heap.size w6 wx) => refRight20_any (.agg #[.slice E0 k0 f0, .slice E1 k1 f1, .slice E2 k2 f2, .slice E3 k3 f3, .slice E4 k4 f4, .slice E5 k5 f5]) (fewS sa) wx (HS6.out.below hb))
  have HRR := Lib.hid (fun wx (hb : Below w6.heap.size w6 wx) (hr : rightS (fewS sa) = true) => refRun_any (.agg #[.slice E0 k0 f0, .slice E1 k1 f1, .slice E2 k2 f2, .slice E3 k3 f3, .slice E4 k4 f4, .slice E5 k5 f5]) (fewS sa) wx (HS6.out.below hb) (WR.of hr) (some ad) kk c qs (HP6.out.below hb) (by omega))
  have HQl := HP6.out.1
  obtain ⟨r0, r1, r2, r3, r4, r5⟩ := QA6.out.six
  go_wp2_with fail
  refine HRn.out.mono ?_
  rintro e w7 ⟨v7, B, d, rfl, hs7, hi7, hk7, hb⟩
  obtain ⟨G0, u0, x0, G1, u1, x1, G2, u2, x2, G3, u3, x3, G4, u4, x4, G5, u5, x5, rfl, h7r⟩ := id hs7
  have ab : Below w7.heap.size w7 (w7.alloc (.cells #[.slice G0 u0 x0, .slice G1 u1 x1, .slice G2 u2 x2, .slice G3 u3 x3, .slice G4 u4 x4, .slice G5 u5 x5] 26)) := (Below.refl _ _).alloc (Nat.le_refl _) _
  have QAc := Lib.hid ((QA6.out.keep hb).keep ab)
  have S7c := Lib.hid (hs7.below ab)
  have I7c := Lib.hid (hi7.below ab)
  have QGc := Lib.hid (Box.new w7 26 #[.slice G0 u0 x0, .slice G1 u1 x1, .slice G2 u2 x2, .slice G3 u3 x3, .slice G4 u4 x4, .slice G5 u5 x5])
  have HBc := Lib.hid (chain hb ab)
  clear hb ab hs7 hi7 hk7 h7r QA6 r0 r1 r2 r3 r4 r5
  go_upto_region 3 with (fail)
  obtain ⟨w8, hw8⟩ : ∃ x, x = w7.alloc (.cells #[.slice G0 u0 x0, .slice G1 u1 x1, .slice G2 u2 x2, .slice G3 u3 x3, .slice G4 u4 x4, .slice G5 u5 x5] 26) := ⟨_, rfl⟩
  rw [← hw8] at QAc S7c I7c QGc HBc ⊢
  clear hw8
  obtain ⟨r0, r1, r2, r3, r4, r5⟩ := QAc.out.six
  go_wp2_with fail
  refine (HRr.out _ HBc.out).mono ?_
  rintro e w9 ⟨rfl, hb⟩
  replace HBc := Lib.hid (chain HBc.out hb)
  replace QAc := Lib.hid (QAc.out.keep hb)
  replace QGc := Lib.hid (QGc.out.keep hb)
  replace S7c := Lib.hid (S7c.out.below hb)
  replace I7c := Lib.hid (I7c.out.below hb)
  clear hb r0 r1 r2 r3 r4 r5
  cases hr : rightS (fewS sa) with
  | false =>
    have hE : runRes (fewS sa) qs = (1, sys0, []) := by unfold runRes; rw [hr]; rfl
    rw [hE] at S7c I7c ⊢
    clear hr hE
    go_wp2_with fail
    refine (alive20_any _).mono ?_
    rintro e wb ⟨rfl, hb⟩
    replace HBc := Lib.hid (chain HBc.out hb)
    replace QAc := Lib.hid (QAc.out.keep hb)
    replace QGc := Lib.hid (QGc.out.keep hb)
    replace S7c := Lib.hid (S7c.out.below hb)
    replace I7c := Lib.hid (I7c.out.below hb)
    clear hb
    have HSm := Lib.hid (refSame_any _ sys0 zeroV sys0 wb S7c.out (zeroV_at wb) zero_small zero_small)
    rw [same_self] at HSm
    obtain ⟨r0, r1, r2, r3, r4, r5⟩ := QGc.out.six
    go_wp2_with fail
    refine HSm.out.mono ?_
    rintro e wz ⟨rfl, hb⟩
    have HF := Lib.hid (HB6.out.trans ((chain HBc.out hb).mono HB6.out.size))
    clear hb
    go_wp2_with fail
    go_ret
    exact ⟨rfl, HF.out⟩
  | true =>
    have HW0 := WR.of hr
    have hE : runRes (fewS sa) qs = (0, (runS (fewS sa) qs).1, (runS (fewS sa) qs).2) := by unfold runRes; rw [if_pos hr]
    rw [hE] at S7c I7c ⊢
    have HRx := Lib.hid (fun wx hb => HRR.out wx hb hr)
    have hsm := small_of (run_wr HW0 qs)
    have hwl := run_len (fewS sa) qs
    rw [HQl] at hwl
    obtain ⟨st, hst⟩ : ∃ st, st = runS (fewS sa) qs := ⟨_, rfl⟩
    rw [← hst] at S7c I7c HRx hsm hwl ⊢
    have HSm0 := Lib.hid hsm
    obtain ⟨c', ws⟩ := st
    have S7c : Hid (SysAt w9 (.agg #[.slice G0 u0 x0, .slice G1 u1 x1, .slice G2 u2 x2, .slice G3 u3 x3, .slice G4 u4 x4, .slice G5 u5 x5]) c') := S7c
    have I7c : Hid (Ints w9 B ws.length ws) := I7c
    have hwl : ws.length ≤ kk := hwl
    have HSm0 : Hid (Small c') := HSm0
    clear hr hE hst HW0 hsm HRR HRr
    dsimp only
    obtain ⟨r0, r1, r2, r3, r4, r5⟩ := QAc.out.six
    go_wp2_with fail
    refine (HRx.out _ HBc.out).mono ?_
    rintro e wn ⟨H0, y0, z0, H1, y1, z1, H2, y2, z2, H3, y3, z3, H4, y4, z4, H5, y5, z5, H6, z6, rfl, hsn, hin, hkn, hb⟩
    have ab : Below wn.heap.size wn (wn.alloc (.cells #[.slice H0 y0 z0, .slice H1 y1 z1, .slice H2 y2 z2, .slice H3 y3 z3, .slice H4 y4 z4, .slice H5 y5 z5, .slice H6 ws.length z6] 49)) := (Below.refl _ _).alloc (Nat.le_refl _) _
    have SNc := Lib.hid (hsn.below ab)
    have INc := Lib.hid (show Ints _ H6 ws.length ws from hin.below ab)
    have QNc := Lib.hid (Box.new wn 49 #[.slice H0 y0 z0, .slice H1 y1 z1, .slice H2 y2 z2, .slice H3 y3 z3, .slice H4 y4 z4, .slice H5 y5 z5, .slice H6 ws.length z6])
    replace HBc := Lib.hid (chain (chain HBc.out hb) ab)
    replace S7c := Lib.hid ((S7c.out.below hb).below ab)
    replace I7c := Lib.hid ((I7c.out.below hb).below ab)
    replace QGc := Lib.hid ((QGc.out.keep hb).keep ab)
    clear hb ab hsn hin hkn QAc r0 r1 r2 r3 r4 r5
    go_upto_region 6 with (fail)
    obtain ⟨wa, hwa⟩ : ∃ x, x = wn.alloc (.cells #[.slice H0 y0 z0, .slice H1 y1 z1, .slice H2 y2 z2, .slice H3 y3 z3, .slice H4 y4 z4, .slice H5 y5 z5, .slice H6 ws.length z6] 49) := ⟨_, rfl⟩
    rw [← hwa] at SNc INc QNc HBc S7c I7c QGc ⊢
    clear hwa
    go_wp2_with fail
    refine (alive20_any _).mono ?_
    rintro e wb ⟨rfl, hb⟩
    replace HBc := Lib.hid (chain HBc.out hb)
    replace S7c := Lib.hid (S7c.out.below hb)
    replace I7c := Lib.hid (I7c.out.below hb)
    replace SNc := Lib.hid (SNc.out.below hb)
    replace INc := Lib.hid (INc.out.below hb)
    replace QGc := Lib.hid (QGc.out.keep hb)
    replace QNc := Lib.hid (QNc.out.keep hb)
    clear hb
    have HSm := Lib.hid (refSame_any _ c' _ c' wb S7c.out SNc.out HSm0.out HSm0.out)
    rw [same_self] at HSm
    obtain ⟨r0, r1, r2, r3, r4, r5⟩ := QGc.out.six
    obtain ⟨q0, q1, q2, q3, q4, q5, q6⟩ := QNc.out.seven
    go_wp2_with fail
    refine HSm.out.mono ?_
    rintro e wz ⟨rfl, hb⟩
    replace HBc := Lib.hid (chain HBc.out hb)
    have HNm := Lib.hid (refNumbers_any B H6 ws.length d ws.length z6 ws ws wz (I7c.out.below hb) (INc.out.below hb) (by omega) (by omega))
    rw [show sameZ ws ws = true from decide_eq_true rfl] at HNm
    replace QNc := Lib.hid (QNc.out.keep hb)
    clear hb r0 r1 r2 r3 r4 r5 q0 q1 q2 q3 q4 q5 q6
    obtain ⟨q0, q1, q2, q3, q4, q5, q6⟩ := QNc.out.seven
    go_wp2_with fail
    refine HNm.out.mono ?_
    rintro e wy ⟨rfl, hb⟩
    have HF := Lib.hid (HB6.out.trans ((chain HBc.out hb).mono HB6.out.size))
    clear hb
    go_wp2_with fail
    go_ret
    exact ⟨rfl, HF.out⟩
set_option maxHeartbeats 16000000 in
theorem runs20_none (va : Value) (sa : Sys)  (ps : List Int) (W : World) (ha : SysAt W va sa) (hp : Ints W none 0 ps) : Calls Try.prog 5 #[va, .slice none 0 0] W fun e w' => e = .returned (.bool true) ∧ Below W.heap.size W w' := by
  have HSa := Lib.hid ha
  obtain ⟨A0, l0, c0, A1, l1, c1, A2, l2, c2, A3, l3, c3, A4, l4, c4, A5, l5, c5, rfl, har⟩ := ha
  clear har
  have HP := Lib.hid hp
  have hm0 : min (0 : Int) 100 = 0 := by decide
  have hk100 : 0 ≤ 100 := by omega
  obtain ⟨qs, hqs⟩ : ∃ qs, qs = ps := ⟨_, rfl⟩
  rw [← hqs] at HP
  clear hp hqs
  have b2 : Below W.heap.size W (W.alloc (.cells #[.slice A0 l0 c0, .slice A1 l1 c1, .slice A2 l2 c2, .slice A3 l3 c3, .slice A4 l4 c4, .slice A5 l5 c5] 26)) := (Below.refl W.heap.size W).alloc (Nat.le_refl _) _
  have HB2 := Lib.hid b2.drew
  have QA2 := Lib.hid (Box.new W 26 #[.slice A0 l0 c0, .slice A1 l1 c1, .slice A2 l2 c2, .slice A3 l3 c3, .slice A4 l4 c4, .slice A5 l5 c5]).drew
  clear b2
  obtain ⟨r0, r1, r2, r3, r4, r5⟩ := QA2.out.six
  go_enter Try.func5, Try.ntmps5
  go_upto_region 1 with (fail)
  refine wp_heldK_bar [(7, (fun (w' : World) => w'.cell? ⟨W.heap.size, 0, none⟩ = some (.slice A0 l0 c0) ∧ w'.cell? ⟨W.heap.size, 1, none⟩ = some (.slice A1 l1 c1) ∧ w'.cell? ⟨W.heap.size, 2, none⟩ = some (.slice A2 l2 c2) ∧ w'.cell? ⟨W.heap.size, 3, none⟩ = some (.slice A3 l3 c3) ∧ w'.cell? ⟨W.heap.size, 4, none⟩ = some (.slice A4 l4 c4) ∧ w'.cell? ⟨W.heap.size, 5, none⟩ = some (.slice A5 l5 c5)))] 9 (by kernel_rfl) (by decide) ?_
  have hS0 := (show ((fun (w' : World) => w'.cell? ⟨W.heap.size, 0, none⟩ = some (.slice A0 l0 c0) ∧ w'.cell? ⟨W.heap.size, 1, none⟩ = some (.slice A1 l1 c1) ∧ w'.cell? ⟨W.heap.size, 2, none⟩ = some (.slice A2 l2 c2) ∧ w'.cell? ⟨W.heap.size, 3, none⟩ = some (.slice A3 l3 c3) ∧ w'.cell? ⟨W.heap.size, 4, none⟩ = some (.slice A4 l4 c4) ∧ w'.cell? ⟨W.heap.size, 5, none⟩ = some (.slice A5 l5 c5))) (W.alloc (.cells #[.slice A0 l0 c0, .slice A1 l1 c1, .slice A2 l2 c2, .slice A3 l3 c3, .slice A4 l4 c4, .slice A5 l5 c5] 26)).drew from ⟨r0, r1, r2, r3, r4, r5⟩)
  refine headK_take (i := 2) (v := ?_) rfl (by kernel_rfl) (fun _ _ _ h => h) (fun _ _ _ h => passed_ready h.1) (Or.inl ⟨by rfl, ?hy8⟩) ⟨fun _ => hS0, trivial⟩ ?rest8
  case hy8 => intro w _; go_simp; try (with_reducible rfl)
  case rest8 =>
  try simp only [Act.put, List.setIfInBounds_toArray, List.set_cons_zero, List.set_cons_succ]
  refine headK_take (i := 3) (v := ?_) rfl (by kernel_rfl) (fun _ _ _ h => h) (fun _ _ _ h => passed_ready h.1) (Or.inl ⟨by rfl, ?hy9⟩) ⟨fun _ => hS0, trivial⟩ ?rest9
  case hy9 => intro w _; go_simp; try (with_reducible rfl)
  case rest9 =>
  try simp only [Act.put, List.setIfInBounds_toArray, List.set_cons_zero, List.set_cons_succ]
  refine headK_take (i := 4) (v := ?_) rfl (by kernel_rfl) (fun _ _ _ h => h) (fun _ _ _ h => passed_ready h.1) (Or.inl ⟨by rfl, ?hy10⟩) ⟨fun _ => hS0, trivial⟩ ?rest10
  case hy10 => intro w _; go_simp; try (with_reducible rfl)
  case rest10 =>
  try simp only [Act.put, List.setIfInBounds_toArray, List.set_cons_zero, List.set_cons_succ]
  refine headK_take (i := 5) (v := ?_) rfl (by kernel_rfl) (fun _ _ _ h => h) (fun _ _ _ h => passed_ready h.1) (Or.inl ⟨by rfl, ?hy11⟩) ⟨fun _ => hS0, trivial⟩ ?rest11
  case hy11 => intro w _; go_simp; try (with_reducible rfl)
  case rest11 =>
  try simp only [Act.put, List.setIfInBounds_toArray, List.set_cons_zero, List.set_cons_succ]
  refine headK_take (i := 6) (v := ?_) rfl (by kernel_rfl) (fun _ _ _ h => h) (fun _ _ _ h => passed_ready h.1) (Or.inl ⟨by rfl, ?hy12⟩) ⟨fun _ => hS0, trivial⟩ ?rest12
  case hy12 => intro w _; go_simp; try (with_reducible rfl)
  case rest12 =>
  try simp only [Act.put, List.setIfInBounds_toArray, List.set_cons_zero, List.set_cons_succ]
  refine headK_load 0 7 _ rfl (i := 0) (v := ?_) rfl (by kernel_rfl) (fun _ _ _ h => h) (fun _ _ _ h => passed_ready h.1) (Or.inl ⟨by rfl, ?hy13⟩) ⟨fun _ => hS0, trivial⟩ ?rest13
  case hy13 => intro w hSw; (try dsimp only at hSw); obtain ⟨hc0, hc1, hc2, hc3, hc4, hc5⟩ := hSw; go_simp; try (with_reducible rfl)
  case rest13 =>
  try simp only [Act.put, List.setIfInBounds_toArray, List.set_cons_zero, List.set_cons_succ]
  refine headK_one (i := 1) (by kernel_rfl) rfl (fun K hK => ?_)
  go_simp
  refine (few20_any _ sa W _ HSa.out HB2.out).mono ?_
  rintro e w3 ⟨va', rfl, hfa, hb⟩
  have FA3 := Lib.hid hfa
  have HB3 := Lib.hid (chain HB2.out hb)
  have QA3 := Lib.hid (QA2.out.keep hb)
  have HG3 : W.heap.size < (W.alloc (.cells #[.slice A0 l0 c0, .slice A1 l1 c1, .slice A2 l2 c2, .slice A3 l3 c3, .slice A4 l4 c4, .slice A5 l5 c5] 26)).drew.heap.size := QA2.out.lt
  clear hfa hb r0 r1 r2 r3 r4 r5
  obtain ⟨r0, r1, r2, r3, r4, r5⟩ := QA3.out.six
  obtain ⟨E0, k0, f0, E1, k1, f1, E2, k2, f2, E3, k3, f3, E4, k4, f4, E5, k5, f5, hva, hfr⟩ := id FA3.out
  subst hva
  clear hfr
  have u0 := QA3.out.free 0
  have u1 := QA3.out.free 1
  have u2 := QA3.out.free 2
  have u3 := QA3.out.free 3
  have u4 := QA3.out.free 4
  have u5 := QA3.out.free 5
  have hS0 := (show ((fun (w' : World) => w'.cell? ⟨W.heap.size, 0, none⟩ = some (.slice A0 l0 c0) ∧ w'.cell? ⟨W.heap.size, 1, none⟩ = some (.slice A1 l1 c1) ∧ w'.cell? ⟨W.heap.size, 2, none⟩ = some (.slice A2 l2 c2) ∧ w'.cell? ⟨W.heap.size, 3, none⟩ = some (.slice A3 l3 c3) ∧ w'.cell? ⟨W.heap.size, 4, none⟩ = some (.slice A4 l4 c4) ∧ w'.cell? ⟨W.heap.size, 5, none⟩ = some (.slice A5 l5 c5))) w3 from ⟨r0, r1, r2, r3, r4, r5⟩)
  refine hK.out _ _ ⟨fun _ => hS0, trivial⟩ ?_
  clear hK K
  try simp only [Act.put, List.setIfInBounds_toArray, List.set_cons_zero, List.set_cons_succ]
  refine headK_one (i := 7) (by kernel_rfl) rfl (fun K hK => ?_)
  go_simp
  refine hK.out _ _ ⟨fun h => Bool.noConfusion (show true = false from h), trivial⟩ ?_
  clear hK K
  try simp only [Act.put, List.setIfInBounds_toArray, List.set_cons_zero, List.set_cons_succ]
  refine headK_take (i := 8) (v := ?_) rfl (by kernel_rfl) (fun _ _ _ h => h) (fun _ _ _ h => passed_ready h.1) (Or.inl ⟨by rfl, ?hy14⟩) ⟨fun h => Bool.noConfusion (show true = false from h), trivial⟩ ?rest14
  case hy14 => intro w _; go_simp; try (with_reducible rfl)
  case rest14 =>
  try simp only [Act.put, List.setIfInBounds_toArray, List.set_cons_zero, List.set_cons_succ]
  refine ⟨by kernel_rfl, ?_⟩
  refine wpAny_done (by kernel_rfl) ?_ _
  go_upto_region 2 with (fail)
  clear r0 r1 r2 r3 r4 r5 u0 u1 u2 u3 u4 u5 hS0
  have hg1 := set6_grown w3 (W.heap.size) (.slice E0 k0 f0) (.slice E1 k1 f1) (.slice E2 k2 f2) (.slice E3 k3 f3) (.slice E4 k4 f4) (.slice E5 k5 f5)
  obtain ⟨w6, hw6⟩ : ∃ x, x = (set6L w3 (W.heap.size) (.slice E0 k0 f0) (.slice E1 k1 f1) (.slice E2 k2 f2) (.slice E3 k3 f3) (.slice E4 k4 f4) (.slice E5 k5 f5)) := ⟨_, rfl⟩
  have HB6 := Lib.hid (show Below W.heap.size W w6 by rw [hw6]; exact ((((((HB3.out.setCell (p := ⟨W.heap.size, 0, none⟩) (Nat.le_refl _) (.slice E0 k0 f0)).setCell (p := ⟨W.heap.size, 1, none⟩) (Nat.le_refl _) (.slice E1 k1 f1)).setCell (p := ⟨W.heap.size, 2, none⟩) (Nat.le_refl _) (.slice E2 k2 f2)).setCell (p := ⟨W.heap.size, 3, none⟩) (Nat.le_refl _) (.slice E3 k3 f3)).setCell (p := ⟨W.heap.size, 4, none⟩) (Nat.le_refl _) (.slice E4 k4 f4)).setCell (p := ⟨W.heap.size, 5, none⟩) (Nat.le_refl _) (.slice E5 k5 f5)))
  have QA6 := Lib.hid (show Box w6 (W.heap.size) 26 #[.slice E0 k0 f0, .slice E1 k1 f1, .slice E2 k2 f2, .slice E3 k3 f3, .slice E4 k4 f4, .slice E5 k5 f5] by rw [hw6]; exact ((((((QA3.out.put 0 (.slice E0 k0 f0)).put 1 (.slice E1 k1 f1)).put 2 (.slice E2 k2 f2)).put 3 (.slice E3 k3 f3)).put 4 (.slice E4 k4 f4)).put 5 (.slice E5 k5 f5)))
  rw [← hw6] at hg1
  have FA6 := Lib.hid (FA3.out.grown hg1 HG3)
  simp only [set6L] at hw6
  rw [← hw6]
  clear hw6 hg1 QA3 FA3 HB3 QA2 HB2 HG3
  have HS6 := Lib.hid (FA6.out.sys HB6.out)
  have HP6 := Lib.hid (HP.out.below HB6.out)
  have HRn := Lib.hid (run_any (.agg #[.slice E0 k0 f0, .slice E1 k1 f1, .slice E2 k2 f2, .slice E3 k3 f3, .slice E4 k4 f4, .slice E5 k5 f5]) (fewS sa) w6 HS6.out none 0 0 qs HP6.out (by omega))
  have HRr := Lib.hid (fun wx (hb : Below w6.heap.size w6 wx) => refRight20_any (.agg #[.slice E0 k0 f0, .slice E1 k1 f1, .slice E2 k2 f2, .slice E3 k3 f3, .slice E4 k4 f4, .slice E5 k5 f5]) (fewS sa) wx (HS6.out.below hb))
  have HRR := Lib.hid (fun wx (hb : Below w6.heap.size w6 wx) (hr : rightS (fewS sa) = true) => refRun_any (.agg #[.slice E0 k0 f0, .slice E1 k1 f1, .slice E2 k2 f2, .slice E3 k3 f3, .slice E4 k4 f4, .slice E5 k5 f5]) (fewS sa) wx (HS6.out.below hb) (WR.of hr) none 0 0 qs (HP6.out.below hb) (by omega))
  have HQl := HP6.out.1
  obtain ⟨r0, r1, r2, r3, r4, r5⟩ := QA6.out.six
  go_wp2_with fail
  refine HRn.out.mono ?_
  rintro e w7 ⟨v7, B, d, rfl, hs7, hi7, hk7, hb⟩
  obtain ⟨G0, u0, x0, G1, u1, x1, G2, u2, x2, G3, u3, x3, G4, u4, x4, G5, u5, x5, rfl, h7r⟩ := id hs7
  have ab : Below w7.heap.size w7 (w7.alloc (.cells #[.slice G0 u0 x0, .slice G1 u1 x1, .slice G2 u2 x2, .slice G3 u3 x3, .slice G4 u4 x4, .slice G5 u5 x5] 26)) := (Below.refl _ _).alloc (Nat.le_refl _) _
  have QAc := Lib.hid ((QA6.out.keep hb).keep ab)
  have S7c := Lib.hid (hs7.below ab)
  have I7c := Lib.hid (hi7.below ab)
  have QGc := Lib.hid (Box.new w7 26 #[.slice G0 u0 x0, .slice G1 u1 x1, .slice G2 u2 x2, .slice G3 u3 x3, .slice G4 u4 x4, .slice G5 u5 x5])
  have HBc := Lib.hid (chain hb ab)
  clear hb ab hs7 hi7 hk7 h7r QA6 r0 r1 r2 r3 r4 r5
  go_upto_region 3 with (fail)
  obtain ⟨w8, hw8⟩ : ∃ x, x = w7.alloc (.cells #[.slice G0 u0 x0, .slice G1 u1 x1, .slice G2 u2 x2, .slice G3 u3 x3, .slice G4 u4 x4, .slice G5 u5 x5] 26) := ⟨_, rfl⟩
  rw [← hw8] at QAc S7c I7c QGc HBc ⊢
  clear hw8
  obtain ⟨r0, r1, r2, r3, r4, r5⟩ := QAc.out.six
  go_wp2_with fail
  refine (HRr.out _ HBc.out).mono ?_
  rintro e w9 ⟨rfl, hb⟩
  replace HBc := Lib.hid (chain HBc.out hb)
  replace QAc := Lib.hid (QAc.out.keep hb)
  replace QGc := Lib.hid (QGc.out.keep hb)
  replace S7c := Lib.hid (S7c.out.below hb)
  replace I7c := Lib.hid (I7c.out.below hb)
  clear hb r0 r1 r2 r3 r4 r5
  cases hr : rightS (fewS sa) with
  | false =>
    have hE : runRes (fewS sa) qs = (1, sys0, []) := by unfold runRes; rw [hr]; rfl
    rw [hE] at S7c I7c ⊢
    clear hr hE
    go_wp2_with fail
    refine (alive20_any _).mono ?_
    rintro e wb ⟨rfl, hb⟩
    replace HBc := Lib.hid (chain HBc.out hb)
    replace QAc := Lib.hid (QAc.out.keep hb)
    replace QGc := Lib.hid (QGc.out.keep hb)
    replace S7c := Lib.hid (S7c.out.below hb)
    replace I7c := Lib.hid (I7c.out.below hb)
    clear hb
    have HSm := Lib.hid (refSame_any _ sys0 zeroV sys0 wb S7c.out (zeroV_at wb) zero_small zero_small)
    rw [same_self] at HSm
    obtain ⟨r0, r1, r2, r3, r4, r5⟩ := QGc.out.six
    go_wp2_with fail
    refine HSm.out.mono ?_
    rintro e wz ⟨rfl, hb⟩
    have HF := Lib.hid (HB6.out.trans ((chain HBc.out hb).mono HB6.out.size))
    clear hb
    go_wp2_with fail
    go_ret
    exact ⟨rfl, HF.out⟩
  | true =>
    have HW0 := WR.of hr
    have hE : runRes (fewS sa) qs = (0, (runS (fewS sa) qs).1, (runS (fewS sa) qs).2) := by unfold runRes; rw [if_pos hr]
    rw [hE] at S7c I7c ⊢
    have HRx := Lib.hid (fun wx hb => HRR.out wx hb hr)
    have hsm := small_of (run_wr HW0 qs)
    have hwl := run_len (fewS sa) qs
    rw [HQl] at hwl
    obtain ⟨st, hst⟩ : ∃ st, st = runS (fewS sa) qs := ⟨_, rfl⟩
    rw [← hst] at S7c I7c HRx hsm hwl ⊢
    have HSm0 := Lib.hid hsm
    obtain ⟨c', ws⟩ := st
    have S7c : Hid (SysAt w9 (.agg #[.slice G0 u0 x0, .slice G1 u1 x1, .slice G2 u2 x2, .slice G3 u3 x3, .slice G4 u4 x4, .slice G5 u5 x5]) c') := S7c
    have I7c : Hid (Ints w9 B ws.length ws) := I7c
    have hwl : ws.length ≤ 0 := hwl
    have HSm0 : Hid (Small c') := HSm0
    clear hr hE hst HW0 hsm HRR HRr
    dsimp only
    obtain ⟨r0, r1, r2, r3, r4, r5⟩ := QAc.out.six
    go_wp2_with fail
    refine (HRx.out _ HBc.out).mono ?_
    rintro e wn ⟨H0, y0, z0, H1, y1, z1, H2, y2, z2, H3, y3, z3, H4, y4, z4, H5, y5, z5, H6, z6, rfl, hsn, hin, hkn, hb⟩
    have ab : Below wn.heap.size wn (wn.alloc (.cells #[.slice H0 y0 z0, .slice H1 y1 z1, .slice H2 y2 z2, .slice H3 y3 z3, .slice H4 y4 z4, .slice H5 y5 z5, .slice H6 ws.length z6] 49)) := (Below.refl _ _).alloc (Nat.le_refl _) _
    have SNc := Lib.hid (hsn.below ab)
    have INc := Lib.hid (show Ints _ H6 ws.length ws from hin.below ab)
    have QNc := Lib.hid (Box.new wn 49 #[.slice H0 y0 z0, .slice H1 y1 z1, .slice H2 y2 z2, .slice H3 y3 z3, .slice H4 y4 z4, .slice H5 y5 z5, .slice H6 ws.length z6])
    replace HBc := Lib.hid (chain (chain HBc.out hb) ab)
    replace S7c := Lib.hid ((S7c.out.below hb).below ab)
    replace I7c := Lib.hid ((I7c.out.below hb).below ab)
    replace QGc := Lib.hid ((QGc.out.keep hb).keep ab)
    clear hb ab hsn hin hkn QAc r0 r1 r2 r3 r4 r5
    go_upto_region 6 with (fail)
    obtain ⟨wa, hwa⟩ : ∃ x, x = wn.alloc (.cells #[.slice H0 y0 z0, .slice H1 y1 z1, .slice H2 y2 z2, .slice H3 y3 z3, .slice H4 y4 z4, .slice H5 y5 z5, .slice H6 ws.length z6] 49) := ⟨_, rfl⟩
    rw [← hwa] at SNc INc QNc HBc S7c I7c QGc ⊢
    clear hwa
    go_wp2_with fail
    refine (alive20_any _).mono ?_
    rintro e wb ⟨rfl, hb⟩
    replace HBc := Lib.hid (chain HBc.out hb)
    replace S7c := Lib.hid (S7c.out.below hb)
    replace I7c := Lib.hid (I7c.out.below hb)
    replace SNc := Lib.hid (SNc.out.below hb)
    replace INc := Lib.hid (INc.out.below hb)
    replace QGc := Lib.hid (QGc.out.keep hb)
    replace QNc := Lib.hid (QNc.out.keep hb)
    clear hb
    have HSm := Lib.hid (refSame_any _ c' _ c' wb S7c.out SNc.out HSm0.out HSm0.out)
    rw [same_self] at HSm
    obtain ⟨r0, r1, r2, r3, r4, r5⟩ := QGc.out.six
    obtain ⟨q0, q1, q2, q3, q4, q5, q6⟩ := QNc.out.seven
    go_wp2_with fail
    refine HSm.out.mono ?_
    rintro e wz ⟨rfl, hb⟩
    replace HBc := Lib.hid (chain HBc.out hb)
    have HNm := Lib.hid (refNumbers_any B H6 ws.length d ws.length z6 ws ws wz (I7c.out.below hb) (INc.out.below hb) (by omega) (by omega))
    rw [show sameZ ws ws = true from decide_eq_true rfl] at HNm
    replace QNc := Lib.hid (QNc.out.keep hb)
    clear hb r0 r1 r2 r3 r4 r5 q0 q1 q2 q3 q4 q5 q6
    obtain ⟨q0, q1, q2, q3, q4, q5, q6⟩ := QNc.out.seven
    go_wp2_with fail
    refine HNm.out.mono ?_
    rintro e wy ⟨rfl, hb⟩
    have HF := Lib.hid (HB6.out.trans ((chain HBc.out hb).mono HB6.out.size))
    clear hb
    go_wp2_with fail
    go_ret
    exact ⟨rfl, HF.out⟩
theorem runs20_any (va : Value) (sa : Sys) (A : Option Addr) (l c : Nat) (ps : List Int) (hs : SliceOk A l c) (W : World) (ha : SysAt W va sa) (hp : Ints W A l ps) : Calls Try.prog 5 #[va, .slice A l c] W fun e w' => e = .returned (.bool true) ∧ Below W.heap.size W w' := by
  cases A with
  | none =>
    obtain ⟨rfl, rfl⟩ := hs.2.2 rfl
    exact runs20_none va sa ps W ha hp
  | some ad => exact runs20_some va sa ad l c ps hs W ha hp
end Go.Proofs.Ytcamoigcfiemhaa
