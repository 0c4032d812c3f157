/- Layer 20: SchedParts. -/
import Derived.Test.YtcamoigcfiemhaaScPb
import Derived.Test.YtcamoigcfiemhaaScMb
import Derived.Test.YtcamoigcfiemhaaKTwo
import Derived.Test.YtcamoigcfiemhaaScL4
namespace Go.Proofs.Ytcamoigcfiemhaa
set_option linter.unusedVariables false
set_option linter.unusedSimpArgs false
open Go.RowKit Go.Lib
set_option maxRecDepth 100000
set_option maxHeartbeats 16000000 in
theorem parts20_none (va : Value) (sa : Sys)  (ps : List Int) (kv : Int) (hv1 : -9223372036854775808 ≤ kv) (hv2 : kv ≤ 9223372036854775807) (W : World) (ha : SysAt W va sa) (hp : Ints W none 0 ps) : Calls Try.prog 7 #[va, .slice none 0 0, .int .i64 kv] W fun e w' => e = .returned (.bool true) ∧ Below W.heap.size W w' := by
  have HSa := Lib.hid ha
  obtain ⟨A0, l0, c0, A1, l1, c1, A2, l2, c2, A3, l3, c3, A4, l4, c4, A5, l5, c5, rfl, har⟩ := ha
  clear har
  have HP := Lib.hid hp
  have hm0 : min (0 : Int) 60 = 0 := by decide
  have hk60 : 0 ≤ 60 := by omega
  obtain ⟨qs, hqs⟩ : ∃ qs, qs = ps := ⟨_, rfl⟩
  rw [← hqs] at HP
  clear hp hqs
  have b2 : Below W.heap.size W (W.alloc (.cells #[.slice A0 l0 c0, .slice A1 l1 c1, .slice A2 l2 c2, .slice A3 l3 c3, .slice A4 l4 c4, .slice A5 l5 c5] 26)) := (Below.refl W.heap.size W).alloc (Nat.le_refl _) _
  have HB2 := Lib.hid b2.drew
  have QA2 := Lib.hid (Box.new W 26 #[.slice A0 l0 c0, .slice A1 l1 c1, .slice A2 l2 c2, .slice A3 l3 c3, .slice A4 l4 c4, .slice A5 l5 c5]).drew
  clear b2
  obtain ⟨r0, r1, r2, r3, r4, r5⟩ := QA2.out.six
  go_enter Try.func7, Try.ntmps7
  go_upto_region 1 with (fail)
  refine wp_heldK_bar [(7, (fun (w' : World) => w'.cell? ⟨W.heap.size, 0, none⟩ = some (.slice A0 l0 c0) ∧ w'.cell? ⟨W.heap.size, 1, none⟩ = some (.slice A1 l1 c1) ∧ w'.cell? ⟨W.heap.size, 2, none⟩ = some (.slice A2 l2 c2) ∧ w'.cell? ⟨W.heap.size, 3, none⟩ = some (.slice A3 l3 c3) ∧ w'.cell? ⟨W.heap.size, 4, none⟩ = some (.slice A4 l4 c4) ∧ w'.cell? ⟨W.heap.size, 5, none⟩ = some (.slice A5 l5 c5)))] 9 (by kernel_rfl) (by decide) ?_
  have hS0 := (show ((fun (w' : World) => w'.cell? ⟨W.heap.size, 0, none⟩ = some (.slice A0 l0 c0) ∧ w'.cell? ⟨W.heap.size, 1, none⟩ = some (.slice A1 l1 c1) ∧ w'.cell? ⟨W.heap.size, 2, none⟩ = some (.slice A2 l2 c2) ∧ w'.cell? ⟨W.heap.size, 3, none⟩ = some (.slice A3 l3 c3) ∧ w'.cell? ⟨W.heap.size, 4, none⟩ = some (.slice A4 l4 c4) ∧ w'.cell? ⟨W.heap.size, 5, none⟩ = some (.slice A5 l5 c5))) (W.alloc (.cells #[.slice A0 l0 c0, .slice A1 l1 c1, .slice A2 l2 c2, .slice A3 l3 c3, .slice A4 l4 c4, .slice A5 l5 c5] 26)).drew from ⟨r0, r1, r2, r3, r4, r5⟩)
  refine headK_take (i := 2) (v := ?_) rfl (by kernel_rfl) (fun _ _ _ h => h) (fun _ _ _ h => passed_ready h.1) (Or.inl ⟨by rfl, ?hy28⟩) ⟨fun _ => hS0, trivial⟩ ?rest28
  case hy28 => intro w _; go_simp; try (with_reducible rfl)
  case rest28 =>
  try simp only [Act.put, List.setIfInBounds_toArray, List.set_cons_zero, List.set_cons_succ]
  refine headK_take (i := 3) (v := ?_) rfl (by kernel_rfl) (fun _ _ _ h => h) (fun _ _ _ h => passed_ready h.1) (Or.inl ⟨by rfl, ?hy29⟩) ⟨fun _ => hS0, trivial⟩ ?rest29
  case hy29 => intro w _; go_simp; try (with_reducible rfl)
  case rest29 =>
  try simp only [Act.put, List.setIfInBounds_toArray, List.set_cons_zero, List.set_cons_succ]
  refine headK_take (i := 4) (v := ?_) rfl (by kernel_rfl) (fun _ _ _ h => h) (fun _ _ _ h => passed_ready h.1) (Or.inl ⟨by rfl, ?hy30⟩) ⟨fun _ => hS0, trivial⟩ ?rest30
  case hy30 => intro w _; go_simp; try (with_reducible rfl)
  case rest30 =>
  try simp only [Act.put, List.setIfInBounds_toArray, List.set_cons_zero, List.set_cons_succ]
  refine headK_take (i := 5) (v := ?_) rfl (by kernel_rfl) (fun _ _ _ h => h) (fun _ _ _ h => passed_ready h.1) (Or.inl ⟨by rfl, ?hy31⟩) ⟨fun _ => hS0, trivial⟩ ?rest31
  case hy31 => intro w _; go_simp; try (with_reducible rfl)
  case rest31 =>
  try simp only [Act.put, List.setIfInBounds_toArray, List.set_cons_zero, List.set_cons_succ]
  refine headK_take (i := 6) (v := ?_) rfl (by kernel_rfl) (fun _ _ _ h => h) (fun _ _ _ h => passed_ready h.1) (Or.inl ⟨by rfl, ?hy32⟩) ⟨fun _ => hS0, trivial⟩ ?rest32
  case hy32 => intro w _; go_simp; try (with_reducible rfl)
  case rest32 =>
  try simp only [Act.put, List.setIfInBounds_toArray, List.set_cons_zero, List.set_cons_succ]
  refine headK_load 0 7 _ rfl (i := 0) (v := ?_) rfl (by kernel_rfl) (fun _ _ _ h => h) (fun _ _ _ h => passed_ready h.1) (Or.inl ⟨by rfl, ?hy33⟩) ⟨fun _ => hS0, trivial⟩ ?rest33
  case hy33 => intro w hSw; (try dsimp only at hSw); obtain ⟨hc0, hc1, hc2, hc3, hc4, hc5⟩ := hSw; go_simp; try (with_reducible rfl)
  case rest33 =>
  try simp only [Act.put, List.setIfInBounds_toArray, List.set_cons_zero, List.set_cons_succ]
  refine headK_one (i := 1) (by kernel_rfl) rfl (fun K hK => ?_)
  go_simp
  refine (few20_any _ sa W _ HSa.out HB2.out).mono ?_
  rintro e w3 ⟨va', rfl, hfa, hb⟩
  have FA3 := Lib.hid hfa
  have HB3 := Lib.hid (chain HB2.out hb)
  have QA3 := Lib.hid (QA2.out.keep hb)
  have HG3 : W.heap.size < (W.alloc (.cells #[.slice A0 l0 c0, .slice A1 l1 c1, .slice A2 l2 c2, .slice A3 l3 c3, .slice A4 l4 c4, .slice A5 l5 c5] 26)).drew.heap.size := QA2.out.lt
  clear hfa hb r0 r1 r2 r3 r4 r5
  obtain ⟨r0, r1, r2, r3, r4, r5⟩ := QA3.out.six
  obtain ⟨E0, k0, f0, E1, k1, f1, E2, k2, f2, E3, k3, f3, E4, k4, f4, E5, k5, f5, hva, hfr⟩ := id FA3.out
  subst hva
  clear hfr
  have u0 := QA3.out.free 0
  have u1 := QA3.out.free 1
  have u2 := QA3.out.free 2
  have u3 := QA3.out.free 3
  have u4 := QA3.out.free 4
  have u5 := QA3.out.free 5
  have hS0 := (show ((fun (w' : World) => w'.cell? ⟨W.heap.size, 0, none⟩ = some (.slice A0 l0 c0) ∧ w'.cell? ⟨W.heap.size, 1, none⟩ = some (.slice A1 l1 c1) ∧ w'.cell? ⟨W.heap.size, 2, none⟩ = some (.slice A2 l2 c2) ∧ w'.cell? ⟨W.heap.size, 3, none⟩ = some (.slice A3 l3 c3) ∧ w'.cell? ⟨W.heap.size, 4, none⟩ = some (.slice A4 l4 c4) ∧ w'.cell? ⟨W.heap.size, 5, none⟩ = some (.slice A5 l5 c5))) w3 from ⟨r0, r1, r2, r3, r4, r5⟩)
  refine hK.out _ _ ⟨fun _ => hS0, trivial⟩ ?_
  clear hK K
  try simp only [Act.put, List.setIfInBounds_toArray, List.set_cons_zero, List.set_cons_succ]
  refine headK_one (i := 7) (by kernel_rfl) rfl (fun K hK => ?_)
  go_simp
  refine hK.out _ _ ⟨fun h => Bool.noConfusion (show true = false from h), trivial⟩ ?_
  clear hK K
  try simp only [Act.put, List.setIfInBounds_toArray, List.set_cons_zero, List.set_cons_succ]
  refine headK_take (i := 8) (v := ?_) rfl (by kernel_rfl) (fun _ _ _ h => h) (fun _ _ _ h => passed_ready h.1) (Or.inl ⟨by rfl, ?hy34⟩) ⟨fun h => Bool.noConfusion (show true = false from h), trivial⟩ ?rest34
  case hy34 => intro w _; go_simp; try (with_reducible rfl)
  case rest34 =>
  try simp only [Act.put, List.setIfInBounds_toArray, List.set_cons_zero, List.set_cons_succ]
  refine ⟨by kernel_rfl, ?_⟩
  refine wpAny_done (by kernel_rfl) ?_ _
  go_upto_region 2 with (fail)
  clear r0 r1 r2 r3 r4 r5 u0 u1 u2 u3 u4 u5 hS0
  have hg1 := set6_grown w3 (W.heap.size) (.slice E0 k0 f0) (.slice E1 k1 f1) (.slice E2 k2 f2) (.slice E3 k3 f3) (.slice E4 k4 f4) (.slice E5 k5 f5)
  obtain ⟨w6, hw6⟩ : ∃ x, x = (set6L w3 (W.heap.size) (.slice E0 k0 f0) (.slice E1 k1 f1) (.slice E2 k2 f2) (.slice E3 k3 f3) (.slice E4 k4 f4) (.slice E5 k5 f5)) := ⟨_, rfl⟩
  have HB6 := Lib.hid (show Below W.heap.size W w6 by rw [hw6]; exact ((((((HB3.out.setCell (p := ⟨W.heap.size, 0, none⟩) (Nat.le_refl _) (.slice E0 k0 f0)).setCell (p := ⟨W.heap.size, 1, none⟩) (Nat.le_refl _) (.slice E1 k1 f1)).setCell (p := ⟨W.heap.size, 2, none⟩) (Nat.le_refl _) (.slice E2 k2 f2)).setCell (p := ⟨W.heap.size, 3, none⟩) (Nat.le_refl _) (.slice E3 k3 f3)).setCell (p := ⟨W.heap.size, 4, none⟩) (Nat.le_refl _) (.slice E4 k4 f4)).setCell (p := ⟨W.heap.size, 5, none⟩) (Nat.le_refl _) (.slice E5 k5 f5)))
  have QAc := Lib.hid (show Box w6 (W.heap.size) 26 #[.slice E0 k0 f0, .slice E1 k1 f1, .slice E2 k2 f2, .slice E3 k3 f3, .slice E4 k4 f4, .slice E5 k5 f5] by rw [hw6]; exact ((((((QA3.out.put 0 (.slice E0 k0 f0)).put 1 (.slice E1 k1 f1)).put 2 (.slice E2 k2 f2)).put 3 (.slice E3 k3 f3)).put 4 (.slice E4 k4 f4)).put 5 (.slice E5 k5 f5)))
  rw [← hw6] at hg1
  have FA6 := Lib.hid (FA3.out.grown hg1 HG3)
  simp only [set6L] at hw6
  rw [← hw6]
  clear hw6 hg1 QA3 FA3 HB3 QA2 HB2 HG3
  have HS6 := Lib.hid (FA6.out.sys HB6.out)
  have HPc := Lib.hid (HP.out.below HB6.out)
  have NWc := Lib.hid (show NowAt W w6 (.agg #[.slice E0 k0 f0, .slice E1 k1 f1, .slice E2 k2 f2, .slice E3 k3 f3, .slice E4 k4 f4, .slice E5 k5 f5]) (fewS sa) from ⟨.inl ⟨_, FA6.out⟩, HS6.out.nums⟩)
  have HQl := Lib.hid HPc.out.1
  clear FA6
  obtain ⟨r0, r1, r2, r3, r4, r5⟩ := QAc.out.six
  cases hr : rightS (fewS sa) with
  | false =>
    have HRn := Lib.hid (run_no_any (.agg #[.slice E0 k0 f0, .slice E1 k1 f1, .slice E2 k2 f2, .slice E3 k3 f3, .slice E4 k4 f4, .slice E5 k5 f5]) (fewS sa) w6 HS6.out none 0 0 qs HPc.out (by omega) hr)
    clear hr
    go_wp2_with fail
    refine HRn.out.mono ?_
    rintro e w7 ⟨G0, u0, x0, G1, u1, x1, G2, u2, x2, G3, u3, x3, G4, u4, x4, G5, u5, x5, B, d, rfl, hb⟩
    have HBc := Lib.hid (chain hb ((Below.refl w7.heap.size w7).alloc (Nat.le_refl _) (.cells #[.slice G0 u0 x0, .slice G1 u1 x1, .slice G2 u2 x2, .slice G3 u3 x3, .slice G4 u4 x4, .slice G5 u5 x5] 26)))
    clear hb r0 r1 r2 r3 r4 r5
    go_wp2_with fail
    refine (alive20_any _).mono ?_
    rintro e wb ⟨rfl, hb⟩
    have HF := Lib.hid (HB6.out.trans ((chain HBc.out hb).mono HB6.out.size))
    clear hb
    go_wp2_with fail
    go_ret
    exact ⟨rfl, HF.out⟩
  | true =>
    have HW0 := Lib.hid (WR.of hr)
    have HRn := Lib.hid (run_ok_any (.agg #[.slice E0 k0 f0, .slice E1 k1 f1, .slice E2 k2 f2, .slice E3 k3 f3, .slice E4 k4 f4, .slice E5 k5 f5]) (fewS sa) w6 HS6.out none 0 0 qs HPc.out (by omega) hr)
    have HSm0 := Lib.hid (small_of (run_wr HW0.out qs))
    have HNc := Lib.hid ((run_wr HW0.out qs).nums (by rw [HQl.out]; omega))
    have hwl := run_len (fewS sa) qs
    rw [HQl.out] at hwl
    have H64 := Lib.hid (went_small (fewS sa) qs HW0.out.n8)
    have HGd := Lib.hid (run_good (fewS sa) qs)
    have HPt := Lib.hid (run_parts (fewS sa) qs)
    obtain ⟨st, hst⟩ : ∃ st, st = runS (fewS sa) qs := ⟨_, rfl⟩
    rw [← hst] at hwl HRn HSm0 HNc HGd HPt H64
    obtain ⟨c', ws⟩ := st
    have hwl : ws.length ≤ 0 := hwl
    have HSm0 : Hid (Small c') := HSm0
    have HNc : Hid (Nums c') := HNc
    have H64 : Hid (In64 ws) := H64
    have HGd : Hid (Good (fewS sa) (c', ws)) := HGd
    have HPt : Hid (∀ j, (runS (runS (fewS sa) (qs.take j)).1 (qs.drop j)).1 = c' ∧ (runS (fewS sa) (qs.take j)).2 ++ (runS (runS (fewS sa) (qs.take j)).1 (qs.drop j)).2 = ws) := HPt
    have HRt := Lib.hid hr
    clear hr hst
    go_wp2_with fail
    refine HRn.out.mono ?_
    rintro e w7 ⟨G0, Gc0, G1, Gc1, G2, Gc2, G3, Gc3, G4, Gc4, G5, Gc5, B, d, rfl, hM, hi7, hk7, hb⟩
    have ab : Below w7.heap.size w7 (w7.alloc (.cells #[.slice G0 c'.th.length Gc0, .slice G1 c'.pc.length Gc1, .slice G2 c'.su.length Gc2, .slice G3 c'.lo.length Gc3, .slice G4 c'.ce.length Gc4, .slice G5 c'.ch.length Gc5] 26)) := (Below.refl _ _).alloc (Nat.le_refl _) _
    replace QAc := Lib.hid ((QAc.out.keep hb).keep ab)
    have NGc := Lib.hid (NowAt.keepB (show NowAt W w7 (.agg #[.slice G0 c'.th.length Gc0, .slice G1 c'.pc.length Gc1, .slice G2 c'.su.length Gc2, .slice G3 c'.lo.length Gc3, .slice G4 c'.ce.length Gc4, .slice G5 c'.ch.length Gc5]) c' from ⟨.inr hM, HNc.out⟩) ab)
    have I7c := Lib.hid (show Ints _ B ws.length ws from hi7.below ab)
    have QGc := Lib.hid (Box.new w7 26 #[.slice G0 c'.th.length Gc0, .slice G1 c'.pc.length Gc1, .slice G2 c'.su.length Gc2, .slice G3 c'.lo.length Gc3, .slice G4 c'.ce.length Gc4, .slice G5 c'.ch.length Gc5])
    have HBc := Lib.hid (chain hb ab)
    replace NWc := Lib.hid ((NWc.out.keepB hb).keepB ab)
    replace HPc := Lib.hid ((HPc.out.below hb).below ab)
    have HSB := Lib.hid (show SliceOk B ws.length d from hk7)
    clear hb ab hM hi7 hk7 r0 r1 r2 r3 r4 r5 HRn
    go_upto_region 3 with (fail)
    obtain ⟨w8, hw8⟩ : ∃ x, x = w7.alloc (.cells #[.slice G0 c'.th.length Gc0, .slice G1 c'.pc.length Gc1, .slice G2 c'.su.length Gc2, .slice G3 c'.lo.length Gc3, .slice G4 c'.ce.length Gc4, .slice G5 c'.ch.length Gc5] 26) := ⟨_, rfl⟩
    rw [← hw8] at QAc NGc I7c QGc HBc NWc HPc ⊢
    clear hw8
    have z0 : (0 : Int) < (0 : Int) + 1 := by omega
    have z1 : ¬ (0 : Int) + 1 = 0 := by omega
    have z2 : -((0 : Int) + 1) < kv.tmod ((0 : Int) + 1) := Int.lt_tmod_of_pos kv z0
    have z3 : kv.tmod ((0 : Int) + 1) < (0 : Int) + 1 := Int.tmod_lt_of_pos kv z0
    have z4 : (0 : Int) ≤ 60 := by omega
    go_upto_region 6 with (fail)
  
    clear z0 z1 z2 z3 z4
    have HTk := Lib.hid (show Ints w8 none 0 (qs.take 0) from ⟨rfl, fun j => by simp [List.getD], fun h => by omega⟩)
    have HWA := Lib.hid (HB6.out.trans (HBc.out.mono HB6.out.size))
    have HR6 := Lib.hid (fun wx (hb : Below w8.heap.size w8 wx) => run_ok_any (.agg #[.slice E0 k0 f0, .slice E1 k1 f1, .slice E2 k2 f2, .slice E3 k3 f3, .slice E4 k4 f4, .slice E5 k5 f5]) (fewS sa) wx ((NWc.out.keepB hb).sys (HWA.out.trans (hb.mono HWA.out.size))) none 0 0 (qs.take 0) (HTk.out.below hb) (by omega) HRt.out)
    have HW1 := Lib.hid (run_wr HW0.out (qs.take 0))
    have HN1 := Lib.hid (HW1.out.nums (by have := List.length_take_le 0 qs; omega))
    have HP1 := Lib.hid (HPt.out 0)
    obtain ⟨st1, hst1⟩ : ∃ st, st = runS (fewS sa) (qs.take 0) := ⟨_, rfl⟩
    rw [← hst1] at HR6 HN1 HP1
    obtain ⟨a1, ws1⟩ := st1
    have HN1 : Hid (Nums a1) := HN1
    have HP1 : Hid ((runS a1 (qs.drop 0)).1 = c' ∧ ws1 ++ (runS a1 (qs.drop 0)).2 = ws) := HP1
    clear hst1 HPt HW1
    have H1 := Lib.hid (show Below w8.heap.size w8 w8.drew from (Below.refl _ _).drew)
    have H2 := Lib.hid (show Below w8.heap.size w8 (w8.alloc (.cells #[.slice none 0 0, .slice none 0 0, .slice none 0 0, .slice none 0 0, .slice none 0 0, .slice none 0 0] 26)).drew from ((Below.refl _ _).alloc (Nat.le_refl _) _).drew)
    have QZ := Lib.hid (show Box (w8.alloc (.cells #[.slice none 0 0, .slice none 0 0, .slice none 0 0, .slice none 0 0, .slice none 0 0, .slice none 0 0] 26)).drew w8.heap.size 26 #[.slice none 0 0, .slice none 0 0, .slice none 0 0, .slice none 0 0, .slice none 0 0, .slice none 0 0] from (Box.new w8 26 #[.slice none 0 0, .slice none 0 0, .slice none 0 0, .slice none 0 0, .slice none 0 0, .slice none 0 0]).drew)
    obtain ⟨r0, r1, r2, r3, r4, r5⟩ := QAc.out.six
    obtain ⟨s0, s1, s2, s3, s4, s5⟩ := (QAc.out.keep H2.out).six
    go_cut [10, 11, 12] (fun pv wv cv wx => ∃ (g : Nat) (I0 : Option Addr) (Ic0 : Nat) (I1 : Option Addr) (Ic1 : Nat) (I2 : Option Addr) (Ic2 : Nat) (I3 : Option Addr) (Ic3 : Nat) (I4 : Option Addr) (Ic4 : Nat) (I5 : Option Addr) (Ic5 : Nat) (D : Option Addr) (dd : Nat), pv = .pointer (some ⟨g, 0, none⟩) ∧ wv = .slice D ws1.length dd ∧ cv = .int .i64 0 ∧ Hid (Box wx g 26 #[.slice I0 a1.th.length Ic0, .slice I1 a1.pc.length Ic1, .slice I2 a1.su.length Ic2, .slice I3 a1.lo.length Ic3, .slice I4 a1.ce.length Ic4, .slice I5 a1.ch.length Ic5]) ∧ Hid (∃ M, OwnM M wx (.agg #[.slice I0 a1.th.length Ic0, .slice I1 a1.pc.length Ic1, .slice I2 a1.su.length Ic2, .slice I3 a1.lo.length Ic3, .slice I4 a1.ce.length Ic4, .slice I5 a1.ch.length Ic5]) a1) ∧ Hid (Ints wx D ws1.length ws1) ∧ Hid (SliceOk D ws1.length dd) ∧ Hid (Below w8.heap.size w8 wx))
    case first =>
      refine wp_heldK_bar [(4, (fun (w' : World) => w'.cell? ⟨W.heap.size, 0, none⟩ = some (.slice E0 k0 f0) ∧ w'.cell? ⟨W.heap.size, 1, none⟩ = some (.slice E1 k1 f1) ∧ w'.cell? ⟨W.heap.size, 2, none⟩ = some (.slice E2 k2 f2) ∧ w'.cell? ⟨W.heap.size, 3, none⟩ = some (.slice E3 k3 f3) ∧ w'.cell? ⟨W.heap.size, 4, none⟩ = some (.slice E4 k4 f4) ∧ w'.cell? ⟨W.heap.size, 5, none⟩ = some (.slice E5 k5 f5)))] 13 (by kernel_rfl) (by decide) ?_
      have hS0 := (show ((fun (w' : World) => w'.cell? ⟨W.heap.size, 0, none⟩ = some (.slice E0 k0 f0) ∧ w'.cell? ⟨W.heap.size, 1, none⟩ = some (.slice E1 k1 f1) ∧ w'.cell? ⟨W.heap.size, 2, none⟩ = some (.slice E2 k2 f2) ∧ w'.cell? ⟨W.heap.size, 3, none⟩ = some (.slice E3 k3 f3) ∧ w'.cell? ⟨W.heap.size, 4, none⟩ = some (.slice E4 k4 f4) ∧ w'.cell? ⟨W.heap.size, 5, none⟩ = some (.slice E5 k5 f5))) w8.drew from ⟨r0, r1, r2, r3, r4, r5⟩)
      refine headK_load 0 4 _ rfl (i := 0) (v := ?_) rfl (by kernel_rfl) (fun _ _ _ h => h) (fun _ _ _ h => passed_ready h.1) (Or.inl ⟨by rfl, ?hy43⟩) ⟨fun _ => hS0, trivial⟩ ?rest43
      case hy43 => intro w hSw; (try dsimp only at hSw); obtain ⟨hc0, hc1, hc2, hc3, hc4, hc5⟩ := hSw; go_simp; try (with_reducible rfl)
      case rest43 =>
      try simp only [Act.put, List.setIfInBounds_toArray, List.set_cons_zero, List.set_cons_succ]
      refine headK_take (i := 1) (v := ?_) rfl (by kernel_rfl) (fun _ _ _ h => h) (fun _ _ _ h => passed_ready h.1) (Or.inl ⟨by rfl, ?hy44⟩) ⟨fun _ => hS0, trivial⟩ ?rest44
      case hy44 => intro w _; go_simp; try (with_reducible rfl)
      case rest44 =>
      try simp only [Act.put, List.setIfInBounds_toArray, List.set_cons_zero, List.set_cons_succ]
      refine headK_take (i := 2) (v := ?_) rfl (by kernel_rfl) (fun _ _ _ h => h) (fun _ _ _ h => passed_ready h.1) (Or.inl ⟨by rfl, ?hy45⟩) ⟨fun _ => hS0, trivial⟩ ?rest45
      case hy45 => intro w _; go_simp; try (with_reducible rfl)
      case rest45 =>
      try simp only [Act.put, List.setIfInBounds_toArray, List.set_cons_zero, List.set_cons_succ]
      refine headK_take (i := 3) (v := ?_) rfl (by kernel_rfl) (fun _ _ _ h => h) (fun _ _ _ h => passed_ready h.1) (Or.inl ⟨by rfl, ?hy46⟩) ⟨fun _ => hS0, trivial⟩ ?rest46
      case hy46 => intro w _; go_simp; try (with_reducible rfl)
      case rest46 =>
      try simp only [Act.put, List.setIfInBounds_toArray, List.set_cons_zero, List.set_cons_succ]
      refine headK_two (i := 4) (j := 9) (by kernel_rfl) rfl rfl (fun K hK => ?_) (fun K hK => ?_)
      · go_simp
        refine (HR6.out _ H1.out).mono ?_
        rintro e w9 ⟨I0, Ic0, I1, Ic1, I2, Ic2, I3, Ic3, I4, Ic4, I5, Ic5, D, dd, rfl, hM, hi, hk, hbk⟩
        have HM9 := Lib.hid hM
        have HI9 := Lib.hid hi
        have HK9 := Lib.hid hk
        clear hM hi hk
        refine hK.out _ _ ⟨fun h => Bool.noConfusion (show true = false from h), trivial⟩ ?_
        clear hK K
        try simp only [Act.put, List.setIfInBounds_toArray, List.set_cons_zero, List.set_cons_succ]
        refine headK_take (i := 5) (v := ?_) rfl (by kernel_rfl) (fun _ _ _ h => h) (fun _ _ _ h => passed_ready h.1) (Or.inl ⟨by rfl, ?hy5085⟩) ⟨fun h => Bool.noConfusion (show true = false from h), trivial⟩ ?rest5085
        case hy5085 => intro w _; go_simp; try (with_reducible rfl)
        case rest5085 =>
        try simp only [Act.put, List.setIfInBounds_toArray, List.set_cons_zero, List.set_cons_succ]
        refine headK_take (i := 6) (v := ?_) rfl (by kernel_rfl) (fun _ _ _ h => h) (fun _ _ _ h => passed_ready h.1) (Or.inl ⟨by rfl, ?hy5086⟩) ⟨fun h => Bool.noConfusion (show true = false from h), trivial⟩ ?rest5086
        case hy5086 => intro w _; go_simp; try (with_reducible rfl)
        case rest5086 =>
        try simp only [Act.put, List.setIfInBounds_toArray, List.set_cons_zero, List.set_cons_succ]
        refine headK_take (i := 7) (v := ?_) rfl (by kernel_rfl) (fun _ _ _ h => h) (fun _ _ _ h => passed_ready h.1) (Or.inl ⟨by rfl, ?hy5087⟩) ⟨fun h => Bool.noConfusion (show true = false from h), trivial⟩ ?rest5087
        case hy5087 => intro w _; go_simp; try (with_reducible rfl)
        case rest5087 =>
        try simp only [Act.put, List.setIfInBounds_toArray, List.set_cons_zero, List.set_cons_succ]
        refine headK_take (i := 8) (v := ?_) rfl (by kernel_rfl) (fun _ _ _ h => h) (fun _ _ _ h => passed_ready h.1) (Or.inl ⟨by rfl, ?hy5088⟩) ⟨fun h => Bool.noConfusion (show true = false from h), trivial⟩ ?rest5088
        case hy5088 => intro w _; go_simp; try (with_reducible rfl)
        case rest5088 =>
        try simp only [Act.put, List.setIfInBounds_toArray, List.set_cons_zero, List.set_cons_succ]
        refine headK_one (i := 9) (by kernel_rfl) rfl (fun K hK => ?_)
        go_simp
        refine hK.out _ _ ⟨fun h => Bool.noConfusion (show true = false from h), trivial⟩ ?_
        clear hK K
        try simp only [Act.put, List.setIfInBounds_toArray, List.set_cons_zero, List.set_cons_succ]
        refine headK_one (i := 10) (by kernel_rfl) rfl (fun K hK => ?_)
        go_simp
        refine hK.out _ _ ⟨fun h => Bool.noConfusion (show true = false from h), trivial⟩ ?_
        clear hK K
        try simp only [Act.put, List.setIfInBounds_toArray, List.set_cons_zero, List.set_cons_succ]
        refine headK_take (i := 11) (v := ?_) rfl (by kernel_rfl) (fun _ _ _ h => h) (fun _ _ _ h => passed_ready h.1) (Or.inl ⟨by rfl, ?hy5089⟩) ⟨fun h => Bool.noConfusion (show true = false from h), trivial⟩ ?rest5089
        case hy5089 => intro w _; go_simp; try (with_reducible rfl)
        case rest5089 =>
        try simp only [Act.put, List.setIfInBounds_toArray, List.set_cons_zero, List.set_cons_succ]
        refine headK_take (i := 12) (v := ?_) rfl (by kernel_rfl) (fun _ _ _ h => h) (fun _ _ _ h => passed_ready h.1) (Or.inl ⟨by rfl, ?hy5090⟩) ⟨fun h => Bool.noConfusion (show true = false from h), trivial⟩ ?rest5090
        case hy5090 => intro w _; go_simp; try (with_reducible rfl)
        case rest5090 =>
        try simp only [Act.put, List.setIfInBounds_toArray, List.set_cons_zero, List.set_cons_succ]
        refine ⟨by kernel_rfl, ?_⟩
        refine wpAny_done (by kernel_rfl) ?_ _
        go_wp2_with fail
        have ab : Below w9.heap.size w9 (w9.alloc (.cells #[.slice I0 a1.th.length Ic0, .slice I1 a1.pc.length Ic1, .slice I2 a1.su.length Ic2, .slice I3 a1.lo.length Ic3, .slice I4 a1.ce.length Ic4, .slice I5 a1.ch.length Ic5] 26)) := (Below.refl _ _).alloc (Nat.le_refl _) _
        obtain ⟨M9, hM9⟩ := HM9.out
        go_meet
        exact ⟨_, I0, Ic0, I1, Ic1, I2, Ic2, I3, Ic3, I4, Ic4, I5, Ic5, D, dd, rfl, rfl, rfl, Lib.hid (Box.new w9 26 #[.slice I0 a1.th.length Ic0, .slice I1 a1.pc.length Ic1, .slice I2 a1.su.length Ic2, .slice I3 a1.lo.length Ic3, .slice I4 a1.ce.length Ic4, .slice I5 a1.ch.length Ic5]), Lib.hid ⟨M9, hM9.keepB ab⟩, Lib.hid (HI9.out.below ab), HK9, Lib.hid (chain (chain H1.out hbk) ab)⟩
      · go_simp
        refine hK.out _ _ ⟨fun _ => (show (fun (w' : World) => w'.cell? ⟨W.heap.size, 0, none⟩ = some (.slice E0 k0 f0) ∧ w'.cell? ⟨W.heap.size, 1, none⟩ = some (.slice E1 k1 f1) ∧ w'.cell? ⟨W.heap.size, 2, none⟩ = some (.slice E2 k2 f2) ∧ w'.cell? ⟨W.heap.size, 3, none⟩ = some (.slice E3 k3 f3) ∧ w'.cell? ⟨W.heap.size, 4, none⟩ = some (.slice E4 k4 f4) ∧ w'.cell? ⟨W.heap.size, 5, none⟩ = some (.slice E5 k5 f5)) _ from ⟨s0, s1, s2, s3, s4, s5⟩), trivial⟩ ?_
        clear hK K
        try simp only [Act.put, List.setIfInBounds_toArray, List.set_cons_zero, List.set_cons_succ]
        refine headK_one (i := 4) (by kernel_rfl) rfl (fun K hK => ?_)
        go_simp
        refine (HR6.out _ H2.out).mono ?_
        rintro e w9 ⟨I0, Ic0, I1, Ic1, I2, Ic2, I3, Ic3, I4, Ic4, I5, Ic5, D, dd, rfl, hM, hi, hk, hbk⟩
        have HM9 := Lib.hid hM
        have HI9 := Lib.hid hi
        have HK9 := Lib.hid hk
        clear hM hi hk
        have QZ9 := Lib.hid (QZ.out.keep hbk)
        obtain ⟨y0, y1, y2, y3, y4, y5⟩ := QZ9.out.six
        have v0 := QZ9.out.free 0
        have v1 := QZ9.out.free 1
        have v2 := QZ9.out.free 2
        have v3 := QZ9.out.free 3
        have v4 := QZ9.out.free 4
        have v5 := QZ9.out.free 5
        refine hK.out _ _ ⟨fun h => Bool.noConfusion (show true = false from h), trivial⟩ ?_
        clear hK K
        try simp only [Act.put, List.setIfInBounds_toArray, List.set_cons_zero, List.set_cons_succ]
        refine headK_take (i := 5) (v := ?_) rfl (by kernel_rfl) (fun _ _ _ h => h) (fun _ _ _ h => passed_ready h.1) (Or.inl ⟨by rfl, ?hy5091⟩) ⟨fun h => Bool.noConfusion (show true = false from h), trivial⟩ ?rest5091
        case hy5091 => intro w _; go_simp; try (with_reducible rfl)
        case rest5091 =>
        try simp only [Act.put, List.setIfInBounds_toArray, List.set_cons_zero, List.set_cons_succ]
        refine headK_take (i := 6) (v := ?_) rfl (by kernel_rfl) (fun _ _ _ h => h) (fun _ _ _ h => passed_ready h.1) (Or.inl ⟨by rfl, ?hy5092⟩) ⟨fun h => Bool.noConfusion (show true = false from h), trivial⟩ ?rest5092
        case hy5092 => intro w _; go_simp; try (with_reducible rfl)
        case rest5092 =>
        try simp only [Act.put, List.setIfInBounds_toArray, List.set_cons_zero, List.set_cons_succ]
        refine headK_take (i := 7) (v := ?_) rfl (by kernel_rfl) (fun _ _ _ h => h) (fun _ _ _ h => passed_ready h.1) (Or.inl ⟨by rfl, ?hy5093⟩) ⟨fun h => Bool.noConfusion (show true = false from h), trivial⟩ ?rest5093
        case hy5093 => intro w _; go_simp; try (with_reducible rfl)
        case rest5093 =>
        try simp only [Act.put, List.setIfInBounds_toArray, List.set_cons_zero, List.set_cons_succ]
        refine headK_take (i := 8) (v := ?_) rfl (by kernel_rfl) (fun _ _ _ h => h) (fun _ _ _ h => passed_ready h.1) (Or.inl ⟨by rfl, ?hy5094⟩) ⟨fun h => Bool.noConfusion (show true = false from h), trivial⟩ ?rest5094
        case hy5094 => intro w _; go_simp; try (with_reducible rfl)
        case rest5094 =>
        try simp only [Act.put, List.setIfInBounds_toArray, List.set_cons_zero, List.set_cons_succ]
        refine headK_one (i := 10) (by kernel_rfl) rfl (fun K hK => ?_)
        go_simp
        refine hK.out _ _ ⟨fun h => Bool.noConfusion (show true = false from h), trivial⟩ ?_
        clear hK K
        try simp only [Act.put, List.setIfInBounds_toArray, List.set_cons_zero, List.set_cons_succ]
        refine headK_take (i := 11) (v := ?_) rfl (by kernel_rfl) (fun _ _ _ h => h) (fun _ _ _ h => passed_ready h.1) (Or.inl ⟨by rfl, ?hy5095⟩) ⟨fun h => Bool.noConfusion (show true = false from h), trivial⟩ ?rest5095
        case hy5095 => intro w _; go_simp; try (with_reducible rfl)
        case rest5095 =>
        try simp only [Act.put, List.setIfInBounds_toArray, List.set_cons_zero, List.set_cons_succ]
        refine headK_take (i := 12) (v := ?_) rfl (by kernel_rfl) (fun _ _ _ h => h) (fun _ _ _ h => passed_ready h.1) (Or.inl ⟨by rfl, ?hy5096⟩) ⟨fun h => Bool.noConfusion (show true = false from h), trivial⟩ ?rest5096
        case hy5096 => intro w _; go_simp; try (with_reducible rfl)
        case rest5096 =>
        try simp only [Act.put, List.setIfInBounds_toArray, List.set_cons_zero, List.set_cons_succ]
        refine ⟨by kernel_rfl, ?_⟩
        refine wpAny_done (by kernel_rfl) ?_ _
        go_wp2_with fail
        have hX := set6_grown w9 (w8.heap.size) (.slice I0 a1.th.length Ic0) (.slice I1 a1.pc.length Ic1) (.slice I2 a1.su.length Ic2) (.slice I3 a1.lo.length Ic3) (.slice I4 a1.ce.length Ic4) (.slice I5 a1.ch.length Ic5)
        obtain ⟨M9, hM9⟩ := HM9.out
        have hM8 := hM9.box_gr QZ9.out hX
        have hI8 := HI9.out.box_gr QZ9.out (fun x hx k n e => by subst e; simp at hx) hX
        have hB8 := (((((((chain H2.out hbk).setCell (p := ⟨w8.heap.size, 0, none⟩) (Nat.le_refl _) (.slice I0 a1.th.length Ic0)).setCell (p := ⟨w8.heap.size, 1, none⟩) (Nat.le_refl _) (.slice I1 a1.pc.length Ic1)).setCell (p := ⟨w8.heap.size, 2, none⟩) (Nat.le_refl _) (.slice I2 a1.su.length Ic2)).setCell (p := ⟨w8.heap.size, 3, none⟩) (Nat.le_refl _) (.slice I3 a1.lo.length Ic3)).setCell (p := ⟨w8.heap.size, 4, none⟩) (Nat.le_refl _) (.slice I4 a1.ce.length Ic4)).setCell (p := ⟨w8.heap.size, 5, none⟩) (Nat.le_refl _) (.slice I5 a1.ch.length Ic5))
        have hQ8 := ((((((QZ9.out.put 0 (.slice I0 a1.th.length Ic0)).put 1 (.slice I1 a1.pc.length Ic1)).put 2 (.slice I2 a1.su.length Ic2)).put 3 (.slice I3 a1.lo.length Ic3)).put 4 (.slice I4 a1.ce.length Ic4)).put 5 (.slice I5 a1.ch.length Ic5))
        clear hX
        go_meet
        exact ⟨_, I0, Ic0, I1, Ic1, I2, Ic2, I3, Ic3, I4, Ic4, I5, Ic5, D, dd, rfl, rfl, rfl, Lib.hid hQ8, Lib.hid ⟨M9, hM8⟩, Lib.hid hI8, HK9, Lib.hid hB8⟩
    case rest =>
      obtain ⟨gi, I0, Ic0, I1, Ic1, I2, Ic2, I3, Ic3, I4, Ic4, I5, Ic5, D, dd, rfl, rfl, rfl, QI, MI, II, KI, HBn⟩ := hcut
      obtain ⟨wA, hwA⟩ : ∃ x : World, x = wc := ⟨_, rfl⟩
      subst hwA
      clear r0 r1 r2 r3 r4 r5 s0 s1 s2 s3 s4 s5 QZ H1 H2 HTk HWA HR6
      replace QAc := Lib.hid (QAc.out.keep HBn.out)
      replace QGc := Lib.hid (QGc.out.keep HBn.out)
      replace NGc := Lib.hid (NGc.out.keepB HBn.out)
      replace I7c := Lib.hid (I7c.out.below HBn.out)
      replace NWc := Lib.hid (NWc.out.keepB HBn.out)
      replace HPc := Lib.hid (HPc.out.below HBn.out)
      replace HBc := Lib.hid (chain HBc.out HBn.out)
      have HWB := Lib.hid (HB6.out.trans (HBc.out.mono HB6.out.size))
      have NIc := Lib.hid (show NowAt W wA (.agg #[.slice I0 a1.th.length Ic0, .slice I1 a1.pc.length Ic1, .slice I2 a1.su.length Ic2, .slice I3 a1.lo.length Ic3, .slice I4 a1.ce.length Ic4, .slice I5 a1.ch.length Ic5]) a1 from ⟨.inr MI.out, HN1.out⟩)
      have H1 := Lib.hid (show Below wA.heap.size wA wA.drew from (Below.refl _ _).drew)
      have H2 := Lib.hid (show Below wA.heap.size wA (wA.alloc (.cells #[.slice none 0 0, .slice none 0 0, .slice none 0 0, .slice none 0 0, .slice none 0 0, .slice none 0 0] 26)).drew from ((Below.refl _ _).alloc (Nat.le_refl _) _).drew)
      have QZ := Lib.hid (show Box (wA.alloc (.cells #[.slice none 0 0, .slice none 0 0, .slice none 0 0, .slice none 0 0, .slice none 0 0, .slice none 0 0] 26)).drew wA.heap.size 26 #[.slice none 0 0, .slice none 0 0, .slice none 0 0, .slice none 0 0, .slice none 0 0, .slice none 0 0] from (Box.new wA 26 #[.slice none 0 0, .slice none 0 0, .slice none 0 0, .slice none 0 0, .slice none 0 0, .slice none 0 0]).drew)
      obtain ⟨st2, hst2⟩ : ∃ st, st = runS a1 (qs.drop 0) := ⟨_, rfl⟩
      rw [← hst2] at HP1
      obtain ⟨c2, ws2⟩ := st2
      obtain ⟨hc2, hws⟩ := HP1.out
      have hc2 : c2 = c' := hc2
      subst hc2
      have HWs := Lib.hid (show ws1 ++ ws2 = ws from hws)
      have HST := Lib.hid hst2.symm
      clear hst2 hws HP1 MI
      obtain ⟨r0, r1, r2, r3, r4, r5⟩ := QI.out.six
      obtain ⟨s0, s1, s2, s3, s4, s5⟩ := (QI.out.keep H2.out).six
      go_upto_region 7 with (fail)
      go_cut [13, 14, 15] (fun pv wv cv wx => ∃ (g2 : Nat) (K0 : Option Addr) (Kl0 Kc0 : Nat) (K1 : Option Addr) (Kl1 Kc1 : Nat) (K2 : Option Addr) (Kl2 Kc2 : Nat) (K3 : Option Addr) (Kl3 Kc3 : Nat) (K4 : Option Addr) (Kl4 Kc4 : Nat) (K5 : Option Addr) (Kl5 Kc5 : Nat) (D2 : Option Addr) (n2 dd2 : Nat) (code : Int), pv = .pointer (some ⟨g2, 0, none⟩) ∧ wv = .slice D2 n2 dd2 ∧ cv = .int .i64 code ∧ Hid (Box wx g2 26 #[.slice K0 Kl0 Kc0, .slice K1 Kl1 Kc1, .slice K2 Kl2 Kc2, .slice K3 Kl3 Kc3, .slice K4 Kl4 Kc4, .slice K5 Kl5 Kc5]) ∧ Hid ((code = 0 ∧ NowAt W wx (.agg #[.slice K0 Kl0 Kc0, .slice K1 Kl1 Kc1, .slice K2 Kl2 Kc2, .slice K3 Kl3 Kc3, .slice K4 Kl4 Kc4, .slice K5 Kl5 Kc5]) c2 ∧ Ints wx D2 n2 ws2 ∧ SliceOk D2 n2 dd2) ∨ code = 1) ∧ Hid (Below wA.heap.size wA wx))
      case first =>
        have HTd := Lib.hid (show Ints wA none 0 (qs.drop 0) from (show Ints wA none 0 (qs.drop 0) from HPc.out))
        cases hra : rightS a1 with
        | true =>
          have HR7 := Lib.hid (fun wx (hb : Below wA.heap.size wA wx) => run_ok_any (.agg #[.slice I0 a1.th.length Ic0, .slice I1 a1.pc.length Ic1, .slice I2 a1.su.length Ic2, .slice I3 a1.lo.length Ic3, .slice I4 a1.ce.length Ic4, .slice I5 a1.ch.length Ic5]) a1 wx ((NIc.out.keepB hb).sys (HWB.out.trans (hb.mono HWB.out.size))) none 0 0 (qs.drop 0) (HTd.out.below hb) (by omega) hra)
          rw [HST.out] at HR7
          clear hra
          refine wp_heldK_bar [(4, (fun (w' : World) => w'.cell? ⟨gi, 0, none⟩ = some (.slice I0 a1.th.length Ic0) ∧ w'.cell? ⟨gi, 1, none⟩ = some (.slice I1 a1.pc.length Ic1) ∧ w'.cell? ⟨gi, 2, none⟩ = some (.slice I2 a1.su.length Ic2) ∧ w'.cell? ⟨gi, 3, none⟩ = some (.slice I3 a1.lo.length Ic3) ∧ w'.cell? ⟨gi, 4, none⟩ = some (.slice I4 a1.ce.length Ic4) ∧ w'.cell? ⟨gi, 5, none⟩ = some (.slice I5 a1.ch.length Ic5)))] 13 (by kernel_rfl) (by decide) ?_
          have hS0 := (show ((fun (w' : World) => w'.cell? ⟨gi, 0, none⟩ = some (.slice I0 a1.th.length Ic0) ∧ w'.cell? ⟨gi, 1, none⟩ = some (.slice I1 a1.pc.length Ic1) ∧ w'.cell? ⟨gi, 2, none⟩ = some (.slice I2 a1.su.length Ic2) ∧ w'.cell? ⟨gi, 3, none⟩ = some (.slice I3 a1.lo.length Ic3) ∧ w'.cell? ⟨gi, 4, none⟩ = some (.slice I4 a1.ce.length Ic4) ∧ w'.cell? ⟨gi, 5, none⟩ = some (.slice I5 a1.ch.length Ic5))) wA.drew from ⟨r0, r1, r2, r3, r4, r5⟩)
          refine headK_load 0 4 _ rfl (i := 0) (v := ?_) rfl (by kernel_rfl) (fun _ _ _ h => h) (fun _ _ _ h => passed_ready h.1) (Or.inl ⟨by rfl, ?hy35⟩) ⟨fun _ => hS0, trivial⟩ ?rest35
          case hy35 => intro w hSw; (try dsimp only at hSw); obtain ⟨hc0, hc1, hc2, hc3, hc4, hc5⟩ := hSw; go_simp; try (with_reducible rfl)
          case rest35 =>
          try simp only [Act.put, List.setIfInBounds_toArray, List.set_cons_zero, List.set_cons_succ]
          refine headK_take (i := 1) (v := ?_) rfl (by kernel_rfl) (fun _ _ _ h => h) (fun _ _ _ h => passed_ready h.1) (Or.inl ⟨by rfl, ?hy36⟩) ⟨fun _ => hS0, trivial⟩ ?rest36
          case hy36 => intro w _; go_simp; try (with_reducible rfl)
          case rest36 =>
          try simp only [Act.put, List.setIfInBounds_toArray, List.set_cons_zero, List.set_cons_succ]
          refine headK_take (i := 2) (v := ?_) rfl (by kernel_rfl) (fun _ _ _ h => h) (fun _ _ _ h => passed_ready h.1) (Or.inl ⟨by rfl, ?hy37⟩) ⟨fun _ => hS0, trivial⟩ ?rest37
          case hy37 => intro w _; go_simp; try (with_reducible rfl)
          case rest37 =>
          try simp only [Act.put, List.setIfInBounds_toArray, List.set_cons_zero, List.set_cons_succ]
          refine headK_take (i := 3) (v := ?_) rfl (by kernel_rfl) (fun _ _ _ h => h) (fun _ _ _ h => passed_ready h.1) (Or.inl ⟨by rfl, ?hy38⟩) ⟨fun _ => hS0, trivial⟩ ?rest38
          case hy38 => intro w _; go_simp; try (with_reducible rfl)
          case rest38 =>
          try simp only [Act.put, List.setIfInBounds_toArray, List.set_cons_zero, List.set_cons_succ]
          refine headK_two (i := 4) (j := 9) (by kernel_rfl) rfl rfl (fun K hK => ?_) (fun K hK => ?_)
          · go_simp
            refine (HR7.out _ H1.out).mono ?_
            rintro e w9 ⟨K0, Kc0, K1, Kc1, K2, Kc2, K3, Kc3, K4, Kc4, K5, Kc5, D2, dd2, rfl, hM, hi, hk, hbk⟩
            have HM9 := Lib.hid hM
            have HI9 := Lib.hid (show Ints w9 D2 ws2.length ws2 from hi)
            have HK9 := Lib.hid (show SliceOk D2 ws2.length dd2 from hk)
            clear hM hi hk
            refine hK.out _ _ ⟨fun h => Bool.noConfusion (show true = false from h), trivial⟩ ?_
            clear hK K
            try simp only [Act.put, List.setIfInBounds_toArray, List.set_cons_zero, List.set_cons_succ]
            refine headK_take (i := 5) (v := ?_) rfl (by kernel_rfl) (fun _ _ _ h => h) (fun _ _ _ h => passed_ready h.1) (Or.inl ⟨by rfl, ?hy5061⟩) ⟨fun h => Bool.noConfusion (show true = false from h), trivial⟩ ?rest5061
            case hy5061 => intro w _; go_simp; try (with_reducible rfl)
            case rest5061 =>
            try simp only [Act.put, List.setIfInBounds_toArray, List.set_cons_zero, List.set_cons_succ]
            refine headK_take (i := 6) (v := ?_) rfl (by kernel_rfl) (fun _ _ _ h => h) (fun _ _ _ h => passed_ready h.1) (Or.inl ⟨by rfl, ?hy5062⟩) ⟨fun h => Bool.noConfusion (show true = false from h), trivial⟩ ?rest5062
            case hy5062 => intro w _; go_simp; try (with_reducible rfl)
            case rest5062 =>
            try simp only [Act.put, List.setIfInBounds_toArray, List.set_cons_zero, List.set_cons_succ]
            refine headK_take (i := 7) (v := ?_) rfl (by kernel_rfl) (fun _ _ _ h => h) (fun _ _ _ h => passed_ready h.1) (Or.inl ⟨by rfl, ?hy5063⟩) ⟨fun h => Bool.noConfusion (show true = false from h), trivial⟩ ?rest5063
            case hy5063 => intro w _; go_simp; try (with_reducible rfl)
            case rest5063 =>
            try simp only [Act.put, List.setIfInBounds_toArray, List.set_cons_zero, List.set_cons_succ]
            refine headK_take (i := 8) (v := ?_) rfl (by kernel_rfl) (fun _ _ _ h => h) (fun _ _ _ h => passed_ready h.1) (Or.inl ⟨by rfl, ?hy5064⟩) ⟨fun h => Bool.noConfusion (show true = false from h), trivial⟩ ?rest5064
            case hy5064 => intro w _; go_simp; try (with_reducible rfl)
            case rest5064 =>
            try simp only [Act.put, List.setIfInBounds_toArray, List.set_cons_zero, List.set_cons_succ]
            refine headK_one (i := 9) (by kernel_rfl) rfl (fun K hK => ?_)
            go_simp
            refine hK.out _ _ ⟨fun h => Bool.noConfusion (show true = false from h), trivial⟩ ?_
            clear hK K
            try simp only [Act.put, List.setIfInBounds_toArray, List.set_cons_zero, List.set_cons_succ]
            refine headK_one (i := 10) (by kernel_rfl) rfl (fun K hK => ?_)
            go_simp
            refine hK.out _ _ ⟨fun h => Bool.noConfusion (show true = false from h), trivial⟩ ?_
            clear hK K
            try simp only [Act.put, List.setIfInBounds_toArray, List.set_cons_zero, List.set_cons_succ]
            refine headK_take (i := 11) (v := ?_) rfl (by kernel_rfl) (fun _ _ _ h => h) (fun _ _ _ h => passed_ready h.1) (Or.inl ⟨by rfl, ?hy5065⟩) ⟨fun h => Bool.noConfusion (show true = false from h), trivial⟩ ?rest5065
            case hy5065 => intro w _; go_simp; try (with_reducible rfl)
            case rest5065 =>
            try simp only [Act.put, List.setIfInBounds_toArray, List.set_cons_zero, List.set_cons_succ]
            refine headK_take (i := 12) (v := ?_) rfl (by kernel_rfl) (fun _ _ _ h => h) (fun _ _ _ h => passed_ready h.1) (Or.inl ⟨by rfl, ?hy5066⟩) ⟨fun h => Bool.noConfusion (show true = false from h), trivial⟩ ?rest5066
            case hy5066 => intro w _; go_simp; try (with_reducible rfl)
            case rest5066 =>
            try simp only [Act.put, List.setIfInBounds_toArray, List.set_cons_zero, List.set_cons_succ]
            refine ⟨by kernel_rfl, ?_⟩
            refine wpAny_done (by kernel_rfl) ?_ _
            go_wp2_with fail
            have ab : Below w9.heap.size w9 (w9.alloc (.cells #[.slice K0 c2.th.length Kc0, .slice K1 c2.pc.length Kc1, .slice K2 c2.su.length Kc2, .slice K3 c2.lo.length Kc3, .slice K4 c2.ce.length Kc4, .slice K5 c2.ch.length Kc5] 26)) := (Below.refl _ _).alloc (Nat.le_refl _) _
            obtain ⟨M9, hM9⟩ := HM9.out
            go_meet
            exact ⟨_, K0, _, Kc0, K1, _, Kc1, K2, _, Kc2, K3, _, Kc3, K4, _, Kc4, K5, _, Kc5, D2, _, dd2, 0, rfl, rfl, rfl, Lib.hid (Box.new w9 26 _), Lib.hid (.inl ⟨rfl, ⟨.inr ⟨M9, hM9.keepB ab⟩, HNc.out⟩, HI9.out.below ab, HK9.out⟩), Lib.hid (chain (chain H1.out hbk) ab)⟩
          · go_simp
            refine hK.out _ _ ⟨fun _ => (show (fun (w' : World) => w'.cell? ⟨gi, 0, none⟩ = some (.slice I0 a1.th.length Ic0) ∧ w'.cell? ⟨gi, 1, none⟩ = some (.slice I1 a1.pc.length Ic1) ∧ w'.cell? ⟨gi, 2, none⟩ = some (.slice I2 a1.su.length Ic2) ∧ w'.cell? ⟨gi, 3, none⟩ = some (.slice I3 a1.lo.length Ic3) ∧ w'.cell? ⟨gi, 4, none⟩ = some (.slice I4 a1.ce.length Ic4) ∧ w'.cell? ⟨gi, 5, none⟩ = some (.slice I5 a1.ch.length Ic5)) _ from ⟨s0, s1, s2, s3, s4, s5⟩), trivial⟩ ?_
            clear hK K
            try simp only [Act.put, List.setIfInBounds_toArray, List.set_cons_zero, List.set_cons_succ]
            refine headK_one (i := 4) (by kernel_rfl) rfl (fun K hK => ?_)
            go_simp
            refine (HR7.out _ H2.out).mono ?_
            rintro e w9 ⟨K0, Kc0, K1, Kc1, K2, Kc2, K3, Kc3, K4, Kc4, K5, Kc5, D2, dd2, rfl, hM, hi, hk, hbk⟩
            have HM9 := Lib.hid hM
            have HI9 := Lib.hid (show Ints w9 D2 ws2.length ws2 from hi)
            have HK9 := Lib.hid (show SliceOk D2 ws2.length dd2 from hk)
            clear hM hi hk
            have QZ9 := Lib.hid (QZ.out.keep hbk)
            obtain ⟨y0, y1, y2, y3, y4, y5⟩ := QZ9.out.six
            have v0 := QZ9.out.free 0
            have v1 := QZ9.out.free 1
            have v2 := QZ9.out.free 2
            have v3 := QZ9.out.free 3
            have v4 := QZ9.out.free 4
            have v5 := QZ9.out.free 5
            refine hK.out _ _ ⟨fun h => Bool.noConfusion (show true = false from h), trivial⟩ ?_
            clear hK K
            try simp only [Act.put, List.setIfInBounds_toArray, List.set_cons_zero, List.set_cons_succ]
            refine headK_take (i := 5) (v := ?_) rfl (by kernel_rfl) (fun _ _ _ h => h) (fun _ _ _ h => passed_ready h.1) (Or.inl ⟨by rfl, ?hy5067⟩) ⟨fun h => Bool.noConfusion (show true = false from h), trivial⟩ ?rest5067
            case hy5067 => intro w _; go_simp; try (with_reducible rfl)
            case rest5067 =>
            try simp only [Act.put, List.setIfInBounds_toArray, List.set_cons_zero, List.set_cons_succ]
            refine headK_take (i := 6) (v := ?_) rfl (by kernel_rfl) (fun _ _ _ h => h) (fun _ _ _ h => passed_ready h.1) (Or.inl ⟨by rfl, ?hy5068⟩) ⟨fun h => Bool.noConfusion (show true = false from h), trivial⟩ ?rest5068
            case hy5068 => intro w _; go_simp; try (with_reducible rfl)
            case rest5068 =>
            try simp only [Act.put, List.setIfInBounds_toArray, List.set_cons_zero, List.set_cons_succ]
            refine headK_take (i := 7) (v := ?_) rfl (by kernel_rfl) (fun _ _ _ h => h) (fun _ _ _ h => passed_ready h.1) (Or.inl ⟨by rfl, ?hy5069⟩) ⟨fun h => Bool.noConfusion (show true = false from h), trivial⟩ ?rest5069
            case hy5069 => intro w _; go_simp; try (with_reducible rfl)
            case rest5069 =>
            try simp only [Act.put, List.setIfInBounds_toArray, List.set_cons_zero, List.set_cons_succ]
            refine headK_take (i := 8) (v := ?_) rfl (by kernel_rfl) (fun _ _ _ h => h) (fun _ _ _ h => passed_ready h.1) (Or.inl ⟨by rfl, ?hy5070⟩) ⟨fun h => Bool.noConfusion (show true = false from h), trivial⟩ ?rest5070
            case hy5070 => intro w _; go_simp; try (with_reducible rfl)
            case rest5070 =>
            try simp only [Act.put, List.setIfInBounds_toArray, List.set_cons_zero, List.set_cons_succ]
            refine headK_one (i := 10) (by kernel_rfl) rfl (fun K hK => ?_)
            go_simp
            refine hK.out _ _ ⟨fun h => Bool.noConfusion (show true = false from h), trivial⟩ ?_
            clear hK K
            try simp only [Act.put, List.setIfInBounds_toArray, List.set_cons_zero, List.set_cons_succ]
            refine headK_take (i := 11) (v := ?_) rfl (by kernel_rfl) (fun _ _ _ h => h) (fun _ _ _ h => passed_ready h.1) (Or.inl ⟨by rfl, ?hy5071⟩) ⟨fun h => Bool.noConfusion (show true = false from h), trivial⟩ ?rest5071
            case hy5071 => intro w _; go_simp; try (with_reducible rfl)
            case rest5071 =>
            try simp only [Act.put, List.setIfInBounds_toArray, List.set_cons_zero, List.set_cons_succ]
            refine headK_take (i := 12) (v := ?_) rfl (by kernel_rfl) (fun _ _ _ h => h) (fun _ _ _ h => passed_ready h.1) (Or.inl ⟨by rfl, ?hy5072⟩) ⟨fun h => Bool.noConfusion (show true = false from h), trivial⟩ ?rest5072
            case hy5072 => intro w _; go_simp; try (with_reducible rfl)
            case rest5072 =>
            try simp only [Act.put, List.setIfInBounds_toArray, List.set_cons_zero, List.set_cons_succ]
            refine ⟨by kernel_rfl, ?_⟩
            refine wpAny_done (by kernel_rfl) ?_ _
            go_wp2_with fail
            have hX := set6_grown w9 (wA.heap.size) (.slice K0 c2.th.length Kc0) (.slice K1 c2.pc.length Kc1) (.slice K2 c2.su.length Kc2) (.slice K3 c2.lo.length Kc3) (.slice K4 c2.ce.length Kc4) (.slice K5 c2.ch.length Kc5)
            obtain ⟨M9, hM9⟩ := HM9.out
            have hM8 := hM9.box_gr QZ9.out hX
            have hI8 := HI9.out.box_gr QZ9.out (fun x hx k n e => by subst e; simp at hx) hX
            have hB8 := (((((((chain H2.out hbk).setCell (p := ⟨wA.heap.size, 0, none⟩) (Nat.le_refl _) (.slice K0 c2.th.length Kc0)).setCell (p := ⟨wA.heap.size, 1, none⟩) (Nat.le_refl _) (.slice K1 c2.pc.length Kc1)).setCell (p := ⟨wA.heap.size, 2, none⟩) (Nat.le_refl _) (.slice K2 c2.su.length Kc2)).setCell (p := ⟨wA.heap.size, 3, none⟩) (Nat.le_refl _) (.slice K3 c2.lo.length Kc3)).setCell (p := ⟨wA.heap.size, 4, none⟩) (Nat.le_refl _) (.slice K4 c2.ce.length Kc4)).setCell (p := ⟨wA.heap.size, 5, none⟩) (Nat.le_refl _) (.slice K5 c2.ch.length Kc5))
            have hQ8 := ((((((QZ9.out.put 0 (.slice K0 c2.th.length Kc0)).put 1 (.slice K1 c2.pc.length Kc1)).put 2 (.slice K2 c2.su.length Kc2)).put 3 (.slice K3 c2.lo.length Kc3)).put 4 (.slice K4 c2.ce.length Kc4)).put 5 (.slice K5 c2.ch.length Kc5))
            clear hX
            go_meet
            exact ⟨_, K0, _, Kc0, K1, _, Kc1, K2, _, Kc2, K3, _, Kc3, K4, _, Kc4, K5, _, Kc5, D2, _, dd2, 0, rfl, rfl, rfl, Lib.hid hQ8, Lib.hid (.inl ⟨rfl, ⟨.inr ⟨M9, hM8⟩, HNc.out⟩, hI8, HK9.out⟩), Lib.hid hB8⟩
        | false =>
          have HR7 := Lib.hid (fun wx (hb : Below wA.heap.size wA wx) => run_no_any (.agg #[.slice I0 a1.th.length Ic0, .slice I1 a1.pc.length Ic1, .slice I2 a1.su.length Ic2, .slice I3 a1.lo.length Ic3, .slice I4 a1.ce.length Ic4, .slice I5 a1.ch.length Ic5]) a1 wx ((NIc.out.keepB hb).sys (HWB.out.trans (hb.mono HWB.out.size))) none 0 0 (qs.drop 0) (HTd.out.below hb) (by omega) hra)
          clear hra
          refine wp_heldK_bar [(4, (fun (w' : World) => w'.cell? ⟨gi, 0, none⟩ = some (.slice I0 a1.th.length Ic0) ∧ w'.cell? ⟨gi, 1, none⟩ = some (.slice I1 a1.pc.length Ic1) ∧ w'.cell? ⟨gi, 2, none⟩ = some (.slice I2 a1.su.length Ic2) ∧ w'.cell? ⟨gi, 3, none⟩ = some (.slice I3 a1.lo.length Ic3) ∧ w'.cell? ⟨gi, 4, none⟩ = some (.slice I4 a1.ce.length Ic4) ∧ w'.cell? ⟨gi, 5, none⟩ = some (.slice I5 a1.ch.length Ic5)))] 13 (by kernel_rfl) (by decide) ?_
          have hS0 := (show ((fun (w' : World) => w'.cell? ⟨gi, 0, none⟩ = some (.slice I0 a1.th.length Ic0) ∧ w'.cell? ⟨gi, 1, none⟩ = some (.slice I1 a1.pc.length Ic1) ∧ w'.cell? ⟨gi, 2, none⟩ = some (.slice I2 a1.su.length Ic2) ∧ w'.cell? ⟨gi, 3, none⟩ = some (.slice I3 a1.lo.length Ic3) ∧ w'.cell? ⟨gi, 4, none⟩ = some (.slice I4 a1.ce.length Ic4) ∧ w'.cell? ⟨gi, 5, none⟩ = some (.slice I5 a1.ch.length Ic5))) wA.drew from ⟨r0, r1, r2, r3, r4, r5⟩)
          refine headK_load 0 4 _ rfl (i := 0) (v := ?_) rfl (by kernel_rfl) (fun _ _ _ h => h) (fun _ _ _ h => passed_ready h.1) (Or.inl ⟨by rfl, ?hy39⟩) ⟨fun _ => hS0, trivial⟩ ?rest39
          case hy39 => intro w hSw; (try dsimp only at hSw); obtain ⟨hc0, hc1, hc2, hc3, hc4, hc5⟩ := hSw; go_simp; try (with_reducible rfl)
          case rest39 =>
          try simp only [Act.put, List.setIfInBounds_toArray, List.set_cons_zero, List.set_cons_succ]
          refine headK_take (i := 1) (v := ?_) rfl (by kernel_rfl) (fun _ _ _ h => h) (fun _ _ _ h => passed_ready h.1) (Or.inl ⟨by rfl, ?hy40⟩) ⟨fun _ => hS0, trivial⟩ ?rest40
          case hy40 => intro w _; go_simp; try (with_reducible rfl)
          case rest40 =>
          try simp only [Act.put, List.setIfInBounds_toArray, List.set_cons_zero, List.set_cons_succ]
          refine headK_take (i := 2) (v := ?_) rfl (by kernel_rfl) (fun _ _ _ h => h) (fun _ _ _ h => passed_ready h.1) (Or.inl ⟨by rfl, ?hy41⟩) ⟨fun _ => hS0, trivial⟩ ?rest41
          case hy41 => intro w _; go_simp; try (with_reducible rfl)
          case rest41 =>
          try simp only [Act.put, List.setIfInBounds_toArray, List.set_cons_zero, List.set_cons_succ]
          refine headK_take (i := 3) (v := ?_) rfl (by kernel_rfl) (fun _ _ _ h => h) (fun _ _ _ h => passed_ready h.1) (Or.inl ⟨by rfl, ?hy42⟩) ⟨fun _ => hS0, trivial⟩ ?rest42
          case hy42 => intro w _; go_simp; try (with_reducible rfl)
          case rest42 =>
          try simp only [Act.put, List.setIfInBounds_toArray, List.set_cons_zero, List.set_cons_succ]
          refine headK_two (i := 4) (j := 9) (by kernel_rfl) rfl rfl (fun K hK => ?_) (fun K hK => ?_)
          · go_simp
            refine (HR7.out _ H1.out).mono ?_
            rintro e w9 ⟨K0, Kl0, Kc0, K1, Kl1, Kc1, K2, Kl2, Kc2, K3, Kl3, Kc3, K4, Kl4, Kc4, K5, Kl5, Kc5, D2, dd2, rfl, hbk⟩
            refine hK.out _ _ ⟨fun h => Bool.noConfusion (show true = false from h), trivial⟩ ?_
            clear hK K
            try simp only [Act.put, List.setIfInBounds_toArray, List.set_cons_zero, List.set_cons_succ]
            refine headK_take (i := 5) (v := ?_) rfl (by kernel_rfl) (fun _ _ _ h => h) (fun _ _ _ h => passed_ready h.1) (Or.inl ⟨by rfl, ?hy5073⟩) ⟨fun h => Bool.noConfusion (show true = false from h), trivial⟩ ?rest5073
            case hy5073 => intro w _; go_simp; try (with_reducible rfl)
            case rest5073 =>
            try simp only [Act.put, List.setIfInBounds_toArray, List.set_cons_zero, List.set_cons_succ]
            refine headK_take (i := 6) (v := ?_) rfl (by kernel_rfl) (fun _ _ _ h => h) (fun _ _ _ h => passed_ready h.1) (Or.inl ⟨by rfl, ?hy5074⟩) ⟨fun h => Bool.noConfusion (show true = false from h), trivial⟩ ?rest5074
            case hy5074 => intro w _; go_simp; try (with_reducible rfl)
            case rest5074 =>
            try simp only [Act.put, List.setIfInBounds_toArray, List.set_cons_zero, List.set_cons_succ]
            refine headK_take (i := 7) (v := ?_) rfl (by kernel_rfl) (fun _ _ _ h => h) (fun _ _ _ h => passed_ready h.1) (Or.inl ⟨by rfl, ?hy5075⟩) ⟨fun h => Bool.noConfusion (show true = false from h), trivial⟩ ?rest5075
            case hy5075 => intro w _; go_simp; try (with_reducible rfl)
            case rest5075 =>
            try simp only [Act.put, List.setIfInBounds_toArray, List.set_cons_zero, List.set_cons_succ]
            refine headK_take (i := 8) (v := ?_) rfl (by kernel_rfl) (fun _ _ _ h => h) (fun _ _ _ h => passed_ready h.1) (Or.inl ⟨by rfl, ?hy5076⟩) ⟨fun h => Bool.noConfusion (show true = false from h), trivial⟩ ?rest5076
            case hy5076 => intro w _; go_simp; try (with_reducible rfl)
            case rest5076 =>
            try simp only [Act.put, List.setIfInBounds_toArray, List.set_cons_zero, List.set_cons_succ]
            refine headK_one (i := 9) (by kernel_rfl) rfl (fun K hK => ?_)
            go_simp
            refine hK.out _ _ ⟨fun h => Bool.noConfusion (show true = false from h), trivial⟩ ?_
            clear hK K
            try simp only [Act.put, List.setIfInBounds_toArray, List.set_cons_zero, List.set_cons_succ]
            refine headK_one (i := 10) (by kernel_rfl) rfl (fun K hK => ?_)
            go_simp
            refine hK.out _ _ ⟨fun h => Bool.noConfusion (show true = false from h), trivial⟩ ?_
            clear hK K
            try simp only [Act.put, List.setIfInBounds_toArray, List.set_cons_zero, List.set_cons_succ]
            refine headK_take (i := 11) (v := ?_) rfl (by kernel_rfl) (fun _ _ _ h => h) (fun _ _ _ h => passed_ready h.1) (Or.inl ⟨by rfl, ?hy5077⟩) ⟨fun h => Bool.noConfusion (show true = false from h), trivial⟩ ?rest5077
            case hy5077 => intro w _; go_simp; try (with_reducible rfl)
            case rest5077 =>
            try simp only [Act.put, List.setIfInBounds_toArray, List.set_cons_zero, List.set_cons_succ]
            refine headK_take (i := 12) (v := ?_) rfl (by kernel_rfl) (fun _ _ _ h => h) (fun _ _ _ h => passed_ready h.1) (Or.inl ⟨by rfl, ?hy5078⟩) ⟨fun h => Bool.noConfusion (show true = false from h), trivial⟩ ?rest5078
            case hy5078 => intro w _; go_simp; try (with_reducible rfl)
            case rest5078 =>
            try simp only [Act.put, List.setIfInBounds_toArray, List.set_cons_zero, List.set_cons_succ]
            refine ⟨by kernel_rfl, ?_⟩
            refine wpAny_done (by kernel_rfl) ?_ _
            go_wp2_with fail
            have ab : Below w9.heap.size w9 (w9.alloc (.cells #[.slice K0 Kl0 Kc0, .slice K1 Kl1 Kc1, .slice K2 Kl2 Kc2, .slice K3 Kl3 Kc3, .slice K4 Kl4 Kc4, .slice K5 Kl5 Kc5] 26)) := (Below.refl _ _).alloc (Nat.le_refl _) _
            go_meet
            exact ⟨_, K0, Kl0, Kc0, K1, Kl1, Kc1, K2, Kl2, Kc2, K3, Kl3, Kc3, K4, Kl4, Kc4, K5, Kl5, Kc5, D2, _, dd2, 1, rfl, rfl, rfl, Lib.hid (Box.new w9 26 _), Lib.hid (.inr rfl), Lib.hid (chain (chain H1.out hbk) ab)⟩
          · go_simp
            refine hK.out _ _ ⟨fun _ => (show (fun (w' : World) => w'.cell? ⟨gi, 0, none⟩ = some (.slice I0 a1.th.length Ic0) ∧ w'.cell? ⟨gi, 1, none⟩ = some (.slice I1 a1.pc.length Ic1) ∧ w'.cell? ⟨gi, 2, none⟩ = some (.slice I2 a1.su.length Ic2) ∧ w'.cell? ⟨gi, 3, none⟩ = some (.slice I3 a1.lo.length Ic3) ∧ w'.cell? ⟨gi, 4, none⟩ = some (.slice I4 a1.ce.length Ic4) ∧ w'.cell? ⟨gi, 5, none⟩ = some (.slice I5 a1.ch.length Ic5)) _ from ⟨s0, s1, s2, s3, s4, s5⟩), trivial⟩ ?_
            clear hK K
            try simp only [Act.put, List.setIfInBounds_toArray, List.set_cons_zero, List.set_cons_succ]
            refine headK_one (i := 4) (by kernel_rfl) rfl (fun K hK => ?_)
            go_simp
            refine (HR7.out _ H2.out).mono ?_
            rintro e w9 ⟨K0, Kl0, Kc0, K1, Kl1, Kc1, K2, Kl2, Kc2, K3, Kl3, Kc3, K4, Kl4, Kc4, K5, Kl5, Kc5, D2, dd2, rfl, hbk⟩
            have QZ9 := Lib.hid (QZ.out.keep hbk)
            obtain ⟨y0, y1, y2, y3, y4, y5⟩ := QZ9.out.six
            have v0 := QZ9.out.free 0
            have v1 := QZ9.out.free 1
            have v2 := QZ9.out.free 2
            have v3 := QZ9.out.free 3
            have v4 := QZ9.out.free 4
            have v5 := QZ9.out.free 5
            refine hK.out _ _ ⟨fun h => Bool.noConfusion (show true = false from h), trivial⟩ ?_
            clear hK K
            try simp only [Act.put, List.setIfInBounds_toArray, List.set_cons_zero, List.set_cons_succ]
            refine headK_take (i := 5) (v := ?_) rfl (by kernel_rfl) (fun _ _ _ h => h) (fun _ _ _ h => passed_ready h.1) (Or.inl ⟨by rfl, ?hy5079⟩) ⟨fun h => Bool.noConfusion (show true = false from h), trivial⟩ ?rest5079
            case hy5079 => intro w _; go_simp; try (with_reducible rfl)
            case rest5079 =>
            try simp only [Act.put, List.setIfInBounds_toArray, List.set_cons_zero, List.set_cons_succ]
            refine headK_take (i := 6) (v := ?_) rfl (by kernel_rfl) (fun _ _ _ h => h) (fun _ _ _ h => passed_ready h.1) (Or.inl ⟨by rfl, ?hy5080⟩) ⟨fun h => Bool.noConfusion (show true = false from h), trivial⟩ ?rest5080
            case hy5080 => intro w _; go_simp; try (with_reducible rfl)
            case rest5080 =>
            try simp only [Act.put, List.setIfInBounds_toArray, List.set_cons_zero, List.set_cons_succ]
            refine headK_take (i := 7) (v := ?_) rfl (by kernel_rfl) (fun _ _ _ h => h) (fun _ _ _ h => passed_ready h.1) (Or.inl ⟨by rfl, ?hy5081⟩) ⟨fun h => Bool.noConfusion (show true = false from h), trivial⟩ ?rest5081
            case hy5081 => intro w _; go_simp; try (with_reducible rfl)
            case rest5081 =>
            try simp only [Act.put, List.setIfInBounds_toArray, List.set_cons_zero, List.set_cons_succ]
            refine headK_take (i := 8) (v := ?_) rfl (by kernel_rfl) (fun _ _ _ h => h) (fun _ _ _ h => passed_ready h.1) (Or.inl ⟨by rfl, ?hy5082⟩) ⟨fun h => Bool.noConfusion (show true = false from h), trivial⟩ ?rest5082
            case hy5082 => intro w _; go_simp; try (with_reducible rfl)
            case rest5082 =>
            try simp only [Act.put, List.setIfInBounds_toArray, List.set_cons_zero, List.set_cons_succ]
            refine headK_one (i := 10) (by kernel_rfl) rfl (fun K hK => ?_)
            go_simp
            refine hK.out _ _ ⟨fun h => Bool.noConfusion (show true = false from h), trivial⟩ ?_
            clear hK K
            try simp only [Act.put, List.setIfInBounds_toArray, List.set_cons_zero, List.set_cons_succ]
            refine headK_take (i := 11) (v := ?_) rfl (by kernel_rfl) (fun _ _ _ h => h) (fun _ _ _ h => passed_ready h.1) (Or.inl ⟨by rfl, ?hy5083⟩) ⟨fun h => Bool.noConfusion (show true = false from h), trivial⟩ ?rest5083
            case hy5083 => intro w _; go_simp; try (with_reducible rfl)
            case rest5083 =>
            try simp only [Act.put, List.setIfInBounds_toArray, List.set_cons_zero, List.set_cons_succ]
            refine headK_take (i := 12) (v := ?_) rfl (by kernel_rfl) (fun _ _ _ h => h) (fun _ _ _ h => passed_ready h.1) (Or.inl ⟨by rfl, ?hy5084⟩) ⟨fun h => Bool.noConfusion (show true = false from h), trivial⟩ ?rest5084
            case hy5084 => intro w _; go_simp; try (with_reducible rfl)
            case rest5084 =>
            try simp only [Act.put, List.setIfInBounds_toArray, List.set_cons_zero, List.set_cons_succ]
            refine ⟨by kernel_rfl, ?_⟩
            refine wpAny_done (by kernel_rfl) ?_ _
            go_wp2_with fail
            have hB8 := (((((((chain H2.out hbk).setCell (p := ⟨wA.heap.size, 0, none⟩) (Nat.le_refl _) (.slice K0 Kl0 Kc0)).setCell (p := ⟨wA.heap.size, 1, none⟩) (Nat.le_refl _) (.slice K1 Kl1 Kc1)).setCell (p := ⟨wA.heap.size, 2, none⟩) (Nat.le_refl _) (.slice K2 Kl2 Kc2)).setCell (p := ⟨wA.heap.size, 3, none⟩) (Nat.le_refl _) (.slice K3 Kl3 Kc3)).setCell (p := ⟨wA.heap.size, 4, none⟩) (Nat.le_refl _) (.slice K4 Kl4 Kc4)).setCell (p := ⟨wA.heap.size, 5, none⟩) (Nat.le_refl _) (.slice K5 Kl5 Kc5))
            have hQ8 := ((((((QZ9.out.put 0 (.slice K0 Kl0 Kc0)).put 1 (.slice K1 Kl1 Kc1)).put 2 (.slice K2 Kl2 Kc2)).put 3 (.slice K3 Kl3 Kc3)).put 4 (.slice K4 Kl4 Kc4)).put 5 (.slice K5 Kl5 Kc5))
            go_meet
            exact ⟨_, K0, Kl0, Kc0, K1, Kl1, Kc1, K2, Kl2, Kc2, K3, Kl3, Kc3, K4, Kl4, Kc4, K5, Kl5, Kc5, D2, _, dd2, 1, rfl, rfl, rfl, Lib.hid hQ8, Lib.hid (.inr rfl), Lib.hid hB8⟩
      case rest =>
        obtain ⟨g2, K0, Kl0, Kc0, K1, Kl1, Kc1, K2, Kl2, Kc2, K3, Kl3, Kc3, K4, Kl4, Kc4, K5, Kl5, Kc5, D2, n2, dd2, code, rfl, rfl, rfl, QKc, DKc, HBn⟩ := hcut
        obtain ⟨wB, hwB⟩ : ∃ x : World, x = wc := ⟨_, rfl⟩
        subst hwB
        clear r0 r1 r2 r3 r4 r5 s0 s1 s2 s3 s4 s5 QZ H1 H2 HWB NIc QI HST
        replace QAc := Lib.hid (QAc.out.keep HBn.out)
        replace QGc := Lib.hid (QGc.out.keep HBn.out)
        replace NGc := Lib.hid (NGc.out.keepB HBn.out)
        replace I7c := Lib.hid (I7c.out.below HBn.out)
        replace NWc := Lib.hid (NWc.out.keepB HBn.out)
        replace HPc := Lib.hid (HPc.out.below HBn.out)
        replace HBc := Lib.hid (chain HBc.out HBn.out)
        replace II := Lib.hid (II.out.below HBn.out)
        clear HBn
        go_upto_region 8 with (fail)
        go_cut [93] (fun v wx => v = .bool false ∧ Hid (Below wB.heap.size wB wx))
        case first =>
          rcases DKc.out with ⟨rfl, -⟩ | rfl
          · go_wp2_with fail
            refine (alive20_any _).mono ?_
            rintro e wx ⟨rfl, hb⟩
            go_wp2_with fail
            go_meet
            exact ⟨rfl, Lib.hid hb⟩
          · go_wp2_with fail
            refine (alive20_any _).mono ?_
            rintro e wx ⟨rfl, hb⟩
            go_wp2_with fail
            go_meet
            exact ⟨rfl, Lib.hid hb⟩
        case rest =>
          obtain ⟨rfl, HBn⟩ := hcut
          obtain ⟨wC, hwC⟩ : ∃ x : World, x = wc := ⟨_, rfl⟩
          subst hwC
          replace QAc := Lib.hid (QAc.out.keep HBn.out)
          replace QGc := Lib.hid (QGc.out.keep HBn.out)
          replace NGc := Lib.hid (NGc.out.keepB HBn.out)
          replace I7c := Lib.hid (I7c.out.below HBn.out)
          replace NWc := Lib.hid (NWc.out.keepB HBn.out)
          replace HPc := Lib.hid (HPc.out.below HBn.out)
          replace HBc := Lib.hid (chain HBc.out HBn.out)
          replace QKc := Lib.hid (QKc.out.keep HBn.out)
          replace DKc := Lib.hid (DKmove DKc.out HBn.out)
          replace II := Lib.hid (II.out.below HBn.out)
          clear HBn
          go_upto_region 10 with (fail)
          go_cut [110] (fun v wx => v = .bool false ∧ Hid (Below wC.heap.size wC wx))
          case first =>
            rcases DKc.out with ⟨rfl, hN, hI, hK⟩ | rfl
            · have HWC := HB6.out.trans (HBc.out.mono HB6.out.size)
              have HSm := Lib.hid (refSame_any (.agg #[.slice K0 Kl0 Kc0, .slice K1 Kl1 Kc1, .slice K2 Kl2 Kc2, .slice K3 Kl3 Kc3, .slice K4 Kl4 Kc4, .slice K5 Kl5 Kc5]) c2 (.agg #[.slice G0 c2.th.length Gc0, .slice G1 c2.pc.length Gc1, .slice G2 c2.su.length Gc2, .slice G3 c2.lo.length Gc3, .slice G4 c2.ce.length Gc4, .slice G5 c2.ch.length Gc5]) c2 wC (hN.sys HWC) (NGc.out.sys HWC) HSm0.out HSm0.out)
              rw [same_self] at HSm
              obtain rfl : n2 = ws2.length := hI.1.symm
              have HI2 := Lib.hid hI
              have HK2 := Lib.hid hK
              have hl1 : ws1.length ≤ 60 := by have h9 := congrArg List.length HWs.out; rw [List.length_append] at h9; omega
              have hl2 : ws2.length ≤ 60 := by have h9 := congrArg List.length HWs.out; rw [List.length_append] at h9; omega
              clear hN hI hK HWC
              obtain ⟨r0, r1, r2, r3, r4, r5⟩ := QKc.out.six
              obtain ⟨q0, q1, q2, q3, q4, q5⟩ := QGc.out.six
              go_wp2_with fail
              refine HSm.out.mono ?_
              rintro e wx ⟨rfl, hb⟩
              have HBx := Lib.hid hb
              have ab : Below wx.heap.size wx (wx.alloc (.cells #[.slice D ws1.length dd, .slice D2 ws2.length dd2] 23)) := (Below.refl _ _).alloc (Nat.le_refl _) _
              have HBy := Lib.hid (chain hb ab)
              have HCc := Lib.hid (concat2_any wx.heap.size 23 D ws1.length dd ws1 D2 ws2.length dd2 ws2 _ (Box.new wx 23 #[.slice D ws1.length dd, .slice D2 ws2.length dd2]) (II.out.below HBy.out) (HI2.out.below HBy.out) (fun e => (KI.out.2.2 e).1) (fun e => (HK2.out.2.2 e).1) (by omega) (by omega))
              rw [HWs.out] at HCc
              clear hb ab r0 r1 r2 r3 r4 r5 q0 q1 q2 q3 q4 q5
              go_wp2_with fail
              refine HCc.out.mono ?_
              rintro e wy ⟨F9, f9, rfl, ho, hb⟩
              have HNm := Lib.hid (refNumbers_any F9 B ws.length f9 ws.length d ws ws wy (OwnI.ints ho H64.out) (I7c.out.below (chain HBy.out hb)) (by omega) (by omega))
              rw [show sameZ ws ws = true from decide_eq_true rfl] at HNm
              have HBz := Lib.hid (chain HBy.out hb)
              clear hb ho
              go_wp2_with fail
              refine HNm.out.mono ?_
              rintro e wz ⟨rfl, hb⟩
              have HBq := Lib.hid (chain HBz.out hb)
              clear hb
              go_wp2_with fail
              go_meet
              exact ⟨rfl, HBq⟩
            · go_wp2_with fail
              go_meet
              exact ⟨rfl, Lib.hid (Below.refl _ _)⟩
          case rest =>
            obtain ⟨rfl, HBn⟩ := hcut
            obtain ⟨wD, hwD⟩ : ∃ x : World, x = wc := ⟨_, rfl⟩
            subst hwD
            replace QAc := Lib.hid (QAc.out.keep HBn.out)
            replace QGc := Lib.hid (QGc.out.keep HBn.out)
            replace NGc := Lib.hid (NGc.out.keepB HBn.out)
            replace I7c := Lib.hid (I7c.out.below HBn.out)
            replace NWc := Lib.hid (NWc.out.keepB HBn.out)
            replace HPc := Lib.hid (HPc.out.below HBn.out)
            replace HBc := Lib.hid (chain HBc.out HBn.out)
            clear HBn QKc DKc II KI HWs
            obtain ⟨r0, r1, r2, r3, r4, r5⟩ := QAc.out.six
            go_upto_region 13 with (fail)
            have ab : Below wD.heap.size wD (wD.alloc (.cells #[.slice E0 k0 f0, .slice E1 k1 f1, .slice E2 k2 f2, .slice E3 k3 f3, .slice E4 k4 f4, .slice E5 k5 f5] 26)) := (Below.refl _ _).alloc (Nat.le_refl _) _
            have hg7 : w7.heap.size < wD.heap.size := QGc.out.lt
            have hgW : W.heap.size ≤ wD.heap.size := (HB6.out.trans (HBc.out.mono HB6.out.size)).size
            have QX0 := Lib.hid (Box.new wD 26 #[.slice E0 k0 f0, .slice E1 k1 f1, .slice E2 k2 f2, .slice E3 k3 f3, .slice E4 k4 f4, .slice E5 k5 f5])
            have NX0 := Lib.hid (NWc.out.keepB ab)
            have QG0 := Lib.hid (QGc.out.keep ab)
            have NG0 := Lib.hid (NGc.out.keepB ab)
            have I70 := Lib.hid (I7c.out.below ab)
            have HBw0 := Lib.hid (HB6.out.trans ((chain HBc.out ab).mono HB6.out.size))
            have HGd1 : Hid (c2 = foldS (fewS sa) ws) := Lib.hid HGd.out.1
            have HGd2 : Hid (∀ i, i < ws.length → okAt (fewS sa) ws i) := Lib.hid HGd.out.2
            clear ab r0 r1 r2 r3 r4 r5 QAc QGc NGc I7c NWc HPc HBc HGd
            obtain ⟨wE, hwE⟩ : ∃ x, x = wD.alloc (.cells #[.slice E0 k0 f0, .slice E1 k1 f1, .slice E2 k2 f2, .slice E3 k3 f3, .slice E4 k4 f4, .slice E5 k5 f5] 26) := ⟨_, rfl⟩
            rw [← hwE] at QX0 NX0 QG0 NG0 I70 HBw0 ⊢
            clear hwE
            have hw64 : ws.length ≤ 9223372036854775807 := by omega
            go_wp2_with fail
            go_loopw [114] (fun t wr => ∃ (i : Nat) (X0 : Option Addr) (Xl0 Xc0 : Nat) (X1 : Option Addr) (Xl1 Xc1 : Nat) (X2 : Option Addr) (Xl2 Xc2 : Nat) (X3 : Option Addr) (Xl3 Xc3 : Nat) (X4 : Option Addr) (Xl4 Xc4 : Nat) (X5 : Option Addr) (Xl5 Xc5 : Nat), i ≤ ws.length ∧ t = .int .i64 (i : Int) ∧ Hid (Box wr wD.heap.size 26 #[.slice X0 Xl0 Xc0, .slice X1 Xl1 Xc1, .slice X2 Xl2 Xc2, .slice X3 Xl3 Xc3, .slice X4 Xl4 Xc4, .slice X5 Xl5 Xc5]) ∧ Hid (NowAt W wr (.agg #[.slice X0 Xl0 Xc0, .slice X1 Xl1 Xc1, .slice X2 Xl2 Xc2, .slice X3 Xl3 Xc3, .slice X4 Xl4 Xc4, .slice X5 Xl5 Xc5]) (foldS (fewS sa) (ws.take i))) ∧ Hid (Box wr w7.heap.size 26 #[.slice G0 c2.th.length Gc0, .slice G1 c2.pc.length Gc1, .slice G2 c2.su.length Gc2, .slice G3 c2.lo.length Gc3, .slice G4 c2.ce.length Gc4, .slice G5 c2.ch.length Gc5]) ∧ Hid (NowAt W wr (.agg #[.slice G0 c2.th.length Gc0, .slice G1 c2.pc.length Gc1, .slice G2 c2.su.length Gc2, .slice G3 c2.lo.length Gc3, .slice G4 c2.ce.length Gc4, .slice G5 c2.ch.length Gc5]) c2) ∧ Hid (Ints wr B ws.length ws) ∧ Hid (Below W.heap.size W wr)) (fun t _ => ws.length - (Go.RowKit.intOf t).toNat)
            case atStart => exact ⟨0, E0, k0, f0, E1, k1, f1, E2, k2, f2, E3, k3, f3, E4, k4, f4, E5, k5, f5, Nat.zero_le _, rfl, QX0, NX0, QG0, NG0, I70, HBw0⟩
            case round =>
              obtain ⟨i, X0, Xl0, Xc0, X1, Xl1, Xc1, X2, Xl2, Xc2, X3, Xl3, Xc3, X4, Xl4, Xc4, X5, Xl5, Xc5, hi, rfl, QX, NX, QG, NG, I7, HBw⟩ := hrel
              obtain ⟨wR, hwR⟩ : ∃ x : World, x = wr := ⟨_, rfl⟩
              subst hwR
              clear QX0 NX0 QG0 NG0 I70 HBw0
              obtain ⟨r0, r1, r2, r3, r4, r5⟩ := QX.out.six
              by_cases hlt : i < ws.length
              · omega
              · obtain rfl : i = ws.length := by omega
                have hlt' : ¬ ((ws.length : Nat) : Int) < (ws.length : Int) := by omega
                have hE : foldS (fewS sa) (ws.take ws.length) = c2 := by rw [List.take_length]; exact HGd1.out.symm
                rw [hE] at NX
                have HSm := Lib.hid (refSame_any (.agg #[.slice X0 Xl0 Xc0, .slice X1 Xl1 Xc1, .slice X2 Xl2 Xc2, .slice X3 Xl3 Xc3, .slice X4 Xl4 Xc4, .slice X5 Xl5 Xc5]) c2 (.agg #[.slice G0 c2.th.length Gc0, .slice G1 c2.pc.length Gc1, .slice G2 c2.su.length Gc2, .slice G3 c2.lo.length Gc3, .slice G4 c2.ce.length Gc4, .slice G5 c2.ch.length Gc5]) c2 wR (NX.out.sys HBw.out) (NG.out.sys HBw.out) HSm0.out HSm0.out)
                rw [same_self] at HSm
                clear hE
                obtain ⟨q0, q1, q2, q3, q4, q5⟩ := QG.out.six
                go_wp2_with fail
                refine HSm.out.mono ?_
                rintro e wz ⟨rfl, hb⟩
                have HF := Lib.hid (chain HBw.out hb)
                clear hb
                go_wp2_with fail
                go_ret
                exact ⟨rfl, HF.out⟩
theorem parts20_any (va : Value) (sa : Sys) (A : Option Addr) (l c : Nat) (ps : List Int) (kv : Int) (hv1 : -9223372036854775808 ≤ kv) (hv2 : kv ≤ 9223372036854775807) (hs : SliceOk A l c) (W : World) (ha : SysAt W va sa) (hp : Ints W A l ps) : Calls Try.prog 7 #[va, .slice A l c, .int .i64 kv] W fun e w' => e = .returned (.bool true) ∧ Below W.heap.size W w' := by
  cases A with
  | none =>
    obtain ⟨rfl, rfl⟩ := hs.2.2 rfl
    exact parts20_none va sa ps kv hv1 hv2 W ha hp
  | some ad => exact parts20_some va sa ad l c ps kv hv1 hv2 hs W ha hp
end Go.Proofs.Ytcamoigcfiemhaa
