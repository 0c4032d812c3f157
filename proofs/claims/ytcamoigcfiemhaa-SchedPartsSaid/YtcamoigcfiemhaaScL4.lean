/- Layer 20: SchedParts. -/
import Derived.Test.YtcamoigcfiemhaaScPb
import Derived.Test.YtcamoigcfiemhaaScMb
import Derived.Test.YtcamoigcfiemhaaKTwo
namespace Go.Proofs.Ytcamoigcfiemhaa
set_option linter.unusedVariables false
set_option linter.unusedSimpArgs false
open Go.RowKit Go.Lib
set_option maxRecDepth 100000
theorem DKmove {W w w' : World} {code : Int} {v : Value} {c : Sys} {A : Option Addr} {n d : Nat} {ws : List Int} (h : (code = 0 ∧ NowAt W w v c ∧ Ints w A n ws ∧ SliceOk A n d) ∨ code = 1) (hb : Below w.heap.size w w') : (code = 0 ∧ NowAt W w' v c ∧ Ints w' A n ws ∧ SliceOk A n d) ∨ code = 1 := by
  rcases h with ⟨h1, h2, h3, h4⟩ | h
  · exact .inl ⟨h1, h2.keepB hb, h3.below hb, h4⟩
  · exact .inr h
theorem ints_dropA {w : World} {ad : Addr} {kk c j : Nat} {qs : List Int} (h : Ints w (some ad) kk qs) (hj : j ≤ kk) (hc : kk ≤ c) : Ints w (if j = c then some ad else some (ad.add j)) (kk - j) (qs.drop j) := by
  by_cases q : j < kk
  · obtain ⟨b, o, e, -⟩ := h.2.2 (by omega)
    injection e with e
    subst e
    rw [if_neg (by omega)]
    exact Ints.dropK h j hj _ (fun _ => by rw [addP])
  · have e0 : kk - j = 0 := by omega
    have e1 : qs.drop j = [] := List.drop_of_length_le (by rw [h.1]; omega)
    rw [e0, e1]
    exact Ints.nil _ _
set_option maxHeartbeats 16000000 in
theorem parts20_some (va : Value) (sa : Sys) (ad : Addr) (l c : Nat) (ps : List Int) (kv : Int) (hv1 : -9223372036854775808 ≤ kv) (hv2 : kv ≤ 9223372036854775807) (hs : SliceOk (some ad) l c) (W : World) (ha : SysAt W va sa) (hp : Ints W (some ad) l ps) : Calls Try.prog 7 #[va, .slice (some ad) l c, .int .i64 kv] W fun e w' => e = .returned (.bool true) ∧ Below W.heap.size W w' := by
  have HSa := Lib.hid ha
  obtain ⟨A0, l0, c0, A1, l1, c1, A2, l2, c2, A3, l3, c3, A4, l4, c4, A5, l5, c5, rfl, har⟩ := ha
  clear har
  obtain ⟨kk, hkk⟩ : ∃ k, k = min l 60 := ⟨_, rfl⟩
  have HP := Lib.hid (Ints.take hp kk (by omega))
  have hm2 : min (l : Int) 60 = (kk : Int) := by omega
  have g1 : (kk : Int) ≤ (c : Int) := by have := hs.1; omega
  have g2 : (0 : Int) ≤ (kk : Int) := by omega
  have hk60 : kk ≤ 60 := by omega
  have HKc := Lib.hid (show kk ≤ c by omega)
  obtain ⟨qs, hqs⟩ : ∃ qs, qs = ps.take kk := ⟨_, rfl⟩
  rw [← hqs] at HP
  clear hp hs hkk hqs
  have b2 : Below W.heap.size W (W.alloc (.cells #[.slice A0 l0 c0, .slice A1 l1 c1, .slice A2 l2 c2, .slice A3 l3 c3, .slice A4 l4 c4, .slice A5 l5 c5] 26)) := (Below.refl W.heap.size W).alloc (Nat.le_refl _) _
  have HB2 := Lib.hid b2.drew
  have QA2 := Lib.hid (Box.new W 26 #[.slice A0 l0 c0, .slice A1 l1 c1, .slice A2 l2 c2, .slice A3 l3 c3, .slice A4 l4 c4, .slice A5 l5 c5]).drew
  clear b2
  obtain ⟨r0, r1, r2, r3, r4, r5⟩ := QA2.out.six
  go_enter Try.func7, Try.ntmps7
  go_upto_region 1 with (fail)
  refine wp_heldK_bar [(7, (fun (w' : World) => w'.cell? ⟨W.heap.size, 0, none⟩ = some (.slice A0 l0 c0) ∧ w'.cell? ⟨W.heap.size, 1, none⟩ = some (.slice A1 l1 c1) ∧ w'.cell? ⟨W.heap.size, 2, none⟩ = some (.slice A2 l2 c2) ∧ w'.cell? ⟨W.heap.size, 3, none⟩ = some (.slice A3 l3 c3) ∧ w'.cell? ⟨W.heap.size, 4, none⟩ = some (.slice A4 l4 c4) ∧ w'.cell? ⟨W.heap.size, 5, none⟩ = some (.slice A5 l5 c5)))] 9 (by kernel_rfl) (by decide) ?_
  have hS0 := (show ((fun (w' : World) => w'.cell? ⟨W.heap.size, 0, none⟩ = some (.slice A0 l0 c0) ∧ w'.cell? ⟨W.heap.size, 1, none⟩ = some (.slice A1 l1 c1) ∧ w'.cell? ⟨W.heap.size, 2, none⟩ = some (.slice A2 l2 c2) ∧ w'.cell? ⟨W.heap.size, 3, none⟩ = some (.slice A3 l3 c3) ∧ w'.cell? ⟨W.heap.size, 4, none⟩ = some (.slice A4 l4 c4) ∧ w'.cell? ⟨W.heap.size, 5, none⟩ = some (.slice A5 l5 c5))) (W.alloc (.cells #[.slice A0 l0 c0, .slice A1 l1 c1, .slice A2 l2 c2, .slice A3 l3 c3, .slice A4 l4 c4, .slice A5 l5 c5] 26)).drew from ⟨r0, r1, r2, r3, r4, r5⟩)
  refine headK_take (i := 2) (v := ?_) rfl (by kernel_rfl) (fun _ _ _ h => h) (fun _ _ _ h => passed_ready h.1) (Or.inl ⟨by rfl, ?hy1⟩) ⟨fun _ => hS0, trivial⟩ ?rest1
  case hy1 => intro w _; go_simp; try (with_reducible rfl)
  case rest1 =>
  try simp only [Act.put, List.setIfInBounds_toArray, List.set_cons_zero, List.set_cons_succ]
  refine headK_take (i := 3) (v := ?_) rfl (by kernel_rfl) (fun _ _ _ h => h) (fun _ _ _ h => passed_ready h.1) (Or.inl ⟨by rfl, ?hy2⟩) ⟨fun _ => hS0, trivial⟩ ?rest2
  case hy2 => intro w _; go_simp; try (with_reducible rfl)
  case rest2 =>
  try simp only [Act.put, List.setIfInBounds_toArray, List.set_cons_zero, List.set_cons_succ]
  refine headK_take (i := 4) (v := ?_) rfl (by kernel_rfl) (fun _ _ _ h => h) (fun _ _ _ h => passed_ready h.1) (Or.inl ⟨by rfl, ?hy3⟩) ⟨fun _ => hS0, trivial⟩ ?rest3
  case hy3 => intro w _; go_simp; try (with_reducible rfl)
  case rest3 =>
  try simp only [Act.put, List.setIfInBounds_toArray, List.set_cons_zero, List.set_cons_succ]
  refine headK_take (i := 5) (v := ?_) rfl (by kernel_rfl) (fun _ _ _ h => h) (fun _ _ _ h => passed_ready h.1) (Or.inl ⟨by rfl, ?hy4⟩) ⟨fun _ => hS0, trivial⟩ ?rest4
  case hy4 => intro w _; go_simp; try (with_reducible rfl)
  case rest4 =>
  try simp only [Act.put, List.setIfInBounds_toArray, List.set_cons_zero, List.set_cons_succ]
  refine headK_take (i := 6) (v := ?_) rfl (by kernel_rfl) (fun _ _ _ h => h) (fun _ _ _ h => passed_ready h.1) (Or.inl ⟨by rfl, ?hy5⟩) ⟨fun _ => hS0, trivial⟩ ?rest5
  case hy5 => intro w _; go_simp; try (with_reducible rfl)
  case rest5 =>
  try simp only [Act.put, List.setIfInBounds_toArray, List.set_cons_zero, List.set_cons_succ]
  refine headK_load 0 7 _ rfl (i := 0) (v := ?_) rfl (by kernel_rfl) (fun _ _ _ h => h) (fun _ _ _ h => passed_ready h.1) (Or.inl ⟨by rfl, ?hy6⟩) ⟨fun _ => hS0, trivial⟩ ?rest6
  case hy6 => intro w hSw; (try dsimp only at hSw); obtain ⟨hc0, hc1, hc2, hc3, hc4, hc5⟩ := hSw; go_simp; try (with_reducible rfl)
  case rest6 =>
  try simp only [Act.put, List.setIfInBounds_toArray, List.set_cons_zero, List.set_cons_succ]
  refine headK_one (i := 1) (by kernel_rfl) rfl (fun K hK => ?_)
  go_simp
  refine (few20_any _ sa W _ HSa.out HB2.out).mono ?_
  rintro e w3 ⟨va', rfl, hfa, hb⟩
  have FA3 := Lib.hid hfa
  have HB3 := Lib.hid (chain HB2.out hb)
  have QA3 := Lib.hid (QA2.out.keep hb)
  have HG3 : W.heap.size < (W.alloc (.cells #[.slice A0 l0 c0, .slice A1 l1 c1, .slice A2 l2 c2, .slice A3 l3 c3, .slice A4 l4 c4, .slice A5 l5 c5] 26)).drew.heap.size := QA2.out.lt
  clear hfa hb r0 r1 r2 r3 r4 r5
  obtain ⟨r0, r1, r2, r3, r4, r5⟩ := QA3.out.six
  obtain ⟨E0, k0, f0, E1, k1, f1, E2, k2, f2, E3, k3, f3, E4, k4, f4, E5, k5, f5, hva, hfr⟩ := id FA3.out
  subst hva
  clear hfr
  have u0 := QA3.out.free 0
  have u1 := QA3.out.free 1
  have u2 := QA3.out.free 2
  have u3 := QA3.out.free 3
  have u4 := QA3.out.free 4
  have u5 := QA3.out.free 5
  have hS0 := (show ((fun (w' : World) => w'.cell? ⟨W.heap.size, 0, none⟩ = some (.slice A0 l0 c0) ∧ w'.cell? ⟨W.heap.size, 1, none⟩ = some (.slice A1 l1 c1) ∧ w'.cell? ⟨W.heap.size, 2, none⟩ = some (.slice A2 l2 c2) ∧ w'.cell? ⟨W.heap.size, 3, none⟩ = some (.slice A3 l3 c3) ∧ w'.cell? ⟨W.heap.size, 4, none⟩ = some (.slice A4 l4 c4) ∧ w'.cell? ⟨W.heap.size, 5, none⟩ = some (.slice A5 l5 c5))) w3 from ⟨r0, r1, r2, r3, r4, r5⟩)
  refine hK.out _ _ ⟨fun _ => hS0, trivial⟩ ?_
  clear hK K
  try simp only [Act.put, List.setIfInBounds_toArray, List.set_cons_zero, List.set_cons_succ]
  refine headK_one (i := 7) (by kernel_rfl) rfl (fun K hK => ?_)
  go_simp
  refine hK.out _ _ ⟨fun h => Bool.noConfusion (show true = false from h), trivial⟩ ?_
  clear hK K
  try simp only [Act.put, List.setIfInBounds_toArray, List.set_cons_zero, List.set_cons_succ]
  refine headK_take (i := 8) (v := ?_) rfl (by kernel_rfl) (fun _ _ _ h => h) (fun _ _ _ h => passed_ready h.1) (Or.inl ⟨by rfl, ?hy7⟩) ⟨fun h => Bool.noConfusion (show true = false from h), trivial⟩ ?rest7
  case hy7 => intro w _; go_simp; try (with_reducible rfl)
  case rest7 =>
  try simp only [Act.put, List.setIfInBounds_toArray, List.set_cons_zero, List.set_cons_succ]
  refine ⟨by kernel_rfl, ?_⟩
  refine wpAny_done (by kernel_rfl) ?_ _
  go_upto_region 2 with (fail)
  clear r0 r1 r2 r3 r4 r5 u0 u1 u2 u3 u4 u5 hS0
  have hg1 := set6_grown w3 (W.heap.size) (.slice E0 k0 f0) (.slice E1 k1 f1) (.slice E2 k2 f2) (.slice E3 k3 f3) (.slice E4 k4 f4) (.slice E5 k5 f5)
  obtain ⟨w6, hw6⟩ : ∃ x, x = (set6L w3 (W.heap.size) (.slice E0 k0 f0) (.slice E1 k1 f1) (.slice E2 k2 f2) (.slice E3 k3 f3) (.slice E4 k4 f4) (.slice E5 k5 f5)) := ⟨_, rfl⟩
  have HB6 := Lib.hid (show Below W.heap.size W w6 by rw [hw6]; exact ((((((HB3.out.setCell (p := ⟨W.heap.size, 0, none⟩) (Nat.le_refl _) (.slice E0 k0 f0)).setCell (p := ⟨W.heap.size, 1, none⟩) (Nat.le_refl _) (.slice E1 k1 f1)).setCell (p := ⟨W.heap.size, 2, none⟩) (Nat.le_refl _) (.slice E2 k2 f2)).setCell (p := ⟨W.heap.size, 3, none⟩) (Nat.le_refl _) (.slice E3 k3 f3)).setCell (p := ⟨W.heap.size, 4, none⟩) (Nat.le_refl _) (.slice E4 k4 f4)).setCell (p := ⟨W.heap.size, 5, none⟩) (Nat.le_refl _) (.slice E5 k5 f5)))
  have QAc := Lib.hid (show Box w6 (W.heap.size) 26 #[.slice E0 k0 f0, .slice E1 k1 f1, .slice E2 k2 f2, .slice E3 k3 f3, .slice E4 k4 f4, .slice E5 k5 f5] by rw [hw6]; exact ((((((QA3.out.put 0 (.slice E0 k0 f0)).put 1 (.slice E1 k1 f1)).put 2 (.slice E2 k2 f2)).put 3 (.slice E3 k3 f3)).put 4 (.slice E4 k4 f4)).put 5 (.slice E5 k5 f5)))
  rw [← hw6] at hg1
  have FA6 := Lib.hid (FA3.out.grown hg1 HG3)
  simp only [set6L] at hw6
  rw [← hw6]
  clear hw6 hg1 QA3 FA3 HB3 QA2 HB2 HG3
  have HS6 := Lib.hid (FA6.out.sys HB6.out)
  have HPc := Lib.hid (HP.out.below HB6.out)
  have NWc := Lib.hid (show NowAt W w6 (.agg #[.slice E0 k0 f0, .slice E1 k1 f1, .slice E2 k2 f2, .slice E3 k3 f3, .slice E4 k4 f4, .slice E5 k5 f5]) (fewS sa) from ⟨.inl ⟨_, FA6.out⟩, HS6.out.nums⟩)
  have HQl := Lib.hid HPc.out.1
  clear FA6
  obtain ⟨r0, r1, r2, r3, r4, r5⟩ := QAc.out.six
  cases hr : rightS (fewS sa) with
  | false =>
    have HRn := Lib.hid (run_no_any (.agg #[.slice E0 k0 f0, .slice E1 k1 f1, .slice E2 k2 f2, .slice E3 k3 f3, .slice E4 k4 f4, .slice E5 k5 f5]) (fewS sa) w6 HS6.out (some ad) kk c qs HPc.out (by omega) hr)
    clear hr
    go_wp2_with fail
    refine HRn.out.mono ?_
    rintro e w7 ⟨G0, u0, x0, G1, u1, x1, G2, u2, x2, G3, u3, x3, G4, u4, x4, G5, u5, x5, B, d, rfl, hb⟩
    have HBc := Lib.hid (chain hb ((Below.refl w7.heap.size w7).alloc (Nat.le_refl _) (.cells #[.slice G0 u0 x0, .slice G1 u1 x1, .slice G2 u2 x2, .slice G3 u3 x3, .slice G4 u4 x4, .slice G5 u5 x5] 26)))
    clear hb r0 r1 r2 r3 r4 r5
    go_wp2_with fail
    refine (alive20_any _).mono ?_
    rintro e wb ⟨rfl, hb⟩
    have HF := Lib.hid (HB6.out.trans ((chain HBc.out hb).mono HB6.out.size))
    clear hb
    go_wp2_with fail
    go_ret
    exact ⟨rfl, HF.out⟩
  | true =>
    have HW0 := Lib.hid (WR.of hr)
    have HRn := Lib.hid (run_ok_any (.agg #[.slice E0 k0 f0, .slice E1 k1 f1, .slice E2 k2 f2, .slice E3 k3 f3, .slice E4 k4 f4, .slice E5 k5 f5]) (fewS sa) w6 HS6.out (some ad) kk c qs HPc.out (by omega) hr)
    have HSm0 := Lib.hid (small_of (run_wr HW0.out qs))
    have HNc := Lib.hid ((run_wr HW0.out qs).nums (by rw [HQl.out]; omega))
    have hwl := run_len (fewS sa) qs
    rw [HQl.out] at hwl
    have H64 := Lib.hid (went_small (fewS sa) qs HW0.out.n8)
    have HGd := Lib.hid (run_good (fewS sa) qs)
    have HPt := Lib.hid (run_parts (fewS sa) qs)
    obtain ⟨st, hst⟩ : ∃ st, st = runS (fewS sa) qs := ⟨_, rfl⟩
    rw [← hst] at hwl HRn HSm0 HNc HGd HPt H64
    obtain ⟨c', ws⟩ := st
    have hwl : ws.length ≤ kk := hwl
    have HSm0 : Hid (Small c') := HSm0
    have HNc : Hid (Nums c') := HNc
    have H64 : Hid (In64 ws) := H64
    have HGd : Hid (Good (fewS sa) (c', ws)) := HGd
    have HPt : Hid (∀ j, (runS (runS (fewS sa) (qs.take j)).1 (qs.drop j)).1 = c' ∧ (runS (fewS sa) (qs.take j)).2 ++ (runS (runS (fewS sa) (qs.take j)).1 (qs.drop j)).2 = ws) := HPt
    have HRt := Lib.hid hr
    clear hr hst
    go_wp2_with fail
    refine HRn.out.mono ?_
    rintro e w7 ⟨G0, Gc0, G1, Gc1, G2, Gc2, G3, Gc3, G4, Gc4, G5, Gc5, B, d, rfl, hM, hi7, hk7, hb⟩
    have ab : Below w7.heap.size w7 (w7.alloc (.cells #[.slice G0 c'.th.length Gc0, .slice G1 c'.pc.length Gc1, .slice G2 c'.su.length Gc2, .slice G3 c'.lo.length Gc3, .slice G4 c'.ce.length Gc4, .slice G5 c'.ch.length Gc5] 26)) := (Below.refl _ _).alloc (Nat.le_refl _) _
    replace QAc := Lib.hid ((QAc.out.keep hb).keep ab)
    have NGc := Lib.hid (NowAt.keepB (show NowAt W w7 (.agg #[.slice G0 c'.th.length Gc0, .slice G1 c'.pc.length Gc1, .slice G2 c'.su.length Gc2, .slice G3 c'.lo.length Gc3, .slice G4 c'.ce.length Gc4, .slice G5 c'.ch.length Gc5]) c' from ⟨.inr hM, HNc.out⟩) ab)
    have I7c := Lib.hid (show Ints _ B ws.length ws from hi7.below ab)
    have QGc := Lib.hid (Box.new w7 26 #[.slice G0 c'.th.length Gc0, .slice G1 c'.pc.length Gc1, .slice G2 c'.su.length Gc2, .slice G3 c'.lo.length Gc3, .slice G4 c'.ce.length Gc4, .slice G5 c'.ch.length Gc5])
    have HBc := Lib.hid (chain hb ab)
    replace NWc := Lib.hid ((NWc.out.keepB hb).keepB ab)
    replace HPc := Lib.hid ((HPc.out.below hb).below ab)
    have HSB := Lib.hid (show SliceOk B ws.length d from hk7)
    clear hb ab hM hi7 hk7 r0 r1 r2 r3 r4 r5 HRn
    go_upto_region 3 with (fail)
    obtain ⟨w8, hw8⟩ : ∃ x, x = w7.alloc (.cells #[.slice G0 c'.th.length Gc0, .slice G1 c'.pc.length Gc1, .slice G2 c'.su.length Gc2, .slice G3 c'.lo.length Gc3, .slice G4 c'.ce.length Gc4, .slice G5 c'.ch.length Gc5] 26) := ⟨_, rfl⟩
    rw [← hw8] at QAc NGc I7c QGc HBc NWc HPc ⊢
    clear hw8
    have z0 : (0 : Int) < (kk : Int) + 1 := by omega
    have z1 : ¬ (kk : Int) + 1 = 0 := by omega
    have z2 : -((kk : Int) + 1) < kv.tmod ((kk : Int) + 1) := Int.lt_tmod_of_pos kv z0
    have z3 : kv.tmod ((kk : Int) + 1) < (kk : Int) + 1 := Int.tmod_lt_of_pos kv z0
    have z4 : (kk : Int) ≤ 60 := by omega
    have hmp := Int.emod_nonneg (kv.tmod ((kk : Int) + 1) + kk + 1) (show ((kk : Int) + 1) ≠ 0 by omega)
    have hmq := Int.emod_lt_of_pos (kv.tmod ((kk : Int) + 1) + kk + 1) (show (0 : Int) < (kk : Int) + 1 by omega)
    obtain ⟨j, hmod⟩ := Nat.of_int hmp
    rw [hmod] at hmq
    have hjk : j ≤ kk := by omega
    have hjc : (j : Int) ≤ (c : Int) := by omega
    have hj0 : (0 : Int) ≤ (j : Int) := by omega
    clear hmp hmq
    go_upto_region 6 with (fail)
    rw [hmod]
    clear z0 z1 z2 z3 z4 hmod
    have HTk := Lib.hid (Ints.take HPc.out j hjk)
    have HWA := Lib.hid (HB6.out.trans (HBc.out.mono HB6.out.size))
    have HR6 := Lib.hid (fun wx (hb : Below w8.heap.size w8 wx) => run_ok_any (.agg #[.slice E0 k0 f0, .slice E1 k1 f1, .slice E2 k2 f2, .slice E3 k3 f3, .slice E4 k4 f4, .slice E5 k5 f5]) (fewS sa) wx ((NWc.out.keepB hb).sys (HWA.out.trans (hb.mono HWA.out.size))) (some ad) j c (qs.take j) (HTk.out.below hb) (by omega) HRt.out)
    have HW1 := Lib.hid (run_wr HW0.out (qs.take j))
    have HN1 := Lib.hid (HW1.out.nums (by have := List.length_take_le j qs; omega))
    have HP1 := Lib.hid (HPt.out j)
    obtain ⟨st1, hst1⟩ : ∃ st, st = runS (fewS sa) (qs.take j) := ⟨_, rfl⟩
    rw [← hst1] at HR6 HN1 HP1
    obtain ⟨a1, ws1⟩ := st1
    have HN1 : Hid (Nums a1) := HN1
    have HP1 : Hid ((runS a1 (qs.drop j)).1 = c' ∧ ws1 ++ (runS a1 (qs.drop j)).2 = ws) := HP1
    clear hst1 HPt HW1
    have H1 := Lib.hid (show Below w8.heap.size w8 w8.drew from (Below.refl _ _).drew)
    have H2 := Lib.hid (show Below w8.heap.size w8 (w8.alloc (.cells #[.slice none 0 0, .slice none 0 0, .slice none 0 0, .slice none 0 0, .slice none 0 0, .slice none 0 0] 26)).drew from ((Below.refl _ _).alloc (Nat.le_refl _) _).drew)
    have QZ := Lib.hid (show Box (w8.alloc (.cells #[.slice none 0 0, .slice none 0 0, .slice none 0 0, .slice none 0 0, .slice none 0 0, .slice none 0 0] 26)).drew w8.heap.size 26 #[.slice none 0 0, .slice none 0 0, .slice none 0 0, .slice none 0 0, .slice none 0 0, .slice none 0 0] from (Box.new w8 26 #[.slice none 0 0, .slice none 0 0, .slice none 0 0, .slice none 0 0, .slice none 0 0, .slice none 0 0]).drew)
    obtain ⟨r0, r1, r2, r3, r4, r5⟩ := QAc.out.six
    obtain ⟨s0, s1, s2, s3, s4, s5⟩ := (QAc.out.keep H2.out).six
    go_cut [10, 11, 12] (fun pv wv cv wx => ∃ (g : Nat) (I0 : Option Addr) (Ic0 : Nat) (I1 : Option Addr) (Ic1 : Nat) (I2 : Option Addr) (Ic2 : Nat) (I3 : Option Addr) (Ic3 : Nat) (I4 : Option Addr) (Ic4 : Nat) (I5 : Option Addr) (Ic5 : Nat) (D : Option Addr) (dd : Nat), pv = .pointer (some ⟨g, 0, none⟩) ∧ wv = .slice D ws1.length dd ∧ cv = .int .i64 0 ∧ Hid (Box wx g 26 #[.slice I0 a1.th.length Ic0, .slice I1 a1.pc.length Ic1, .slice I2 a1.su.length Ic2, .slice I3 a1.lo.length Ic3, .slice I4 a1.ce.length Ic4, .slice I5 a1.ch.length Ic5]) ∧ Hid (∃ M, OwnM M wx (.agg #[.slice I0 a1.th.length Ic0, .slice I1 a1.pc.length Ic1, .slice I2 a1.su.length Ic2, .slice I3 a1.lo.length Ic3, .slice I4 a1.ce.length Ic4, .slice I5 a1.ch.length Ic5]) a1) ∧ Hid (Ints wx D ws1.length ws1) ∧ Hid (SliceOk D ws1.length dd) ∧ Hid (Below w8.heap.size w8 wx))
    case first =>
      refine wp_heldK_bar [(4, (fun (w' : World) => w'.cell? ⟨W.heap.size, 0, none⟩ = some (.slice E0 k0 f0) ∧ w'.cell? ⟨W.heap.size, 1, none⟩ = some (.slice E1 k1 f1) ∧ w'.cell? ⟨W.heap.size, 2, none⟩ = some (.slice E2 k2 f2) ∧ w'.cell? ⟨W.heap.size, 3, none⟩ = some (.slice E3 k3 f3) ∧ w'.cell? ⟨W.heap.size, 4, none⟩ = some (.slice E4 k4 f4) ∧ w'.cell? ⟨W.heap.size, 5, none⟩ = some (.slice E5 k5 f5)))] 13 (by kernel_rfl) (by decide) ?_
      have hS0 := (show ((fun (w' : World) => w'.cell? ⟨W.heap.size, 0, none⟩ = some (.slice E0 k0 f0) ∧ w'.cell? ⟨W.heap.size, 1, none⟩ = some (.slice E1 k1 f1) ∧ w'.cell? ⟨W.heap.size, 2, none⟩ = some (.slice E2 k2 f2) ∧ w'.cell? ⟨W.heap.size, 3, none⟩ = some (.slice E3 k3 f3) ∧ w'.cell? ⟨W.heap.size, 4, none⟩ = some (.slice E4 k4 f4) ∧ w'.cell? ⟨W.heap.size, 5, none⟩ = some (.slice E5 k5 f5))) w8.drew from ⟨r0, r1, r2, r3, r4, r5⟩)
      refine headK_load 0 4 _ rfl (i := 0) (v := ?_) rfl (by kernel_rfl) (fun _ _ _ h => h) (fun _ _ _ h => passed_ready h.1) (Or.inl ⟨by rfl, ?hy24⟩) ⟨fun _ => hS0, trivial⟩ ?rest24
      case hy24 => intro w hSw; (try dsimp only at hSw); obtain ⟨hc0, hc1, hc2, hc3, hc4, hc5⟩ := hSw; go_simp; try (with_reducible rfl)
      case rest24 =>
      try simp only [Act.put, List.setIfInBounds_toArray, List.set_cons_zero, List.set_cons_succ]
      refine headK_take (i := 1) (v := ?_) rfl (by kernel_rfl) (fun _ _ _ h => h) (fun _ _ _ h => passed_ready h.1) (Or.inl ⟨by rfl, ?hy25⟩) ⟨fun _ => hS0, trivial⟩ ?rest25
      case hy25 => intro w _; go_simp; try (with_reducible rfl)
      case rest25 =>
      try simp only [Act.put, List.setIfInBounds_toArray, List.set_cons_zero, List.set_cons_succ]
      refine headK_take (i := 2) (v := ?_) rfl (by kernel_rfl) (fun _ _ _ h => h) (fun _ _ _ h => passed_ready h.1) (Or.inl ⟨by rfl, ?hy26⟩) ⟨fun _ => hS0, trivial⟩ ?rest26
      case hy26 => intro w _; go_simp; try (with_reducible rfl)
      case rest26 =>
      try simp only [Act.put, List.setIfInBounds_toArray, List.set_cons_zero, List.set_cons_succ]
      refine headK_take (i := 3) (v := ?_) rfl (by kernel_rfl) (fun _ _ _ h => h) (fun _ _ _ h => passed_ready h.1) (Or.inl ⟨by rfl, ?hy27⟩) ⟨fun _ => hS0, trivial⟩ ?rest27
      case hy27 => intro w _; go_simp; try (with_reducible rfl)
      case rest27 =>
      try simp only [Act.put, List.setIfInBounds_toArray, List.set_cons_zero, List.set_cons_succ]
      refine headK_two (i := 4) (j := 9) (by kernel_rfl) rfl rfl (fun K hK => ?_) (fun K hK => ?_)
      · go_simp
        refine (HR6.out _ H1.out).mono ?_
        rintro e w9 ⟨I0, Ic0, I1, Ic1, I2, Ic2, I3, Ic3, I4, Ic4, I5, Ic5, D, dd, rfl, hM, hi, hk, hbk⟩
        have HM9 := Lib.hid hM
        have HI9 := Lib.hid hi
        have HK9 := Lib.hid hk
        clear hM hi hk
        refine hK.out _ _ ⟨fun h => Bool.noConfusion (show true = false from h), trivial⟩ ?_
        clear hK K
        try simp only [Act.put, List.setIfInBounds_toArray, List.set_cons_zero, List.set_cons_succ]
        refine headK_take (i := 5) (v := ?_) rfl (by kernel_rfl) (fun _ _ _ h => h) (fun _ _ _ h => passed_ready h.1) (Or.inl ⟨by rfl, ?hy5049⟩) ⟨fun h => Bool.noConfusion (show true = false from h), trivial⟩ ?rest5049
        case hy5049 => intro w _; go_simp; try (with_reducible rfl)
        case rest5049 =>
        try simp only [Act.put, List.setIfInBounds_toArray, List.set_cons_zero, List.set_cons_succ]
        refine headK_take (i := 6) (v := ?_) rfl (by kernel_rfl) (fun _ _ _ h => h) (fun _ _ _ h => passed_ready h.1) (Or.inl ⟨by rfl, ?hy5050⟩) ⟨fun h => Bool.noConfusion (show true = false from h), trivial⟩ ?rest5050
        case hy5050 => intro w _; go_simp; try (with_reducible rfl)
        case rest5050 =>
        try simp only [Act.put, List.setIfInBounds_toArray, List.set_cons_zero, List.set_cons_succ]
        refine headK_take (i := 7) (v := ?_) rfl (by kernel_rfl) (fun _ _ _ h => h) (fun _ _ _ h => passed_ready h.1) (Or.inl ⟨by rfl, ?hy5051⟩) ⟨fun h => Bool.noConfusion (show true = false from h), trivial⟩ ?rest5051
        case hy5051 => intro w _; go_simp; try (with_reducible rfl)
        case rest5051 =>
        try simp only [Act.put, List.setIfInBounds_toArray, List.set_cons_zero, List.set_cons_succ]
        refine headK_take (i := 8) (v := ?_) rfl (by kernel_rfl) (fun _ _ _ h => h) (fun _ _ _ h => passed_ready h.1) (Or.inl ⟨by rfl, ?hy5052⟩) ⟨fun h => Bool.noConfusion (show true = false from h), trivial⟩ ?rest5052
        case hy5052 => intro w _; go_simp; try (with_reducible rfl)
        case rest5052 =>
        try simp only [Act.put, List.setIfInBounds_toArray, List.set_cons_zero, List.set_cons_succ]
        refine headK_one (i := 9) (by kernel_rfl) rfl (fun K hK => ?_)
        go_simp
        refine hK.out _ _ ⟨fun h => Bool.noConfusion (show true = false from h), trivial⟩ ?_
        clear hK K
        try simp only [Act.put, List.setIfInBounds_toArray, List.set_cons_zero, List.set_cons_succ]
        refine headK_one (i := 10) (by kernel_rfl) rfl (fun K hK => ?_)
        go_simp
        refine hK.out _ _ ⟨fun h => Bool.noConfusion (show true = false from h), trivial⟩ ?_
        clear hK K
        try simp only [Act.put, List.setIfInBounds_toArray, List.set_cons_zero, List.set_cons_succ]
        refine headK_take (i := 11) (v := ?_) rfl (by kernel_rfl) (fun _ _ _ h => h) (fun _ _ _ h => passed_ready h.1) (Or.inl ⟨by rfl, ?hy5053⟩) ⟨fun h => Bool.noConfusion (show true = false from h), trivial⟩ ?rest5053
        case hy5053 => intro w _; go_simp; try (with_reducible rfl)
        case rest5053 =>
        try simp only [Act.put, List.setIfInBounds_toArray, List.set_cons_zero, List.set_cons_succ]
        refine headK_take (i := 12) (v := ?_) rfl (by kernel_rfl) (fun _ _ _ h => h) (fun _ _ _ h => passed_ready h.1) (Or.inl ⟨by rfl, ?hy5054⟩) ⟨fun h => Bool.noConfusion (show true = false from h), trivial⟩ ?rest5054
        case hy5054 => intro w _; go_simp; try (with_reducible rfl)
        case rest5054 =>
        try simp only [Act.put, List.setIfInBounds_toArray, List.set_cons_zero, List.set_cons_succ]
        refine ⟨by kernel_rfl, ?_⟩
        refine wpAny_done (by kernel_rfl) ?_ _
        go_wp2_with fail
        have ab : Below w9.heap.size w9 (w9.alloc (.cells #[.slice I0 a1.th.length Ic0, .slice I1 a1.pc.length Ic1, .slice I2 a1.su.length Ic2, .slice I3 a1.lo.length Ic3, .slice I4 a1.ce.length Ic4, .slice I5 a1.ch.length Ic5] 26)) := (Below.refl _ _).alloc (Nat.le_refl _) _
        obtain ⟨M9, hM9⟩ := HM9.out
        go_meet
        exact ⟨_, I0, Ic0, I1, Ic1, I2, Ic2, I3, Ic3, I4, Ic4, I5, Ic5, D, dd, rfl, rfl, rfl, Lib.hid (Box.new w9 26 #[.slice I0 a1.th.length Ic0, .slice I1 a1.pc.length Ic1, .slice I2 a1.su.length Ic2, .slice I3 a1.lo.length Ic3, .slice I4 a1.ce.length Ic4, .slice I5 a1.ch.length Ic5]), Lib.hid ⟨M9, hM9.keepB ab⟩, Lib.hid (HI9.out.below ab), HK9, Lib.hid (chain (chain H1.out hbk) ab)⟩
      · go_simp
        refine hK.out _ _ ⟨fun _ => (show (fun (w' : World) => w'.cell? ⟨W.heap.size, 0, none⟩ = some (.slice E0 k0 f0) ∧ w'.cell? ⟨W.heap.size, 1, none⟩ = some (.slice E1 k1 f1) ∧ w'.cell? ⟨W.heap.size, 2, none⟩ = some (.slice E2 k2 f2) ∧ w'.cell? ⟨W.heap.size, 3, none⟩ = some (.slice E3 k3 f3) ∧ w'.cell? ⟨W.heap.size, 4, none⟩ = some (.slice E4 k4 f4) ∧ w'.cell? ⟨W.heap.size, 5, none⟩ = some (.slice E5 k5 f5)) _ from ⟨s0, s1, s2, s3, s4, s5⟩), trivial⟩ ?_
        clear hK K
        try simp only [Act.put, List.setIfInBounds_toArray, List.set_cons_zero, List.set_cons_succ]
        refine headK_one (i := 4) (by kernel_rfl) rfl (fun K hK => ?_)
        go_simp
        refine (HR6.out _ H2.out).mono ?_
        rintro e w9 ⟨I0, Ic0, I1, Ic1, I2, Ic2, I3, Ic3, I4, Ic4, I5, Ic5, D, dd, rfl, hM, hi, hk, hbk⟩
        have HM9 := Lib.hid hM
        have HI9 := Lib.hid hi
        have HK9 := Lib.hid hk
        clear hM hi hk
        have QZ9 := Lib.hid (QZ.out.keep hbk)
        obtain ⟨y0, y1, y2, y3, y4, y5⟩ := QZ9.out.six
        have v0 := QZ9.out.free 0
        have v1 := QZ9.out.free 1
        have v2 := QZ9.out.free 2
        have v3 := QZ9.out.free 3
        have v4 := QZ9.out.free 4
        have v5 := QZ9.out.free 5
        refine hK.out _ _ ⟨fun h => Bool.noConfusion (show true = false from h), trivial⟩ ?_
        clear hK K
        try simp only [Act.put, List.setIfInBounds_toArray, List.set_cons_zero, List.set_cons_succ]
        refine headK_take (i := 5) (v := ?_) rfl (by kernel_rfl) (fun _ _ _ h => h) (fun _ _ _ h => passed_ready h.1) (Or.inl ⟨by rfl, ?hy5055⟩) ⟨fun h => Bool.noConfusion (show true = false from h), trivial⟩ ?rest5055
        case hy5055 => intro w _; go_simp; try (with_reducible rfl)
        case rest5055 =>
        try simp only [Act.put, List.setIfInBounds_toArray, List.set_cons_zero, List.set_cons_succ]
        refine headK_take (i := 6) (v := ?_) rfl (by kernel_rfl) (fun _ _ _ h => h) (fun _ _ _ h => passed_ready h.1) (Or.inl ⟨by rfl, ?hy5056⟩) ⟨fun h => Bool.noConfusion (show true = false from h), trivial⟩ ?rest5056
        case hy5056 => intro w _; go_simp; try (with_reducible rfl)
        case rest5056 =>
        try simp only [Act.put, List.setIfInBounds_toArray, List.set_cons_zero, List.set_cons_succ]
        refine headK_take (i := 7) (v := ?_) rfl (by kernel_rfl) (fun _ _ _ h => h) (fun _ _ _ h => passed_ready h.1) (Or.inl ⟨by rfl, ?hy5057⟩) ⟨fun h => Bool.noConfusion (show true = false from h), trivial⟩ ?rest5057
        case hy5057 => intro w _; go_simp; try (with_reducible rfl)
        case rest5057 =>
        try simp only [Act.put, List.setIfInBounds_toArray, List.set_cons_zero, List.set_cons_succ]
        refine headK_take (i := 8) (v := ?_) rfl (by kernel_rfl) (fun _ _ _ h => h) (fun _ _ _ h => passed_ready h.1) (Or.inl ⟨by rfl, ?hy5058⟩) ⟨fun h => Bool.noConfusion (show true = false from h), trivial⟩ ?rest5058
        case hy5058 => intro w _; go_simp; try (with_reducible rfl)
        case rest5058 =>
        try simp only [Act.put, List.setIfInBounds_toArray, List.set_cons_zero, List.set_cons_succ]
        refine headK_one (i := 10) (by kernel_rfl) rfl (fun K hK => ?_)
        go_simp
        refine hK.out _ _ ⟨fun h => Bool.noConfusion (show true = false from h), trivial⟩ ?_
        clear hK K
        try simp only [Act.put, List.setIfInBounds_toArray, List.set_cons_zero, List.set_cons_succ]
        refine headK_take (i := 11) (v := ?_) rfl (by kernel_rfl) (fun _ _ _ h => h) (fun _ _ _ h => passed_ready h.1) (Or.inl ⟨by rfl, ?hy5059⟩) ⟨fun h => Bool.noConfusion (show true = false from h), trivial⟩ ?rest5059
        case hy5059 => intro w _; go_simp; try (with_reducible rfl)
        case rest5059 =>
        try simp only [Act.put, List.setIfInBounds_toArray, List.set_cons_zero, List.set_cons_succ]
        refine headK_take (i := 12) (v := ?_) rfl (by kernel_rfl) (fun _ _ _ h => h) (fun _ _ _ h => passed_ready h.1) (Or.inl ⟨by rfl, ?hy5060⟩) ⟨fun h => Bool.noConfusion (show true = false from h), trivial⟩ ?rest5060
        case hy5060 => intro w _; go_simp; try (with_reducible rfl)
        case rest5060 =>
        try simp only [Act.put, List.setIfInBounds_toArray, List.set_cons_zero, List.set_cons_succ]
        refine ⟨by kernel_rfl, ?_⟩
        refine wpAny_done (by kernel_rfl) ?_ _
        go_wp2_with fail
        have hX := set6_grown w9 (w8.heap.size) (.slice I0 a1.th.length Ic0) (.slice I1 a1.pc.length Ic1) (.slice I2 a1.su.length Ic2) (.slice I3 a1.lo.length Ic3) (.slice I4 a1.ce.length Ic4) (.slice I5 a1.ch.length Ic5)
        obtain ⟨M9, hM9⟩ := HM9.out
        have hM8 := hM9.box_gr QZ9.out hX
        have hI8 := HI9.out.box_gr QZ9.out (fun x hx k n e => by subst e; simp at hx) hX
        have hB8 := (((((((chain H2.out hbk).setCell (p := ⟨w8.heap.size, 0, none⟩) (Nat.le_refl _) (.slice I0 a1.th.length Ic0)).setCell (p := ⟨w8.heap.size, 1, none⟩) (Nat.le_refl _) (.slice I1 a1.pc.length Ic1)).setCell (p := ⟨w8.heap.size, 2, none⟩) (Nat.le_refl _) (.slice I2 a1.su.length Ic2)).setCell (p := ⟨w8.heap.size, 3, none⟩) (Nat.le_refl _) (.slice I3 a1.lo.length Ic3)).setCell (p := ⟨w8.heap.size, 4, none⟩) (Nat.le_refl _) (.slice I4 a1.ce.length Ic4)).setCell (p := ⟨w8.heap.size, 5, none⟩) (Nat.le_refl _) (.slice I5 a1.ch.length Ic5))
        have hQ8 := ((((((QZ9.out.put 0 (.slice I0 a1.th.length Ic0)).put 1 (.slice I1 a1.pc.length Ic1)).put 2 (.slice I2 a1.su.length Ic2)).put 3 (.slice I3 a1.lo.length Ic3)).put 4 (.slice I4 a1.ce.length Ic4)).put 5 (.slice I5 a1.ch.length Ic5))
        clear hX
        go_meet
        exact ⟨_, I0, Ic0, I1, Ic1, I2, Ic2, I3, Ic3, I4, Ic4, I5, Ic5, D, dd, rfl, rfl, rfl, Lib.hid hQ8, Lib.hid ⟨M9, hM8⟩, Lib.hid hI8, HK9, Lib.hid hB8⟩
    case rest =>
      obtain ⟨gi, I0, Ic0, I1, Ic1, I2, Ic2, I3, Ic3, I4, Ic4, I5, Ic5, D, dd, rfl, rfl, rfl, QI, MI, II, KI, HBn⟩ := hcut
      obtain ⟨wA, hwA⟩ : ∃ x : World, x = wc := ⟨_, rfl⟩
      subst hwA
      clear r0 r1 r2 r3 r4 r5 s0 s1 s2 s3 s4 s5 QZ H1 H2 HTk HWA HR6
      replace QAc := Lib.hid (QAc.out.keep HBn.out)
      replace QGc := Lib.hid (QGc.out.keep HBn.out)
      replace NGc := Lib.hid (NGc.out.keepB HBn.out)
      replace I7c := Lib.hid (I7c.out.below HBn.out)
      replace NWc := Lib.hid (NWc.out.keepB HBn.out)
      replace HPc := Lib.hid (HPc.out.below HBn.out)
      replace HBc := Lib.hid (chain HBc.out HBn.out)
      have HWB := Lib.hid (HB6.out.trans (HBc.out.mono HB6.out.size))
      have NIc := Lib.hid (show NowAt W wA (.agg #[.slice I0 a1.th.length Ic0, .slice I1 a1.pc.length Ic1, .slice I2 a1.su.length Ic2, .slice I3 a1.lo.length Ic3, .slice I4 a1.ce.length Ic4, .slice I5 a1.ch.length Ic5]) a1 from ⟨.inr MI.out, HN1.out⟩)
      have H1 := Lib.hid (show Below wA.heap.size wA wA.drew from (Below.refl _ _).drew)
      have H2 := Lib.hid (show Below wA.heap.size wA (wA.alloc (.cells #[.slice none 0 0, .slice none 0 0, .slice none 0 0, .slice none 0 0, .slice none 0 0, .slice none 0 0] 26)).drew from ((Below.refl _ _).alloc (Nat.le_refl _) _).drew)
      have QZ := Lib.hid (show Box (wA.alloc (.cells #[.slice none 0 0, .slice none 0 0, .slice none 0 0, .slice none 0 0, .slice none 0 0, .slice none 0 0] 26)).drew wA.heap.size 26 #[.slice none 0 0, .slice none 0 0, .slice none 0 0, .slice none 0 0, .slice none 0 0, .slice none 0 0] from (Box.new wA 26 #[.slice none 0 0, .slice none 0 0, .slice none 0 0, .slice none 0 0, .slice none 0 0, .slice none 0 0]).drew)
      obtain ⟨st2, hst2⟩ : ∃ st, st = runS a1 (qs.drop j) := ⟨_, rfl⟩
      rw [← hst2] at HP1
      obtain ⟨c2, ws2⟩ := st2
      obtain ⟨hc2, hws⟩ := HP1.out
      have hc2 : c2 = c' := hc2
      subst hc2
      have HWs := Lib.hid (show ws1 ++ ws2 = ws from hws)
      have HST := Lib.hid hst2.symm
      clear hst2 hws HP1 MI
      obtain ⟨r0, r1, r2, r3, r4, r5⟩ := QI.out.six
      obtain ⟨s0, s1, s2, s3, s4, s5⟩ := (QI.out.keep H2.out).six
      go_upto_region 7 with (fail)
      go_cut [13, 14, 15] (fun pv wv cv wx => ∃ (g2 : Nat) (K0 : Option Addr) (Kl0 Kc0 : Nat) (K1 : Option Addr) (Kl1 Kc1 : Nat) (K2 : Option Addr) (Kl2 Kc2 : Nat) (K3 : Option Addr) (Kl3 Kc3 : Nat) (K4 : Option Addr) (Kl4 Kc4 : Nat) (K5 : Option Addr) (Kl5 Kc5 : Nat) (D2 : Option Addr) (n2 dd2 : Nat) (code : Int), pv = .pointer (some ⟨g2, 0, none⟩) ∧ wv = .slice D2 n2 dd2 ∧ cv = .int .i64 code ∧ Hid (Box wx g2 26 #[.slice K0 Kl0 Kc0, .slice K1 Kl1 Kc1, .slice K2 Kl2 Kc2, .slice K3 Kl3 Kc3, .slice K4 Kl4 Kc4, .slice K5 Kl5 Kc5]) ∧ Hid ((code = 0 ∧ NowAt W wx (.agg #[.slice K0 Kl0 Kc0, .slice K1 Kl1 Kc1, .slice K2 Kl2 Kc2, .slice K3 Kl3 Kc3, .slice K4 Kl4 Kc4, .slice K5 Kl5 Kc5]) c2 ∧ Ints wx D2 n2 ws2 ∧ SliceOk D2 n2 dd2) ∨ code = 1) ∧ Hid (Below wA.heap.size wA wx))
      case first =>
        by_cases hjc2 : j = c
        · have hkj : kk = j := by have := HKc.out; omega
          subst hjc2
          have hkj2 := hkj.symm
          subst hkj2
          have HTd := Lib.hid (show Ints wA (some ad) 0 (qs.drop j) from (by have h9 := ints_dropA HPc.out (Nat.le_refl _) (Nat.le_refl _); rw [if_pos rfl, Nat.sub_self] at h9; exact h9))
          cases hra : rightS a1 with
          | true =>
            have HR7 := Lib.hid (fun wx (hb : Below wA.heap.size wA wx) => run_ok_any (.agg #[.slice I0 a1.th.length Ic0, .slice I1 a1.pc.length Ic1, .slice I2 a1.su.length Ic2, .slice I3 a1.lo.length Ic3, .slice I4 a1.ce.length Ic4, .slice I5 a1.ch.length Ic5]) a1 wx ((NIc.out.keepB hb).sys (HWB.out.trans (hb.mono HWB.out.size))) (some ad) 0 0 (qs.drop j) (HTd.out.below hb) (by omega) hra)
            rw [HST.out] at HR7
            clear hra
            refine wp_heldK_bar [(4, (fun (w' : World) => w'.cell? ⟨gi, 0, none⟩ = some (.slice I0 a1.th.length Ic0) ∧ w'.cell? ⟨gi, 1, none⟩ = some (.slice I1 a1.pc.length Ic1) ∧ w'.cell? ⟨gi, 2, none⟩ = some (.slice I2 a1.su.length Ic2) ∧ w'.cell? ⟨gi, 3, none⟩ = some (.slice I3 a1.lo.length Ic3) ∧ w'.cell? ⟨gi, 4, none⟩ = some (.slice I4 a1.ce.length Ic4) ∧ w'.cell? ⟨gi, 5, none⟩ = some (.slice I5 a1.ch.length Ic5)))] 13 (by kernel_rfl) (by decide) ?_
            have hS0 := (show ((fun (w' : World) => w'.cell? ⟨gi, 0, none⟩ = some (.slice I0 a1.th.length Ic0) ∧ w'.cell? ⟨gi, 1, none⟩ = some (.slice I1 a1.pc.length Ic1) ∧ w'.cell? ⟨gi, 2, none⟩ = some (.slice I2 a1.su.length Ic2) ∧ w'.cell? ⟨gi, 3, none⟩ = some (.slice I3 a1.lo.length Ic3) ∧ w'.cell? ⟨gi, 4, none⟩ = some (.slice I4 a1.ce.length Ic4) ∧ w'.cell? ⟨gi, 5, none⟩ = some (.slice I5 a1.ch.length Ic5))) wA.drew from ⟨r0, r1, r2, r3, r4, r5⟩)
            refine headK_load 0 4 _ rfl (i := 0) (v := ?_) rfl (by kernel_rfl) (fun _ _ _ h => h) (fun _ _ _ h => passed_ready h.1) (Or.inl ⟨by rfl, ?hy8⟩) ⟨fun _ => hS0, trivial⟩ ?rest8
            case hy8 => intro w hSw; (try dsimp only at hSw); obtain ⟨hc0, hc1, hc2, hc3, hc4, hc5⟩ := hSw; go_simp; try (with_reducible rfl)
            case rest8 =>
            try simp only [Act.put, List.setIfInBounds_toArray, List.set_cons_zero, List.set_cons_succ]
            refine headK_take (i := 1) (v := ?_) rfl (by kernel_rfl) (fun _ _ _ h => h) (fun _ _ _ h => passed_ready h.1) (Or.inl ⟨by rfl, ?hy9⟩) ⟨fun _ => hS0, trivial⟩ ?rest9
            case hy9 => intro w _; go_simp; try (with_reducible rfl)
            case rest9 =>
            try simp only [Act.put, List.setIfInBounds_toArray, List.set_cons_zero, List.set_cons_succ]
            refine headK_take (i := 2) (v := ?_) rfl (by kernel_rfl) (fun _ _ _ h => h) (fun _ _ _ h => passed_ready h.1) (Or.inl ⟨by rfl, ?hy10⟩) ⟨fun _ => hS0, trivial⟩ ?rest10
            case hy10 => intro w _; go_simp; try (with_reducible rfl)
            case rest10 =>
            try simp only [Act.put, List.setIfInBounds_toArray, List.set_cons_zero, List.set_cons_succ]
            refine headK_take (i := 3) (v := ?_) rfl (by kernel_rfl) (fun _ _ _ h => h) (fun _ _ _ h => passed_ready h.1) (Or.inl ⟨by rfl, ?hy11⟩) ⟨fun _ => hS0, trivial⟩ ?rest11
            case hy11 => intro w _; go_simp; try (with_reducible rfl)
            case rest11 =>
            try simp only [Act.put, List.setIfInBounds_toArray, List.set_cons_zero, List.set_cons_succ]
            refine headK_two (i := 4) (j := 9) (by kernel_rfl) rfl rfl (fun K hK => ?_) (fun K hK => ?_)
            · go_simp
              refine (HR7.out _ H1.out).mono ?_
              rintro e w9 ⟨K0, Kc0, K1, Kc1, K2, Kc2, K3, Kc3, K4, Kc4, K5, Kc5, D2, dd2, rfl, hM, hi, hk, hbk⟩
              have HM9 := Lib.hid hM
              have HI9 := Lib.hid (show Ints w9 D2 ws2.length ws2 from hi)
              have HK9 := Lib.hid (show SliceOk D2 ws2.length dd2 from hk)
              clear hM hi hk
              refine hK.out _ _ ⟨fun h => Bool.noConfusion (show true = false from h), trivial⟩ ?_
              clear hK K
              try simp only [Act.put, List.setIfInBounds_toArray, List.set_cons_zero, List.set_cons_succ]
              refine headK_take (i := 5) (v := ?_) rfl (by kernel_rfl) (fun _ _ _ h => h) (fun _ _ _ h => passed_ready h.1) (Or.inl ⟨by rfl, ?hy5001⟩) ⟨fun h => Bool.noConfusion (show true = false from h), trivial⟩ ?rest5001
              case hy5001 => intro w _; go_simp; try (with_reducible rfl)
              case rest5001 =>
              try simp only [Act.put, List.setIfInBounds_toArray, List.set_cons_zero, List.set_cons_succ]
              refine headK_take (i := 6) (v := ?_) rfl (by kernel_rfl) (fun _ _ _ h => h) (fun _ _ _ h => passed_ready h.1) (Or.inl ⟨by rfl, ?hy5002⟩) ⟨fun h => Bool.noConfusion (show true = false from h), trivial⟩ ?rest5002
              case hy5002 => intro w _; go_simp; try (with_reducible rfl)
              case rest5002 =>
              try simp only [Act.put, List.setIfInBounds_toArray, List.set_cons_zero, List.set_cons_succ]
              refine headK_take (i := 7) (v := ?_) rfl (by kernel_rfl) (fun _ _ _ h => h) (fun _ _ _ h => passed_ready h.1) (Or.inl ⟨by rfl, ?hy5003⟩) ⟨fun h => Bool.noConfusion (show true = false from h), trivial⟩ ?rest5003
              case hy5003 => intro w _; go_simp; try (with_reducible rfl)
              case rest5003 =>
              try simp only [Act.put, List.setIfInBounds_toArray, List.set_cons_zero, List.set_cons_succ]
              refine headK_take (i := 8) (v := ?_) rfl (by kernel_rfl) (fun _ _ _ h => h) (fun _ _ _ h => passed_ready h.1) (Or.inl ⟨by rfl, ?hy5004⟩) ⟨fun h => Bool.noConfusion (show true = false from h), trivial⟩ ?rest5004
              case hy5004 => intro w _; go_simp; try (with_reducible rfl)
              case rest5004 =>
              try simp only [Act.put, List.setIfInBounds_toArray, List.set_cons_zero, List.set_cons_succ]
              refine headK_one (i := 9) (by kernel_rfl) rfl (fun K hK => ?_)
              go_simp
              refine hK.out _ _ ⟨fun h => Bool.noConfusion (show true = false from h), trivial⟩ ?_
              clear hK K
              try simp only [Act.put, List.setIfInBounds_toArray, List.set_cons_zero, List.set_cons_succ]
              refine headK_one (i := 10) (by kernel_rfl) rfl (fun K hK => ?_)
              go_simp
              refine hK.out _ _ ⟨fun h => Bool.noConfusion (show true = false from h), trivial⟩ ?_
              clear hK K
              try simp only [Act.put, List.setIfInBounds_toArray, List.set_cons_zero, List.set_cons_succ]
              refine headK_take (i := 11) (v := ?_) rfl (by kernel_rfl) (fun _ _ _ h => h) (fun _ _ _ h => passed_ready h.1) (Or.inl ⟨by rfl, ?hy5005⟩) ⟨fun h => Bool.noConfusion (show true = false from h), trivial⟩ ?rest5005
              case hy5005 => intro w _; go_simp; try (with_reducible rfl)
              case rest5005 =>
              try simp only [Act.put, List.setIfInBounds_toArray, List.set_cons_zero, List.set_cons_succ]
              refine headK_take (i := 12) (v := ?_) rfl (by kernel_rfl) (fun _ _ _ h => h) (fun _ _ _ h => passed_ready h.1) (Or.inl ⟨by rfl, ?hy5006⟩) ⟨fun h => Bool.noConfusion (show true = false from h), trivial⟩ ?rest5006
              case hy5006 => intro w _; go_simp; try (with_reducible rfl)
              case rest5006 =>
              try simp only [Act.put, List.setIfInBounds_toArray, List.set_cons_zero, List.set_cons_succ]
              refine ⟨by kernel_rfl, ?_⟩
              refine wpAny_done (by kernel_rfl) ?_ _
              go_wp2_with fail
              have ab : Below w9.heap.size w9 (w9.alloc (.cells #[.slice K0 c2.th.length Kc0, .slice K1 c2.pc.length Kc1, .slice K2 c2.su.length Kc2, .slice K3 c2.lo.length Kc3, .slice K4 c2.ce.length Kc4, .slice K5 c2.ch.length Kc5] 26)) := (Below.refl _ _).alloc (Nat.le_refl _) _
              obtain ⟨M9, hM9⟩ := HM9.out
              go_meet
              exact ⟨_, K0, _, Kc0, K1, _, Kc1, K2, _, Kc2, K3, _, Kc3, K4, _, Kc4, K5, _, Kc5, D2, _, dd2, 0, rfl, rfl, rfl, Lib.hid (Box.new w9 26 _), Lib.hid (.inl ⟨rfl, ⟨.inr ⟨M9, hM9.keepB ab⟩, HNc.out⟩, HI9.out.below ab, HK9.out⟩), Lib.hid (chain (chain H1.out hbk) ab)⟩
            · go_simp
              refine hK.out _ _ ⟨fun _ => (show (fun (w' : World) => w'.cell? ⟨gi, 0, none⟩ = some (.slice I0 a1.th.length Ic0) ∧ w'.cell? ⟨gi, 1, none⟩ = some (.slice I1 a1.pc.length Ic1) ∧ w'.cell? ⟨gi, 2, none⟩ = some (.slice I2 a1.su.length Ic2) ∧ w'.cell? ⟨gi, 3, none⟩ = some (.slice I3 a1.lo.length Ic3) ∧ w'.cell? ⟨gi, 4, none⟩ = some (.slice I4 a1.ce.length Ic4) ∧ w'.cell? ⟨gi, 5, none⟩ = some (.slice I5 a1.ch.length Ic5)) _ from ⟨s0, s1, s2, s3, s4, s5⟩), trivial⟩ ?_
              clear hK K
              try simp only [Act.put, List.setIfInBounds_toArray, List.set_cons_zero, List.set_cons_succ]
              refine headK_one (i := 4) (by kernel_rfl) rfl (fun K hK => ?_)
              go_simp
              refine (HR7.out _ H2.out).mono ?_
              rintro e w9 ⟨K0, Kc0, K1, Kc1, K2, Kc2, K3, Kc3, K4, Kc4, K5, Kc5, D2, dd2, rfl, hM, hi, hk, hbk⟩
              have HM9 := Lib.hid hM
              have HI9 := Lib.hid (show Ints w9 D2 ws2.length ws2 from hi)
              have HK9 := Lib.hid (show SliceOk D2 ws2.length dd2 from hk)
              clear hM hi hk
              have QZ9 := Lib.hid (QZ.out.keep hbk)
              obtain ⟨y0, y1, y2, y3, y4, y5⟩ := QZ9.out.six
              have v0 := QZ9.out.free 0
              have v1 := QZ9.out.free 1
              have v2 := QZ9.out.free 2
              have v3 := QZ9.out.free 3
              have v4 := QZ9.out.free 4
              have v5 := QZ9.out.free 5
              refine hK.out _ _ ⟨fun h => Bool.noConfusion (show true = false from h), trivial⟩ ?_
              clear hK K
              try simp only [Act.put, List.setIfInBounds_toArray, List.set_cons_zero, List.set_cons_succ]
              refine headK_take (i := 5) (v := ?_) rfl (by kernel_rfl) (fun _ _ _ h => h) (fun _ _ _ h => passed_ready h.1) (Or.inl ⟨by rfl, ?hy5007⟩) ⟨fun h => Bool.noConfusion (show true = false from h), trivial⟩ ?rest5007
              case hy5007 => intro w _; go_simp; try (with_reducible rfl)
              case rest5007 =>
              try simp only [Act.put, List.setIfInBounds_toArray, List.set_cons_zero, List.set_cons_succ]
              refine headK_take (i := 6) (v := ?_) rfl (by kernel_rfl) (fun _ _ _ h => h) (fun _ _ _ h => passed_ready h.1) (Or.inl ⟨by rfl, ?hy5008⟩) ⟨fun h => Bool.noConfusion (show true = false from h), trivial⟩ ?rest5008
              case hy5008 => intro w _; go_simp; try (with_reducible rfl)
              case rest5008 =>
              try simp only [Act.put, List.setIfInBounds_toArray, List.set_cons_zero, List.set_cons_succ]
              refine headK_take (i := 7) (v := ?_) rfl (by kernel_rfl) (fun _ _ _ h => h) (fun _ _ _ h => passed_ready h.1) (Or.inl ⟨by rfl, ?hy5009⟩) ⟨fun h => Bool.noConfusion (show true = false from h), trivial⟩ ?rest5009
              case hy5009 => intro w _; go_simp; try (with_reducible rfl)
              case rest5009 =>
              try simp only [Act.put, List.setIfInBounds_toArray, List.set_cons_zero, List.set_cons_succ]
              refine headK_take (i := 8) (v := ?_) rfl (by kernel_rfl) (fun _ _ _ h => h) (fun _ _ _ h => passed_ready h.1) (Or.inl ⟨by rfl, ?hy5010⟩) ⟨fun h => Bool.noConfusion (show true = false from h), trivial⟩ ?rest5010
              case hy5010 => intro w _; go_simp; try (with_reducible rfl)
              case rest5010 =>
              try simp only [Act.put, List.setIfInBounds_toArray, List.set_cons_zero, List.set_cons_succ]
              refine headK_one (i := 10) (by kernel_rfl) rfl (fun K hK => ?_)
              go_simp
              refine hK.out _ _ ⟨fun h => Bool.noConfusion (show true = false from h), trivial⟩ ?_
              clear hK K
              try simp only [Act.put, List.setIfInBounds_toArray, List.set_cons_zero, List.set_cons_succ]
              refine headK_take (i := 11) (v := ?_) rfl (by kernel_rfl) (fun _ _ _ h => h) (fun _ _ _ h => passed_ready h.1) (Or.inl ⟨by rfl, ?hy5011⟩) ⟨fun h => Bool.noConfusion (show true = false from h), trivial⟩ ?rest5011
              case hy5011 => intro w _; go_simp; try (with_reducible rfl)
              case rest5011 =>
              try simp only [Act.put, List.setIfInBounds_toArray, List.set_cons_zero, List.set_cons_succ]
              refine headK_take (i := 12) (v := ?_) rfl (by kernel_rfl) (fun _ _ _ h => h) (fun _ _ _ h => passed_ready h.1) (Or.inl ⟨by rfl, ?hy5012⟩) ⟨fun h => Bool.noConfusion (show true = false from h), trivial⟩ ?rest5012
              case hy5012 => intro w _; go_simp; try (with_reducible rfl)
              case rest5012 =>
              try simp only [Act.put, List.setIfInBounds_toArray, List.set_cons_zero, List.set_cons_succ]
              refine ⟨by kernel_rfl, ?_⟩
              refine wpAny_done (by kernel_rfl) ?_ _
              go_wp2_with fail
              have hX := set6_grown w9 (wA.heap.size) (.slice K0 c2.th.length Kc0) (.slice K1 c2.pc.length Kc1) (.slice K2 c2.su.length Kc2) (.slice K3 c2.lo.length Kc3) (.slice K4 c2.ce.length Kc4) (.slice K5 c2.ch.length Kc5)
              obtain ⟨M9, hM9⟩ := HM9.out
              have hM8 := hM9.box_gr QZ9.out hX
              have hI8 := HI9.out.box_gr QZ9.out (fun x hx k n e => by subst e; simp at hx) hX
              have hB8 := (((((((chain H2.out hbk).setCell (p := ⟨wA.heap.size, 0, none⟩) (Nat.le_refl _) (.slice K0 c2.th.length Kc0)).setCell (p := ⟨wA.heap.size, 1, none⟩) (Nat.le_refl _) (.slice K1 c2.pc.length Kc1)).setCell (p := ⟨wA.heap.size, 2, none⟩) (Nat.le_refl _) (.slice K2 c2.su.length Kc2)).setCell (p := ⟨wA.heap.size, 3, none⟩) (Nat.le_refl _) (.slice K3 c2.lo.length Kc3)).setCell (p := ⟨wA.heap.size, 4, none⟩) (Nat.le_refl _) (.slice K4 c2.ce.length Kc4)).setCell (p := ⟨wA.heap.size, 5, none⟩) (Nat.le_refl _) (.slice K5 c2.ch.length Kc5))
              have hQ8 := ((((((QZ9.out.put 0 (.slice K0 c2.th.length Kc0)).put 1 (.slice K1 c2.pc.length Kc1)).put 2 (.slice K2 c2.su.length Kc2)).put 3 (.slice K3 c2.lo.length Kc3)).put 4 (.slice K4 c2.ce.length Kc4)).put 5 (.slice K5 c2.ch.length Kc5))
              clear hX
              go_meet
              exact ⟨_, K0, _, Kc0, K1, _, Kc1, K2, _, Kc2, K3, _, Kc3, K4, _, Kc4, K5, _, Kc5, D2, _, dd2, 0, rfl, rfl, rfl, Lib.hid hQ8, Lib.hid (.inl ⟨rfl, ⟨.inr ⟨M9, hM8⟩, HNc.out⟩, hI8, HK9.out⟩), Lib.hid hB8⟩
          | false =>
            have HR7 := Lib.hid (fun wx (hb : Below wA.heap.size wA wx) => run_no_any (.agg #[.slice I0 a1.th.length Ic0, .slice I1 a1.pc.length Ic1, .slice I2 a1.su.length Ic2, .slice I3 a1.lo.length Ic3, .slice I4 a1.ce.length Ic4, .slice I5 a1.ch.length Ic5]) a1 wx ((NIc.out.keepB hb).sys (HWB.out.trans (hb.mono HWB.out.size))) (some ad) 0 0 (qs.drop j) (HTd.out.below hb) (by omega) hra)
            clear hra
            refine wp_heldK_bar [(4, (fun (w' : World) => w'.cell? ⟨gi, 0, none⟩ = some (.slice I0 a1.th.length Ic0) ∧ w'.cell? ⟨gi, 1, none⟩ = some (.slice I1 a1.pc.length Ic1) ∧ w'.cell? ⟨gi, 2, none⟩ = some (.slice I2 a1.su.length Ic2) ∧ w'.cell? ⟨gi, 3, none⟩ = some (.slice I3 a1.lo.length Ic3) ∧ w'.cell? ⟨gi, 4, none⟩ = some (.slice I4 a1.ce.length Ic4) ∧ w'.cell? ⟨gi, 5, none⟩ = some (.slice I5 a1.ch.length Ic5)))] 13 (by kernel_rfl) (by decide) ?_
            have hS0 := (show ((fun (w' : World) => w'.cell? ⟨gi, 0, none⟩ = some (.slice I0 a1.th.length Ic0) ∧ w'.cell? ⟨gi, 1, none⟩ = some (.slice I1 a1.pc.length Ic1) ∧ w'.cell? ⟨gi, 2, none⟩ = some (.slice I2 a1.su.length Ic2) ∧ w'.cell? ⟨gi, 3, none⟩ = some (.slice I3 a1.lo.length Ic3) ∧ w'.cell? ⟨gi, 4, none⟩ = some (.slice I4 a1.ce.length Ic4) ∧ w'.cell? ⟨gi, 5, none⟩ = some (.slice I5 a1.ch.length Ic5))) wA.drew from ⟨r0, r1, r2, r3, r4, r5⟩)
            refine headK_load 0 4 _ rfl (i := 0) (v := ?_) rfl (by kernel_rfl) (fun _ _ _ h => h) (fun _ _ _ h => passed_ready h.1) (Or.inl ⟨by rfl, ?hy12⟩) ⟨fun _ => hS0, trivial⟩ ?rest12
            case hy12 => intro w hSw; (try dsimp only at hSw); obtain ⟨hc0, hc1, hc2, hc3, hc4, hc5⟩ := hSw; go_simp; try (with_reducible rfl)
            case rest12 =>
            try simp only [Act.put, List.setIfInBounds_toArray, List.set_cons_zero, List.set_cons_succ]
            refine headK_take (i := 1) (v := ?_) rfl (by kernel_rfl) (fun _ _ _ h => h) (fun _ _ _ h => passed_ready h.1) (Or.inl ⟨by rfl, ?hy13⟩) ⟨fun _ => hS0, trivial⟩ ?rest13
            case hy13 => intro w _; go_simp; try (with_reducible rfl)
            case rest13 =>
            try simp only [Act.put, List.setIfInBounds_toArray, List.set_cons_zero, List.set_cons_succ]
            refine headK_take (i := 2) (v := ?_) rfl (by kernel_rfl) (fun _ _ _ h => h) (fun _ _ _ h => passed_ready h.1) (Or.inl ⟨by rfl, ?hy14⟩) ⟨fun _ => hS0, trivial⟩ ?rest14
            case hy14 => intro w _; go_simp; try (with_reducible rfl)
            case rest14 =>
            try simp only [Act.put, List.setIfInBounds_toArray, List.set_cons_zero, List.set_cons_succ]
            refine headK_take (i := 3) (v := ?_) rfl (by kernel_rfl) (fun _ _ _ h => h) (fun _ _ _ h => passed_ready h.1) (Or.inl ⟨by rfl, ?hy15⟩) ⟨fun _ => hS0, trivial⟩ ?rest15
            case hy15 => intro w _; go_simp; try (with_reducible rfl)
            case rest15 =>
            try simp only [Act.put, List.setIfInBounds_toArray, List.set_cons_zero, List.set_cons_succ]
            refine headK_two (i := 4) (j := 9) (by kernel_rfl) rfl rfl (fun K hK => ?_) (fun K hK => ?_)
            · go_simp
              refine (HR7.out _ H1.out).mono ?_
              rintro e w9 ⟨K0, Kl0, Kc0, K1, Kl1, Kc1, K2, Kl2, Kc2, K3, Kl3, Kc3, K4, Kl4, Kc4, K5, Kl5, Kc5, D2, dd2, rfl, hbk⟩
              refine hK.out _ _ ⟨fun h => Bool.noConfusion (show true = false from h), trivial⟩ ?_
              clear hK K
              try simp only [Act.put, List.setIfInBounds_toArray, List.set_cons_zero, List.set_cons_succ]
              refine headK_take (i := 5) (v := ?_) rfl (by kernel_rfl) (fun _ _ _ h => h) (fun _ _ _ h => passed_ready h.1) (Or.inl ⟨by rfl, ?hy5013⟩) ⟨fun h => Bool.noConfusion (show true = false from h), trivial⟩ ?rest5013
              case hy5013 => intro w _; go_simp; try (with_reducible rfl)
              case rest5013 =>
              try simp only [Act.put, List.setIfInBounds_toArray, List.set_cons_zero, List.set_cons_succ]
              refine headK_take (i := 6) (v := ?_) rfl (by kernel_rfl) (fun _ _ _ h => h) (fun _ _ _ h => passed_ready h.1) (Or.inl ⟨by rfl, ?hy5014⟩) ⟨fun h => Bool.noConfusion (show true = false from h), trivial⟩ ?rest5014
              case hy5014 => intro w _; go_simp; try (with_reducible rfl)
              case rest5014 =>
              try simp only [Act.put, List.setIfInBounds_toArray, List.set_cons_zero, List.set_cons_succ]
              refine headK_take (i := 7) (v := ?_) rfl (by kernel_rfl) (fun _ _ _ h => h) (fun _ _ _ h => passed_ready h.1) (Or.inl ⟨by rfl, ?hy5015⟩) ⟨fun h => Bool.noConfusion (show true = false from h), trivial⟩ ?rest5015
              case hy5015 => intro w _; go_simp; try (with_reducible rfl)
              case rest5015 =>
              try simp only [Act.put, List.setIfInBounds_toArray, List.set_cons_zero, List.set_cons_succ]
              refine headK_take (i := 8) (v := ?_) rfl (by kernel_rfl) (fun _ _ _ h => h) (fun _ _ _ h => passed_ready h.1) (Or.inl ⟨by rfl, ?hy5016⟩) ⟨fun h => Bool.noConfusion (show true = false from h), trivial⟩ ?rest5016
              case hy5016 => intro w _; go_simp; try (with_reducible rfl)
              case rest5016 =>
              try simp only [Act.put, List.setIfInBounds_toArray, List.set_cons_zero, List.set_cons_succ]
              refine headK_one (i := 9) (by kernel_rfl) rfl (fun K hK => ?_)
              go_simp
              refine hK.out _ _ ⟨fun h => Bool.noConfusion (show true = false from h), trivial⟩ ?_
              clear hK K
              try simp only [Act.put, List.setIfInBounds_toArray, List.set_cons_zero, List.set_cons_succ]
              refine headK_one (i := 10) (by kernel_rfl) rfl (fun K hK => ?_)
              go_simp
              refine hK.out _ _ ⟨fun h => Bool.noConfusion (show true = false from h), trivial⟩ ?_
              clear hK K
              try simp only [Act.put, List.setIfInBounds_toArray, List.set_cons_zero, List.set_cons_succ]
              refine headK_take (i := 11) (v := ?_) rfl (by kernel_rfl) (fun _ _ _ h => h) (fun _ _ _ h => passed_ready h.1) (Or.inl ⟨by rfl, ?hy5017⟩) ⟨fun h => Bool.noConfusion (show true = false from h), trivial⟩ ?rest5017
              case hy5017 => intro w _; go_simp; try (with_reducible rfl)
              case rest5017 =>
              try simp only [Act.put, List.setIfInBounds_toArray, List.set_cons_zero, List.set_cons_succ]
              refine headK_take (i := 12) (v := ?_) rfl (by kernel_rfl) (fun _ _ _ h => h) (fun _ _ _ h => passed_ready h.1) (Or.inl ⟨by rfl, ?hy5018⟩) ⟨fun h => Bool.noConfusion (show true = false from h), trivial⟩ ?rest5018
              case hy5018 => intro w _; go_simp; try (with_reducible rfl)
              case rest5018 =>
              try simp only [Act.put, List.setIfInBounds_toArray, List.set_cons_zero, List.set_cons_succ]
              refine ⟨by kernel_rfl, ?_⟩
              refine wpAny_done (by kernel_rfl) ?_ _
              go_wp2_with fail
              have ab : Below w9.heap.size w9 (w9.alloc (.cells #[.slice K0 Kl0 Kc0, .slice K1 Kl1 Kc1, .slice K2 Kl2 Kc2, .slice K3 Kl3 Kc3, .slice K4 Kl4 Kc4, .slice K5 Kl5 Kc5] 26)) := (Below.refl _ _).alloc (Nat.le_refl _) _
              go_meet
              exact ⟨_, K0, Kl0, Kc0, K1, Kl1, Kc1, K2, Kl2, Kc2, K3, Kl3, Kc3, K4, Kl4, Kc4, K5, Kl5, Kc5, D2, _, dd2, 1, rfl, rfl, rfl, Lib.hid (Box.new w9 26 _), Lib.hid (.inr rfl), Lib.hid (chain (chain H1.out hbk) ab)⟩
            · go_simp
              refine hK.out _ _ ⟨fun _ => (show (fun (w' : World) => w'.cell? ⟨gi, 0, none⟩ = some (.slice I0 a1.th.length Ic0) ∧ w'.cell? ⟨gi, 1, none⟩ = some (.slice I1 a1.pc.length Ic1) ∧ w'.cell? ⟨gi, 2, none⟩ = some (.slice I2 a1.su.length Ic2) ∧ w'.cell? ⟨gi, 3, none⟩ = some (.slice I3 a1.lo.length Ic3) ∧ w'.cell? ⟨gi, 4, none⟩ = some (.slice I4 a1.ce.length Ic4) ∧ w'.cell? ⟨gi, 5, none⟩ = some (.slice I5 a1.ch.length Ic5)) _ from ⟨s0, s1, s2, s3, s4, s5⟩), trivial⟩ ?_
              clear hK K
              try simp only [Act.put, List.setIfInBounds_toArray, List.set_cons_zero, List.set_cons_succ]
              refine headK_one (i := 4) (by kernel_rfl) rfl (fun K hK => ?_)
              go_simp
              refine (HR7.out _ H2.out).mono ?_
              rintro e w9 ⟨K0, Kl0, Kc0, K1, Kl1, Kc1, K2, Kl2, Kc2, K3, Kl3, Kc3, K4, Kl4, Kc4, K5, Kl5, Kc5, D2, dd2, rfl, hbk⟩
              have QZ9 := Lib.hid (QZ.out.keep hbk)
              obtain ⟨y0, y1, y2, y3, y4, y5⟩ := QZ9.out.six
              have v0 := QZ9.out.free 0
              have v1 := QZ9.out.free 1
              have v2 := QZ9.out.free 2
              have v3 := QZ9.out.free 3
              have v4 := QZ9.out.free 4
              have v5 := QZ9.out.free 5
              refine hK.out _ _ ⟨fun h => Bool.noConfusion (show true = false from h), trivial⟩ ?_
              clear hK K
              try simp only [Act.put, List.setIfInBounds_toArray, List.set_cons_zero, List.set_cons_succ]
              refine headK_take (i := 5) (v := ?_) rfl (by kernel_rfl) (fun _ _ _ h => h) (fun _ _ _ h => passed_ready h.1) (Or.inl ⟨by rfl, ?hy5019⟩) ⟨fun h => Bool.noConfusion (show true = false from h), trivial⟩ ?rest5019
              case hy5019 => intro w _; go_simp; try (with_reducible rfl)
              case rest5019 =>
              try simp only [Act.put, List.setIfInBounds_toArray, List.set_cons_zero, List.set_cons_succ]
              refine headK_take (i := 6) (v := ?_) rfl (by kernel_rfl) (fun _ _ _ h => h) (fun _ _ _ h => passed_ready h.1) (Or.inl ⟨by rfl, ?hy5020⟩) ⟨fun h => Bool.noConfusion (show true = false from h), trivial⟩ ?rest5020
              case hy5020 => intro w _; go_simp; try (with_reducible rfl)
              case rest5020 =>
              try simp only [Act.put, List.setIfInBounds_toArray, List.set_cons_zero, List.set_cons_succ]
              refine headK_take (i := 7) (v := ?_) rfl (by kernel_rfl) (fun _ _ _ h => h) (fun _ _ _ h => passed_ready h.1) (Or.inl ⟨by rfl, ?hy5021⟩) ⟨fun h => Bool.noConfusion (show true = false from h), trivial⟩ ?rest5021
              case hy5021 => intro w _; go_simp; try (with_reducible rfl)
              case rest5021 =>
              try simp only [Act.put, List.setIfInBounds_toArray, List.set_cons_zero, List.set_cons_succ]
              refine headK_take (i := 8) (v := ?_) rfl (by kernel_rfl) (fun _ _ _ h => h) (fun _ _ _ h => passed_ready h.1) (Or.inl ⟨by rfl, ?hy5022⟩) ⟨fun h => Bool.noConfusion (show true = false from h), trivial⟩ ?rest5022
              case hy5022 => intro w _; go_simp; try (with_reducible rfl)
              case rest5022 =>
              try simp only [Act.put, List.setIfInBounds_toArray, List.set_cons_zero, List.set_cons_succ]
              refine headK_one (i := 10) (by kernel_rfl) rfl (fun K hK => ?_)
              go_simp
              refine hK.out _ _ ⟨fun h => Bool.noConfusion (show true = false from h), trivial⟩ ?_
              clear hK K
              try simp only [Act.put, List.setIfInBounds_toArray, List.set_cons_zero, List.set_cons_succ]
              refine headK_take (i := 11) (v := ?_) rfl (by kernel_rfl) (fun _ _ _ h => h) (fun _ _ _ h => passed_ready h.1) (Or.inl ⟨by rfl, ?hy5023⟩) ⟨fun h => Bool.noConfusion (show true = false from h), trivial⟩ ?rest5023
              case hy5023 => intro w _; go_simp; try (with_reducible rfl)
              case rest5023 =>
              try simp only [Act.put, List.setIfInBounds_toArray, List.set_cons_zero, List.set_cons_succ]
              refine headK_take (i := 12) (v := ?_) rfl (by kernel_rfl) (fun _ _ _ h => h) (fun _ _ _ h => passed_ready h.1) (Or.inl ⟨by rfl, ?hy5024⟩) ⟨fun h => Bool.noConfusion (show true = false from h), trivial⟩ ?rest5024
              case hy5024 => intro w _; go_simp; try (with_reducible rfl)
              case rest5024 =>
              try simp only [Act.put, List.setIfInBounds_toArray, List.set_cons_zero, List.set_cons_succ]
              refine ⟨by kernel_rfl, ?_⟩
              refine wpAny_done (by kernel_rfl) ?_ _
              go_wp2_with fail
              have hB8 := (((((((chain H2.out hbk).setCell (p := ⟨wA.heap.size, 0, none⟩) (Nat.le_refl _) (.slice K0 Kl0 Kc0)).setCell (p := ⟨wA.heap.size, 1, none⟩) (Nat.le_refl _) (.slice K1 Kl1 Kc1)).setCell (p := ⟨wA.heap.size, 2, none⟩) (Nat.le_refl _) (.slice K2 Kl2 Kc2)).setCell (p := ⟨wA.heap.size, 3, none⟩) (Nat.le_refl _) (.slice K3 Kl3 Kc3)).setCell (p := ⟨wA.heap.size, 4, none⟩) (Nat.le_refl _) (.slice K4 Kl4 Kc4)).setCell (p := ⟨wA.heap.size, 5, none⟩) (Nat.le_refl _) (.slice K5 Kl5 Kc5))
              have hQ8 := ((((((QZ9.out.put 0 (.slice K0 Kl0 Kc0)).put 1 (.slice K1 Kl1 Kc1)).put 2 (.slice K2 Kl2 Kc2)).put 3 (.slice K3 Kl3 Kc3)).put 4 (.slice K4 Kl4 Kc4)).put 5 (.slice K5 Kl5 Kc5))
              go_meet
              exact ⟨_, K0, Kl0, Kc0, K1, Kl1, Kc1, K2, Kl2, Kc2, K3, Kl3, Kc3, K4, Kl4, Kc4, K5, Kl5, Kc5, D2, _, dd2, 1, rfl, rfl, rfl, Lib.hid hQ8, Lib.hid (.inr rfl), Lib.hid hB8⟩
        · have hcj : ¬ c = j := fun e => hjc2 e.symm
          have HTd := Lib.hid (show Ints wA (some (ad.add j)) (kk - j) (qs.drop j) from (by have h9 := ints_dropA HPc.out hjk HKc.out; rw [if_neg hjc2] at h9; exact h9))
          cases hra : rightS a1 with
          | true =>
            have HR7 := Lib.hid (fun wx (hb : Below wA.heap.size wA wx) => run_ok_any (.agg #[.slice I0 a1.th.length Ic0, .slice I1 a1.pc.length Ic1, .slice I2 a1.su.length Ic2, .slice I3 a1.lo.length Ic3, .slice I4 a1.ce.length Ic4, .slice I5 a1.ch.length Ic5]) a1 wx ((NIc.out.keepB hb).sys (HWB.out.trans (hb.mono HWB.out.size))) (some (ad.add j)) (kk - j) (c - j) (qs.drop j) (HTd.out.below hb) (by omega) hra)
            rw [HST.out] at HR7
            clear hra
            refine wp_heldK_bar [(4, (fun (w' : World) => w'.cell? ⟨gi, 0, none⟩ = some (.slice I0 a1.th.length Ic0) ∧ w'.cell? ⟨gi, 1, none⟩ = some (.slice I1 a1.pc.length Ic1) ∧ w'.cell? ⟨gi, 2, none⟩ = some (.slice I2 a1.su.length Ic2) ∧ w'.cell? ⟨gi, 3, none⟩ = some (.slice I3 a1.lo.length Ic3) ∧ w'.cell? ⟨gi, 4, none⟩ = some (.slice I4 a1.ce.length Ic4) ∧ w'.cell? ⟨gi, 5, none⟩ = some (.slice I5 a1.ch.length Ic5)))] 13 (by kernel_rfl) (by decide) ?_
            have hS0 := (show ((fun (w' : World) => w'.cell? ⟨gi, 0, none⟩ = some (.slice I0 a1.th.length Ic0) ∧ w'.cell? ⟨gi, 1, none⟩ = some (.slice I1 a1.pc.length Ic1) ∧ w'.cell? ⟨gi, 2, none⟩ = some (.slice I2 a1.su.length Ic2) ∧ w'.cell? ⟨gi, 3, none⟩ = some (.slice I3 a1.lo.length Ic3) ∧ w'.cell? ⟨gi, 4, none⟩ = some (.slice I4 a1.ce.length Ic4) ∧ w'.cell? ⟨gi, 5, none⟩ = some (.slice I5 a1.ch.length Ic5))) wA.drew from ⟨r0, r1, r2, r3, r4, r5⟩)
            refine headK_load 0 4 _ rfl (i := 0) (v := ?_) rfl (by kernel_rfl) (fun _ _ _ h => h) (fun _ _ _ h => passed_ready h.1) (Or.inl ⟨by rfl, ?hy16⟩) ⟨fun _ => hS0, trivial⟩ ?rest16
            case hy16 => intro w hSw; (try dsimp only at hSw); obtain ⟨hc0, hc1, hc2, hc3, hc4, hc5⟩ := hSw; go_simp; try (with_reducible rfl)
            case rest16 =>
            try simp only [Act.put, List.setIfInBounds_toArray, List.set_cons_zero, List.set_cons_succ]
            refine headK_take (i := 1) (v := ?_) rfl (by kernel_rfl) (fun _ _ _ h => h) (fun _ _ _ h => passed_ready h.1) (Or.inl ⟨by rfl, ?hy17⟩) ⟨fun _ => hS0, trivial⟩ ?rest17
            case hy17 => intro w _; go_simp; try (with_reducible rfl)
            case rest17 =>
            try simp only [Act.put, List.setIfInBounds_toArray, List.set_cons_zero, List.set_cons_succ]
            refine headK_take (i := 2) (v := ?_) rfl (by kernel_rfl) (fun _ _ _ h => h) (fun _ _ _ h => passed_ready h.1) (Or.inl ⟨by rfl, ?hy18⟩) ⟨fun _ => hS0, trivial⟩ ?rest18
            case hy18 => intro w _; go_simp; try (with_reducible rfl)
            case rest18 =>
            try simp only [Act.put, List.setIfInBounds_toArray, List.set_cons_zero, List.set_cons_succ]
            refine headK_take (i := 3) (v := ?_) rfl (by kernel_rfl) (fun _ _ _ h => h) (fun _ _ _ h => passed_ready h.1) (Or.inl ⟨by rfl, ?hy19⟩) ⟨fun _ => hS0, trivial⟩ ?rest19
            case hy19 => intro w _; go_simp; try (with_reducible rfl)
            case rest19 =>
            try simp only [Act.put, List.setIfInBounds_toArray, List.set_cons_zero, List.set_cons_succ]
            refine headK_two (i := 4) (j := 9) (by kernel_rfl) rfl rfl (fun K hK => ?_) (fun K hK => ?_)
            · go_simp
              refine (HR7.out _ H1.out).mono ?_
              rintro e w9 ⟨K0, Kc0, K1, Kc1, K2, Kc2, K3, Kc3, K4, Kc4, K5, Kc5, D2, dd2, rfl, hM, hi, hk, hbk⟩
              have HM9 := Lib.hid hM
              have HI9 := Lib.hid (show Ints w9 D2 ws2.length ws2 from hi)
              have HK9 := Lib.hid (show SliceOk D2 ws2.length dd2 from hk)
              clear hM hi hk
              refine hK.out _ _ ⟨fun h => Bool.noConfusion (show true = false from h), trivial⟩ ?_
              clear hK K
              try simp only [Act.put, List.setIfInBounds_toArray, List.set_cons_zero, List.set_cons_succ]
              refine headK_take (i := 5) (v := ?_) rfl (by kernel_rfl) (fun _ _ _ h => h) (fun _ _ _ h => passed_ready h.1) (Or.inl ⟨by rfl, ?hy5025⟩) ⟨fun h => Bool.noConfusion (show true = false from h), trivial⟩ ?rest5025
              case hy5025 => intro w _; go_simp; try (with_reducible rfl)
              case rest5025 =>
              try simp only [Act.put, List.setIfInBounds_toArray, List.set_cons_zero, List.set_cons_succ]
              refine headK_take (i := 6) (v := ?_) rfl (by kernel_rfl) (fun _ _ _ h => h) (fun _ _ _ h => passed_ready h.1) (Or.inl ⟨by rfl, ?hy5026⟩) ⟨fun h => Bool.noConfusion (show true = false from h), trivial⟩ ?rest5026
              case hy5026 => intro w _; go_simp; try (with_reducible rfl)
              case rest5026 =>
              try simp only [Act.put, List.setIfInBounds_toArray, List.set_cons_zero, List.set_cons_succ]
              refine headK_take (i := 7) (v := ?_) rfl (by kernel_rfl) (fun _ _ _ h => h) (fun _ _ _ h => passed_ready h.1) (Or.inl ⟨by rfl, ?hy5027⟩) ⟨fun h => Bool.noConfusion (show true = false from h), trivial⟩ ?rest5027
              case hy5027 => intro w _; go_simp; try (with_reducible rfl)
              case rest5027 =>
              try simp only [Act.put, List.setIfInBounds_toArray, List.set_cons_zero, List.set_cons_succ]
              refine headK_take (i := 8) (v := ?_) rfl (by kernel_rfl) (fun _ _ _ h => h) (fun _ _ _ h => passed_ready h.1) (Or.inl ⟨by rfl, ?hy5028⟩) ⟨fun h => Bool.noConfusion (show true = false from h), trivial⟩ ?rest5028
              case hy5028 => intro w _; go_simp; try (with_reducible rfl)
              case rest5028 =>
              try simp only [Act.put, List.setIfInBounds_toArray, List.set_cons_zero, List.set_cons_succ]
              refine headK_one (i := 9) (by kernel_rfl) rfl (fun K hK => ?_)
              go_simp
              refine hK.out _ _ ⟨fun h => Bool.noConfusion (show true = false from h), trivial⟩ ?_
              clear hK K
              try simp only [Act.put, List.setIfInBounds_toArray, List.set_cons_zero, List.set_cons_succ]
              refine headK_one (i := 10) (by kernel_rfl) rfl (fun K hK => ?_)
              go_simp
              refine hK.out _ _ ⟨fun h => Bool.noConfusion (show true = false from h), trivial⟩ ?_
              clear hK K
              try simp only [Act.put, List.setIfInBounds_toArray, List.set_cons_zero, List.set_cons_succ]
              refine headK_take (i := 11) (v := ?_) rfl (by kernel_rfl) (fun _ _ _ h => h) (fun _ _ _ h => passed_ready h.1) (Or.inl ⟨by rfl, ?hy5029⟩) ⟨fun h => Bool.noConfusion (show true = false from h), trivial⟩ ?rest5029
              case hy5029 => intro w _; go_simp; try (with_reducible rfl)
              case rest5029 =>
              try simp only [Act.put, List.setIfInBounds_toArray, List.set_cons_zero, List.set_cons_succ]
              refine headK_take (i := 12) (v := ?_) rfl (by kernel_rfl) (fun _ _ _ h => h) (fun _ _ _ h => passed_ready h.1) (Or.inl ⟨by rfl, ?hy5030⟩) ⟨fun h => Bool.noConfusion (show true = false from h), trivial⟩ ?rest5030
              case hy5030 => intro w _; go_simp; try (with_reducible rfl)
              case rest5030 =>
              try simp only [Act.put, List.setIfInBounds_toArray, List.set_cons_zero, List.set_cons_succ]
              refine ⟨by kernel_rfl, ?_⟩
              refine wpAny_done (by kernel_rfl) ?_ _
              go_wp2_with fail
              have ab : Below w9.heap.size w9 (w9.alloc (.cells #[.slice K0 c2.th.length Kc0, .slice K1 c2.pc.length Kc1, .slice K2 c2.su.length Kc2, .slice K3 c2.lo.length Kc3, .slice K4 c2.ce.length Kc4, .slice K5 c2.ch.length Kc5] 26)) := (Below.refl _ _).alloc (Nat.le_refl _) _
              obtain ⟨M9, hM9⟩ := HM9.out
              go_meet
              exact ⟨_, K0, _, Kc0, K1, _, Kc1, K2, _, Kc2, K3, _, Kc3, K4, _, Kc4, K5, _, Kc5, D2, _, dd2, 0, rfl, rfl, rfl, Lib.hid (Box.new w9 26 _), Lib.hid (.inl ⟨rfl, ⟨.inr ⟨M9, hM9.keepB ab⟩, HNc.out⟩, HI9.out.below ab, HK9.out⟩), Lib.hid (chain (chain H1.out hbk) ab)⟩
            · go_simp
              refine hK.out _ _ ⟨fun _ => (show (fun (w' : World) => w'.cell? ⟨gi, 0, none⟩ = some (.slice I0 a1.th.length Ic0) ∧ w'.cell? ⟨gi, 1, none⟩ = some (.slice I1 a1.pc.length Ic1) ∧ w'.cell? ⟨gi, 2, none⟩ = some (.slice I2 a1.su.length Ic2) ∧ w'.cell? ⟨gi, 3, none⟩ = some (.slice I3 a1.lo.length Ic3) ∧ w'.cell? ⟨gi, 4, none⟩ = some (.slice I4 a1.ce.length Ic4) ∧ w'.cell? ⟨gi, 5, none⟩ = some (.slice I5 a1.ch.length Ic5)) _ from ⟨s0, s1, s2, s3, s4, s5⟩), trivial⟩ ?_
              clear hK K
              try simp only [Act.put, List.setIfInBounds_toArray, List.set_cons_zero, List.set_cons_succ]
              refine headK_one (i := 4) (by kernel_rfl) rfl (fun K hK => ?_)
              go_simp
              refine (HR7.out _ H2.out).mono ?_
              rintro e w9 ⟨K0, Kc0, K1, Kc1, K2, Kc2, K3, Kc3, K4, Kc4, K5, Kc5, D2, dd2, rfl, hM, hi, hk, hbk⟩
              have HM9 := Lib.hid hM
              have HI9 := Lib.hid (show Ints w9 D2 ws2.length ws2 from hi)
              have HK9 := Lib.hid (show SliceOk D2 ws2.length dd2 from hk)
              clear hM hi hk
              have QZ9 := Lib.hid (QZ.out.keep hbk)
              obtain ⟨y0, y1, y2, y3, y4, y5⟩ := QZ9.out.six
              have v0 := QZ9.out.free 0
              have v1 := QZ9.out.free 1
              have v2 := QZ9.out.free 2
              have v3 := QZ9.out.free 3
              have v4 := QZ9.out.free 4
              have v5 := QZ9.out.free 5
              refine hK.out _ _ ⟨fun h => Bool.noConfusion (show true = false from h), trivial⟩ ?_
              clear hK K
              try simp only [Act.put, List.setIfInBounds_toArray, List.set_cons_zero, List.set_cons_succ]
              refine headK_take (i := 5) (v := ?_) rfl (by kernel_rfl) (fun _ _ _ h => h) (fun _ _ _ h => passed_ready h.1) (Or.inl ⟨by rfl, ?hy5031⟩) ⟨fun h => Bool.noConfusion (show true = false from h), trivial⟩ ?rest5031
              case hy5031 => intro w _; go_simp; try (with_reducible rfl)
              case rest5031 =>
              try simp only [Act.put, List.setIfInBounds_toArray, List.set_cons_zero, List.set_cons_succ]
              refine headK_take (i := 6) (v := ?_) rfl (by kernel_rfl) (fun _ _ _ h => h) (fun _ _ _ h => passed_ready h.1) (Or.inl ⟨by rfl, ?hy5032⟩) ⟨fun h => Bool.noConfusion (show true = false from h), trivial⟩ ?rest5032
              case hy5032 => intro w _; go_simp; try (with_reducible rfl)
              case rest5032 =>
              try simp only [Act.put, List.setIfInBounds_toArray, List.set_cons_zero, List.set_cons_succ]
              refine headK_take (i := 7) (v := ?_) rfl (by kernel_rfl) (fun _ _ _ h => h) (fun _ _ _ h => passed_ready h.1) (Or.inl ⟨by rfl, ?hy5033⟩) ⟨fun h => Bool.noConfusion (show true = false from h), trivial⟩ ?rest5033
              case hy5033 => intro w _; go_simp; try (with_reducible rfl)
              case rest5033 =>
              try simp only [Act.put, List.setIfInBounds_toArray, List.set_cons_zero, List.set_cons_succ]
              refine headK_take (i := 8) (v := ?_) rfl (by kernel_rfl) (fun _ _ _ h => h) (fun _ _ _ h => passed_ready h.1) (Or.inl ⟨by rfl, ?hy5034⟩) ⟨fun h => Bool.noConfusion (show true = false from h), trivial⟩ ?rest5034
              case hy5034 => intro w _; go_simp; try (with_reducible rfl)
              case rest5034 =>
              try simp only [Act.put, List.setIfInBounds_toArray, List.set_cons_zero, List.set_cons_succ]
              refine headK_one (i := 10) (by kernel_rfl) rfl (fun K hK => ?_)
              go_simp
              refine hK.out _ _ ⟨fun h => Bool.noConfusion (show true = false from h), trivial⟩ ?_
              clear hK K
              try simp only [Act.put, List.setIfInBounds_toArray, List.set_cons_zero, List.set_cons_succ]
              refine headK_take (i := 11) (v := ?_) rfl (by kernel_rfl) (fun _ _ _ h => h) (fun _ _ _ h => passed_ready h.1) (Or.inl ⟨by rfl, ?hy5035⟩) ⟨fun h => Bool.noConfusion (show true = false from h), trivial⟩ ?rest5035
              case hy5035 => intro w _; go_simp; try (with_reducible rfl)
              case rest5035 =>
              try simp only [Act.put, List.setIfInBounds_toArray, List.set_cons_zero, List.set_cons_succ]
              refine headK_take (i := 12) (v := ?_) rfl (by kernel_rfl) (fun _ _ _ h => h) (fun _ _ _ h => passed_ready h.1) (Or.inl ⟨by rfl, ?hy5036⟩) ⟨fun h => Bool.noConfusion (show true = false from h), trivial⟩ ?rest5036
              case hy5036 => intro w _; go_simp; try (with_reducible rfl)
              case rest5036 =>
              try simp only [Act.put, List.setIfInBounds_toArray, List.set_cons_zero, List.set_cons_succ]
              refine ⟨by kernel_rfl, ?_⟩
              refine wpAny_done (by kernel_rfl) ?_ _
              go_wp2_with fail
              have hX := set6_grown w9 (wA.heap.size) (.slice K0 c2.th.length Kc0) (.slice K1 c2.pc.length Kc1) (.slice K2 c2.su.length Kc2) (.slice K3 c2.lo.length Kc3) (.slice K4 c2.ce.length Kc4) (.slice K5 c2.ch.length Kc5)
              obtain ⟨M9, hM9⟩ := HM9.out
              have hM8 := hM9.box_gr QZ9.out hX
              have hI8 := HI9.out.box_gr QZ9.out (fun x hx k n e => by subst e; simp at hx) hX
              have hB8 := (((((((chain H2.out hbk).setCell (p := ⟨wA.heap.size, 0, none⟩) (Nat.le_refl _) (.slice K0 c2.th.length Kc0)).setCell (p := ⟨wA.heap.size, 1, none⟩) (Nat.le_refl _) (.slice K1 c2.pc.length Kc1)).setCell (p := ⟨wA.heap.size, 2, none⟩) (Nat.le_refl _) (.slice K2 c2.su.length Kc2)).setCell (p := ⟨wA.heap.size, 3, none⟩) (Nat.le_refl _) (.slice K3 c2.lo.length Kc3)).setCell (p := ⟨wA.heap.size, 4, none⟩) (Nat.le_refl _) (.slice K4 c2.ce.length Kc4)).setCell (p := ⟨wA.heap.size, 5, none⟩) (Nat.le_refl _) (.slice K5 c2.ch.length Kc5))
              have hQ8 := ((((((QZ9.out.put 0 (.slice K0 c2.th.length Kc0)).put 1 (.slice K1 c2.pc.length Kc1)).put 2 (.slice K2 c2.su.length Kc2)).put 3 (.slice K3 c2.lo.length Kc3)).put 4 (.slice K4 c2.ce.length Kc4)).put 5 (.slice K5 c2.ch.length Kc5))
              clear hX
              go_meet
              exact ⟨_, K0, _, Kc0, K1, _, Kc1, K2, _, Kc2, K3, _, Kc3, K4, _, Kc4, K5, _, Kc5, D2, _, dd2, 0, rfl, rfl, rfl, Lib.hid hQ8, Lib.hid (.inl ⟨rfl, ⟨.inr ⟨M9, hM8⟩, HNc.out⟩, hI8, HK9.out⟩), Lib.hid hB8⟩
          | false =>
            have HR7 := Lib.hid (fun wx (hb : Below wA.heap.size wA wx) => run_no_any (.agg #[.slice I0 a1.th.length Ic0, .slice I1 a1.pc.length Ic1, .slice I2 a1.su.length Ic2, .slice I3 a1.lo.length Ic3, .slice I4 a1.ce.length Ic4, .slice I5 a1.ch.length Ic5]) a1 wx ((NIc.out.keepB hb).sys (HWB.out.trans (hb.mono HWB.out.size))) (some (ad.add j)) (kk - j) (c - j) (qs.drop j) (HTd.out.below hb) (by omega) hra)
            clear hra
            refine wp_heldK_bar [(4, (fun (w' : World) => w'.cell? ⟨gi, 0, none⟩ = some (.slice I0 a1.th.length Ic0) ∧ w'.cell? ⟨gi, 1, none⟩ = some (.slice I1 a1.pc.length Ic1) ∧ w'.cell? ⟨gi, 2, none⟩ = some (.slice I2 a1.su.length Ic2) ∧ w'.cell? ⟨gi, 3, none⟩ = some (.slice I3 a1.lo.length Ic3) ∧ w'.cell? ⟨gi, 4, none⟩ = some (.slice I4 a1.ce.length Ic4) ∧ w'.cell? ⟨gi, 5, none⟩ = some (.slice I5 a1.ch.length Ic5)))] 13 (by kernel_rfl) (by decide) ?_
            have hS0 := (show ((fun (w' : World) => w'.cell? ⟨gi, 0, none⟩ = some (.slice I0 a1.th.length Ic0) ∧ w'.cell? ⟨gi, 1, none⟩ = some (.slice I1 a1.pc.length Ic1) ∧ w'.cell? ⟨gi, 2, none⟩ = some (.slice I2 a1.su.length Ic2) ∧ w'.cell? ⟨gi, 3, none⟩ = some (.slice I3 a1.lo.length Ic3) ∧ w'.cell? ⟨gi, 4, none⟩ = some (.slice I4 a1.ce.length Ic4) ∧ w'.cell? ⟨gi, 5, none⟩ = some (.slice I5 a1.ch.length Ic5))) wA.drew from ⟨r0, r1, r2, r3, r4, r5⟩)
            refine headK_load 0 4 _ rfl (i := 0) (v := ?_) rfl (by kernel_rfl) (fun _ _ _ h => h) (fun _ _ _ h => passed_ready h.1) (Or.inl ⟨by rfl, ?hy20⟩) ⟨fun _ => hS0, trivial⟩ ?rest20
            case hy20 => intro w hSw; (try dsimp only at hSw); obtain ⟨hc0, hc1, hc2, hc3, hc4, hc5⟩ := hSw; go_simp; try (with_reducible rfl)
            case rest20 =>
            try simp only [Act.put, List.setIfInBounds_toArray, List.set_cons_zero, List.set_cons_succ]
            refine headK_take (i := 1) (v := ?_) rfl (by kernel_rfl) (fun _ _ _ h => h) (fun _ _ _ h => passed_ready h.1) (Or.inl ⟨by rfl, ?hy21⟩) ⟨fun _ => hS0, trivial⟩ ?rest21
            case hy21 => intro w _; go_simp; try (with_reducible rfl)
            case rest21 =>
            try simp only [Act.put, List.setIfInBounds_toArray, List.set_cons_zero, List.set_cons_succ]
            refine headK_take (i := 2) (v := ?_) rfl (by kernel_rfl) (fun _ _ _ h => h) (fun _ _ _ h => passed_ready h.1) (Or.inl ⟨by rfl, ?hy22⟩) ⟨fun _ => hS0, trivial⟩ ?rest22
            case hy22 => intro w _; go_simp; try (with_reducible rfl)
            case rest22 =>
            try simp only [Act.put, List.setIfInBounds_toArray, List.set_cons_zero, List.set_cons_succ]
            refine headK_take (i := 3) (v := ?_) rfl (by kernel_rfl) (fun _ _ _ h => h) (fun _ _ _ h => passed_ready h.1) (Or.inl ⟨by rfl, ?hy23⟩) ⟨fun _ => hS0, trivial⟩ ?rest23
            case hy23 => intro w _; go_simp; try (with_reducible rfl)
            case rest23 =>
            try simp only [Act.put, List.setIfInBounds_toArray, List.set_cons_zero, List.set_cons_succ]
            refine headK_two (i := 4) (j := 9) (by kernel_rfl) rfl rfl (fun K hK => ?_) (fun K hK => ?_)
            · go_simp
              refine (HR7.out _ H1.out).mono ?_
              rintro e w9 ⟨K0, Kl0, Kc0, K1, Kl1, Kc1, K2, Kl2, Kc2, K3, Kl3, Kc3, K4, Kl4, Kc4, K5, Kl5, Kc5, D2, dd2, rfl, hbk⟩
              refine hK.out _ _ ⟨fun h => Bool.noConfusion (show true = false from h), trivial⟩ ?_
              clear hK K
              try simp only [Act.put, List.setIfInBounds_toArray, List.set_cons_zero, List.set_cons_succ]
              refine headK_take (i := 5) (v := ?_) rfl (by kernel_rfl) (fun _ _ _ h => h) (fun _ _ _ h => passed_ready h.1) (Or.inl ⟨by rfl, ?hy5037⟩) ⟨fun h => Bool.noConfusion (show true = false from h), trivial⟩ ?rest5037
              case hy5037 => intro w _; go_simp; try (with_reducible rfl)
              case rest5037 =>
              try simp only [Act.put, List.setIfInBounds_toArray, List.set_cons_zero, List.set_cons_succ]
              refine headK_take (i := 6) (v := ?_) rfl (by kernel_rfl) (fun _ _ _ h => h) (fun _ _ _ h => passed_ready h.1) (Or.inl ⟨by rfl, ?hy5038⟩) ⟨fun h => Bool.noConfusion (show true = false from h), trivial⟩ ?rest5038
              case hy5038 => intro w _; go_simp; try (with_reducible rfl)
              case rest5038 =>
              try simp only [Act.put, List.setIfInBounds_toArray, List.set_cons_zero, List.set_cons_succ]
              refine headK_take (i := 7) (v := ?_) rfl (by kernel_rfl) (fun _ _ _ h => h) (fun _ _ _ h => passed_ready h.1) (Or.inl ⟨by rfl, ?hy5039⟩) ⟨fun h => Bool.noConfusion (show true = false from h), trivial⟩ ?rest5039
              case hy5039 => intro w _; go_simp; try (with_reducible rfl)
              case rest5039 =>
              try simp only [Act.put, List.setIfInBounds_toArray, List.set_cons_zero, List.set_cons_succ]
              refine headK_take (i := 8) (v := ?_) rfl (by kernel_rfl) (fun _ _ _ h => h) (fun _ _ _ h => passed_ready h.1) (Or.inl ⟨by rfl, ?hy5040⟩) ⟨fun h => Bool.noConfusion (show true = false from h), trivial⟩ ?rest5040
              case hy5040 => intro w _; go_simp; try (with_reducible rfl)
              case rest5040 =>
              try simp only [Act.put, List.setIfInBounds_toArray, List.set_cons_zero, List.set_cons_succ]
              refine headK_one (i := 9) (by kernel_rfl) rfl (fun K hK => ?_)
              go_simp
              refine hK.out _ _ ⟨fun h => Bool.noConfusion (show true = false from h), trivial⟩ ?_
              clear hK K
              try simp only [Act.put, List.setIfInBounds_toArray, List.set_cons_zero, List.set_cons_succ]
              refine headK_one (i := 10) (by kernel_rfl) rfl (fun K hK => ?_)
              go_simp
              refine hK.out _ _ ⟨fun h => Bool.noConfusion (show true = false from h), trivial⟩ ?_
              clear hK K
              try simp only [Act.put, List.setIfInBounds_toArray, List.set_cons_zero, List.set_cons_succ]
              refine headK_take (i := 11) (v := ?_) rfl (by kernel_rfl) (fun _ _ _ h => h) (fun _ _ _ h => passed_ready h.1) (Or.inl ⟨by rfl, ?hy5041⟩) ⟨fun h => Bool.noConfusion (show true = false from h), trivial⟩ ?rest5041
              case hy5041 => intro w _; go_simp; try (with_reducible rfl)
              case rest5041 =>
              try simp only [Act.put, List.setIfInBounds_toArray, List.set_cons_zero, List.set_cons_succ]
              refine headK_take (i := 12) (v := ?_) rfl (by kernel_rfl) (fun _ _ _ h => h) (fun _ _ _ h => passed_ready h.1) (Or.inl ⟨by rfl, ?hy5042⟩) ⟨fun h => Bool.noConfusion (show true = false from h), trivial⟩ ?rest5042
              case hy5042 => intro w _; go_simp; try (with_reducible rfl)
              case rest5042 =>
              try simp only [Act.put, List.setIfInBounds_toArray, List.set_cons_zero, List.set_cons_succ]
              refine ⟨by kernel_rfl, ?_⟩
              refine wpAny_done (by kernel_rfl) ?_ _
              go_wp2_with fail
              have ab : Below w9.heap.size w9 (w9.alloc (.cells #[.slice K0 Kl0 Kc0, .slice K1 Kl1 Kc1, .slice K2 Kl2 Kc2, .slice K3 Kl3 Kc3, .slice K4 Kl4 Kc4, .slice K5 Kl5 Kc5] 26)) := (Below.refl _ _).alloc (Nat.le_refl _) _
              go_meet
              exact ⟨_, K0, Kl0, Kc0, K1, Kl1, Kc1, K2, Kl2, Kc2, K3, Kl3, Kc3, K4, Kl4, Kc4, K5, Kl5, Kc5, D2, _, dd2, 1, rfl, rfl, rfl, Lib.hid (Box.new w9 26 _), Lib.hid (.inr rfl), Lib.hid (chain (chain H1.out hbk) ab)⟩
            · go_simp
              refine hK.out _ _ ⟨fun _ => (show (fun (w' : World) => w'.cell? ⟨gi, 0, none⟩ = some (.slice I0 a1.th.length Ic0) ∧ w'.cell? ⟨gi, 1, none⟩ = some (.slice I1 a1.pc.length Ic1) ∧ w'.cell? ⟨gi, 2, none⟩ = some (.slice I2 a1.su.length Ic2) ∧ w'.cell? ⟨gi, 3, none⟩ = some (.slice I3 a1.lo.length Ic3) ∧ w'.cell? ⟨gi, 4, none⟩ = some (.slice I4 a1.ce.length Ic4) ∧ w'.cell? ⟨gi, 5, none⟩ = some (.slice I5 a1.ch.length Ic5)) _ from ⟨s0, s1, s2, s3, s4, s5⟩), trivial⟩ ?_
              clear hK K
              try simp only [Act.put, List.setIfInBounds_toArray, List.set_cons_zero, List.set_cons_succ]
              refine headK_one (i := 4) (by kernel_rfl) rfl (fun K hK => ?_)
              go_simp
              refine (HR7.out _ H2.out).mono ?_
              rintro e w9 ⟨K0, Kl0, Kc0, K1, Kl1, Kc1, K2, Kl2, Kc2, K3, Kl3, Kc3, K4, Kl4, Kc4, K5, Kl5, Kc5, D2, dd2, rfl, hbk⟩
              have QZ9 := Lib.hid (QZ.out.keep hbk)
              obtain ⟨y0, y1, y2, y3, y4, y5⟩ := QZ9.out.six
              have v0 := QZ9.out.free 0
              have v1 := QZ9.out.free 1
              have v2 := QZ9.out.free 2
              have v3 := QZ9.out.free 3
              have v4 := QZ9.out.free 4
              have v5 := QZ9.out.free 5
              refine hK.out _ _ ⟨fun h => Bool.noConfusion (show true = false from h), trivial⟩ ?_
              clear hK K
              try simp only [Act.put, List.setIfInBounds_toArray, List.set_cons_zero, List.set_cons_succ]
              refine headK_take (i := 5) (v := ?_) rfl (by kernel_rfl) (fun _ _ _ h => h) (fun _ _ _ h => passed_ready h.1) (Or.inl ⟨by rfl, ?hy5043⟩) ⟨fun h => Bool.noConfusion (show true = false from h), trivial⟩ ?rest5043
              case hy5043 => intro w _; go_simp; try (with_reducible rfl)
              case rest5043 =>
              try simp only [Act.put, List.setIfInBounds_toArray, List.set_cons_zero, List.set_cons_succ]
              refine headK_take (i := 6) (v := ?_) rfl (by kernel_rfl) (fun _ _ _ h => h) (fun _ _ _ h => passed_ready h.1) (Or.inl ⟨by rfl, ?hy5044⟩) ⟨fun h => Bool.noConfusion (show true = false from h), trivial⟩ ?rest5044
              case hy5044 => intro w _; go_simp; try (with_reducible rfl)
              case rest5044 =>
              try simp only [Act.put, List.setIfInBounds_toArray, List.set_cons_zero, List.set_cons_succ]
              refine headK_take (i := 7) (v := ?_) rfl (by kernel_rfl) (fun _ _ _ h => h) (fun _ _ _ h => passed_ready h.1) (Or.inl ⟨by rfl, ?hy5045⟩) ⟨fun h => Bool.noConfusion (show true = false from h), trivial⟩ ?rest5045
              case hy5045 => intro w _; go_simp; try (with_reducible rfl)
              case rest5045 =>
              try simp only [Act.put, List.setIfInBounds_toArray, List.set_cons_zero, List.set_cons_succ]
              refine headK_take (i := 8) (v := ?_) rfl (by kernel_rfl) (fun _ _ _ h => h) (fun _ _ _ h => passed_ready h.1) (Or.inl ⟨by rfl, ?hy5046⟩) ⟨fun h => Bool.noConfusion (show true = false from h), trivial⟩ ?rest5046
              case hy5046 => intro w _; go_simp; try (with_reducible rfl)
              case rest5046 =>
              try simp only [Act.put, List.setIfInBounds_toArray, List.set_cons_zero, List.set_cons_succ]
              refine headK_one (i := 10) (by kernel_rfl) rfl (fun K hK => ?_)
              go_simp
              refine hK.out _ _ ⟨fun h => Bool.noConfusion (show true = false from h), trivial⟩ ?_
              clear hK K
              try simp only [Act.put, List.setIfInBounds_toArray, List.set_cons_zero, List.set_cons_succ]
              refine headK_take (i := 11) (v := ?_) rfl (by kernel_rfl) (fun _ _ _ h => h) (fun _ _ _ h => passed_ready h.1) (Or.inl ⟨by rfl, ?hy5047⟩) ⟨fun h => Bool.noConfusion (show true = false from h), trivial⟩ ?rest5047
              case hy5047 => intro w _; go_simp; try (with_reducible rfl)
              case rest5047 =>
              try simp only [Act.put, List.setIfInBounds_toArray, List.set_cons_zero, List.set_cons_succ]
              refine headK_take (i := 12) (v := ?_) rfl (by kernel_rfl) (fun _ _ _ h => h) (fun _ _ _ h => passed_ready h.1) (Or.inl ⟨by rfl, ?hy5048⟩) ⟨fun h => Bool.noConfusion (show true = false from h), trivial⟩ ?rest5048
              case hy5048 => intro w _; go_simp; try (with_reducible rfl)
              case rest5048 =>
              try simp only [Act.put, List.setIfInBounds_toArray, List.set_cons_zero, List.set_cons_succ]
              refine ⟨by kernel_rfl, ?_⟩
              refine wpAny_done (by kernel_rfl) ?_ _
              go_wp2_with fail
              have hB8 := (((((((chain H2.out hbk).setCell (p := ⟨wA.heap.size, 0, none⟩) (Nat.le_refl _) (.slice K0 Kl0 Kc0)).setCell (p := ⟨wA.heap.size, 1, none⟩) (Nat.le_refl _) (.slice K1 Kl1 Kc1)).setCell (p := ⟨wA.heap.size, 2, none⟩) (Nat.le_refl _) (.slice K2 Kl2 Kc2)).setCell (p := ⟨wA.heap.size, 3, none⟩) (Nat.le_refl _) (.slice K3 Kl3 Kc3)).setCell (p := ⟨wA.heap.size, 4, none⟩) (Nat.le_refl _) (.slice K4 Kl4 Kc4)).setCell (p := ⟨wA.heap.size, 5, none⟩) (Nat.le_refl _) (.slice K5 Kl5 Kc5))
              have hQ8 := ((((((QZ9.out.put 0 (.slice K0 Kl0 Kc0)).put 1 (.slice K1 Kl1 Kc1)).put 2 (.slice K2 Kl2 Kc2)).put 3 (.slice K3 Kl3 Kc3)).put 4 (.slice K4 Kl4 Kc4)).put 5 (.slice K5 Kl5 Kc5))
              go_meet
              exact ⟨_, K0, Kl0, Kc0, K1, Kl1, Kc1, K2, Kl2, Kc2, K3, Kl3, Kc3, K4, Kl4, Kc4, K5, Kl5, Kc5, D2, _, dd2, 1, rfl, rfl, rfl, Lib.hid hQ8, Lib.hid (.inr rfl), Lib.hid hB8⟩
      case rest =>
        obtain ⟨g2, K0, Kl0, Kc0, K1, Kl1, Kc1, K2, Kl2, Kc2, K3, Kl3, Kc3, K4, Kl4, Kc4, K5, Kl5, Kc5, D2, n2, dd2, code, rfl, rfl, rfl, QKc, DKc, HBn⟩ := hcut
        obtain ⟨wB, hwB⟩ : ∃ x : World, x = wc := ⟨_, rfl⟩
        subst hwB
        clear r0 r1 r2 r3 r4 r5 s0 s1 s2 s3 s4 s5 QZ H1 H2 HWB NIc QI HST
        replace QAc := Lib.hid (QAc.out.keep HBn.out)
        replace QGc := Lib.hid (QGc.out.keep HBn.out)
        replace NGc := Lib.hid (NGc.out.keepB HBn.out)
        replace I7c := Lib.hid (I7c.out.below HBn.out)
        replace NWc := Lib.hid (NWc.out.keepB HBn.out)
        replace HPc := Lib.hid (HPc.out.below HBn.out)
        replace HBc := Lib.hid (chain HBc.out HBn.out)
        replace II := Lib.hid (II.out.below HBn.out)
        clear HBn
        go_upto_region 8 with (fail)
        go_cut [93] (fun v wx => v = .bool false ∧ Hid (Below wB.heap.size wB wx))
        case first =>
          rcases DKc.out with ⟨rfl, -⟩ | rfl
          · go_wp2_with fail
            refine (alive20_any _).mono ?_
            rintro e wx ⟨rfl, hb⟩
            go_wp2_with fail
            go_meet
            exact ⟨rfl, Lib.hid hb⟩
          · go_wp2_with fail
            refine (alive20_any _).mono ?_
            rintro e wx ⟨rfl, hb⟩
            go_wp2_with fail
            go_meet
            exact ⟨rfl, Lib.hid hb⟩
        case rest =>
          obtain ⟨rfl, HBn⟩ := hcut
          obtain ⟨wC, hwC⟩ : ∃ x : World, x = wc := ⟨_, rfl⟩
          subst hwC
          replace QAc := Lib.hid (QAc.out.keep HBn.out)
          replace QGc := Lib.hid (QGc.out.keep HBn.out)
          replace NGc := Lib.hid (NGc.out.keepB HBn.out)
          replace I7c := Lib.hid (I7c.out.below HBn.out)
          replace NWc := Lib.hid (NWc.out.keepB HBn.out)
          replace HPc := Lib.hid (HPc.out.below HBn.out)
          replace HBc := Lib.hid (chain HBc.out HBn.out)
          replace QKc := Lib.hid (QKc.out.keep HBn.out)
          replace DKc := Lib.hid (DKmove DKc.out HBn.out)
          replace II := Lib.hid (II.out.below HBn.out)
          clear HBn
          go_upto_region 10 with (fail)
          go_cut [110] (fun v wx => v = .bool false ∧ Hid (Below wC.heap.size wC wx))
          case first =>
            rcases DKc.out with ⟨rfl, hN, hI, hK⟩ | rfl
            · have HWC := HB6.out.trans (HBc.out.mono HB6.out.size)
              have HSm := Lib.hid (refSame_any (.agg #[.slice K0 Kl0 Kc0, .slice K1 Kl1 Kc1, .slice K2 Kl2 Kc2, .slice K3 Kl3 Kc3, .slice K4 Kl4 Kc4, .slice K5 Kl5 Kc5]) c2 (.agg #[.slice G0 c2.th.length Gc0, .slice G1 c2.pc.length Gc1, .slice G2 c2.su.length Gc2, .slice G3 c2.lo.length Gc3, .slice G4 c2.ce.length Gc4, .slice G5 c2.ch.length Gc5]) c2 wC (hN.sys HWC) (NGc.out.sys HWC) HSm0.out HSm0.out)
              rw [same_self] at HSm
              obtain rfl : n2 = ws2.length := hI.1.symm
              have HI2 := Lib.hid hI
              have HK2 := Lib.hid hK
              have hl1 : ws1.length ≤ 60 := by have h9 := congrArg List.length HWs.out; rw [List.length_append] at h9; omega
              have hl2 : ws2.length ≤ 60 := by have h9 := congrArg List.length HWs.out; rw [List.length_append] at h9; omega
              clear hN hI hK HWC
              obtain ⟨r0, r1, r2, r3, r4, r5⟩ := QKc.out.six
              obtain ⟨q0, q1, q2, q3, q4, q5⟩ := QGc.out.six
              go_wp2_with fail
              refine HSm.out.mono ?_
              rintro e wx ⟨rfl, hb⟩
              have HBx := Lib.hid hb
              have ab : Below wx.heap.size wx (wx.alloc (.cells #[.slice D ws1.length dd, .slice D2 ws2.length dd2] 23)) := (Below.refl _ _).alloc (Nat.le_refl _) _
              have HBy := Lib.hid (chain hb ab)
              have HCc := Lib.hid (concat2_any wx.heap.size 23 D ws1.length dd ws1 D2 ws2.length dd2 ws2 _ (Box.new wx 23 #[.slice D ws1.length dd, .slice D2 ws2.length dd2]) (II.out.below HBy.out) (HI2.out.below HBy.out) (fun e => (KI.out.2.2 e).1) (fun e => (HK2.out.2.2 e).1) (by omega) (by omega))
              rw [HWs.out] at HCc
              clear hb ab r0 r1 r2 r3 r4 r5 q0 q1 q2 q3 q4 q5
              go_wp2_with fail
              refine HCc.out.mono ?_
              rintro e wy ⟨F9, f9, rfl, ho, hb⟩
              have HNm := Lib.hid (refNumbers_any F9 B ws.length f9 ws.length d ws ws wy (OwnI.ints ho H64.out) (I7c.out.below (chain HBy.out hb)) (by omega) (by omega))
              rw [show sameZ ws ws = true from decide_eq_true rfl] at HNm
              have HBz := Lib.hid (chain HBy.out hb)
              clear hb ho
              go_wp2_with fail
              refine HNm.out.mono ?_
              rintro e wz ⟨rfl, hb⟩
              have HBq := Lib.hid (chain HBz.out hb)
              clear hb
              go_wp2_with fail
              go_meet
              exact ⟨rfl, HBq⟩
            · go_wp2_with fail
              go_meet
              exact ⟨rfl, Lib.hid (Below.refl _ _)⟩
          case rest =>
            obtain ⟨rfl, HBn⟩ := hcut
            obtain ⟨wD, hwD⟩ : ∃ x : World, x = wc := ⟨_, rfl⟩
            subst hwD
            replace QAc := Lib.hid (QAc.out.keep HBn.out)
            replace QGc := Lib.hid (QGc.out.keep HBn.out)
            replace NGc := Lib.hid (NGc.out.keepB HBn.out)
            replace I7c := Lib.hid (I7c.out.below HBn.out)
            replace NWc := Lib.hid (NWc.out.keepB HBn.out)
            replace HPc := Lib.hid (HPc.out.below HBn.out)
            replace HBc := Lib.hid (chain HBc.out HBn.out)
            clear HBn QKc DKc II KI HWs
            obtain ⟨r0, r1, r2, r3, r4, r5⟩ := QAc.out.six
            go_upto_region 13 with (fail)
            have ab : Below wD.heap.size wD (wD.alloc (.cells #[.slice E0 k0 f0, .slice E1 k1 f1, .slice E2 k2 f2, .slice E3 k3 f3, .slice E4 k4 f4, .slice E5 k5 f5] 26)) := (Below.refl _ _).alloc (Nat.le_refl _) _
            have hg7 : w7.heap.size < wD.heap.size := QGc.out.lt
            have hgW : W.heap.size ≤ wD.heap.size := (HB6.out.trans (HBc.out.mono HB6.out.size)).size
            have QX0 := Lib.hid (Box.new wD 26 #[.slice E0 k0 f0, .slice E1 k1 f1, .slice E2 k2 f2, .slice E3 k3 f3, .slice E4 k4 f4, .slice E5 k5 f5])
            have NX0 := Lib.hid (NWc.out.keepB ab)
            have QG0 := Lib.hid (QGc.out.keep ab)
            have NG0 := Lib.hid (NGc.out.keepB ab)
            have I70 := Lib.hid (I7c.out.below ab)
            have HBw0 := Lib.hid (HB6.out.trans ((chain HBc.out ab).mono HB6.out.size))
            have HGd1 : Hid (c2 = foldS (fewS sa) ws) := Lib.hid HGd.out.1
            have HGd2 : Hid (∀ i, i < ws.length → okAt (fewS sa) ws i) := Lib.hid HGd.out.2
            clear ab r0 r1 r2 r3 r4 r5 QAc QGc NGc I7c NWc HPc HBc HGd
            obtain ⟨wE, hwE⟩ : ∃ x, x = wD.alloc (.cells #[.slice E0 k0 f0, .slice E1 k1 f1, .slice E2 k2 f2, .slice E3 k3 f3, .slice E4 k4 f4, .slice E5 k5 f5] 26) := ⟨_, rfl⟩
            rw [← hwE] at QX0 NX0 QG0 NG0 I70 HBw0 ⊢
            clear hwE
            have hw64 : ws.length ≤ 9223372036854775807 := by omega
            go_wp2_with fail
            go_loopw [114] (fun t wr => ∃ (i : Nat) (X0 : Option Addr) (Xl0 Xc0 : Nat) (X1 : Option Addr) (Xl1 Xc1 : Nat) (X2 : Option Addr) (Xl2 Xc2 : Nat) (X3 : Option Addr) (Xl3 Xc3 : Nat) (X4 : Option Addr) (Xl4 Xc4 : Nat) (X5 : Option Addr) (Xl5 Xc5 : Nat), i ≤ ws.length ∧ t = .int .i64 (i : Int) ∧ Hid (Box wr wD.heap.size 26 #[.slice X0 Xl0 Xc0, .slice X1 Xl1 Xc1, .slice X2 Xl2 Xc2, .slice X3 Xl3 Xc3, .slice X4 Xl4 Xc4, .slice X5 Xl5 Xc5]) ∧ Hid (NowAt W wr (.agg #[.slice X0 Xl0 Xc0, .slice X1 Xl1 Xc1, .slice X2 Xl2 Xc2, .slice X3 Xl3 Xc3, .slice X4 Xl4 Xc4, .slice X5 Xl5 Xc5]) (foldS (fewS sa) (ws.take i))) ∧ Hid (Box wr w7.heap.size 26 #[.slice G0 c2.th.length Gc0, .slice G1 c2.pc.length Gc1, .slice G2 c2.su.length Gc2, .slice G3 c2.lo.length Gc3, .slice G4 c2.ce.length Gc4, .slice G5 c2.ch.length Gc5]) ∧ Hid (NowAt W wr (.agg #[.slice G0 c2.th.length Gc0, .slice G1 c2.pc.length Gc1, .slice G2 c2.su.length Gc2, .slice G3 c2.lo.length Gc3, .slice G4 c2.ce.length Gc4, .slice G5 c2.ch.length Gc5]) c2) ∧ Hid (Ints wr B ws.length ws) ∧ Hid (Below W.heap.size W wr)) (fun t _ => ws.length - (Go.RowKit.intOf t).toNat)
            case atStart => exact ⟨0, E0, k0, f0, E1, k1, f1, E2, k2, f2, E3, k3, f3, E4, k4, f4, E5, k5, f5, Nat.zero_le _, rfl, QX0, NX0, QG0, NG0, I70, HBw0⟩
            case round =>
              obtain ⟨i, X0, Xl0, Xc0, X1, Xl1, Xc1, X2, Xl2, Xc2, X3, Xl3, Xc3, X4, Xl4, Xc4, X5, Xl5, Xc5, hi, rfl, QX, NX, QG, NG, I7, HBw⟩ := hrel
              obtain ⟨wR, hwR⟩ : ∃ x : World, x = wr := ⟨_, rfl⟩
              subst hwR
              clear QX0 NX0 QG0 NG0 I70 HBw0
              obtain ⟨r0, r1, r2, r3, r4, r5⟩ := QX.out.six
              by_cases hlt : i < ws.length
              · have hlt' : (i : Int) < (ws.length : Int) := by omega
                obtain ⟨bb, oo, hBB, hbb, hcc⟩ := I7.out.2.2 (by omega)
                have cw := hcc i hlt
                obtain ⟨tt, e1, e2, e3⟩ := HGd2.out i hlt
                rw [e1] at cw
                have HNext := Lib.hid (show foldS (fewS sa) (ws.take (i + 1)) = stepS (foldS (fewS sa) (ws.take i)) tt by
                  have hd : (default : Int) = 0 := rfl
                  rw [take_snocD ws i hlt, foldS_snoc, hd, e1, Int.toNat_natCast])
                obtain ⟨ci, hci⟩ : ∃ ci, ci = foldS (fewS sa) (ws.take i) := ⟨_, rfl⟩
                rw [← hci] at NX HNext e2 e3
                have HSx := Lib.hid (NX.out.sys HBw.out)
                have HMem := Lib.hid (enL_mem e2 e3)
                have HE2 := Lib.hid e2
                have HE3 := Lib.hid e3
                clear hci hcc e1
                subst hBB
                go_wp2_with fail
                refine (enabledE_any (.agg #[.slice X0 Xl0 Xc0, .slice X1 Xl1 Xc1, .slice X2 Xl2 Xc2, .slice X3 Xl3 Xc3, .slice X4 Xl4 Xc4, .slice X5 Xl5 Xc5]) ci _ HSx.out).mono ?_
                rintro e wF ⟨Dn, dn, rfl, hin, hkn, hb⟩
                have IN := Lib.hid hin
                replace QX := Lib.hid (QX.out.keep hb)
                replace NX := Lib.hid (NX.out.keepB hb)
                replace QG := Lib.hid (QG.out.keep hb)
                replace NG := Lib.hid (NG.out.keepB hb)
                replace I7 := Lib.hid (I7.out.below hb)
                replace HBw := Lib.hid (chain HBw.out hb)
                clear hb hin hkn r0 r1 r2 r3 r4 r5 cw HSx
                cases hrc : rightS ci with
                | false =>
                  have hE1 : enbRes ci = (1, []) := by unfold enbRes; rw [hrc]; rfl
                  rw [hE1]
                  clear hrc hE1
                  go_wp2_with fail
                  go_ret
                  exact ⟨rfl, HBw.out⟩
                | true =>
                  have hE1 : enbRes ci = (0, enL ci ci.th.length) := by unfold enbRes; rw [if_pos hrc]
                  have htl : (0 : Int) ≤ (tt : Int) ∧ (tt : Int) < (ci.th.length : Int) := by omega
                  have hE2 : stepRes ci (tt : Int) = (0, stepS ci tt) := by unfold stepRes; rw [if_pos hrc, if_pos htl, Int.toNat_natCast, if_pos HE3.out]
                  have h8c := (WR.of hrc).n8
                  have HSt := Lib.hid (step2_any (.agg #[.slice X0 Xl0 Xc0, .slice X1 Xl1 Xc1, .slice X2 Xl2 Xc2, .slice X3 Xl3 Xc3, .slice X4 Xl4 Xc4, .slice X5 Xl5 Xc5]) ci wF (NX.out.sys HBw.out) (tt : Int) (by omega) (by omega))
                  rw [hE2] at HSt
                  rw [hE1] at IN ⊢
                  have hel := enL_len ci ci.th.length
                  obtain ⟨zs, hzs⟩ : ∃ zs, zs = enL ci ci.th.length := ⟨_, rfl⟩
                  rw [← hzs] at IN HMem hel ⊢
                  have IN : Hid (Ints wF Dn zs.length zs) := IN
                  have hzp : 0 < zs.length := by
                    rcases Nat.eq_zero_or_pos zs.length with h | h
                    · have := HMem.out; rw [List.length_eq_zero_iff.1 h] at this; simp at this
                    · exact h
                  obtain ⟨bd, od, hDn, hbd, hcd⟩ := IN.out.2.2 hzp
                  subst hDn
                  have HCd := Lib.hid (fun wx (hb : Below wF.heap.size wF wx) => show Calls Try.prog 30 #[.slice (some ⟨bd, od, none⟩) zs.length dn, .int .i64 (tt : Int)] wx fun e w' => e = .returned (.bool true) ∧ w' = wx from by
                    have h9 := Try.slices_Contains_int bd od zs.length dn zs (tt : Int) wx (Nat.le_refl _) (by omega) (fun j hj => (hb.cell (p := ⟨bd, od + j, none⟩) hbd).trans (hcd j hj))
                    rw [List.take_length, HMem.out] at h9
                    exact h9)
                  clear hrc hE1 hE2 hzs hcd hel htl e2 e3
                  obtain ⟨r0, r1, r2, r3, r4, r5⟩ := QX.out.six
                  dsimp only
                  go_wp2_with fail
                  refine HSt.out.mono ?_
                  rintro e wG ⟨vy, rfl, hsy, hMy, hb⟩
                  obtain ⟨MY, hMY⟩ := hMy rfl
                  have HNy := Lib.hid hsy.nums
                  obtain ⟨Y0, Yl0, Yc0, Y1, Yl1, Yc1, Y2, Yl2, Yc2, Y3, Yl3, Yc3, Y4, Yl4, Yc4, Y5, Yl5, Yc5, rfl, hyr⟩ := id hsy
                  have ab : Below wG.heap.size wG (wG.alloc (.cells #[.slice Y0 Yl0 Yc0, .slice Y1 Yl1 Yc1, .slice Y2 Yl2 Yc2, .slice Y3 Yl3 Yc3, .slice Y4 Yl4 Yc4, .slice Y5 Yl5 Yc5] 26)) := (Below.refl _ _).alloc (Nat.le_refl _) _
                  have hbb2 := chain hb ab
                  replace QX := Lib.hid (QX.out.keep hbb2)
                  replace NX := Lib.hid (NX.out.keepB hbb2)
                  replace QG := Lib.hid (QG.out.keep hbb2)
                  replace NG := Lib.hid (NG.out.keepB hbb2)
                  replace I7 := Lib.hid (I7.out.below hbb2)
                  replace HBw := Lib.hid (chain HBw.out hbb2)
                  have HMY := Lib.hid (hMY.keepB ab)
                  have QY := Lib.hid (Box.new wG 26 #[.slice Y0 Yl0 Yc0, .slice Y1 Yl1 Yc1, .slice Y2 Yl2 Yc2, .slice Y3 Yl3 Yc3, .slice Y4 Yl4 Yc4, .slice Y5 Yl5 Yc5])
                  have HFG := Lib.hid hbb2
                  clear hb ab hsy hMY hyr hbb2 hMy r0 r1 r2 r3 r4 r5 HSt
                  go_upto_region 20 with (fail)
                  obtain ⟨wH, hwH⟩ : ∃ x, x = wG.alloc (.cells #[.slice Y0 Yl0 Yc0, .slice Y1 Yl1 Yc1, .slice Y2 Yl2 Yc2, .slice Y3 Yl3 Yc3, .slice Y4 Yl4 Yc4, .slice Y5 Yl5 Yc5] 26) := ⟨_, rfl⟩
                  rw [← hwH] at QX NX QG NG I7 HBw HMY QY HFG ⊢
                  clear hwH
                  go_wp2_with fail
                  refine (HCd.out _ HFG.out).mono ?_
                  rintro e wx ⟨rfl, hx⟩
                  obtain rfl := hx.symm
                  obtain ⟨y0, y1, y2, y3, y4, y5⟩ := QY.out.six
                  obtain ⟨r0, r1, r2, r3, r4, r5⟩ := QX.out.six
                  have v0 := QX.out.free 0
                  have v1 := QX.out.free 1
                  have v2 := QX.out.free 2
                  have v3 := QX.out.free 3
                  have v4 := QX.out.free 4
                  have v5 := QX.out.free 5
                  have hgx := set6_grown wH wD.heap.size (.slice Y0 Yl0 Yc0) (.slice Y1 Yl1 Yc1) (.slice Y2 Yl2 Yc2) (.slice Y3 Yl3 Yc3) (.slice Y4 Yl4 Yc4) (.slice Y5 Yl5 Yc5)
                  have QX2 := Lib.hid (((((((QX.out.put 0 (.slice Y0 Yl0 Yc0)).put 1 (.slice Y1 Yl1 Yc1)).put 2 (.slice Y2 Yl2 Yc2)).put 3 (.slice Y3 Yl3 Yc3)).put 4 (.slice Y4 Yl4 Yc4)).put 5 (.slice Y5 Yl5 Yc5)))
                  have NX2 := Lib.hid (show NowAt W _ (.agg #[.slice Y0 Yl0 Yc0, .slice Y1 Yl1 Yc1, .slice Y2 Yl2 Yc2, .slice Y3 Yl3 Yc3, .slice Y4 Yl4 Yc4, .slice Y5 Yl5 Yc5]) (stepS ci tt) from ⟨.inr ⟨MY, HMY.out.box_gr QX.out hgx⟩, HNy.out⟩)
                  have QG2 := Lib.hid (Box.grown QG.out hgx (fun e => by injection e with e; omega))
                  have NG2 := Lib.hid (NG.out.box QX.out hgx)
                  have I72 := Lib.hid (I7.out.box_gr QX.out (fun x hx k n e => by subst e; simp at hx) hgx)
                  have HB2 := Lib.hid (((((((HBw.out.setCell (p := ⟨wD.heap.size, 0, none⟩) (hgW) (.slice Y0 Yl0 Yc0)).setCell (p := ⟨wD.heap.size, 1, none⟩) (hgW) (.slice Y1 Yl1 Yc1)).setCell (p := ⟨wD.heap.size, 2, none⟩) (hgW) (.slice Y2 Yl2 Yc2)).setCell (p := ⟨wD.heap.size, 3, none⟩) (hgW) (.slice Y3 Yl3 Yc3)).setCell (p := ⟨wD.heap.size, 4, none⟩) (hgW) (.slice Y4 Yl4 Yc4)).setCell (p := ⟨wD.heap.size, 5, none⟩) (hgW) (.slice Y5 Yl5 Yc5)))
                  clear hgx QX NX QG NG I7 HBw HMY QY HFG HCd IN
                  go_wp2_with fail
                  go_roundw
                  case rel =>
                    refine ⟨i + 1, Y0, Yl0, Yc0, Y1, Yl1, Yc1, Y2, Yl2, Yc2, Y3, Yl3, Yc3, Y4, Yl4, Yc4, Y5, Yl5, Yc5, by omega, by go_num, QX2, Lib.hid ?_, QG2, NG2, I72, HB2⟩
                    rw [HNext.out]
                    exact NX2.out
                  case measure => simp [Go.RowKit.intOf] <;> omega
              · obtain rfl : i = ws.length := by omega
                have hlt' : ¬ ((ws.length : Nat) : Int) < (ws.length : Int) := by omega
                have hE : foldS (fewS sa) (ws.take ws.length) = c2 := by rw [List.take_length]; exact HGd1.out.symm
                rw [hE] at NX
                have HSm := Lib.hid (refSame_any (.agg #[.slice X0 Xl0 Xc0, .slice X1 Xl1 Xc1, .slice X2 Xl2 Xc2, .slice X3 Xl3 Xc3, .slice X4 Xl4 Xc4, .slice X5 Xl5 Xc5]) c2 (.agg #[.slice G0 c2.th.length Gc0, .slice G1 c2.pc.length Gc1, .slice G2 c2.su.length Gc2, .slice G3 c2.lo.length Gc3, .slice G4 c2.ce.length Gc4, .slice G5 c2.ch.length Gc5]) c2 wR (NX.out.sys HBw.out) (NG.out.sys HBw.out) HSm0.out HSm0.out)
                rw [same_self] at HSm
                clear hE
                obtain ⟨q0, q1, q2, q3, q4, q5⟩ := QG.out.six
                go_wp2_with fail
                refine HSm.out.mono ?_
                rintro e wz ⟨rfl, hb⟩
                have HF := Lib.hid (chain HBw.out hb)
                clear hb
                go_wp2_with fail
                go_ret
                exact ⟨rfl, HF.out⟩
end Go.Proofs.Ytcamoigcfiemhaa
