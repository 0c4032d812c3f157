/- Parts: ObN, ObO. -/
import Derived.Test.YtcikoaeiopbbbaaGreatZj
import Derived.RegionTactic
namespace Go.Proofs.YtcikoaeiopbbbaaGreat
section
/- Layer 18: the reference's Do. -/
set_option linter.unusedVariables false
set_option linter.unusedSimpArgs false
open Go.RowKit Go.Lib
set_option maxRecDepth 100000
theorem radd_any (o : ObR) (A : Option Addr) (d : Nat) (x : SymR) (w : World) (hr : rightO o = true) (hs : SliceOk A o.2.1.2.2.2.length d) (hx : Syms w A o.2.1.2.2.2.length o.2.1.2.2.2) (hi : Ids o.2.1.2.2.2) (hci : x.1 < 18446744073709551616) :
    Calls Tryz.prog 31 #[.agg (obA o A d), .agg #[.int .u64 (x.1 : Int), .string x.2]] w (DOutW (addO o x).1 (addO o x).2 w) := by
  have hst := right_store hr
  obtain ⟨⟨k1, k2⟩, -, hcp, hlc⟩ := storeB_bd hst
  obtain ⟨id, ⟨k, s, cp, xs⟩, cl⟩ := o
  unfold addO
  by_cases hE : whyI s cp xs x = 0
  · rw [if_pos hE]
    obtain ⟨kn, rfl⟩ := Int.eq_ofNat_of_zero_le (show 0 ≤ k from by have : (1 : Int) ≤ k := k1; omega)
    exact radd_yes id kn s cp xs cl A d x w hst hs hx hi hci hE
  · rw [if_neg hE]
    exact radd_no id k s cp xs cl A d x w (by have h1 : (xs.length : Int) ≤ cp := hlc; have h2 := hcp.2; have h3 : cp ≤ 64 := h2; omega) hs hx hE
set_option maxHeartbeats 8000000 in
theorem rdo_no (o : ObR) (A : Option Addr) (d : Nat) (wh : Int) (ct : Nat × Int × Int × Int × Nat × ByteArray) (w : World) (hs : SliceOk A o.2.1.2.2.2.length d) (hx : Syms w A o.2.1.2.2.2.length o.2.1.2.2.2) (hn : ¬ (rightO o = true ∧ 0 ≤ wh ∧ wh ≤ 4)) :
    Calls Tryz.prog 10 #[.agg (obA o A d), callV (wh, ct)] w (DOutW o (1, 0, []) w) := by
  have HR := Lib.hid (fun wy (hw : Below w.heap.size w wy) => oright18_any (.agg (obA o A d)) o wy ⟨A, d, rfl, hs, Recs.below hx hw⟩)
  obtain ⟨z0, z1, z2, b5⟩ := D3_gen 31 (obA o A d) (callL (wh, ct)).toArray dZ w
  have Q0 := Lib.hid z0
  have Q1 := Lib.hid z1
  have Q2 := Lib.hid z2
  have HB := Lib.hid b5
  have HX := Lib.hid hx
  have HS := Lib.hid hs
  obtain ⟨r0, r1, r2, r3, r4, r5⟩ := Q0.out.sixO
  obtain ⟨v0, v1, v2, v3, v4, v5, v6⟩ := Q1.out.sevenO
  clear z0 z1 z2 b5
  cases hr : rightO o with
  | false =>
    rw [hr] at HR
    clear hr hn
    have HRw := Lib.hid (HR.out _ HB.out)
    go_enter Tryz.func10, Tryz.ntmps10
    go_wp2_with fail
    refine HRw.out.mono ?_
    rintro e w2 ⟨rfl, hb⟩
    have P0 := Lib.hid (Q0.out.keep hb)
    have P1 := Lib.hid (Q1.out.keep hb)
    have P2 := Lib.hid (Q2.out.keep hb)
    have HB2 := Lib.hid (chain HB.out hb)
    clear hb HRw HR hx hs r0 r1 r2 r3 r4 r5 v0 v1 v2 v3 v4 v5 v6
    obtain ⟨r0, r1, r2, r3, r4, r5⟩ := P0.out.sixO
    obtain ⟨v0, v1, v2, v3, v4, v5, v6⟩ := P1.out.sevenO
    have q0 := P2.out.cell 0
    have f0 := P2.out.free 0
    have q1 := P2.out.cell 1
    have f1 := P2.out.free 1
    have q2 := P2.out.cell 2
    have f2 := P2.out.free 2
    have q3 := P2.out.cell 3
    have f3 := P2.out.free 3
    have q4 := P2.out.cell 4
    have f4 := P2.out.free 4
    have q5 := P2.out.cell 5
    have f5 := P2.out.free 5
    have q6 := P2.out.cell 6
    have f6 := P2.out.free 6
    have q7 := P2.out.cell 7
    have f7 := P2.out.free 7
    have q8 := P2.out.cell 8
    have f8 := P2.out.free 8
    go_wp2_with fail
    refine close_one Tryz.results10 rfl rfl P2.out.put9s Tryz.underlying40 rfl (by kernel_rfl) ?_
    exact ⟨A, d, none, 0, rfl, HS.out, Syms.far9s (Recs.below HX.out HB2.out) (Syms.neO (Recs.below HX.out HB2.out) P2.out dz_no) _ _ _ _ _ _ _ _ _, Texts.nil _ _, below_set9s HB2.out (show w.heap.size ≤ w.heap.size + 1 + 1 by omega) _ _ _ _ _ _ _ _ _⟩
  | true =>
    have hn2 : ¬ (0 ≤ wh ∧ wh ≤ 4) := fun h => hn ⟨hr, h⟩
    rw [hr] at HR
    clear hr hn
    by_cases h0 : wh < 0
    · clear hn2
      have HRw := Lib.hid (HR.out _ HB.out)
      go_enter Tryz.func10, Tryz.ntmps10
      go_wp2_with fail
      refine HRw.out.mono ?_
      rintro e w2 ⟨rfl, hb⟩
      have P0 := Lib.hid (Q0.out.keep hb)
      have P1 := Lib.hid (Q1.out.keep hb)
      have P2 := Lib.hid (Q2.out.keep hb)
      have HB2 := Lib.hid (chain HB.out hb)
      clear hb HRw HR hx hs r0 r1 r2 r3 r4 r5 v0 v1 v2 v3 v4 v5 v6
      obtain ⟨r0, r1, r2, r3, r4, r5⟩ := P0.out.sixO
      obtain ⟨v0, v1, v2, v3, v4, v5, v6⟩ := P1.out.sevenO
      have q0 := P2.out.cell 0
      have f0 := P2.out.free 0
      have q1 := P2.out.cell 1
      have f1 := P2.out.free 1
      have q2 := P2.out.cell 2
      have f2 := P2.out.free 2
      have q3 := P2.out.cell 3
      have f3 := P2.out.free 3
      have q4 := P2.out.cell 4
      have f4 := P2.out.free 4
      have q5 := P2.out.cell 5
      have f5 := P2.out.free 5
      have q6 := P2.out.cell 6
      have f6 := P2.out.free 6
      have q7 := P2.out.cell 7
      have f7 := P2.out.free 7
      have q8 := P2.out.cell 8
      have f8 := P2.out.free 8
      go_wp2_with fail
      refine close_one Tryz.results10 rfl rfl P2.out.put9s Tryz.underlying40 rfl (by kernel_rfl) ?_
      exact ⟨A, d, none, 0, rfl, HS.out, Syms.far9s (Recs.below HX.out HB2.out) (Syms.neO (Recs.below HX.out HB2.out) P2.out dz_no) _ _ _ _ _ _ _ _ _, Texts.nil _ _, below_set9s HB2.out (show w.heap.size ≤ w.heap.size + 1 + 1 by omega) _ _ _ _ _ _ _ _ _⟩
    · have h5 : wh > 4 := by omega
      clear hn2
      have HRw := Lib.hid (HR.out _ HB.out)
      go_enter Tryz.func10, Tryz.ntmps10
      go_wp2_with fail
      refine HRw.out.mono ?_
      rintro e w2 ⟨rfl, hb⟩
      have P0 := Lib.hid (Q0.out.keep hb)
      have P1 := Lib.hid (Q1.out.keep hb)
      have P2 := Lib.hid (Q2.out.keep hb)
      have HB2 := Lib.hid (chain HB.out hb)
      clear hb HRw HR hx hs r0 r1 r2 r3 r4 r5 v0 v1 v2 v3 v4 v5 v6
      obtain ⟨r0, r1, r2, r3, r4, r5⟩ := P0.out.sixO
      obtain ⟨v0, v1, v2, v3, v4, v5, v6⟩ := P1.out.sevenO
      have q0 := P2.out.cell 0
      have f0 := P2.out.free 0
      have q1 := P2.out.cell 1
      have f1 := P2.out.free 1
      have q2 := P2.out.cell 2
      have f2 := P2.out.free 2
      have q3 := P2.out.cell 3
      have f3 := P2.out.free 3
      have q4 := P2.out.cell 4
      have f4 := P2.out.free 4
      have q5 := P2.out.cell 5
      have f5 := P2.out.free 5
      have q6 := P2.out.cell 6
      have f6 := P2.out.free 6
      have q7 := P2.out.cell 7
      have f7 := P2.out.free 7
      have q8 := P2.out.cell 8
      have f8 := P2.out.free 8
      go_wp2_with fail
      refine close_one Tryz.results10 rfl rfl P2.out.put9s Tryz.underlying40 rfl (by kernel_rfl) ?_
      exact ⟨A, d, none, 0, rfl, HS.out, Syms.far9s (Recs.below HX.out HB2.out) (Syms.neO (Recs.below HX.out HB2.out) P2.out dz_no) _ _ _ _ _ _ _ _ _, Texts.nil _ _, below_set9s HB2.out (show w.heap.size ≤ w.heap.size + 1 + 1 by omega) _ _ _ _ _ _ _ _ _⟩
set_option maxHeartbeats 8000000 in
theorem rdo_open (o : ObR) (A : Option Addr) (d : Nat) (ct : Nat × Int × Int × Int × Nat × ByteArray) (w : World) (hs : SliceOk A o.2.1.2.2.2.length d) (hx : Syms w A o.2.1.2.2.2.length o.2.1.2.2.2) (hr : rightO o = true) :
    Calls Tryz.prog 10 #[.agg (obA o A d), callV (0, ct)] w (DOutW o (11, 0, []) w) := by
  have HR := Lib.hid (fun wy (hw : Below w.heap.size w wy) => oright18_any (.agg (obA o A d)) o wy ⟨A, d, rfl, hs, Recs.below hx hw⟩)
  obtain ⟨z0, z1, z2, b5⟩ := D3_gen 31 (obA o A d) (callL (0, ct)).toArray dZ w
  have Q0 := Lib.hid z0
  have Q1 := Lib.hid z1
  have Q2 := Lib.hid z2
  have HB := Lib.hid b5
  have HX := Lib.hid hx
  have HS := Lib.hid hs
  obtain ⟨r0, r1, r2, r3, r4, r5⟩ := Q0.out.sixO
  obtain ⟨v0, v1, v2, v3, v4, v5, v6⟩ := Q1.out.sevenO
  clear z0 z1 z2 b5
  rw [hr] at HR
  clear hr
  have HRw := Lib.hid (HR.out _ HB.out)
  go_enter Tryz.func10, Tryz.ntmps10
  go_wp2_with fail
  refine HRw.out.mono ?_
  rintro e w2 ⟨rfl, hb⟩
  have P0 := Lib.hid (Q0.out.keep hb)
  have P1 := Lib.hid (Q1.out.keep hb)
  have P2 := Lib.hid (Q2.out.keep hb)
  have HB2 := Lib.hid (chain HB.out hb)
  clear hb HRw HR hx hs r0 r1 r2 r3 r4 r5 v0 v1 v2 v3 v4 v5 v6
  obtain ⟨r0, r1, r2, r3, r4, r5⟩ := P0.out.sixO
  obtain ⟨v0, v1, v2, v3, v4, v5, v6⟩ := P1.out.sevenO
  have q0 := P2.out.cell 0
  have f0 := P2.out.free 0
  have q1 := P2.out.cell 1
  have f1 := P2.out.free 1
  have q2 := P2.out.cell 2
  have f2 := P2.out.free 2
  have q3 := P2.out.cell 3
  have f3 := P2.out.free 3
  have q4 := P2.out.cell 4
  have f4 := P2.out.free 4
  have q5 := P2.out.cell 5
  have f5 := P2.out.free 5
  have q6 := P2.out.cell 6
  have f6 := P2.out.free 6
  have q7 := P2.out.cell 7
  have f7 := P2.out.free 7
  have q8 := P2.out.cell 8
  have f8 := P2.out.free 8
  go_wp2_with fail
  refine close_one Tryz.results10 rfl rfl P2.out.put9s Tryz.underlying40 rfl (by kernel_rfl) ?_
  exact ⟨A, d, none, 0, rfl, HS.out, Syms.far9s (Recs.below HX.out HB2.out) (Syms.neO (Recs.below HX.out HB2.out) P2.out dz_no) _ _ _ _ _ _ _ _ _, Texts.nil _ _, below_set9s HB2.out (show w.heap.size ≤ w.heap.size + 1 + 1 by omega) _ _ _ _ _ _ _ _ _⟩
set_option maxHeartbeats 8000000 in
theorem rdo_closed (o : ObR) (A : Option Addr) (d : Nat) (wh : Int) (ct : Nat × Int × Int × Int × Nat × ByteArray) (w : World) (hs : SliceOk A o.2.1.2.2.2.length d) (hx : Syms w A o.2.1.2.2.2.length o.2.1.2.2.2) (hr : rightO o = true) (h0 : 0 < wh) (h4 : wh ≤ 4) (hc : o.2.2 = 1) :
    Calls Tryz.prog 10 #[.agg (obA o A d), callV (wh, ct)] w (DOutW o (6, 0, []) w) := by
  have HR := Lib.hid (fun wy (hw : Below w.heap.size w wy) => oright18_any (.agg (obA o A d)) o wy ⟨A, d, rfl, hs, Recs.below hx hw⟩)
  obtain ⟨z0, z1, z2, b5⟩ := D3_gen 31 (obA o A d) (callL (wh, ct)).toArray dZ w
  have Q0 := Lib.hid z0
  have Q1 := Lib.hid z1
  have Q2 := Lib.hid z2
  have HB := Lib.hid b5
  have HX := Lib.hid hx
  have HS := Lib.hid hs
  obtain ⟨r0, r1, r2, r3, r4, r5⟩ := Q0.out.sixO
  obtain ⟨v0, v1, v2, v3, v4, v5, v6⟩ := Q1.out.sevenO
  clear z0 z1 z2 b5
  rw [hr] at HR
  have t1 : ¬ wh < 0 := by omega
  have t2 : ¬ wh > 4 := by omega
  have t3 : (wh == 0) = false := by simpa using (show ¬ wh = 0 by omega)
  have tc : (o.2.2 == 1) = true := by simpa using hc
  clear h0 h4 hc hr
  have HRw := Lib.hid (HR.out _ HB.out)
  go_enter Tryz.func10, Tryz.ntmps10
  go_wp2_with fail
  refine HRw.out.mono ?_
  rintro e w2 ⟨rfl, hb⟩
  have P0 := Lib.hid (Q0.out.keep hb)
  have P1 := Lib.hid (Q1.out.keep hb)
  have P2 := Lib.hid (Q2.out.keep hb)
  have HB2 := Lib.hid (chain HB.out hb)
  clear hb HRw HR hx hs r0 r1 r2 r3 r4 r5 v0 v1 v2 v3 v4 v5 v6
  obtain ⟨r0, r1, r2, r3, r4, r5⟩ := P0.out.sixO
  obtain ⟨v0, v1, v2, v3, v4, v5, v6⟩ := P1.out.sevenO
  have q0 := P2.out.cell 0
  have f0 := P2.out.free 0
  have q1 := P2.out.cell 1
  have f1 := P2.out.free 1
  have q2 := P2.out.cell 2
  have f2 := P2.out.free 2
  have q3 := P2.out.cell 3
  have f3 := P2.out.free 3
  have q4 := P2.out.cell 4
  have f4 := P2.out.free 4
  have q5 := P2.out.cell 5
  have f5 := P2.out.free 5
  have q6 := P2.out.cell 6
  have f6 := P2.out.free 6
  have q7 := P2.out.cell 7
  have f7 := P2.out.free 7
  have q8 := P2.out.cell 8
  have f8 := P2.out.free 8
  go_wp2_with fail
  refine close_one Tryz.results10 rfl rfl P2.out.put9s Tryz.underlying40 rfl (by kernel_rfl) ?_
  exact ⟨A, d, none, 0, rfl, HS.out, Syms.far9s (Recs.below HX.out HB2.out) (Syms.neO (Recs.below HX.out HB2.out) P2.out dz_no) _ _ _ _ _ _ _ _ _, Texts.nil _ _, below_set9s HB2.out (show w.heap.size ≤ w.heap.size + 1 + 1 by omega) _ _ _ _ _ _ _ _ _⟩
set_option maxHeartbeats 8000000 in
theorem rdo_add (o : ObR) (A : Option Addr) (d : Nat) (ct : Nat × Int × Int × Int × Nat × ByteArray) (w : World) (hs : SliceOk A o.2.1.2.2.2.length d) (hx : Syms w A o.2.1.2.2.2.length o.2.1.2.2.2) (hr : rightO o = true) (hi : Ids o.2.1.2.2.2) (hci : ct.2.2.2.2.1 < 18446744073709551616) (hc : ¬ o.2.2 = 1) :
    Calls Tryz.prog 10 #[.agg (obA o A d), callV (1, ct)] w (DOutW (addO o (ct.2.2.2.2.1, ct.2.2.2.2.2)).1 (addO o (ct.2.2.2.2.1, ct.2.2.2.2.2)).2 w) := by
  have HR := Lib.hid (fun wy (hw : Below w.heap.size w wy) => oright18_any (.agg (obA o A d)) o wy ⟨A, d, rfl, hs, Recs.below hx hw⟩)
  have tc : (o.2.2 == 1) = false := by simpa using hc
  have HA := Lib.hid (fun wy (hw : Below w.heap.size w wy) => radd_any o A d (ct.2.2.2.2.1, ct.2.2.2.2.2) wy hr hs (Recs.below hx hw) hi hci)
  obtain ⟨ro, hro⟩ : ∃ x, x = addO o (ct.2.2.2.2.1, ct.2.2.2.2.2) := ⟨_, rfl⟩
  rw [← hro] at HA ⊢
  obtain ⟨z0, z1, z2, b5⟩ := D3_gen 31 (obA o A d) (callL (1, ct)).toArray dZ w
  have Q0 := Lib.hid z0
  have Q1 := Lib.hid z1
  have Q2 := Lib.hid z2
  have HB := Lib.hid b5
  have HX := Lib.hid hx
  have HS := Lib.hid hs
  obtain ⟨r0, r1, r2, r3, r4, r5⟩ := Q0.out.sixO
  obtain ⟨v0, v1, v2, v3, v4, v5, v6⟩ := Q1.out.sevenO
  clear z0 z1 z2 b5
  rw [hr] at HR
  clear hc hr hi hci hro
  have HRw := Lib.hid (HR.out _ HB.out)
  go_enter Tryz.func10, Tryz.ntmps10
  go_wp2_with fail
  refine HRw.out.mono ?_
  rintro e w2 ⟨rfl, hb⟩
  have P0 := Lib.hid (Q0.out.keep hb)
  have P1 := Lib.hid (Q1.out.keep hb)
  have P2 := Lib.hid (Q2.out.keep hb)
  have HB2 := Lib.hid (chain HB.out hb)
  clear hb HRw HR hx hs r0 r1 r2 r3 r4 r5 v0 v1 v2 v3 v4 v5 v6
  obtain ⟨r0, r1, r2, r3, r4, r5⟩ := P0.out.sixO
  obtain ⟨v0, v1, v2, v3, v4, v5, v6⟩ := P1.out.sevenO
  have HAw := Lib.hid (HA.out _ HB2.out)
  clear HA
  go_wp2_with fail
  refine HAw.out.mono ?_
  rintro e w3 ⟨A2, d2, B2, c2, rfl, hs2, hx2, ht2, hb⟩
  have R0 := Lib.hid (P0.out.keep hb)
  have R1 := Lib.hid (P1.out.keep hb)
  have R2 := Lib.hid (P2.out.keep hb)
  have HB3 := Lib.hid (chain HB2.out hb)
  have HX2 := Lib.hid hx2
  have HT2 := Lib.hid ht2
  have HS2 := Lib.hid hs2
  clear hb hs2 hx2 ht2 HAw r0 r1 r2 r3 r4 r5 v0 v1 v2 v3 v4 v5 v6
  have q0 := R2.out.cell 0
  have f0 := R2.out.free 0
  have q1 := R2.out.cell 1
  have f1 := R2.out.free 1
  have q2 := R2.out.cell 2
  have f2 := R2.out.free 2
  have q3 := R2.out.cell 3
  have f3 := R2.out.free 3
  have q4 := R2.out.cell 4
  have f4 := R2.out.free 4
  have q5 := R2.out.cell 5
  have f5 := R2.out.free 5
  have q6 := R2.out.cell 6
  have f6 := R2.out.free 6
  have q7 := R2.out.cell 7
  have f7 := R2.out.free 7
  have q8 := R2.out.cell 8
  have f8 := R2.out.free 8
  go_wp2_with fail
  refine close_one Tryz.results10 rfl rfl R2.out.put9s Tryz.underlying40 rfl (by kernel_rfl) ?_
  exact ⟨A2, d2, B2, c2, rfl, HS2.out, Syms.far9s HX2.out (Syms.neO HX2.out R2.out dz_no) _ _ _ _ _ _ _ _ _, HT2.out.far9s (HT2.out.neO R2.out dz_no) _ _ _ _ _ _ _ _ _, below_set9s HB3.out (show w.heap.size ≤ w.heap.size + 1 + 1 by omega) _ _ _ _ _ _ _ _ _⟩
set_option maxHeartbeats 8000000 in
theorem rdo_prog (o : ObR) (A : Option Addr) (d : Nat) (ct : Nat × Int × Int × Int × Nat × ByteArray) (w : World) (hs : SliceOk A o.2.1.2.2.2.length d) (hx : Syms w A o.2.1.2.2.2.length o.2.1.2.2.2) (hr : rightO o = true) (hi : Ids o.2.1.2.2.2) (hc : ¬ o.2.2 = 1) :
    Calls Tryz.prog 10 #[.agg (obA o A d), callV (2, ct)] w (DOutW o (0, (rankF o.2.1.1 o.2.1.2.2.2 : Int), []) w) := by
  have HR := Lib.hid (fun wy (hw : Below w.heap.size w wy) => oright18_any (.agg (obA o A d)) o wy ⟨A, d, rfl, hs, Recs.below hx hw⟩)
  have tc : (o.2.2 == 1) = false := by simpa using hc
  have hst := right_store hr
  obtain ⟨⟨k1, k2⟩, ⟨z1', z2'⟩, hcp, hlc⟩ := storeB_bd hst
  obtain ⟨kn, hk⟩ := Int.eq_ofNat_of_zero_le (show 0 ≤ o.2.1.1 by omega)
  have HP := Lib.hid (fun wy (hw : Below w.heap.size w wy) => refRank12_any kn o.2.1.2.1 o.2.1.2.2.1 A o.2.1.2.2.2.length d o.2.1.2.2.2 wy (Recs.below hx hw) hs.1 hs.2.1 (by omega) (by omega) (by omega) hi)
  rw [← hk] at HP
  have HRf := Lib.hid (fun (n : Nat) (h : RkIs (rowsN kn o.2.1.2.2.2) n) => show rankF o.2.1.1 o.2.1.2.2.2 = n by rw [hk]; exact rankF_eq h)
  obtain ⟨z0, z1, z2, b5⟩ := D3_gen 31 (obA o A d) (callL (2, ct)).toArray dZ w
  have Q0 := Lib.hid z0
  have Q1 := Lib.hid z1
  have Q2 := Lib.hid z2
  have HB := Lib.hid b5
  have HX := Lib.hid hx
  have HS := Lib.hid hs
  obtain ⟨r0, r1, r2, r3, r4, r5⟩ := Q0.out.sixO
  obtain ⟨v0, v1, v2, v3, v4, v5, v6⟩ := Q1.out.sevenO
  clear z0 z1 z2 b5
  rw [hr] at HR
  clear hc hr hi hst k1 k2 z1' z2' hcp hlc hk
  have HRw := Lib.hid (HR.out _ HB.out)
  go_enter Tryz.func10, Tryz.ntmps10
  go_wp2_with fail
  refine HRw.out.mono ?_
  rintro e w2 ⟨rfl, hb⟩
  have P0 := Lib.hid (Q0.out.keep hb)
  have P1 := Lib.hid (Q1.out.keep hb)
  have P2 := Lib.hid (Q2.out.keep hb)
  have HB2 := Lib.hid (chain HB.out hb)
  clear hb HRw HR hx hs r0 r1 r2 r3 r4 r5 v0 v1 v2 v3 v4 v5 v6
  obtain ⟨r0, r1, r2, r3, r4, r5⟩ := P0.out.sixO
  obtain ⟨v0, v1, v2, v3, v4, v5, v6⟩ := P1.out.sevenO
  go_upto_region 10 with (fail)
  have BC := Lib.hid HB2.out.drew
  have BD := Lib.hid (Below.refl w2.heap.size w2).drew
  refine wp_held_tail (S := (fun (w' : World) => w'.cell? ⟨w.heap.size, 0, none⟩ = some (.int .u64 (o.1 : Nat)) ∧ w'.cell? ⟨w.heap.size, 1, none⟩ = some (.int .i64 o.2.1.1) ∧ w'.cell? ⟨w.heap.size, 2, none⟩ = some (.int .i64 o.2.1.2.1) ∧ w'.cell? ⟨w.heap.size, 3, none⟩ = some (.int .i64 o.2.1.2.2.1) ∧ w'.cell? ⟨w.heap.size, 4, none⟩ = some (.slice A o.2.1.2.2.2.length d) ∧ w'.cell? ⟨w.heap.size, 5, none⟩ = some (.int .i64 o.2.2))) 6 (by kernel_rfl) (by decide) ?_
  have hS := Lib.hid (show (fun (w' : World) => w'.cell? ⟨w.heap.size, 0, none⟩ = some (.int .u64 (o.1 : Nat)) ∧ w'.cell? ⟨w.heap.size, 1, none⟩ = some (.int .i64 o.2.1.1) ∧ w'.cell? ⟨w.heap.size, 2, none⟩ = some (.int .i64 o.2.1.2.1) ∧ w'.cell? ⟨w.heap.size, 3, none⟩ = some (.int .i64 o.2.1.2.2.1) ∧ w'.cell? ⟨w.heap.size, 4, none⟩ = some (.slice A o.2.1.2.2.2.length d) ∧ w'.cell? ⟨w.heap.size, 5, none⟩ = some (.int .i64 o.2.2)) w2.drew from ⟨r0, r1, r2, r3, r4, r5⟩)
  replace hS := hS.out
  refine headH_take (i := 0) (v := ?_) rfl (by kernel_rfl) (fun _ _ _ h => h) (fun _ _ _ h => seqB_ready h.1) (Or.inl ⟨by rfl, ?hy1⟩) hS ?rest1
  case hy1 => intro w hSw; (try dsimp only at hSw); obtain ⟨hc0, hc1, hc2, hc3, hc4, hc5⟩ := hSw; go_simp; try (with_reducible rfl)
  case rest1 =>
  try simp only [Act.put, List.setIfInBounds_toArray, List.set_cons_zero, List.set_cons_succ]
  refine headH_take (i := 1) (v := ?_) rfl (by kernel_rfl) (fun _ _ _ h => h) (fun _ _ _ h => seqB_ready h.1) (Or.inl ⟨by rfl, ?hy2⟩) hS ?rest2
  case hy2 => intro w hSw; (try dsimp only at hSw); obtain ⟨hc0, hc1, hc2, hc3, hc4, hc5⟩ := hSw; go_simp; try (with_reducible rfl)
  case rest2 =>
  try simp only [Act.put, List.setIfInBounds_toArray, List.set_cons_zero, List.set_cons_succ]
  refine headH_take (i := 2) (v := ?_) rfl (by kernel_rfl) (fun _ _ _ h => h) (fun _ _ _ h => seqB_ready h.1) (Or.inl ⟨by rfl, ?hy3⟩) hS ?rest3
  case hy3 => intro w hSw; (try dsimp only at hSw); obtain ⟨hc0, hc1, hc2, hc3, hc4, hc5⟩ := hSw; go_simp; try (with_reducible rfl)
  case rest3 =>
  try simp only [Act.put, List.setIfInBounds_toArray, List.set_cons_zero, List.set_cons_succ]
  refine headH_one (i := 3) (by kernel_rfl) rfl (fun K hK => ?_)
  go_simp
  refine (HP.out _ BC.out).mono ?_
  rintro e x1 ⟨nn, rfl, hrk, hb⟩
  have HRk := Lib.hid (HRf.out nn hrk)
  replace BC := Lib.hid (chain BC.out hb)
  replace BD := Lib.hid (chain BD.out hb)
  clear hb hrk r0 r1 r2 r3 r4 r5 v0 v1 v2 v3 v4 v5 v6
  obtain ⟨r0, r1, r2, r3, r4, r5⟩ := (P0.out.keep BD.out).sixO
  have R2 := Lib.hid (P2.out.keep BD.out)
  have q0 := R2.out.cell 0
  have f0 := R2.out.free 0
  have q1 := R2.out.cell 1
  have f1 := R2.out.free 1
  have q2 := R2.out.cell 2
  have f2 := R2.out.free 2
  have q3 := R2.out.cell 3
  have f3 := R2.out.free 3
  have q4 := R2.out.cell 4
  have f4 := R2.out.free 4
  have q5 := R2.out.cell 5
  have f5 := R2.out.free 5
  have q6 := R2.out.cell 6
  have f6 := R2.out.free 6
  have q7 := R2.out.cell 7
  have f7 := R2.out.free 7
  have q8 := R2.out.cell 8
  have f8 := R2.out.free 8
  refine hK.out _ _ (show (fun (w' : World) => w'.cell? ⟨w.heap.size, 0, none⟩ = some (.int .u64 (o.1 : Nat)) ∧ w'.cell? ⟨w.heap.size, 1, none⟩ = some (.int .i64 o.2.1.1) ∧ w'.cell? ⟨w.heap.size, 2, none⟩ = some (.int .i64 o.2.1.2.1) ∧ w'.cell? ⟨w.heap.size, 3, none⟩ = some (.int .i64 o.2.1.2.2.1) ∧ w'.cell? ⟨w.heap.size, 4, none⟩ = some (.slice A o.2.1.2.2.2.length d) ∧ w'.cell? ⟨w.heap.size, 5, none⟩ = some (.int .i64 o.2.2)) x1 from ⟨r0, r1, r2, r3, r4, r5⟩) (fun hS => ?_)
  clear hK K
  refine headH_take (i := 4) (v := ?_) rfl (by kernel_rfl) (fun _ _ _ h => h) (fun _ _ _ h => seqB_ready h.1) (Or.inl ⟨by rfl, ?hy4⟩) hS ?rest4
  case hy4 => intro w hSw; (try dsimp only at hSw); obtain ⟨hc0, hc1, hc2, hc3, hc4, hc5⟩ := hSw; go_simp; try (with_reducible rfl)
  case rest4 =>
  try simp only [Act.put, List.setIfInBounds_toArray, List.set_cons_zero, List.set_cons_succ]
  refine headH_take (i := 5) (v := ?_) rfl (by kernel_rfl) (fun _ _ _ h => h) (fun _ _ _ h => seqB_ready h.1) (Or.inl ⟨by rfl, ?hy5⟩) hS ?rest5
  case hy5 => intro w hSw; (try dsimp only at hSw); obtain ⟨hc0, hc1, hc2, hc3, hc4, hc5⟩ := hSw; go_simp; try (with_reducible rfl)
  case rest5 =>
  try simp only [Act.put, List.setIfInBounds_toArray, List.set_cons_zero, List.set_cons_succ]
  refine ⟨by kernel_rfl, ?_⟩
  go_wp2_with fail
  rw [HRk.out]
  refine close_one Tryz.results10 rfl rfl R2.out.put9s Tryz.underlying40 rfl (by kernel_rfl) ?_
  exact ⟨A, d, none, 0, rfl, HS.out, Syms.far9s (Recs.below HX.out BC.out) (Syms.neO (Recs.below HX.out BC.out) R2.out dz_no) _ _ _ _ _ _ _ _ _, Texts.nil _ _, below_set9s BC.out (show w.heap.size ≤ w.heap.size + 1 + 1 by omega) _ _ _ _ _ _ _ _ _⟩
set_option maxHeartbeats 8000000 in
theorem rdo_res (o : ObR) (A : Option Addr) (d : Nat) (ct : Nat × Int × Int × Int × Nat × ByteArray) (w : World) (hs : SliceOk A o.2.1.2.2.2.length d) (hx : Syms w A o.2.1.2.2.2.length o.2.1.2.2.2) (hr : rightO o = true) (hi : Ids o.2.1.2.2.2) (hc : ¬ o.2.2 = 1) :
    Calls Tryz.prog 10 #[.agg (obA o A d), callV (3, ct)] w (DOutW o ((solveF o.2.1.1 o.2.1.2.1 o.2.1.2.2.2).1, ((solveF o.2.1.1 o.2.1.2.1 o.2.1.2.2.2).2.length : Int), (solveF o.2.1.1 o.2.1.2.1 o.2.1.2.2.2).2) w) := by
  have HR := Lib.hid (fun wy (hw : Below w.heap.size w wy) => oright18_any (.agg (obA o A d)) o wy ⟨A, d, rfl, hs, Recs.below hx hw⟩)
  have tc : (o.2.2 == 1) = false := by simpa using hc
  have hst := right_store hr
  obtain ⟨⟨k1, k2⟩, ⟨z1', z2'⟩, hcp, hlc⟩ := storeB_bd hst
  obtain ⟨kn, hk⟩ := Int.eq_ofNat_of_zero_le (show 0 ≤ o.2.1.1 by omega)
  obtain ⟨sn, hsn⟩ := Int.eq_ofNat_of_zero_le (show 0 ≤ o.2.1.2.1 by omega)
  have HP := Lib.hid (fun wy (hw : Below w.heap.size w wy) => rsolve_any kn sn o.2.1.2.2.1 A d o.2.1.2.2.2 wy (Recs.below hx hw) hs.1 hs.2.1 (by rw [← hk, ← hsn]; exact hst) hi)
  rw [← hk, ← hsn] at HP
  obtain ⟨p, hp⟩ : ∃ r, r = solveF o.2.1.1 o.2.1.2.1 o.2.1.2.2.2 := ⟨_, rfl⟩
  rw [← hp] at HP ⊢
  obtain ⟨z0, z1, z2, b5⟩ := D3_gen 31 (obA o A d) (callL (3, ct)).toArray dZ w
  have Q0 := Lib.hid z0
  have Q1 := Lib.hid z1
  have Q2 := Lib.hid z2
  have HB := Lib.hid b5
  have HX := Lib.hid hx
  have HS := Lib.hid hs
  obtain ⟨r0, r1, r2, r3, r4, r5⟩ := Q0.out.sixO
  obtain ⟨v0, v1, v2, v3, v4, v5, v6⟩ := Q1.out.sevenO
  clear z0 z1 z2 b5
  rw [hr] at HR
  clear hc hr hi hst k1 k2 z1' z2' hcp hlc hk hsn hp
  have HRw := Lib.hid (HR.out _ HB.out)
  go_enter Tryz.func10, Tryz.ntmps10
  go_wp2_with fail
  refine HRw.out.mono ?_
  rintro e w2 ⟨rfl, hb⟩
  have P0 := Lib.hid (Q0.out.keep hb)
  have P1 := Lib.hid (Q1.out.keep hb)
  have P2 := Lib.hid (Q2.out.keep hb)
  have HB2 := Lib.hid (chain HB.out hb)
  clear hb HRw HR hx hs r0 r1 r2 r3 r4 r5 v0 v1 v2 v3 v4 v5 v6
  obtain ⟨r0, r1, r2, r3, r4, r5⟩ := P0.out.sixO
  obtain ⟨v0, v1, v2, v3, v4, v5, v6⟩ := P1.out.sevenO
  have HPw := Lib.hid (HP.out _ HB2.out)
  clear HP
  obtain ⟨E, bl⟩ := p
  go_wp2_with fail
  refine HPw.out.mono ?_
  rintro e w3 ⟨B2, c2, rfl, ht2, hb⟩
  have b2 : Below w3.heap.size w3 (w3.alloc (.cells #[.slice B2 bl.length c2, .int .i64 E] 76)) := (Below.refl _ _).alloc (Nat.le_refl _) _
  have hbb := chain hb b2
  have R0 := Lib.hid (P0.out.keep hbb)
  have R1 := Lib.hid (P1.out.keep hbb)
  have R2 := Lib.hid (P2.out.keep hbb)
  have QS := Lib.hid (Box.new w3 76 #[.slice B2 bl.length c2, .int .i64 E])
  have HB3 := Lib.hid (chain HB2.out hbb)
  have HT2 := Lib.hid (ht2.below b2)
  clear hb b2 hbb ht2 HPw r0 r1 r2 r3 r4 r5 v0 v1 v2 v3 v4 v5 v6
  obtain ⟨r0, r1, r2, r3, r4, r5⟩ := R0.out.sixO
  obtain ⟨v0, v1, v2, v3, v4, v5, v6⟩ := R1.out.sevenO
  obtain ⟨m0, m1, -, -⟩ := QS.out.two
  have q0 := R2.out.cell 0
  have f0 := R2.out.free 0
  have q1 := R2.out.cell 1
  have f1 := R2.out.free 1
  have q2 := R2.out.cell 2
  have f2 := R2.out.free 2
  have q3 := R2.out.cell 3
  have f3 := R2.out.free 3
  have q4 := R2.out.cell 4
  have f4 := R2.out.free 4
  have q5 := R2.out.cell 5
  have f5 := R2.out.free 5
  have q6 := R2.out.cell 6
  have f6 := R2.out.free 6
  have q7 := R2.out.cell 7
  have f7 := R2.out.free 7
  have q8 := R2.out.cell 8
  have f8 := R2.out.free 8
  go_wp2_with fail
  refine close_one Tryz.results10 rfl rfl R2.out.put9s Tryz.underlying40 rfl (by kernel_rfl) ?_
  exact ⟨A, d, B2, c2, rfl, HS.out, Syms.far9s (Recs.below HX.out HB3.out) (Syms.neO (Recs.below HX.out HB3.out) R2.out dz_no) _ _ _ _ _ _ _ _ _, HT2.out.far9s (HT2.out.neO R2.out dz_no) _ _ _ _ _ _ _ _ _, below_set9s HB3.out (show w.heap.size ≤ w.heap.size + 1 + 1 by omega) _ _ _ _ _ _ _ _ _⟩
set_option maxHeartbeats 8000000 in
theorem rdo_close (o : ObR) (A : Option Addr) (d : Nat) (ct : Nat × Int × Int × Int × Nat × ByteArray) (w : World) (hs : SliceOk A o.2.1.2.2.2.length d) (hx : Syms w A o.2.1.2.2.2.length o.2.1.2.2.2) (hr : rightO o = true) (hc : ¬ o.2.2 = 1) :
    Calls Tryz.prog 10 #[.agg (obA o A d), callV (4, ct)] w (DOutW (o.1, o.2.1, 1) (0, (o.2.1.2.2.2.length : Int), []) w) := by
  have HR := Lib.hid (fun wy (hw : Below w.heap.size w wy) => oright18_any (.agg (obA o A d)) o wy ⟨A, d, rfl, hs, Recs.below hx hw⟩)
  have tc : (o.2.2 == 1) = false := by simpa using hc
  obtain ⟨z0, z1, z2, b5⟩ := D3_gen 31 (obA o A d) (callL (4, ct)).toArray dZ w
  have Q0 := Lib.hid z0
  have Q1 := Lib.hid z1
  have Q2 := Lib.hid z2
  have HB := Lib.hid b5
  have HX := Lib.hid hx
  have HS := Lib.hid hs
  obtain ⟨r0, r1, r2, r3, r4, r5⟩ := Q0.out.sixO
  obtain ⟨v0, v1, v2, v3, v4, v5, v6⟩ := Q1.out.sevenO
  clear z0 z1 z2 b5
  rw [hr] at HR
  clear hc hr
  have HRw := Lib.hid (HR.out _ HB.out)
  go_enter Tryz.func10, Tryz.ntmps10
  go_wp2_with fail
  refine HRw.out.mono ?_
  rintro e w2 ⟨rfl, hb⟩
  have P0 := Lib.hid (Q0.out.keep hb)
  have P1 := Lib.hid (Q1.out.keep hb)
  have P2 := Lib.hid (Q2.out.keep hb)
  have HB2 := Lib.hid (chain HB.out hb)
  clear hb HRw HR hx hs r0 r1 r2 r3 r4 r5 v0 v1 v2 v3 v4 v5 v6
  obtain ⟨r0, r1, r2, r3, r4, r5⟩ := P0.out.sixO
  obtain ⟨v0, v1, v2, v3, v4, v5, v6⟩ := P1.out.sevenO
  have f5 := P0.out.free 5
  obtain ⟨w5, hw5⟩ : ∃ y, y = w2.setCell ⟨w.heap.size, 5, none⟩ (.int .i64 1) := ⟨_, rfl⟩
  have L0 := Lib.hid (show Box w5 w.heap.size 27 (obA (o.1, o.2.1, 1) A d) from hw5 ▸ P0.out.put 5 (.int .i64 1))
  have L2 := Lib.hid (show Box w5 (w.heap.size + 1 + 1) 40 dZ from hw5 ▸ P2.out.far (p := ⟨w.heap.size, 5, none⟩) (by show w.heap.size + 1 + 1 ≠ w.heap.size; omega) (.int .i64 1))
  have HB5 := Lib.hid (show Below w.heap.size w w5 from hw5 ▸ HB2.out.setCell (p := ⟨w.heap.size, 5, none⟩) (Nat.le_refl _) (.int .i64 1))
  go_upto_region 15 with (fail)
  rw [← hw5]
  clear hw5 P0 P1 P2 HB2 f5 r0 r1 r2 r3 r4 r5 v0 v1 v2 v3 v4 v5 v6
  obtain ⟨r0, r1, r2, r3, r4, r5⟩ := L0.out.sixO
  have q0 := L2.out.cell 0
  have f0 := L2.out.free 0
  have q1 := L2.out.cell 1
  have f1 := L2.out.free 1
  have q2 := L2.out.cell 2
  have f2 := L2.out.free 2
  have q3 := L2.out.cell 3
  have f3 := L2.out.free 3
  have q4 := L2.out.cell 4
  have f4 := L2.out.free 4
  have q5 := L2.out.cell 5
  have f5 := L2.out.free 5
  have q6 := L2.out.cell 6
  have f6 := L2.out.free 6
  have q7 := L2.out.cell 7
  have f7 := L2.out.free 7
  have q8 := L2.out.cell 8
  have f8 := L2.out.free 8
  go_wp2_with fail
  refine close_one Tryz.results10 rfl rfl L2.out.put9s Tryz.underlying40 rfl (by kernel_rfl) ?_
  exact ⟨A, d, none, 0, rfl, HS.out, Syms.far9s (Recs.below HX.out HB5.out) (Syms.neO (Recs.below HX.out HB5.out) L2.out dz_no) _ _ _ _ _ _ _ _ _, Texts.nil _ _, below_set9s HB5.out (show w.heap.size ≤ w.heap.size + 1 + 1 by omega) _ _ _ _ _ _ _ _ _⟩
/-- What a call does to an object, by the reference. -/
theorem rdo_any (o : ObR) (A : Option Addr) (d : Nat) (c : CallR) (w : World) (hs : SliceOk A o.2.1.2.2.2.length d) (hx : Syms w A o.2.1.2.2.2.length o.2.1.2.2.2) (hi : Ids o.2.1.2.2.2) (hci : c.2.2.2.2.2.1 < 18446744073709551616) :
    Calls Tryz.prog 10 #[.agg (obA o A d), callV c] w (DOutW (doO o c).1 (doO o c).2 w) := by
  obtain ⟨wh, ct⟩ := c
  by_cases hn : rightO o = true ∧ 0 ≤ wh ∧ wh ≤ 4
  · have hd : doO o (wh, ct) = (if wh = 0 then (o, (11, 0, [])) else if o.2.2 = 1 then (o, (6, 0, [])) else actO o (wh, ct)) := if_pos hn
    obtain ⟨hr, h0, h4⟩ := hn
    rw [hd]
    by_cases hz : wh = 0
    · subst hz
      rw [if_pos rfl]
      exact rdo_open o A d ct w hs hx hr
    · rw [if_neg hz]
      by_cases hc : o.2.2 = 1
      · rw [if_pos hc]
        exact rdo_closed o A d wh ct w hs hx hr (by omega) h4 hc
      · rw [if_neg hc]
        have h5 : wh = 1 ∨ wh = 2 ∨ wh = 3 ∨ wh = 4 := by omega
        rcases h5 with rfl | rfl | rfl | rfl
        · exact rdo_add o A d ct w hs hx hr hi hci hc
        · exact rdo_prog o A d ct w hs hx hr hi hc
        · exact rdo_res o A d ct w hs hx hr hi hc
        · exact rdo_close o A d ct w hs hx hr hc
  · have hd : doO o (wh, ct) = (o, (1, 0, [])) := if_neg hn
    rw [hd]
    exact rdo_no o A d wh ct w hs hx hn
end
section
/- ObjectDoes: the walk. -/
set_option linter.unusedVariables false
set_option linter.unusedSimpArgs false
open Go.RowKit Go.Lib
set_option maxRecDepth 100000
set_option maxHeartbeats 1000000 in
theorem refTexts_max (A B : Option Addr) (l c d : Nat) (ss : List ByteArray) (w : World) (hu : Texts w A l ss) (hv : Texts w B l ss) (hl : l ≤ maxLen) :
    Calls Tryz.prog 36 #[.slice A l c, .slice B l d] w fun e w' => e = .returned (.bool true) ∧ Below w.heap.size w w' := by
  unfold maxLen at hl
  have HU := Lib.hid hu
  have HV := Lib.hid hv
  clear hu hv
  have t2 : ((l : Int) != (l : Int)) = false := by simp
  go_enter Tryz.func36, Tryz.ntmps36
  go_wp2_with fail
  clear t2
  go_loopw [13] (fun i wr => ∃ j : Nat, j ≤ l ∧ i = .int .i64 j ∧ Below w.heap.size w wr) (fun i _ => l - (intOf i).toNat)
  case atStart => exact ⟨0, by omega, rfl, Below.refl _ _⟩
  case round =>
    obtain ⟨j, hj, rfl, hbel⟩ := hrel
    have HB := Lib.hid hbel
    clear hbel
    by_cases hlt : j < l
    · obtain ⟨p, o, rfl, lt1, hc1⟩ := HU.out.2.2 (by omega)
      obtain ⟨p2, o2, rfl, lt2, hc2⟩ := HV.out.2.2 (by omega)
      have cu := (HB.out.cell (p := ⟨p, o + j, none⟩) lt1).trans (hc1 j hlt)
      have cv := (HB.out.cell (p := ⟨p2, o2 + j, none⟩) lt2).trans (hc2 j hlt)
      generalize ss.getD j ByteArray.empty = s at *
      clear hc1 hc2
      have hlt' : (j : Int) < (l : Int) := by omega
      have hj0 : (0 : Int) ≤ (j : Int) := by omega
      go_wp2
      go_quiet (fail)
      go_wp2_with fail
      go_roundw
      case rel => exact ⟨j + 1, by omega, by go_num, bdN HB.out _⟩
      case measure => simp [intOf]; omega
    · obtain rfl : j = l := by omega
      go_wp2
      go_ret
      exact ⟨rfl, HB.out⟩
def RpW (w : World) (v : Value) (r : ReplyR) : Prop := ∃ A c, v = .agg #[.int .i64 r.1, .int .i64 r.2.1, .slice A r.2.2.length c] ∧ Texts w A r.2.2.length r.2.2
theorem RpW.below {w w' : World} {v : Value} {r : ReplyR} (h : RpW w v r) (hb : Below w.heap.size w w') : RpW w' v r := by
  obtain ⟨A, c, h1, h2⟩ := h
  exact ⟨A, c, h1, h2.below hb⟩
set_option maxHeartbeats 2000000 in
theorem replies_w (va vb : Value) (r : ReplyR) (w : World) (ha : RpAt w va r) (hb : RpW w vb r) : Calls Tryz.prog 13 #[va, vb] w fun e w' => e = .returned (.bool true) ∧ Below w.heap.size w w' := by
  obtain ⟨A, c, rfl, hx, hc1, hc2⟩ := ha
  obtain ⟨B, c2, rfl, hy⟩ := hb
  obtain ⟨why, n, bl⟩ := r
  dsimp only at hx hy hc1
  have b1 : Below w.heap.size w (w.alloc (.cells #[.int .i64 why, .int .i64 n, .slice A bl.length c] 36)) := (Below.refl _ _).alloc (Nat.le_refl _) _
  have b2 := b1.alloc b1.size (.cells #[.int .i64 why, .int .i64 n, .slice B bl.length c2] 36)
  have Q := Lib.hid ((Box.new w 36 #[.int .i64 why, .int .i64 n, .slice A bl.length c]).alloc (.cells #[.int .i64 why, .int .i64 n, .slice B bl.length c2] 36))
  have u0 := Box.new (w.alloc (.cells #[.int .i64 why, .int .i64 n, .slice A bl.length c] 36)) 36 #[.int .i64 why, .int .i64 n, .slice B bl.length c2]
  simp only [World.size_alloc] at u0
  have U := Lib.hid u0
  have HB := Lib.hid b2
  have HT := Lib.hid (refTexts_max A B bl.length c c2 bl _ (hx.below b2) (hy.below b2) (Nat.le_trans hc1 hc2))
  obtain ⟨r0, r1, r2⟩ := Q.out.threeO
  obtain ⟨s0, s1, s2⟩ := U.out.threeO
  have t1 : (why == why) = true := by simp
  have t2 : (n == n) = true := by simp
  clear b1 b2 hx hy hc1 hc2 u0
  go_enter Tryz.func13, Tryz.ntmps13
  go_wp2_with fail
  refine HT.out.mono ?_
  rintro e w2 ⟨rfl, hb2⟩
  have HB2 := Lib.hid (chain HB.out hb2)
  clear hb2
  go_wp2_with fail
  go_ret
  exact ⟨rfl, HB2.out⟩
theorem cutX_noO (s : ByteArray) (h : s.size ≤ 66) : cutX s = s := (cutX_id s h).symm
theorem C2_gen (a c : Array Value) (W : World) : Box ((W.alloc (.cells a 27)).alloc (.cells c 31)) W.heap.size 27 a ∧ Box ((W.alloc (.cells a 27)).alloc (.cells c 31)) (W.heap.size + 1) 31 c ∧ Below W.heap.size W ((W.alloc (.cells a 27)).alloc (.cells c 31)) := by
  refine ⟨(Box.new W _ _).alloc _, ?_, ((Below.refl _ _).alloc (Nat.le_refl _) _).alloc (by simp) _⟩
  have q := Box.new (W.alloc (.cells a 27)) 31 c
  simpa only [World.size_alloc] using q
theorem ids_take {xs : List SymR} (h : Ids xs) (n : Nat) : Ids (xs.take n) := fun j => by
  by_cases hj : j < n
  · have e : (xs.take n).getD j default = xs.getD j default := by simp [List.getD, List.getElem?_take_of_lt hj]
    rw [e]; exact h j
  · have e : (xs.take n).getD j default = default := by simp [List.getD, List.getElem?_take, hj]
    rw [e]; decide
theorem Box.nineD {w : World} {g : Nat} {t : TypeId} {a b c d e f u v x : Value} (h : Box w g t #[a, b, c, d, e, f, u, v, x]) : w.cell? ⟨g, 0, none⟩ = some a ∧ w.cell? ⟨g, 1, none⟩ = some b ∧ w.cell? ⟨g, 2, none⟩ = some c ∧ w.cell? ⟨g, 3, none⟩ = some d ∧ w.cell? ⟨g, 4, none⟩ = some e ∧ w.cell? ⟨g, 5, none⟩ = some f ∧ w.cell? ⟨g, 6, none⟩ = some u ∧ w.cell? ⟨g, 7, none⟩ = some v ∧ w.cell? ⟨g, 8, none⟩ = some x := ⟨h.cell 0, h.cell 1, h.cell 2, h.cell 3, h.cell 4, h.cell 5, h.cell 6, h.cell 7, h.cell 8⟩
set_option maxHeartbeats 16000000 in
theorem does18_any (a : ObR) (A1 : Option Addr) (d1 : Nat) (wh : Int) (ob : Nat) (k s cp : Int) (id : Nat) (dt : ByteArray) (W : World) (ha : ObAt W (.agg (obA a A1 d1)) a) (hi : Ids a.2.1.2.2.2) (hci : id < 18446744073709551616) :
    Calls Tryz.prog 3 #[.agg (obA a A1 d1), callV (wh, ob, k, s, cp, id, dt)] W fun e w' => e = .returned (.bool true) ∧ Below W.heap.size W w' := by
  obtain ⟨q0, q1, b3⟩ := C2_gen (obA a A1 d1) (callL (wh, ob, k, s, cp, id, dt)).toArray W
  have QA := Lib.hid q0
  have QX := Lib.hid q1
  have HB := Lib.hid b3
  have H1 := Lib.hid (fun wy => few18_any (.agg (obA a A1 d1)) a W wy ha)
  have HI := Lib.hid (show Ids (fewO a).2.1.2.2.2 from ids_take hi _)
  obtain ⟨fa, hfa⟩ : ∃ y, y = fewO a := ⟨_, rfl⟩
  rw [← hfa] at H1 HI
  have HC1 := Lib.hid (cutX_noO dt)
  have HC2 := Lib.hid (show 66 ≤ dt.size → cutX dt = dt.extract 0 66 from fun h => (cutX_min dt 66 (by omega)).symm)
  obtain ⟨ct, hct⟩ : ∃ y, y = cutX dt := ⟨_, rfl⟩
  rw [← hct] at HC1 HC2
  clear q0 q1 b3 ha hi hfa hct
  obtain ⟨r0, r1, r2, r3, r4, r5⟩ := QA.out.sixO
  obtain ⟨v0, v1, v2, v3, v4, v5, v6⟩ := QX.out.sevenO
  go_enter Tryz.func3, Tryz.ntmps3
  go_upto_region 1 with (fail)
  go_cut [] (fun wx => ∃ A3 d3, Hid (Box wx W.heap.size 27 (obA fa A3 d3)) ∧ Hid (Box wx (W.heap.size + 1) 31 (callL (wh, ob, k, s, cp, id, ct)).toArray) ∧ Hid (ObAt wx (.agg (obA fa A3 d3)) fa) ∧ Hid (Below W.heap.size W wx))
  case first =>
    by_cases hd : dt.size ≤ 66
    · have hdc := (HC1.out hd).symm
      have hd1 : (dt.size : Int) ≤ 66 := by omega
      have hd2 : ¬ (66 : Int) < dt.size := by omega
      have hdm : min (dt.size : Int) 66 = (dt.size : Int) := by omega
      subst hdc
      refine wp_heldK_bar [(11, (fun (w' : World) => w'.cell? ⟨W.heap.size, 0, none⟩ = some (.int .u64 (a.1 : Nat)) ∧ w'.cell? ⟨W.heap.size, 1, none⟩ = some (.int .i64 a.2.1.1) ∧ w'.cell? ⟨W.heap.size, 2, none⟩ = some (.int .i64 a.2.1.2.1) ∧ w'.cell? ⟨W.heap.size, 3, none⟩ = some (.int .i64 a.2.1.2.2.1) ∧ w'.cell? ⟨W.heap.size, 4, none⟩ = some (.slice A1 a.2.1.2.2.2.length d1) ∧ w'.cell? ⟨W.heap.size, 5, none⟩ = some (.int .i64 a.2.2))), (14, (fun (w' : World) => w'.cell? ⟨W.heap.size + 1, 6, none⟩ = some (.string dt)))] 15 (by kernel_rfl) (by decide) ?_
      have hS0 := (show ((fun (w' : World) => w'.cell? ⟨W.heap.size, 0, none⟩ = some (.int .u64 (a.1 : Nat)) ∧ w'.cell? ⟨W.heap.size, 1, none⟩ = some (.int .i64 a.2.1.1) ∧ w'.cell? ⟨W.heap.size, 2, none⟩ = some (.int .i64 a.2.1.2.1) ∧ w'.cell? ⟨W.heap.size, 3, none⟩ = some (.int .i64 a.2.1.2.2.1) ∧ w'.cell? ⟨W.heap.size, 4, none⟩ = some (.slice A1 a.2.1.2.2.2.length d1) ∧ w'.cell? ⟨W.heap.size, 5, none⟩ = some (.int .i64 a.2.2))) ((W.alloc (.cells (obA a A1 d1) 27)).alloc (.cells (callL (wh, ob, k, s, cp, id, dt)).toArray 31)).drew from ⟨r0, r1, r2, r3, r4, r5⟩)
      have hS1 := (show ((fun (w' : World) => w'.cell? ⟨W.heap.size + 1, 6, none⟩ = some (.string dt))) ((W.alloc (.cells (obA a A1 d1) 27)).alloc (.cells (callL (wh, ob, k, s, cp, id, dt)).toArray 31)).drew from v6)
      refine headK_load 0 11 _ rfl (i := 0) (v := ?_) rfl (by kernel_rfl) (fun _ _ _ h => h) (fun _ _ _ h => passed_ready h.1) (Or.inl ⟨by rfl, ?hy1⟩) ⟨fun _ => hS0, fun _ => hS1, trivial⟩ ?rest1
      case hy1 => intro w hSw; (try dsimp only at hSw); obtain ⟨hc0, hc1, hc2, hc3, hc4, hc5⟩ := hSw; go_simp; try (with_reducible rfl)
      case rest1 =>
      try simp only [Act.put, List.setIfInBounds_toArray, List.set_cons_zero, List.set_cons_succ]
      refine headK_take (i := 2) (v := ?_) rfl (by kernel_rfl) (fun _ _ _ h => h) (fun _ _ _ h => passed_ready h.1) (Or.inl ⟨by rfl, ?hy2⟩) ⟨fun _ => hS0, fun _ => hS1, trivial⟩ ?rest2
      case hy2 => intro w _; go_simp; try (with_reducible rfl)
      case rest2 =>
      try simp only [Act.put, List.setIfInBounds_toArray, List.set_cons_zero, List.set_cons_succ]
      refine headK_take (i := 3) (v := ?_) rfl (by kernel_rfl) (fun _ _ _ h => h) (fun _ _ _ h => passed_ready h.1) (Or.inl ⟨by rfl, ?hy3⟩) ⟨fun _ => hS0, fun _ => hS1, trivial⟩ ?rest3
      case hy3 => intro w _; go_simp; try (with_reducible rfl)
      case rest3 =>
      try simp only [Act.put, List.setIfInBounds_toArray, List.set_cons_zero, List.set_cons_succ]
      refine headK_load 1 14 _ rfl (i := 4) (v := ?_) rfl (by kernel_rfl) (fun _ _ _ h => h) (fun _ _ _ h => passed_ready h.1) (Or.inl ⟨by rfl, ?hy4⟩) ⟨fun _ => hS0, fun _ => hS1, trivial⟩ ?rest4
      case hy4 => intro w hSw; (try dsimp only at hSw); go_simp; try (with_reducible rfl)
      case rest4 =>
      try simp only [Act.put, List.setIfInBounds_toArray, List.set_cons_zero, List.set_cons_succ]
      refine headK_take (i := 5) (v := ?_) rfl (by kernel_rfl) (fun _ _ _ h => h) (fun _ _ _ h => passed_ready h.1) (Or.inl ⟨by rfl, ?hy5⟩) ⟨fun _ => hS0, fun _ => hS1, trivial⟩ ?rest5
      case hy5 => intro w _; go_simp; try (with_reducible rfl)
      case rest5 =>
      try simp only [Act.put, List.setIfInBounds_toArray, List.set_cons_zero, List.set_cons_succ]
      refine headK_take (i := 6) (v := ?_) rfl (by kernel_rfl) (fun _ _ _ h => h) (fun _ _ _ h => passed_ready h.1) (Or.inl ⟨by rfl, ?hy6⟩) ⟨fun _ => hS0, fun _ => hS1, trivial⟩ ?rest6
      case hy6 => intro w _; go_simp; try (with_reducible rfl)
      case rest6 =>
      try simp only [Act.put, List.setIfInBounds_toArray, List.set_cons_zero, List.set_cons_succ]
      refine headK_load 1 14 _ rfl (i := 7) (v := ?_) rfl (by kernel_rfl) (fun _ _ _ h => h) (fun _ _ _ h => passed_ready h.1) (Or.inl ⟨by rfl, ?hy7⟩) ⟨fun _ => hS0, fun _ => hS1, trivial⟩ ?rest7
      case hy7 => intro w hSw; (try dsimp only at hSw); go_simp; try (with_reducible rfl)
      case rest7 =>
      try simp only [Act.put, List.setIfInBounds_toArray, List.set_cons_zero, List.set_cons_succ]
      refine headK_take (i := 8) (v := ?_) rfl (by kernel_rfl) (fun _ _ _ h => h) (fun _ _ _ h => passed_ready h.1) (Or.inl ⟨by rfl, ?hy8⟩) ⟨fun _ => hS0, fun _ => hS1, trivial⟩ ?rest8
      case hy8 => intro w _; go_simp; try (with_reducible rfl)
      case rest8 =>
      try simp only [Act.put, List.setIfInBounds_toArray, List.set_cons_zero, List.set_cons_succ]
      refine headK_take (i := 9) (v := ?_) rfl (by kernel_rfl) (fun _ _ _ h => h) (fun _ _ _ h => passed_ready h.1) (Or.inl ⟨by rfl, ?hy9⟩) ⟨fun _ => hS0, fun _ => hS1, trivial⟩ ?rest9
      case hy9 => intro w _; go_simp; try (with_reducible rfl)
      case rest9 =>
      try simp only [Act.put, List.setIfInBounds_toArray, List.set_cons_zero, List.set_cons_succ]
      refine headK_take (i := 10) (v := ?_) rfl (by kernel_rfl) (fun _ _ _ h => h) (fun _ _ _ h => passed_ready h.1) (Or.inl ⟨by rfl, ?hy10⟩) ⟨fun _ => hS0, fun _ => hS1, trivial⟩ ?rest10
      case hy10 => intro w _; go_simp; try (with_reducible rfl)
      case rest10 =>
      try simp only [Act.put, List.setIfInBounds_toArray, List.set_cons_zero, List.set_cons_succ]
      refine headK_one (i := 1) (by kernel_rfl) rfl (fun K hK => ?_)
      go_simp
      refine (H1.out _).mono ?_
      rintro e1 y1 ⟨A3, d3, rfl, hs3, hx3, hb⟩
      have PA := Lib.hid (QA.out.drew.keep hb)
      have PX := Lib.hid (QX.out.drew.keep hb)
      have HB1 := Lib.hid (HB.out.drew.trans (hb.mono HB.out.size))
      have X3 := Lib.hid (And.intro hs3 hx3)
      clear hb hs3 hx3 hS0 hS1
      obtain ⟨a0, a1, a2, a3, a4, a5⟩ := PA.out.sixO
      have m6 := PX.out.cell 6
      have fa0 := PA.out.free 0
      have fa1 := PA.out.free 1
      have fa2 := PA.out.free 2
      have fa3 := PA.out.free 3
      have fa4 := PA.out.free 4
      have fa5 := PA.out.free 5
      have fx6 := PX.out.free 6
      have hS0 := (show ((fun (w' : World) => w'.cell? ⟨W.heap.size, 0, none⟩ = some (.int .u64 (a.1 : Nat)) ∧ w'.cell? ⟨W.heap.size, 1, none⟩ = some (.int .i64 a.2.1.1) ∧ w'.cell? ⟨W.heap.size, 2, none⟩ = some (.int .i64 a.2.1.2.1) ∧ w'.cell? ⟨W.heap.size, 3, none⟩ = some (.int .i64 a.2.1.2.2.1) ∧ w'.cell? ⟨W.heap.size, 4, none⟩ = some (.slice A1 a.2.1.2.2.2.length d1) ∧ w'.cell? ⟨W.heap.size, 5, none⟩ = some (.int .i64 a.2.2))) y1 from ⟨a0, a1, a2, a3, a4, a5⟩)
      have hS1 := (show ((fun (w' : World) => w'.cell? ⟨W.heap.size + 1, 6, none⟩ = some (.string dt))) y1 from m6)
      refine hK.out _ _ ⟨fun _ => hS0, fun _ => hS1, trivial⟩ ?_
      clear hK K
      try simp only [Act.put, List.setIfInBounds_toArray, List.set_cons_zero, List.set_cons_succ]
      refine headK_one (i := 11) (by kernel_rfl) rfl (fun K hK => ?_)
      go_simp
      have hS1 := (show ((fun (w' : World) => w'.cell? ⟨W.heap.size + 1, 6, none⟩ = some (.string dt))) ((((((y1.setCell ⟨W.heap.size, 0, none⟩ (.int .u64 (fa.1 : Nat))).setCell ⟨W.heap.size, 1, none⟩ (.int .i64 fa.2.1.1)).setCell ⟨W.heap.size, 2, none⟩ (.int .i64 fa.2.1.2.1)).setCell ⟨W.heap.size, 3, none⟩ (.int .i64 fa.2.1.2.2.1)).setCell ⟨W.heap.size, 4, none⟩ (.slice A3 fa.2.1.2.2.2.length d3)).setCell ⟨W.heap.size, 5, none⟩ (.int .i64 fa.2.2)) from (PX.out.far6o (g' := W.heap.size) (by omega) (.int .u64 (fa.1 : Nat)) (.int .i64 fa.2.1.1) (.int .i64 fa.2.1.2.1) (.int .i64 fa.2.1.2.2.1) (.slice A3 fa.2.1.2.2.2.length d3) (.int .i64 fa.2.2)).cell 6)
      refine hK.out _ _ ⟨fun h => Bool.noConfusion (show true = false from h), fun _ => hS1, trivial⟩ ?_
      clear hK K
      try simp only [Act.put, List.setIfInBounds_toArray, List.set_cons_zero, List.set_cons_succ]
      refine headK_take (i := 12) (v := ?_) rfl (by kernel_rfl) (fun _ _ _ h => h) (fun _ _ _ h => passed_ready h.1) (Or.inl ⟨by rfl, ?hy11⟩) ⟨fun h => Bool.noConfusion (show true = false from h), fun _ => hS1, trivial⟩ ?rest11
      case hy11 => intro w _; go_simp; try (with_reducible rfl)
      case rest11 =>
      try simp only [Act.put, List.setIfInBounds_toArray, List.set_cons_zero, List.set_cons_succ]
      refine headK_take (i := 13) (v := ?_) rfl (by kernel_rfl) (fun _ _ _ h => h) (fun _ _ _ h => passed_ready h.1) (Or.inl ⟨by rfl, ?hy12⟩) ⟨fun h => Bool.noConfusion (show true = false from h), fun _ => hS1, trivial⟩ ?rest12
      case hy12 => intro w _; go_simp; try (with_reducible rfl)
      case rest12 =>
      try simp only [Act.put, List.setIfInBounds_toArray, List.set_cons_zero, List.set_cons_succ]
      refine headK_one (i := 14) (by kernel_rfl) rfl (fun K hK => ?_)
      go_simp
      refine hK.out _ _ ⟨fun h => Bool.noConfusion (show true = false from h), fun h => Bool.noConfusion (show true = false from h), trivial⟩ ?_
      clear hK K
      try simp only [Act.put, List.setIfInBounds_toArray, List.set_cons_zero, List.set_cons_succ]
      refine ⟨by kernel_rfl, ?_⟩
      refine wpAny_done (by kernel_rfl) ?_ _
      go_wp2_with fail
      go_meet
      have HF := Lib.hid ((below_set6o HB1.out (Nat.le_refl _) (.int .u64 (fa.1 : Nat)) (.int .i64 fa.2.1.1) (.int .i64 fa.2.1.2.1) (.int .i64 fa.2.1.2.2.1) (.slice A3 fa.2.1.2.2.2.length d3) (.int .i64 fa.2.2)).setCell (p := ⟨W.heap.size + 1, 6, none⟩) (by show W.heap.size ≤ W.heap.size + 1; omega) (.string dt))
      exact ⟨A3, d3, Lib.hid (PA.out.put6o.far (p := ⟨W.heap.size + 1, 6, none⟩) (by show W.heap.size ≠ W.heap.size + 1; omega) (.string dt)), Lib.hid ((PX.out.far6o (g' := W.heap.size) (by omega) (.int .u64 (fa.1 : Nat)) (.int .i64 fa.2.1.1) (.int .i64 fa.2.1.2.1) (.int .i64 fa.2.1.2.2.1) (.slice A3 fa.2.1.2.2.2.length d3) (.int .i64 fa.2.2)).put 6 (.string dt)), Lib.hid ⟨A3, d3, rfl, X3.out.1, Recs.below X3.out.2 HF.out⟩, HF⟩
    · have hdc := HC2.out (by omega)
      have hd1 : (66 : Int) < dt.size := by omega
      have hd3 : (66 : Int) ≤ dt.size := by omega
      have hdm : min (dt.size : Int) 66 = 66 := by omega
      subst hdc
      refine wp_heldK_bar [(11, (fun (w' : World) => w'.cell? ⟨W.heap.size, 0, none⟩ = some (.int .u64 (a.1 : Nat)) ∧ w'.cell? ⟨W.heap.size, 1, none⟩ = some (.int .i64 a.2.1.1) ∧ w'.cell? ⟨W.heap.size, 2, none⟩ = some (.int .i64 a.2.1.2.1) ∧ w'.cell? ⟨W.heap.size, 3, none⟩ = some (.int .i64 a.2.1.2.2.1) ∧ w'.cell? ⟨W.heap.size, 4, none⟩ = some (.slice A1 a.2.1.2.2.2.length d1) ∧ w'.cell? ⟨W.heap.size, 5, none⟩ = some (.int .i64 a.2.2))), (14, (fun (w' : World) => w'.cell? ⟨W.heap.size + 1, 6, none⟩ = some (.string dt)))] 15 (by kernel_rfl) (by decide) ?_
      have hS0 := (show ((fun (w' : World) => w'.cell? ⟨W.heap.size, 0, none⟩ = some (.int .u64 (a.1 : Nat)) ∧ w'.cell? ⟨W.heap.size, 1, none⟩ = some (.int .i64 a.2.1.1) ∧ w'.cell? ⟨W.heap.size, 2, none⟩ = some (.int .i64 a.2.1.2.1) ∧ w'.cell? ⟨W.heap.size, 3, none⟩ = some (.int .i64 a.2.1.2.2.1) ∧ w'.cell? ⟨W.heap.size, 4, none⟩ = some (.slice A1 a.2.1.2.2.2.length d1) ∧ w'.cell? ⟨W.heap.size, 5, none⟩ = some (.int .i64 a.2.2))) ((W.alloc (.cells (obA a A1 d1) 27)).alloc (.cells (callL (wh, ob, k, s, cp, id, dt)).toArray 31)).drew from ⟨r0, r1, r2, r3, r4, r5⟩)
      have hS1 := (show ((fun (w' : World) => w'.cell? ⟨W.heap.size + 1, 6, none⟩ = some (.string dt))) ((W.alloc (.cells (obA a A1 d1) 27)).alloc (.cells (callL (wh, ob, k, s, cp, id, dt)).toArray 31)).drew from v6)
      refine headK_load 0 11 _ rfl (i := 0) (v := ?_) rfl (by kernel_rfl) (fun _ _ _ h => h) (fun _ _ _ h => passed_ready h.1) (Or.inl ⟨by rfl, ?hy13⟩) ⟨fun _ => hS0, fun _ => hS1, trivial⟩ ?rest13
      case hy13 => intro w hSw; (try dsimp only at hSw); obtain ⟨hc0, hc1, hc2, hc3, hc4, hc5⟩ := hSw; go_simp; try (with_reducible rfl)
      case rest13 =>
      try simp only [Act.put, List.setIfInBounds_toArray, List.set_cons_zero, List.set_cons_succ]
      refine headK_take (i := 2) (v := ?_) rfl (by kernel_rfl) (fun _ _ _ h => h) (fun _ _ _ h => passed_ready h.1) (Or.inl ⟨by rfl, ?hy14⟩) ⟨fun _ => hS0, fun _ => hS1, trivial⟩ ?rest14
      case hy14 => intro w _; go_simp; try (with_reducible rfl)
      case rest14 =>
      try simp only [Act.put, List.setIfInBounds_toArray, List.set_cons_zero, List.set_cons_succ]
      refine headK_take (i := 3) (v := ?_) rfl (by kernel_rfl) (fun _ _ _ h => h) (fun _ _ _ h => passed_ready h.1) (Or.inl ⟨by rfl, ?hy15⟩) ⟨fun _ => hS0, fun _ => hS1, trivial⟩ ?rest15
      case hy15 => intro w _; go_simp; try (with_reducible rfl)
      case rest15 =>
      try simp only [Act.put, List.setIfInBounds_toArray, List.set_cons_zero, List.set_cons_succ]
      refine headK_load 1 14 _ rfl (i := 4) (v := ?_) rfl (by kernel_rfl) (fun _ _ _ h => h) (fun _ _ _ h => passed_ready h.1) (Or.inl ⟨by rfl, ?hy16⟩) ⟨fun _ => hS0, fun _ => hS1, trivial⟩ ?rest16
      case hy16 => intro w hSw; (try dsimp only at hSw); go_simp; try (with_reducible rfl)
      case rest16 =>
      try simp only [Act.put, List.setIfInBounds_toArray, List.set_cons_zero, List.set_cons_succ]
      refine headK_take (i := 5) (v := ?_) rfl (by kernel_rfl) (fun _ _ _ h => h) (fun _ _ _ h => passed_ready h.1) (Or.inl ⟨by rfl, ?hy17⟩) ⟨fun _ => hS0, fun _ => hS1, trivial⟩ ?rest17
      case hy17 => intro w _; go_simp; try (with_reducible rfl)
      case rest17 =>
      try simp only [Act.put, List.setIfInBounds_toArray, List.set_cons_zero, List.set_cons_succ]
      refine headK_take (i := 6) (v := ?_) rfl (by kernel_rfl) (fun _ _ _ h => h) (fun _ _ _ h => passed_ready h.1) (Or.inl ⟨by rfl, ?hy18⟩) ⟨fun _ => hS0, fun _ => hS1, trivial⟩ ?rest18
      case hy18 => intro w _; go_simp; try (with_reducible rfl)
      case rest18 =>
      try simp only [Act.put, List.setIfInBounds_toArray, List.set_cons_zero, List.set_cons_succ]
      refine headK_load 1 14 _ rfl (i := 7) (v := ?_) rfl (by kernel_rfl) (fun _ _ _ h => h) (fun _ _ _ h => passed_ready h.1) (Or.inl ⟨by rfl, ?hy19⟩) ⟨fun _ => hS0, fun _ => hS1, trivial⟩ ?rest19
      case hy19 => intro w hSw; (try dsimp only at hSw); go_simp; try (with_reducible rfl)
      case rest19 =>
      try simp only [Act.put, List.setIfInBounds_toArray, List.set_cons_zero, List.set_cons_succ]
      refine headK_take (i := 8) (v := ?_) rfl (by kernel_rfl) (fun _ _ _ h => h) (fun _ _ _ h => passed_ready h.1) (Or.inl ⟨by rfl, ?hy20⟩) ⟨fun _ => hS0, fun _ => hS1, trivial⟩ ?rest20
      case hy20 => intro w _; go_simp; try (with_reducible rfl)
      case rest20 =>
      try simp only [Act.put, List.setIfInBounds_toArray, List.set_cons_zero, List.set_cons_succ]
      refine headK_take (i := 9) (v := ?_) rfl (by kernel_rfl) (fun _ _ _ h => h) (fun _ _ _ h => passed_ready h.1) (Or.inl ⟨by rfl, ?hy21⟩) ⟨fun _ => hS0, fun _ => hS1, trivial⟩ ?rest21
      case hy21 => intro w _; go_simp; try (with_reducible rfl)
      case rest21 =>
      try simp only [Act.put, List.setIfInBounds_toArray, List.set_cons_zero, List.set_cons_succ]
      refine headK_take (i := 10) (v := ?_) rfl (by kernel_rfl) (fun _ _ _ h => h) (fun _ _ _ h => passed_ready h.1) (Or.inl ⟨by rfl, ?hy22⟩) ⟨fun _ => hS0, fun _ => hS1, trivial⟩ ?rest22
      case hy22 => intro w _; go_simp; try (with_reducible rfl)
      case rest22 =>
      try simp only [Act.put, List.setIfInBounds_toArray, List.set_cons_zero, List.set_cons_succ]
      refine headK_one (i := 1) (by kernel_rfl) rfl (fun K hK => ?_)
      go_simp
      refine (H1.out _).mono ?_
      rintro e1 y1 ⟨A3, d3, rfl, hs3, hx3, hb⟩
      have PA := Lib.hid (QA.out.drew.keep hb)
      have PX := Lib.hid (QX.out.drew.keep hb)
      have HB1 := Lib.hid (HB.out.drew.trans (hb.mono HB.out.size))
      have X3 := Lib.hid (And.intro hs3 hx3)
      clear hb hs3 hx3 hS0 hS1
      obtain ⟨a0, a1, a2, a3, a4, a5⟩ := PA.out.sixO
      have m6 := PX.out.cell 6
      have fa0 := PA.out.free 0
      have fa1 := PA.out.free 1
      have fa2 := PA.out.free 2
      have fa3 := PA.out.free 3
      have fa4 := PA.out.free 4
      have fa5 := PA.out.free 5
      have fx6 := PX.out.free 6
      have hS0 := (show ((fun (w' : World) => w'.cell? ⟨W.heap.size, 0, none⟩ = some (.int .u64 (a.1 : Nat)) ∧ w'.cell? ⟨W.heap.size, 1, none⟩ = some (.int .i64 a.2.1.1) ∧ w'.cell? ⟨W.heap.size, 2, none⟩ = some (.int .i64 a.2.1.2.1) ∧ w'.cell? ⟨W.heap.size, 3, none⟩ = some (.int .i64 a.2.1.2.2.1) ∧ w'.cell? ⟨W.heap.size, 4, none⟩ = some (.slice A1 a.2.1.2.2.2.length d1) ∧ w'.cell? ⟨W.heap.size, 5, none⟩ = some (.int .i64 a.2.2))) y1 from ⟨a0, a1, a2, a3, a4, a5⟩)
      have hS1 := (show ((fun (w' : World) => w'.cell? ⟨W.heap.size + 1, 6, none⟩ = some (.string dt))) y1 from m6)
      refine hK.out _ _ ⟨fun _ => hS0, fun _ => hS1, trivial⟩ ?_
      clear hK K
      try simp only [Act.put, List.setIfInBounds_toArray, List.set_cons_zero, List.set_cons_succ]
      refine headK_one (i := 11) (by kernel_rfl) rfl (fun K hK => ?_)
      go_simp
      have hS1 := (show ((fun (w' : World) => w'.cell? ⟨W.heap.size + 1, 6, none⟩ = some (.string dt))) ((((((y1.setCell ⟨W.heap.size, 0, none⟩ (.int .u64 (fa.1 : Nat))).setCell ⟨W.heap.size, 1, none⟩ (.int .i64 fa.2.1.1)).setCell ⟨W.heap.size, 2, none⟩ (.int .i64 fa.2.1.2.1)).setCell ⟨W.heap.size, 3, none⟩ (.int .i64 fa.2.1.2.2.1)).setCell ⟨W.heap.size, 4, none⟩ (.slice A3 fa.2.1.2.2.2.length d3)).setCell ⟨W.heap.size, 5, none⟩ (.int .i64 fa.2.2)) from (PX.out.far6o (g' := W.heap.size) (by omega) (.int .u64 (fa.1 : Nat)) (.int .i64 fa.2.1.1) (.int .i64 fa.2.1.2.1) (.int .i64 fa.2.1.2.2.1) (.slice A3 fa.2.1.2.2.2.length d3) (.int .i64 fa.2.2)).cell 6)
      refine hK.out _ _ ⟨fun h => Bool.noConfusion (show true = false from h), fun _ => hS1, trivial⟩ ?_
      clear hK K
      try simp only [Act.put, List.setIfInBounds_toArray, List.set_cons_zero, List.set_cons_succ]
      refine headK_take (i := 12) (v := ?_) rfl (by kernel_rfl) (fun _ _ _ h => h) (fun _ _ _ h => passed_ready h.1) (Or.inl ⟨by rfl, ?hy23⟩) ⟨fun h => Bool.noConfusion (show true = false from h), fun _ => hS1, trivial⟩ ?rest23
      case hy23 => intro w _; go_simp; try (with_reducible rfl)
      case rest23 =>
      try simp only [Act.put, List.setIfInBounds_toArray, List.set_cons_zero, List.set_cons_succ]
      refine headK_take (i := 13) (v := ?_) rfl (by kernel_rfl) (fun _ _ _ h => h) (fun _ _ _ h => passed_ready h.1) (Or.inl ⟨by rfl, ?hy24⟩) ⟨fun h => Bool.noConfusion (show true = false from h), fun _ => hS1, trivial⟩ ?rest24
      case hy24 => intro w _; go_simp; try (with_reducible rfl)
      case rest24 =>
      try simp only [Act.put, List.setIfInBounds_toArray, List.set_cons_zero, List.set_cons_succ]
      refine headK_one (i := 14) (by kernel_rfl) rfl (fun K hK => ?_)
      go_simp
      refine hK.out _ _ ⟨fun h => Bool.noConfusion (show true = false from h), fun h => Bool.noConfusion (show true = false from h), trivial⟩ ?_
      clear hK K
      try simp only [Act.put, List.setIfInBounds_toArray, List.set_cons_zero, List.set_cons_succ]
      refine ⟨by kernel_rfl, ?_⟩
      refine wpAny_done (by kernel_rfl) ?_ _
      go_wp2_with fail
      go_meet
      have HF := Lib.hid ((below_set6o HB1.out (Nat.le_refl _) (.int .u64 (fa.1 : Nat)) (.int .i64 fa.2.1.1) (.int .i64 fa.2.1.2.1) (.int .i64 fa.2.1.2.2.1) (.slice A3 fa.2.1.2.2.2.length d3) (.int .i64 fa.2.2)).setCell (p := ⟨W.heap.size + 1, 6, none⟩) (by show W.heap.size ≤ W.heap.size + 1; omega) (.string (dt.extract 0 66)))
      exact ⟨A3, d3, Lib.hid (PA.out.put6o.far (p := ⟨W.heap.size + 1, 6, none⟩) (by show W.heap.size ≠ W.heap.size + 1; omega) (.string (dt.extract 0 66))), Lib.hid ((PX.out.far6o (g' := W.heap.size) (by omega) (.int .u64 (fa.1 : Nat)) (.int .i64 fa.2.1.1) (.int .i64 fa.2.1.2.1) (.int .i64 fa.2.1.2.2.1) (.slice A3 fa.2.1.2.2.2.length d3) (.int .i64 fa.2.2)).put 6 (.string (dt.extract 0 66))), Lib.hid ⟨A3, d3, rfl, X3.out.1, Recs.below X3.out.2 HF.out⟩, HF⟩
  case rest =>
    obtain ⟨A3, d3, K0, K1, SA, K5⟩ := hcut
    clear QA QX HB H1 HC1 HC2 r0 r1 r2 r3 r4 r5 v0 v1 v2 v3 v4 v5 v6
    obtain ⟨wa, rfl⟩ : ∃ x : World, x = wc := ⟨_, rfl⟩
    have HD := Lib.hid (fun (wy : World) (h : ObAt wy (.agg (obA fa A3 d3)) fa) => (show Calls Tryz.prog 9 #[.agg (obA fa A3 d3), callV (wh, ob, k, s, cp, id, ct)] wy (DoOut (doO fa (wh, ob, k, s, cp, id, ct)).1 (doO fa (wh, ob, k, s, cp, id, ct)).2 wy) from by
      obtain ⟨A', d', e, h1, h2⟩ := h
      cases e
      exact odo_any fa A3 d3 (wh, ob, k, s, cp, id, ct) wy h1 h2 HI.out hci))
    have HE := Lib.hid (fun (wy : World) (h : ObAt wy (.agg (obA fa A3 d3)) fa) => (show Calls Tryz.prog 10 #[.agg (obA fa A3 d3), callV (wh, ob, k, s, cp, id, ct)] wy (DOutW (doO fa (wh, ob, k, s, cp, id, ct)).1 (doO fa (wh, ob, k, s, cp, id, ct)).2 wy) from by
      obtain ⟨A', d', e, h1, h2⟩ := h
      cases e
      exact rdo_any fa A3 d3 (wh, ob, k, s, cp, id, ct) wy h1 h2 HI.out hci))
    obtain ⟨ro, hro⟩ : ∃ x, x = doO fa (wh, ob, k, s, cp, id, ct) := ⟨_, rfl⟩
    rw [← hro] at HD HE
    clear hro
    obtain ⟨r0, r1, r2, r3, r4, r5⟩ := K0.out.sixO
    obtain ⟨v0, v1, v2, v3, v4, v5, v6⟩ := K1.out.sevenO
    have HDw := Lib.hid (HD.out _ SA.out)
    go_wp2_with fail
    refine HDw.out.mono ?_
    rintro e w1 ⟨A5, d5, B5, c5, rfl, hs5, hx5, ht5, hc5, hm5, hb⟩
    have b1 : Below w1.heap.size w1 (w1.alloc (.cells (obA ro.1 A5 d5) 27)) := (Below.refl _ _).alloc (Nat.le_refl _) _
    have b2 := b1.alloc b1.size (.cells #[.int .i64 ro.2.1, .int .i64 ro.2.2.1, .slice B5 ro.2.2.2.length c5] 36)
    have hb2 := chain hb b2
    have u1 := Box.new (w1.alloc (.cells (obA ro.1 A5 d5) 27)) 36 #[.int .i64 ro.2.1, .int .i64 ro.2.2.1, .slice B5 ro.2.2.2.length c5]
    simp only [World.size_alloc] at u1
    have L0 := Lib.hid (K0.out.keep hb2)
    have L1 := Lib.hid (K1.out.keep hb2)
    have LO := Lib.hid ((Box.new w1 27 (obA ro.1 A5 d5)).alloc (.cells #[.int .i64 ro.2.1, .int .i64 ro.2.2.1, .slice B5 ro.2.2.2.length c5] 36))
    have LR := Lib.hid u1
    have TA := Lib.hid (SA.out.below hb2)
    have TO := Lib.hid (show ObAt _ (.agg (obA ro.1 A5 d5)) ro.1 from ⟨A5, d5, rfl, hs5, Recs.below hx5 b2⟩)
    have TR := Lib.hid (show RpAt _ (.agg #[.int .i64 ro.2.1, .int .i64 ro.2.2.1, .slice B5 ro.2.2.2.length c5]) ro.2 from ⟨B5, c5, rfl, ht5.below b2, hc5, hm5⟩)
    have HC := Lib.hid (K5.out.trans (hb2.mono K5.out.size))
    clear b1 b2 hb2 u1 hb hs5 hx5 ht5 hc5 hm5 HD HDw SA K0 K1 K5 r0 r1 r2 r3 r4 r5 v0 v1 v2 v3 v4 v5 v6
    obtain ⟨gO, hgO⟩ : ∃ y, y = w1.heap.size := ⟨_, rfl⟩
    rw [← hgO] at LO LR
    obtain ⟨wb, hwb⟩ : ∃ y, y = (w1.alloc (.cells (obA ro.1 A5 d5) 27)).alloc (.cells #[.int .i64 ro.2.1, .int .i64 ro.2.2.1, .slice B5 ro.2.2.2.length c5] 36) := ⟨_, rfl⟩
    rw [← hwb] at L0 L1 LO LR TA TO TR HC
    go_upto_region 3 with (fail)
    rw [← hgO, ← hwb]
    clear hgO hwb
    obtain ⟨r0, r1, r2, r3, r4, r5⟩ := L0.out.sixO
    obtain ⟨v0, v1, v2, v3, v4, v5, v6⟩ := L1.out.sevenO
    have HEw := Lib.hid (HE.out _ TA.out)
    go_wp2_with fail
    refine HEw.out.mono ?_
    rintro e w3 ⟨A6, d6, B6, c6, rfl, hs6, hx6, ht6, hb⟩
    have b1 : Below w3.heap.size w3 (w3.alloc (.cells #[.int .u64 (ro.1.1 : Nat), .int .i64 ro.1.2.1.1, .int .i64 ro.1.2.1.2.1, .int .i64 ro.1.2.1.2.2.1, .slice A6 ro.1.2.1.2.2.2.length d6, .int .i64 ro.1.2.2, .int .i64 ro.2.1, .int .i64 ro.2.2.1, .slice B6 ro.2.2.2.length c6] 40)) := (Below.refl _ _).alloc (Nat.le_refl _) _
    have hb2 := chain hb b1
    have MO := Lib.hid (LO.out.keep hb2)
    have MR := Lib.hid (LR.out.keep hb2)
    have MD := Lib.hid (Box.new w3 40 #[.int .u64 (ro.1.1 : Nat), .int .i64 ro.1.2.1.1, .int .i64 ro.1.2.1.2.1, .int .i64 ro.1.2.1.2.2.1, .slice A6 ro.1.2.1.2.2.2.length d6, .int .i64 ro.1.2.2, .int .i64 ro.2.1, .int .i64 ro.2.2.1, .slice B6 ro.2.2.2.length c6])
    have UO := Lib.hid (TO.out.below hb2)
    have UR := Lib.hid (TR.out.below hb2)
    have VO := Lib.hid (show ObAt _ (.agg (obA ro.1 A6 d6)) ro.1 from ⟨A6, d6, rfl, hs6, Recs.below hx6 b1⟩)
    have VR := Lib.hid (show RpW _ (.agg #[.int .i64 ro.2.1, .int .i64 ro.2.2.1, .slice B6 ro.2.2.2.length c6]) ro.2 from ⟨B6, c6, rfl, ht6.below b1⟩)
    have HG := Lib.hid (HC.out.trans (hb2.mono HC.out.size))
    clear b1 hb2 hb hs6 hx6 ht6 HE HEw TA TO TR L0 L1 LO LR HC r0 r1 r2 r3 r4 r5 v0 v1 v2 v3 v4 v5 v6
    obtain ⟨gD, hgD⟩ : ∃ y, y = w3.heap.size := ⟨_, rfl⟩
    rw [← hgD] at MD
    obtain ⟨wd, hwd⟩ : ∃ y, y = w3.alloc (.cells #[.int .u64 (ro.1.1 : Nat), .int .i64 ro.1.2.1.1, .int .i64 ro.1.2.1.2.1, .int .i64 ro.1.2.1.2.2.1, .slice A6 ro.1.2.1.2.2.2.length d6, .int .i64 ro.1.2.2, .int .i64 ro.2.1, .int .i64 ro.2.2.1, .slice B6 ro.2.2.2.length c6] 40) := ⟨_, rfl⟩
    rw [← hwd] at MO MR MD UO UR VO VR HG
    go_upto_region 4 with (fail)
    rw [← hgD, ← hwd]
    clear hgD hwd
    have hlo : likeO ro.1 ro.1 = true := by unfold likeO; simp
    have E1 := Lib.hid (fun w (hw : Below wd.heap.size wd w) => osame_any _ ro.1 _ ro.1 w (UO.out.below hw) (VO.out.below hw))
    have E2 := Lib.hid (fun w (hw : Below wd.heap.size wd w) => replies_w _ _ ro.2 w (UR.out.below hw) (VR.out.below hw))
    rw [hlo] at E1
    clear hlo
    go_wp2_with fail
    refine (alive18_any _).mono ?_
    rintro e x1 ⟨rfl, hb⟩
    have BC := Lib.hid hb
    clear hb
    obtain ⟨o0, o1, o2, o3, o4, o5⟩ := (MO.out.keep BC.out).sixO
    obtain ⟨u0, u1, u2, u3, u4, u5, u6, u7, u8⟩ := (MD.out.keep BC.out).nineD
    have E1w := Lib.hid (E1.out _ BC.out)
    go_wp2_with fail
    refine E1w.out.mono ?_
    rintro e x2 ⟨rfl, hb⟩
    replace BC := Lib.hid (chain BC.out hb)
    clear hb E1w o0 o1 o2 o3 o4 o5 u0 u1 u2 u3 u4 u5 u6 u7 u8
    obtain ⟨t0, t1, t2⟩ := (MR.out.keep BC.out).threeO
    obtain ⟨u0, u1, u2, u3, u4, u5, u6, u7, u8⟩ := (MD.out.keep BC.out).nineD
    have E2w := Lib.hid (E2.out _ BC.out)
    go_wp2_with fail
    refine E2w.out.mono ?_
    rintro e x3 ⟨rfl, hb⟩
    replace BC := Lib.hid (chain BC.out hb)
    clear hb E2w t0 t1 t2 u0 u1 u2 u3 u4 u5 u6 u7 u8
    go_wp2_with fail
    go_ret
    exact ⟨rfl, HG.out.trans (BC.out.mono HG.out.size)⟩
end
end Go.Proofs.YtcikoaeiopbbbaaGreat
