/- Parts: MmX, Open, OpenT. -/
import Derived.Test.YtljooknodnblbaaDoorZh
import Derived.Lib.SmallJoins
import Derived.OpenShut
import Derived.ProofKit
import Derived.SliceStrings
namespace Go.Proofs.YtljooknodnblbaaDoor
section
/- MatrixMuls: the walk. -/
set_option linter.unusedVariables false
set_option linter.unusedSimpArgs false
open Go.RowKit
theorem alive3_any (w : World) : Calls Tryd.prog 9 #[] w fun e w' => e = .returned (.bool true) ∧ Below w.heap.size w w' := by
  have HO := Lib.hid (one_any 3)
  have e1 : oneN 3 = 3 := by decide
  have e2 : (oneM 3).length = 3 := by rw [oneM, if_pos (by decide), oneL_len]; rfl
  have e3 : oneE 3 = 0 := by decide
  unfold MatRes at HO
  rw [e1, e2, e3] at HO
  clear e1 e2 e3
  go_enter Tryd.func9, Tryd.ntmps9
  go_wp2_with fail
  refine (HO.out _).mono ?_
  rintro e x1 ⟨A, c, rfl, -, hb⟩
  have Q := Lib.hid (Box.new x1 24 #[.int .i64 3, .slice A 3 c])
  have B := Lib.hid (hb.alloc hb.size (.cells #[.int .i64 3, .slice A 3 c] 24))
  clear hb
  obtain ⟨r0, r1, -, -⟩ := Q.out.two
  go_wp2_with fail
  go_ret
  exact ⟨rfl, B.out⟩
theorem two_mats {x : World} {g1 g2 : Nat} {t : TypeId} {i1 i2 j1 j2 : Int} {S1 S2 T1 T2 : Option Addr} {p1 q1 p2 q2 l1 c1 l2 c2 lo : Nat}
    (h1 : Box x g1 t #[.int .i64 i1, .slice S1 p1 q1]) (h2 : Box x g2 t #[.int .i64 i2, .slice S2 p2 q2]) (n12 : g1 ≠ g2)
    {w : World} (hb : Below w.heap.size w x) (b1 : w.heap.size ≤ g1) (b2 : w.heap.size ≤ g2) (k1 : g1 < lo) (k2 : g2 < lo)
    {ma mb : List (Int × List Nat)} (u1 : MatAt x lo T1 l1 ma) (u2 : MatAt x lo T2 l2 mb) :
    let y := (((x.setCell ⟨g1, 0, none⟩ (.int .i64 j1)).setCell ⟨g1, 1, none⟩ (.slice T1 l1 c1)).setCell ⟨g2, 0, none⟩ (.int .i64 j2)).setCell ⟨g2, 1, none⟩ (.slice T2 l2 c2)
    Box y g1 t #[.int .i64 j1, .slice T1 l1 c1] ∧ Box y g2 t #[.int .i64 j2, .slice T2 l2 c2] ∧ MatAt y lo T1 l1 ma ∧ MatAt y lo T2 l2 mb ∧ Below w.heap.size w y := by
  have r1 : Box ((x.setCell ⟨g1, 0, none⟩ (.int .i64 j1)).setCell ⟨g1, 1, none⟩ (.slice T1 l1 c1)) g1 t #[.int .i64 j1, .slice T1 l1 c1] := h1.put2
  have r2 := (h2.far (p := ⟨g1, 0, none⟩) n12.symm (.int .i64 j1)).far (p := ⟨g1, 1, none⟩) n12.symm (.slice T1 l1 c1)
  have v1 := u1.put2 (y := j1) h1 k1 (.slice T1 l1 c1)
  have v2 := u2.put2 (y := j1) h1 k1 (.slice T1 l1 c1)
  exact ⟨(r1.far (p := ⟨g2, 0, none⟩) n12 (.int .i64 j2)).far (p := ⟨g2, 1, none⟩) n12 (.slice T2 l2 c2), r2.put2, v1.put2 r2 k2 _, v2.put2 r2 k2 _,
    (((hb.setCell (p := ⟨g1, 0, none⟩) b1 _).setCell (p := ⟨g1, 1, none⟩) b1 _).setCell (p := ⟨g2, 0, none⟩) b2 _).setCell (p := ⟨g2, 1, none⟩) b2 _⟩
theorem rowLen_mul (n : Nat) (hn : n ≤ 64) {ks : List (Int × List Nat)} (hr : rightM n ks = true) (ms : List (Int × List Nat)) (i : Nat) : ((mulM n ks ms).getD i (0, [])).2.length ≤ 1000000 := by
  by_cases h : i < ms.length
  · rw [mulM_at n ks ms i h]
    have := right_len_eq (mulW_right hr (ms.getD i (0, [])).2)
    show (mulW n ks (ms.getD i (0, [])).2).length ≤ _
    rw [this, Int.toNat_natCast]; unfold nw; omega
  · have e : (mulM n ks ms)[i]? = none := List.getElem?_eq_none (by rw [mulM_len]; omega)
    simp [List.getD, e]
theorem refApply_int (n N : Int) (k : Nat) (A : Option Addr) (l c lo : Nat) (ms : List (Int × List Nat)) (L : Option Addr) (d : Nat) (ss : List ByteArray) (w : World) (hN : (k : Int) = N) (hm : MatAt w lo A l ms) (hr : rightM N ms = true) (ht : Texts w L k ss) (ho : okS n ss = true) :
    Calls Tryd.prog 15 #[.agg #[.int .i64 N, .slice A l c], .int .i64 n, .slice L k d] w (TextsOut (appR n N ms ss) w) := by
  obtain ⟨nn, rfl⟩ := Int.eq_ofNat_of_zero_le (show 0 ≤ n from by
    have h := ho
    simp only [okS, Bool.and_eq_true] at h
    exact ((smb_iff n).1 h.1.1).1)
  subst hN
  exact refApply_any nn k A l c lo ms L d ss w hm hr ht ho
theorem refMul_int (N M : Int) (k : Nat) (A : Option Addr) (l c lo : Nat) (ms : List (Int × List Nat)) (B : Option Addr) (d lo2 : Nat) (ks : List (Int × List Nat)) (w : World) (hN : N = (k : Int)) (hm : MatAt w lo A l ms) (hr : rightM N ms = true) (hm2 : MatAt w lo2 B k ks) (hr2 : rightM M ks = true) :
    Calls Tryd.prog 12 #[.agg #[.int .i64 N, .slice A l c], .agg #[.int .i64 M, .slice B k d]] w (MatOne M (mulM M.toNat ks ms) w) := by
  obtain ⟨mm, rfl⟩ := Int.eq_ofNat_of_zero_le (rightM_bd hr2).1
  subst hN
  exact refMul_any k mm A l c lo ms B d lo2 ks w hm hr hm2 hr2
theorem rowLen_mulI (M : Int) {ks : List (Int × List Nat)} (hr : rightM M ks = true) (ms : List (Int × List Nat)) (i : Nat) : ((mulM M.toNat ks ms).getD i (0, [])).2.length ≤ 1000000 := by
  obtain ⟨mm, rfl⟩ := Int.eq_ofNat_of_zero_le (rightM_bd hr).1
  exact rowLen_mul mm (by have := (rightM_bd hr).2.1; omega) hr ms i
set_option maxRecDepth 100000 in
set_option maxHeartbeats 16000000 in
theorem mmuls_walk (N M : Int) (A0 B0 : Option Addr) (l0 c0 k0 d0 : Nat) (ms0 ks0 : List (Int × List Nat)) (n : Int) (L0 : Option Addr) (t0 u0 : Nat) (ss0 : List ByteArray) (w : World)
    (s1 : SliceOk A0 l0 c0) (s2 : SliceOk B0 k0 d0) (s3 : SliceOk L0 t0 u0) (h1 : MatAt w 0 A0 l0 ms0) (h2 : MatAt w 0 B0 k0 ks0) (h3 : Texts w L0 t0 ss0) (hT : TabAt w 0) :
    Calls Tryd.prog 3 #[.agg #[.int .i64 N, .slice A0 l0 c0], .agg #[.int .i64 M, .slice B0 k0 d0], .int .i64 n, .slice L0 t0 u0] w fun e w' => e = .returned (.bool true) ∧ Below w.heap.size w w' := by
  have q0 := (Box.new w 24 #[.int .i64 N, .slice A0 l0 c0]).alloc (.cells #[.int .i64 M, .slice B0 k0 d0] 24)
  have q1 := Box.new (w.alloc (.cells #[.int .i64 N, .slice A0 l0 c0] 24)) 24 #[.int .i64 M, .slice B0 k0 d0]
  have hW : Below w.heap.size w ((w.alloc (.cells #[.int .i64 N, .slice A0 l0 c0] 24)).alloc (.cells #[.int .i64 M, .slice B0 k0 d0] 24)) := ((Below.refl _ _).alloc (Nat.le_refl _) _).alloc (by simp) _
  simp only [World.size_alloc] at q1
  have HT0 := Lib.hid hT
  go_enter Tryd.func3, Tryd.ntmps3
  go_wp2_with fail
  generalize hW0 : (w.alloc (.cells #[.int .i64 N, .slice A0 l0 c0] 24)).alloc (.cells #[.int .i64 M, .slice B0 k0 d0] 24) = W at *
  clear hW0 hT
  have hz := q1.lt
  have Q0 := Lib.hid q0
  have Q1 := Lib.hid q1
  have HW := Lib.hid hW
  have H1 := Lib.hid (h1.below hW)
  have H2 := Lib.hid (h2.below hW)
  have H3 := Lib.hid (h3.below hW)
  obtain ⟨a0, a1, -, -⟩ := q0.two
  obtain ⟨b0, b1, -, -⟩ := q1.two
  clear q0 q1 hW h1 h2 h3
  go_cut [3] (fun s3 wx => ∃ A l c B k d L t u, s3 = .slice L t u ∧ t ≤ u ∧ u ≤ maxLen ∧ Box wx w.heap.size 24 #[.int .i64 N, .slice A l c] ∧ Box wx (w.heap.size + 1) 24 #[.int .i64 M, .slice B k d] ∧ MatAt wx (w.heap.size + 2) A l (fewM ms0) ∧ MatAt wx (w.heap.size + 2) B k (fewM ks0) ∧ Texts wx L t (cuts ss0 66) ∧ Below w.heap.size w wx)
  case first =>
    go_region_with (first
      | (go_at_call_of 5 (Value.agg #[.int .i64 N, .slice A0 l0 c0]); refine (few3_any N A0 l0 c0 ms0 _ s1 (by exact H1.out)).mono ?_; rintro e1 x1 ⟨A1, d1, rfl, hw1, hb1⟩; have P0 := Lib.hid (Q0.out.drew.keep hb1); have P1 := Lib.hid (Q1.out.drew.keep hb1); have J2 := Lib.hid (H2.out.drew.below hb1); have J3 := Lib.hid ((show Texts W.drew L0 t0 ss0 from H3.out).below hb1); have T1 := Lib.hid (chain HW.out.drew hb1); have hx1 : W.heap.size ≤ x1.heap.size := hb1.size; have hw1 := Lib.hid hw1; clear hb1; obtain ⟨z0, z1, -, -⟩ := P1.out.two)
      | (go_at_call_of 5 (Value.agg #[.int .i64 M, .slice B0 k0 d0]); refine (few3_any M B0 k0 d0 ks0 _ s2 (by exact J2.out)).mono ?_; rintro e2 x2 ⟨A2, d2, rfl, hw2, hb2⟩; have P0 := Lib.hid (P0.out.keep hb2); have P1 := Lib.hid (P1.out.keep hb2); have J1 := Lib.hid (hw1.out.below hb2); have J2 := Lib.hid hw2; have J3 := Lib.hid (J3.out.below hb2); have T2 := Lib.hid (chain T1.out hb2); have hx2 : x1.heap.size ≤ x2.heap.size := hb2.size; clear hb2 hw2)
      | (go_at_call 6; refine (blocks3_any L0 t0 u0 ss0 _ (by exact J3.out) s3).mono ?_; rintro e3 x3 ⟨A3, d3, rfl, q1, q2, q3, hb3⟩; have P0 := Lib.hid (P0.out.keep hb3); have P1 := Lib.hid (P1.out.keep hb3); have J1 := Lib.hid (J1.out.below hb3); have J2 := Lib.hid (J2.out.below hb3); have J3 := Lib.hid q3; have T3 := Lib.hid (chain T2.out hb3); clear hb3 q3; obtain ⟨k6, k7, f0, f1⟩ := P0.out.two; obtain ⟨k8, k9, f2, f3⟩ := P1.out.two))
    all_goals
      go_wp2_with fail
      go_meet
      have hTm := two_mats (j1 := N) (j2 := M) (c1 := d1) (c2 := d2) P0.out P1.out (by omega) T3.out (by omega) (by omega) (show w.heap.size < w.heap.size + 2 by omega) (show w.heap.size + 1 < w.heap.size + 2 by omega) (J1.out.low (by simp; omega)) (J2.out.low (by omega))
      exact ⟨A1, _, d1, A2, _, d2, A3, _, d3, rfl, q1, q2, hTm.1, hTm.2.1, hTm.2.2.1, hTm.2.2.2.1, ((J3.out.far P0.out 0 _).far (P0.out.put 0 _) 1 _ |>.far (P1.out.far (p := ⟨w.heap.size, 0, none⟩) (by simp) _ |>.far (p := ⟨w.heap.size, 1, none⟩) (by simp) _) 0 _).far ((P1.out.far (p := ⟨w.heap.size, 0, none⟩) (by simp) _ |>.far (p := ⟨w.heap.size, 1, none⟩) (by simp) _).put 0 _) 1 _, hTm.2.2.2.2⟩
  case rest =>
    obtain ⟨A, l, c, B, k, d, L, t, u, rfl, htu, hu, Ka, Kb, Ja, Jb, Jt, KB⟩ := hcut
    clear H1 H2 H3 Q0 Q1 HW a0 a1 b0 b1 s1 s2 s3
    have hl66 : l ≤ 66 := by have := Ja.1; have := fewM_len ms0; omega
    have hk66 : k ≤ 66 := by have := Jb.1; have := fewM_len ks0; omega
    have HX := Lib.hid (HT0.out.below KB)
    generalize fewM ms0 = ms at *
    generalize fewM ks0 = ks at *
    generalize cuts ss0 66 = ss at *
    have HL := Lib.hid Ja.1
    have HLk := Lib.hid Jb.1
    have HLt := Lib.hid Jt.1
    have hum : t ≤ maxLen := by omega
    have Qa := Lib.hid Ka
    have Qb := Lib.hid Kb
    have Ha := Lib.hid Ja
    have Hb := Lib.hid Jb
    have Ht := Lib.hid Jt
    have HB := Lib.hid KB
    clear Ka Kb Ja Jb Jt KB HT0
    obtain ⟨y0, y1, -, -⟩ := Qa.out.two
    obtain ⟨z0, z1, -, -⟩ := Qb.out.two
    have HML := Lib.hid (show l ≤ maxLen by unfold maxLen; omega)
    have HMK := Lib.hid (show k ≤ maxLen by unfold maxLen; omega)
    go_wp2_with fail
    refine (mul_any N M A l c _ ms B k d _ ks _ Ha.out HML.out Hb.out HMK.out HX.out).mono ?_
    rintro e x1 ⟨T7, d7, rfl, hm7, hb⟩
    clear y0 y1 z0 z1
    have H7 := Lib.hid (hm7)
    have Qa := Lib.hid (Qa.out.keep hb)
    have Qb := Lib.hid (Qb.out.keep hb)
    have Ha := Lib.hid (Ha.out.below hb)
    have Hb := Lib.hid (Hb.out.below hb)
    have Ht := Lib.hid (Ht.out.below hb)
    have HX := Lib.hid (HX.out.below hb)
    have HB := Lib.hid (chain HB.out hb)
    clear hb
    clear hm7
    have hal : Below x1.heap.size x1 (x1.alloc (.cells #[.int .i64 (mulN N ms M ks), .slice T7 (mulL N ms M ks).length d7] 24)) := (Below.refl _ _).alloc (Nat.le_refl _) _
    have Qa := Lib.hid (Qa.out.keep hal)
    have Qb := Lib.hid (Qb.out.keep hal)
    have Ha := Lib.hid (Ha.out.below hal)
    have Hb := Lib.hid (Hb.out.below hal)
    have Ht := Lib.hid (Ht.out.below hal)
    have HX := Lib.hid (HX.out.below hal)
    have H7 := Lib.hid (H7.out.below hal)
    have HB := Lib.hid (chain HB.out hal)
    have Q7 := Lib.hid (Box.new x1 24 #[.int .i64 (mulN N ms M ks), .slice T7 (mulL N ms M ks).length d7])
    clear hal
    obtain ⟨y0, y1, -, -⟩ := Qa.out.two
    obtain ⟨z0, z1, -, -⟩ := Qb.out.two
    obtain ⟨v0, v1, -, -⟩ := Q7.out.two
    go_wp2_with fail
    refine (apply_any n N A l c _ ms L t u ss _ Ha.out HML.out Ht.out htu hu HX.out).mono ?_
    rintro e x2 ⟨T8, d8, rfl, hq1, hq2, hm8, hb⟩
    clear y0 y1 z0 z1 v0 v1
    have H8 := Lib.hid (hm8)
    have Qa := Lib.hid (Qa.out.keep hb)
    have Qb := Lib.hid (Qb.out.keep hb)
    have Ha := Lib.hid (Ha.out.below hb)
    have Hb := Lib.hid (Hb.out.below hb)
    have Ht := Lib.hid (Ht.out.below hb)
    have HX := Lib.hid (HX.out.below hb)
    have H7 := Lib.hid (H7.out.below hb)
    have Q7 := Lib.hid (Q7.out.keep hb)
    have HB := Lib.hid (chain HB.out hb)
    clear hb
    clear hm8
    obtain ⟨y0, y1, -, -⟩ := Qa.out.two
    obtain ⟨z0, z1, -, -⟩ := Qb.out.two
    obtain ⟨v0, v1, -, -⟩ := Q7.out.two
    go_wp2_with fail
    refine (alive3_any _).mono ?_
    rintro e x3 ⟨rfl, hb⟩
    clear y0 y1 z0 z1 v0 v1
    have Qa := Lib.hid (Qa.out.keep hb)
    have Qb := Lib.hid (Qb.out.keep hb)
    have Ha := Lib.hid (Ha.out.below hb)
    have Hb := Lib.hid (Hb.out.below hb)
    have Ht := Lib.hid (Ht.out.below hb)
    have HX := Lib.hid (HX.out.below hb)
    have H7 := Lib.hid (H7.out.below hb)
    have Q7 := Lib.hid (Q7.out.keep hb)
    have H8 := Lib.hid (H8.out.below hb)
    have HB := Lib.hid (chain HB.out hb)
    clear hb
    obtain ⟨y0, y1, -, -⟩ := Qa.out.two
    obtain ⟨z0, z1, -, -⟩ := Qb.out.two
    obtain ⟨v0, v1, -, -⟩ := Q7.out.two
    go_wp2_with fail
    cases hRa : rightM N ms with
    | false =>
      have HmE := Lib.hid (show mulE N ms M ks = 1 by simp [mulE, hRa])
      have HmN := Lib.hid (show mulN N ms M ks = 0 by simp [mulN, mulB, hRa])
      have HmL := Lib.hid (show mulL N ms M ks = [] by simp [mulL, mulB, hRa])
      have HaE := Lib.hid (show appE n N ms ss = 1 by simp [appE, hRa])
      have HaL := Lib.hid (show (appL n N ms ss).length = 0 by simp [appL, appB, hRa])
      have HRa := Lib.hid hRa
      clear hRa
      rw [HaE.out, HaL.out]
      rw [HmE.out]
      rw [HmN.out, HmL.out] at Q7
      rw [HmL.out] at H7
      clear v0 v1
      obtain ⟨v0, v1, -, -⟩ := Q7.out.two
      go_wp2_with fail
      refine (refRightM_any N A l c _ ms _ Ha.out HML.out).mono ?_
      rintro e x4 ⟨rfl, hb⟩
      rw [HRa.out]
      clear y0 y1 z0 z1 v0 v1
      have Qa := Lib.hid (Qa.out.keep hb)
      have Qb := Lib.hid (Qb.out.keep hb)
      have Ha := Lib.hid (Ha.out.below hb)
      have Hb := Lib.hid (Hb.out.below hb)
      have Ht := Lib.hid (Ht.out.below hb)
      have HX := Lib.hid (HX.out.below hb)
      have H7 := Lib.hid (H7.out.below hb)
      have Q7 := Lib.hid (Q7.out.keep hb)
      have H8 := Lib.hid (H8.out.below hb)
      have HB := Lib.hid (chain HB.out hb)
      clear hb
      obtain ⟨y0, y1, -, -⟩ := Qa.out.two
      obtain ⟨z0, z1, -, -⟩ := Qb.out.two
      obtain ⟨v0, v1, -, -⟩ := Q7.out.two
      go_wp2_with fail
      refine (same3_any 0 0 T7 none 0 0 d7 0 _ 0 [] [] _ H7.out (MatAt.nil _ _ _) (by omega) (by simp)).mono ?_
      rintro e x5 ⟨rfl, hb⟩
      rw [sameM_self]
      clear y0 y1 z0 z1 v0 v1
      have Qa := Lib.hid (Qa.out.keep hb)
      have Qb := Lib.hid (Qb.out.keep hb)
      have Ha := Lib.hid (Ha.out.below hb)
      have Hb := Lib.hid (Hb.out.below hb)
      have Ht := Lib.hid (Ht.out.below hb)
      have HX := Lib.hid (HX.out.below hb)
      have H7 := Lib.hid (H7.out.below hb)
      have Q7 := Lib.hid (Q7.out.keep hb)
      have H8 := Lib.hid (H8.out.below hb)
      have HB := Lib.hid (chain HB.out hb)
      clear hb
      obtain ⟨y0, y1, -, -⟩ := Qa.out.two
      obtain ⟨z0, z1, -, -⟩ := Qb.out.two
      obtain ⟨v0, v1, -, -⟩ := Q7.out.two
      go_wp2_with fail
      refine (refRightM_any N A l c _ ms _ Ha.out HML.out).mono ?_
      rintro e x6 ⟨rfl, hb⟩
      rw [HRa.out]
      clear y0 y1 z0 z1 v0 v1
      have Qa := Lib.hid (Qa.out.keep hb)
      have Qb := Lib.hid (Qb.out.keep hb)
      have Ha := Lib.hid (Ha.out.below hb)
      have Hb := Lib.hid (Hb.out.below hb)
      have Ht := Lib.hid (Ht.out.below hb)
      have HX := Lib.hid (HX.out.below hb)
      have H7 := Lib.hid (H7.out.below hb)
      have Q7 := Lib.hid (Q7.out.keep hb)
      have H8 := Lib.hid (H8.out.below hb)
      have HB := Lib.hid (chain HB.out hb)
      clear hb
      obtain ⟨y0, y1, -, -⟩ := Qa.out.two
      obtain ⟨z0, z1, -, -⟩ := Qb.out.two
      obtain ⟨v0, v1, -, -⟩ := Q7.out.two
      go_wp2_with fail
      go_ret
      exact ⟨rfl, HB.out⟩
    | true =>
      have HRa := Lib.hid hRa
      cases hRb : rightM M ks with
      | false =>
        have HmE := Lib.hid (show mulE N ms M ks = 1 by simp [mulE, hRb])
        have HmN := Lib.hid (show mulN N ms M ks = 0 by simp [mulN, mulB, hRb])
        have HmL := Lib.hid (show mulL N ms M ks = [] by simp [mulL, mulB, hRb])
        have HRb := Lib.hid hRb
        clear hRa hRb
        rw [HmE.out]
        rw [HmN.out, HmL.out] at Q7
        rw [HmL.out] at H7
        clear v0 v1
        obtain ⟨v0, v1, -, -⟩ := Q7.out.two
        go_wp2_with fail
        refine (refRightM_any N A l c _ ms _ Ha.out HML.out).mono ?_
        rintro e x4 ⟨rfl, hb⟩
        rw [HRa.out]
        clear y0 y1 z0 z1 v0 v1
        have Qa := Lib.hid (Qa.out.keep hb)
        have Qb := Lib.hid (Qb.out.keep hb)
        have Ha := Lib.hid (Ha.out.below hb)
        have Hb := Lib.hid (Hb.out.below hb)
        have Ht := Lib.hid (Ht.out.below hb)
        have HX := Lib.hid (HX.out.below hb)
        have H7 := Lib.hid (H7.out.below hb)
        have Q7 := Lib.hid (Q7.out.keep hb)
        have H8 := Lib.hid (H8.out.below hb)
        have HB := Lib.hid (chain HB.out hb)
        clear hb
        obtain ⟨y0, y1, -, -⟩ := Qa.out.two
        obtain ⟨z0, z1, -, -⟩ := Qb.out.two
        obtain ⟨v0, v1, -, -⟩ := Q7.out.two
        go_wp2_with fail
        refine (refRightM_any M B k d _ ks _ Hb.out HMK.out).mono ?_
        rintro e x5 ⟨rfl, hb⟩
        rw [HRb.out]
        clear y0 y1 z0 z1 v0 v1
        have Qa := Lib.hid (Qa.out.keep hb)
        have Qb := Lib.hid (Qb.out.keep hb)
        have Ha := Lib.hid (Ha.out.below hb)
        have Hb := Lib.hid (Hb.out.below hb)
        have Ht := Lib.hid (Ht.out.below hb)
        have HX := Lib.hid (HX.out.below hb)
        have H7 := Lib.hid (H7.out.below hb)
        have Q7 := Lib.hid (Q7.out.keep hb)
        have H8 := Lib.hid (H8.out.below hb)
        have HB := Lib.hid (chain HB.out hb)
        clear hb
        obtain ⟨y0, y1, -, -⟩ := Qa.out.two
        obtain ⟨z0, z1, -, -⟩ := Qb.out.two
        obtain ⟨v0, v1, -, -⟩ := Q7.out.two
        go_wp2_with fail
        refine (same3_any 0 0 T7 none 0 0 d7 0 _ 0 [] [] _ H7.out (MatAt.nil _ _ _) (by omega) (by simp)).mono ?_
        rintro e x6 ⟨rfl, hb⟩
        rw [sameM_self]
        clear y0 y1 z0 z1 v0 v1
        have Qa := Lib.hid (Qa.out.keep hb)
        have Qb := Lib.hid (Qb.out.keep hb)
        have Ha := Lib.hid (Ha.out.below hb)
        have Hb := Lib.hid (Hb.out.below hb)
        have Ht := Lib.hid (Ht.out.below hb)
        have HX := Lib.hid (HX.out.below hb)
        have H7 := Lib.hid (H7.out.below hb)
        have Q7 := Lib.hid (Q7.out.keep hb)
        have H8 := Lib.hid (H8.out.below hb)
        have HB := Lib.hid (chain HB.out hb)
        clear hb
        obtain ⟨y0, y1, -, -⟩ := Qa.out.two
        obtain ⟨z0, z1, -, -⟩ := Qb.out.two
        obtain ⟨v0, v1, -, -⟩ := Q7.out.two
        cases ho : okS n ss with
        | false =>
          have HaE := Lib.hid (show appE n N ms ss = 2 by simp [appE, HRa.out, ho])
          have HaL := Lib.hid (show (appL n N ms ss).length = 0 by simp [appL, appB, ho])
          have HWy := Lib.hid (sumE_no ho)
          clear ho
          rw [HaE.out, HaL.out]
          go_wp2_with fail
          refine (refRightM_any N A l c _ ms _ Ha.out HML.out).mono ?_
          rintro e x7 ⟨rfl, hb⟩
          rw [HRa.out]
          clear y0 y1 z0 z1 v0 v1
          have Qa := Lib.hid (Qa.out.keep hb)
          have Qb := Lib.hid (Qb.out.keep hb)
          have Ha := Lib.hid (Ha.out.below hb)
          have Hb := Lib.hid (Hb.out.below hb)
          have Ht := Lib.hid (Ht.out.below hb)
          have HX := Lib.hid (HX.out.below hb)
          have H7 := Lib.hid (H7.out.below hb)
          have Q7 := Lib.hid (Q7.out.keep hb)
          have H8 := Lib.hid (H8.out.below hb)
          have HB := Lib.hid (chain HB.out hb)
          clear hb
          obtain ⟨y0, y1, -, -⟩ := Qa.out.two
          obtain ⟨z0, z1, -, -⟩ := Qb.out.two
          obtain ⟨v0, v1, -, -⟩ := Q7.out.two
          go_wp2_with fail
          refine (why_any n L t u ss _ Ht.out hum).mono ?_
          rintro e u8 ⟨rfl, rfl⟩
          rw [HWy.out]
          go_wp2_with fail
          go_ret
          exact ⟨rfl, HB.out⟩
        | true =>
          have HWy := Lib.hid (sumE_ok ho)
          by_cases hN2 : (t : Int) = N
          · have HaE := Lib.hid (show appE n N ms ss = 0 by simp [appE, HRa.out, ho, HLt.out, hN2])
            have HaL := Lib.hid (show appL n N ms ss = appR n N ms ss by simp [appL, appB, HRa.out, ho, HLt.out, hN2])
            have HRL := Lib.hid (show (appR n N ms ss).length ≤ 1000000 by rw [appR_len, HL.out]; omega)
            have HOk := Lib.hid ho
            have HN2 := Lib.hid hN2
            have tt : (((t : Nat) : Int) != N) = false := by simpa using hN2
            clear ho hN2
            rw [HaL.out] at H8
            rw [HaE.out, HaL.out]
            go_wp2_with fail
            refine (refRightM_any N A l c _ ms _ Ha.out HML.out).mono ?_
            rintro e x7 ⟨rfl, hb⟩
            rw [HRa.out]
            clear y0 y1 z0 z1 v0 v1
            have Qa := Lib.hid (Qa.out.keep hb)
            have Qb := Lib.hid (Qb.out.keep hb)
            have Ha := Lib.hid (Ha.out.below hb)
            have Hb := Lib.hid (Hb.out.below hb)
            have Ht := Lib.hid (Ht.out.below hb)
            have HX := Lib.hid (HX.out.below hb)
            have H7 := Lib.hid (H7.out.below hb)
            have Q7 := Lib.hid (Q7.out.keep hb)
            have H8 := Lib.hid (H8.out.below hb)
            have HB := Lib.hid (chain HB.out hb)
            clear hb
            obtain ⟨y0, y1, -, -⟩ := Qa.out.two
            obtain ⟨z0, z1, -, -⟩ := Qb.out.two
            obtain ⟨v0, v1, -, -⟩ := Q7.out.two
            go_wp2_with fail
            refine (why_any n L t u ss _ Ht.out hum).mono ?_
            rintro e u8 ⟨rfl, rfl⟩
            rw [HWy.out]
            go_wp2_with fail
            refine (refApply_int n N t A l c _ ms L u ss _ HN2.out Ha.out HRa.out Ht.out HOk.out).mono ?_
            rintro e x9 ⟨T9, d9, rfl, hr1, hr2, hm9, hb⟩
            clear y0 y1 z0 z1 v0 v1
            have H9 := Lib.hid (hm9)
            have Qa := Lib.hid (Qa.out.keep hb)
            have Qb := Lib.hid (Qb.out.keep hb)
            have Ha := Lib.hid (Ha.out.below hb)
            have Hb := Lib.hid (Hb.out.below hb)
            have Ht := Lib.hid (Ht.out.below hb)
            have HX := Lib.hid (HX.out.below hb)
            have H7 := Lib.hid (H7.out.below hb)
            have Q7 := Lib.hid (Q7.out.keep hb)
            have H8 := Lib.hid (H8.out.below hb)
            have HB := Lib.hid (chain HB.out hb)
            clear hb
            clear hm9
            obtain ⟨y0, y1, -, -⟩ := Qa.out.two
            obtain ⟨z0, z1, -, -⟩ := Qb.out.two
            obtain ⟨v0, v1, -, -⟩ := Q7.out.two
            go_wp2_with fail
            refine (refTexts_same T8 T9 _ d8 d9 _ _ H8.out H9.out HRL.out).mono ?_
            rintro e x10 ⟨rfl, hb⟩
            clear y0 y1 z0 z1 v0 v1
            have Qa := Lib.hid (Qa.out.keep hb)
            have Qb := Lib.hid (Qb.out.keep hb)
            have Ha := Lib.hid (Ha.out.below hb)
            have Hb := Lib.hid (Hb.out.below hb)
            have Ht := Lib.hid (Ht.out.below hb)
            have HX := Lib.hid (HX.out.below hb)
            have H7 := Lib.hid (H7.out.below hb)
            have Q7 := Lib.hid (Q7.out.keep hb)
            have H8 := Lib.hid (H8.out.below hb)
            have H9 := Lib.hid (H9.out.below hb)
            have HB := Lib.hid (chain HB.out hb)
            clear hb
            obtain ⟨y0, y1, -, -⟩ := Qa.out.two
            obtain ⟨z0, z1, -, -⟩ := Qb.out.two
            obtain ⟨v0, v1, -, -⟩ := Q7.out.two
            go_wp2_with fail
            go_ret
            exact ⟨rfl, HB.out⟩
          · have HaE := Lib.hid (show appE n N ms ss = 2 by simp [appE, HRa.out, ho, HLt.out, hN2])
            have HaL := Lib.hid (show (appL n N ms ss).length = 0 by simp [appL, appB, HLt.out, hN2])
            have tt : (((t : Nat) : Int) != N) = true := by simpa using hN2
            clear ho hN2
            rw [HaE.out, HaL.out]
            go_wp2_with fail
            refine (refRightM_any N A l c _ ms _ Ha.out HML.out).mono ?_
            rintro e x7 ⟨rfl, hb⟩
            rw [HRa.out]
            clear y0 y1 z0 z1 v0 v1
            have Qa := Lib.hid (Qa.out.keep hb)
            have Qb := Lib.hid (Qb.out.keep hb)
            have Ha := Lib.hid (Ha.out.below hb)
            have Hb := Lib.hid (Hb.out.below hb)
            have Ht := Lib.hid (Ht.out.below hb)
            have HX := Lib.hid (HX.out.below hb)
            have H7 := Lib.hid (H7.out.below hb)
            have Q7 := Lib.hid (Q7.out.keep hb)
            have H8 := Lib.hid (H8.out.below hb)
            have HB := Lib.hid (chain HB.out hb)
            clear hb
            obtain ⟨y0, y1, -, -⟩ := Qa.out.two
            obtain ⟨z0, z1, -, -⟩ := Qb.out.two
            obtain ⟨v0, v1, -, -⟩ := Q7.out.two
            go_wp2_with fail
            refine (why_any n L t u ss _ Ht.out hum).mono ?_
            rintro e u8 ⟨rfl, rfl⟩
            rw [HWy.out]
            go_wp2_with fail
            go_ret
            exact ⟨rfl, HB.out⟩
      | true =>
        have HRb := Lib.hid hRb
        by_cases hN : N = k
        · have hB : mulB N ms M ks = true := by
            simp only [mulB, hRa, hRb, Bool.true_and]
            rw [HLk.out, hN]; simp
          have HmE := Lib.hid (show mulE N ms M ks = 0 by
            have e : (N == (ks.length : Int)) = true := by rw [HLk.out, hN]; simp
            simp [mulE, hRa, hRb, e])
          have HmN := Lib.hid (show mulN N ms M ks = M by simp [mulN, hB])
          have HmL := Lib.hid (show mulL N ms M ks = mulM M.toNat ks ms by simp [mulL, hB])
          have HRM := Lib.hid (fun i => rowLen_mulI M hRb ms i)
          have HTL := Lib.hid (show (mulM M.toNat ks ms).length ≤ 1000000 by rw [mulM_len, HL.out]; omega)
          have HN1 := Lib.hid hN
          have tn : (N != ((k : Nat) : Int)) = false := by simpa using hN
          clear hRa hRb hN hB
          rw [HmE.out]
          rw [HmN.out, HmL.out] at Q7
          rw [HmL.out] at H7
          clear v0 v1
          obtain ⟨v0, v1, -, -⟩ := Q7.out.two
          go_wp2_with fail
          refine (refRightM_any N A l c _ ms _ Ha.out HML.out).mono ?_
          rintro e x4 ⟨rfl, hb⟩
          rw [HRa.out]
          clear y0 y1 z0 z1 v0 v1
          have Qa := Lib.hid (Qa.out.keep hb)
          have Qb := Lib.hid (Qb.out.keep hb)
          have Ha := Lib.hid (Ha.out.below hb)
          have Hb := Lib.hid (Hb.out.below hb)
          have Ht := Lib.hid (Ht.out.below hb)
          have HX := Lib.hid (HX.out.below hb)
          have H7 := Lib.hid (H7.out.below hb)
          have Q7 := Lib.hid (Q7.out.keep hb)
          have H8 := Lib.hid (H8.out.below hb)
          have HB := Lib.hid (chain HB.out hb)
          clear hb
          obtain ⟨y0, y1, -, -⟩ := Qa.out.two
          obtain ⟨z0, z1, -, -⟩ := Qb.out.two
          obtain ⟨v0, v1, -, -⟩ := Q7.out.two
          go_wp2_with fail
          refine (refRightM_any M B k d _ ks _ Hb.out HMK.out).mono ?_
          rintro e x5 ⟨rfl, hb⟩
          rw [HRb.out]
          clear y0 y1 z0 z1 v0 v1
          have Qa := Lib.hid (Qa.out.keep hb)
          have Qb := Lib.hid (Qb.out.keep hb)
          have Ha := Lib.hid (Ha.out.below hb)
          have Hb := Lib.hid (Hb.out.below hb)
          have Ht := Lib.hid (Ht.out.below hb)
          have HX := Lib.hid (HX.out.below hb)
          have H7 := Lib.hid (H7.out.below hb)
          have Q7 := Lib.hid (Q7.out.keep hb)
          have H8 := Lib.hid (H8.out.below hb)
          have HB := Lib.hid (chain HB.out hb)
          clear hb
          obtain ⟨y0, y1, -, -⟩ := Qa.out.two
          obtain ⟨z0, z1, -, -⟩ := Qb.out.two
          obtain ⟨v0, v1, -, -⟩ := Q7.out.two
          go_wp2_with fail
          go_region_held3 (fun w' => w'.cell? ⟨w.heap.size, 0, none⟩ = some (.int .i64 N) ∧ w'.cell? ⟨w.heap.size, 1, none⟩ = some (.slice A l c) ∧ w'.cell? ⟨w.heap.size + 1, 0, none⟩ = some (.int .i64 M) ∧ w'.cell? ⟨w.heap.size + 1, 1, none⟩ = some (.slice B k d) ∧ w'.cell? ⟨x1.heap.size, 0, none⟩ = some (.int .i64 M) ∧ w'.cell? ⟨x1.heap.size, 1, none⟩ = some (.slice T7 (mulM M.toNat ks ms).length d7)) (go_keep)
            (first
              | (go_at_call 12; refine (refMul_int N M k A l c _ ms B d _ ks _ HN1.out Ha.out.drew HRa.out Hb.out.drew HRb.out).mono ?_; rintro f1 y1 ⟨T9, d9, rfl, hm9, hb⟩; have Qa1 := Lib.hid (Qa.out.drew.keep hb); have Qb1 := Lib.hid (Qb.out.drew.keep hb); have Ha1 := Lib.hid (Ha.out.drew.below hb); have Hb1 := Lib.hid (Hb.out.drew.below hb); have Ht1 := Lib.hid (Ht.out.drewT.below hb); have HX1 := Lib.hid ((show TabAt (World.drew _) 0 from HX.out).below hb); have H71 := Lib.hid (H7.out.drew.below hb); have Q71 := Lib.hid (Q7.out.drew.keep hb); have H81 := Lib.hid (H8.out.drewT.below hb); have HB1 := Lib.hid (chainN HB.out.drew HB.out.size hb); have H91 := Lib.hid (hm9); clear hb; obtain ⟨y01, y11, -, -⟩ := Qa1.out.two; obtain ⟨z01, z11, -, -⟩ := Qb1.out.two; obtain ⟨v01, v11, -, -⟩ := Q71.out.two)
              | (go_at_call 11; refine (same3_any M M T7 T9 _ _ d7 d9 _ _ (mulM M.toNat ks ms) (mulM M.toNat ks ms) _ H71.out H91.out HTL.out HRM.out).mono ?_; rintro f2 y2 ⟨rfl, hb⟩; rw [sameM_self]; have Qa2 := Lib.hid (Qa1.out.keep hb); have Qb2 := Lib.hid (Qb1.out.keep hb); have Ha2 := Lib.hid (Ha1.out.below hb); have Hb2 := Lib.hid (Hb1.out.below hb); have Ht2 := Lib.hid (Ht1.out.below hb); have HX2 := Lib.hid (HX1.out.below hb); have H72 := Lib.hid (H71.out.below hb); have Q72 := Lib.hid (Q71.out.keep hb); have H82 := Lib.hid (H81.out.below hb); have HB2 := Lib.hid (chainN HB1.out HB1.out.size hb); have H92 := Lib.hid (H91.out.below hb); clear hb; obtain ⟨y02, y12, -, -⟩ := Qa2.out.two; obtain ⟨z02, z12, -, -⟩ := Qb2.out.two; obtain ⟨v02, v12, -, -⟩ := Q72.out.two))
          clear Qa Qb Ha Hb Ht HX H7 Q7 H8 HB
          have Qa := Lib.hid Qa2.out
          have Qb := Lib.hid Qb2.out
          have Ha := Lib.hid Ha2.out
          have Hb := Lib.hid Hb2.out
          have Ht := Lib.hid Ht2.out
          have HX := Lib.hid HX2.out
          have H7 := Lib.hid H72.out
          have Q7 := Lib.hid Q72.out
          have H8 := Lib.hid H82.out
          have HB := Lib.hid HB2.out
          obtain ⟨y0, y1, -, -⟩ := Qa.out.two
          obtain ⟨z0, z1, -, -⟩ := Qb.out.two
          obtain ⟨v0, v1, -, -⟩ := Q7.out.two
          cases ho : okS n ss with
          | false =>
            have HaE := Lib.hid (show appE n N ms ss = 2 by simp [appE, HRa.out, ho])
            have HaL := Lib.hid (show (appL n N ms ss).length = 0 by simp [appL, appB, ho])
            have HWy := Lib.hid (sumE_no ho)
            clear ho
            rw [HaE.out, HaL.out]
            go_wp2_with fail
            refine (refRightM_any N A l c _ ms _ Ha.out HML.out).mono ?_
            rintro e x6 ⟨rfl, hb⟩
            rw [HRa.out]
            clear y0 y1 z0 z1 v0 v1
            have Qa := Lib.hid (Qa.out.keep hb)
            have Qb := Lib.hid (Qb.out.keep hb)
            have Ha := Lib.hid (Ha.out.below hb)
            have Hb := Lib.hid (Hb.out.below hb)
            have Ht := Lib.hid (Ht.out.below hb)
            have HX := Lib.hid (HX.out.below hb)
            have H7 := Lib.hid (H7.out.below hb)
            have Q7 := Lib.hid (Q7.out.keep hb)
            have H8 := Lib.hid (H8.out.below hb)
            have HB := Lib.hid (chain HB.out hb)
            clear hb
            obtain ⟨y0, y1, -, -⟩ := Qa.out.two
            obtain ⟨z0, z1, -, -⟩ := Qb.out.two
            obtain ⟨v0, v1, -, -⟩ := Q7.out.two
            go_wp2_with fail
            refine (why_any n L t u ss _ Ht.out hum).mono ?_
            rintro e u7 ⟨rfl, rfl⟩
            rw [HWy.out]
            go_wp2_with fail
            go_ret
            exact ⟨rfl, HB.out⟩
          | true =>
            have HWy := Lib.hid (sumE_ok ho)
            by_cases hN2 : (t : Int) = N
            · have HaE := Lib.hid (show appE n N ms ss = 0 by simp [appE, HRa.out, ho, HLt.out, hN2])
              have HaL := Lib.hid (show appL n N ms ss = appR n N ms ss by simp [appL, appB, HRa.out, ho, HLt.out, hN2])
              have HRL := Lib.hid (show (appR n N ms ss).length ≤ 1000000 by rw [appR_len, HL.out]; omega)
              have HOk := Lib.hid ho
              have HN2 := Lib.hid hN2
              have tt : (((t : Nat) : Int) != N) = false := by simpa using hN2
              clear ho hN2
              rw [HaL.out] at H8
              rw [HaE.out, HaL.out]
              go_wp2_with fail
              refine (refRightM_any N A l c _ ms _ Ha.out HML.out).mono ?_
              rintro e x6 ⟨rfl, hb⟩
              rw [HRa.out]
              clear y0 y1 z0 z1 v0 v1
              have Qa := Lib.hid (Qa.out.keep hb)
              have Qb := Lib.hid (Qb.out.keep hb)
              have Ha := Lib.hid (Ha.out.below hb)
              have Hb := Lib.hid (Hb.out.below hb)
              have Ht := Lib.hid (Ht.out.below hb)
              have HX := Lib.hid (HX.out.below hb)
              have H7 := Lib.hid (H7.out.below hb)
              have Q7 := Lib.hid (Q7.out.keep hb)
              have H8 := Lib.hid (H8.out.below hb)
              have HB := Lib.hid (chain HB.out hb)
              clear hb
              obtain ⟨y0, y1, -, -⟩ := Qa.out.two
              obtain ⟨z0, z1, -, -⟩ := Qb.out.two
              obtain ⟨v0, v1, -, -⟩ := Q7.out.two
              go_wp2_with fail
              refine (why_any n L t u ss _ Ht.out hum).mono ?_
              rintro e u7 ⟨rfl, rfl⟩
              rw [HWy.out]
              go_wp2_with fail
              refine (refApply_int n N t A l c _ ms L u ss _ HN2.out Ha.out HRa.out Ht.out HOk.out).mono ?_
              rintro e x8 ⟨T9, d9, rfl, hr1, hr2, hm9, hb⟩
              clear y0 y1 z0 z1 v0 v1
              have H9 := Lib.hid (hm9)
              have Qa := Lib.hid (Qa.out.keep hb)
              have Qb := Lib.hid (Qb.out.keep hb)
              have Ha := Lib.hid (Ha.out.below hb)
              have Hb := Lib.hid (Hb.out.below hb)
              have Ht := Lib.hid (Ht.out.below hb)
              have HX := Lib.hid (HX.out.below hb)
              have H7 := Lib.hid (H7.out.below hb)
              have Q7 := Lib.hid (Q7.out.keep hb)
              have H8 := Lib.hid (H8.out.below hb)
              have HB := Lib.hid (chain HB.out hb)
              clear hb
              clear hm9
              obtain ⟨y0, y1, -, -⟩ := Qa.out.two
              obtain ⟨z0, z1, -, -⟩ := Qb.out.two
              obtain ⟨v0, v1, -, -⟩ := Q7.out.two
              go_wp2_with fail
              refine (refTexts_same T8 T9 _ d8 d9 _ _ H8.out H9.out HRL.out).mono ?_
              rintro e x9 ⟨rfl, hb⟩
              clear y0 y1 z0 z1 v0 v1
              have Qa := Lib.hid (Qa.out.keep hb)
              have Qb := Lib.hid (Qb.out.keep hb)
              have Ha := Lib.hid (Ha.out.below hb)
              have Hb := Lib.hid (Hb.out.below hb)
              have Ht := Lib.hid (Ht.out.below hb)
              have HX := Lib.hid (HX.out.below hb)
              have H7 := Lib.hid (H7.out.below hb)
              have Q7 := Lib.hid (Q7.out.keep hb)
              have H8 := Lib.hid (H8.out.below hb)
              have H9 := Lib.hid (H9.out.below hb)
              have HB := Lib.hid (chain HB.out hb)
              clear hb
              obtain ⟨y0, y1, -, -⟩ := Qa.out.two
              obtain ⟨z0, z1, -, -⟩ := Qb.out.two
              obtain ⟨v0, v1, -, -⟩ := Q7.out.two
              go_wp2_with fail
              go_ret
              exact ⟨rfl, HB.out⟩
            · have HaE := Lib.hid (show appE n N ms ss = 2 by simp [appE, HRa.out, ho, HLt.out, hN2])
              have HaL := Lib.hid (show (appL n N ms ss).length = 0 by simp [appL, appB, HLt.out, hN2])
              have tt : (((t : Nat) : Int) != N) = true := by simpa using hN2
              clear ho hN2
              rw [HaE.out, HaL.out]
              go_wp2_with fail
              refine (refRightM_any N A l c _ ms _ Ha.out HML.out).mono ?_
              rintro e x6 ⟨rfl, hb⟩
              rw [HRa.out]
              clear y0 y1 z0 z1 v0 v1
              have Qa := Lib.hid (Qa.out.keep hb)
              have Qb := Lib.hid (Qb.out.keep hb)
              have Ha := Lib.hid (Ha.out.below hb)
              have Hb := Lib.hid (Hb.out.below hb)
              have Ht := Lib.hid (Ht.out.below hb)
              have HX := Lib.hid (HX.out.below hb)
              have H7 := Lib.hid (H7.out.below hb)
              have Q7 := Lib.hid (Q7.out.keep hb)
              have H8 := Lib.hid (H8.out.below hb)
              have HB := Lib.hid (chain HB.out hb)
              clear hb
              obtain ⟨y0, y1, -, -⟩ := Qa.out.two
              obtain ⟨z0, z1, -, -⟩ := Qb.out.two
              obtain ⟨v0, v1, -, -⟩ := Q7.out.two
              go_wp2_with fail
              refine (why_any n L t u ss _ Ht.out hum).mono ?_
              rintro e u7 ⟨rfl, rfl⟩
              rw [HWy.out]
              go_wp2_with fail
              go_ret
              exact ⟨rfl, HB.out⟩
        · have HmE := Lib.hid (show mulE N ms M ks = 2 by simp [mulE, hRa, hRb, HLk.out, hN])
          have HmN := Lib.hid (show mulN N ms M ks = 0 by simp [mulN, mulB, HLk.out, hN])
          have HmL := Lib.hid (show mulL N ms M ks = [] by simp [mulL, mulB, HLk.out, hN])
          have tn : (N != ((k : Nat) : Int)) = true := by simpa using hN
          clear hRa hRb hN
          rw [HmE.out]
          rw [HmN.out, HmL.out] at Q7
          rw [HmL.out] at H7
          clear v0 v1
          obtain ⟨v0, v1, -, -⟩ := Q7.out.two
          go_wp2_with fail
          refine (refRightM_any N A l c _ ms _ Ha.out HML.out).mono ?_
          rintro e x4 ⟨rfl, hb⟩
          rw [HRa.out]
          clear y0 y1 z0 z1 v0 v1
          have Qa := Lib.hid (Qa.out.keep hb)
          have Qb := Lib.hid (Qb.out.keep hb)
          have Ha := Lib.hid (Ha.out.below hb)
          have Hb := Lib.hid (Hb.out.below hb)
          have Ht := Lib.hid (Ht.out.below hb)
          have HX := Lib.hid (HX.out.below hb)
          have H7 := Lib.hid (H7.out.below hb)
          have Q7 := Lib.hid (Q7.out.keep hb)
          have H8 := Lib.hid (H8.out.below hb)
          have HB := Lib.hid (chain HB.out hb)
          clear hb
          obtain ⟨y0, y1, -, -⟩ := Qa.out.two
          obtain ⟨z0, z1, -, -⟩ := Qb.out.two
          obtain ⟨v0, v1, -, -⟩ := Q7.out.two
          go_wp2_with fail
          refine (refRightM_any M B k d _ ks _ Hb.out HMK.out).mono ?_
          rintro e x5 ⟨rfl, hb⟩
          rw [HRb.out]
          clear y0 y1 z0 z1 v0 v1
          have Qa := Lib.hid (Qa.out.keep hb)
          have Qb := Lib.hid (Qb.out.keep hb)
          have Ha := Lib.hid (Ha.out.below hb)
          have Hb := Lib.hid (Hb.out.below hb)
          have Ht := Lib.hid (Ht.out.below hb)
          have HX := Lib.hid (HX.out.below hb)
          have H7 := Lib.hid (H7.out.below hb)
          have Q7 := Lib.hid (Q7.out.keep hb)
          have H8 := Lib.hid (H8.out.below hb)
          have HB := Lib.hid (chain HB.out hb)
          clear hb
          obtain ⟨y0, y1, -, -⟩ := Qa.out.two
          obtain ⟨z0, z1, -, -⟩ := Qb.out.two
          obtain ⟨v0, v1, -, -⟩ := Q7.out.two
          go_wp2_with fail
          refine (same3_any 0 0 T7 none 0 0 d7 0 _ 0 [] [] _ H7.out (MatAt.nil _ _ _) (by omega) (by simp)).mono ?_
          rintro e x6 ⟨rfl, hb⟩
          rw [sameM_self]
          clear y0 y1 z0 z1 v0 v1
          have Qa := Lib.hid (Qa.out.keep hb)
          have Qb := Lib.hid (Qb.out.keep hb)
          have Ha := Lib.hid (Ha.out.below hb)
          have Hb := Lib.hid (Hb.out.below hb)
          have Ht := Lib.hid (Ht.out.below hb)
          have HX := Lib.hid (HX.out.below hb)
          have H7 := Lib.hid (H7.out.below hb)
          have Q7 := Lib.hid (Q7.out.keep hb)
          have H8 := Lib.hid (H8.out.below hb)
          have HB := Lib.hid (chain HB.out hb)
          clear hb
          obtain ⟨y0, y1, -, -⟩ := Qa.out.two
          obtain ⟨z0, z1, -, -⟩ := Qb.out.two
          obtain ⟨v0, v1, -, -⟩ := Q7.out.two
          cases ho : okS n ss with
          | false =>
            have HaE := Lib.hid (show appE n N ms ss = 2 by simp [appE, HRa.out, ho])
            have HaL := Lib.hid (show (appL n N ms ss).length = 0 by simp [appL, appB, ho])
            have HWy := Lib.hid (sumE_no ho)
            clear ho
            rw [HaE.out, HaL.out]
            go_wp2_with fail
            refine (refRightM_any N A l c _ ms _ Ha.out HML.out).mono ?_
            rintro e x7 ⟨rfl, hb⟩
            rw [HRa.out]
            clear y0 y1 z0 z1 v0 v1
            have Qa := Lib.hid (Qa.out.keep hb)
            have Qb := Lib.hid (Qb.out.keep hb)
            have Ha := Lib.hid (Ha.out.below hb)
            have Hb := Lib.hid (Hb.out.below hb)
            have Ht := Lib.hid (Ht.out.below hb)
            have HX := Lib.hid (HX.out.below hb)
            have H7 := Lib.hid (H7.out.below hb)
            have Q7 := Lib.hid (Q7.out.keep hb)
            have H8 := Lib.hid (H8.out.below hb)
            have HB := Lib.hid (chain HB.out hb)
            clear hb
            obtain ⟨y0, y1, -, -⟩ := Qa.out.two
            obtain ⟨z0, z1, -, -⟩ := Qb.out.two
            obtain ⟨v0, v1, -, -⟩ := Q7.out.two
            go_wp2_with fail
            refine (why_any n L t u ss _ Ht.out hum).mono ?_
            rintro e u8 ⟨rfl, rfl⟩
            rw [HWy.out]
            go_wp2_with fail
            go_ret
            exact ⟨rfl, HB.out⟩
          | true =>
            have HWy := Lib.hid (sumE_ok ho)
            by_cases hN2 : (t : Int) = N
            · have HaE := Lib.hid (show appE n N ms ss = 0 by simp [appE, HRa.out, ho, HLt.out, hN2])
              have HaL := Lib.hid (show appL n N ms ss = appR n N ms ss by simp [appL, appB, HRa.out, ho, HLt.out, hN2])
              have HRL := Lib.hid (show (appR n N ms ss).length ≤ 1000000 by rw [appR_len, HL.out]; omega)
              have HOk := Lib.hid ho
              have HN2 := Lib.hid hN2
              have tt : (((t : Nat) : Int) != N) = false := by simpa using hN2
              clear ho hN2
              rw [HaL.out] at H8
              rw [HaE.out, HaL.out]
              go_wp2_with fail
              refine (refRightM_any N A l c _ ms _ Ha.out HML.out).mono ?_
              rintro e x7 ⟨rfl, hb⟩
              rw [HRa.out]
              clear y0 y1 z0 z1 v0 v1
              have Qa := Lib.hid (Qa.out.keep hb)
              have Qb := Lib.hid (Qb.out.keep hb)
              have Ha := Lib.hid (Ha.out.below hb)
              have Hb := Lib.hid (Hb.out.below hb)
              have Ht := Lib.hid (Ht.out.below hb)
              have HX := Lib.hid (HX.out.below hb)
              have H7 := Lib.hid (H7.out.below hb)
              have Q7 := Lib.hid (Q7.out.keep hb)
              have H8 := Lib.hid (H8.out.below hb)
              have HB := Lib.hid (chain HB.out hb)
              clear hb
              obtain ⟨y0, y1, -, -⟩ := Qa.out.two
              obtain ⟨z0, z1, -, -⟩ := Qb.out.two
              obtain ⟨v0, v1, -, -⟩ := Q7.out.two
              go_wp2_with fail
              refine (why_any n L t u ss _ Ht.out hum).mono ?_
              rintro e u8 ⟨rfl, rfl⟩
              rw [HWy.out]
              go_wp2_with fail
              refine (refApply_int n N t A l c _ ms L u ss _ HN2.out Ha.out HRa.out Ht.out HOk.out).mono ?_
              rintro e x9 ⟨T9, d9, rfl, hr1, hr2, hm9, hb⟩
              clear y0 y1 z0 z1 v0 v1
              have H9 := Lib.hid (hm9)
              have Qa := Lib.hid (Qa.out.keep hb)
              have Qb := Lib.hid (Qb.out.keep hb)
              have Ha := Lib.hid (Ha.out.below hb)
              have Hb := Lib.hid (Hb.out.below hb)
              have Ht := Lib.hid (Ht.out.below hb)
              have HX := Lib.hid (HX.out.below hb)
              have H7 := Lib.hid (H7.out.below hb)
              have Q7 := Lib.hid (Q7.out.keep hb)
              have H8 := Lib.hid (H8.out.below hb)
              have HB := Lib.hid (chain HB.out hb)
              clear hb
              clear hm9
              obtain ⟨y0, y1, -, -⟩ := Qa.out.two
              obtain ⟨z0, z1, -, -⟩ := Qb.out.two
              obtain ⟨v0, v1, -, -⟩ := Q7.out.two
              go_wp2_with fail
              refine (refTexts_same T8 T9 _ d8 d9 _ _ H8.out H9.out HRL.out).mono ?_
              rintro e x10 ⟨rfl, hb⟩
              clear y0 y1 z0 z1 v0 v1
              have Qa := Lib.hid (Qa.out.keep hb)
              have Qb := Lib.hid (Qb.out.keep hb)
              have Ha := Lib.hid (Ha.out.below hb)
              have Hb := Lib.hid (Hb.out.below hb)
              have Ht := Lib.hid (Ht.out.below hb)
              have HX := Lib.hid (HX.out.below hb)
              have H7 := Lib.hid (H7.out.below hb)
              have Q7 := Lib.hid (Q7.out.keep hb)
              have H8 := Lib.hid (H8.out.below hb)
              have H9 := Lib.hid (H9.out.below hb)
              have HB := Lib.hid (chain HB.out hb)
              clear hb
              obtain ⟨y0, y1, -, -⟩ := Qa.out.two
              obtain ⟨z0, z1, -, -⟩ := Qb.out.two
              obtain ⟨v0, v1, -, -⟩ := Q7.out.two
              go_wp2_with fail
              go_ret
              exact ⟨rfl, HB.out⟩
            · have HaE := Lib.hid (show appE n N ms ss = 2 by simp [appE, HRa.out, ho, HLt.out, hN2])
              have HaL := Lib.hid (show (appL n N ms ss).length = 0 by simp [appL, appB, HLt.out, hN2])
              have tt : (((t : Nat) : Int) != N) = true := by simpa using hN2
              clear ho hN2
              rw [HaE.out, HaL.out]
              go_wp2_with fail
              refine (refRightM_any N A l c _ ms _ Ha.out HML.out).mono ?_
              rintro e x7 ⟨rfl, hb⟩
              rw [HRa.out]
              clear y0 y1 z0 z1 v0 v1
              have Qa := Lib.hid (Qa.out.keep hb)
              have Qb := Lib.hid (Qb.out.keep hb)
              have Ha := Lib.hid (Ha.out.below hb)
              have Hb := Lib.hid (Hb.out.below hb)
              have Ht := Lib.hid (Ht.out.below hb)
              have HX := Lib.hid (HX.out.below hb)
              have H7 := Lib.hid (H7.out.below hb)
              have Q7 := Lib.hid (Q7.out.keep hb)
              have H8 := Lib.hid (H8.out.below hb)
              have HB := Lib.hid (chain HB.out hb)
              clear hb
              obtain ⟨y0, y1, -, -⟩ := Qa.out.two
              obtain ⟨z0, z1, -, -⟩ := Qb.out.two
              obtain ⟨v0, v1, -, -⟩ := Q7.out.two
              go_wp2_with fail
              refine (why_any n L t u ss _ Ht.out hum).mono ?_
              rintro e u8 ⟨rfl, rfl⟩
              rw [HWy.out]
              go_wp2_with fail
              go_ret
              exact ⟨rfl, HB.out⟩
end
section
/- How a row (a struct with a slice of words) and a slice of ints that came in are opened. -/
set_option linter.unusedVariables false
set_option linter.unusedSimpArgs false
open Go.RowKit Go.Joins Go.ChangeShapes Go.WideShapes
theorem cellsRow : Tryd.prog.cellsOf 45 = 2 := by kernel_rfl
theorem open_row {H : Type} {enc : TypeId × Value → H} {W : World} {r : Reach} {b0 : Nat} {v : Value} {d : DataW H} {p : List MemPlace}
    (hv : Value.okWide Tryd.prog W r b0 45 v) (h : DataW.Trod enc Tryd.prog W 0 (fun _ => true) true 45 v d p) :
    ∃ n A l c us, v = .agg #[.int .i64 n, .slice A l c] ∧ (Lit.int .i64 n).wf = true ∧ SliceOk A l c ∧ Words W A l us := by
  obtain ⟨c0, c1, y0, y1, m, rfl, rfl, rfl, hy0, hy1⟩ := open_agg2 Tryd.underlying45 (by kernel_rfl) cellsRow hv h
  obtain ⟨a, e0, -, wa⟩ := DataW.trod_int Tryd.underlying3 hy0
  obtain ⟨A, l, c, us, e1, hs, hw⟩ := open_words hy1
  simp at e0 e1
  subst e0 e1
  exact ⟨a, A, l, c, us, rfl, wa, hs, hw⟩
end
section
/- How a slice of texts that came in is opened. -/
set_option linter.unusedVariables false
set_option linter.unusedSimpArgs false
open Go.RowKit Go.Joins Go.ChangeShapes Go.WideShapes
theorem cellsStr : Tryd.prog.cellsOf 9 = 1 := by kernel_rfl
theorem open_texts {H : Type} {enc : TypeId × Value → H} {W : World} {fuel : Nat} {cs : List Value} {x : DataW H × List MemPlace}
    (h : DataW.trod enc Tryd.prog W 0 (fun _ => true) true fuel 25 cs = some x) : ∃ A l c ss, cs = [.slice A l c] ∧ SliceOk A l c ∧ Texts W A l ss := by
  rcases open_strings Tryd.underlying25 Tryd.underlying9 cellsStr h with ⟨hcs, _⟩ | ⟨a, len, cap, ss, hcs, _, hl, hm, hz, _, hcell, hwz⟩
  · exact ⟨none, 0, 0, [], hcs, ⟨Nat.le_refl _, Nat.zero_le _, fun _ => ⟨rfl, rfl⟩⟩, Texts.nil _ _⟩
  · have hz' : ss.length = cap := by simpa using hz
    refine ⟨some a, len, cap, ss.take len, hcs, ⟨hl, hm, fun h => by cases h⟩, ?_⟩
    have hget : ∀ j, j < len → (ss.take len).getD j ByteArray.empty = ss.getD j ByteArray.empty := fun j hj => by
      simp [List.getD, hj]
    refine ⟨by simp; omega, fun j => ?_, fun hp => ?_⟩
    · by_cases hj : j < len
      · rw [hget j hj]
        have hjs : j < ss.length := by omega
        have := hwz (ss[j]) (List.getElem_mem _)
        simpa [List.getD, hjs] using this
      · have hn : (ss.take len)[j]? = none := List.getElem?_eq_none (by simp; omega)
        simp [List.getD, hn, maxLen]
    · obtain ⟨b, o, rfl⟩ := addr_at (hcell 0 (by omega))
      have hadd : ∀ j, Addr.add { block := b, off := o } j = ⟨b, o + j, none⟩ := fun j => by
        by_cases h : j = 0 <;> simp [Addr.add, h]
      refine ⟨b, o, rfl, ?_, fun j hj => ?_⟩
      · have := block_lt_of_cell (hcell 0 (by omega))
        rw [hadd] at this
        exact this
      · have := hcell j (by omega)
        rw [hadd] at this
        rw [this, hget j hj]
end
end Go.Proofs.YtljooknodnblbaaDoor
