/- MatrixTurns: the walk. -/
import Derived.Test.YtljooknodnblbaaMat9
import Derived.Test.YtljooknodnblbaaHeldL
namespace Go.Proofs.Ytljooknodnblbaa
set_option linter.unusedVariables false
set_option linter.unusedSimpArgs false
open Go.RowKit
theorem alive3_any (w : World) : Calls Try.prog 11 #[] w fun e w' => e = .returned (.bool true) ∧ Below w.heap.size w w' := by
  have HO := Lib.hid (one_any 3)
  have e1 : oneN 3 = 3 := by decide
  have e2 : (oneM 3).length = 3 := by rw [oneM, if_pos (by decide), oneL_len]; rfl
  have e3 : oneE 3 = 0 := by decide
  unfold MatRes at HO
  rw [e1, e2, e3] at HO
  clear e1 e2 e3
  go_enter Try.func11, Try.ntmps11
  go_wp2_with fail
  refine (HO.out _).mono ?_
  rintro e x1 ⟨A, c, rfl, -, hb⟩
  have Q := Lib.hid (Box.new x1 24 #[.int .i64 3, .slice A 3 c])
  have B := Lib.hid (hb.alloc hb.size (.cells #[.int .i64 3, .slice A 3 c] 24))
  clear hb
  obtain ⟨r0, r1, -, -⟩ := Q.out.two
  go_wp2_with fail
  go_ret
  exact ⟨rfl, B.out⟩
theorem two_mats {x : World} {g1 g2 : Nat} {t : TypeId} {i1 i2 j1 j2 : Int} {S1 S2 T1 T2 : Option Addr} {p1 q1 p2 q2 l1 c1 l2 c2 lo : Nat}
    (h1 : Box x g1 t #[.int .i64 i1, .slice S1 p1 q1]) (h2 : Box x g2 t #[.int .i64 i2, .slice S2 p2 q2]) (n12 : g1 ≠ g2)
    {w : World} (hb : Below w.heap.size w x) (b1 : w.heap.size ≤ g1) (b2 : w.heap.size ≤ g2) (k1 : g1 < lo) (k2 : g2 < lo)
    {ma mb : List (Int × List Nat)} (u1 : MatAt x lo T1 l1 ma) (u2 : MatAt x lo T2 l2 mb) :
    let y := (((x.setCell ⟨g1, 0, none⟩ (.int .i64 j1)).setCell ⟨g1, 1, none⟩ (.slice T1 l1 c1)).setCell ⟨g2, 0, none⟩ (.int .i64 j2)).setCell ⟨g2, 1, none⟩ (.slice T2 l2 c2)
    Box y g1 t #[.int .i64 j1, .slice T1 l1 c1] ∧ Box y g2 t #[.int .i64 j2, .slice T2 l2 c2] ∧ MatAt y lo T1 l1 ma ∧ MatAt y lo T2 l2 mb ∧ Below w.heap.size w y := by
  have r1 : Box ((x.setCell ⟨g1, 0, none⟩ (.int .i64 j1)).setCell ⟨g1, 1, none⟩ (.slice T1 l1 c1)) g1 t #[.int .i64 j1, .slice T1 l1 c1] := h1.put2
  have r2 := (h2.far (p := ⟨g1, 0, none⟩) n12.symm (.int .i64 j1)).far (p := ⟨g1, 1, none⟩) n12.symm (.slice T1 l1 c1)
  have v1 := u1.put2 (y := j1) h1 k1 (.slice T1 l1 c1)
  have v2 := u2.put2 (y := j1) h1 k1 (.slice T1 l1 c1)
  exact ⟨(r1.far (p := ⟨g2, 0, none⟩) n12 (.int .i64 j2)).far (p := ⟨g2, 1, none⟩) n12 (.slice T2 l2 c2), r2.put2, v1.put2 r2 k2 _, v2.put2 r2 k2 _,
    (((hb.setCell (p := ⟨g1, 0, none⟩) b1 _).setCell (p := ⟨g1, 1, none⟩) b1 _).setCell (p := ⟨g2, 0, none⟩) b2 _).setCell (p := ⟨g2, 1, none⟩) b2 _⟩
theorem rowLen_one (n i : Nat) (hn : n ≤ 64) : ((oneL n).getD i (0, [])).2.length ≤ 1000000 := by
  by_cases h : i < n
  · have e : (oneL n).getD i (0, []) = ((n : Int), ofBits n [(i : Int)]) := by simp [oneL, List.getD, h]
    rw [e]; show (ofBits n _).length ≤ _; rw [ofBits_len]; unfold nw; omega
  · have e : (oneL n)[i]? = none := List.getElem?_eq_none (by rw [oneL_len]; omega)
    simp [List.getD, e]
theorem rowLen_turn (n : Nat) (ms : List (Int × List Nat)) (i : Nat) (hl : ms.length ≤ 64) : ((turnM n ms).getD i (0, [])).2.length ≤ 1000000 := by
  by_cases h : i < n
  · have e : (turnM n ms).getD i (0, []) = ((ms.length : Int), colW ms i) := by simp [turnM, List.getD, h]
    rw [e]; show (colW ms i).length ≤ _; rw [colW, ofBits_len]; unfold nw; omega
  · have e : (turnM n ms)[i]? = none := List.getElem?_eq_none (by rw [turnM_len]; omega)
    simp [List.getD, e]
set_option maxRecDepth 100000 in
set_option maxHeartbeats 8000000 in
theorem mturns_walk (N M : Int) (A0 B0 : Option Addr) (l0 c0 k0 d0 : Nat) (ms0 ks0 : List (Int × List Nat)) (n : Int) (w : World)
    (s1 : SliceOk A0 l0 c0) (s2 : SliceOk B0 k0 d0) (h1 : MatAt w 0 A0 l0 ms0) (h2 : MatAt w 0 B0 k0 ks0) :
    Calls Try.prog 3 #[.agg #[.int .i64 N, .slice A0 l0 c0], .agg #[.int .i64 M, .slice B0 k0 d0], .int .i64 n] w fun e w' => e = .returned (.bool true) ∧ Below w.heap.size w w' := by
  have q0 := (Box.new w 24 #[.int .i64 N, .slice A0 l0 c0]).alloc (.cells #[.int .i64 M, .slice B0 k0 d0] 24)
  have q1 := Box.new (w.alloc (.cells #[.int .i64 N, .slice A0 l0 c0] 24)) 24 #[.int .i64 M, .slice B0 k0 d0]
  have hW : Below w.heap.size w ((w.alloc (.cells #[.int .i64 N, .slice A0 l0 c0] 24)).alloc (.cells #[.int .i64 M, .slice B0 k0 d0] 24)) := ((Below.refl _ _).alloc (Nat.le_refl _) _).alloc (by simp) _
  simp only [World.size_alloc] at q1
  go_enter Try.func3, Try.ntmps3
  go_wp2_with fail
  generalize hW0 : (w.alloc (.cells #[.int .i64 N, .slice A0 l0 c0] 24)).alloc (.cells #[.int .i64 M, .slice B0 k0 d0] 24) = W at *
  clear hW0
  have hz := q1.lt
  have Q0 := Lib.hid q0
  have Q1 := Lib.hid q1
  have HW := Lib.hid hW
  have H1 := Lib.hid (h1.below hW)
  have H2 := Lib.hid (h2.below hW)
  obtain ⟨a0, a1, -, -⟩ := q0.two
  obtain ⟨b0, b1, -, -⟩ := q1.two
  clear q0 q1 hW h1 h2
  go_cut [] (fun wx => ∃ A l c B k d, Box wx w.heap.size 24 #[.int .i64 N, .slice A l c] ∧ Box wx (w.heap.size + 1) 24 #[.int .i64 M, .slice B k d] ∧ MatAt wx (w.heap.size + 2) A l (fewM ms0) ∧ MatAt wx (w.heap.size + 2) B k (fewM ks0) ∧ Below w.heap.size w wx)
  case first =>
    go_region_with (first
      | (go_at_call_of 4 (Value.agg #[.int .i64 N, .slice A0 l0 c0]); refine (few3_any N A0 l0 c0 ms0 _ s1 (by exact H1.out)).mono ?_; rintro e1 x1 ⟨A1, d1, rfl, hw1, hb1⟩; have P0 := Lib.hid (Q0.out.drew.keep hb1); have P1 := Lib.hid (Q1.out.drew.keep hb1); have J2 := Lib.hid (H2.out.drew.below hb1); have T1 := Lib.hid (chain HW.out.drew hb1); have hx1 : W.heap.size ≤ x1.heap.size := hb1.size; have hw1 := Lib.hid hw1; clear hb1; obtain ⟨z0, z1, -, -⟩ := P1.out.two)
      | (go_at_call_of 4 (Value.agg #[.int .i64 M, .slice B0 k0 d0]); refine (few3_any M B0 k0 d0 ks0 _ s2 (by exact J2.out)).mono ?_; rintro e2 x2 ⟨A2, d2, rfl, hw2, hb2⟩; have P0 := Lib.hid (P0.out.keep hb2); have P1 := Lib.hid (P1.out.keep hb2); have J1 := Lib.hid (hw1.out.below hb2); have J2 := Lib.hid hw2; have T2 := Lib.hid (chain T1.out hb2); clear hb2 hw2; obtain ⟨k6, k7, f0, f1⟩ := P0.out.two; obtain ⟨k8, k9, f2, f3⟩ := P1.out.two))
    all_goals (go_wp2_with fail; go_meet; exact ⟨A1, _, d1, A2, _, d2, two_mats P0.out P1.out (by omega) T2.out (by omega) (by omega) (by omega) (by omega) (J1.out.low (by simp; omega)) (J2.out.low (by omega))⟩)
  case rest =>
    obtain ⟨A, l, c, B, k, d, Ka, Kb, Ja, Jb, KB⟩ := hcut
    clear H1 H2 Q0 Q1 HW a0 a1 b0 b1 s1 s2
    have HS1 := Lib.hid (fun j => Nat.le_trans (fewM_short ms0 j) (show 3 ≤ 1000000 by omega))
    have HS2 := Lib.hid (fun j => Nat.le_trans (fewM_short ks0 j) (show 3 ≤ 1000000 by omega))
    have hl66 : l ≤ 66 := by have := Ja.1; have := fewM_len ms0; omega
    have hk66 : k ≤ 66 := by have := Jb.1; have := fewM_len ks0; omega
    generalize fewM ms0 = ms at *
    generalize fewM ks0 = ks at *
    have HL := Lib.hid Ja.1
    have Qa := Lib.hid Ka
    have Qb := Lib.hid Kb
    have Ha := Lib.hid Ja
    have Hb := Lib.hid Jb
    have HB := Lib.hid KB
    clear Ka Kb Ja Jb KB
    obtain ⟨y0, y1, -, -⟩ := Qa.out.two
    have HML := Lib.hid (show l ≤ maxLen by unfold maxLen; omega)
    obtain ⟨z0, z1, -, -⟩ := Qb.out.two
    have t1 : (rightM N ms != rightM N ms) = false := by simp
    have t2 : (sameM N ms M ks != sameM N ms M ks) = false := by simp
    go_wp2_with fail
    refine (turn_any N A l c _ ms _ Ha.out HML.out).mono ?_
    rintro e x1 ⟨T7, d7, rfl, hm7, hb⟩
    clear y0 y1 z0 z1
    have H7 := Lib.hid (hm7)
    have Qa := Lib.hid (Qa.out.keep hb)
    have Qb := Lib.hid (Qb.out.keep hb)
    have Ha := Lib.hid (Ha.out.below hb)
    have Hb := Lib.hid (Hb.out.below hb)
    have HB := Lib.hid (chain HB.out hb)
    clear hb
    clear hm7
    have hal : Below x1.heap.size x1 (x1.alloc (.cells #[.int .i64 (turnN N ms), .slice T7 (turnL N ms).length d7] 24)) := (Below.refl _ _).alloc (Nat.le_refl _) _
    have Qa := Lib.hid (Qa.out.keep hal)
    have Qb := Lib.hid (Qb.out.keep hal)
    have Ha := Lib.hid (Ha.out.below hal)
    have Hb := Lib.hid (Hb.out.below hal)
    have H7 := Lib.hid (H7.out.below hal)
    have HB := Lib.hid (chain HB.out hal)
    have Q7 := Lib.hid (Box.new x1 24 #[.int .i64 (turnN N ms), .slice T7 (turnL N ms).length d7])
    clear hal
    obtain ⟨y0, y1, -, -⟩ := Qa.out.two
    obtain ⟨z0, z1, -, -⟩ := Qb.out.two
    obtain ⟨u0, u1, -, -⟩ := Q7.out.two
    go_wp2_with fail
    refine (one_any n _).mono ?_
    rintro e x2 ⟨T9, d9, rfl, hm9, hb⟩
    clear y0 y1 z0 z1 u0 u1
    have H9 := Lib.hid (hm9)
    have Qa := Lib.hid (Qa.out.keep hb)
    have Qb := Lib.hid (Qb.out.keep hb)
    have Ha := Lib.hid (Ha.out.below hb)
    have Hb := Lib.hid (Hb.out.below hb)
    have H7 := Lib.hid (H7.out.below hb)
    have Q7 := Lib.hid (Q7.out.keep hb)
    have HB := Lib.hid (chain HB.out hb)
    clear hb
    clear hm9
    have hal : Below x2.heap.size x2 (x2.alloc (.cells #[.int .i64 (oneN n), .slice T9 (oneM n).length d9] 24)) := (Below.refl _ _).alloc (Nat.le_refl _) _
    have Qa := Lib.hid (Qa.out.keep hal)
    have Qb := Lib.hid (Qb.out.keep hal)
    have Ha := Lib.hid (Ha.out.below hal)
    have Hb := Lib.hid (Hb.out.below hal)
    have H7 := Lib.hid (H7.out.below hal)
    have Q7 := Lib.hid (Q7.out.keep hal)
    have H9 := Lib.hid (H9.out.below hal)
    have HB := Lib.hid (chain HB.out hal)
    have Q9 := Lib.hid (Box.new x2 24 #[.int .i64 (oneN n), .slice T9 (oneM n).length d9])
    clear hal
    obtain ⟨y0, y1, -, -⟩ := Qa.out.two
    obtain ⟨z0, z1, -, -⟩ := Qb.out.two
    obtain ⟨u0, u1, -, -⟩ := Q7.out.two
    obtain ⟨v0, v1, -, -⟩ := Q9.out.two
    go_upto_region 4 with (fail)
    go_cut [49] (fun s49 wx => s49 = .bool false ∧ Box wx w.heap.size 24 #[.int .i64 N, .slice A l c] ∧ MatAt wx (w.heap.size + 2) A l ms ∧ Box wx x1.heap.size 24 #[.int .i64 (turnN N ms), .slice T7 (turnL N ms).length d7] ∧ MatAt wx 0 T7 (turnL N ms).length (turnL N ms) ∧ Box wx x2.heap.size 24 #[.int .i64 (oneN n), .slice T9 (oneM n).length d9] ∧ MatAt wx 0 T9 (oneM n).length (oneM n) ∧ Below w.heap.size w wx)
    case first =>
      go_region_held3 (fun w' => w'.cell? ⟨w.heap.size, 0, none⟩ = some (.int .i64 N) ∧ w'.cell? ⟨w.heap.size, 1, none⟩ = some (.slice A l c) ∧ w'.cell? ⟨w.heap.size + 1, 0, none⟩ = some (.int .i64 M) ∧ w'.cell? ⟨w.heap.size + 1, 1, none⟩ = some (.slice B k d)) (go_keep)
        (first
          | (go_at_call 7; refine (mright_any N A l c _ ms _ Ha.out.drew HML.out).mono ?_; rintro f1 y1 ⟨rfl, hb⟩; have Qa1 := Lib.hid (Qa.out.drew.keep hb); have Qb1 := Lib.hid (Qb.out.drew.keep hb); have Q71 := Lib.hid (Q7.out.drew.keep hb); have Q91 := Lib.hid (Q9.out.drew.keep hb); have Ha1 := Lib.hid (Ha.out.drew.below hb); have Hb1 := Lib.hid (Hb.out.drew.below hb); have H71 := Lib.hid (H7.out.drew.below hb); have H91 := Lib.hid (H9.out.drew.below hb); have HB1 := Lib.hid (chainN HB.out.drew HB.out.size hb); clear hb; obtain ⟨y01, y11, -, -⟩ := Qa1.out.two; obtain ⟨z01, z11, -, -⟩ := Qb1.out.two)
          | (go_at_call 8; refine (refRightM_any N A l c _ ms _ Ha1.out HML.out).mono ?_; rintro f2 y2 ⟨rfl, hb⟩; have Qa2 := Lib.hid (Qa1.out.keep hb); have Qb2 := Lib.hid (Qb1.out.keep hb); have Q72 := Lib.hid (Q71.out.keep hb); have Q92 := Lib.hid (Q91.out.keep hb); have Ha2 := Lib.hid (Ha1.out.below hb); have Hb2 := Lib.hid (Hb1.out.below hb); have H72 := Lib.hid (H71.out.below hb); have H92 := Lib.hid (H91.out.below hb); have HB2 := Lib.hid (chainN HB1.out HB1.out.size hb); clear hb; obtain ⟨y02, y12, -, -⟩ := Qa2.out.two; obtain ⟨z02, z12, -, -⟩ := Qb2.out.two)
          | (go_at_call_of 9 (Value.agg #[.int .i64 M, .slice B k d]); refine (mlike_any N M A B l k c d _ _ ms ks _ Ha2.out Hb2.out (by omega) HS1.out).mono ?_; rintro f3 y3 ⟨rfl, hb⟩; have Qa3 := Lib.hid (Qa2.out.keep hb); have Qb3 := Lib.hid (Qb2.out.keep hb); have Q73 := Lib.hid (Q72.out.keep hb); have Q93 := Lib.hid (Q92.out.keep hb); have Ha3 := Lib.hid (Ha2.out.below hb); have Hb3 := Lib.hid (Hb2.out.below hb); have H73 := Lib.hid (H72.out.below hb); have H93 := Lib.hid (H92.out.below hb); have HB3 := Lib.hid (chainN HB2.out HB2.out.size hb); clear hb; obtain ⟨y03, y13, -, -⟩ := Qa3.out.two; obtain ⟨z03, z13, -, -⟩ := Qb3.out.two)
          | (go_at_call 10; refine (same3_any N M A B l k c d _ _ ms ks _ Ha3.out Hb3.out (by omega) HS1.out).mono ?_; rintro f4 y4 ⟨rfl, hb⟩; have Qa4 := Lib.hid (Qa3.out.keep hb); have Qb4 := Lib.hid (Qb3.out.keep hb); have Q74 := Lib.hid (Q73.out.keep hb); have Q94 := Lib.hid (Q93.out.keep hb); have Ha4 := Lib.hid (Ha3.out.below hb); have Hb4 := Lib.hid (Hb3.out.below hb); have H74 := Lib.hid (H73.out.below hb); have H94 := Lib.hid (H93.out.below hb); have HB4 := Lib.hid (chainN HB3.out HB3.out.size hb); clear hb; obtain ⟨y04, y14, -, -⟩ := Qa4.out.two; obtain ⟨z04, z14, -, -⟩ := Qb4.out.two)
          | (go_at_call 9; refine (mlike_any N N A A l l c c _ _ ms ms _ Ha4.out Ha4.out (by omega) HS1.out).mono ?_; rintro f5 y5 ⟨rfl, hb⟩; rw [sameM_self]; have Qa5 := Lib.hid (Qa4.out.keep hb); have Qb5 := Lib.hid (Qb4.out.keep hb); have Q75 := Lib.hid (Q74.out.keep hb); have Q95 := Lib.hid (Q94.out.keep hb); have Ha5 := Lib.hid (Ha4.out.below hb); have Hb5 := Lib.hid (Hb4.out.below hb); have H75 := Lib.hid (H74.out.below hb); have H95 := Lib.hid (H94.out.below hb); have HB5 := Lib.hid (chainN HB4.out HB4.out.size hb); clear hb; obtain ⟨y05, y15, -, -⟩ := Qa5.out.two; obtain ⟨z05, z15, -, -⟩ := Qb5.out.two)
          | (go_at_call 11; refine (alive3_any _).mono ?_; rintro f6 y6 ⟨rfl, hb⟩; have Qa6 := Lib.hid (Qa5.out.keep hb); have Qb6 := Lib.hid (Qb5.out.keep hb); have Q76 := Lib.hid (Q75.out.keep hb); have Q96 := Lib.hid (Q95.out.keep hb); have Ha6 := Lib.hid (Ha5.out.below hb); have Hb6 := Lib.hid (Hb5.out.below hb); have H76 := Lib.hid (H75.out.below hb); have H96 := Lib.hid (H95.out.below hb); have HB6 := Lib.hid (chainN HB5.out HB5.out.size hb); clear hb; obtain ⟨y06, y16, -, -⟩ := Qa6.out.two; obtain ⟨z06, z16, -, -⟩ := Qb6.out.two))
      go_wp2_with fail
      go_meet
      exact ⟨rfl, Qa6.out, Ha6.out, Q76.out, H76.out.low (Nat.zero_le _), Q96.out, H96.out.low (Nat.zero_le _), HB6.out⟩
    case rest =>
      obtain ⟨rfl, ka, ja, k7, j7, k9, j9, kb⟩ := hcut
      clear Qa Qb Q7 Q9 Ha Hb H7 H9 HB y0 y1 z0 z1 u0 u1 v0 v1 t1 t2
      have Qa6 := Lib.hid ka
      have Ha6 := Lib.hid ja
      have Q76 := Lib.hid k7
      have H76 := Lib.hid j7
      have Q96 := Lib.hid k9
      have H96 := Lib.hid j9
      have HB6 := Lib.hid kb
      clear ka ja k7 j7 k9 j9 kb
      by_cases hn : 0 ≤ n ∧ n ≤ 64
      · obtain ⟨m, rfl⟩ := Int.eq_ofNat_of_zero_le hn.1
        have hm64 : m ≤ 64 := by omega
        have hs : smb m = true := (smb_iff m).2 hn
        have eE : oneE m = 0 := by simp [oneE, hs]
        have HN9 := Lib.hid (show oneN m = m by simp [oneN, hs])
        have HL9 := Lib.hid (show oneM m = oneL m by simp [oneM, hs])
        have hn2 : (m : Int) ≤ 64 := by omega
        have HLL := Lib.hid (show (oneL m).length ≤ 1000000 by rw [oneL_len]; omega)
        have HRO := Lib.hid (fun i => rowLen_one m i hm64)
        have tt : decide ((m : Int) ≤ 64) = true := by simpa using hn2
        have tt2 : decide ((0 : Int) ≤ (m : Int)) = true := by simp
        clear hn hs
        rw [HN9.out, HL9.out] at Q96
        rw [HL9.out] at H96
        obtain ⟨g0, g1, -, -⟩ := Q96.out.two
        rw [eE]
        clear eE
        go_wp2_with fail
        refine wp_region_held_drew (S := fun w' => w'.cell? ⟨x2.heap.size, 0, none⟩ = some (.int .i64 m) ∧ w'.cell? ⟨x2.heap.size, 1, none⟩ = some (.slice T9 (oneL m).length d9)) (by kernel_rfl) ?hS1 (fun hHeld => ?hR1)
        case hS1 => exact ⟨g0, g1⟩
        case hR1 =>
        refine takeL (i := 0) (v := ?_) rfl (by kernel_rfl) (fun _ _ _ h => h) (Or.inl ⟨by rfl, ?hy2⟩) (by assumption) ?hr2
        case hy2 => intro w hSw; (try dsimp only at hSw); go_simp; try (with_reducible rfl)
        case hr2 =>
        try simp only [Act.put, List.setIfInBounds_toArray, List.set_cons_zero, List.set_cons_succ]
        refine takeL (i := 1) (v := ?_) rfl (by kernel_rfl) (fun _ _ _ h => h) (Or.inl ⟨by rfl, ?hy3⟩) (by assumption) ?hr3
        case hy3 => intro w hSw; (try dsimp only at hSw); go_simp; try (with_reducible rfl)
        case hr3 =>
        try simp only [Act.put, List.setIfInBounds_toArray, List.set_cons_zero, List.set_cons_succ]
        refine takeL (i := 2) (v := ?_) rfl (by kernel_rfl) (fun _ _ _ h => h) (Or.inl ⟨by rfl, ?hy4⟩) (by assumption) ?hr4
        case hy4 => intro w hSw; (try dsimp only at hSw); go_simp; try (with_reducible rfl)
        case hr4 =>
        try simp only [Act.put, List.setIfInBounds_toArray, List.set_cons_zero, List.set_cons_succ]
        refine takeL (i := 3) (v := ?_) rfl (by kernel_rfl) (fun _ _ _ h => h) (Or.inl ⟨by rfl, ?hy5⟩) (by assumption) ?hr5
        case hy5 => intro w hSw; (try dsimp only at hSw); go_simp; try (with_reducible rfl)
        case hr5 =>
        try simp only [Act.put, List.setIfInBounds_toArray, List.set_cons_zero, List.set_cons_succ]
        refine takeL (i := 4) (v := ?_) rfl (by kernel_rfl) (fun _ _ _ h => h) (Or.inl ⟨by rfl, ?hy6⟩) (by assumption) ?hr6
        case hy6 => intro w hSw; (try dsimp only at hSw); go_simp; try (with_reducible rfl)
        case hr6 =>
        try simp only [Act.put, List.setIfInBounds_toArray, List.set_cons_zero, List.set_cons_succ]
        refine takeL (i := 5) (v := ?_) rfl (by kernel_rfl) (fun _ _ _ h => h) (Or.inl ⟨by rfl, ?hy7⟩) (by assumption) ?hr7
        case hy7 => intro w hSw; (try dsimp only at hSw); go_simp; try (with_reducible rfl)
        case hr7 =>
        try simp only [Act.put, List.setIfInBounds_toArray, List.set_cons_zero, List.set_cons_succ]
        refine takeL (i := 6) (v := ?_) rfl (by kernel_rfl) (fun _ _ _ h => h) (Or.inl ⟨by rfl, ?hy8⟩) (by assumption) ?hr8
        case hy8 => intro w hSw; (try dsimp only at hSw); go_simp; try (with_reducible rfl)
        case hr8 =>
        try simp only [Act.put, List.setIfInBounds_toArray, List.set_cons_zero, List.set_cons_succ]
        refine callL (i := 7) rfl (by kernel_rfl) (fun K hK => ?_)
        go_simp
        refine (refOne_any m hm64 _).mono ?_
        rintro f9 y7 ⟨T8, d8, rfl, hm8, hb⟩
        have Qa6 := Lib.hid (Qa6.out.drew.keep hb)
        have Q76 := Lib.hid (Q76.out.drew.keep hb)
        have Q96 := Lib.hid (Q96.out.drew.keep hb)
        have Ha6 := Lib.hid (Ha6.out.drew.below hb)
        have H76 := Lib.hid (H76.out.drew.below hb)
        have H96 := Lib.hid (H96.out.drew.below hb)
        have HB6 := Lib.hid (chainN HB6.out.drew HB6.out.size hb)
        have H8 := Lib.hid hm8
        clear hm8
        clear g0 g1
        obtain ⟨g0, g1, -, -⟩ := Q96.out.two
        clear hb
        clear hHeld
        refine hK.out _ _ ⟨g0, g1⟩ (fun hHeld => ?_)
        clear hK K
        try simp only [Act.put, List.setIfInBounds_toArray, List.set_cons_zero, List.set_cons_succ]
        refine callL (i := 8) rfl (by kernel_rfl) (fun K hK => ?_)
        go_simp
        refine (same3_any m m T9 T8 _ _ d9 d8 _ _ (oneL m) (oneL m) _ H96.out H8.out HLL.out HRO.out).mono ?_
        rintro f10 y8 ⟨rfl, hb⟩
        rw [sameM_self]
        have Qa6 := Lib.hid (Qa6.out.keep hb)
        have Q76 := Lib.hid (Q76.out.keep hb)
        have Q96 := Lib.hid (Q96.out.keep hb)
        have Ha6 := Lib.hid (Ha6.out.below hb)
        have H76 := Lib.hid (H76.out.below hb)
        have H96 := Lib.hid (H96.out.below hb)
        have HB6 := Lib.hid (chainN HB6.out HB6.out.size hb)
        clear g0 g1
        obtain ⟨g0, g1, -, -⟩ := Q96.out.two
        clear hb
        clear hHeld
        refine hK.out _ _ ⟨g0, g1⟩ (fun hHeld => ?_)
        clear hK K
        try simp only [Act.put, List.setIfInBounds_toArray, List.set_cons_zero, List.set_cons_succ]
        refine takeL (i := 9) (v := ?_) rfl (by kernel_rfl) (fun _ _ _ h => h) (Or.inl ⟨by rfl, ?hy11⟩) (by assumption) ?hr11
        case hy11 => intro w hSw; (try dsimp only at hSw); go_simp; try (with_reducible rfl)
        case hr11 =>
        try simp only [Act.put, List.setIfInBounds_toArray, List.set_cons_zero, List.set_cons_succ]
        refine takeL (i := 10) (v := ?_) rfl (by kernel_rfl) (fun _ _ _ h => h) (Or.inl ⟨by rfl, ?hy12⟩) (by assumption) ?hr12
        case hy12 => intro w hSw; (try dsimp only at hSw); go_simp; try (with_reducible rfl)
        case hr12 =>
        try simp only [Act.put, List.setIfInBounds_toArray, List.set_cons_zero, List.set_cons_succ]
        refine takeL (i := 11) (v := ?_) rfl (by kernel_rfl) (fun _ _ _ h => h) (Or.inl ⟨by rfl, ?hy13⟩) (by assumption) ?hr13
        case hy13 => intro w hSw; (try dsimp only at hSw); go_simp; try (with_reducible rfl)
        case hr13 =>
        try simp only [Act.put, List.setIfInBounds_toArray, List.set_cons_zero, List.set_cons_succ]
        refine takeL (i := 12) (v := ?_) rfl (by kernel_rfl) (fun _ _ _ h => h) (Or.inl ⟨by rfl, ?hy14⟩) (by assumption) ?hr14
        case hy14 => intro w hSw; (try dsimp only at hSw); go_simp; try (with_reducible rfl)
        case hr14 =>
        try simp only [Act.put, List.setIfInBounds_toArray, List.set_cons_zero, List.set_cons_succ]
        refine takeL (i := 13) (v := ?_) rfl (by kernel_rfl) (fun _ _ _ h => h) (Or.inl ⟨by rfl, ?hy15⟩) (by assumption) ?hr15
        case hy15 => intro w hSw; (try dsimp only at hSw); go_simp; try (with_reducible rfl)
        case hr15 =>
        try simp only [Act.put, List.setIfInBounds_toArray, List.set_cons_zero, List.set_cons_succ]
        refine takeL (i := 14) (v := ?_) rfl (by kernel_rfl) (fun _ _ _ h => h) (Or.inl ⟨by rfl, ?hy16⟩) (by assumption) ?hr16
        case hy16 => intro w hSw; (try dsimp only at hSw); go_simp; try (with_reducible rfl)
        case hr16 =>
        try simp only [Act.put, List.setIfInBounds_toArray, List.set_cons_zero, List.set_cons_succ]
        refine takeL (i := 15) (v := ?_) rfl (by kernel_rfl) (fun _ _ _ h => h) (Or.inl ⟨by rfl, ?hy17⟩) (by assumption) ?hr17
        case hy17 => intro w hSw; (try dsimp only at hSw); go_simp; try (with_reducible rfl)
        case hr17 =>
        try simp only [Act.put, List.setIfInBounds_toArray, List.set_cons_zero, List.set_cons_succ]
        refine takeL (i := 16) (v := undef) rfl (by kernel_rfl) (fun _ _ _ h => h) (Or.inr ⟨by rfl, rfl⟩) (by assumption) ?hr18
        case hr18 =>
        try simp only [Act.put, List.setIfInBounds_toArray, List.set_cons_zero, List.set_cons_succ]
        refine takeL (i := 17) (v := undef) rfl (by kernel_rfl) (fun _ _ _ h => h) (Or.inr ⟨by rfl, rfl⟩) (by assumption) ?hr19
        case hr19 =>
        try simp only [Act.put, List.setIfInBounds_toArray, List.set_cons_zero, List.set_cons_succ]
        refine takeL (i := 18) (v := undef) rfl (by kernel_rfl) (fun _ _ _ h => h) (Or.inr ⟨by rfl, rfl⟩) (by assumption) ?hr20
        case hr20 =>
        try simp only [Act.put, List.setIfInBounds_toArray, List.set_cons_zero, List.set_cons_succ]
        refine takeL (i := 19) (v := undef) rfl (by kernel_rfl) (fun _ _ _ h => h) (Or.inr ⟨by rfl, rfl⟩) (by assumption) ?hr21
        case hr21 =>
        try simp only [Act.put, List.setIfInBounds_toArray, List.set_cons_zero, List.set_cons_succ]
        refine takeL (i := 20) (v := undef) rfl (by kernel_rfl) (fun _ _ _ h => h) (Or.inr ⟨by rfl, rfl⟩) (by assumption) ?hr22
        case hr22 =>
        try simp only [Act.put, List.setIfInBounds_toArray, List.set_cons_zero, List.set_cons_succ]
        refine takeL (i := 21) (v := undef) rfl (by kernel_rfl) (fun _ _ _ h => h) (Or.inr ⟨by rfl, rfl⟩) (by assumption) ?hr23
        case hr23 =>
        try simp only [Act.put, List.setIfInBounds_toArray, List.set_cons_zero, List.set_cons_succ]
        refine takeL (i := 22) (v := undef) rfl (by kernel_rfl) (fun _ _ _ h => h) (Or.inr ⟨by rfl, rfl⟩) (by assumption) ?hr24
        case hr24 =>
        try simp only [Act.put, List.setIfInBounds_toArray, List.set_cons_zero, List.set_cons_succ]
        refine takeL (i := 23) (v := undef) rfl (by kernel_rfl) (fun _ _ _ h => h) (Or.inr ⟨by rfl, rfl⟩) (by assumption) ?hr25
        case hr25 =>
        try simp only [Act.put, List.setIfInBounds_toArray, List.set_cons_zero, List.set_cons_succ]
        refine takeL (i := 24) (v := ?_) rfl (by kernel_rfl) (fun _ _ _ h => h) (Or.inl ⟨by rfl, ?hy26⟩) (by assumption) ?hr26
        case hy26 => intro w hSw; (try dsimp only at hSw); go_simp; try (with_reducible rfl)
        case hr26 =>
        try simp only [Act.put, List.setIfInBounds_toArray, List.set_cons_zero, List.set_cons_succ]
        refine takeL (i := 25) (v := ?_) rfl (by kernel_rfl) (fun _ _ _ h => h) (Or.inl ⟨by rfl, ?hy27⟩) (by assumption) ?hr27
        case hy27 => intro w hSw; (try dsimp only at hSw); go_simp; try (with_reducible rfl)
        case hr27 =>
        try simp only [Act.put, List.setIfInBounds_toArray, List.set_cons_zero, List.set_cons_succ]
        refine wpAnyH_done (by kernel_rfl) ?_ _
        cases hR : rightM N ms with
        | false =>
          have hE : turnE N ms = 1 := by simp [turnE, hR]
          have HN7 := Lib.hid (show turnN N ms = 0 by simp [turnN, hR])
          have HL7 := Lib.hid (show turnL N ms = [] by simp [turnL, hR])
          have HRR := Lib.hid hR
          rw [hE]
          clear hR hE
          rw [HN7.out, HL7.out] at Q76
          rw [HL7.out] at H76
          obtain ⟨e0, e1, -, -⟩ := Qa6.out.two
          go_wp2_with fail
          clear e0 e1
          refine (refRightM_any N A l c _ ms _ Ha6.out HML.out).mono ?_
          rintro e z1 ⟨rfl, hb⟩
          rw [HRR.out]
          have R7 := Lib.hid (Q76.out.keep hb)
          have K7 := Lib.hid (H76.out.below hb)
          have KB := Lib.hid (chainN HB6.out HB6.out.size hb)
          clear hb
          obtain ⟨j0, j1, -, -⟩ := R7.out.two
          go_wp2_with fail
          refine (same3_any 0 0 T7 none 0 0 d7 0 _ 0 [] [] _ K7.out (MatAt.nil _ _ _) (by omega) (by simp)).mono ?_
          rintro e z2 ⟨rfl, hb⟩
          rw [sameM_self]
          have KB := Lib.hid (chainN KB.out KB.out.size hb)
          clear hb
          go_wp2_with fail
          go_ret
          exact ⟨rfl, KB.out⟩
        | true =>
          have hbd := rightM_bd hR
          obtain ⟨q, rfl⟩ := Int.eq_ofNat_of_zero_le hbd.1
          have hE : turnE q ms = 0 := by simp [turnE, hR]
          have HN7 := Lib.hid (show turnN q ms = l by simp [turnN, hR, HL.out])
          have HL7 := Lib.hid (show turnL q ms = turnM q ms by simp [turnL, hR])
          have HRR := Lib.hid hR
          have HRT := Lib.hid (fun i => rowLen_turn q ms i hbd.2.2)
          have HTL := Lib.hid (show (turnM q ms).length ≤ 1000000 by rw [turnM_len]; omega)
          rw [hE]
          clear hR hbd hE
          rw [HN7.out, HL7.out] at Q76
          rw [HL7.out] at H76
          obtain ⟨e0, e1, -, -⟩ := Qa6.out.two
          go_wp2_with fail
          clear e0 e1
          refine (refRightM_any q A l c _ ms _ Ha6.out HML.out).mono ?_
          rintro e z1 ⟨rfl, hb⟩
          rw [HRR.out]
          have R7 := Lib.hid (Q76.out.keep hb)
          have Ra := Lib.hid (Qa6.out.keep hb)
          have Ka := Lib.hid (Ha6.out.below hb)
          have K7 := Lib.hid (H76.out.below hb)
          have KB := Lib.hid (chainN HB6.out HB6.out.size hb)
          clear hb
          obtain ⟨j0, j1, -, -⟩ := R7.out.two
          obtain ⟨i0, i1, -, -⟩ := Ra.out.two
          go_wp2_with fail
          go_region_held3 (fun w' => w'.cell? ⟨x1.heap.size, 0, none⟩ = some (.int .i64 l) ∧ w'.cell? ⟨x1.heap.size, 1, none⟩ = some (.slice T7 (turnM q ms).length d7) ∧ w'.cell? ⟨w.heap.size, 0, none⟩ = some (.int .i64 q) ∧ w'.cell? ⟨w.heap.size, 1, none⟩ = some (.slice A l c)) (go_keep)
            (first
              | (go_at_call 13; refine (refTurn_any q A l c _ ms _ Ka.out.drew HRR.out).mono ?_; rintro f1 y1 ⟨T8, d8, rfl, hm8, hb⟩; have R71 := Lib.hid (R7.out.drew.keep hb); have Ra1 := Lib.hid (Ra.out.drew.keep hb); have Ka1 := Lib.hid (Ka.out.drew.below hb); have K71 := Lib.hid (K7.out.drew.below hb); have KB1 := Lib.hid (chainN KB.out.drew KB.out.size hb); have K81 := Lib.hid (hm8); clear hb; obtain ⟨j01, j11, -, -⟩ := R71.out.two; obtain ⟨i01, i11, -, -⟩ := Ra1.out.two)
              | (go_at_call 10; refine (same3_any l l T7 T8 _ _ d7 d8 _ _ (turnM q ms) (turnM q ms) _ K71.out K81.out HTL.out HRT.out).mono ?_; rintro f2 y2 ⟨rfl, hb⟩; rw [sameM_self]; have R72 := Lib.hid (R71.out.keep hb); have Ra2 := Lib.hid (Ra1.out.keep hb); have Ka2 := Lib.hid (Ka1.out.below hb); have K72 := Lib.hid (K71.out.below hb); have KB2 := Lib.hid (chainN KB1.out KB1.out.size hb); have K82 := Lib.hid (K81.out.below hb); clear hb; obtain ⟨j02, j12, -, -⟩ := R72.out.two; obtain ⟨i02, i12, -, -⟩ := Ra2.out.two))
          go_wp2_with fail
          go_ret
          exact ⟨rfl, KB2.out⟩
      · have hs : smb n = false := (smb_no n).2 hn
        have eE : oneE n = 2 := by simp [oneE, hs]
        have HN9 := Lib.hid (show oneN n = 0 by simp [oneN, hs])
        have HL9 := Lib.hid (show oneM n = [] by simp [oneM, hs])
        clear hs
        rw [HN9.out, HL9.out] at Q96
        rw [HL9.out] at H96
        obtain ⟨g0, g1, -, -⟩ := Q96.out.two
        rw [eE]
        clear eE
        by_cases h0 : 0 ≤ n
        · have tt : decide (n ≤ 64) = false := by simp; omega
          clear hn
          go_wp2_with fail
          refine wp_region_held_drew (S := fun w' => w'.cell? ⟨x2.heap.size, 0, none⟩ = some (.int .i64 0) ∧ w'.cell? ⟨x2.heap.size, 1, none⟩ = some (.slice T9 0 d9)) (by kernel_rfl) ?hS28 (fun hHeld => ?hR28)
          case hS28 => exact ⟨g0, g1⟩
          case hR28 =>
          refine takeL (i := 0) (v := ?_) rfl (by kernel_rfl) (fun _ _ _ h => h) (Or.inl ⟨by rfl, ?hy29⟩) (by assumption) ?hr29
          case hy29 => intro w hSw; (try dsimp only at hSw); go_simp; try (with_reducible rfl)
          case hr29 =>
          try simp only [Act.put, List.setIfInBounds_toArray, List.set_cons_zero, List.set_cons_succ]
          refine takeL (i := 1) (v := ?_) rfl (by kernel_rfl) (fun _ _ _ h => h) (Or.inl ⟨by rfl, ?hy30⟩) (by assumption) ?hr30
          case hy30 => intro w hSw; (try dsimp only at hSw); go_simp; try (with_reducible rfl)
          case hr30 =>
          try simp only [Act.put, List.setIfInBounds_toArray, List.set_cons_zero, List.set_cons_succ]
          refine takeL (i := 2) (v := undef) rfl (by kernel_rfl) (fun _ _ _ h => h) (Or.inr ⟨by rfl, rfl⟩) (by assumption) ?hr31
          case hr31 =>
          try simp only [Act.put, List.setIfInBounds_toArray, List.set_cons_zero, List.set_cons_succ]
          refine takeL (i := 3) (v := undef) rfl (by kernel_rfl) (fun _ _ _ h => h) (Or.inr ⟨by rfl, rfl⟩) (by assumption) ?hr32
          case hr32 =>
          try simp only [Act.put, List.setIfInBounds_toArray, List.set_cons_zero, List.set_cons_succ]
          refine takeL (i := 4) (v := undef) rfl (by kernel_rfl) (fun _ _ _ h => h) (Or.inr ⟨by rfl, rfl⟩) (by assumption) ?hr33
          case hr33 =>
          try simp only [Act.put, List.setIfInBounds_toArray, List.set_cons_zero, List.set_cons_succ]
          refine takeL (i := 5) (v := undef) rfl (by kernel_rfl) (fun _ _ _ h => h) (Or.inr ⟨by rfl, rfl⟩) (by assumption) ?hr34
          case hr34 =>
          try simp only [Act.put, List.setIfInBounds_toArray, List.set_cons_zero, List.set_cons_succ]
          refine takeL (i := 6) (v := undef) rfl (by kernel_rfl) (fun _ _ _ h => h) (Or.inr ⟨by rfl, rfl⟩) (by assumption) ?hr35
          case hr35 =>
          try simp only [Act.put, List.setIfInBounds_toArray, List.set_cons_zero, List.set_cons_succ]
          refine takeL (i := 7) (v := undef) rfl (by kernel_rfl) (fun _ _ _ h => h) (Or.inr ⟨by rfl, rfl⟩) (by assumption) ?hr36
          case hr36 =>
          try simp only [Act.put, List.setIfInBounds_toArray, List.set_cons_zero, List.set_cons_succ]
          refine takeL (i := 8) (v := undef) rfl (by kernel_rfl) (fun _ _ _ h => h) (Or.inr ⟨by rfl, rfl⟩) (by assumption) ?hr37
          case hr37 =>
          try simp only [Act.put, List.setIfInBounds_toArray, List.set_cons_zero, List.set_cons_succ]
          refine takeL (i := 9) (v := undef) rfl (by kernel_rfl) (fun _ _ _ h => h) (Or.inr ⟨by rfl, rfl⟩) (by assumption) ?hr38
          case hr38 =>
          try simp only [Act.put, List.setIfInBounds_toArray, List.set_cons_zero, List.set_cons_succ]
          refine takeL (i := 10) (v := undef) rfl (by kernel_rfl) (fun _ _ _ h => h) (Or.inr ⟨by rfl, rfl⟩) (by assumption) ?hr39
          case hr39 =>
          try simp only [Act.put, List.setIfInBounds_toArray, List.set_cons_zero, List.set_cons_succ]
          refine takeL (i := 11) (v := ?_) rfl (by kernel_rfl) (fun _ _ _ h => h) (Or.inl ⟨by rfl, ?hy40⟩) (by assumption) ?hr40
          case hy40 => intro w hSw; (try dsimp only at hSw); go_simp; try (with_reducible rfl)
          case hr40 =>
          try simp only [Act.put, List.setIfInBounds_toArray, List.set_cons_zero, List.set_cons_succ]
          refine takeL (i := 12) (v := ?_) rfl (by kernel_rfl) (fun _ _ _ h => h) (Or.inl ⟨by rfl, ?hy41⟩) (by assumption) ?hr41
          case hy41 => intro w hSw; (try dsimp only at hSw); go_simp; try (with_reducible rfl)
          case hr41 =>
          try simp only [Act.put, List.setIfInBounds_toArray, List.set_cons_zero, List.set_cons_succ]
          refine takeL (i := 13) (v := ?_) rfl (by kernel_rfl) (fun _ _ _ h => h) (Or.inl ⟨by rfl, ?hy42⟩) (by assumption) ?hr42
          case hy42 => intro w hSw; (try dsimp only at hSw); go_simp; try (with_reducible rfl)
          case hr42 =>
          try simp only [Act.put, List.setIfInBounds_toArray, List.set_cons_zero, List.set_cons_succ]
          refine takeL (i := 14) (v := ?_) rfl (by kernel_rfl) (fun _ _ _ h => h) (Or.inl ⟨by rfl, ?hy43⟩) (by assumption) ?hr43
          case hy43 => intro w hSw; (try dsimp only at hSw); go_simp; try (with_reducible rfl)
          case hr43 =>
          try simp only [Act.put, List.setIfInBounds_toArray, List.set_cons_zero, List.set_cons_succ]
          refine takeL (i := 15) (v := ?_) rfl (by kernel_rfl) (fun _ _ _ h => h) (Or.inl ⟨by rfl, ?hy44⟩) (by assumption) ?hr44
          case hy44 => intro w hSw; (try dsimp only at hSw); go_simp; try (with_reducible rfl)
          case hr44 =>
          try simp only [Act.put, List.setIfInBounds_toArray, List.set_cons_zero, List.set_cons_succ]
          refine takeL (i := 16) (v := ?_) rfl (by kernel_rfl) (fun _ _ _ h => h) (Or.inl ⟨by rfl, ?hy45⟩) (by assumption) ?hr45
          case hy45 => intro w hSw; (try dsimp only at hSw); go_simp; try (with_reducible rfl)
          case hr45 =>
          try simp only [Act.put, List.setIfInBounds_toArray, List.set_cons_zero, List.set_cons_succ]
          refine takeL (i := 17) (v := ?_) rfl (by kernel_rfl) (fun _ _ _ h => h) (Or.inl ⟨by rfl, ?hy46⟩) (by assumption) ?hr46
          case hy46 => intro w hSw; (try dsimp only at hSw); go_simp; try (with_reducible rfl)
          case hr46 =>
          try simp only [Act.put, List.setIfInBounds_toArray, List.set_cons_zero, List.set_cons_succ]
          refine takeL (i := 18) (v := ?_) rfl (by kernel_rfl) (fun _ _ _ h => h) (Or.inl ⟨by rfl, ?hy47⟩) (by assumption) ?hr47
          case hy47 => intro w hSw; (try dsimp only at hSw); go_simp; try (with_reducible rfl)
          case hr47 =>
          try simp only [Act.put, List.setIfInBounds_toArray, List.set_cons_zero, List.set_cons_succ]
          refine takeL (i := 19) (v := ?_) rfl (by kernel_rfl) (fun _ _ _ h => h) (Or.inl ⟨by rfl, ?hy48⟩) (by assumption) ?hr48
          case hy48 => intro w hSw; (try dsimp only at hSw); go_simp; try (with_reducible rfl)
          case hr48 =>
          try simp only [Act.put, List.setIfInBounds_toArray, List.set_cons_zero, List.set_cons_succ]
          refine takeL (i := 20) (v := ?_) rfl (by kernel_rfl) (fun _ _ _ h => h) (Or.inl ⟨by rfl, ?hy49⟩) (by assumption) ?hr49
          case hy49 => intro w hSw; (try dsimp only at hSw); go_simp; try (with_reducible rfl)
          case hr49 =>
          try simp only [Act.put, List.setIfInBounds_toArray, List.set_cons_zero, List.set_cons_succ]
          refine callL (i := 21) rfl (by kernel_rfl) (fun K hK => ?_)
          go_simp
          refine (same3_any 0 0 T9 none 0 0 d9 0 _ 0 [] [] _ H96.out.drew (MatAt.nil _ _ _) (by omega) (by simp)).mono ?_
          rintro f50 y21 ⟨rfl, hb⟩
          rw [sameM_self]
          have Qa6 := Lib.hid (Qa6.out.drew.keep hb)
          have Q76 := Lib.hid (Q76.out.drew.keep hb)
          have Q96 := Lib.hid (Q96.out.drew.keep hb)
          have Ha6 := Lib.hid (Ha6.out.drew.below hb)
          have H76 := Lib.hid (H76.out.drew.below hb)
          have H96 := Lib.hid (H96.out.drew.below hb)
          have HB6 := Lib.hid (chainN HB6.out.drew HB6.out.size hb)
          clear g0 g1
          obtain ⟨g0, g1, -, -⟩ := Q96.out.two
          clear hb
          clear hHeld
          refine hK.out _ _ ⟨g0, g1⟩ (fun hHeld => ?_)
          clear hK K
          try simp only [Act.put, List.setIfInBounds_toArray, List.set_cons_zero, List.set_cons_succ]
          refine takeL (i := 22) (v := ?_) rfl (by kernel_rfl) (fun _ _ _ h => h) (Or.inl ⟨by rfl, ?hy51⟩) (by assumption) ?hr51
          case hy51 => intro w hSw; (try dsimp only at hSw); go_simp; try (with_reducible rfl)
          case hr51 =>
          try simp only [Act.put, List.setIfInBounds_toArray, List.set_cons_zero, List.set_cons_succ]
          refine takeL (i := 23) (v := ?_) rfl (by kernel_rfl) (fun _ _ _ h => h) (Or.inl ⟨by rfl, ?hy52⟩) (by assumption) ?hr52
          case hy52 => intro w hSw; (try dsimp only at hSw); go_simp; try (with_reducible rfl)
          case hr52 =>
          try simp only [Act.put, List.setIfInBounds_toArray, List.set_cons_zero, List.set_cons_succ]
          refine takeL (i := 24) (v := ?_) rfl (by kernel_rfl) (fun _ _ _ h => h) (Or.inl ⟨by rfl, ?hy53⟩) (by assumption) ?hr53
          case hy53 => intro w hSw; (try dsimp only at hSw); go_simp; try (with_reducible rfl)
          case hr53 =>
          try simp only [Act.put, List.setIfInBounds_toArray, List.set_cons_zero, List.set_cons_succ]
          refine takeL (i := 25) (v := ?_) rfl (by kernel_rfl) (fun _ _ _ h => h) (Or.inl ⟨by rfl, ?hy54⟩) (by assumption) ?hr54
          case hy54 => intro w hSw; (try dsimp only at hSw); go_simp; try (with_reducible rfl)
          case hr54 =>
          try simp only [Act.put, List.setIfInBounds_toArray, List.set_cons_zero, List.set_cons_succ]
          refine wpAnyH_done (by kernel_rfl) ?_ _
          cases hR : rightM N ms with
          | false =>
            have hE : turnE N ms = 1 := by simp [turnE, hR]
            have HN7 := Lib.hid (show turnN N ms = 0 by simp [turnN, hR])
            have HL7 := Lib.hid (show turnL N ms = [] by simp [turnL, hR])
            have HRR := Lib.hid hR
            rw [hE]
            clear hR hE
            rw [HN7.out, HL7.out] at Q76
            rw [HL7.out] at H76
            obtain ⟨e0, e1, -, -⟩ := Qa6.out.two
            go_wp2_with fail
            clear e0 e1
            refine (refRightM_any N A l c _ ms _ Ha6.out HML.out).mono ?_
            rintro e z1 ⟨rfl, hb⟩
            rw [HRR.out]
            have R7 := Lib.hid (Q76.out.keep hb)
            have K7 := Lib.hid (H76.out.below hb)
            have KB := Lib.hid (chainN HB6.out HB6.out.size hb)
            clear hb
            obtain ⟨j0, j1, -, -⟩ := R7.out.two
            go_wp2_with fail
            refine (same3_any 0 0 T7 none 0 0 d7 0 _ 0 [] [] _ K7.out (MatAt.nil _ _ _) (by omega) (by simp)).mono ?_
            rintro e z2 ⟨rfl, hb⟩
            rw [sameM_self]
            have KB := Lib.hid (chainN KB.out KB.out.size hb)
            clear hb
            go_wp2_with fail
            go_ret
            exact ⟨rfl, KB.out⟩
          | true =>
            have hbd := rightM_bd hR
            obtain ⟨q, rfl⟩ := Int.eq_ofNat_of_zero_le hbd.1
            have hE : turnE q ms = 0 := by simp [turnE, hR]
            have HN7 := Lib.hid (show turnN q ms = l by simp [turnN, hR, HL.out])
            have HL7 := Lib.hid (show turnL q ms = turnM q ms by simp [turnL, hR])
            have HRR := Lib.hid hR
            have HRT := Lib.hid (fun i => rowLen_turn q ms i hbd.2.2)
            have HTL := Lib.hid (show (turnM q ms).length ≤ 1000000 by rw [turnM_len]; omega)
            rw [hE]
            clear hR hbd hE
            rw [HN7.out, HL7.out] at Q76
            rw [HL7.out] at H76
            obtain ⟨e0, e1, -, -⟩ := Qa6.out.two
            go_wp2_with fail
            clear e0 e1
            refine (refRightM_any q A l c _ ms _ Ha6.out HML.out).mono ?_
            rintro e z1 ⟨rfl, hb⟩
            rw [HRR.out]
            have R7 := Lib.hid (Q76.out.keep hb)
            have Ra := Lib.hid (Qa6.out.keep hb)
            have Ka := Lib.hid (Ha6.out.below hb)
            have K7 := Lib.hid (H76.out.below hb)
            have KB := Lib.hid (chainN HB6.out HB6.out.size hb)
            clear hb
            obtain ⟨j0, j1, -, -⟩ := R7.out.two
            obtain ⟨i0, i1, -, -⟩ := Ra.out.two
            go_wp2_with fail
            go_region_held3 (fun w' => w'.cell? ⟨x1.heap.size, 0, none⟩ = some (.int .i64 l) ∧ w'.cell? ⟨x1.heap.size, 1, none⟩ = some (.slice T7 (turnM q ms).length d7) ∧ w'.cell? ⟨w.heap.size, 0, none⟩ = some (.int .i64 q) ∧ w'.cell? ⟨w.heap.size, 1, none⟩ = some (.slice A l c)) (go_keep)
              (first
                | (go_at_call 13; refine (refTurn_any q A l c _ ms _ Ka.out.drew HRR.out).mono ?_; rintro f1 y1 ⟨T8, d8, rfl, hm8, hb⟩; have R71 := Lib.hid (R7.out.drew.keep hb); have Ra1 := Lib.hid (Ra.out.drew.keep hb); have Ka1 := Lib.hid (Ka.out.drew.below hb); have K71 := Lib.hid (K7.out.drew.below hb); have KB1 := Lib.hid (chainN KB.out.drew KB.out.size hb); have K81 := Lib.hid (hm8); clear hb; obtain ⟨j01, j11, -, -⟩ := R71.out.two; obtain ⟨i01, i11, -, -⟩ := Ra1.out.two)
                | (go_at_call 10; refine (same3_any l l T7 T8 _ _ d7 d8 _ _ (turnM q ms) (turnM q ms) _ K71.out K81.out HTL.out HRT.out).mono ?_; rintro f2 y2 ⟨rfl, hb⟩; rw [sameM_self]; have R72 := Lib.hid (R71.out.keep hb); have Ra2 := Lib.hid (Ra1.out.keep hb); have Ka2 := Lib.hid (Ka1.out.below hb); have K72 := Lib.hid (K71.out.below hb); have KB2 := Lib.hid (chainN KB1.out KB1.out.size hb); have K82 := Lib.hid (K81.out.below hb); clear hb; obtain ⟨j02, j12, -, -⟩ := R72.out.two; obtain ⟨i02, i12, -, -⟩ := Ra2.out.two))
            go_wp2_with fail
            go_ret
            exact ⟨rfl, KB2.out⟩
        · have tt : decide (0 ≤ n) = false := by simpa using h0
          clear hn
          go_wp2_with fail
          refine wp_region_held_drew (S := fun w' => w'.cell? ⟨x2.heap.size, 0, none⟩ = some (.int .i64 0) ∧ w'.cell? ⟨x2.heap.size, 1, none⟩ = some (.slice T9 0 d9)) (by kernel_rfl) ?hS28 (fun hHeld => ?hR28)
          case hS28 => exact ⟨g0, g1⟩
          case hR28 =>
          refine takeL (i := 0) (v := ?_) rfl (by kernel_rfl) (fun _ _ _ h => h) (Or.inl ⟨by rfl, ?hy29⟩) (by assumption) ?hr29
          case hy29 => intro w hSw; (try dsimp only at hSw); go_simp; try (with_reducible rfl)
          case hr29 =>
          try simp only [Act.put, List.setIfInBounds_toArray, List.set_cons_zero, List.set_cons_succ]
          refine takeL (i := 1) (v := ?_) rfl (by kernel_rfl) (fun _ _ _ h => h) (Or.inl ⟨by rfl, ?hy30⟩) (by assumption) ?hr30
          case hy30 => intro w hSw; (try dsimp only at hSw); go_simp; try (with_reducible rfl)
          case hr30 =>
          try simp only [Act.put, List.setIfInBounds_toArray, List.set_cons_zero, List.set_cons_succ]
          refine takeL (i := 2) (v := undef) rfl (by kernel_rfl) (fun _ _ _ h => h) (Or.inr ⟨by rfl, rfl⟩) (by assumption) ?hr31
          case hr31 =>
          try simp only [Act.put, List.setIfInBounds_toArray, List.set_cons_zero, List.set_cons_succ]
          refine takeL (i := 3) (v := undef) rfl (by kernel_rfl) (fun _ _ _ h => h) (Or.inr ⟨by rfl, rfl⟩) (by assumption) ?hr32
          case hr32 =>
          try simp only [Act.put, List.setIfInBounds_toArray, List.set_cons_zero, List.set_cons_succ]
          refine takeL (i := 4) (v := undef) rfl (by kernel_rfl) (fun _ _ _ h => h) (Or.inr ⟨by rfl, rfl⟩) (by assumption) ?hr33
          case hr33 =>
          try simp only [Act.put, List.setIfInBounds_toArray, List.set_cons_zero, List.set_cons_succ]
          refine takeL (i := 5) (v := undef) rfl (by kernel_rfl) (fun _ _ _ h => h) (Or.inr ⟨by rfl, rfl⟩) (by assumption) ?hr34
          case hr34 =>
          try simp only [Act.put, List.setIfInBounds_toArray, List.set_cons_zero, List.set_cons_succ]
          refine takeL (i := 6) (v := undef) rfl (by kernel_rfl) (fun _ _ _ h => h) (Or.inr ⟨by rfl, rfl⟩) (by assumption) ?hr35
          case hr35 =>
          try simp only [Act.put, List.setIfInBounds_toArray, List.set_cons_zero, List.set_cons_succ]
          refine takeL (i := 7) (v := undef) rfl (by kernel_rfl) (fun _ _ _ h => h) (Or.inr ⟨by rfl, rfl⟩) (by assumption) ?hr36
          case hr36 =>
          try simp only [Act.put, List.setIfInBounds_toArray, List.set_cons_zero, List.set_cons_succ]
          refine takeL (i := 8) (v := undef) rfl (by kernel_rfl) (fun _ _ _ h => h) (Or.inr ⟨by rfl, rfl⟩) (by assumption) ?hr37
          case hr37 =>
          try simp only [Act.put, List.setIfInBounds_toArray, List.set_cons_zero, List.set_cons_succ]
          refine takeL (i := 9) (v := undef) rfl (by kernel_rfl) (fun _ _ _ h => h) (Or.inr ⟨by rfl, rfl⟩) (by assumption) ?hr38
          case hr38 =>
          try simp only [Act.put, List.setIfInBounds_toArray, List.set_cons_zero, List.set_cons_succ]
          refine takeL (i := 10) (v := undef) rfl (by kernel_rfl) (fun _ _ _ h => h) (Or.inr ⟨by rfl, rfl⟩) (by assumption) ?hr39
          case hr39 =>
          try simp only [Act.put, List.setIfInBounds_toArray, List.set_cons_zero, List.set_cons_succ]
          refine takeL (i := 11) (v := ?_) rfl (by kernel_rfl) (fun _ _ _ h => h) (Or.inl ⟨by rfl, ?hy40⟩) (by assumption) ?hr40
          case hy40 => intro w hSw; (try dsimp only at hSw); go_simp; try (with_reducible rfl)
          case hr40 =>
          try simp only [Act.put, List.setIfInBounds_toArray, List.set_cons_zero, List.set_cons_succ]
          refine takeL (i := 12) (v := ?_) rfl (by kernel_rfl) (fun _ _ _ h => h) (Or.inl ⟨by rfl, ?hy41⟩) (by assumption) ?hr41
          case hy41 => intro w hSw; (try dsimp only at hSw); go_simp; try (with_reducible rfl)
          case hr41 =>
          try simp only [Act.put, List.setIfInBounds_toArray, List.set_cons_zero, List.set_cons_succ]
          refine takeL (i := 13) (v := ?_) rfl (by kernel_rfl) (fun _ _ _ h => h) (Or.inl ⟨by rfl, ?hy42⟩) (by assumption) ?hr42
          case hy42 => intro w hSw; (try dsimp only at hSw); go_simp; try (with_reducible rfl)
          case hr42 =>
          try simp only [Act.put, List.setIfInBounds_toArray, List.set_cons_zero, List.set_cons_succ]
          refine takeL (i := 14) (v := ?_) rfl (by kernel_rfl) (fun _ _ _ h => h) (Or.inl ⟨by rfl, ?hy43⟩) (by assumption) ?hr43
          case hy43 => intro w hSw; (try dsimp only at hSw); go_simp; try (with_reducible rfl)
          case hr43 =>
          try simp only [Act.put, List.setIfInBounds_toArray, List.set_cons_zero, List.set_cons_succ]
          refine takeL (i := 15) (v := ?_) rfl (by kernel_rfl) (fun _ _ _ h => h) (Or.inl ⟨by rfl, ?hy44⟩) (by assumption) ?hr44
          case hy44 => intro w hSw; (try dsimp only at hSw); go_simp; try (with_reducible rfl)
          case hr44 =>
          try simp only [Act.put, List.setIfInBounds_toArray, List.set_cons_zero, List.set_cons_succ]
          refine takeL (i := 16) (v := ?_) rfl (by kernel_rfl) (fun _ _ _ h => h) (Or.inl ⟨by rfl, ?hy45⟩) (by assumption) ?hr45
          case hy45 => intro w hSw; (try dsimp only at hSw); go_simp; try (with_reducible rfl)
          case hr45 =>
          try simp only [Act.put, List.setIfInBounds_toArray, List.set_cons_zero, List.set_cons_succ]
          refine takeL (i := 17) (v := ?_) rfl (by kernel_rfl) (fun _ _ _ h => h) (Or.inl ⟨by rfl, ?hy46⟩) (by assumption) ?hr46
          case hy46 => intro w hSw; (try dsimp only at hSw); go_simp; try (with_reducible rfl)
          case hr46 =>
          try simp only [Act.put, List.setIfInBounds_toArray, List.set_cons_zero, List.set_cons_succ]
          refine takeL (i := 18) (v := ?_) rfl (by kernel_rfl) (fun _ _ _ h => h) (Or.inl ⟨by rfl, ?hy47⟩) (by assumption) ?hr47
          case hy47 => intro w hSw; (try dsimp only at hSw); go_simp; try (with_reducible rfl)
          case hr47 =>
          try simp only [Act.put, List.setIfInBounds_toArray, List.set_cons_zero, List.set_cons_succ]
          refine takeL (i := 19) (v := ?_) rfl (by kernel_rfl) (fun _ _ _ h => h) (Or.inl ⟨by rfl, ?hy48⟩) (by assumption) ?hr48
          case hy48 => intro w hSw; (try dsimp only at hSw); go_simp; try (with_reducible rfl)
          case hr48 =>
          try simp only [Act.put, List.setIfInBounds_toArray, List.set_cons_zero, List.set_cons_succ]
          refine takeL (i := 20) (v := ?_) rfl (by kernel_rfl) (fun _ _ _ h => h) (Or.inl ⟨by rfl, ?hy49⟩) (by assumption) ?hr49
          case hy49 => intro w hSw; (try dsimp only at hSw); go_simp; try (with_reducible rfl)
          case hr49 =>
          try simp only [Act.put, List.setIfInBounds_toArray, List.set_cons_zero, List.set_cons_succ]
          refine callL (i := 21) rfl (by kernel_rfl) (fun K hK => ?_)
          go_simp
          refine (same3_any 0 0 T9 none 0 0 d9 0 _ 0 [] [] _ H96.out.drew (MatAt.nil _ _ _) (by omega) (by simp)).mono ?_
          rintro f50 y21 ⟨rfl, hb⟩
          rw [sameM_self]
          have Qa6 := Lib.hid (Qa6.out.drew.keep hb)
          have Q76 := Lib.hid (Q76.out.drew.keep hb)
          have Q96 := Lib.hid (Q96.out.drew.keep hb)
          have Ha6 := Lib.hid (Ha6.out.drew.below hb)
          have H76 := Lib.hid (H76.out.drew.below hb)
          have H96 := Lib.hid (H96.out.drew.below hb)
          have HB6 := Lib.hid (chainN HB6.out.drew HB6.out.size hb)
          clear g0 g1
          obtain ⟨g0, g1, -, -⟩ := Q96.out.two
          clear hb
          clear hHeld
          refine hK.out _ _ ⟨g0, g1⟩ (fun hHeld => ?_)
          clear hK K
          try simp only [Act.put, List.setIfInBounds_toArray, List.set_cons_zero, List.set_cons_succ]
          refine takeL (i := 22) (v := ?_) rfl (by kernel_rfl) (fun _ _ _ h => h) (Or.inl ⟨by rfl, ?hy51⟩) (by assumption) ?hr51
          case hy51 => intro w hSw; (try dsimp only at hSw); go_simp; try (with_reducible rfl)
          case hr51 =>
          try simp only [Act.put, List.setIfInBounds_toArray, List.set_cons_zero, List.set_cons_succ]
          refine takeL (i := 23) (v := ?_) rfl (by kernel_rfl) (fun _ _ _ h => h) (Or.inl ⟨by rfl, ?hy52⟩) (by assumption) ?hr52
          case hy52 => intro w hSw; (try dsimp only at hSw); go_simp; try (with_reducible rfl)
          case hr52 =>
          try simp only [Act.put, List.setIfInBounds_toArray, List.set_cons_zero, List.set_cons_succ]
          refine takeL (i := 24) (v := ?_) rfl (by kernel_rfl) (fun _ _ _ h => h) (Or.inl ⟨by rfl, ?hy53⟩) (by assumption) ?hr53
          case hy53 => intro w hSw; (try dsimp only at hSw); go_simp; try (with_reducible rfl)
          case hr53 =>
          try simp only [Act.put, List.setIfInBounds_toArray, List.set_cons_zero, List.set_cons_succ]
          refine takeL (i := 25) (v := ?_) rfl (by kernel_rfl) (fun _ _ _ h => h) (Or.inl ⟨by rfl, ?hy54⟩) (by assumption) ?hr54
          case hy54 => intro w hSw; (try dsimp only at hSw); go_simp; try (with_reducible rfl)
          case hr54 =>
          try simp only [Act.put, List.setIfInBounds_toArray, List.set_cons_zero, List.set_cons_succ]
          refine wpAnyH_done (by kernel_rfl) ?_ _
          cases hR : rightM N ms with
          | false =>
            have hE : turnE N ms = 1 := by simp [turnE, hR]
            have HN7 := Lib.hid (show turnN N ms = 0 by simp [turnN, hR])
            have HL7 := Lib.hid (show turnL N ms = [] by simp [turnL, hR])
            have HRR := Lib.hid hR
            rw [hE]
            clear hR hE
            rw [HN7.out, HL7.out] at Q76
            rw [HL7.out] at H76
            obtain ⟨e0, e1, -, -⟩ := Qa6.out.two
            go_wp2_with fail
            clear e0 e1
            refine (refRightM_any N A l c _ ms _ Ha6.out HML.out).mono ?_
            rintro e z1 ⟨rfl, hb⟩
            rw [HRR.out]
            have R7 := Lib.hid (Q76.out.keep hb)
            have K7 := Lib.hid (H76.out.below hb)
            have KB := Lib.hid (chainN HB6.out HB6.out.size hb)
            clear hb
            obtain ⟨j0, j1, -, -⟩ := R7.out.two
            go_wp2_with fail
            refine (same3_any 0 0 T7 none 0 0 d7 0 _ 0 [] [] _ K7.out (MatAt.nil _ _ _) (by omega) (by simp)).mono ?_
            rintro e z2 ⟨rfl, hb⟩
            rw [sameM_self]
            have KB := Lib.hid (chainN KB.out KB.out.size hb)
            clear hb
            go_wp2_with fail
            go_ret
            exact ⟨rfl, KB.out⟩
          | true =>
            have hbd := rightM_bd hR
            obtain ⟨q, rfl⟩ := Int.eq_ofNat_of_zero_le hbd.1
            have hE : turnE q ms = 0 := by simp [turnE, hR]
            have HN7 := Lib.hid (show turnN q ms = l by simp [turnN, hR, HL.out])
            have HL7 := Lib.hid (show turnL q ms = turnM q ms by simp [turnL, hR])
            have HRR := Lib.hid hR
            have HRT := Lib.hid (fun i => rowLen_turn q ms i hbd.2.2)
            have HTL := Lib.hid (show (turnM q ms).length ≤ 1000000 by rw [turnM_len]; omega)
            rw [hE]
            clear hR hbd hE
            rw [HN7.out, HL7.out] at Q76
            rw [HL7.out] at H76
            obtain ⟨e0, e1, -, -⟩ := Qa6.out.two
            go_wp2_with fail
            clear e0 e1
            refine (refRightM_any q A l c _ ms _ Ha6.out HML.out).mono ?_
            rintro e z1 ⟨rfl, hb⟩
            rw [HRR.out]
            have R7 := Lib.hid (Q76.out.keep hb)
            have Ra := Lib.hid (Qa6.out.keep hb)
            have Ka := Lib.hid (Ha6.out.below hb)
            have K7 := Lib.hid (H76.out.below hb)
            have KB := Lib.hid (chainN HB6.out HB6.out.size hb)
            clear hb
            obtain ⟨j0, j1, -, -⟩ := R7.out.two
            obtain ⟨i0, i1, -, -⟩ := Ra.out.two
            go_wp2_with fail
            go_region_held3 (fun w' => w'.cell? ⟨x1.heap.size, 0, none⟩ = some (.int .i64 l) ∧ w'.cell? ⟨x1.heap.size, 1, none⟩ = some (.slice T7 (turnM q ms).length d7) ∧ w'.cell? ⟨w.heap.size, 0, none⟩ = some (.int .i64 q) ∧ w'.cell? ⟨w.heap.size, 1, none⟩ = some (.slice A l c)) (go_keep)
              (first
                | (go_at_call 13; refine (refTurn_any q A l c _ ms _ Ka.out.drew HRR.out).mono ?_; rintro f1 y1 ⟨T8, d8, rfl, hm8, hb⟩; have R71 := Lib.hid (R7.out.drew.keep hb); have Ra1 := Lib.hid (Ra.out.drew.keep hb); have Ka1 := Lib.hid (Ka.out.drew.below hb); have K71 := Lib.hid (K7.out.drew.below hb); have KB1 := Lib.hid (chainN KB.out.drew KB.out.size hb); have K81 := Lib.hid (hm8); clear hb; obtain ⟨j01, j11, -, -⟩ := R71.out.two; obtain ⟨i01, i11, -, -⟩ := Ra1.out.two)
                | (go_at_call 10; refine (same3_any l l T7 T8 _ _ d7 d8 _ _ (turnM q ms) (turnM q ms) _ K71.out K81.out HTL.out HRT.out).mono ?_; rintro f2 y2 ⟨rfl, hb⟩; rw [sameM_self]; have R72 := Lib.hid (R71.out.keep hb); have Ra2 := Lib.hid (Ra1.out.keep hb); have Ka2 := Lib.hid (Ka1.out.below hb); have K72 := Lib.hid (K71.out.below hb); have KB2 := Lib.hid (chainN KB1.out KB1.out.size hb); have K82 := Lib.hid (K81.out.below hb); clear hb; obtain ⟨j02, j12, -, -⟩ := R72.out.two; obtain ⟨i02, i12, -, -⟩ := Ra2.out.two))
            go_wp2_with fail
            go_ret
            exact ⟨rfl, KB2.out⟩
end Go.Proofs.Ytljooknodnblbaa
