/- Parts: MrX, Open, OpenT. -/
import Derived.Test.YtljooknodnblbaaDoorZh
import Derived.Lib.SmallJoins
import Derived.OpenShut
import Derived.ProofKit
import Derived.SliceStrings
namespace Go.Proofs.YtljooknodnblbaaDoor
section
/- MatrixRound: the walk. -/
set_option linter.unusedVariables false
set_option linter.unusedSimpArgs false
open Go.RowKit
set_option maxRecDepth 100000 in
set_option maxHeartbeats 16000000 in
theorem mround_walk (N M : Int) (A0 B0 : Option Addr) (l0 c0 k0 d0 : Nat) (ms0 ks0 : List (Int × List Nat)) (n : Int) (L0 : Option Addr) (t0 u0 : Nat) (ss0 : List ByteArray) (w : World)
    (s1 : SliceOk A0 l0 c0) (s2 : SliceOk B0 k0 d0) (s3 : SliceOk L0 t0 u0) (h1 : MatAt w 0 A0 l0 ms0) (h2 : MatAt w 0 B0 k0 ks0) (h3 : Texts w L0 t0 ss0) (hT : TabAt w 0) :
    Calls Tryd.prog 4 #[.agg #[.int .i64 N, .slice A0 l0 c0], .agg #[.int .i64 M, .slice B0 k0 d0], .int .i64 n, .slice L0 t0 u0] w fun e w' => e = .returned (.bool true) ∧ Below w.heap.size w w' := by
  have q0 := (Box.new w 24 #[.int .i64 N, .slice A0 l0 c0]).alloc (.cells #[.int .i64 M, .slice B0 k0 d0] 24)
  have q1 := Box.new (w.alloc (.cells #[.int .i64 N, .slice A0 l0 c0] 24)) 24 #[.int .i64 M, .slice B0 k0 d0]
  have hW : Below w.heap.size w ((w.alloc (.cells #[.int .i64 N, .slice A0 l0 c0] 24)).alloc (.cells #[.int .i64 M, .slice B0 k0 d0] 24)) := ((Below.refl _ _).alloc (Nat.le_refl _) _).alloc (by simp) _
  simp only [World.size_alloc] at q1
  have HT0 := Lib.hid hT
  go_enter Tryd.func4, Tryd.ntmps4
  go_wp2_with fail
  generalize hW0 : (w.alloc (.cells #[.int .i64 N, .slice A0 l0 c0] 24)).alloc (.cells #[.int .i64 M, .slice B0 k0 d0] 24) = W at *
  clear hW0 hT
  have hz := q1.lt
  have Q0 := Lib.hid q0
  have Q1 := Lib.hid q1
  have HW := Lib.hid hW
  have H1 := Lib.hid (h1.below hW)
  have H2 := Lib.hid (h2.below hW)
  have H3 := Lib.hid (h3.below hW)
  obtain ⟨a0, a1, -, -⟩ := q0.two
  obtain ⟨b0, b1, -, -⟩ := q1.two
  clear q0 q1 hW h1 h2 h3
  go_cut [3] (fun s3 wx => ∃ A l c B k d L t u, s3 = .slice L t u ∧ t ≤ u ∧ u ≤ maxLen ∧ Box wx w.heap.size 24 #[.int .i64 N, .slice A l c] ∧ Box wx (w.heap.size + 1) 24 #[.int .i64 M, .slice B k d] ∧ MatAt wx (w.heap.size + 2) A l (fewM ms0) ∧ MatAt wx (w.heap.size + 2) B k (fewM ks0) ∧ Texts wx L t (cuts ss0 66) ∧ Below w.heap.size w wx)
  case first =>
    go_region_with (first
      | (go_at_call_of 5 (Value.agg #[.int .i64 N, .slice A0 l0 c0]); refine (few3_any N A0 l0 c0 ms0 _ s1 (by exact H1.out)).mono ?_; rintro e1 x1 ⟨A1, d1, rfl, hw1, hb1⟩; have P0 := Lib.hid (Q0.out.drew.keep hb1); have P1 := Lib.hid (Q1.out.drew.keep hb1); have J2 := Lib.hid (H2.out.drew.below hb1); have J3 := Lib.hid ((show Texts W.drew L0 t0 ss0 from H3.out).below hb1); have T1 := Lib.hid (chain HW.out.drew hb1); have hx1 : W.heap.size ≤ x1.heap.size := hb1.size; have hw1 := Lib.hid hw1; clear hb1; obtain ⟨z0, z1, -, -⟩ := P1.out.two)
      | (go_at_call_of 5 (Value.agg #[.int .i64 M, .slice B0 k0 d0]); refine (few3_any M B0 k0 d0 ks0 _ s2 (by exact J2.out)).mono ?_; rintro e2 x2 ⟨A2, d2, rfl, hw2, hb2⟩; have P0 := Lib.hid (P0.out.keep hb2); have P1 := Lib.hid (P1.out.keep hb2); have J1 := Lib.hid (hw1.out.below hb2); have J2 := Lib.hid hw2; have J3 := Lib.hid (J3.out.below hb2); have T2 := Lib.hid (chain T1.out hb2); have hx2 : x1.heap.size ≤ x2.heap.size := hb2.size; clear hb2 hw2)
      | (go_at_call 6; refine (blocks3_any L0 t0 u0 ss0 _ (by exact J3.out) s3).mono ?_; rintro e3 x3 ⟨A3, d3, rfl, q1, q2, q3, hb3⟩; have P0 := Lib.hid (P0.out.keep hb3); have P1 := Lib.hid (P1.out.keep hb3); have J1 := Lib.hid (J1.out.below hb3); have J2 := Lib.hid (J2.out.below hb3); have J3 := Lib.hid q3; have T3 := Lib.hid (chain T2.out hb3); clear hb3 q3; obtain ⟨k6, k7, f0, f1⟩ := P0.out.two; obtain ⟨k8, k9, f2, f3⟩ := P1.out.two))
    all_goals
      go_wp2_with fail
      go_meet
      have hTm := two_mats (j1 := N) (j2 := M) (c1 := d1) (c2 := d2) P0.out P1.out (by omega) T3.out (by omega) (by omega) (show w.heap.size < w.heap.size + 2 by omega) (show w.heap.size + 1 < w.heap.size + 2 by omega) (J1.out.low (by simp; omega)) (J2.out.low (by omega))
      exact ⟨A1, _, d1, A2, _, d2, A3, _, d3, rfl, q1, q2, hTm.1, hTm.2.1, hTm.2.2.1, hTm.2.2.2.1, ((J3.out.far P0.out 0 _).far (P0.out.put 0 _) 1 _ |>.far (P1.out.far (p := ⟨w.heap.size, 0, none⟩) (by simp) _ |>.far (p := ⟨w.heap.size, 1, none⟩) (by simp) _) 0 _).far ((P1.out.far (p := ⟨w.heap.size, 0, none⟩) (by simp) _ |>.far (p := ⟨w.heap.size, 1, none⟩) (by simp) _).put 0 _) 1 _, hTm.2.2.2.2⟩
  case rest =>
    obtain ⟨A, l, c, B, k, d, L, t, u, rfl, htu, hu, Ka, Kb, Ja, Jb, Jt, KB⟩ := hcut
    clear H1 H2 H3 Q0 Q1 HW a0 a1 b0 b1 s1 s2 s3
    have hl66 : l ≤ 66 := by have := Ja.1; have := fewM_len ms0; omega
    have hk66 : k ≤ 66 := by have := Jb.1; have := fewM_len ks0; omega
    have HX := Lib.hid (HT0.out.below KB)
    have HSh := fun j => Nat.le_trans (fewM_short ms0 j) (show 3 ≤ 1000000 by omega)
    generalize fewM ms0 = ms at *
    generalize fewM ks0 = ks at *
    generalize cuts ss0 66 = ss at *
    have HL := Lib.hid Ja.1
    have HLk := Lib.hid Jb.1
    have HLt := Lib.hid Jt.1
    have hum : t ≤ maxLen := by omega
    have Qa := Lib.hid Ka
    have Qb := Lib.hid Kb
    have Ha := Lib.hid Ja
    have Hb := Lib.hid Jb
    have Ht := Lib.hid Jt
    have HB := Lib.hid KB
    clear Ka Kb Ja Jb Jt KB HT0
    obtain ⟨y0, y1, -, -⟩ := Qa.out.two
    obtain ⟨z0, z1, -, -⟩ := Qb.out.two
    have HS1 := Lib.hid (fun i j => Ha.out.lt i j)
    have HS2 := Lib.hid (fun i j => Hb.out.lt i j)
    have HRS := Lib.hid (show ∀ j, (ms.getD j (0, [])).2.length ≤ 1000000 from HSh)
    have HML := Lib.hid (show l ≤ maxLen by unfold maxLen; omega)
    have HMK := Lib.hid (show k ≤ maxLen by unfold maxLen; omega)
    cases hRa : rightM N ms with
    | false =>
      go_wp2_with fail
      refine (turn_no N A l c _ ms _ Ha.out HML.out hRa).mono ?_
      rintro e x1 ⟨T1, d1, rfl, hm1, hb⟩
      clear y0 y1 z0 z1
      have H1 := Lib.hid (hm1)
      have Qa := Lib.hid (Qa.out.keep hb)
      have Qb := Lib.hid (Qb.out.keep hb)
      have Ha := Lib.hid (Ha.out.below hb)
      have Hb := Lib.hid (Hb.out.below hb)
      have Ht := Lib.hid (Ht.out.below hb)
      have HX := Lib.hid (HX.out.below hb)
      have HB := Lib.hid (chain HB.out hb)
      clear hb
      clear hm1
      have hal : Below x1.heap.size x1 (x1.alloc (.cells #[.int .i64 0, .slice T1 ([] : List (Int × List Nat)).length d1] 24)) := (Below.refl _ _).alloc (Nat.le_refl _) _
      have Qa := Lib.hid (Qa.out.keep hal)
      have Qb := Lib.hid (Qb.out.keep hal)
      have Ha := Lib.hid (Ha.out.below hal)
      have Hb := Lib.hid (Hb.out.below hal)
      have Ht := Lib.hid (Ht.out.below hal)
      have HX := Lib.hid (HX.out.below hal)
      have H1 := Lib.hid (H1.out.below hal)
      have HB := Lib.hid (chain HB.out hal)
      have Q1 := Lib.hid (Box.new x1 24 #[.int .i64 0, .slice T1 ([] : List (Int × List Nat)).length d1])
      clear hal
      obtain ⟨y0, y1, -, -⟩ := Qa.out.two
      obtain ⟨z0, z1, -, -⟩ := Qb.out.two
      obtain ⟨v1, u1, -, -⟩ := Q1.out.two
      go_wp2_with fail
      refine (alive3_any _).mono ?_
      rintro e x2 ⟨rfl, hb⟩
      clear y0 y1 z0 z1 v1 u1
      have Qa := Lib.hid (Qa.out.keep hb)
      have Qb := Lib.hid (Qb.out.keep hb)
      have Ha := Lib.hid (Ha.out.below hb)
      have Hb := Lib.hid (Hb.out.below hb)
      have Ht := Lib.hid (Ht.out.below hb)
      have HX := Lib.hid (HX.out.below hb)
      have H1 := Lib.hid (H1.out.below hb)
      have Q1 := Lib.hid (Q1.out.keep hb)
      have HB := Lib.hid (chain HB.out hb)
      clear hb
      obtain ⟨y0, y1, -, -⟩ := Qa.out.two
      obtain ⟨z0, z1, -, -⟩ := Qb.out.two
      obtain ⟨v1, u1, -, -⟩ := Q1.out.two
      go_wp2_with fail
      refine (same3_any 0 0 T1 none 0 0 d1 0 _ 0 [] [] _ H1.out (MatAt.nil _ _ _) (by omega) (by simp)).mono ?_
      rintro e x3 ⟨rfl, hb⟩
      rw [sameM_self]
      clear y0 y1 z0 z1 v1 u1
      have Qa := Lib.hid (Qa.out.keep hb)
      have Qb := Lib.hid (Qb.out.keep hb)
      have Ha := Lib.hid (Ha.out.below hb)
      have Hb := Lib.hid (Hb.out.below hb)
      have Ht := Lib.hid (Ht.out.below hb)
      have HX := Lib.hid (HX.out.below hb)
      have H1 := Lib.hid (H1.out.below hb)
      have Q1 := Lib.hid (Q1.out.keep hb)
      have HB := Lib.hid (chain HB.out hb)
      clear hb
      obtain ⟨y0, y1, -, -⟩ := Qa.out.two
      obtain ⟨z0, z1, -, -⟩ := Qb.out.two
      obtain ⟨v1, u1, -, -⟩ := Q1.out.two
      go_wp2_with fail
      go_ret
      exact ⟨rfl, HB.out⟩
    | true =>
      have HRa := Lib.hid hRa
      have hbd := rightM_bd hRa
      have HN0 := Lib.hid hbd.1
      have HN1 := Lib.hid hbd.2.1
      have hl64 : l ≤ 64 := by have := HL.out; omega
      have HAL := Lib.hid (show (turnM N.toNat ms).length ≤ maxLen by rw [turnM_lenM]; unfold maxLen; omega)
      clear hRa hbd
      go_wp2_with fail
      refine (turn_ok N A l c _ ms _ Ha.out HML.out HRa.out).mono ?_
      rintro e x1 ⟨T1, d1, rfl, hm1, hb⟩
      clear y0 y1 z0 z1
      have H1 := Lib.hid (hm1)
      have Qa := Lib.hid (Qa.out.keep hb)
      have Qb := Lib.hid (Qb.out.keep hb)
      have Ha := Lib.hid (Ha.out.below hb)
      have Hb := Lib.hid (Hb.out.below hb)
      have Ht := Lib.hid (Ht.out.below hb)
      have HX := Lib.hid (HX.out.below hb)
      have HB := Lib.hid (chain HB.out hb)
      clear hb
      clear hm1
      have hal : Below x1.heap.size x1 (x1.alloc (.cells #[.int .i64 ms.length, .slice T1 (turnM N.toNat ms).length d1] 24)) := (Below.refl _ _).alloc (Nat.le_refl _) _
      have Qa := Lib.hid (Qa.out.keep hal)
      have Qb := Lib.hid (Qb.out.keep hal)
      have Ha := Lib.hid (Ha.out.below hal)
      have Hb := Lib.hid (Hb.out.below hal)
      have Ht := Lib.hid (Ht.out.below hal)
      have HX := Lib.hid (HX.out.below hal)
      have H1 := Lib.hid (H1.out.below hal)
      have HB := Lib.hid (chain HB.out hal)
      have Q1 := Lib.hid (Box.new x1 24 #[.int .i64 ms.length, .slice T1 (turnM N.toNat ms).length d1])
      clear hal
      obtain ⟨y0, y1, -, -⟩ := Qa.out.two
      obtain ⟨z0, z1, -, -⟩ := Qb.out.two
      obtain ⟨v1, u1, -, -⟩ := Q1.out.two
      go_wp2_with fail
      refine (turnturn_ok N T1 d1 _ ms _ H1.out HRa.out HS1.out).mono ?_
      rintro e x2 ⟨T2, d2, rfl, hm2, hb⟩
      clear y0 y1 z0 z1 v1 u1
      have H2 := Lib.hid (hm2)
      have Qa := Lib.hid (Qa.out.keep hb)
      have Qb := Lib.hid (Qb.out.keep hb)
      have Ha := Lib.hid (Ha.out.below hb)
      have Hb := Lib.hid (Hb.out.below hb)
      have Ht := Lib.hid (Ht.out.below hb)
      have HX := Lib.hid (HX.out.below hb)
      have H1 := Lib.hid (H1.out.below hb)
      have Q1 := Lib.hid (Q1.out.keep hb)
      have HB := Lib.hid (chain HB.out hb)
      clear hb
      clear hm2
      have hal : Below x2.heap.size x2 (x2.alloc (.cells #[.int .i64 N, .slice T2 (ms).length d2] 24)) := (Below.refl _ _).alloc (Nat.le_refl _) _
      have Qa := Lib.hid (Qa.out.keep hal)
      have Qb := Lib.hid (Qb.out.keep hal)
      have Ha := Lib.hid (Ha.out.below hal)
      have Hb := Lib.hid (Hb.out.below hal)
      have Ht := Lib.hid (Ht.out.below hal)
      have HX := Lib.hid (HX.out.below hal)
      have H1 := Lib.hid (H1.out.below hal)
      have Q1 := Lib.hid (Q1.out.keep hal)
      have H2 := Lib.hid (H2.out.below hal)
      have HB := Lib.hid (chain HB.out hal)
      have Q2 := Lib.hid (Box.new x2 24 #[.int .i64 N, .slice T2 (ms).length d2])
      clear hal
      obtain ⟨y0, y1, -, -⟩ := Qa.out.two
      obtain ⟨z0, z1, -, -⟩ := Qb.out.two
      obtain ⟨v1, u1, -, -⟩ := Q1.out.two
      obtain ⟨v2, u2, -, -⟩ := Q2.out.two
      go_wp2_with fail
      refine (one_ok N HN0.out HN1.out _).mono ?_
      rintro e x3 ⟨T3, d3, rfl, hm3, hb⟩
      clear y0 y1 z0 z1 v1 u1 v2 u2
      have H3 := Lib.hid (hm3)
      have Qa := Lib.hid (Qa.out.keep hb)
      have Qb := Lib.hid (Qb.out.keep hb)
      have Ha := Lib.hid (Ha.out.below hb)
      have Hb := Lib.hid (Hb.out.below hb)
      have Ht := Lib.hid (Ht.out.below hb)
      have HX := Lib.hid (HX.out.below hb)
      have H1 := Lib.hid (H1.out.below hb)
      have Q1 := Lib.hid (Q1.out.keep hb)
      have H2 := Lib.hid (H2.out.below hb)
      have Q2 := Lib.hid (Q2.out.keep hb)
      have HB := Lib.hid (chain HB.out hb)
      clear hb
      clear hm3
      have hal : Below x3.heap.size x3 (x3.alloc (.cells #[.int .i64 N, .slice T3 (oneL N.toNat).length d3] 24)) := (Below.refl _ _).alloc (Nat.le_refl _) _
      have Qa := Lib.hid (Qa.out.keep hal)
      have Qb := Lib.hid (Qb.out.keep hal)
      have Ha := Lib.hid (Ha.out.below hal)
      have Hb := Lib.hid (Hb.out.below hal)
      have Ht := Lib.hid (Ht.out.below hal)
      have HX := Lib.hid (HX.out.below hal)
      have H1 := Lib.hid (H1.out.below hal)
      have Q1 := Lib.hid (Q1.out.keep hal)
      have H2 := Lib.hid (H2.out.below hal)
      have Q2 := Lib.hid (Q2.out.keep hal)
      have H3 := Lib.hid (H3.out.below hal)
      have HB := Lib.hid (chain HB.out hal)
      have Q3 := Lib.hid (Box.new x3 24 #[.int .i64 N, .slice T3 (oneL N.toNat).length d3])
      clear hal
      obtain ⟨y0, y1, -, -⟩ := Qa.out.two
      obtain ⟨z0, z1, -, -⟩ := Qb.out.two
      obtain ⟨v1, u1, -, -⟩ := Q1.out.two
      obtain ⟨v2, u2, -, -⟩ := Q2.out.two
      obtain ⟨v3, u3, -, -⟩ := Q3.out.two
      go_wp2_with fail
      refine (mulone_ok N A l c _ ms T3 d3 _ _ Ha.out HML.out H3.out HX.out HRa.out HS1.out).mono ?_
      rintro e x4 ⟨T4, d4, rfl, hm4, hb⟩
      clear y0 y1 z0 z1 v1 u1 v2 u2 v3 u3
      have H4 := Lib.hid (hm4)
      have Qa := Lib.hid (Qa.out.keep hb)
      have Qb := Lib.hid (Qb.out.keep hb)
      have Ha := Lib.hid (Ha.out.below hb)
      have Hb := Lib.hid (Hb.out.below hb)
      have Ht := Lib.hid (Ht.out.below hb)
      have HX := Lib.hid (HX.out.below hb)
      have H1 := Lib.hid (H1.out.below hb)
      have Q1 := Lib.hid (Q1.out.keep hb)
      have H2 := Lib.hid (H2.out.below hb)
      have Q2 := Lib.hid (Q2.out.keep hb)
      have H3 := Lib.hid (H3.out.below hb)
      have Q3 := Lib.hid (Q3.out.keep hb)
      have HB := Lib.hid (chain HB.out hb)
      clear hb
      clear hm4
      have hal : Below x4.heap.size x4 (x4.alloc (.cells #[.int .i64 N, .slice T4 (ms).length d4] 24)) := (Below.refl _ _).alloc (Nat.le_refl _) _
      have Qa := Lib.hid (Qa.out.keep hal)
      have Qb := Lib.hid (Qb.out.keep hal)
      have Ha := Lib.hid (Ha.out.below hal)
      have Hb := Lib.hid (Hb.out.below hal)
      have Ht := Lib.hid (Ht.out.below hal)
      have HX := Lib.hid (HX.out.below hal)
      have H1 := Lib.hid (H1.out.below hal)
      have Q1 := Lib.hid (Q1.out.keep hal)
      have H2 := Lib.hid (H2.out.below hal)
      have Q2 := Lib.hid (Q2.out.keep hal)
      have H3 := Lib.hid (H3.out.below hal)
      have Q3 := Lib.hid (Q3.out.keep hal)
      have H4 := Lib.hid (H4.out.below hal)
      have HB := Lib.hid (chain HB.out hal)
      have Q4 := Lib.hid (Box.new x4 24 #[.int .i64 N, .slice T4 (ms).length d4])
      clear hal
      obtain ⟨y0, y1, -, -⟩ := Qa.out.two
      obtain ⟨z0, z1, -, -⟩ := Qb.out.two
      obtain ⟨v1, u1, -, -⟩ := Q1.out.two
      obtain ⟨v2, u2, -, -⟩ := Q2.out.two
      obtain ⟨v3, u3, -, -⟩ := Q3.out.two
      obtain ⟨v4, u4, -, -⟩ := Q4.out.two
      go_wp2_with fail
      refine (same3_any N N T2 A _ l d2 c _ _ ms ms _ H2.out Ha.out (by rw [HL.out]; omega) HRS.out).mono ?_
      rintro e x5 ⟨rfl, hb⟩
      rw [sameM_self]
      clear y0 y1 z0 z1 v1 u1 v2 u2 v3 u3 v4 u4
      have Qa := Lib.hid (Qa.out.keep hb)
      have Qb := Lib.hid (Qb.out.keep hb)
      have Ha := Lib.hid (Ha.out.below hb)
      have Hb := Lib.hid (Hb.out.below hb)
      have Ht := Lib.hid (Ht.out.below hb)
      have HX := Lib.hid (HX.out.below hb)
      have H1 := Lib.hid (H1.out.below hb)
      have Q1 := Lib.hid (Q1.out.keep hb)
      have H2 := Lib.hid (H2.out.below hb)
      have Q2 := Lib.hid (Q2.out.keep hb)
      have H3 := Lib.hid (H3.out.below hb)
      have Q3 := Lib.hid (Q3.out.keep hb)
      have H4 := Lib.hid (H4.out.below hb)
      have Q4 := Lib.hid (Q4.out.keep hb)
      have HB := Lib.hid (chain HB.out hb)
      clear hb
      obtain ⟨y0, y1, -, -⟩ := Qa.out.two
      obtain ⟨z0, z1, -, -⟩ := Qb.out.two
      obtain ⟨v1, u1, -, -⟩ := Q1.out.two
      obtain ⟨v2, u2, -, -⟩ := Q2.out.two
      obtain ⟨v3, u3, -, -⟩ := Q3.out.two
      obtain ⟨v4, u4, -, -⟩ := Q4.out.two
      go_wp2_with fail
      refine (same3_any N N T4 A _ l d4 c _ _ ms ms _ H4.out Ha.out (by rw [HL.out]; omega) HRS.out).mono ?_
      rintro e x6 ⟨rfl, hb⟩
      rw [sameM_self]
      clear y0 y1 z0 z1 v1 u1 v2 u2 v3 u3 v4 u4
      have Qa := Lib.hid (Qa.out.keep hb)
      have Qb := Lib.hid (Qb.out.keep hb)
      have Ha := Lib.hid (Ha.out.below hb)
      have Hb := Lib.hid (Hb.out.below hb)
      have Ht := Lib.hid (Ht.out.below hb)
      have HX := Lib.hid (HX.out.below hb)
      have H1 := Lib.hid (H1.out.below hb)
      have Q1 := Lib.hid (Q1.out.keep hb)
      have H2 := Lib.hid (H2.out.below hb)
      have Q2 := Lib.hid (Q2.out.keep hb)
      have H3 := Lib.hid (H3.out.below hb)
      have Q3 := Lib.hid (Q3.out.keep hb)
      have H4 := Lib.hid (H4.out.below hb)
      have Q4 := Lib.hid (Q4.out.keep hb)
      have HB := Lib.hid (chain HB.out hb)
      clear hb
      obtain ⟨y0, y1, -, -⟩ := Qa.out.two
      obtain ⟨z0, z1, -, -⟩ := Qb.out.two
      obtain ⟨v1, u1, -, -⟩ := Q1.out.two
      obtain ⟨v2, u2, -, -⟩ := Q2.out.two
      obtain ⟨v3, u3, -, -⟩ := Q3.out.two
      obtain ⟨v4, u4, -, -⟩ := Q4.out.two
      go_wp2_with fail
      refine (alive3_any _).mono ?_
      rintro e x7 ⟨rfl, hb⟩
      clear y0 y1 z0 z1 v1 u1 v2 u2 v3 u3 v4 u4
      have Qa := Lib.hid (Qa.out.keep hb)
      have Qb := Lib.hid (Qb.out.keep hb)
      have Ha := Lib.hid (Ha.out.below hb)
      have Hb := Lib.hid (Hb.out.below hb)
      have Ht := Lib.hid (Ht.out.below hb)
      have HX := Lib.hid (HX.out.below hb)
      have H1 := Lib.hid (H1.out.below hb)
      have Q1 := Lib.hid (Q1.out.keep hb)
      have H2 := Lib.hid (H2.out.below hb)
      have Q2 := Lib.hid (Q2.out.keep hb)
      have H3 := Lib.hid (H3.out.below hb)
      have Q3 := Lib.hid (Q3.out.keep hb)
      have H4 := Lib.hid (H4.out.below hb)
      have Q4 := Lib.hid (Q4.out.keep hb)
      have HB := Lib.hid (chain HB.out hb)
      clear hb
      obtain ⟨y0, y1, -, -⟩ := Qa.out.two
      obtain ⟨z0, z1, -, -⟩ := Qb.out.two
      obtain ⟨v1, u1, -, -⟩ := Q1.out.two
      obtain ⟨v2, u2, -, -⟩ := Q2.out.two
      obtain ⟨v3, u3, -, -⟩ := Q3.out.two
      obtain ⟨v4, u4, -, -⟩ := Q4.out.two
      cases hB : mulB N ms M ks with
      | false =>
        have tE := mulE_ne hB
        have HBf := Lib.hid hB
        clear hB
        go_wp2_with fail
        refine (mul_no N M A l c _ ms B k d _ ks _ Ha.out HML.out Hb.out HMK.out HX.out HBf.out).mono ?_
        rintro e x8 ⟨T5, d5, rfl, hm5, hb⟩
        clear y0 y1 z0 z1 v1 u1 v2 u2 v3 u3 v4 u4
        have H5 := Lib.hid (hm5)
        have Qa := Lib.hid (Qa.out.keep hb)
        have Qb := Lib.hid (Qb.out.keep hb)
        have Ha := Lib.hid (Ha.out.below hb)
        have Hb := Lib.hid (Hb.out.below hb)
        have Ht := Lib.hid (Ht.out.below hb)
        have HX := Lib.hid (HX.out.below hb)
        have H1 := Lib.hid (H1.out.below hb)
        have Q1 := Lib.hid (Q1.out.keep hb)
        have H2 := Lib.hid (H2.out.below hb)
        have Q2 := Lib.hid (Q2.out.keep hb)
        have H3 := Lib.hid (H3.out.below hb)
        have Q3 := Lib.hid (Q3.out.keep hb)
        have H4 := Lib.hid (H4.out.below hb)
        have Q4 := Lib.hid (Q4.out.keep hb)
        have HB := Lib.hid (chain HB.out hb)
        clear hb
        clear hm5
        have hal : Below x8.heap.size x8 (x8.alloc (.cells #[.int .i64 0, .slice T5 ([] : List (Int × List Nat)).length d5] 24)) := (Below.refl _ _).alloc (Nat.le_refl _) _
        have Qa := Lib.hid (Qa.out.keep hal)
        have Qb := Lib.hid (Qb.out.keep hal)
        have Ha := Lib.hid (Ha.out.below hal)
        have Hb := Lib.hid (Hb.out.below hal)
        have Ht := Lib.hid (Ht.out.below hal)
        have HX := Lib.hid (HX.out.below hal)
        have H1 := Lib.hid (H1.out.below hal)
        have Q1 := Lib.hid (Q1.out.keep hal)
        have H2 := Lib.hid (H2.out.below hal)
        have Q2 := Lib.hid (Q2.out.keep hal)
        have H3 := Lib.hid (H3.out.below hal)
        have Q3 := Lib.hid (Q3.out.keep hal)
        have H4 := Lib.hid (H4.out.below hal)
        have Q4 := Lib.hid (Q4.out.keep hal)
        have H5 := Lib.hid (H5.out.below hal)
        have HB := Lib.hid (chain HB.out hal)
        have Q5 := Lib.hid (Box.new x8 24 #[.int .i64 0, .slice T5 ([] : List (Int × List Nat)).length d5])
        clear hal
        obtain ⟨y0, y1, -, -⟩ := Qa.out.two
        obtain ⟨z0, z1, -, -⟩ := Qb.out.two
        obtain ⟨v1, u1, -, -⟩ := Q1.out.two
        obtain ⟨v2, u2, -, -⟩ := Q2.out.two
        obtain ⟨v3, u3, -, -⟩ := Q3.out.two
        obtain ⟨v4, u4, -, -⟩ := Q4.out.two
        obtain ⟨v5, u5, -, -⟩ := Q5.out.two
        go_wp2_with fail
        refine (same3_any 0 0 T5 none 0 0 d5 0 _ 0 [] [] _ H5.out (MatAt.nil _ _ _) (by omega) (by simp)).mono ?_
        rintro e x9 ⟨rfl, hb⟩
        rw [sameM_self]
        clear y0 y1 z0 z1 v1 u1 v2 u2 v3 u3 v4 u4 v5 u5
        have Qa := Lib.hid (Qa.out.keep hb)
        have Qb := Lib.hid (Qb.out.keep hb)
        have Ha := Lib.hid (Ha.out.below hb)
        have Hb := Lib.hid (Hb.out.below hb)
        have Ht := Lib.hid (Ht.out.below hb)
        have HX := Lib.hid (HX.out.below hb)
        have H1 := Lib.hid (H1.out.below hb)
        have Q1 := Lib.hid (Q1.out.keep hb)
        have H2 := Lib.hid (H2.out.below hb)
        have Q2 := Lib.hid (Q2.out.keep hb)
        have H3 := Lib.hid (H3.out.below hb)
        have Q3 := Lib.hid (Q3.out.keep hb)
        have H4 := Lib.hid (H4.out.below hb)
        have Q4 := Lib.hid (Q4.out.keep hb)
        have H5 := Lib.hid (H5.out.below hb)
        have Q5 := Lib.hid (Q5.out.keep hb)
        have HB := Lib.hid (chain HB.out hb)
        clear hb
        obtain ⟨y0, y1, -, -⟩ := Qa.out.two
        obtain ⟨z0, z1, -, -⟩ := Qb.out.two
        obtain ⟨v1, u1, -, -⟩ := Q1.out.two
        obtain ⟨v2, u2, -, -⟩ := Q2.out.two
        obtain ⟨v3, u3, -, -⟩ := Q3.out.two
        obtain ⟨v4, u4, -, -⟩ := Q4.out.two
        obtain ⟨v5, u5, -, -⟩ := Q5.out.two
        go_wp2_with fail
        go_ret
        exact ⟨rfl, HB.out⟩
      | true =>
        have HBt := Lib.hid hB
        have HRb := Lib.hid (mulB_parts hB).2.1
        have HRp := Lib.hid (rightp hB)
        have HPl := Lib.hid (show (mulM M.toNat ks ms).length ≤ maxLen by rw [mulM_len, HL.out]; unfold maxLen; omega)
        have HTL := Lib.hid (show (turnM M.toNat (mulM M.toNat ks ms)).length ≤ 1000000 by rw [turnM_lenM]; have := (rightM_bd HRb.out).2.1; omega)
        have HTR := Lib.hid (fun i => rowLen_turn M.toNat (mulM M.toNat ks ms) i (by rw [mulM_len, HL.out]; omega))
        clear hB
        go_wp2_with fail
        refine (mul_ok N M A l c _ ms B k d _ ks _ Ha.out HML.out Hb.out HMK.out HX.out HBt.out).mono ?_
        rintro e x8 ⟨T5, d5, rfl, hm5, hb⟩
        clear y0 y1 z0 z1 v1 u1 v2 u2 v3 u3 v4 u4
        have H5 := Lib.hid (hm5)
        have Qa := Lib.hid (Qa.out.keep hb)
        have Qb := Lib.hid (Qb.out.keep hb)
        have Ha := Lib.hid (Ha.out.below hb)
        have Hb := Lib.hid (Hb.out.below hb)
        have Ht := Lib.hid (Ht.out.below hb)
        have HX := Lib.hid (HX.out.below hb)
        have H1 := Lib.hid (H1.out.below hb)
        have Q1 := Lib.hid (Q1.out.keep hb)
        have H2 := Lib.hid (H2.out.below hb)
        have Q2 := Lib.hid (Q2.out.keep hb)
        have H3 := Lib.hid (H3.out.below hb)
        have Q3 := Lib.hid (Q3.out.keep hb)
        have H4 := Lib.hid (H4.out.below hb)
        have Q4 := Lib.hid (Q4.out.keep hb)
        have HB := Lib.hid (chain HB.out hb)
        clear hb
        clear hm5
        have hal : Below x8.heap.size x8 (x8.alloc (.cells #[.int .i64 M, .slice T5 (mulM M.toNat ks ms).length d5] 24)) := (Below.refl _ _).alloc (Nat.le_refl _) _
        have Qa := Lib.hid (Qa.out.keep hal)
        have Qb := Lib.hid (Qb.out.keep hal)
        have Ha := Lib.hid (Ha.out.below hal)
        have Hb := Lib.hid (Hb.out.below hal)
        have Ht := Lib.hid (Ht.out.below hal)
        have HX := Lib.hid (HX.out.below hal)
        have H1 := Lib.hid (H1.out.below hal)
        have Q1 := Lib.hid (Q1.out.keep hal)
        have H2 := Lib.hid (H2.out.below hal)
        have Q2 := Lib.hid (Q2.out.keep hal)
        have H3 := Lib.hid (H3.out.below hal)
        have Q3 := Lib.hid (Q3.out.keep hal)
        have H4 := Lib.hid (H4.out.below hal)
        have Q4 := Lib.hid (Q4.out.keep hal)
        have H5 := Lib.hid (H5.out.below hal)
        have HB := Lib.hid (chain HB.out hal)
        have Q5 := Lib.hid (Box.new x8 24 #[.int .i64 M, .slice T5 (mulM M.toNat ks ms).length d5])
        clear hal
        obtain ⟨y0, y1, -, -⟩ := Qa.out.two
        obtain ⟨z0, z1, -, -⟩ := Qb.out.two
        obtain ⟨v1, u1, -, -⟩ := Q1.out.two
        obtain ⟨v2, u2, -, -⟩ := Q2.out.two
        obtain ⟨v3, u3, -, -⟩ := Q3.out.two
        obtain ⟨v4, u4, -, -⟩ := Q4.out.two
        obtain ⟨v5, u5, -, -⟩ := Q5.out.two
        go_wp2_with fail
        refine (turn_ok M B k d _ ks _ Hb.out HMK.out HRb.out).mono ?_
        rintro e x9 ⟨T6, d6, rfl, hm6, hb⟩
        clear y0 y1 z0 z1 v1 u1 v2 u2 v3 u3 v4 u4 v5 u5
        have H6 := Lib.hid (hm6)
        have Qa := Lib.hid (Qa.out.keep hb)
        have Qb := Lib.hid (Qb.out.keep hb)
        have Ha := Lib.hid (Ha.out.below hb)
        have Hb := Lib.hid (Hb.out.below hb)
        have Ht := Lib.hid (Ht.out.below hb)
        have HX := Lib.hid (HX.out.below hb)
        have H1 := Lib.hid (H1.out.below hb)
        have Q1 := Lib.hid (Q1.out.keep hb)
        have H2 := Lib.hid (H2.out.below hb)
        have Q2 := Lib.hid (Q2.out.keep hb)
        have H3 := Lib.hid (H3.out.below hb)
        have Q3 := Lib.hid (Q3.out.keep hb)
        have H4 := Lib.hid (H4.out.below hb)
        have Q4 := Lib.hid (Q4.out.keep hb)
        have H5 := Lib.hid (H5.out.below hb)
        have Q5 := Lib.hid (Q5.out.keep hb)
        have HB := Lib.hid (chain HB.out hb)
        clear hb
        clear hm6
        have hal : Below x9.heap.size x9 (x9.alloc (.cells #[.int .i64 ks.length, .slice T6 (turnM M.toNat ks).length d6] 24)) := (Below.refl _ _).alloc (Nat.le_refl _) _
        have Qa := Lib.hid (Qa.out.keep hal)
        have Qb := Lib.hid (Qb.out.keep hal)
        have Ha := Lib.hid (Ha.out.below hal)
        have Hb := Lib.hid (Hb.out.below hal)
        have Ht := Lib.hid (Ht.out.below hal)
        have HX := Lib.hid (HX.out.below hal)
        have H1 := Lib.hid (H1.out.below hal)
        have Q1 := Lib.hid (Q1.out.keep hal)
        have H2 := Lib.hid (H2.out.below hal)
        have Q2 := Lib.hid (Q2.out.keep hal)
        have H3 := Lib.hid (H3.out.below hal)
        have Q3 := Lib.hid (Q3.out.keep hal)
        have H4 := Lib.hid (H4.out.below hal)
        have Q4 := Lib.hid (Q4.out.keep hal)
        have H5 := Lib.hid (H5.out.below hal)
        have Q5 := Lib.hid (Q5.out.keep hal)
        have H6 := Lib.hid (H6.out.below hal)
        have HB := Lib.hid (chain HB.out hal)
        have Q6 := Lib.hid (Box.new x9 24 #[.int .i64 ks.length, .slice T6 (turnM M.toNat ks).length d6])
        clear hal
        obtain ⟨y0, y1, -, -⟩ := Qa.out.two
        obtain ⟨z0, z1, -, -⟩ := Qb.out.two
        obtain ⟨v1, u1, -, -⟩ := Q1.out.two
        obtain ⟨v2, u2, -, -⟩ := Q2.out.two
        obtain ⟨v3, u3, -, -⟩ := Q3.out.two
        obtain ⟨v4, u4, -, -⟩ := Q4.out.two
        obtain ⟨v5, u5, -, -⟩ := Q5.out.two
        obtain ⟨v6, u6, -, -⟩ := Q6.out.two
        go_wp2_with fail
        refine (turnp_ok N M ms ks T5 d5 _ _ HBt.out H5.out).mono ?_
        rintro e x10 ⟨T7, d7, rfl, hm7, hb⟩
        clear y0 y1 z0 z1 v1 u1 v2 u2 v3 u3 v4 u4 v5 u5 v6 u6
        have H7 := Lib.hid (hm7)
        have Qa := Lib.hid (Qa.out.keep hb)
        have Qb := Lib.hid (Qb.out.keep hb)
        have Ha := Lib.hid (Ha.out.below hb)
        have Hb := Lib.hid (Hb.out.below hb)
        have Ht := Lib.hid (Ht.out.below hb)
        have HX := Lib.hid (HX.out.below hb)
        have H1 := Lib.hid (H1.out.below hb)
        have Q1 := Lib.hid (Q1.out.keep hb)
        have H2 := Lib.hid (H2.out.below hb)
        have Q2 := Lib.hid (Q2.out.keep hb)
        have H3 := Lib.hid (H3.out.below hb)
        have Q3 := Lib.hid (Q3.out.keep hb)
        have H4 := Lib.hid (H4.out.below hb)
        have Q4 := Lib.hid (Q4.out.keep hb)
        have H5 := Lib.hid (H5.out.below hb)
        have Q5 := Lib.hid (Q5.out.keep hb)
        have H6 := Lib.hid (H6.out.below hb)
        have Q6 := Lib.hid (Q6.out.keep hb)
        have HB := Lib.hid (chain HB.out hb)
        clear hb
        clear hm7
        have hal : Below x10.heap.size x10 (x10.alloc (.cells #[.int .i64 ms.length, .slice T7 (turnM M.toNat (mulM M.toNat ks ms)).length d7] 24)) := (Below.refl _ _).alloc (Nat.le_refl _) _
        have Qa := Lib.hid (Qa.out.keep hal)
        have Qb := Lib.hid (Qb.out.keep hal)
        have Ha := Lib.hid (Ha.out.below hal)
        have Hb := Lib.hid (Hb.out.below hal)
        have Ht := Lib.hid (Ht.out.below hal)
        have HX := Lib.hid (HX.out.below hal)
        have H1 := Lib.hid (H1.out.below hal)
        have Q1 := Lib.hid (Q1.out.keep hal)
        have H2 := Lib.hid (H2.out.below hal)
        have Q2 := Lib.hid (Q2.out.keep hal)
        have H3 := Lib.hid (H3.out.below hal)
        have Q3 := Lib.hid (Q3.out.keep hal)
        have H4 := Lib.hid (H4.out.below hal)
        have Q4 := Lib.hid (Q4.out.keep hal)
        have H5 := Lib.hid (H5.out.below hal)
        have Q5 := Lib.hid (Q5.out.keep hal)
        have H6 := Lib.hid (H6.out.below hal)
        have Q6 := Lib.hid (Q6.out.keep hal)
        have H7 := Lib.hid (H7.out.below hal)
        have HB := Lib.hid (chain HB.out hal)
        have Q7 := Lib.hid (Box.new x10 24 #[.int .i64 ms.length, .slice T7 (turnM M.toNat (mulM M.toNat ks ms)).length d7])
        clear hal
        obtain ⟨y0, y1, -, -⟩ := Qa.out.two
        obtain ⟨z0, z1, -, -⟩ := Qb.out.two
        obtain ⟨v1, u1, -, -⟩ := Q1.out.two
        obtain ⟨v2, u2, -, -⟩ := Q2.out.two
        obtain ⟨v3, u3, -, -⟩ := Q3.out.two
        obtain ⟨v4, u4, -, -⟩ := Q4.out.two
        obtain ⟨v5, u5, -, -⟩ := Q5.out.two
        obtain ⟨v6, u6, -, -⟩ := Q6.out.two
        obtain ⟨v7, u7, -, -⟩ := Q7.out.two
        go_wp2_with fail
        refine (mulq_ok N M ms ks T6 T1 d6 d1 _ _ _ HBt.out H6.out H1.out HX.out HS2.out).mono ?_
        rintro e x11 ⟨T8, d8, rfl, hm8, hb⟩
        clear y0 y1 z0 z1 v1 u1 v2 u2 v3 u3 v4 u4 v5 u5 v6 u6 v7 u7
        have H8 := Lib.hid (hm8)
        have Qa := Lib.hid (Qa.out.keep hb)
        have Qb := Lib.hid (Qb.out.keep hb)
        have Ha := Lib.hid (Ha.out.below hb)
        have Hb := Lib.hid (Hb.out.below hb)
        have Ht := Lib.hid (Ht.out.below hb)
        have HX := Lib.hid (HX.out.below hb)
        have H1 := Lib.hid (H1.out.below hb)
        have Q1 := Lib.hid (Q1.out.keep hb)
        have H2 := Lib.hid (H2.out.below hb)
        have Q2 := Lib.hid (Q2.out.keep hb)
        have H3 := Lib.hid (H3.out.below hb)
        have Q3 := Lib.hid (Q3.out.keep hb)
        have H4 := Lib.hid (H4.out.below hb)
        have Q4 := Lib.hid (Q4.out.keep hb)
        have H5 := Lib.hid (H5.out.below hb)
        have Q5 := Lib.hid (Q5.out.keep hb)
        have H6 := Lib.hid (H6.out.below hb)
        have Q6 := Lib.hid (Q6.out.keep hb)
        have H7 := Lib.hid (H7.out.below hb)
        have Q7 := Lib.hid (Q7.out.keep hb)
        have HB := Lib.hid (chain HB.out hb)
        clear hb
        clear hm8
        have hal : Below x11.heap.size x11 (x11.alloc (.cells #[.int .i64 ms.length, .slice T8 (turnM M.toNat (mulM M.toNat ks ms)).length d8] 24)) := (Below.refl _ _).alloc (Nat.le_refl _) _
        have Qa := Lib.hid (Qa.out.keep hal)
        have Qb := Lib.hid (Qb.out.keep hal)
        have Ha := Lib.hid (Ha.out.below hal)
        have Hb := Lib.hid (Hb.out.below hal)
        have Ht := Lib.hid (Ht.out.below hal)
        have HX := Lib.hid (HX.out.below hal)
        have H1 := Lib.hid (H1.out.below hal)
        have Q1 := Lib.hid (Q1.out.keep hal)
        have H2 := Lib.hid (H2.out.below hal)
        have Q2 := Lib.hid (Q2.out.keep hal)
        have H3 := Lib.hid (H3.out.below hal)
        have Q3 := Lib.hid (Q3.out.keep hal)
        have H4 := Lib.hid (H4.out.below hal)
        have Q4 := Lib.hid (Q4.out.keep hal)
        have H5 := Lib.hid (H5.out.below hal)
        have Q5 := Lib.hid (Q5.out.keep hal)
        have H6 := Lib.hid (H6.out.below hal)
        have Q6 := Lib.hid (Q6.out.keep hal)
        have H7 := Lib.hid (H7.out.below hal)
        have Q7 := Lib.hid (Q7.out.keep hal)
        have H8 := Lib.hid (H8.out.below hal)
        have HB := Lib.hid (chain HB.out hal)
        have Q8 := Lib.hid (Box.new x11 24 #[.int .i64 ms.length, .slice T8 (turnM M.toNat (mulM M.toNat ks ms)).length d8])
        clear hal
        obtain ⟨y0, y1, -, -⟩ := Qa.out.two
        obtain ⟨z0, z1, -, -⟩ := Qb.out.two
        obtain ⟨v1, u1, -, -⟩ := Q1.out.two
        obtain ⟨v2, u2, -, -⟩ := Q2.out.two
        obtain ⟨v3, u3, -, -⟩ := Q3.out.two
        obtain ⟨v4, u4, -, -⟩ := Q4.out.two
        obtain ⟨v5, u5, -, -⟩ := Q5.out.two
        obtain ⟨v6, u6, -, -⟩ := Q6.out.two
        obtain ⟨v7, u7, -, -⟩ := Q7.out.two
        obtain ⟨v8, u8, -, -⟩ := Q8.out.two
        go_wp2_with fail
        refine (same3_any ms.length ms.length T7 T8 _ _ d7 d8 _ _ (turnM M.toNat (mulM M.toNat ks ms)) (turnM M.toNat (mulM M.toNat ks ms)) _ H7.out H8.out HTL.out HTR.out).mono ?_
        rintro e x12 ⟨rfl, hb⟩
        rw [sameM_self]
        clear y0 y1 z0 z1 v1 u1 v2 u2 v3 u3 v4 u4 v5 u5 v6 u6 v7 u7 v8 u8
        have Qa := Lib.hid (Qa.out.keep hb)
        have Qb := Lib.hid (Qb.out.keep hb)
        have Ha := Lib.hid (Ha.out.below hb)
        have Hb := Lib.hid (Hb.out.below hb)
        have Ht := Lib.hid (Ht.out.below hb)
        have HX := Lib.hid (HX.out.below hb)
        have H1 := Lib.hid (H1.out.below hb)
        have Q1 := Lib.hid (Q1.out.keep hb)
        have H2 := Lib.hid (H2.out.below hb)
        have Q2 := Lib.hid (Q2.out.keep hb)
        have H3 := Lib.hid (H3.out.below hb)
        have Q3 := Lib.hid (Q3.out.keep hb)
        have H4 := Lib.hid (H4.out.below hb)
        have Q4 := Lib.hid (Q4.out.keep hb)
        have H5 := Lib.hid (H5.out.below hb)
        have Q5 := Lib.hid (Q5.out.keep hb)
        have H6 := Lib.hid (H6.out.below hb)
        have Q6 := Lib.hid (Q6.out.keep hb)
        have H7 := Lib.hid (H7.out.below hb)
        have Q7 := Lib.hid (Q7.out.keep hb)
        have H8 := Lib.hid (H8.out.below hb)
        have Q8 := Lib.hid (Q8.out.keep hb)
        have HB := Lib.hid (chain HB.out hb)
        clear hb
        obtain ⟨y0, y1, -, -⟩ := Qa.out.two
        obtain ⟨z0, z1, -, -⟩ := Qb.out.two
        obtain ⟨v1, u1, -, -⟩ := Q1.out.two
        obtain ⟨v2, u2, -, -⟩ := Q2.out.two
        obtain ⟨v3, u3, -, -⟩ := Q3.out.two
        obtain ⟨v4, u4, -, -⟩ := Q4.out.two
        obtain ⟨v5, u5, -, -⟩ := Q5.out.two
        obtain ⟨v6, u6, -, -⟩ := Q6.out.two
        obtain ⟨v7, u7, -, -⟩ := Q7.out.two
        obtain ⟨v8, u8, -, -⟩ := Q8.out.two
        by_cases hok : okS n ss = true ∧ (ss.length : Int) = M
        · have HaL1 := Lib.hid (show appL n M ks ss = appR n M ks ss by simp [appL, appB, HRb.out, hok.1, hok.2])
          have HaE1 := Lib.hid (show appE n M ks ss = 0 by simp [appE, HRb.out, hok.1, hok.2])
          have HaL2 := Lib.hid (show appL n M (mulM M.toNat ks ms) ss = appR n M (mulM M.toNat ks ms) ss by simp [appL, appB, HRp.out, hok.1, hok.2])
          have HaE2 := Lib.hid (show appE n M (mulM M.toNat ks ms) ss = 0 by simp [appE, HRp.out, hok.1, hok.2])
          have HO1 := Lib.hid hok.1
          have HO2 := Lib.hid hok.2
          have HYL := Lib.hid (show (appR n M (mulM M.toNat ks ms) ss).length ≤ 1000000 by rw [appR_len, mulM_len, HL.out]; omega)
          clear hok
          go_wp2_with fail
          refine (apply_any n M B k d _ ks L t u ss _ Hb.out HMK.out Ht.out htu hu HX.out).mono ?_
          rintro e x13 ⟨X1, e1, rfl, hq1, hq2, hm9, hb⟩
          rw [HaL1.out, HaE1.out]
          clear y0 y1 z0 z1 v1 u1 v2 u2 v3 u3 v4 u4 v5 u5 v6 u6 v7 u7 v8 u8
          have H9 := Lib.hid (HaL1.out ▸ hm9)
          have Qa := Lib.hid (Qa.out.keep hb)
          have Qb := Lib.hid (Qb.out.keep hb)
          have Ha := Lib.hid (Ha.out.below hb)
          have Hb := Lib.hid (Hb.out.below hb)
          have Ht := Lib.hid (Ht.out.below hb)
          have HX := Lib.hid (HX.out.below hb)
          have H1 := Lib.hid (H1.out.below hb)
          have Q1 := Lib.hid (Q1.out.keep hb)
          have H2 := Lib.hid (H2.out.below hb)
          have Q2 := Lib.hid (Q2.out.keep hb)
          have H3 := Lib.hid (H3.out.below hb)
          have Q3 := Lib.hid (Q3.out.keep hb)
          have H4 := Lib.hid (H4.out.below hb)
          have Q4 := Lib.hid (Q4.out.keep hb)
          have H5 := Lib.hid (H5.out.below hb)
          have Q5 := Lib.hid (Q5.out.keep hb)
          have H6 := Lib.hid (H6.out.below hb)
          have Q6 := Lib.hid (Q6.out.keep hb)
          have H7 := Lib.hid (H7.out.below hb)
          have Q7 := Lib.hid (Q7.out.keep hb)
          have H8 := Lib.hid (H8.out.below hb)
          have Q8 := Lib.hid (Q8.out.keep hb)
          have HB := Lib.hid (chain HB.out hb)
          clear hb
          rw [HaL1.out] at hq1
          clear hm9
          obtain ⟨y0, y1, -, -⟩ := Qa.out.two
          obtain ⟨z0, z1, -, -⟩ := Qb.out.two
          obtain ⟨v1, u1, -, -⟩ := Q1.out.two
          obtain ⟨v2, u2, -, -⟩ := Q2.out.two
          obtain ⟨v3, u3, -, -⟩ := Q3.out.two
          obtain ⟨v4, u4, -, -⟩ := Q4.out.two
          obtain ⟨v5, u5, -, -⟩ := Q5.out.two
          obtain ⟨v6, u6, -, -⟩ := Q6.out.two
          obtain ⟨v7, u7, -, -⟩ := Q7.out.two
          obtain ⟨v8, u8, -, -⟩ := Q8.out.two
          go_wp2_with fail
          refine (apply_any n M T5 _ d5 _ (mulM M.toNat ks ms) L t u ss _ H5.out HPl.out Ht.out htu hu HX.out).mono ?_
          rintro e x14 ⟨X2, e2, rfl, hq3, hq4, hm10, hb⟩
          rw [HaL2.out, HaE2.out]
          clear y0 y1 z0 z1 v1 u1 v2 u2 v3 u3 v4 u4 v5 u5 v6 u6 v7 u7 v8 u8
          have H10 := Lib.hid (HaL2.out ▸ hm10)
          have Qa := Lib.hid (Qa.out.keep hb)
          have Qb := Lib.hid (Qb.out.keep hb)
          have Ha := Lib.hid (Ha.out.below hb)
          have Hb := Lib.hid (Hb.out.below hb)
          have Ht := Lib.hid (Ht.out.below hb)
          have HX := Lib.hid (HX.out.below hb)
          have H1 := Lib.hid (H1.out.below hb)
          have Q1 := Lib.hid (Q1.out.keep hb)
          have H2 := Lib.hid (H2.out.below hb)
          have Q2 := Lib.hid (Q2.out.keep hb)
          have H3 := Lib.hid (H3.out.below hb)
          have Q3 := Lib.hid (Q3.out.keep hb)
          have H4 := Lib.hid (H4.out.below hb)
          have Q4 := Lib.hid (Q4.out.keep hb)
          have H5 := Lib.hid (H5.out.below hb)
          have Q5 := Lib.hid (Q5.out.keep hb)
          have H6 := Lib.hid (H6.out.below hb)
          have Q6 := Lib.hid (Q6.out.keep hb)
          have H7 := Lib.hid (H7.out.below hb)
          have Q7 := Lib.hid (Q7.out.keep hb)
          have H8 := Lib.hid (H8.out.below hb)
          have Q8 := Lib.hid (Q8.out.keep hb)
          have H9 := Lib.hid (H9.out.below hb)
          have HB := Lib.hid (chain HB.out hb)
          clear hb
          rw [HaL2.out] at hq3
          clear hm10
          obtain ⟨y0, y1, -, -⟩ := Qa.out.two
          obtain ⟨z0, z1, -, -⟩ := Qb.out.two
          obtain ⟨v1, u1, -, -⟩ := Q1.out.two
          obtain ⟨v2, u2, -, -⟩ := Q2.out.two
          obtain ⟨v3, u3, -, -⟩ := Q3.out.two
          obtain ⟨v4, u4, -, -⟩ := Q4.out.two
          obtain ⟨v5, u5, -, -⟩ := Q5.out.two
          obtain ⟨v6, u6, -, -⟩ := Q6.out.two
          obtain ⟨v7, u7, -, -⟩ := Q7.out.two
          obtain ⟨v8, u8, -, -⟩ := Q8.out.two
          go_wp2_with fail
          refine (applyz_ok n N M ms ks ss A l c _ X1 e1 _ HBt.out HO1.out HO2.out Ha.out HML.out H9.out hq1 hq2 HX.out).mono ?_
          rintro e x15 ⟨X3, e3, rfl, hq5, hq6, hm11, hb⟩
          clear y0 y1 z0 z1 v1 u1 v2 u2 v3 u3 v4 u4 v5 u5 v6 u6 v7 u7 v8 u8
          have H11 := Lib.hid (hm11)
          have Qa := Lib.hid (Qa.out.keep hb)
          have Qb := Lib.hid (Qb.out.keep hb)
          have Ha := Lib.hid (Ha.out.below hb)
          have Hb := Lib.hid (Hb.out.below hb)
          have Ht := Lib.hid (Ht.out.below hb)
          have HX := Lib.hid (HX.out.below hb)
          have H1 := Lib.hid (H1.out.below hb)
          have Q1 := Lib.hid (Q1.out.keep hb)
          have H2 := Lib.hid (H2.out.below hb)
          have Q2 := Lib.hid (Q2.out.keep hb)
          have H3 := Lib.hid (H3.out.below hb)
          have Q3 := Lib.hid (Q3.out.keep hb)
          have H4 := Lib.hid (H4.out.below hb)
          have Q4 := Lib.hid (Q4.out.keep hb)
          have H5 := Lib.hid (H5.out.below hb)
          have Q5 := Lib.hid (Q5.out.keep hb)
          have H6 := Lib.hid (H6.out.below hb)
          have Q6 := Lib.hid (Q6.out.keep hb)
          have H7 := Lib.hid (H7.out.below hb)
          have Q7 := Lib.hid (Q7.out.keep hb)
          have H8 := Lib.hid (H8.out.below hb)
          have Q8 := Lib.hid (Q8.out.keep hb)
          have H9 := Lib.hid (H9.out.below hb)
          have H10 := Lib.hid (H10.out.below hb)
          have HB := Lib.hid (chain HB.out hb)
          clear hb
          clear hm11
          obtain ⟨y0, y1, -, -⟩ := Qa.out.two
          obtain ⟨z0, z1, -, -⟩ := Qb.out.two
          obtain ⟨v1, u1, -, -⟩ := Q1.out.two
          obtain ⟨v2, u2, -, -⟩ := Q2.out.two
          obtain ⟨v3, u3, -, -⟩ := Q3.out.two
          obtain ⟨v4, u4, -, -⟩ := Q4.out.two
          obtain ⟨v5, u5, -, -⟩ := Q5.out.two
          obtain ⟨v6, u6, -, -⟩ := Q6.out.two
          obtain ⟨v7, u7, -, -⟩ := Q7.out.two
          obtain ⟨v8, u8, -, -⟩ := Q8.out.two
          go_wp2_with fail
          refine (refTexts_same X2 X3 _ e2 e3 _ _ H10.out H11.out HYL.out).mono ?_
          rintro e x16 ⟨rfl, hb⟩
          clear y0 y1 z0 z1 v1 u1 v2 u2 v3 u3 v4 u4 v5 u5 v6 u6 v7 u7 v8 u8
          have Qa := Lib.hid (Qa.out.keep hb)
          have Qb := Lib.hid (Qb.out.keep hb)
          have Ha := Lib.hid (Ha.out.below hb)
          have Hb := Lib.hid (Hb.out.below hb)
          have Ht := Lib.hid (Ht.out.below hb)
          have HX := Lib.hid (HX.out.below hb)
          have H1 := Lib.hid (H1.out.below hb)
          have Q1 := Lib.hid (Q1.out.keep hb)
          have H2 := Lib.hid (H2.out.below hb)
          have Q2 := Lib.hid (Q2.out.keep hb)
          have H3 := Lib.hid (H3.out.below hb)
          have Q3 := Lib.hid (Q3.out.keep hb)
          have H4 := Lib.hid (H4.out.below hb)
          have Q4 := Lib.hid (Q4.out.keep hb)
          have H5 := Lib.hid (H5.out.below hb)
          have Q5 := Lib.hid (Q5.out.keep hb)
          have H6 := Lib.hid (H6.out.below hb)
          have Q6 := Lib.hid (Q6.out.keep hb)
          have H7 := Lib.hid (H7.out.below hb)
          have Q7 := Lib.hid (Q7.out.keep hb)
          have H8 := Lib.hid (H8.out.below hb)
          have Q8 := Lib.hid (Q8.out.keep hb)
          have H9 := Lib.hid (H9.out.below hb)
          have H10 := Lib.hid (H10.out.below hb)
          have H11 := Lib.hid (H11.out.below hb)
          have HB := Lib.hid (chain HB.out hb)
          clear hb
          obtain ⟨y0, y1, -, -⟩ := Qa.out.two
          obtain ⟨z0, z1, -, -⟩ := Qb.out.two
          obtain ⟨v1, u1, -, -⟩ := Q1.out.two
          obtain ⟨v2, u2, -, -⟩ := Q2.out.two
          obtain ⟨v3, u3, -, -⟩ := Q3.out.two
          obtain ⟨v4, u4, -, -⟩ := Q4.out.two
          obtain ⟨v5, u5, -, -⟩ := Q5.out.two
          obtain ⟨v6, u6, -, -⟩ := Q6.out.two
          obtain ⟨v7, u7, -, -⟩ := Q7.out.two
          obtain ⟨v8, u8, -, -⟩ := Q8.out.two
          go_wp2_with fail
          go_ret
          exact ⟨rfl, HB.out⟩
        · have hne : appB n M ks ss = false ∧ appB n M (mulM M.toNat ks ms) ss = false := by
            have : (okS n ss && (ss.length : Int) == M) = false := by
              rw [Bool.eq_false_iff]
              intro h
              simp only [Bool.and_eq_true, beq_iff_eq] at h
              exact hok h
            constructor
            · rw [appB, this, Bool.and_false]
            · rw [appB, this, Bool.and_false]
          have hE : ∀ ps, rightM M ps = true → appE n M ps ss = 2 := fun ps h => by
            by_cases h1 : okS n ss = true
            · have : ¬ (ss.length : Int) = M := fun e => hok ⟨h1, e⟩
              simp [appE, h, h1, this]
            · simp [appE, h, h1]
          have HaL1 := Lib.hid (show appL n M ks ss = [] by simp [appL, hne.1])
          have HaE1 := Lib.hid (hE ks HRb.out)
          have HaL2 := Lib.hid (show appL n M (mulM M.toNat ks ms) ss = [] by simp [appL, hne.2])
          have HaE2 := Lib.hid (hE _ HRp.out)
          clear hok hne hE
          go_wp2_with fail
          refine (apply_any n M B k d _ ks L t u ss _ Hb.out HMK.out Ht.out htu hu HX.out).mono ?_
          rintro e x13 ⟨X1, e1, rfl, -, -, -, hb⟩
          rw [HaL1.out, HaE1.out]
          clear y0 y1 z0 z1 v1 u1 v2 u2 v3 u3 v4 u4 v5 u5 v6 u6 v7 u7 v8 u8
          have Qa := Lib.hid (Qa.out.keep hb)
          have Qb := Lib.hid (Qb.out.keep hb)
          have Ha := Lib.hid (Ha.out.below hb)
          have Hb := Lib.hid (Hb.out.below hb)
          have Ht := Lib.hid (Ht.out.below hb)
          have HX := Lib.hid (HX.out.below hb)
          have H1 := Lib.hid (H1.out.below hb)
          have Q1 := Lib.hid (Q1.out.keep hb)
          have H2 := Lib.hid (H2.out.below hb)
          have Q2 := Lib.hid (Q2.out.keep hb)
          have H3 := Lib.hid (H3.out.below hb)
          have Q3 := Lib.hid (Q3.out.keep hb)
          have H4 := Lib.hid (H4.out.below hb)
          have Q4 := Lib.hid (Q4.out.keep hb)
          have H5 := Lib.hid (H5.out.below hb)
          have Q5 := Lib.hid (Q5.out.keep hb)
          have H6 := Lib.hid (H6.out.below hb)
          have Q6 := Lib.hid (Q6.out.keep hb)
          have H7 := Lib.hid (H7.out.below hb)
          have Q7 := Lib.hid (Q7.out.keep hb)
          have H8 := Lib.hid (H8.out.below hb)
          have Q8 := Lib.hid (Q8.out.keep hb)
          have HB := Lib.hid (chain HB.out hb)
          clear hb
          obtain ⟨y0, y1, -, -⟩ := Qa.out.two
          obtain ⟨z0, z1, -, -⟩ := Qb.out.two
          obtain ⟨v1, u1, -, -⟩ := Q1.out.two
          obtain ⟨v2, u2, -, -⟩ := Q2.out.two
          obtain ⟨v3, u3, -, -⟩ := Q3.out.two
          obtain ⟨v4, u4, -, -⟩ := Q4.out.two
          obtain ⟨v5, u5, -, -⟩ := Q5.out.two
          obtain ⟨v6, u6, -, -⟩ := Q6.out.two
          obtain ⟨v7, u7, -, -⟩ := Q7.out.two
          obtain ⟨v8, u8, -, -⟩ := Q8.out.two
          go_wp2_with fail
          refine (apply_any n M T5 _ d5 _ (mulM M.toNat ks ms) L t u ss _ H5.out HPl.out Ht.out htu hu HX.out).mono ?_
          rintro e x14 ⟨X2, e2, rfl, -, -, -, hb⟩
          rw [HaL2.out, HaE2.out]
          clear y0 y1 z0 z1 v1 u1 v2 u2 v3 u3 v4 u4 v5 u5 v6 u6 v7 u7 v8 u8
          have Qa := Lib.hid (Qa.out.keep hb)
          have Qb := Lib.hid (Qb.out.keep hb)
          have Ha := Lib.hid (Ha.out.below hb)
          have Hb := Lib.hid (Hb.out.below hb)
          have Ht := Lib.hid (Ht.out.below hb)
          have HX := Lib.hid (HX.out.below hb)
          have H1 := Lib.hid (H1.out.below hb)
          have Q1 := Lib.hid (Q1.out.keep hb)
          have H2 := Lib.hid (H2.out.below hb)
          have Q2 := Lib.hid (Q2.out.keep hb)
          have H3 := Lib.hid (H3.out.below hb)
          have Q3 := Lib.hid (Q3.out.keep hb)
          have H4 := Lib.hid (H4.out.below hb)
          have Q4 := Lib.hid (Q4.out.keep hb)
          have H5 := Lib.hid (H5.out.below hb)
          have Q5 := Lib.hid (Q5.out.keep hb)
          have H6 := Lib.hid (H6.out.below hb)
          have Q6 := Lib.hid (Q6.out.keep hb)
          have H7 := Lib.hid (H7.out.below hb)
          have Q7 := Lib.hid (Q7.out.keep hb)
          have H8 := Lib.hid (H8.out.below hb)
          have Q8 := Lib.hid (Q8.out.keep hb)
          have HB := Lib.hid (chain HB.out hb)
          clear hb
          obtain ⟨y0, y1, -, -⟩ := Qa.out.two
          obtain ⟨z0, z1, -, -⟩ := Qb.out.two
          obtain ⟨v1, u1, -, -⟩ := Q1.out.two
          obtain ⟨v2, u2, -, -⟩ := Q2.out.two
          obtain ⟨v3, u3, -, -⟩ := Q3.out.two
          obtain ⟨v4, u4, -, -⟩ := Q4.out.two
          obtain ⟨v5, u5, -, -⟩ := Q5.out.two
          obtain ⟨v6, u6, -, -⟩ := Q6.out.two
          obtain ⟨v7, u7, -, -⟩ := Q7.out.two
          obtain ⟨v8, u8, -, -⟩ := Q8.out.two
          go_wp2_with fail
          go_ret
          exact ⟨rfl, HB.out⟩
end
section
/- How a row (a struct with a slice of words) and a slice of ints that came in are opened. -/
set_option linter.unusedVariables false
set_option linter.unusedSimpArgs false
open Go.RowKit Go.Joins Go.ChangeShapes Go.WideShapes
theorem cellsRow : Tryd.prog.cellsOf 45 = 2 := by kernel_rfl
theorem open_row {H : Type} {enc : TypeId × Value → H} {W : World} {r : Reach} {b0 : Nat} {v : Value} {d : DataW H} {p : List MemPlace}
    (hv : Value.okWide Tryd.prog W r b0 45 v) (h : DataW.Trod enc Tryd.prog W 0 (fun _ => true) true 45 v d p) :
    ∃ n A l c us, v = .agg #[.int .i64 n, .slice A l c] ∧ (Lit.int .i64 n).wf = true ∧ SliceOk A l c ∧ Words W A l us := by
  obtain ⟨c0, c1, y0, y1, m, rfl, rfl, rfl, hy0, hy1⟩ := open_agg2 Tryd.underlying45 (by kernel_rfl) cellsRow hv h
  obtain ⟨a, e0, -, wa⟩ := DataW.trod_int Tryd.underlying3 hy0
  obtain ⟨A, l, c, us, e1, hs, hw⟩ := open_words hy1
  simp at e0 e1
  subst e0 e1
  exact ⟨a, A, l, c, us, rfl, wa, hs, hw⟩
end
section
/- How a slice of texts that came in is opened. -/
set_option linter.unusedVariables false
set_option linter.unusedSimpArgs false
open Go.RowKit Go.Joins Go.ChangeShapes Go.WideShapes
theorem cellsStr : Tryd.prog.cellsOf 9 = 1 := by kernel_rfl
theorem open_texts {H : Type} {enc : TypeId × Value → H} {W : World} {fuel : Nat} {cs : List Value} {x : DataW H × List MemPlace}
    (h : DataW.trod enc Tryd.prog W 0 (fun _ => true) true fuel 25 cs = some x) : ∃ A l c ss, cs = [.slice A l c] ∧ SliceOk A l c ∧ Texts W A l ss := by
  rcases open_strings Tryd.underlying25 Tryd.underlying9 cellsStr h with ⟨hcs, _⟩ | ⟨a, len, cap, ss, hcs, _, hl, hm, hz, _, hcell, hwz⟩
  · exact ⟨none, 0, 0, [], hcs, ⟨Nat.le_refl _, Nat.zero_le _, fun _ => ⟨rfl, rfl⟩⟩, Texts.nil _ _⟩
  · have hz' : ss.length = cap := by simpa using hz
    refine ⟨some a, len, cap, ss.take len, hcs, ⟨hl, hm, fun h => by cases h⟩, ?_⟩
    have hget : ∀ j, j < len → (ss.take len).getD j ByteArray.empty = ss.getD j ByteArray.empty := fun j hj => by
      simp [List.getD, hj]
    refine ⟨by simp; omega, fun j => ?_, fun hp => ?_⟩
    · by_cases hj : j < len
      · rw [hget j hj]
        have hjs : j < ss.length := by omega
        have := hwz (ss[j]) (List.getElem_mem _)
        simpa [List.getD, hjs] using this
      · have hn : (ss.take len)[j]? = none := List.getElem?_eq_none (by simp; omega)
        simp [List.getD, hn, maxLen]
    · obtain ⟨b, o, rfl⟩ := addr_at (hcell 0 (by omega))
      have hadd : ∀ j, Addr.add { block := b, off := o } j = ⟨b, o + j, none⟩ := fun j => by
        by_cases h : j = 0 <;> simp [Addr.add, h]
      refine ⟨b, o, rfl, ?_, fun j hj => ?_⟩
      · have := block_lt_of_cell (hcell 0 (by omega))
        rw [hadd] at this
        exact this
      · have := hcell j (by omega)
        rw [hadd] at this
        rw [this, hget j hj]
end
end Go.Proofs.YtljooknodnblbaaDoor
