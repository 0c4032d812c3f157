/- BitrowJoins: the walk. -/
import Derived.Test.YtfeaollpeaphlaaRefXor
import Derived.Test.YtfeaollpeaphlaaSame
import Derived.Test.YtfeaollpeaphlaaWords2
import Derived.Test.YtfeaollpeaphlaaOf
import Derived.OpenShut
namespace Go.Proofs.Ytfeaollpeaphlaa
open Go.RowKit
set_option maxRecDepth 100000 in
set_option maxHeartbeats 8000000 in
theorem joins_walk (n m : Int) (A B : Option Addr) (l1 c1 l2 c2 : Nat) (us vs : List Nat) (w : World)
    (s1 : SliceOk A l1 c1) (s2 : SliceOk B l2 c2) (h1 : Words w A l1 us) (h2 : Words w B l2 vs) :
    Calls Try.prog 4 #[.agg #[.int .i64 n, .slice A l1 c1], .agg #[.int .i64 m, .slice B l2 c2]] w fun e w' => e = .returned (.bool true) ∧ Below w.heap.size w w' := by
  have q0 := (Box.new w 25 #[.int .i64 n, .slice A l1 c1]).alloc (.cells #[.int .i64 m, .slice B l2 c2] 25)
  have q1 := Box.new (w.alloc (.cells #[.int .i64 n, .slice A l1 c1] 25)) 25 #[.int .i64 m, .slice B l2 c2]
  have hW : Below w.heap.size w ((w.alloc (.cells #[.int .i64 n, .slice A l1 c1] 25)).alloc (.cells #[.int .i64 m, .slice B l2 c2] 25)) := ((Below.refl _ _).alloc (Nat.le_refl _) _).alloc (by simp) _
  simp only [World.size_alloc] at q1
  go_enter Try.func4, Try.ntmps4
  go_wp2_with fail
  generalize hW0 : (w.alloc (.cells #[.int .i64 n, .slice A l1 c1] 25)).alloc (.cells #[.int .i64 m, .slice B l2 c2] 25) = W at *
  clear hW0
  have hz := q1.lt
  have Q0 := Lib.hid q0
  have Q1 := Lib.hid q1
  have HW := Lib.hid hW
  have H1 := Lib.hid (h1.below hW)
  have H2 := Lib.hid (h2.below hW)
  obtain ⟨a0, a1, -, -⟩ := q0.two
  obtain ⟨b0, b1, -, -⟩ := q1.two
  clear q0 q1 hW h1 h2
  go_cut [] (fun wx => ∃ A l c B k d, Box wx w.heap.size 25 #[.int .i64 n, .slice A l c] ∧ Box wx (w.heap.size + 1) 25 #[.int .i64 m, .slice B k d] ∧ Words wx A l (us.take 10) ∧ Words wx B k (vs.take 10) ∧ Below w.heap.size w wx)
  case first =>
    go_region_with (first
      | (go_at_call_of 8 (Value.agg #[.int .i64 n, .slice A l1 c1]); refine (few_any n A l1 c1 s1 us _ (by exact H1.out)).mono ?_; rintro e1 x1 ⟨A1, m1, d1, rfl, hw1, hb1⟩; have P0 := Lib.hid (Q0.out.drew.keep hb1); have P1 := Lib.hid (Q1.out.drew.keep hb1); have J2 := Lib.hid (H2.out.drew.below hb1); have T1 := Lib.hid (chain HW.out.drew hb1); have hw1 := Lib.hid hw1; clear hb1; obtain ⟨k0, k1, -, -⟩ := P1.out.two)
      | (go_at_call_of 8 (Value.agg #[.int .i64 m, .slice B l2 c2]); refine (few_any m B l2 c2 s2 vs _ (by exact J2.out)).mono ?_; rintro e2 x2 ⟨A2, m2, d2, rfl, hw2, hb2⟩; have P0 := Lib.hid (P0.out.keep hb2); have P1 := Lib.hid (P1.out.keep hb2); have J1 := Lib.hid (hw1.out.below hb2); have J2 := Lib.hid hw2; have T1 := Lib.hid (chain T1.out hb2); clear hb2 hw2; obtain ⟨k6, k7, f0, f1⟩ := P0.out.two; obtain ⟨k8, k9, f2, f3⟩ := P1.out.two))
    all_goals (go_wp2_with fail; go_meet; exact ⟨A1, m1, d1, A2, m2, d2, two_rows P0.out P1.out (by omega) T1.out (by omega) (by omega) J1.out J2.out⟩)
  case rest =>
    obtain ⟨A, l, c, B, k, d, Ka, Kb, Ja, Jb, KB⟩ := hcut
    clear H1 H2 Q0 Q1 HW a0 a1 b0 b1 s1 s2
    generalize us.take 10 = us at *
    generalize vs.take 10 = vs at *
    by_cases hall : rightB n us = true ∧ rightB m vs = true ∧ n = m
    · obtain ⟨r1, r2, rfl⟩ := hall
      obtain ⟨N, rfl⟩ := Int.eq_ofNat_of_zero_le ((lmb_iff n).1 (right_lmb r1)).1
      have Ra := Lib.hid r1
      have Rb := Lib.hid r2
      clear r1 r2
      have Qa := Lib.hid Ka
      have Qb := Lib.hid Kb
      have Ha := Lib.hid Ja
      have Hb := Lib.hid Jb
      have HB := Lib.hid KB
      clear Ka Kb Ja Jb KB
      have yz := Qa.out.lt
      obtain ⟨y0, y1, -, -⟩ := Qa.out.two
      have zz := Qb.out.lt
      obtain ⟨z0, z1, -, -⟩ := Qb.out.two
      go_wp2_with fail
      refine (xor_ok (N : Int) A B l c k d us vs _ Ha.out Hb.out Ra.out Rb.out).mono ?_
      rintro e1 x1 ⟨A1, l1, c1, rfl, hw, hb⟩
      clear yz y0 y1 zz z0 z1
      have Qa := Lib.hid ((Qa.out).keep hb)
      have Ha := Lib.hid ((Ha.out).below hb)
      have Qb := Lib.hid ((Qb.out).keep hb)
      have Hb := Lib.hid ((Hb.out).below hb)
      have HB := Lib.hid (chain HB.out hb)
      have Hx := Lib.hid hw
      clear hw hb
      have yz := Qa.out.lt
      obtain ⟨y0, y1, -, -⟩ := Qa.out.two
      have zz := Qb.out.lt
      obtain ⟨z0, z1, -, -⟩ := Qb.out.two
      go_wp2_with fail
      refine (and_ok (N : Int) A B l c k d us vs _ (Ha.out.alloc _) (Hb.out.alloc _) Ra.out Rb.out).mono ?_
      rintro e2 x2 ⟨A2, l2, c2, rfl, hw, hb⟩
      clear yz y0 y1 zz z0 z1
      have Qa := Lib.hid ((Qa.out.alloc _).keep hb)
      have Ha := Lib.hid ((Ha.out.alloc _).below hb)
      have Qb := Lib.hid ((Qb.out.alloc _).keep hb)
      have Hb := Lib.hid ((Hb.out.alloc _).below hb)
      have Qx := Lib.hid ((Box.new x1 25 #[.int .i64 (N : Int), .slice A1 l1 c1]).keep hb)
      have Hx := Lib.hid ((Hx.out.alloc _).below hb)
      have HB := Lib.hid (chain (HB.out.alloc HB.out.size _) hb)
      have Hy := Lib.hid hw
      clear hw hb
      have yz := Qa.out.lt
      obtain ⟨y0, y1, -, -⟩ := Qa.out.two
      go_wp2_with fail
      refine (refRight_any (N : Int) A l c us _ (Ha.out.alloc _)).mono ?_
      rintro e3 x3 ⟨rfl, hb⟩
      clear yz y0 y1
      have Qa := Lib.hid ((Qa.out.alloc _).keep hb)
      have Ha := Lib.hid ((Ha.out.alloc _).below hb)
      have Qb := Lib.hid ((Qb.out.alloc _).keep hb)
      have Hb := Lib.hid ((Hb.out.alloc _).below hb)
      have Qx := Lib.hid ((Qx.out.alloc _).keep hb)
      have Hx := Lib.hid ((Hx.out.alloc _).below hb)
      have Qy := Lib.hid ((Box.new x2 25 #[.int .i64 (N : Int), .slice A2 l2 c2]).keep hb)
      have Hy := Lib.hid ((Hy.out.alloc _).below hb)
      have HB := Lib.hid (chain (HB.out.alloc HB.out.size _) hb)
      clear hb
      rw [Ra.out]
      obtain ⟨y0, y1, -, -⟩ := Qb.out.two
      go_wp2_with fail
      refine (refRight_any (N : Int) B k d vs _ Hb.out).mono ?_
      rintro e4 x4 ⟨rfl, hb⟩
      clear y0 y1
      have Qa := Lib.hid ((Qa.out).keep hb)
      have Ha := Lib.hid ((Ha.out).below hb)
      have Qb := Lib.hid ((Qb.out).keep hb)
      have Hb := Lib.hid ((Hb.out).below hb)
      have Qx := Lib.hid ((Qx.out).keep hb)
      have Hx := Lib.hid ((Hx.out).below hb)
      have Qy := Lib.hid ((Qy.out).keep hb)
      have Hy := Lib.hid ((Hy.out).below hb)
      have HB := Lib.hid (chain HB.out hb)
      clear hb
      rw [Rb.out]
      obtain ⟨p0, p1, -, -⟩ := Qa.out.two
      obtain ⟨q0, q1, -, -⟩ := Qb.out.two
      obtain ⟨r0, r1, -, -⟩ := Qx.out.two
      obtain ⟨s0, s1, -, -⟩ := Qy.out.two
      go_wp2_with fail
      have tok1 : True := trivial
      have SX : Hid (sameB (N : Int) (xorL us vs) (N : Int) (xorL us vs) = true) := by show _ = _; simp [sameB]
      have SY : Hid (sameB (N : Int) (andL us vs) (N : Int) (andL us vs) = true) := by show _ = _; simp [sameB]
      have Hl1 := Lib.hid (show l1 ≤ 1000000 from by have := rightB_len8 (right_xor Ra.out Rb.out) Hx.out.1; omega)
      have Hl2 := Lib.hid (show l2 ≤ 1000000 from by have := rightB_len8 (right_and Ra.out Rb.out) Hy.out.1; omega)
      go_region_held3 (fun w' => w'.cell? ⟨w.heap.size, 0, none⟩ = some (.int .i64 (N : Int)) ∧ w'.cell? ⟨w.heap.size, 1, none⟩ = some (.slice A l c) ∧ w'.cell? ⟨w.heap.size + 1, 0, none⟩ = some (.int .i64 (N : Int)) ∧ w'.cell? ⟨w.heap.size + 1, 1, none⟩ = some (.slice B k d) ∧ w'.cell? ⟨x1.heap.size, 0, none⟩ = some (.int .i64 (N : Int)) ∧ w'.cell? ⟨x1.heap.size, 1, none⟩ = some (.slice A1 l1 c1) ∧ w'.cell? ⟨x2.heap.size, 0, none⟩ = some (.int .i64 (N : Int)) ∧ w'.cell? ⟨x2.heap.size, 1, none⟩ = some (.slice A2 l2 c2)) (go_keep)
        (first
          | (go_at_call 15; refine (alive1_any _).mono ?_; rintro f1 y1 ⟨rfl, hb⟩; have Qa1 := Lib.hid (Qa.out.drew.keep hb); have Ha1 := Lib.hid (Ha.out.drew.below hb); have Qb1 := Lib.hid (Qb.out.drew.keep hb); have Hb1 := Lib.hid (Hb.out.drew.below hb); have Qx1 := Lib.hid (Qx.out.drew.keep hb); have Hx1 := Lib.hid (Hx.out.drew.below hb); have Qy1 := Lib.hid (Qy.out.drew.keep hb); have Hy1 := Lib.hid (Hy.out.drew.below hb); have HB1 := Lib.hid (chain HB.out.drew hb); clear hb; obtain ⟨t1a0, t1a1, -, -⟩ := Qa1.out.two; obtain ⟨t1b0, t1b1, -, -⟩ := Qb1.out.two; obtain ⟨t1x0, t1x1, -, -⟩ := Qx1.out.two; obtain ⟨t1y0, t1y1, -, -⟩ := Qy1.out.two)
          | (go_at_call 20; refine (refXor_any N A B l c k d us vs _ Ha1.out Hb1.out Ra.out Rb.out).mono ?_; rintro f2 y2 ⟨A3, l3, c3, rfl, hw3, hb⟩; have Qa2 := Lib.hid (Qa1.out.keep hb); have Ha2 := Lib.hid (Ha1.out.below hb); have Qb2 := Lib.hid (Qb1.out.keep hb); have Hb2 := Lib.hid (Hb1.out.below hb); have Qx2 := Lib.hid (Qx1.out.keep hb); have Hx2 := Lib.hid (Hx1.out.below hb); have Qy2 := Lib.hid (Qy1.out.keep hb); have Hy2 := Lib.hid (Hy1.out.below hb); have HB2 := Lib.hid (chain HB1.out hb); have Hu2 := Lib.hid hw3; clear hw3; clear hb; obtain ⟨t2a0, t2a1, -, -⟩ := Qa2.out.two; obtain ⟨t2b0, t2b1, -, -⟩ := Qb2.out.two; obtain ⟨t2x0, t2x1, -, -⟩ := Qx2.out.two; obtain ⟨t2y0, t2y1, -, -⟩ := Qy2.out.two)
          | (go_at_call_of 14 (Value.agg #[.int .i64 (N : Int), .slice A1 l1 c1]); have _tok := tok1; go_at_call 14; refine (same_any (N : Int) (N : Int) A1 A3 l1 c1 l3 c3 _ _ _ Hx2.out Hu2.out Hl1.out).mono ?_; rintro f3 y3 ⟨rfl, hb⟩; have Qa3 := Lib.hid (Qa2.out.keep hb); have Ha3 := Lib.hid (Ha2.out.below hb); have Qb3 := Lib.hid (Qb2.out.keep hb); have Hb3 := Lib.hid (Hb2.out.below hb); have Qx3 := Lib.hid (Qx2.out.keep hb); have Hx3 := Lib.hid (Hx2.out.below hb); have Qy3 := Lib.hid (Qy2.out.keep hb); have Hy3 := Lib.hid (Hy2.out.below hb); have HB3 := Lib.hid (chain HB2.out hb); rw [SX.out]; clear tok1; clear hb; obtain ⟨t3a0, t3a1, -, -⟩ := Qa3.out.two; obtain ⟨t3b0, t3b1, -, -⟩ := Qb3.out.two; obtain ⟨t3x0, t3x1, -, -⟩ := Qx3.out.two; obtain ⟨t3y0, t3y1, -, -⟩ := Qy3.out.two)
          | (go_at_call 21; refine (refAnd_any N A B l c k d us vs _ Ha3.out Hb3.out Ra.out Rb.out).mono ?_; rintro f4 y4 ⟨A4, l4, c4, rfl, hw4, hb⟩; have Qa4 := Lib.hid (Qa3.out.keep hb); have Ha4 := Lib.hid (Ha3.out.below hb); have Qb4 := Lib.hid (Qb3.out.keep hb); have Hb4 := Lib.hid (Hb3.out.below hb); have Qx4 := Lib.hid (Qx3.out.keep hb); have Hx4 := Lib.hid (Hx3.out.below hb); have Qy4 := Lib.hid (Qy3.out.keep hb); have Hy4 := Lib.hid (Hy3.out.below hb); have HB4 := Lib.hid (chain HB3.out hb); have Hu4 := Lib.hid hw4; clear hw4; clear hb; obtain ⟨t4a0, t4a1, -, -⟩ := Qa4.out.two; obtain ⟨t4b0, t4b1, -, -⟩ := Qb4.out.two; obtain ⟨t4x0, t4x1, -, -⟩ := Qx4.out.two; obtain ⟨t4y0, t4y1, -, -⟩ := Qy4.out.two)
          | (go_at_call_of 14 (Value.agg #[.int .i64 (N : Int), .slice A2 l2 c2]); go_at_call 14; refine (same_any (N : Int) (N : Int) A2 A4 l2 c2 l4 c4 _ _ _ Hy4.out Hu4.out Hl2.out).mono ?_; rintro f5 y5 ⟨rfl, hb⟩; have Qa5 := Lib.hid (Qa4.out.keep hb); have Ha5 := Lib.hid (Ha4.out.below hb); have Qb5 := Lib.hid (Qb4.out.keep hb); have Hb5 := Lib.hid (Hb4.out.below hb); have Qx5 := Lib.hid (Qx4.out.keep hb); have Hx5 := Lib.hid (Hx4.out.below hb); have Qy5 := Lib.hid (Qy4.out.keep hb); have Hy5 := Lib.hid (Hy4.out.below hb); have HB5 := Lib.hid (chain HB4.out hb); rw [SY.out]; clear hb; obtain ⟨t5a0, t5a1, -, -⟩ := Qa5.out.two; obtain ⟨t5b0, t5b1, -, -⟩ := Qb5.out.two; obtain ⟨t5x0, t5x1, -, -⟩ := Qx5.out.two; obtain ⟨t5y0, t5y1, -, -⟩ := Qy5.out.two))
      go_wp2
      go_ret
      exact ⟨rfl, HB5.out⟩
    · have Qa := Lib.hid Ka
      have Qb := Lib.hid Kb
      have Ha := Lib.hid Ja
      have Hb := Lib.hid Jb
      have HB := Lib.hid KB
      clear Ka Kb Ja Jb KB
      have yz := Qa.out.lt
      obtain ⟨y0, y1, -, -⟩ := Qa.out.two
      have zz := Qb.out.lt
      obtain ⟨z0, z1, -, -⟩ := Qb.out.two
      go_wp2_with fail
      refine (xor_any n m A B l c k d us vs _ Ha.out Hb.out).mono ?_
      rintro e1 x1 ⟨A1, l1, c1, rfl, hw, hb⟩
      clear yz y0 y1 zz z0 z1
      have Qa := Lib.hid (Qa.out.keep hb)
      have Ha := Lib.hid (Ha.out.below hb)
      have Qb := Lib.hid (Qb.out.keep hb)
      have Hb := Lib.hid (Hb.out.below hb)
      have HB := Lib.hid (chain HB.out hb)
      have Hx := Lib.hid hw
      clear hw hb
      have yz := Qa.out.lt
      obtain ⟨y0, y1, -, -⟩ := Qa.out.two
      have zz := Qb.out.lt
      obtain ⟨z0, z1, -, -⟩ := Qb.out.two
      go_wp2_with fail
      refine (and_any n m A B l c k d us vs _ (Ha.out.alloc _) (Hb.out.alloc _)).mono ?_
      rintro e2 x2 ⟨A2, l2, c2, rfl, hw, hb⟩
      clear yz y0 y1 zz z0 z1
      have Qa := Lib.hid ((Qa.out.alloc _).keep hb)
      have Ha := Lib.hid ((Ha.out.alloc _).below hb)
      have Qb := Lib.hid ((Qb.out.alloc _).keep hb)
      have Hb := Lib.hid ((Hb.out.alloc _).below hb)
      have Qx := Lib.hid ((Box.new x1 25 #[.int .i64 (joinN n us m vs), .slice A1 l1 c1]).keep hb)
      have Hx := Lib.hid ((Hx.out.alloc _).below hb)
      have HB := Lib.hid (chain (HB.out.alloc HB.out.size _) hb)
      have Hy := Lib.hid hw
      clear hw hb
      have yz := Qa.out.lt
      obtain ⟨y0, y1, -, -⟩ := Qa.out.two
      go_wp2_with fail
      refine (refRight_any n A l c us _ (Ha.out.alloc _)).mono ?_
      rintro e3 x3 ⟨rfl, hb⟩
      clear yz y0 y1
      have Qa := Lib.hid ((Qa.out.alloc _).keep hb)
      have Ha := Lib.hid ((Ha.out.alloc _).below hb)
      have Qb := Lib.hid ((Qb.out.alloc _).keep hb)
      have Hb := Lib.hid ((Hb.out.alloc _).below hb)
      have Qx := Lib.hid ((Qx.out.alloc _).keep hb)
      have Hx := Lib.hid ((Hx.out.alloc _).below hb)
      have Qy := Lib.hid ((Box.new x2 25 #[.int .i64 (joinN n us m vs), .slice A2 l2 c2]).keep hb)
      have Hy := Lib.hid ((Hy.out.alloc _).below hb)
      have HB := Lib.hid (chain (HB.out.alloc HB.out.size _) hb)
      clear hb
      cases r1 : rightB n us with
      | false =>
        have hE : joinE n us m vs = 1 := by unfold joinE; rw [r1]; rfl
        have HNx := Lib.hid (joinE_no (· ^^^ ·) (show joinE n us m vs ≠ 0 by omega))
        have HNy := Lib.hid (joinE_no (· &&& ·) (show joinE n us m vs ≠ 0 by omega))
        clear r1 hall
        go_wp2_with fail
        refine (alive1_any _).mono ?_
        rintro e5 x5 ⟨rfl, hb⟩
        have Qa := Lib.hid (Qa.out.keep hb)
        have Ha := Lib.hid (Ha.out.below hb)
        have Qb := Lib.hid (Qb.out.keep hb)
        have Hb := Lib.hid (Hb.out.below hb)
        have Qx := Lib.hid (Qx.out.keep hb)
        have Hx := Lib.hid (Hx.out.below hb)
        have Qy := Lib.hid (Qy.out.keep hb)
        have Hy := Lib.hid (Hy.out.below hb)
        have HB := Lib.hid (chain HB.out hb)
        clear hb
        obtain ⟨y0, y1, -, -⟩ := Qx.out.two
        go_wp2_with fail
        refine (same_any _ 0 A1 none l1 c1 0 0 _ [] _ Hx.out (Words.nil _ _) (by have := Hx.out.1; rw [HNx.out.2] at this; simp at this; omega)).mono ?_
        rintro e6 x6 ⟨rfl, hb⟩
        clear y0 y1
        rw [HNx.out.1, HNx.out.2, show sameB 0 [] 0 [] = true from rfl]
        have HB := Lib.hid (chain HB.out hb)
        have Qy := Lib.hid (Qy.out.keep hb)
        have Hy := Lib.hid (Hy.out.below hb)
        clear hb
        obtain ⟨y0, y1, -, -⟩ := Qy.out.two
        go_wp2_with fail
        refine (same_any _ 0 A2 none l2 c2 0 0 _ [] _ Hy.out (Words.nil _ _) (by have := Hy.out.1; rw [HNy.out.2] at this; simp at this; omega)).mono ?_
        rintro e7 x7 ⟨rfl, hb⟩
        clear y0 y1
        rw [HNy.out.1, HNy.out.2, show sameB 0 [] 0 [] = true from rfl]
        have HB := Lib.hid (chain HB.out hb)
        clear hb
        go_wp2
        go_ret
        exact ⟨by simp, HB.out⟩
      | true =>
        obtain ⟨y0, y1, -, -⟩ := Qb.out.two
        go_wp2_with fail
        refine (refRight_any m B k d vs _ Hb.out).mono ?_
        rintro e4 x4 ⟨rfl, hb⟩
        clear y0 y1
        have Qa := Lib.hid (Qa.out.keep hb)
        have Ha := Lib.hid (Ha.out.below hb)
        have Qb := Lib.hid (Qb.out.keep hb)
        have Hb := Lib.hid (Hb.out.below hb)
        have Qx := Lib.hid (Qx.out.keep hb)
        have Hx := Lib.hid (Hx.out.below hb)
        have Qy := Lib.hid (Qy.out.keep hb)
        have Hy := Lib.hid (Hy.out.below hb)
        have HB := Lib.hid (chain HB.out hb)
        clear hb
        cases r2 : rightB m vs with
        | false =>
          have hE : joinE n us m vs = 1 := by unfold joinE; rw [r1, r2]; rfl
          have HNx := Lib.hid (joinE_no (· ^^^ ·) (show joinE n us m vs ≠ 0 by omega))
          have HNy := Lib.hid (joinE_no (· &&& ·) (show joinE n us m vs ≠ 0 by omega))
          clear r1 r2 hall
          go_wp2_with fail
          refine (alive1_any _).mono ?_
          rintro e5 x5 ⟨rfl, hb⟩
          have Qa := Lib.hid (Qa.out.keep hb)
          have Ha := Lib.hid (Ha.out.below hb)
          have Qb := Lib.hid (Qb.out.keep hb)
          have Hb := Lib.hid (Hb.out.below hb)
          have Qx := Lib.hid (Qx.out.keep hb)
          have Hx := Lib.hid (Hx.out.below hb)
          have Qy := Lib.hid (Qy.out.keep hb)
          have Hy := Lib.hid (Hy.out.below hb)
          have HB := Lib.hid (chain HB.out hb)
          clear hb
          obtain ⟨y0, y1, -, -⟩ := Qx.out.two
          go_wp2_with fail
          refine (same_any _ 0 A1 none l1 c1 0 0 _ [] _ Hx.out (Words.nil _ _) (by have := Hx.out.1; rw [HNx.out.2] at this; simp at this; omega)).mono ?_
          rintro e6 x6 ⟨rfl, hb⟩
          clear y0 y1
          rw [HNx.out.1, HNx.out.2, show sameB 0 [] 0 [] = true from rfl]
          have HB := Lib.hid (chain HB.out hb)
          have Qy := Lib.hid (Qy.out.keep hb)
          have Hy := Lib.hid (Hy.out.below hb)
          clear hb
          obtain ⟨y0, y1, -, -⟩ := Qy.out.two
          go_wp2_with fail
          refine (same_any _ 0 A2 none l2 c2 0 0 _ [] _ Hy.out (Words.nil _ _) (by have := Hy.out.1; rw [HNy.out.2] at this; simp at this; omega)).mono ?_
          rintro e7 x7 ⟨rfl, hb⟩
          clear y0 y1
          rw [HNy.out.1, HNy.out.2, show sameB 0 [] 0 [] = true from rfl]
          have HB := Lib.hid (chain HB.out hb)
          clear hb
          go_wp2
          go_ret
          exact ⟨by simp, HB.out⟩
        | true =>
          obtain ⟨y0, y1, -, -⟩ := Qa.out.two
          obtain ⟨z0, z1, -, -⟩ := Qb.out.two
          by_cases hnm : n = m
          · exact absurd ⟨r1, r2, hnm⟩ hall
          · have t : (n != m) = true := by simpa using hnm
            have hE : joinE n us m vs = 2 := by unfold joinE; rw [r1, r2]; simp [hnm]
            have HNx := Lib.hid (joinE_no (· ^^^ ·) (show joinE n us m vs ≠ 0 by omega))
            have HNy := Lib.hid (joinE_no (· &&& ·) (show joinE n us m vs ≠ 0 by omega))
            clear r1 r2 hnm hall
            go_wp2_with fail
            refine (alive1_any _).mono ?_
            rintro e5 x5 ⟨rfl, hb⟩
            have Qa := Lib.hid (Qa.out.keep hb)
            have Ha := Lib.hid (Ha.out.below hb)
            have Qb := Lib.hid (Qb.out.keep hb)
            have Hb := Lib.hid (Hb.out.below hb)
            have Qx := Lib.hid (Qx.out.keep hb)
            have Hx := Lib.hid (Hx.out.below hb)
            have Qy := Lib.hid (Qy.out.keep hb)
            have Hy := Lib.hid (Hy.out.below hb)
            have HB := Lib.hid (chain HB.out hb)
            clear hb
            obtain ⟨y0, y1, -, -⟩ := Qx.out.two
            go_wp2_with fail
            refine (same_any _ 0 A1 none l1 c1 0 0 _ [] _ Hx.out (Words.nil _ _) (by have := Hx.out.1; rw [HNx.out.2] at this; simp at this; omega)).mono ?_
            rintro e6 x6 ⟨rfl, hb⟩
            clear y0 y1
            rw [HNx.out.1, HNx.out.2, show sameB 0 [] 0 [] = true from rfl]
            have HB := Lib.hid (chain HB.out hb)
            have Qy := Lib.hid (Qy.out.keep hb)
            have Hy := Lib.hid (Hy.out.below hb)
            clear hb
            obtain ⟨y0, y1, -, -⟩ := Qy.out.two
            go_wp2_with fail
            refine (same_any _ 0 A2 none l2 c2 0 0 _ [] _ Hy.out (Words.nil _ _) (by have := Hy.out.1; rw [HNy.out.2] at this; simp at this; omega)).mono ?_
            rintro e7 x7 ⟨rfl, hb⟩
            clear y0 y1
            rw [HNy.out.1, HNy.out.2, show sameB 0 [] 0 [] = true from rfl]
            have HB := Lib.hid (chain HB.out hb)
            clear hb
            go_wp2
            go_ret
            exact ⟨by simp, HB.out⟩
end Go.Proofs.Ytfeaollpeaphlaa
