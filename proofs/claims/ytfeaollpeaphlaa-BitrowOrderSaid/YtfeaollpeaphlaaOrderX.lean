/- BitrowOrder: the walk. -/
import Derived.Test.YtfeaollpeaphlaaOrder1
import Derived.Test.YtfeaollpeaphlaaSame
import Derived.Test.YtfeaollpeaphlaaFew
import Derived.Test.YtfeaollpeaphlaaOf
import Derived.OpenShut
import Derived.Deep.RegionWith
namespace Go.Proofs.Ytfeaollpeaphlaa
open Go.RowKit
set_option maxRecDepth 100000 in
set_option maxHeartbeats 8000000 in
theorem order_walk (n n2 n3 : Int) (A B C : Option Addr) (l1 c1 l2 c2 l3 c3 : Nat) (us vs zs : List Nat) (w : World)
    (s1 : SliceOk A l1 c1) (s2 : SliceOk B l2 c2) (s3 : SliceOk C l3 c3) (h1 : Words w A l1 us) (h2 : Words w B l2 vs) (h3 : Words w C l3 zs) :
    Calls Try.prog 5 #[.agg #[.int .i64 n, .slice A l1 c1], .agg #[.int .i64 n2, .slice B l2 c2], .agg #[.int .i64 n3, .slice C l3 c3]] w fun e w' => e = .returned (.bool true) ∧ Below w.heap.size w w' := by
  have q0 := ((Box.new w 25 #[.int .i64 n, .slice A l1 c1]).alloc (.cells #[.int .i64 n2, .slice B l2 c2] 25)).alloc (.cells #[.int .i64 n3, .slice C l3 c3] 25)
  have q1 := (Box.new (w.alloc (.cells #[.int .i64 n, .slice A l1 c1] 25)) 25 #[.int .i64 n2, .slice B l2 c2]).alloc (.cells #[.int .i64 n3, .slice C l3 c3] 25)
  have q2 := Box.new ((w.alloc (.cells #[.int .i64 n, .slice A l1 c1] 25)).alloc (.cells #[.int .i64 n2, .slice B l2 c2] 25)) 25 #[.int .i64 n3, .slice C l3 c3]
  have hW : Below w.heap.size w (((w.alloc (.cells #[.int .i64 n, .slice A l1 c1] 25)).alloc (.cells #[.int .i64 n2, .slice B l2 c2] 25)).alloc (.cells #[.int .i64 n3, .slice C l3 c3] 25)) := (((Below.refl _ _).alloc (Nat.le_refl _) _).alloc (by simp) _).alloc (by simp; omega) _
  simp only [World.size_alloc] at q1 q2
  go_enter Try.func5, Try.ntmps5
  go_wp2_with fail
  generalize hW0 : ((w.alloc (.cells #[.int .i64 n, .slice A l1 c1] 25)).alloc (.cells #[.int .i64 n2, .slice B l2 c2] 25)).alloc (.cells #[.int .i64 n3, .slice C l3 c3] 25) = W at *
  clear hW0
  have hz := q2.lt
  have Q0 := Lib.hid q0
  have Q1 := Lib.hid q1
  have Q2 := Lib.hid q2
  have HW := Lib.hid hW
  have H1 := Lib.hid (h1.below hW)
  have H2 := Lib.hid (h2.below hW)
  have H3 := Lib.hid (h3.below hW)
  obtain ⟨a0, a1, -, -⟩ := q0.two
  obtain ⟨b0, b1, -, -⟩ := q1.two
  obtain ⟨d0, d1, -, -⟩ := q2.two
  clear q0 q1 q2 hW h1 h2 h3
  go_cut [] (fun wx => ∃ A l c B m d C k e, Box wx w.heap.size 25 #[.int .i64 n, .slice A l c] ∧ Box wx (w.heap.size + 1) 25 #[.int .i64 n2, .slice B m d] ∧ Box wx (w.heap.size + 1 + 1) 25 #[.int .i64 n3, .slice C k e] ∧ Words wx A l (us.take 10) ∧ Words wx B m (vs.take 10) ∧ Words wx C k (zs.take 10) ∧ Below w.heap.size w wx)
  case first =>
    go_region_with (first
      | (go_at_call_of 8 (Value.agg #[.int .i64 n, .slice A l1 c1]); refine (few_any n A l1 c1 s1 us _ (by exact H1.out)).mono ?_; rintro e1 x1 ⟨A1, m1, d1, rfl, hw1, hb1⟩; have P0 := Lib.hid (Q0.out.drew.keep hb1); have P1 := Lib.hid (Q1.out.drew.keep hb1); have P2 := Lib.hid (Q2.out.drew.keep hb1); have J2 := Lib.hid (H2.out.drew.below hb1); have J3 := Lib.hid (H3.out.drew.below hb1); have T1 := Lib.hid (chain HW.out.drew hb1); have hw1 := Lib.hid hw1; clear hb1; obtain ⟨k0, k1, -, -⟩ := P1.out.two; obtain ⟨k2, k3, -, -⟩ := P2.out.two)
      | (go_at_call_of 8 (Value.agg #[.int .i64 n2, .slice B l2 c2]); refine (few_any n2 B l2 c2 s2 vs _ (by exact J2.out)).mono ?_; rintro e2 x2 ⟨A2, m2, d2, rfl, hw2, hb2⟩; have P0 := Lib.hid (P0.out.keep hb2); have P1 := Lib.hid (P1.out.keep hb2); have P2 := Lib.hid (P2.out.keep hb2); have J1 := Lib.hid (hw1.out.below hb2); have J3 := Lib.hid (J3.out.below hb2); have T1 := Lib.hid (chain T1.out hb2); have hw2 := Lib.hid hw2; clear hb2; obtain ⟨k4, k5, -, -⟩ := P2.out.two)
      | (go_at_call_of 8 (Value.agg #[.int .i64 n3, .slice C l3 c3]); refine (few_any n3 C l3 c3 s3 zs _ (by exact J3.out)).mono ?_; rintro e3 x3 ⟨A3, m3, d3, rfl, hw3, hb3⟩; have P0 := Lib.hid (P0.out.keep hb3); have P1 := Lib.hid (P1.out.keep hb3); have P2 := Lib.hid (P2.out.keep hb3); have J1 := Lib.hid (J1.out.below hb3); have J2 := Lib.hid (hw2.out.below hb3); have J3 := Lib.hid hw3; have T1 := Lib.hid (chain T1.out hb3); clear hb3 hw3; obtain ⟨k6, k7, f0, f1⟩ := P0.out.two; obtain ⟨k8, k9, f2, f3⟩ := P1.out.two; obtain ⟨m0, m1', f4, f5⟩ := P2.out.two))
    all_goals (go_wp2_with fail; go_meet; exact ⟨A1, m1, d1, A2, m2, d2, A3, m3, d3, three_rows P0.out P1.out P2.out (by omega) (by omega) (by omega) T1.out (by omega) (by omega) (by omega) J1.out J2.out J3.out⟩)
  case rest =>
    obtain ⟨A, l, c, B, m, d, C, k, e, Ka, Kb, Kc, Ja, Jb, Jc, KB⟩ := hcut
    clear H1 H2 H3 Q0 Q1 Q2 HW a0 a1 b0 b1 d0 d1 s1 s2 s3
    generalize us.take 10 = us at *
    generalize vs.take 10 = vs at *
    generalize zs.take 10 = zs at *
    have Qa := Lib.hid Ka
    have Qb := Lib.hid Kb
    have Qc := Lib.hid Kc
    have Ha := Lib.hid Ja
    have Hb := Lib.hid Jb
    have Hc := Lib.hid Jc
    have HB := Lib.hid KB
    clear Ka Kb Kc Ja Jb Jc KB
    by_cases hE : joinE n us n2 vs = 0 ∧ joinE n2 vs n3 zs = 0
    · obtain ⟨r1, r2, rfl⟩ := joinE_ok hE.1
      obtain ⟨-, r3, rfl⟩ := joinE_ok hE.2
      clear hE
      have Ra := Lib.hid r1
      have Rb := Lib.hid r2
      have Rc := Lib.hid r3
      clear r1 r2 r3
      have yz := Qa.out.lt
      obtain ⟨y0, y1, -, -⟩ := Qa.out.two
      have zz := Qb.out.lt
      obtain ⟨z0, z1, -, -⟩ := Qb.out.two
      go_wp2_with fail
      refine (xor_ok n A B l c m d _ _ _ (Ha.out) (Hb.out) Ra.out Rb.out).mono ?_
      rintro e1 x1 ⟨A1, l1, c1, rfl, hw, hb⟩
      clear yz y0 y1 zz z0 z1
      have Qa := Lib.hid ((Qa.out).keep hb)
      have Qb := Lib.hid ((Qb.out).keep hb)
      have Qc := Lib.hid ((Qc.out).keep hb)
      have Ha := Lib.hid ((Ha.out).below hb)
      have Hb := Lib.hid ((Hb.out).below hb)
      have Hc := Lib.hid ((Hc.out).below hb)
      have HB := Lib.hid (chain (HB.out) hb)
      have Hx := Lib.hid hw
      have Rx := Lib.hid (right_xor Ra.out Rb.out)
      clear hw hb
      have yz := Qb.out.lt
      obtain ⟨y0, y1, -, -⟩ := Qb.out.two
      have zz := Qc.out.lt
      obtain ⟨z0, z1, -, -⟩ := Qc.out.two
      go_wp2_with fail
      refine (xor_ok n B C m d k e _ _ _ (Hb.out.alloc _) (Hc.out.alloc _) Rb.out Rc.out).mono ?_
      rintro e2 x2 ⟨A2, l2, c2, rfl, hw, hb⟩
      clear yz y0 y1 zz z0 z1
      have Qa := Lib.hid ((Qa.out.alloc _).keep hb)
      have Qb := Lib.hid ((Qb.out.alloc _).keep hb)
      have Qc := Lib.hid ((Qc.out.alloc _).keep hb)
      have Qx := Lib.hid ((Box.new x1 25 #[.int .i64 n, .slice A1 l1 c1]).keep hb)
      have Ha := Lib.hid ((Ha.out.alloc _).below hb)
      have Hb := Lib.hid ((Hb.out.alloc _).below hb)
      have Hc := Lib.hid ((Hc.out.alloc _).below hb)
      have Hx := Lib.hid ((Hx.out.alloc _).below hb)
      have HB := Lib.hid (chain (HB.out.alloc HB.out.size _) hb)
      have Hy := Lib.hid hw
      have Ry := Lib.hid (right_xor Rb.out Rc.out)
      clear hw hb
      have yz := Qb.out.lt
      obtain ⟨y0, y1, -, -⟩ := Qb.out.two
      have zz := Qa.out.lt
      obtain ⟨z0, z1, -, -⟩ := Qa.out.two
      go_wp2_with fail
      refine (xor_ok n B A m d l c _ _ _ (Hb.out.alloc _) (Ha.out.alloc _) Rb.out Ra.out).mono ?_
      rintro e3 x3 ⟨A3, l3, c3, rfl, hw, hb⟩
      clear yz y0 y1 zz z0 z1
      have Qa := Lib.hid ((Qa.out.alloc _).keep hb)
      have Qb := Lib.hid ((Qb.out.alloc _).keep hb)
      have Qc := Lib.hid ((Qc.out.alloc _).keep hb)
      have Qx := Lib.hid ((Qx.out.alloc _).keep hb)
      have Qy := Lib.hid ((Box.new x2 25 #[.int .i64 n, .slice A2 l2 c2]).keep hb)
      have Ha := Lib.hid ((Ha.out.alloc _).below hb)
      have Hb := Lib.hid ((Hb.out.alloc _).below hb)
      have Hc := Lib.hid ((Hc.out.alloc _).below hb)
      have Hx := Lib.hid ((Hx.out.alloc _).below hb)
      have Hy := Lib.hid ((Hy.out.alloc _).below hb)
      have HB := Lib.hid (chain (HB.out.alloc HB.out.size _) hb)
      have Hback := Lib.hid hw
      have Rback := Lib.hid (right_xor Rb.out Ra.out)
      clear hw hb
      have yz := Qx.out.lt
      obtain ⟨y0, y1, -, -⟩ := Qx.out.two
      have zz := Qc.out.lt
      obtain ⟨z0, z1, -, -⟩ := Qc.out.two
      go_wp2_with fail
      refine (xor_ok n A1 C l1 c1 k e _ _ _ (Hx.out.alloc _) (Hc.out.alloc _) Rx.out Rc.out).mono ?_
      rintro e4 x4 ⟨A4, l4, c4, rfl, hw, hb⟩
      clear yz y0 y1 zz z0 z1
      have Qa := Lib.hid ((Qa.out.alloc _).keep hb)
      have Qb := Lib.hid ((Qb.out.alloc _).keep hb)
      have Qc := Lib.hid ((Qc.out.alloc _).keep hb)
      have Qx := Lib.hid ((Qx.out.alloc _).keep hb)
      have Qy := Lib.hid ((Qy.out.alloc _).keep hb)
      have Qback := Lib.hid ((Box.new x3 25 #[.int .i64 n, .slice A3 l3 c3]).keep hb)
      have Ha := Lib.hid ((Ha.out.alloc _).below hb)
      have Hb := Lib.hid ((Hb.out.alloc _).below hb)
      have Hc := Lib.hid ((Hc.out.alloc _).below hb)
      have Hx := Lib.hid ((Hx.out.alloc _).below hb)
      have Hy := Lib.hid ((Hy.out.alloc _).below hb)
      have Hback := Lib.hid ((Hback.out.alloc _).below hb)
      have HB := Lib.hid (chain (HB.out.alloc HB.out.size _) hb)
      have Hleft := Lib.hid hw
      have Rleft := Lib.hid (right_xor Rx.out Rc.out)
      clear hw hb
      have yz := Qa.out.lt
      obtain ⟨y0, y1, -, -⟩ := Qa.out.two
      have zz := Qy.out.lt
      obtain ⟨z0, z1, -, -⟩ := Qy.out.two
      go_wp2_with fail
      refine (xor_ok n A A2 l c l2 c2 _ _ _ (Ha.out.alloc _) (Hy.out.alloc _) Ra.out Ry.out).mono ?_
      rintro e5 x5 ⟨A5, l5, c5, rfl, hw, hb⟩
      clear yz y0 y1 zz z0 z1
      have Qa := Lib.hid ((Qa.out.alloc _).keep hb)
      have Qb := Lib.hid ((Qb.out.alloc _).keep hb)
      have Qc := Lib.hid ((Qc.out.alloc _).keep hb)
      have Qx := Lib.hid ((Qx.out.alloc _).keep hb)
      have Qy := Lib.hid ((Qy.out.alloc _).keep hb)
      have Qback := Lib.hid ((Qback.out.alloc _).keep hb)
      have Qleft := Lib.hid ((Box.new x4 25 #[.int .i64 n, .slice A4 l4 c4]).keep hb)
      have Ha := Lib.hid ((Ha.out.alloc _).below hb)
      have Hb := Lib.hid ((Hb.out.alloc _).below hb)
      have Hc := Lib.hid ((Hc.out.alloc _).below hb)
      have Hx := Lib.hid ((Hx.out.alloc _).below hb)
      have Hy := Lib.hid ((Hy.out.alloc _).below hb)
      have Hback := Lib.hid ((Hback.out.alloc _).below hb)
      have Hleft := Lib.hid ((Hleft.out.alloc _).below hb)
      have HB := Lib.hid (chain (HB.out.alloc HB.out.size _) hb)
      have Hright := Lib.hid hw
      have Rright := Lib.hid (right_xor Ra.out Ry.out)
      clear hw hb
      have yz := Qa.out.lt
      obtain ⟨y0, y1, -, -⟩ := Qa.out.two
      have zz := Qy.out.lt
      obtain ⟨z0, z1, -, -⟩ := Qy.out.two
      go_wp2_with fail
      refine (and_ok n A A2 l c l2 c2 _ _ _ (Ha.out.alloc _) (Hy.out.alloc _) Ra.out Ry.out).mono ?_
      rintro e6 x6 ⟨A6, l6, c6, rfl, hw, hb⟩
      clear yz y0 y1 zz z0 z1
      have Qa := Lib.hid ((Qa.out.alloc _).keep hb)
      have Qb := Lib.hid ((Qb.out.alloc _).keep hb)
      have Qc := Lib.hid ((Qc.out.alloc _).keep hb)
      have Qx := Lib.hid ((Qx.out.alloc _).keep hb)
      have Qy := Lib.hid ((Qy.out.alloc _).keep hb)
      have Qback := Lib.hid ((Qback.out.alloc _).keep hb)
      have Qleft := Lib.hid ((Qleft.out.alloc _).keep hb)
      have Qright := Lib.hid ((Box.new x5 25 #[.int .i64 n, .slice A5 l5 c5]).keep hb)
      have Ha := Lib.hid ((Ha.out.alloc _).below hb)
      have Hb := Lib.hid ((Hb.out.alloc _).below hb)
      have Hc := Lib.hid ((Hc.out.alloc _).below hb)
      have Hx := Lib.hid ((Hx.out.alloc _).below hb)
      have Hy := Lib.hid ((Hy.out.alloc _).below hb)
      have Hback := Lib.hid ((Hback.out.alloc _).below hb)
      have Hleft := Lib.hid ((Hleft.out.alloc _).below hb)
      have Hright := Lib.hid ((Hright.out.alloc _).below hb)
      have HB := Lib.hid (chain (HB.out.alloc HB.out.size _) hb)
      have Hp := Lib.hid hw
      have Rp := Lib.hid (right_and Ra.out Ry.out)
      clear hw hb
      have yz := Qa.out.lt
      obtain ⟨y0, y1, -, -⟩ := Qa.out.two
      have zz := Qb.out.lt
      obtain ⟨z0, z1, -, -⟩ := Qb.out.two
      go_wp2_with fail
      refine (and_ok n A B l c m d _ _ _ (Ha.out.alloc _) (Hb.out.alloc _) Ra.out Rb.out).mono ?_
      rintro e7 x7 ⟨A7, l7, c7, rfl, hw, hb⟩
      clear yz y0 y1 zz z0 z1
      have Qa := Lib.hid ((Qa.out.alloc _).keep hb)
      have Qb := Lib.hid ((Qb.out.alloc _).keep hb)
      have Qc := Lib.hid ((Qc.out.alloc _).keep hb)
      have Qx := Lib.hid ((Qx.out.alloc _).keep hb)
      have Qy := Lib.hid ((Qy.out.alloc _).keep hb)
      have Qback := Lib.hid ((Qback.out.alloc _).keep hb)
      have Qleft := Lib.hid ((Qleft.out.alloc _).keep hb)
      have Qright := Lib.hid ((Qright.out.alloc _).keep hb)
      have Qp := Lib.hid ((Box.new x6 25 #[.int .i64 n, .slice A6 l6 c6]).keep hb)
      have Ha := Lib.hid ((Ha.out.alloc _).below hb)
      have Hb := Lib.hid ((Hb.out.alloc _).below hb)
      have Hc := Lib.hid ((Hc.out.alloc _).below hb)
      have Hx := Lib.hid ((Hx.out.alloc _).below hb)
      have Hy := Lib.hid ((Hy.out.alloc _).below hb)
      have Hback := Lib.hid ((Hback.out.alloc _).below hb)
      have Hleft := Lib.hid ((Hleft.out.alloc _).below hb)
      have Hright := Lib.hid ((Hright.out.alloc _).below hb)
      have Hp := Lib.hid ((Hp.out.alloc _).below hb)
      have HB := Lib.hid (chain (HB.out.alloc HB.out.size _) hb)
      have Hq := Lib.hid hw
      have Rq := Lib.hid (right_and Ra.out Rb.out)
      clear hw hb
      have yz := Qa.out.lt
      obtain ⟨y0, y1, -, -⟩ := Qa.out.two
      have zz := Qc.out.lt
      obtain ⟨z0, z1, -, -⟩ := Qc.out.two
      go_wp2_with fail
      refine (and_ok n A C l c k e _ _ _ (Ha.out.alloc _) (Hc.out.alloc _) Ra.out Rc.out).mono ?_
      rintro e8 x8 ⟨A8, l8, c8, rfl, hw, hb⟩
      clear yz y0 y1 zz z0 z1
      have Qa := Lib.hid ((Qa.out.alloc _).keep hb)
      have Qb := Lib.hid ((Qb.out.alloc _).keep hb)
      have Qc := Lib.hid ((Qc.out.alloc _).keep hb)
      have Qx := Lib.hid ((Qx.out.alloc _).keep hb)
      have Qy := Lib.hid ((Qy.out.alloc _).keep hb)
      have Qback := Lib.hid ((Qback.out.alloc _).keep hb)
      have Qleft := Lib.hid ((Qleft.out.alloc _).keep hb)
      have Qright := Lib.hid ((Qright.out.alloc _).keep hb)
      have Qp := Lib.hid ((Qp.out.alloc _).keep hb)
      have Qq := Lib.hid ((Box.new x7 25 #[.int .i64 n, .slice A7 l7 c7]).keep hb)
      have Ha := Lib.hid ((Ha.out.alloc _).below hb)
      have Hb := Lib.hid ((Hb.out.alloc _).below hb)
      have Hc := Lib.hid ((Hc.out.alloc _).below hb)
      have Hx := Lib.hid ((Hx.out.alloc _).below hb)
      have Hy := Lib.hid ((Hy.out.alloc _).below hb)
      have Hback := Lib.hid ((Hback.out.alloc _).below hb)
      have Hleft := Lib.hid ((Hleft.out.alloc _).below hb)
      have Hright := Lib.hid ((Hright.out.alloc _).below hb)
      have Hp := Lib.hid ((Hp.out.alloc _).below hb)
      have Hq := Lib.hid ((Hq.out.alloc _).below hb)
      have HB := Lib.hid (chain (HB.out.alloc HB.out.size _) hb)
      have Hr := Lib.hid hw
      have Rr := Lib.hid (right_and Ra.out Rc.out)
      clear hw hb
      have yz := Qq.out.lt
      obtain ⟨y0, y1, -, -⟩ := Qq.out.two
      go_wp2_with fail
      refine (xor_ok n A7 A8 l7 c7 l8 c8 _ _ _ (Hq.out.alloc _) (Hr.out.alloc _) Rq.out Rr.out).mono ?_
      rintro e9 x9 ⟨A9, l9, c9, rfl, hw, hb⟩
      clear yz y0 y1
      have Qa := Lib.hid ((Qa.out.alloc _).keep hb)
      have Qb := Lib.hid ((Qb.out.alloc _).keep hb)
      have Qc := Lib.hid ((Qc.out.alloc _).keep hb)
      have Qx := Lib.hid ((Qx.out.alloc _).keep hb)
      have Qy := Lib.hid ((Qy.out.alloc _).keep hb)
      have Qback := Lib.hid ((Qback.out.alloc _).keep hb)
      have Qleft := Lib.hid ((Qleft.out.alloc _).keep hb)
      have Qright := Lib.hid ((Qright.out.alloc _).keep hb)
      have Qp := Lib.hid ((Qp.out.alloc _).keep hb)
      have Qq := Lib.hid ((Qq.out.alloc _).keep hb)
      have Qr := Lib.hid ((Box.new x8 25 #[.int .i64 n, .slice A8 l8 c8]).keep hb)
      have Ha := Lib.hid ((Ha.out.alloc _).below hb)
      have Hb := Lib.hid ((Hb.out.alloc _).below hb)
      have Hc := Lib.hid ((Hc.out.alloc _).below hb)
      have Hx := Lib.hid ((Hx.out.alloc _).below hb)
      have Hy := Lib.hid ((Hy.out.alloc _).below hb)
      have Hback := Lib.hid ((Hback.out.alloc _).below hb)
      have Hleft := Lib.hid ((Hleft.out.alloc _).below hb)
      have Hright := Lib.hid ((Hright.out.alloc _).below hb)
      have Hp := Lib.hid ((Hp.out.alloc _).below hb)
      have Hq := Lib.hid ((Hq.out.alloc _).below hb)
      have Hr := Lib.hid ((Hr.out.alloc _).below hb)
      have HB := Lib.hid (chain (HB.out.alloc HB.out.size _) hb)
      have Hs := Lib.hid hw
      have Rs := Lib.hid (right_xor Rq.out Rr.out)
      clear hw hb
      have yz := Qb.out.lt
      obtain ⟨y0, y1, -, -⟩ := Qb.out.two
      have zz := Qa.out.lt
      obtain ⟨z0, z1, -, -⟩ := Qa.out.two
      go_wp2_with fail
      refine (and_ok n B A m d l c _ _ _ (Hb.out.alloc _) (Ha.out.alloc _) Rb.out Ra.out).mono ?_
      rintro e10 x10 ⟨A10, l10, c10, rfl, hw, hb⟩
      clear yz y0 y1 zz z0 z1
      have Qa := Lib.hid ((Qa.out.alloc _).keep hb)
      have Qb := Lib.hid ((Qb.out.alloc _).keep hb)
      have Qc := Lib.hid ((Qc.out.alloc _).keep hb)
      have Qx := Lib.hid ((Qx.out.alloc _).keep hb)
      have Qy := Lib.hid ((Qy.out.alloc _).keep hb)
      have Qback := Lib.hid ((Qback.out.alloc _).keep hb)
      have Qleft := Lib.hid ((Qleft.out.alloc _).keep hb)
      have Qright := Lib.hid ((Qright.out.alloc _).keep hb)
      have Qp := Lib.hid ((Qp.out.alloc _).keep hb)
      have Qq := Lib.hid ((Qq.out.alloc _).keep hb)
      have Qr := Lib.hid ((Qr.out.alloc _).keep hb)
      have Qs := Lib.hid ((Box.new x9 25 #[.int .i64 n, .slice A9 l9 c9]).keep hb)
      have Ha := Lib.hid ((Ha.out.alloc _).below hb)
      have Hb := Lib.hid ((Hb.out.alloc _).below hb)
      have Hc := Lib.hid ((Hc.out.alloc _).below hb)
      have Hx := Lib.hid ((Hx.out.alloc _).below hb)
      have Hy := Lib.hid ((Hy.out.alloc _).below hb)
      have Hback := Lib.hid ((Hback.out.alloc _).below hb)
      have Hleft := Lib.hid ((Hleft.out.alloc _).below hb)
      have Hright := Lib.hid ((Hright.out.alloc _).below hb)
      have Hp := Lib.hid ((Hp.out.alloc _).below hb)
      have Hq := Lib.hid ((Hq.out.alloc _).below hb)
      have Hr := Lib.hid ((Hr.out.alloc _).below hb)
      have Hs := Lib.hid ((Hs.out.alloc _).below hb)
      have HB := Lib.hid (chain (HB.out.alloc HB.out.size _) hb)
      have Ht := Lib.hid hw
      have Rt := Lib.hid (right_and Rb.out Ra.out)
      clear hw hb
      go_wp2_with fail
      refine (alive1_any _).mono ?_
      rintro e11 x11 ⟨rfl, hb⟩
      have Qa := Lib.hid ((Qa.out.alloc _).keep hb)
      have Qb := Lib.hid ((Qb.out.alloc _).keep hb)
      have Qc := Lib.hid ((Qc.out.alloc _).keep hb)
      have Qx := Lib.hid ((Qx.out.alloc _).keep hb)
      have Qy := Lib.hid ((Qy.out.alloc _).keep hb)
      have Qback := Lib.hid ((Qback.out.alloc _).keep hb)
      have Qleft := Lib.hid ((Qleft.out.alloc _).keep hb)
      have Qright := Lib.hid ((Qright.out.alloc _).keep hb)
      have Qp := Lib.hid ((Qp.out.alloc _).keep hb)
      have Qq := Lib.hid ((Qq.out.alloc _).keep hb)
      have Qr := Lib.hid ((Qr.out.alloc _).keep hb)
      have Qs := Lib.hid ((Qs.out.alloc _).keep hb)
      have Qt := Lib.hid ((Box.new x10 25 #[.int .i64 n, .slice A10 l10 c10]).keep hb)
      have Ha := Lib.hid ((Ha.out.alloc _).below hb)
      have Hb := Lib.hid ((Hb.out.alloc _).below hb)
      have Hc := Lib.hid ((Hc.out.alloc _).below hb)
      have Hx := Lib.hid ((Hx.out.alloc _).below hb)
      have Hy := Lib.hid ((Hy.out.alloc _).below hb)
      have Hback := Lib.hid ((Hback.out.alloc _).below hb)
      have Hleft := Lib.hid ((Hleft.out.alloc _).below hb)
      have Hright := Lib.hid ((Hright.out.alloc _).below hb)
      have Hp := Lib.hid ((Hp.out.alloc _).below hb)
      have Hq := Lib.hid ((Hq.out.alloc _).below hb)
      have Hr := Lib.hid ((Hr.out.alloc _).below hb)
      have Hs := Lib.hid ((Hs.out.alloc _).below hb)
      have Ht := Lib.hid ((Ht.out.alloc _).below hb)
      have HB := Lib.hid (chain (HB.out.alloc HB.out.size _) hb)
      clear hb
      obtain ⟨y0, y1, -, -⟩ := Qback.out.two
      obtain ⟨z0, z1, -, -⟩ := Qx.out.two
      go_wp2_with fail
      refine (same_any n n A3 A1 l3 c3 l1 c1 _ _ _ Hback.out Hx.out (by have := rightB_len8 Rback.out Hback.out.1; omega)).mono ?_
      rintro e12 x12 ⟨rfl, hb⟩
      clear y0 y1 z0 z1
      have eq12 : sameB n (xorL vs us) n (xorL us vs) = true := by rw [xorL_comm]; simp [sameB]
      rw [eq12]
      clear eq12
      have Qa := Lib.hid (Qa.out.keep hb)
      have Ha := Lib.hid (Ha.out.below hb)
      have Qb := Lib.hid (Qb.out.keep hb)
      have Hb := Lib.hid (Hb.out.below hb)
      have Qc := Lib.hid (Qc.out.keep hb)
      have Hc := Lib.hid (Hc.out.below hb)
      have Qx := Lib.hid (Qx.out.keep hb)
      have Hx := Lib.hid (Hx.out.below hb)
      have Qy := Lib.hid (Qy.out.keep hb)
      have Hy := Lib.hid (Hy.out.below hb)
      have Qback := Lib.hid (Qback.out.keep hb)
      have Hback := Lib.hid (Hback.out.below hb)
      have Qleft := Lib.hid (Qleft.out.keep hb)
      have Hleft := Lib.hid (Hleft.out.below hb)
      have Qright := Lib.hid (Qright.out.keep hb)
      have Hright := Lib.hid (Hright.out.below hb)
      have Qp := Lib.hid (Qp.out.keep hb)
      have Hp := Lib.hid (Hp.out.below hb)
      have Qq := Lib.hid (Qq.out.keep hb)
      have Hq := Lib.hid (Hq.out.below hb)
      have Qr := Lib.hid (Qr.out.keep hb)
      have Hr := Lib.hid (Hr.out.below hb)
      have Qs := Lib.hid (Qs.out.keep hb)
      have Hs := Lib.hid (Hs.out.below hb)
      have Qt := Lib.hid (Qt.out.keep hb)
      have Ht := Lib.hid (Ht.out.below hb)
      have HB := Lib.hid (chain HB.out hb)
      clear hb
      obtain ⟨y0, y1, -, -⟩ := Qleft.out.two
      obtain ⟨z0, z1, -, -⟩ := Qright.out.two
      go_wp2_with fail
      refine (same_any n n A4 A5 l4 c4 l5 c5 _ _ _ Hleft.out Hright.out (by have := rightB_len8 Rleft.out Hleft.out.1; omega)).mono ?_
      rintro e13 x13 ⟨rfl, hb⟩
      clear y0 y1 z0 z1
      have eq13 : sameB n (xorL (xorL us vs) zs) n (xorL us (xorL vs zs)) = true := by rw [xorL_assoc]; simp [sameB]
      rw [eq13]
      clear eq13
      have Qa := Lib.hid (Qa.out.keep hb)
      have Ha := Lib.hid (Ha.out.below hb)
      have Qb := Lib.hid (Qb.out.keep hb)
      have Hb := Lib.hid (Hb.out.below hb)
      have Qc := Lib.hid (Qc.out.keep hb)
      have Hc := Lib.hid (Hc.out.below hb)
      have Qx := Lib.hid (Qx.out.keep hb)
      have Hx := Lib.hid (Hx.out.below hb)
      have Qy := Lib.hid (Qy.out.keep hb)
      have Hy := Lib.hid (Hy.out.below hb)
      have Qback := Lib.hid (Qback.out.keep hb)
      have Hback := Lib.hid (Hback.out.below hb)
      have Qleft := Lib.hid (Qleft.out.keep hb)
      have Hleft := Lib.hid (Hleft.out.below hb)
      have Qright := Lib.hid (Qright.out.keep hb)
      have Hright := Lib.hid (Hright.out.below hb)
      have Qp := Lib.hid (Qp.out.keep hb)
      have Hp := Lib.hid (Hp.out.below hb)
      have Qq := Lib.hid (Qq.out.keep hb)
      have Hq := Lib.hid (Hq.out.below hb)
      have Qr := Lib.hid (Qr.out.keep hb)
      have Hr := Lib.hid (Hr.out.below hb)
      have Qs := Lib.hid (Qs.out.keep hb)
      have Hs := Lib.hid (Hs.out.below hb)
      have Qt := Lib.hid (Qt.out.keep hb)
      have Ht := Lib.hid (Ht.out.below hb)
      have HB := Lib.hid (chain HB.out hb)
      clear hb
      obtain ⟨y0, y1, -, -⟩ := Qp.out.two
      obtain ⟨z0, z1, -, -⟩ := Qs.out.two
      go_wp2_with fail
      refine (same_any n n A6 A9 l6 c6 l9 c9 _ _ _ Hp.out Hs.out (by have := rightB_len8 Rp.out Hp.out.1; omega)).mono ?_
      rintro e14 x14 ⟨rfl, hb⟩
      clear y0 y1 z0 z1
      have eq14 : sameB n (andL us (xorL vs zs)) n (xorL (andL us vs) (andL us zs)) = true := by rw [andL_xor]; simp [sameB]
      rw [eq14]
      clear eq14
      have Qa := Lib.hid (Qa.out.keep hb)
      have Ha := Lib.hid (Ha.out.below hb)
      have Qb := Lib.hid (Qb.out.keep hb)
      have Hb := Lib.hid (Hb.out.below hb)
      have Qc := Lib.hid (Qc.out.keep hb)
      have Hc := Lib.hid (Hc.out.below hb)
      have Qx := Lib.hid (Qx.out.keep hb)
      have Hx := Lib.hid (Hx.out.below hb)
      have Qy := Lib.hid (Qy.out.keep hb)
      have Hy := Lib.hid (Hy.out.below hb)
      have Qback := Lib.hid (Qback.out.keep hb)
      have Hback := Lib.hid (Hback.out.below hb)
      have Qleft := Lib.hid (Qleft.out.keep hb)
      have Hleft := Lib.hid (Hleft.out.below hb)
      have Qright := Lib.hid (Qright.out.keep hb)
      have Hright := Lib.hid (Hright.out.below hb)
      have Qp := Lib.hid (Qp.out.keep hb)
      have Hp := Lib.hid (Hp.out.below hb)
      have Qq := Lib.hid (Qq.out.keep hb)
      have Hq := Lib.hid (Hq.out.below hb)
      have Qr := Lib.hid (Qr.out.keep hb)
      have Hr := Lib.hid (Hr.out.below hb)
      have Qs := Lib.hid (Qs.out.keep hb)
      have Hs := Lib.hid (Hs.out.below hb)
      have Qt := Lib.hid (Qt.out.keep hb)
      have Ht := Lib.hid (Ht.out.below hb)
      have HB := Lib.hid (chain HB.out hb)
      clear hb
      obtain ⟨y0, y1, -, -⟩ := Qt.out.two
      obtain ⟨z0, z1, -, -⟩ := Qq.out.two
      go_wp2_with fail
      refine (same_any n n A10 A7 l10 c10 l7 c7 _ _ _ Ht.out Hq.out (by have := rightB_len8 Rt.out Ht.out.1; omega)).mono ?_
      rintro e15 x15 ⟨rfl, hb⟩
      clear y0 y1 z0 z1
      have eq15 : sameB n (andL vs us) n (andL us vs) = true := by rw [andL_comm]; simp [sameB]
      rw [eq15]
      clear eq15
      have Qa := Lib.hid (Qa.out.keep hb)
      have Ha := Lib.hid (Ha.out.below hb)
      have Qb := Lib.hid (Qb.out.keep hb)
      have Hb := Lib.hid (Hb.out.below hb)
      have Qc := Lib.hid (Qc.out.keep hb)
      have Hc := Lib.hid (Hc.out.below hb)
      have Qx := Lib.hid (Qx.out.keep hb)
      have Hx := Lib.hid (Hx.out.below hb)
      have Qy := Lib.hid (Qy.out.keep hb)
      have Hy := Lib.hid (Hy.out.below hb)
      have Qback := Lib.hid (Qback.out.keep hb)
      have Hback := Lib.hid (Hback.out.below hb)
      have Qleft := Lib.hid (Qleft.out.keep hb)
      have Hleft := Lib.hid (Hleft.out.below hb)
      have Qright := Lib.hid (Qright.out.keep hb)
      have Hright := Lib.hid (Hright.out.below hb)
      have Qp := Lib.hid (Qp.out.keep hb)
      have Hp := Lib.hid (Hp.out.below hb)
      have Qq := Lib.hid (Qq.out.keep hb)
      have Hq := Lib.hid (Hq.out.below hb)
      have Qr := Lib.hid (Qr.out.keep hb)
      have Hr := Lib.hid (Hr.out.below hb)
      have Qs := Lib.hid (Qs.out.keep hb)
      have Hs := Lib.hid (Hs.out.below hb)
      have Qt := Lib.hid (Qt.out.keep hb)
      have Ht := Lib.hid (Ht.out.below hb)
      have HB := Lib.hid (chain HB.out hb)
      clear hb
      go_wp2
      go_ret
      exact ⟨rfl, HB.out⟩
    · by_cases hE1 : joinE n us n2 vs = 0
      · have hE2 : joinE n2 vs n3 zs ≠ 0 := fun h => hE ⟨hE1, h⟩
        have yz := Qa.out.lt
        obtain ⟨y0, y1, -, -⟩ := Qa.out.two
        have zz := Qb.out.lt
        obtain ⟨z0, z1, -, -⟩ := Qb.out.two
        go_wp2_with fail
        refine (xor_any n n2 A B l c m d us vs _ Ha.out Hb.out).mono ?_
        rintro e1 x1 ⟨A1, l1, c1, rfl, hw, hb⟩
        clear yz y0 y1 zz z0 z1
        have Qb := Lib.hid (Qb.out.keep hb)
        have Hb := Lib.hid (Hb.out.below hb)
        have Qc := Lib.hid (Qc.out.keep hb)
        have Hc := Lib.hid (Hc.out.below hb)
        have HB := Lib.hid (chain HB.out hb)
        have Hx := Lib.hid hw
        clear hw hb
        have yz := Qb.out.lt
        obtain ⟨y0, y1, -, -⟩ := Qb.out.two
        have zz := Qc.out.lt
        obtain ⟨z0, z1, -, -⟩ := Qc.out.two
        go_wp2_with fail
        refine (xor_any n2 n3 B C m d k e vs zs _ (Hb.out.alloc _) (Hc.out.alloc _)).mono ?_
        rintro e2 x2 ⟨A2, l2, c2, rfl, hw, hb⟩
        clear yz y0 y1 zz z0 z1
        have Qx := Lib.hid ((Box.new x1 25 #[.int .i64 (joinN n us n2 vs), .slice A1 l1 c1]).keep hb)
        have Hx := Lib.hid ((Hx.out.alloc _).below hb)
        have HB := Lib.hid (chain (HB.out.alloc HB.out.size _) hb)
        clear hw hb
        have t1 : (joinE n us n2 vs != 0) = false := by simpa using hE1
        have t1' : (joinE n us n2 vs == 0) = true := by simpa using hE1
        have t2 : (joinE n2 vs n3 zs != 0) = true := by simpa using hE2
        clear hE hE1 hE2
        go_wp2_with fail
        refine (alive1_any _).mono ?_
        rintro e3 x3 ⟨rfl, hb⟩
        have Qx := Lib.hid ((Qx.out.alloc _).keep hb)
        have Hx := Lib.hid ((Hx.out.alloc _).below hb)
        have HB := Lib.hid (chain (HB.out.alloc HB.out.size _) hb)
        clear hb
        go_wp2
        go_ret
        exact ⟨rfl, HB.out⟩
      · have yz := Qa.out.lt
        obtain ⟨y0, y1, -, -⟩ := Qa.out.two
        have zz := Qb.out.lt
        obtain ⟨z0, z1, -, -⟩ := Qb.out.two
        go_wp2_with fail
        refine (xor_any n n2 A B l c m d us vs _ Ha.out Hb.out).mono ?_
        rintro e1 x1 ⟨A1, l1, c1, rfl, hw, hb⟩
        clear yz y0 y1 zz z0 z1
        have Qb := Lib.hid (Qb.out.keep hb)
        have Hb := Lib.hid (Hb.out.below hb)
        have Qc := Lib.hid (Qc.out.keep hb)
        have Hc := Lib.hid (Hc.out.below hb)
        have HB := Lib.hid (chain HB.out hb)
        have Hx := Lib.hid hw
        clear hw hb
        have yz := Qb.out.lt
        obtain ⟨y0, y1, -, -⟩ := Qb.out.two
        have zz := Qc.out.lt
        obtain ⟨z0, z1, -, -⟩ := Qc.out.two
        go_wp2_with fail
        refine (xor_any n2 n3 B C m d k e vs zs _ (Hb.out.alloc _) (Hc.out.alloc _)).mono ?_
        rintro e2 x2 ⟨A2, l2, c2, rfl, hw, hb⟩
        clear yz y0 y1 zz z0 z1
        have Qx := Lib.hid ((Box.new x1 25 #[.int .i64 (joinN n us n2 vs), .slice A1 l1 c1]).keep hb)
        have Hx := Lib.hid ((Hx.out.alloc _).below hb)
        have HB := Lib.hid (chain (HB.out.alloc HB.out.size _) hb)
        clear hw hb
        have t1 : (joinE n us n2 vs != 0) = true := by simpa using hE1
        have t1' : (joinE n us n2 vs == 0) = false := by simpa using hE1
        have HN := Lib.hid (joinE_no (· ^^^ ·) hE1)
        clear hE hE1
        go_wp2_with fail
        refine (alive1_any _).mono ?_
        rintro e3 x3 ⟨rfl, hb⟩
        have Qx := Lib.hid ((Qx.out.alloc _).keep hb)
        have Hx := Lib.hid ((Hx.out.alloc _).below hb)
        have HB := Lib.hid (chain (HB.out.alloc HB.out.size _) hb)
        clear hb
        obtain ⟨y0, y1, -, -⟩ := Qx.out.two
        go_wp2_with fail
        refine (same_any _ 0 A1 none l1 c1 0 0 _ [] _ Hx.out (Words.nil _ _) (by have := Hx.out.1; rw [HN.out.2] at this; simp at this; omega)).mono ?_
        rintro e4 x4 ⟨rfl, hb⟩
        have HB := Lib.hid (chain HB.out hb)
        clear hb y0 y1
        rw [HN.out.1, HN.out.2, show sameB 0 [] 0 [] = true from rfl]
        go_wp2
        go_ret
        exact ⟨rfl, HB.out⟩
end Go.Proofs.Ytfeaollpeaphlaa
