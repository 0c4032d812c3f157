/- BitrowBack: the walk. -/
import Derived.Test.YtfeaollpeaphlaaDoorBackM
import Derived.Test.YtfeaollpeaphlaaDoorTellsX
import Derived.Test.YtfeaollpeaphlaaDoorSame
import Derived.Test.YtfeaollpeaphlaaDoorWords2
namespace Go.Proofs.YtfeaollpeaphlaaDoor
set_option linter.unusedVariables false
set_option linter.unusedSimpArgs false
open Go.RowKit
theorem of_plc (N : Nat) (A : Option Addr) (l c : Nat) (us : List Nat) (w : World) (hr : rightB (N : Int) us = true) (hlt : ∀ j, us.getD j 0 < 18446744073709551616) (hp : Ints w A l (plcZ (plcN us N))) (hl : l ≤ 1000) :
    Calls Tryd.prog 17 #[.int .i64 N, .slice A l c] w (RowOut N us 0 w) := by
  have h := of_any N A l c _ w hp (by omega)
  have h1 : ofN (N : Int) (plcZ (plcN us N)) = N := by unfold ofN; rw [right_lmb hr, there_plc]; rfl
  have h2 : ofW (N : Int) (plcZ (plcN us N)) = us := by unfold ofW; rw [right_lmb hr, there_plc, Int.toNat_natCast, ofBits_plc us N hr hlt]; rfl
  have h3 : ofE (N : Int) (plcZ (plcN us N)) = 0 := by unfold ofE; rw [right_lmb hr, there_plc]; rfl
  rw [h1, h2, h3] at h
  exact h
set_option maxRecDepth 100000 in
set_option maxHeartbeats 8000000 in
theorem back_walk (n m : Int) (A : Option Addr) (l1 c1 : Nat) (B0 : Option Addr) (l2 c2 : Nat) (us vs : List Nat) (w : World)
    (s1 : SliceOk A l1 c1) (s2 : SliceOk B0 l2 c2) (h1 : Words w A l1 us) (h2 : Words w B0 l2 vs) (hT : TabAt w 0) :
    Calls Tryd.prog 4 #[.agg #[.int .i64 n, .slice A l1 c1], .agg #[.int .i64 m, .slice B0 l2 c2]] w fun e w' => e = .returned (.bool true) ∧ Below w.heap.size w w' := by
  have q0 := (Box.new w 24 #[.int .i64 n, .slice A l1 c1]).alloc (.cells #[.int .i64 m, .slice B0 l2 c2] 24)
  have q1 := Box.new (w.alloc (.cells #[.int .i64 n, .slice A l1 c1] 24)) 24 #[.int .i64 m, .slice B0 l2 c2]
  have hW : Below w.heap.size w ((w.alloc (.cells #[.int .i64 n, .slice A l1 c1] 24)).alloc (.cells #[.int .i64 m, .slice B0 l2 c2] 24)) := ((Below.refl _ _).alloc (Nat.le_refl _) _).alloc (by simp) _
  simp only [World.size_alloc] at q1
  go_enter Tryd.func4, Tryd.ntmps4
  go_wp2_with fail
  generalize hW0 : (w.alloc (.cells #[.int .i64 n, .slice A l1 c1] 24)).alloc (.cells #[.int .i64 m, .slice B0 l2 c2] 24) = W at *
  clear hW0
  have hz := q1.lt
  have Q0 := Lib.hid q0
  have Q1 := Lib.hid q1
  have HW := Lib.hid hW
  have H1 := Lib.hid (h1.below hW)
  have H2 := Lib.hid (h2.below hW)
  have HT0 := Lib.hid hT
  obtain ⟨a0, a1, -, -⟩ := q0.two
  obtain ⟨b0, b1, -, -⟩ := q1.two
  clear q0 q1 hW h1 h2 hT
  go_cut [] (fun wx => ∃ A l c B k d, Box wx w.heap.size 24 #[.int .i64 n, .slice A l c] ∧ Box wx (w.heap.size + 1) 24 #[.int .i64 m, .slice B k d] ∧ Words wx A l (us.take 10) ∧ Words wx B k (vs.take 10) ∧ Below w.heap.size w wx)
  case first =>
    go_region_with (first
      | (go_at_call_of 7 (Value.agg #[.int .i64 n, .slice A l1 c1]); refine (few_any n A l1 c1 s1 us _ (by exact H1.out)).mono ?_; rintro e1 x1 ⟨A1, m1, d1, rfl, hw1, hb1⟩; have P0 := Lib.hid (Q0.out.drew.keep hb1); have P1 := Lib.hid (Q1.out.drew.keep hb1); have J2 := Lib.hid (H2.out.drew.below hb1); have T1 := Lib.hid (chain HW.out.drew hb1); have hw1 := Lib.hid hw1; clear hb1; obtain ⟨k0, k1, -, -⟩ := P1.out.two)
      | (go_at_call_of 7 (Value.agg #[.int .i64 m, .slice B0 l2 c2]); refine (few_any m B0 l2 c2 s2 vs _ (by exact J2.out)).mono ?_; rintro e2 x2 ⟨A2, m2, d2, rfl, hw2, hb2⟩; have P0 := Lib.hid (P0.out.keep hb2); have P1 := Lib.hid (P1.out.keep hb2); have J1 := Lib.hid (hw1.out.below hb2); have J2 := Lib.hid hw2; have T1 := Lib.hid (chain T1.out hb2); clear hb2 hw2; obtain ⟨k6, k7, f0, f1⟩ := P0.out.two; obtain ⟨k8, k9, f2, f3⟩ := P1.out.two))
    all_goals (go_wp2_with fail; go_meet; exact ⟨A1, m1, d1, A2, m2, d2, two_rows P0.out P1.out (by omega) T1.out (by omega) (by omega) J1.out J2.out⟩)
  case rest =>
    obtain ⟨A, l, c, Bv, k, d, Ka, Kb, Ja, Jb, KB⟩ := hcut
    have HT := Lib.hid (HT0.out.below KB)
    clear H1 H2 Q0 Q1 HW a0 a1 b0 b1 s1 s2 HT0
    generalize us.take 10 = us at *
    generalize vs.take 10 = vs at *
    have Qa := Lib.hid Ka
    have Qb := Lib.hid Kb
    have Ha := Lib.hid Ja
    have Hb := Lib.hid Jb
    have B := Lib.hid KB
    clear Ka Kb Ja Jb KB
    obtain ⟨y0, y1, -, -⟩ := Qa.out.two
    obtain ⟨z0, z1, -, -⟩ := Qb.out.two
    cases hr : rightB n us with
    | false =>
      have HR := Lib.hid hr
      clear hr
      go_wp2_with fail
      refine (plc_no n A l c us _ HR.out Ha.out).mono ?_
      rintro e x1 ⟨rfl, hb⟩
      clear y0 y1 z0 z1
      have Qa := Lib.hid (Qa.out.keep hb)
      have Qb := Lib.hid (Qb.out.keep hb)
      have Ha := Lib.hid (Ha.out.below hb)
      have Hb := Lib.hid (Hb.out.below hb)
      have HT := Lib.hid (HT.out.below hb)
      have B := Lib.hid (chain B.out hb)
      clear hb
      obtain ⟨y0, y1, -, -⟩ := Qa.out.two
      obtain ⟨z0, z1, -, -⟩ := Qb.out.two
      go_wp2_with fail
      refine (alive1_any _).mono ?_
      rintro e x2 ⟨rfl, hb⟩
      clear y0 y1 z0 z1
      have Qa := Lib.hid (Qa.out.keep hb)
      have Qb := Lib.hid (Qb.out.keep hb)
      have Ha := Lib.hid (Ha.out.below hb)
      have Hb := Lib.hid (Hb.out.below hb)
      have HT := Lib.hid (HT.out.below hb)
      have B := Lib.hid (chain B.out hb)
      clear hb
      obtain ⟨y0, y1, -, -⟩ := Qa.out.two
      obtain ⟨z0, z1, -, -⟩ := Qb.out.two
      go_wp2_with fail
      go_ret
      exact ⟨rfl, B.out⟩
    | true =>
      obtain ⟨N, rfl⟩ := Int.eq_ofNat_of_zero_le ((lmb_iff n).1 (right_lmb hr)).1
      have hl8 := rightB_len8 hr Ha.out.1
      have hN : N ≤ 512 := by have := (lmb_iff _).1 (right_lmb hr); omega
      by_cases hE : joinE (N : Int) us m vs = 0
      · obtain ⟨-, hr2, hNm⟩ := joinE_ok hE
        subst hNm
        clear hE
        have HR2 := Lib.hid hr2
        have HLen := Lib.hid (show us.length = vs.length by rw [Ha.out.1, Hb.out.1]; exact (rightB_len hr hr2 Ha.out.1 Hb.out.1).symm)
        have HRx := Lib.hid (right_xor hr hr2)
        have HRy := Lib.hid (right_and hr hr2)
        have HBk := Lib.hid (xor_back us vs HLen.out)
        have HCnt := Lib.hid (count_join us vs HLen.out (64 * us.length) (Nat.le_refl _))
        have hl8k := rightB_len8 hr2 Hb.out.1
        clear hr2
        have hpl := plc_right N us hr
        rw [Ha.out.1] at hpl
        have HPl := Lib.hid hpl
        have HR := Lib.hid hr
        have hble := plcN_len us N
        have HLt := Lib.hid (fun x (hx : x ∈ plcN us N) => plcN_lt us N hx)
        have HS1 := Lib.hid (show sameB N us N us = true by simp [sameB])
        have HUlt := Lib.hid Ha.out.2.1
        have HVlt := Lib.hid Hb.out.2.1
        have H1 := Lib.hid (plc_yes N A l c us _ HR.out Ha.out HT.out)
        rw [HPl.out] at H1
        clear hr hpl
        go_wp2_with fail
        refine (H1.out).mono ?_
        rintro e x1 ⟨v2, rfl, hown, hb⟩
        clear y0 y1 z0 z1
        obtain ⟨A2, c2, rfl, -⟩ := own_form hown
        have HI := Lib.hid (own_plcInts hown (fun x hx => by have := HLt.out x hx; omega))
        have Qa := Lib.hid (Qa.out.keep hb)
        have Qb := Lib.hid (Qb.out.keep hb)
        have Ha := Lib.hid (Ha.out.below hb)
        have Hb := Lib.hid (Hb.out.below hb)
        have HT := Lib.hid (HT.out.below hb)
        have B := Lib.hid (chain B.out hb)
        clear hb
        clear hown H1
        obtain ⟨y0, y1, -, -⟩ := Qa.out.two
        obtain ⟨z0, z1, -, -⟩ := Qb.out.two
        go_wp2_with fail
        refine (of_plc N A2 (plcN us N).length c2 us _ HR.out HUlt.out HI.out (by omega)).mono ?_
        rintro e x2 ⟨A3, l3, c3, rfl, hw, hb⟩
        clear y0 y1 z0 z1
        have Ho := Lib.hid (hw)
        have Qa := Lib.hid (Qa.out.keep hb)
        have Qb := Lib.hid (Qb.out.keep hb)
        have Ha := Lib.hid (Ha.out.below hb)
        have Hb := Lib.hid (Hb.out.below hb)
        have HT := Lib.hid (HT.out.below hb)
        have HI := Lib.hid (HI.out.below hb)
        have B := Lib.hid (chain B.out hb)
        clear hb
        clear hw
        have hal : Below x2.heap.size x2 (x2.alloc (.cells #[.int .i64 N, .slice A3 l3 c3] 24)) := (Below.refl _ _).alloc (Nat.le_refl _) _
        have Qa := Lib.hid (Qa.out.keep hal)
        have Qb := Lib.hid (Qb.out.keep hal)
        have Ha := Lib.hid (Ha.out.below hal)
        have Hb := Lib.hid (Hb.out.below hal)
        have HT := Lib.hid (HT.out.below hal)
        have HI := Lib.hid (HI.out.below hal)
        have Ho := Lib.hid (Ho.out.below hal)
        have B := Lib.hid (chain B.out hal)
        have Qo := Lib.hid (Box.new x2 24 #[.int .i64 N, .slice A3 l3 c3])
        clear hal
        obtain ⟨y0, y1, -, -⟩ := Qa.out.two
        obtain ⟨z0, z1, -, -⟩ := Qb.out.two
        obtain ⟨o0, o1, -, -⟩ := Qo.out.two
        go_wp2_with fail
        refine (xor_ok (N : Int) A Bv l c k d us vs _ Ha.out Hb.out HR.out HR2.out).mono ?_
        rintro e x3 ⟨A4, l4, c4, rfl, hw, hb⟩
        clear y0 y1 z0 z1 o0 o1
        have Hx := Lib.hid (hw)
        have Qa := Lib.hid (Qa.out.keep hb)
        have Qb := Lib.hid (Qb.out.keep hb)
        have Ha := Lib.hid (Ha.out.below hb)
        have Hb := Lib.hid (Hb.out.below hb)
        have HT := Lib.hid (HT.out.below hb)
        have HI := Lib.hid (HI.out.below hb)
        have Ho := Lib.hid (Ho.out.below hb)
        have Qo := Lib.hid (Qo.out.keep hb)
        have B := Lib.hid (chain B.out hb)
        clear hb
        clear hw
        have hal : Below x3.heap.size x3 (x3.alloc (.cells #[.int .i64 N, .slice A4 l4 c4] 24)) := (Below.refl _ _).alloc (Nat.le_refl _) _
        have Qa := Lib.hid (Qa.out.keep hal)
        have Qb := Lib.hid (Qb.out.keep hal)
        have Ha := Lib.hid (Ha.out.below hal)
        have Hb := Lib.hid (Hb.out.below hal)
        have HT := Lib.hid (HT.out.below hal)
        have HI := Lib.hid (HI.out.below hal)
        have Ho := Lib.hid (Ho.out.below hal)
        have Qo := Lib.hid (Qo.out.keep hal)
        have Hx := Lib.hid (Hx.out.below hal)
        have B := Lib.hid (chain B.out hal)
        have Qx := Lib.hid (Box.new x3 24 #[.int .i64 N, .slice A4 l4 c4])
        clear hal
        obtain ⟨y0, y1, -, -⟩ := Qa.out.two
        obtain ⟨z0, z1, -, -⟩ := Qb.out.two
        obtain ⟨o0, o1, -, -⟩ := Qo.out.two
        obtain ⟨x0, x1, -, -⟩ := Qx.out.two
        go_wp2_with fail
        refine (same_any (N : Int) (N : Int) A3 A l3 c3 l c us us _ Ho.out Ha.out (by have := Ho.out.1; have := Ha.out.1; omega)).mono ?_
        rintro e x4 ⟨rfl, hb⟩
        rw [HS1.out]
        clear Qo
        clear Ho
        clear y0 y1 z0 z1 x0 x1
        have Qa := Lib.hid (Qa.out.keep hb)
        have Qb := Lib.hid (Qb.out.keep hb)
        have Ha := Lib.hid (Ha.out.below hb)
        have Hb := Lib.hid (Hb.out.below hb)
        have HT := Lib.hid (HT.out.below hb)
        have HI := Lib.hid (HI.out.below hb)
        have Hx := Lib.hid (Hx.out.below hb)
        have Qx := Lib.hid (Qx.out.keep hb)
        have B := Lib.hid (chain B.out hb)
        clear hb
        obtain ⟨y0, y1, -, -⟩ := Qa.out.two
        obtain ⟨z0, z1, -, -⟩ := Qb.out.two
        obtain ⟨x0, x1, -, -⟩ := Qx.out.two
        go_wp2_with fail
        refine (alive1_any _).mono ?_
        rintro e x5 ⟨rfl, hb⟩
        clear y0 y1 z0 z1 x0 x1
        have Qa := Lib.hid (Qa.out.keep hb)
        have Qb := Lib.hid (Qb.out.keep hb)
        have Ha := Lib.hid (Ha.out.below hb)
        have Hb := Lib.hid (Hb.out.below hb)
        have HT := Lib.hid (HT.out.below hb)
        have HI := Lib.hid (HI.out.below hb)
        have Hx := Lib.hid (Hx.out.below hb)
        have Qx := Lib.hid (Qx.out.keep hb)
        have B := Lib.hid (chain B.out hb)
        clear hb
        obtain ⟨y0, y1, -, -⟩ := Qa.out.two
        obtain ⟨z0, z1, -, -⟩ := Qb.out.two
        obtain ⟨x0, x1, -, -⟩ := Qx.out.two
        go_wp2_with fail
        refine (and_ok (N : Int) A Bv l c k d us vs _ Ha.out Hb.out HR.out HR2.out).mono ?_
        rintro e x6 ⟨A5, l5, c5, rfl, hw, hb⟩
        clear y0 y1 z0 z1 x0 x1
        have Hy := Lib.hid (hw)
        have Qa := Lib.hid (Qa.out.keep hb)
        have Qb := Lib.hid (Qb.out.keep hb)
        have Ha := Lib.hid (Ha.out.below hb)
        have Hb := Lib.hid (Hb.out.below hb)
        have HT := Lib.hid (HT.out.below hb)
        have HI := Lib.hid (HI.out.below hb)
        have Hx := Lib.hid (Hx.out.below hb)
        have Qx := Lib.hid (Qx.out.keep hb)
        have B := Lib.hid (chain B.out hb)
        clear hb
        clear hw
        have hal : Below x6.heap.size x6 (x6.alloc (.cells #[.int .i64 N, .slice A5 l5 c5] 24)) := (Below.refl _ _).alloc (Nat.le_refl _) _
        have Qa := Lib.hid (Qa.out.keep hal)
        have Qb := Lib.hid (Qb.out.keep hal)
        have Ha := Lib.hid (Ha.out.below hal)
        have Hb := Lib.hid (Hb.out.below hal)
        have HT := Lib.hid (HT.out.below hal)
        have HI := Lib.hid (HI.out.below hal)
        have Hx := Lib.hid (Hx.out.below hal)
        have Qx := Lib.hid (Qx.out.keep hal)
        have Hy := Lib.hid (Hy.out.below hal)
        have B := Lib.hid (chain B.out hal)
        have Qy := Lib.hid (Box.new x6 24 #[.int .i64 N, .slice A5 l5 c5])
        clear hal
        obtain ⟨y0, y1, -, -⟩ := Qa.out.two
        obtain ⟨z0, z1, -, -⟩ := Qb.out.two
        obtain ⟨x0, x1, -, -⟩ := Qx.out.two
        obtain ⟨w0, w1, -, -⟩ := Qy.out.two
        go_wp2_with fail
        refine (xor_ok (N : Int) A4 Bv l4 c4 k d (xorL us vs) vs _ Hx.out Hb.out HRx.out HR2.out).mono ?_
        rintro e x7 ⟨A6, l6, c6, rfl, hw, hb⟩
        clear y0 y1 z0 z1 x0 x1 w0 w1
        have Hk := Lib.hid (HBk.out ▸ hw)
        have Qa := Lib.hid (Qa.out.keep hb)
        have Qb := Lib.hid (Qb.out.keep hb)
        have Ha := Lib.hid (Ha.out.below hb)
        have Hb := Lib.hid (Hb.out.below hb)
        have HT := Lib.hid (HT.out.below hb)
        have HI := Lib.hid (HI.out.below hb)
        have Hx := Lib.hid (Hx.out.below hb)
        have Qx := Lib.hid (Qx.out.keep hb)
        have Hy := Lib.hid (Hy.out.below hb)
        have Qy := Lib.hid (Qy.out.keep hb)
        have B := Lib.hid (chain B.out hb)
        clear hb
        clear hw
        have hal : Below x7.heap.size x7 (x7.alloc (.cells #[.int .i64 N, .slice A6 l6 c6] 24)) := (Below.refl _ _).alloc (Nat.le_refl _) _
        have Qa := Lib.hid (Qa.out.keep hal)
        have Qb := Lib.hid (Qb.out.keep hal)
        have Ha := Lib.hid (Ha.out.below hal)
        have Hb := Lib.hid (Hb.out.below hal)
        have HT := Lib.hid (HT.out.below hal)
        have HI := Lib.hid (HI.out.below hal)
        have Hx := Lib.hid (Hx.out.below hal)
        have Qx := Lib.hid (Qx.out.keep hal)
        have Hy := Lib.hid (Hy.out.below hal)
        have Qy := Lib.hid (Qy.out.keep hal)
        have Hk := Lib.hid (Hk.out.below hal)
        have B := Lib.hid (chain B.out hal)
        have Qk := Lib.hid (Box.new x7 24 #[.int .i64 N, .slice A6 l6 c6])
        clear hal
        obtain ⟨y0, y1, -, -⟩ := Qa.out.two
        obtain ⟨z0, z1, -, -⟩ := Qb.out.two
        obtain ⟨x0, x1, -, -⟩ := Qx.out.two
        obtain ⟨w0, w1, -, -⟩ := Qy.out.two
        obtain ⟨k0, k1, -, -⟩ := Qk.out.two
        go_wp2_with fail
        refine (count_yes (N : Int) A l c us _ HR.out Ha.out).mono ?_
        rintro e x8 ⟨rfl, hb⟩
        clear y0 y1 z0 z1 x0 x1 w0 w1 k0 k1
        have Qa := Lib.hid (Qa.out.keep hb)
        have Qb := Lib.hid (Qb.out.keep hb)
        have Ha := Lib.hid (Ha.out.below hb)
        have Hb := Lib.hid (Hb.out.below hb)
        have HT := Lib.hid (HT.out.below hb)
        have HI := Lib.hid (HI.out.below hb)
        have Hx := Lib.hid (Hx.out.below hb)
        have Qx := Lib.hid (Qx.out.keep hb)
        have Hy := Lib.hid (Hy.out.below hb)
        have Qy := Lib.hid (Qy.out.keep hb)
        have Hk := Lib.hid (Hk.out.below hb)
        have Qk := Lib.hid (Qk.out.keep hb)
        have B := Lib.hid (chain B.out hb)
        clear hb
        obtain ⟨y0, y1, -, -⟩ := Qa.out.two
        obtain ⟨z0, z1, -, -⟩ := Qb.out.two
        obtain ⟨x0, x1, -, -⟩ := Qx.out.two
        obtain ⟨w0, w1, -, -⟩ := Qy.out.two
        obtain ⟨k0, k1, -, -⟩ := Qk.out.two
        go_wp2_with fail
        refine (count_yes (N : Int) Bv k d vs _ HR2.out Hb.out).mono ?_
        rintro e x9 ⟨rfl, hb⟩
        clear y0 y1 z0 z1 x0 x1 w0 w1 k0 k1
        have Qa := Lib.hid (Qa.out.keep hb)
        have Qb := Lib.hid (Qb.out.keep hb)
        have Ha := Lib.hid (Ha.out.below hb)
        have Hb := Lib.hid (Hb.out.below hb)
        have HT := Lib.hid (HT.out.below hb)
        have HI := Lib.hid (HI.out.below hb)
        have Hx := Lib.hid (Hx.out.below hb)
        have Qx := Lib.hid (Qx.out.keep hb)
        have Hy := Lib.hid (Hy.out.below hb)
        have Qy := Lib.hid (Qy.out.keep hb)
        have Hk := Lib.hid (Hk.out.below hb)
        have Qk := Lib.hid (Qk.out.keep hb)
        have B := Lib.hid (chain B.out hb)
        clear hb
        obtain ⟨y0, y1, -, -⟩ := Qa.out.two
        obtain ⟨z0, z1, -, -⟩ := Qb.out.two
        obtain ⟨x0, x1, -, -⟩ := Qx.out.two
        obtain ⟨w0, w1, -, -⟩ := Qy.out.two
        obtain ⟨k0, k1, -, -⟩ := Qk.out.two
        go_wp2_with fail
        refine (count_yes (N : Int) A4 l4 c4 (xorL us vs) _ HRx.out Hx.out).mono ?_
        rintro e x10 ⟨rfl, hb⟩
        clear y0 y1 z0 z1 x0 x1 w0 w1 k0 k1
        have Qa := Lib.hid (Qa.out.keep hb)
        have Qb := Lib.hid (Qb.out.keep hb)
        have Ha := Lib.hid (Ha.out.below hb)
        have Hb := Lib.hid (Hb.out.below hb)
        have HT := Lib.hid (HT.out.below hb)
        have HI := Lib.hid (HI.out.below hb)
        have Hx := Lib.hid (Hx.out.below hb)
        have Qx := Lib.hid (Qx.out.keep hb)
        have Hy := Lib.hid (Hy.out.below hb)
        have Qy := Lib.hid (Qy.out.keep hb)
        have Hk := Lib.hid (Hk.out.below hb)
        have Qk := Lib.hid (Qk.out.keep hb)
        have B := Lib.hid (chain B.out hb)
        clear hb
        obtain ⟨y0, y1, -, -⟩ := Qa.out.two
        obtain ⟨z0, z1, -, -⟩ := Qb.out.two
        obtain ⟨x0, x1, -, -⟩ := Qx.out.two
        obtain ⟨w0, w1, -, -⟩ := Qy.out.two
        obtain ⟨k0, k1, -, -⟩ := Qk.out.two
        go_wp2_with fail
        have hl1 : l4 = l := rightB_len HR.out HRx.out Ha.out.1 Hx.out.1
        have hl2 : l5 = l := rightB_len HR.out HRy.out Ha.out.1 Hy.out.1
        have hl3 : k = l := rightB_len HR.out HR2.out Ha.out.1 Hb.out.1
        have hcnt := HCnt.out
        rw [Ha.out.1] at hcnt
        have tcnt : (((plcN us (64 * l)).length : Nat) : Int) + (((plcN vs (64 * k)).length : Nat) : Int) = (((plcN (xorL us vs) (64 * l4)).length : Nat) : Int) + 2 * (((plcN (andL us vs) (64 * l5)).length : Nat) : Int) := by rw [hl1, hl2, hl3]; omega
        have b1 := plcN_len us (64 * l)
        have b2 := plcN_len vs (64 * k)
        have b3 := plcN_len (xorL us vs) (64 * l4)
        have b4 := plcN_len (andL us vs) (64 * l5)
        clear hl1 hl2 hl3 hcnt
        have C5 := Lib.hid (count_yes (N : Int) A5 l5 c5 (andL us vs))
        generalize (plcN us (64 * l)).length = n1 at *
        generalize (plcN vs (64 * k)).length = n2 at *
        generalize (plcN (xorL us vs) (64 * l4)).length = n3 at *
        generalize (plcN (andL us vs) (64 * l5)).length = n4 at *
        refine (C5.out _ HRy.out Hy.out).mono ?_
        rintro e x11 ⟨rfl, hb⟩
        clear y0 y1 z0 z1 x0 x1 w0 w1 k0 k1
        have Qa := Lib.hid (Qa.out.keep hb)
        have Qb := Lib.hid (Qb.out.keep hb)
        have Ha := Lib.hid (Ha.out.below hb)
        have Hb := Lib.hid (Hb.out.below hb)
        have HT := Lib.hid (HT.out.below hb)
        have HI := Lib.hid (HI.out.below hb)
        have Hx := Lib.hid (Hx.out.below hb)
        have Qx := Lib.hid (Qx.out.keep hb)
        have Hy := Lib.hid (Hy.out.below hb)
        have Qy := Lib.hid (Qy.out.keep hb)
        have Hk := Lib.hid (Hk.out.below hb)
        have Qk := Lib.hid (Qk.out.keep hb)
        have B := Lib.hid (chain B.out hb)
        clear hb
        obtain ⟨y0, y1, -, -⟩ := Qa.out.two
        obtain ⟨z0, z1, -, -⟩ := Qb.out.two
        obtain ⟨x0, x1, -, -⟩ := Qx.out.two
        obtain ⟨w0, w1, -, -⟩ := Qy.out.two
        obtain ⟨k0, k1, -, -⟩ := Qk.out.two
        go_wp2_with fail
        refine (same_any (N : Int) (N : Int) A6 A l6 c6 l c us us _ Hk.out Ha.out (by have := Hk.out.1; have := Ha.out.1; omega)).mono ?_
        rintro e x12 ⟨rfl, hb⟩
        rw [HS1.out]
        clear y0 y1 z0 z1 x0 x1 w0 w1 k0 k1
        have Qa := Lib.hid (Qa.out.keep hb)
        have Qb := Lib.hid (Qb.out.keep hb)
        have Ha := Lib.hid (Ha.out.below hb)
        have Hb := Lib.hid (Hb.out.below hb)
        have HT := Lib.hid (HT.out.below hb)
        have HI := Lib.hid (HI.out.below hb)
        have Hx := Lib.hid (Hx.out.below hb)
        have Qx := Lib.hid (Qx.out.keep hb)
        have Hy := Lib.hid (Hy.out.below hb)
        have Qy := Lib.hid (Qy.out.keep hb)
        have Hk := Lib.hid (Hk.out.below hb)
        have Qk := Lib.hid (Qk.out.keep hb)
        have B := Lib.hid (chain B.out hb)
        clear hb
        obtain ⟨y0, y1, -, -⟩ := Qa.out.two
        obtain ⟨z0, z1, -, -⟩ := Qb.out.two
        obtain ⟨x0, x1, -, -⟩ := Qx.out.two
        obtain ⟨w0, w1, -, -⟩ := Qy.out.two
        obtain ⟨k0, k1, -, -⟩ := Qk.out.two
        go_wp2_with fail
        refine (right_any (N : Int) A4 l4 c4 (xorL us vs) _ Hx.out).mono ?_
        rintro e x13 ⟨rfl, hb⟩
        rw [HRx.out]
        clear y0 y1 z0 z1 x0 x1 w0 w1 k0 k1
        have Qa := Lib.hid (Qa.out.keep hb)
        have Qb := Lib.hid (Qb.out.keep hb)
        have Ha := Lib.hid (Ha.out.below hb)
        have Hb := Lib.hid (Hb.out.below hb)
        have HT := Lib.hid (HT.out.below hb)
        have HI := Lib.hid (HI.out.below hb)
        have Hx := Lib.hid (Hx.out.below hb)
        have Qx := Lib.hid (Qx.out.keep hb)
        have Hy := Lib.hid (Hy.out.below hb)
        have Qy := Lib.hid (Qy.out.keep hb)
        have Hk := Lib.hid (Hk.out.below hb)
        have Qk := Lib.hid (Qk.out.keep hb)
        have B := Lib.hid (chain B.out hb)
        clear hb
        obtain ⟨y0, y1, -, -⟩ := Qa.out.two
        obtain ⟨z0, z1, -, -⟩ := Qb.out.two
        obtain ⟨x0, x1, -, -⟩ := Qx.out.two
        obtain ⟨w0, w1, -, -⟩ := Qy.out.two
        obtain ⟨k0, k1, -, -⟩ := Qk.out.two
        go_wp2_with fail
        refine (right_any (N : Int) A5 l5 c5 (andL us vs) _ Hy.out).mono ?_
        rintro e x14 ⟨rfl, hb⟩
        rw [HRy.out]
        clear y0 y1 z0 z1 x0 x1 w0 w1 k0 k1
        have Qa := Lib.hid (Qa.out.keep hb)
        have Qb := Lib.hid (Qb.out.keep hb)
        have Ha := Lib.hid (Ha.out.below hb)
        have Hb := Lib.hid (Hb.out.below hb)
        have HT := Lib.hid (HT.out.below hb)
        have HI := Lib.hid (HI.out.below hb)
        have Hx := Lib.hid (Hx.out.below hb)
        have Qx := Lib.hid (Qx.out.keep hb)
        have Hy := Lib.hid (Hy.out.below hb)
        have Qy := Lib.hid (Qy.out.keep hb)
        have Hk := Lib.hid (Hk.out.below hb)
        have Qk := Lib.hid (Qk.out.keep hb)
        have B := Lib.hid (chain B.out hb)
        clear hb
        obtain ⟨y0, y1, -, -⟩ := Qa.out.two
        obtain ⟨z0, z1, -, -⟩ := Qb.out.two
        obtain ⟨x0, x1, -, -⟩ := Qx.out.two
        obtain ⟨w0, w1, -, -⟩ := Qy.out.two
        obtain ⟨k0, k1, -, -⟩ := Qk.out.two
        go_wp2_with fail
        go_ret
        exact ⟨rfl, B.out⟩
      · have hne : (joinE (N : Int) us m vs != 0) = true := by simpa using hE
        obtain ⟨jN, jW⟩ := joinE_no (· ^^^ ·) hE
        have HX := Lib.hid (fun w => xor_any (N : Int) m A Bv l c k d us vs w)
        rw [jN, jW] at HX
        have HSz := Lib.hid (show sameB 0 [] 0 [] = true by simp [sameB])
        clear hE jN jW
        generalize joinE (N : Int) us m vs = je at *
        have hpl := plc_right N us hr
        rw [Ha.out.1] at hpl
        have HPl := Lib.hid hpl
        have HR := Lib.hid hr
        have hble := plcN_len us N
        have HLt := Lib.hid (fun x (hx : x ∈ plcN us N) => plcN_lt us N hx)
        have HS1 := Lib.hid (show sameB N us N us = true by simp [sameB])
        have HUlt := Lib.hid Ha.out.2.1
        have HVlt := Lib.hid Hb.out.2.1
        have H1 := Lib.hid (plc_yes N A l c us _ HR.out Ha.out HT.out)
        rw [HPl.out] at H1
        clear hr hpl
        go_wp2_with fail
        refine (H1.out).mono ?_
        rintro e x1 ⟨v2, rfl, hown, hb⟩
        clear y0 y1 z0 z1
        obtain ⟨A2, c2, rfl, -⟩ := own_form hown
        have HI := Lib.hid (own_plcInts hown (fun x hx => by have := HLt.out x hx; omega))
        have Qa := Lib.hid (Qa.out.keep hb)
        have Qb := Lib.hid (Qb.out.keep hb)
        have Ha := Lib.hid (Ha.out.below hb)
        have Hb := Lib.hid (Hb.out.below hb)
        have HT := Lib.hid (HT.out.below hb)
        have B := Lib.hid (chain B.out hb)
        clear hb
        clear hown H1
        obtain ⟨y0, y1, -, -⟩ := Qa.out.two
        obtain ⟨z0, z1, -, -⟩ := Qb.out.two
        go_wp2_with fail
        refine (of_plc N A2 (plcN us N).length c2 us _ HR.out HUlt.out HI.out (by omega)).mono ?_
        rintro e x2 ⟨A3, l3, c3, rfl, hw, hb⟩
        clear y0 y1 z0 z1
        have Ho := Lib.hid (hw)
        have Qa := Lib.hid (Qa.out.keep hb)
        have Qb := Lib.hid (Qb.out.keep hb)
        have Ha := Lib.hid (Ha.out.below hb)
        have Hb := Lib.hid (Hb.out.below hb)
        have HT := Lib.hid (HT.out.below hb)
        have HI := Lib.hid (HI.out.below hb)
        have B := Lib.hid (chain B.out hb)
        clear hb
        clear hw
        have hal : Below x2.heap.size x2 (x2.alloc (.cells #[.int .i64 N, .slice A3 l3 c3] 24)) := (Below.refl _ _).alloc (Nat.le_refl _) _
        have Qa := Lib.hid (Qa.out.keep hal)
        have Qb := Lib.hid (Qb.out.keep hal)
        have Ha := Lib.hid (Ha.out.below hal)
        have Hb := Lib.hid (Hb.out.below hal)
        have HT := Lib.hid (HT.out.below hal)
        have HI := Lib.hid (HI.out.below hal)
        have Ho := Lib.hid (Ho.out.below hal)
        have B := Lib.hid (chain B.out hal)
        have Qo := Lib.hid (Box.new x2 24 #[.int .i64 N, .slice A3 l3 c3])
        clear hal
        obtain ⟨y0, y1, -, -⟩ := Qa.out.two
        obtain ⟨z0, z1, -, -⟩ := Qb.out.two
        obtain ⟨o0, o1, -, -⟩ := Qo.out.two
        go_wp2_with fail
        refine (HX.out _ Ha.out Hb.out).mono ?_
        rintro e x3 ⟨A4, l4, c4, rfl, hw, hb⟩
        clear y0 y1 z0 z1 o0 o1
        have Hx := Lib.hid (hw)
        have Qa := Lib.hid (Qa.out.keep hb)
        have Qb := Lib.hid (Qb.out.keep hb)
        have Ha := Lib.hid (Ha.out.below hb)
        have Hb := Lib.hid (Hb.out.below hb)
        have HT := Lib.hid (HT.out.below hb)
        have HI := Lib.hid (HI.out.below hb)
        have Ho := Lib.hid (Ho.out.below hb)
        have Qo := Lib.hid (Qo.out.keep hb)
        have B := Lib.hid (chain B.out hb)
        clear hb
        clear hw HX
        have hal : Below x3.heap.size x3 (x3.alloc (.cells #[.int .i64 0, .slice A4 l4 c4] 24)) := (Below.refl _ _).alloc (Nat.le_refl _) _
        have Qa := Lib.hid (Qa.out.keep hal)
        have Qb := Lib.hid (Qb.out.keep hal)
        have Ha := Lib.hid (Ha.out.below hal)
        have Hb := Lib.hid (Hb.out.below hal)
        have HT := Lib.hid (HT.out.below hal)
        have HI := Lib.hid (HI.out.below hal)
        have Ho := Lib.hid (Ho.out.below hal)
        have Qo := Lib.hid (Qo.out.keep hal)
        have Hx := Lib.hid (Hx.out.below hal)
        have B := Lib.hid (chain B.out hal)
        have Qx := Lib.hid (Box.new x3 24 #[.int .i64 0, .slice A4 l4 c4])
        clear hal
        obtain ⟨y0, y1, -, -⟩ := Qa.out.two
        obtain ⟨z0, z1, -, -⟩ := Qb.out.two
        obtain ⟨o0, o1, -, -⟩ := Qo.out.two
        obtain ⟨x0, x1, -, -⟩ := Qx.out.two
        go_wp2_with fail
        refine (same_any (N : Int) (N : Int) A3 A l3 c3 l c us us _ Ho.out Ha.out (by have := Ho.out.1; have := Ha.out.1; omega)).mono ?_
        rintro e x4 ⟨rfl, hb⟩
        rw [HS1.out]
        clear Qo
        clear Ho
        clear y0 y1 z0 z1 x0 x1
        have Qa := Lib.hid (Qa.out.keep hb)
        have Qb := Lib.hid (Qb.out.keep hb)
        have Ha := Lib.hid (Ha.out.below hb)
        have Hb := Lib.hid (Hb.out.below hb)
        have HT := Lib.hid (HT.out.below hb)
        have HI := Lib.hid (HI.out.below hb)
        have Hx := Lib.hid (Hx.out.below hb)
        have Qx := Lib.hid (Qx.out.keep hb)
        have B := Lib.hid (chain B.out hb)
        clear hb
        obtain ⟨y0, y1, -, -⟩ := Qa.out.two
        obtain ⟨z0, z1, -, -⟩ := Qb.out.two
        obtain ⟨x0, x1, -, -⟩ := Qx.out.two
        go_wp2_with fail
        refine (alive1_any _).mono ?_
        rintro e x5 ⟨rfl, hb⟩
        clear y0 y1 z0 z1 x0 x1
        have Qa := Lib.hid (Qa.out.keep hb)
        have Qb := Lib.hid (Qb.out.keep hb)
        have Ha := Lib.hid (Ha.out.below hb)
        have Hb := Lib.hid (Hb.out.below hb)
        have HT := Lib.hid (HT.out.below hb)
        have HI := Lib.hid (HI.out.below hb)
        have Hx := Lib.hid (Hx.out.below hb)
        have Qx := Lib.hid (Qx.out.keep hb)
        have B := Lib.hid (chain B.out hb)
        clear hb
        obtain ⟨y0, y1, -, -⟩ := Qa.out.two
        obtain ⟨z0, z1, -, -⟩ := Qb.out.two
        obtain ⟨x0, x1, -, -⟩ := Qx.out.two
        go_wp2_with fail
        refine (same_any 0 0 A4 none l4 c4 0 0 [] [] _ Hx.out (Words.nil _ _) (by have := Hx.out.1; simp at this; omega)).mono ?_
        rintro e x6 ⟨rfl, hb⟩
        rw [HSz.out]
        clear y0 y1 z0 z1 x0 x1
        have Qa := Lib.hid (Qa.out.keep hb)
        have Qb := Lib.hid (Qb.out.keep hb)
        have Ha := Lib.hid (Ha.out.below hb)
        have Hb := Lib.hid (Hb.out.below hb)
        have HT := Lib.hid (HT.out.below hb)
        have HI := Lib.hid (HI.out.below hb)
        have Hx := Lib.hid (Hx.out.below hb)
        have Qx := Lib.hid (Qx.out.keep hb)
        have B := Lib.hid (chain B.out hb)
        clear hb
        obtain ⟨y0, y1, -, -⟩ := Qa.out.two
        obtain ⟨z0, z1, -, -⟩ := Qb.out.two
        obtain ⟨x0, x1, -, -⟩ := Qx.out.two
        go_wp2_with fail
        go_ret
        exact ⟨rfl, B.out⟩
end Go.Proofs.YtfeaollpeaphlaaDoor
