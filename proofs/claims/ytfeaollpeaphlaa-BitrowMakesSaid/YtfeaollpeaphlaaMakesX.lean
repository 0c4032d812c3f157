/- BitrowMakes: the walk. -/
import Derived.Test.YtfeaollpeaphlaaRefOf
import Derived.Test.YtfeaollpeaphlaaLike
import Derived.Test.YtfeaollpeaphlaaWords2
import Derived.OpenShut
namespace Go.Proofs.Ytfeaollpeaphlaa
open Go.RowKit
def newN (n : Int) : Int := if lmb n then n else 0
def newW (n : Int) : List Nat := if lmb n then List.replicate (nw n.toNat) 0 else []
def newE (n : Int) : Int := if lmb n then 0 else 2
theorem new_any (n : Int) (w : World) : Calls Try.prog 9 #[.int .i64 n] w (RowOut (newN n) (newW n) (newE n) w) := by
  unfold newN newW newE
  cases h : lmb n with
  | false => exact new_no n h w
  | true =>
    obtain ⟨m, rfl⟩ := Int.eq_ofNat_of_zero_le ((lmb_iff n).1 h).1
    refine (new_yes m h w).mono ?_
    rintro e w' ⟨g, rfl, hb, _, hbel⟩
    have hw := hb.words (zeros_lt _)
    exact ⟨_, _, _, rfl, hw, hbel⟩
set_option maxRecDepth 100000 in
set_option maxHeartbeats 8000000 in
theorem makes_walk (n : Int) (PL : Option Addr) (pl0 pc0 : Nat) (zs : List Int) (na nb : Int) (A B : Option Addr) (l1 c1 l2 c2 : Nat) (us vs : List Nat) (w : World)
    (s0 : SliceOk PL pl0 pc0) (hp : Ints w PL pl0 zs) (s1 : SliceOk A l1 c1) (s2 : SliceOk B l2 c2) (h1 : Words w A l1 us) (h2 : Words w B l2 vs) :
    Calls Try.prog 3 #[.int .i64 n, .slice PL pl0 pc0, .agg #[.int .i64 na, .slice A l1 c1], .agg #[.int .i64 nb, .slice B l2 c2]] w fun e w' => e = .returned (.bool true) ∧ Below w.heap.size w w' := by
  have q0 := (Box.new w 25 #[.int .i64 na, .slice A l1 c1]).alloc (.cells #[.int .i64 nb, .slice B l2 c2] 25)
  have q1 := Box.new (w.alloc (.cells #[.int .i64 na, .slice A l1 c1] 25)) 25 #[.int .i64 nb, .slice B l2 c2]
  have hW : Below w.heap.size w ((w.alloc (.cells #[.int .i64 na, .slice A l1 c1] 25)).alloc (.cells #[.int .i64 nb, .slice B l2 c2] 25)) := ((Below.refl _ _).alloc (Nat.le_refl _) _).alloc (by simp) _
  simp only [World.size_alloc] at q1
  go_enter Try.func3, Try.ntmps3
  go_wp2_with fail
  generalize hW0 : (w.alloc (.cells #[.int .i64 na, .slice A l1 c1] 25)).alloc (.cells #[.int .i64 nb, .slice B l2 c2] 25) = W at *
  clear hW0
  have hz := q1.lt
  have Q0 := Lib.hid q0
  have Q1 := Lib.hid q1
  have HW := Lib.hid hW
  have H1 := Lib.hid (h1.below hW)
  have H2 := Lib.hid (h2.below hW)
  have HP0 := Lib.hid (hp.below hW)
  have HLOW := Lib.hid hp.low
  obtain ⟨a0, a1, -, -⟩ := q0.two
  obtain ⟨b0, b1, -, -⟩ := q1.two
  clear q0 q1 hW h1 h2 hp
  go_cut [1] (fun s1 wx => ∃ Pp pl pc A l c B k d, s1 = .slice Pp pl pc ∧ Ints wx Pp pl (zs.take 40) ∧ Box wx w.heap.size 25 #[.int .i64 na, .slice A l c] ∧ Box wx (w.heap.size + 1) 25 #[.int .i64 nb, .slice B k d] ∧ Words wx A l (us.take 10) ∧ Words wx B k (vs.take 10) ∧ Below w.heap.size w wx)
  case first =>
    obtain ⟨hs1, hs2, hs3⟩ := s0
    unfold maxLen at hs2
    cases PL with
    | none =>
      obtain ⟨rfl, rfl⟩ := hs3 rfl
      refine wp_region_any (by kernel_rfl) ?_
      try (change wpAny _ _ _ _ _ _ _ (World.drew _))
      refine wpAny_take (i := 0) (v := ?_) rfl (by kernel_rfl) (by kernel_rfl) (by kernel_rfl) (fun _ _ _ h => h) (Or.inl ⟨by rfl, ?hy1⟩) ?rest1
      case hy1 => intro w; go_simp; try (with_reducible rfl)
      case rest1 =>
      refine wpAny_take (i := 1) (v := ?_) rfl (by kernel_rfl) (by kernel_rfl) (by kernel_rfl) (fun _ _ _ h => h) (Or.inl ⟨by rfl, ?hy2⟩) ?rest2
      case hy2 => intro w; go_simp; try (with_reducible rfl)
      case rest2 =>
      refine wpAny_take (i := 2) (v := ?_) rfl (by kernel_rfl) (by kernel_rfl) (by kernel_rfl) (fun _ _ _ h => h) (Or.inl ⟨by rfl, ?hy3⟩) ?rest3
      case hy3 => intro w; go_simp; try (with_reducible rfl)
      case rest3 =>
      refine wpAny_take (i := 3) (v := ?_) rfl (by kernel_rfl) (by kernel_rfl) (by kernel_rfl) (fun _ _ _ h => h) (Or.inl ⟨by rfl, ?hy4⟩) ?rest4
      case hy4 => intro w; go_simp; try (with_reducible rfl)
      case rest4 =>
      refine wpAny_take (i := 4) (v := ?_) rfl (by kernel_rfl) (by kernel_rfl) (by kernel_rfl) (fun _ _ _ h => h) (Or.inl ⟨by rfl, ?hy5⟩) ?rest5
      case hy5 => intro w; go_simp; try (with_reducible rfl)
      case rest5 =>
      refine wpAny_ready (rs := [5, 7]) (by kernel_rfl) (by simp) ?_
      refine AllReady.cons rfl (fun K hK => ?_) (AllReady.cons rfl (fun K hK => ?_) AllReady.nil)
      · skip
        go_simp
        refine hK _ _ ?_
        clear hK K
        refine wpAny_ready (rs := [6, 7]) (by kernel_rfl) (by simp) ?_
        refine AllReady.cons rfl (fun K hK => ?_) (AllReady.cons rfl (fun K hK => ?_) AllReady.nil)
        · skip
          go_simp
          go_at_call_of 8 (Value.agg #[.int .i64 na, .slice A l1 c1]); refine (few_any na A l1 c1 s1 us _ (by exact H1.out)).mono ?_; rintro e1 x1 ⟨A1, m1, d1, rfl, hw1, hb1⟩; have P0 := Lib.hid (Q0.out.drew.keep hb1); have P1 := Lib.hid (Q1.out.drew.keep hb1); have J2 := Lib.hid (H2.out.drew.below hb1); have T1 := Lib.hid (chain HW.out.drew hb1); have JP := Lib.hid (HP0.out.drew.below hb1); have hw1 := Lib.hid hw1; clear hb1; obtain ⟨k0, k1, -, -⟩ := P1.out.two
          go_wp2_with fail
          refine wpAny_ready (rs := [7]) (by kernel_rfl) (by simp) ?_
          refine AllReady.cons rfl (fun K hK => ?_) AllReady.nil
          go_simp
          refine hK _ _ ?_
          clear hK K
          refine wpAny_ready (rs := [8]) (by kernel_rfl) (by simp) ?_
          refine AllReady.cons rfl (fun K hK => ?_) AllReady.nil
          go_simp
          go_at_call_of 8 (Value.agg #[.int .i64 nb, .slice B l2 c2]); refine (few_any nb B l2 c2 s2 vs _ (by exact J2.out)).mono ?_; rintro e2 x2 ⟨A2, m2, d2, rfl, hw2, hb2⟩; have P0 := Lib.hid (P0.out.keep hb2); have P1 := Lib.hid (P1.out.keep hb2); have J1 := Lib.hid (hw1.out.below hb2); have J2 := Lib.hid hw2; have T1 := Lib.hid (chain T1.out hb2); have JP := Lib.hid (JP.out.below hb2); clear hb2 hw2; obtain ⟨k6, k7, f0, f1⟩ := P0.out.two; obtain ⟨k8, k9, f2, f3⟩ := P1.out.two
          go_wp2_with fail
          refine wpAny_take (i := 9) (v := ?_) rfl (by kernel_rfl) (by kernel_rfl) (by kernel_rfl) (fun _ _ _ h => h) (Or.inl ⟨by rfl, ?hy6⟩) ?rest6
          case hy6 => intro w; go_simp; try (with_reducible rfl)
          case rest6 =>
          refine wpAny_ready (rs := [10]) (by kernel_rfl) (by simp) ?_
          refine AllReady.cons rfl (fun K hK => ?_) AllReady.nil
          go_simp
          refine hK _ _ ?_
          clear hK K
          refine wpAny_ready (rs := [11]) (by kernel_rfl) (by simp) ?_
          refine AllReady.cons rfl (fun K hK => ?_) AllReady.nil
          go_simp
          refine hK _ _ ?_
          clear hK K
          refine wpAny_done (by kernel_rfl) ?_ _
          go_wp2_with fail
          go_meet
          exact ⟨none, 0, 0, A1, m1, d1, A2, m2, d2, rfl, (by have h := JP.out; rw [List.take_of_length_le (by rw [h.1]; omega)]; exact h.put2r (Nat.le_refl _) (by omega) HLOW.out), two_rows P0.out P1.out (by omega) T1.out (by omega) (by omega) J1.out J2.out⟩
        · skip
          go_simp
          refine hK _ _ ?_
          clear hK K
          refine wpAny_ready (rs := [6]) (by kernel_rfl) (by simp) ?_
          refine AllReady.cons rfl (fun K hK => ?_) AllReady.nil
          go_simp
          go_at_call_of 8 (Value.agg #[.int .i64 na, .slice A l1 c1]); refine (few_any na A l1 c1 s1 us _ (by exact H1.out)).mono ?_; rintro e1 x1 ⟨A1, m1, d1, rfl, hw1, hb1⟩; have P0 := Lib.hid (Q0.out.drew.keep hb1); have P1 := Lib.hid (Q1.out.drew.keep hb1); have J2 := Lib.hid (H2.out.drew.below hb1); have T1 := Lib.hid (chain HW.out.drew hb1); have JP := Lib.hid (HP0.out.drew.below hb1); have hw1 := Lib.hid hw1; clear hb1; obtain ⟨k0, k1, -, -⟩ := P1.out.two
          go_wp2_with fail
          refine wpAny_ready (rs := [8]) (by kernel_rfl) (by simp) ?_
          refine AllReady.cons rfl (fun K hK => ?_) AllReady.nil
          go_simp
          go_at_call_of 8 (Value.agg #[.int .i64 nb, .slice B l2 c2]); refine (few_any nb B l2 c2 s2 vs _ (by exact J2.out)).mono ?_; rintro e2 x2 ⟨A2, m2, d2, rfl, hw2, hb2⟩; have P0 := Lib.hid (P0.out.keep hb2); have P1 := Lib.hid (P1.out.keep hb2); have J1 := Lib.hid (hw1.out.below hb2); have J2 := Lib.hid hw2; have T1 := Lib.hid (chain T1.out hb2); have JP := Lib.hid (JP.out.below hb2); clear hb2 hw2; obtain ⟨k6, k7, f0, f1⟩ := P0.out.two; obtain ⟨k8, k9, f2, f3⟩ := P1.out.two
          go_wp2_with fail
          refine wpAny_take (i := 9) (v := ?_) rfl (by kernel_rfl) (by kernel_rfl) (by kernel_rfl) (fun _ _ _ h => h) (Or.inl ⟨by rfl, ?hy7⟩) ?rest7
          case hy7 => intro w; go_simp; try (with_reducible rfl)
          case rest7 =>
          refine wpAny_ready (rs := [10]) (by kernel_rfl) (by simp) ?_
          refine AllReady.cons rfl (fun K hK => ?_) AllReady.nil
          go_simp
          refine hK _ _ ?_
          clear hK K
          refine wpAny_ready (rs := [11]) (by kernel_rfl) (by simp) ?_
          refine AllReady.cons rfl (fun K hK => ?_) AllReady.nil
          go_simp
          refine hK _ _ ?_
          clear hK K
          refine wpAny_done (by kernel_rfl) ?_ _
          go_wp2_with fail
          go_meet
          exact ⟨none, 0, 0, A1, m1, d1, A2, m2, d2, rfl, (by have h := JP.out; rw [List.take_of_length_le (by rw [h.1]; omega)]; exact h.put2r (Nat.le_refl _) (by omega) HLOW.out), two_rows P0.out P1.out (by omega) T1.out (by omega) (by omega) J1.out J2.out⟩
      · skip
        go_simp
        refine hK _ _ ?_
        clear hK K
        refine wpAny_ready (rs := [5]) (by kernel_rfl) (by simp) ?_
        refine AllReady.cons rfl (fun K hK => ?_) AllReady.nil
        go_simp
        refine hK _ _ ?_
        clear hK K
        refine wpAny_ready (rs := [6]) (by kernel_rfl) (by simp) ?_
        refine AllReady.cons rfl (fun K hK => ?_) AllReady.nil
        go_simp
        go_at_call_of 8 (Value.agg #[.int .i64 na, .slice A l1 c1]); refine (few_any na A l1 c1 s1 us _ (by exact H1.out)).mono ?_; rintro e1 x1 ⟨A1, m1, d1, rfl, hw1, hb1⟩; have P0 := Lib.hid (Q0.out.drew.keep hb1); have P1 := Lib.hid (Q1.out.drew.keep hb1); have J2 := Lib.hid (H2.out.drew.below hb1); have T1 := Lib.hid (chain HW.out.drew hb1); have JP := Lib.hid (HP0.out.drew.below hb1); have hw1 := Lib.hid hw1; clear hb1; obtain ⟨k0, k1, -, -⟩ := P1.out.two
        go_wp2_with fail
        refine wpAny_ready (rs := [8]) (by kernel_rfl) (by simp) ?_
        refine AllReady.cons rfl (fun K hK => ?_) AllReady.nil
        go_simp
        go_at_call_of 8 (Value.agg #[.int .i64 nb, .slice B l2 c2]); refine (few_any nb B l2 c2 s2 vs _ (by exact J2.out)).mono ?_; rintro e2 x2 ⟨A2, m2, d2, rfl, hw2, hb2⟩; have P0 := Lib.hid (P0.out.keep hb2); have P1 := Lib.hid (P1.out.keep hb2); have J1 := Lib.hid (hw1.out.below hb2); have J2 := Lib.hid hw2; have T1 := Lib.hid (chain T1.out hb2); have JP := Lib.hid (JP.out.below hb2); clear hb2 hw2; obtain ⟨k6, k7, f0, f1⟩ := P0.out.two; obtain ⟨k8, k9, f2, f3⟩ := P1.out.two
        go_wp2_with fail
        refine wpAny_take (i := 9) (v := ?_) rfl (by kernel_rfl) (by kernel_rfl) (by kernel_rfl) (fun _ _ _ h => h) (Or.inl ⟨by rfl, ?hy8⟩) ?rest8
        case hy8 => intro w; go_simp; try (with_reducible rfl)
        case rest8 =>
        refine wpAny_ready (rs := [10]) (by kernel_rfl) (by simp) ?_
        refine AllReady.cons rfl (fun K hK => ?_) AllReady.nil
        go_simp
        refine hK _ _ ?_
        clear hK K
        refine wpAny_ready (rs := [11]) (by kernel_rfl) (by simp) ?_
        refine AllReady.cons rfl (fun K hK => ?_) AllReady.nil
        go_simp
        refine hK _ _ ?_
        clear hK K
        refine wpAny_done (by kernel_rfl) ?_ _
        go_wp2_with fail
        go_meet
        exact ⟨none, 0, 0, A1, m1, d1, A2, m2, d2, rfl, (by have h := JP.out; rw [List.take_of_length_le (by rw [h.1]; omega)]; exact h.put2r (Nat.le_refl _) (by omega) HLOW.out), two_rows P0.out P1.out (by omega) T1.out (by omega) (by omega) J1.out J2.out⟩
    | some ad =>
      by_cases h40 : pl0 ≤ 40
      · have g1 : (pl0 : Int) ≤ 40 := by omega
        have g2 : ¬ (40 : Int) < pl0 := by omega
        refine wp_region_any (by kernel_rfl) ?_
        try (change wpAny _ _ _ _ _ _ _ (World.drew _))
        refine wpAny_take (i := 0) (v := ?_) rfl (by kernel_rfl) (by kernel_rfl) (by kernel_rfl) (fun _ _ _ h => h) (Or.inl ⟨by rfl, ?hy9⟩) ?rest9
        case hy9 => intro w; go_simp; try (with_reducible rfl)
        case rest9 =>
        refine wpAny_take (i := 1) (v := ?_) rfl (by kernel_rfl) (by kernel_rfl) (by kernel_rfl) (fun _ _ _ h => h) (Or.inl ⟨by rfl, ?hy10⟩) ?rest10
        case hy10 => intro w; go_simp; try (with_reducible rfl)
        case rest10 =>
        refine wpAny_take (i := 2) (v := ?_) rfl (by kernel_rfl) (by kernel_rfl) (by kernel_rfl) (fun _ _ _ h => h) (Or.inl ⟨by rfl, ?hy11⟩) ?rest11
        case hy11 => intro w; go_simp; try (with_reducible rfl)
        case rest11 =>
        refine wpAny_take (i := 3) (v := ?_) rfl (by kernel_rfl) (by kernel_rfl) (by kernel_rfl) (fun _ _ _ h => h) (Or.inl ⟨by rfl, ?hy12⟩) ?rest12
        case hy12 => intro w; go_simp; try (with_reducible rfl)
        case rest12 =>
        refine wpAny_take (i := 4) (v := ?_) rfl (by kernel_rfl) (by kernel_rfl) (by kernel_rfl) (fun _ _ _ h => h) (Or.inl ⟨by rfl, ?hy13⟩) ?rest13
        case hy13 => intro w; go_simp; try (with_reducible rfl)
        case rest13 =>
        refine wpAny_ready (rs := [5, 7]) (by kernel_rfl) (by simp) ?_
        refine AllReady.cons rfl (fun K hK => ?_) (AllReady.cons rfl (fun K hK => ?_) AllReady.nil)
        · skip
          go_simp
          refine hK _ _ ?_
          clear hK K
          refine wpAny_ready (rs := [6, 7]) (by kernel_rfl) (by simp) ?_
          refine AllReady.cons rfl (fun K hK => ?_) (AllReady.cons rfl (fun K hK => ?_) AllReady.nil)
          · skip
            go_simp
            go_at_call_of 8 (Value.agg #[.int .i64 na, .slice A l1 c1]); refine (few_any na A l1 c1 s1 us _ (by exact H1.out)).mono ?_; rintro e1 x1 ⟨A1, m1, d1, rfl, hw1, hb1⟩; have P0 := Lib.hid (Q0.out.drew.keep hb1); have P1 := Lib.hid (Q1.out.drew.keep hb1); have J2 := Lib.hid (H2.out.drew.below hb1); have T1 := Lib.hid (chain HW.out.drew hb1); have JP := Lib.hid (HP0.out.drew.below hb1); have hw1 := Lib.hid hw1; clear hb1; obtain ⟨k0, k1, -, -⟩ := P1.out.two
            go_wp2_with fail
            refine wpAny_ready (rs := [7]) (by kernel_rfl) (by simp) ?_
            refine AllReady.cons rfl (fun K hK => ?_) AllReady.nil
            go_simp
            refine hK _ _ ?_
            clear hK K
            refine wpAny_ready (rs := [8]) (by kernel_rfl) (by simp) ?_
            refine AllReady.cons rfl (fun K hK => ?_) AllReady.nil
            go_simp
            go_at_call_of 8 (Value.agg #[.int .i64 nb, .slice B l2 c2]); refine (few_any nb B l2 c2 s2 vs _ (by exact J2.out)).mono ?_; rintro e2 x2 ⟨A2, m2, d2, rfl, hw2, hb2⟩; have P0 := Lib.hid (P0.out.keep hb2); have P1 := Lib.hid (P1.out.keep hb2); have J1 := Lib.hid (hw1.out.below hb2); have J2 := Lib.hid hw2; have T1 := Lib.hid (chain T1.out hb2); have JP := Lib.hid (JP.out.below hb2); clear hb2 hw2; obtain ⟨k6, k7, f0, f1⟩ := P0.out.two; obtain ⟨k8, k9, f2, f3⟩ := P1.out.two
            go_wp2_with fail
            refine wpAny_take (i := 9) (v := ?_) rfl (by kernel_rfl) (by kernel_rfl) (by kernel_rfl) (fun _ _ _ h => h) (Or.inl ⟨by rfl, ?hy14⟩) ?rest14
            case hy14 => intro w; go_simp; try (with_reducible rfl)
            case rest14 =>
            refine wpAny_ready (rs := [10]) (by kernel_rfl) (by simp) ?_
            refine AllReady.cons rfl (fun K hK => ?_) AllReady.nil
            go_simp
            refine hK _ _ ?_
            clear hK K
            refine wpAny_ready (rs := [11]) (by kernel_rfl) (by simp) ?_
            refine AllReady.cons rfl (fun K hK => ?_) AllReady.nil
            go_simp
            refine hK _ _ ?_
            clear hK K
            refine wpAny_done (by kernel_rfl) ?_ _
            go_wp2_with fail
            go_meet
            exact ⟨some ad, pl0, pc0, A1, m1, d1, A2, m2, d2, rfl, (by have h := JP.out; rw [List.take_of_length_le (by rw [h.1]; omega)]; exact h.put2r (Nat.le_refl _) (by omega) HLOW.out), two_rows P0.out P1.out (by omega) T1.out (by omega) (by omega) J1.out J2.out⟩
          · skip
            go_simp
            refine hK _ _ ?_
            clear hK K
            refine wpAny_ready (rs := [6]) (by kernel_rfl) (by simp) ?_
            refine AllReady.cons rfl (fun K hK => ?_) AllReady.nil
            go_simp
            go_at_call_of 8 (Value.agg #[.int .i64 na, .slice A l1 c1]); refine (few_any na A l1 c1 s1 us _ (by exact H1.out)).mono ?_; rintro e1 x1 ⟨A1, m1, d1, rfl, hw1, hb1⟩; have P0 := Lib.hid (Q0.out.drew.keep hb1); have P1 := Lib.hid (Q1.out.drew.keep hb1); have J2 := Lib.hid (H2.out.drew.below hb1); have T1 := Lib.hid (chain HW.out.drew hb1); have JP := Lib.hid (HP0.out.drew.below hb1); have hw1 := Lib.hid hw1; clear hb1; obtain ⟨k0, k1, -, -⟩ := P1.out.two
            go_wp2_with fail
            refine wpAny_ready (rs := [8]) (by kernel_rfl) (by simp) ?_
            refine AllReady.cons rfl (fun K hK => ?_) AllReady.nil
            go_simp
            go_at_call_of 8 (Value.agg #[.int .i64 nb, .slice B l2 c2]); refine (few_any nb B l2 c2 s2 vs _ (by exact J2.out)).mono ?_; rintro e2 x2 ⟨A2, m2, d2, rfl, hw2, hb2⟩; have P0 := Lib.hid (P0.out.keep hb2); have P1 := Lib.hid (P1.out.keep hb2); have J1 := Lib.hid (hw1.out.below hb2); have J2 := Lib.hid hw2; have T1 := Lib.hid (chain T1.out hb2); have JP := Lib.hid (JP.out.below hb2); clear hb2 hw2; obtain ⟨k6, k7, f0, f1⟩ := P0.out.two; obtain ⟨k8, k9, f2, f3⟩ := P1.out.two
            go_wp2_with fail
            refine wpAny_take (i := 9) (v := ?_) rfl (by kernel_rfl) (by kernel_rfl) (by kernel_rfl) (fun _ _ _ h => h) (Or.inl ⟨by rfl, ?hy15⟩) ?rest15
            case hy15 => intro w; go_simp; try (with_reducible rfl)
            case rest15 =>
            refine wpAny_ready (rs := [10]) (by kernel_rfl) (by simp) ?_
            refine AllReady.cons rfl (fun K hK => ?_) AllReady.nil
            go_simp
            refine hK _ _ ?_
            clear hK K
            refine wpAny_ready (rs := [11]) (by kernel_rfl) (by simp) ?_
            refine AllReady.cons rfl (fun K hK => ?_) AllReady.nil
            go_simp
            refine hK _ _ ?_
            clear hK K
            refine wpAny_done (by kernel_rfl) ?_ _
            go_wp2_with fail
            go_meet
            exact ⟨some ad, pl0, pc0, A1, m1, d1, A2, m2, d2, rfl, (by have h := JP.out; rw [List.take_of_length_le (by rw [h.1]; omega)]; exact h.put2r (Nat.le_refl _) (by omega) HLOW.out), two_rows P0.out P1.out (by omega) T1.out (by omega) (by omega) J1.out J2.out⟩
        · skip
          go_simp
          refine hK _ _ ?_
          clear hK K
          refine wpAny_ready (rs := [5]) (by kernel_rfl) (by simp) ?_
          refine AllReady.cons rfl (fun K hK => ?_) AllReady.nil
          go_simp
          refine hK _ _ ?_
          clear hK K
          refine wpAny_ready (rs := [6]) (by kernel_rfl) (by simp) ?_
          refine AllReady.cons rfl (fun K hK => ?_) AllReady.nil
          go_simp
          go_at_call_of 8 (Value.agg #[.int .i64 na, .slice A l1 c1]); refine (few_any na A l1 c1 s1 us _ (by exact H1.out)).mono ?_; rintro e1 x1 ⟨A1, m1, d1, rfl, hw1, hb1⟩; have P0 := Lib.hid (Q0.out.drew.keep hb1); have P1 := Lib.hid (Q1.out.drew.keep hb1); have J2 := Lib.hid (H2.out.drew.below hb1); have T1 := Lib.hid (chain HW.out.drew hb1); have JP := Lib.hid (HP0.out.drew.below hb1); have hw1 := Lib.hid hw1; clear hb1; obtain ⟨k0, k1, -, -⟩ := P1.out.two
          go_wp2_with fail
          refine wpAny_ready (rs := [8]) (by kernel_rfl) (by simp) ?_
          refine AllReady.cons rfl (fun K hK => ?_) AllReady.nil
          go_simp
          go_at_call_of 8 (Value.agg #[.int .i64 nb, .slice B l2 c2]); refine (few_any nb B l2 c2 s2 vs _ (by exact J2.out)).mono ?_; rintro e2 x2 ⟨A2, m2, d2, rfl, hw2, hb2⟩; have P0 := Lib.hid (P0.out.keep hb2); have P1 := Lib.hid (P1.out.keep hb2); have J1 := Lib.hid (hw1.out.below hb2); have J2 := Lib.hid hw2; have T1 := Lib.hid (chain T1.out hb2); have JP := Lib.hid (JP.out.below hb2); clear hb2 hw2; obtain ⟨k6, k7, f0, f1⟩ := P0.out.two; obtain ⟨k8, k9, f2, f3⟩ := P1.out.two
          go_wp2_with fail
          refine wpAny_take (i := 9) (v := ?_) rfl (by kernel_rfl) (by kernel_rfl) (by kernel_rfl) (fun _ _ _ h => h) (Or.inl ⟨by rfl, ?hy16⟩) ?rest16
          case hy16 => intro w; go_simp; try (with_reducible rfl)
          case rest16 =>
          refine wpAny_ready (rs := [10]) (by kernel_rfl) (by simp) ?_
          refine AllReady.cons rfl (fun K hK => ?_) AllReady.nil
          go_simp
          refine hK _ _ ?_
          clear hK K
          refine wpAny_ready (rs := [11]) (by kernel_rfl) (by simp) ?_
          refine AllReady.cons rfl (fun K hK => ?_) AllReady.nil
          go_simp
          refine hK _ _ ?_
          clear hK K
          refine wpAny_done (by kernel_rfl) ?_ _
          go_wp2_with fail
          go_meet
          exact ⟨some ad, pl0, pc0, A1, m1, d1, A2, m2, d2, rfl, (by have h := JP.out; rw [List.take_of_length_le (by rw [h.1]; omega)]; exact h.put2r (Nat.le_refl _) (by omega) HLOW.out), two_rows P0.out P1.out (by omega) T1.out (by omega) (by omega) J1.out J2.out⟩
      · have g1 : (40 : Int) < pl0 := by omega
        have g3 : (40 : Int) ≤ pc0 := by omega
        refine wp_region_any (by kernel_rfl) ?_
        try (change wpAny _ _ _ _ _ _ _ (World.drew _))
        refine wpAny_take (i := 0) (v := ?_) rfl (by kernel_rfl) (by kernel_rfl) (by kernel_rfl) (fun _ _ _ h => h) (Or.inl ⟨by rfl, ?hy17⟩) ?rest17
        case hy17 => intro w; go_simp; try (with_reducible rfl)
        case rest17 =>
        refine wpAny_take (i := 1) (v := ?_) rfl (by kernel_rfl) (by kernel_rfl) (by kernel_rfl) (fun _ _ _ h => h) (Or.inl ⟨by rfl, ?hy18⟩) ?rest18
        case hy18 => intro w; go_simp; try (with_reducible rfl)
        case rest18 =>
        refine wpAny_take (i := 2) (v := ?_) rfl (by kernel_rfl) (by kernel_rfl) (by kernel_rfl) (fun _ _ _ h => h) (Or.inl ⟨by rfl, ?hy19⟩) ?rest19
        case hy19 => intro w; go_simp; try (with_reducible rfl)
        case rest19 =>
        refine wpAny_take (i := 3) (v := ?_) rfl (by kernel_rfl) (by kernel_rfl) (by kernel_rfl) (fun _ _ _ h => h) (Or.inl ⟨by rfl, ?hy20⟩) ?rest20
        case hy20 => intro w; go_simp; try (with_reducible rfl)
        case rest20 =>
        refine wpAny_take (i := 4) (v := ?_) rfl (by kernel_rfl) (by kernel_rfl) (by kernel_rfl) (fun _ _ _ h => h) (Or.inl ⟨by rfl, ?hy21⟩) ?rest21
        case hy21 => intro w; go_simp; try (with_reducible rfl)
        case rest21 =>
        refine wpAny_ready (rs := [5, 7]) (by kernel_rfl) (by simp) ?_
        refine AllReady.cons rfl (fun K hK => ?_) (AllReady.cons rfl (fun K hK => ?_) AllReady.nil)
        · skip
          go_simp
          refine hK _ _ ?_
          clear hK K
          refine wpAny_ready (rs := [6, 7]) (by kernel_rfl) (by simp) ?_
          refine AllReady.cons rfl (fun K hK => ?_) (AllReady.cons rfl (fun K hK => ?_) AllReady.nil)
          · skip
            go_simp
            go_at_call_of 8 (Value.agg #[.int .i64 na, .slice A l1 c1]); refine (few_any na A l1 c1 s1 us _ (by exact H1.out)).mono ?_; rintro e1 x1 ⟨A1, m1, d1, rfl, hw1, hb1⟩; have P0 := Lib.hid (Q0.out.drew.keep hb1); have P1 := Lib.hid (Q1.out.drew.keep hb1); have J2 := Lib.hid (H2.out.drew.below hb1); have T1 := Lib.hid (chain HW.out.drew hb1); have JP := Lib.hid (HP0.out.drew.below hb1); have hw1 := Lib.hid hw1; clear hb1; obtain ⟨k0, k1, -, -⟩ := P1.out.two
            go_wp2_with fail
            refine wpAny_ready (rs := [7]) (by kernel_rfl) (by simp) ?_
            refine AllReady.cons rfl (fun K hK => ?_) AllReady.nil
            go_simp
            refine hK _ _ ?_
            clear hK K
            refine wpAny_ready (rs := [8]) (by kernel_rfl) (by simp) ?_
            refine AllReady.cons rfl (fun K hK => ?_) AllReady.nil
            go_simp
            go_at_call_of 8 (Value.agg #[.int .i64 nb, .slice B l2 c2]); refine (few_any nb B l2 c2 s2 vs _ (by exact J2.out)).mono ?_; rintro e2 x2 ⟨A2, m2, d2, rfl, hw2, hb2⟩; have P0 := Lib.hid (P0.out.keep hb2); have P1 := Lib.hid (P1.out.keep hb2); have J1 := Lib.hid (hw1.out.below hb2); have J2 := Lib.hid hw2; have T1 := Lib.hid (chain T1.out hb2); have JP := Lib.hid (JP.out.below hb2); clear hb2 hw2; obtain ⟨k6, k7, f0, f1⟩ := P0.out.two; obtain ⟨k8, k9, f2, f3⟩ := P1.out.two
            go_wp2_with fail
            refine wpAny_take (i := 9) (v := ?_) rfl (by kernel_rfl) (by kernel_rfl) (by kernel_rfl) (fun _ _ _ h => h) (Or.inl ⟨by rfl, ?hy22⟩) ?rest22
            case hy22 => intro w; go_simp; try (with_reducible rfl)
            case rest22 =>
            refine wpAny_ready (rs := [10]) (by kernel_rfl) (by simp) ?_
            refine AllReady.cons rfl (fun K hK => ?_) AllReady.nil
            go_simp
            refine hK _ _ ?_
            clear hK K
            refine wpAny_ready (rs := [11]) (by kernel_rfl) (by simp) ?_
            refine AllReady.cons rfl (fun K hK => ?_) AllReady.nil
            go_simp
            refine hK _ _ ?_
            clear hK K
            refine wpAny_done (by kernel_rfl) ?_ _
            go_wp2_with fail
            go_meet
            exact ⟨some ad, 40, pc0, A1, m1, d1, A2, m2, d2, rfl, ((JP.out.take 40 (by omega)).put2r (Nat.le_refl _) (by omega) (fun _ => HLOW.out (by omega))), two_rows P0.out P1.out (by omega) T1.out (by omega) (by omega) J1.out J2.out⟩
          · skip
            go_simp
            refine hK _ _ ?_
            clear hK K
            refine wpAny_ready (rs := [6]) (by kernel_rfl) (by simp) ?_
            refine AllReady.cons rfl (fun K hK => ?_) AllReady.nil
            go_simp
            go_at_call_of 8 (Value.agg #[.int .i64 na, .slice A l1 c1]); refine (few_any na A l1 c1 s1 us _ (by exact H1.out)).mono ?_; rintro e1 x1 ⟨A1, m1, d1, rfl, hw1, hb1⟩; have P0 := Lib.hid (Q0.out.drew.keep hb1); have P1 := Lib.hid (Q1.out.drew.keep hb1); have J2 := Lib.hid (H2.out.drew.below hb1); have T1 := Lib.hid (chain HW.out.drew hb1); have JP := Lib.hid (HP0.out.drew.below hb1); have hw1 := Lib.hid hw1; clear hb1; obtain ⟨k0, k1, -, -⟩ := P1.out.two
            go_wp2_with fail
            refine wpAny_ready (rs := [8]) (by kernel_rfl) (by simp) ?_
            refine AllReady.cons rfl (fun K hK => ?_) AllReady.nil
            go_simp
            go_at_call_of 8 (Value.agg #[.int .i64 nb, .slice B l2 c2]); refine (few_any nb B l2 c2 s2 vs _ (by exact J2.out)).mono ?_; rintro e2 x2 ⟨A2, m2, d2, rfl, hw2, hb2⟩; have P0 := Lib.hid (P0.out.keep hb2); have P1 := Lib.hid (P1.out.keep hb2); have J1 := Lib.hid (hw1.out.below hb2); have J2 := Lib.hid hw2; have T1 := Lib.hid (chain T1.out hb2); have JP := Lib.hid (JP.out.below hb2); clear hb2 hw2; obtain ⟨k6, k7, f0, f1⟩ := P0.out.two; obtain ⟨k8, k9, f2, f3⟩ := P1.out.two
            go_wp2_with fail
            refine wpAny_take (i := 9) (v := ?_) rfl (by kernel_rfl) (by kernel_rfl) (by kernel_rfl) (fun _ _ _ h => h) (Or.inl ⟨by rfl, ?hy23⟩) ?rest23
            case hy23 => intro w; go_simp; try (with_reducible rfl)
            case rest23 =>
            refine wpAny_ready (rs := [10]) (by kernel_rfl) (by simp) ?_
            refine AllReady.cons rfl (fun K hK => ?_) AllReady.nil
            go_simp
            refine hK _ _ ?_
            clear hK K
            refine wpAny_ready (rs := [11]) (by kernel_rfl) (by simp) ?_
            refine AllReady.cons rfl (fun K hK => ?_) AllReady.nil
            go_simp
            refine hK _ _ ?_
            clear hK K
            refine wpAny_done (by kernel_rfl) ?_ _
            go_wp2_with fail
            go_meet
            exact ⟨some ad, 40, pc0, A1, m1, d1, A2, m2, d2, rfl, ((JP.out.take 40 (by omega)).put2r (Nat.le_refl _) (by omega) (fun _ => HLOW.out (by omega))), two_rows P0.out P1.out (by omega) T1.out (by omega) (by omega) J1.out J2.out⟩
        · skip
          go_simp
          refine hK _ _ ?_
          clear hK K
          refine wpAny_ready (rs := [5]) (by kernel_rfl) (by simp) ?_
          refine AllReady.cons rfl (fun K hK => ?_) AllReady.nil
          go_simp
          refine hK _ _ ?_
          clear hK K
          refine wpAny_ready (rs := [6]) (by kernel_rfl) (by simp) ?_
          refine AllReady.cons rfl (fun K hK => ?_) AllReady.nil
          go_simp
          go_at_call_of 8 (Value.agg #[.int .i64 na, .slice A l1 c1]); refine (few_any na A l1 c1 s1 us _ (by exact H1.out)).mono ?_; rintro e1 x1 ⟨A1, m1, d1, rfl, hw1, hb1⟩; have P0 := Lib.hid (Q0.out.drew.keep hb1); have P1 := Lib.hid (Q1.out.drew.keep hb1); have J2 := Lib.hid (H2.out.drew.below hb1); have T1 := Lib.hid (chain HW.out.drew hb1); have JP := Lib.hid (HP0.out.drew.below hb1); have hw1 := Lib.hid hw1; clear hb1; obtain ⟨k0, k1, -, -⟩ := P1.out.two
          go_wp2_with fail
          refine wpAny_ready (rs := [8]) (by kernel_rfl) (by simp) ?_
          refine AllReady.cons rfl (fun K hK => ?_) AllReady.nil
          go_simp
          go_at_call_of 8 (Value.agg #[.int .i64 nb, .slice B l2 c2]); refine (few_any nb B l2 c2 s2 vs _ (by exact J2.out)).mono ?_; rintro e2 x2 ⟨A2, m2, d2, rfl, hw2, hb2⟩; have P0 := Lib.hid (P0.out.keep hb2); have P1 := Lib.hid (P1.out.keep hb2); have J1 := Lib.hid (hw1.out.below hb2); have J2 := Lib.hid hw2; have T1 := Lib.hid (chain T1.out hb2); have JP := Lib.hid (JP.out.below hb2); clear hb2 hw2; obtain ⟨k6, k7, f0, f1⟩ := P0.out.two; obtain ⟨k8, k9, f2, f3⟩ := P1.out.two
          go_wp2_with fail
          refine wpAny_take (i := 9) (v := ?_) rfl (by kernel_rfl) (by kernel_rfl) (by kernel_rfl) (fun _ _ _ h => h) (Or.inl ⟨by rfl, ?hy24⟩) ?rest24
          case hy24 => intro w; go_simp; try (with_reducible rfl)
          case rest24 =>
          refine wpAny_ready (rs := [10]) (by kernel_rfl) (by simp) ?_
          refine AllReady.cons rfl (fun K hK => ?_) AllReady.nil
          go_simp
          refine hK _ _ ?_
          clear hK K
          refine wpAny_ready (rs := [11]) (by kernel_rfl) (by simp) ?_
          refine AllReady.cons rfl (fun K hK => ?_) AllReady.nil
          go_simp
          refine hK _ _ ?_
          clear hK K
          refine wpAny_done (by kernel_rfl) ?_ _
          go_wp2_with fail
          go_meet
          exact ⟨some ad, 40, pc0, A1, m1, d1, A2, m2, d2, rfl, ((JP.out.take 40 (by omega)).put2r (Nat.le_refl _) (by omega) (fun _ => HLOW.out (by omega))), two_rows P0.out P1.out (by omega) T1.out (by omega) (by omega) J1.out J2.out⟩
  case rest =>
    obtain ⟨Pp, pl, pc, A, l, c, B, k, d, rfl, HP, Ka, Kb, Ja, Jb, KB⟩ := hcut
    clear H1 H2 Q0 Q1 HW a0 a1 b0 b1 s1 s2 s0 HP0 HLOW
    have hl : l ≤ 10 := by have := Ja.1; simp at this; omega
    have hpl : pl ≤ 40 := by have := HP.1; simp at this; omega
    generalize us.take 10 = us at *
    generalize vs.take 10 = vs at *
    generalize zs.take 40 = zs at *
    have HP := Lib.hid HP
    have Qa := Lib.hid Ka
    have Qb := Lib.hid Kb
    have Ha := Lib.hid Ja
    have Hb := Lib.hid Jb
    have HB := Lib.hid KB
    clear Ka Kb Ja Jb KB
    go_wp2_with fail
    refine (new_any n _).mono ?_
    rintro e1 x1 ⟨A1, l1, c1, rfl, hw, hb⟩
    have Qa := Lib.hid (Qa.out.keep hb)
    have Ha := Lib.hid (Ha.out.below hb)
    have Qb := Lib.hid (Qb.out.keep hb)
    have Hb := Lib.hid (Hb.out.below hb)
    have HP := Lib.hid (HP.out.below hb)
    have HB := Lib.hid (chain HB.out hb)
    have Hr := Lib.hid hw
    clear hw hb
    go_wp2_with fail
    refine (of_any n Pp pl pc zs _ (HP.out.below ((Below.refl _ _).alloc (Nat.le_refl _) _)) (by omega)).mono ?_
    rintro e2 x2 ⟨A2, l2, c2, rfl, hw, hb⟩
    have Qa := Lib.hid ((Qa.out.alloc _).keep hb)
    have Ha := Lib.hid ((Ha.out.alloc _).below hb)
    have Qb := Lib.hid ((Qb.out.alloc _).keep hb)
    have Hb := Lib.hid ((Hb.out.alloc _).below hb)
    have Qr := Lib.hid ((Box.new x1 25 #[.int .i64 (newN n), .slice A1 l1 c1]).keep hb)
    have Hr := Lib.hid ((Hr.out.alloc _).below hb)
    have HP := Lib.hid ((HP.out.below ((Below.refl _ _).alloc (Nat.le_refl _) _)).below hb)
    have HB := Lib.hid (chain (HB.out.alloc HB.out.size _) hb)
    have Hs := Lib.hid hw
    clear hw hb
    go_wp2_with fail
    have Qs := Lib.hid (Box.new x2 25 #[.int .i64 (ofN n zs), .slice A2 l2 c2])
    have Qa := Lib.hid (Qa.out.alloc (.cells #[.int .i64 (ofN n zs), .slice A2 l2 c2] 25))
    have Qb := Lib.hid (Qb.out.alloc (.cells #[.int .i64 (ofN n zs), .slice A2 l2 c2] 25))
    have Qr := Lib.hid (Qr.out.alloc (.cells #[.int .i64 (ofN n zs), .slice A2 l2 c2] 25))
    have Ha := Lib.hid (Ha.out.alloc (.cells #[.int .i64 (ofN n zs), .slice A2 l2 c2] 25))
    have Hb := Lib.hid (Hb.out.alloc (.cells #[.int .i64 (ofN n zs), .slice A2 l2 c2] 25))
    have Hr := Lib.hid (Hr.out.alloc (.cells #[.int .i64 (ofN n zs), .slice A2 l2 c2] 25))
    have Hs := Lib.hid (Hs.out.alloc (.cells #[.int .i64 (ofN n zs), .slice A2 l2 c2] 25))
    have HP := Lib.hid (HP.out.below ((Below.refl _ _).alloc (Nat.le_refl _) (.cells #[.int .i64 (ofN n zs), .slice A2 l2 c2] 25)))
    have HB := Lib.hid (HB.out.alloc HB.out.size (.cells #[.int .i64 (ofN n zs), .slice A2 l2 c2] 25))
    generalize x2.alloc (.cells #[.int .i64 (ofN n zs), .slice A2 l2 c2] 25) = W2 at *
    obtain ⟨p0, p1, -, -⟩ := Qa.out.two
    obtain ⟨q0, q1, -, -⟩ := Qb.out.two
    have tR : (rightB na us != rightB na us) = false := by simp
    have tS : (sameB na us nb vs != sameB na us nb vs) = false := by simp
    have SA : sameB na us na us = true := by simp [sameB]
    have HSA := Lib.hid SA
    have Hla := Lib.hid (show l ≤ 1000000 from by omega)
    clear SA
    go_cut [56] (fun s56 wx => s56 = .bool false ∧ Below W2.heap.size W2 wx)
    case first =>
      have tok1 : True := trivial
      go_region_held3 (fun w' => w'.cell? ⟨w.heap.size, 0, none⟩ = some (.int .i64 na) ∧ w'.cell? ⟨w.heap.size, 1, none⟩ = some (.slice A l c) ∧ w'.cell? ⟨w.heap.size + 1, 0, none⟩ = some (.int .i64 nb) ∧ w'.cell? ⟨w.heap.size + 1, 1, none⟩ = some (.slice B k d)) (go_keep)
        (first
          | (go_at_call 11; refine (right_any na A l c us _ Ha.out.drew).mono ?_; rintro f1 y1 ⟨rfl, hb⟩; have Qa1 := Lib.hid (Qa.out.drew.keep hb); have Ha1 := Lib.hid (Ha.out.drew.below hb); have Qb1 := Lib.hid (Qb.out.drew.keep hb); have Hb1 := Lib.hid (Hb.out.drew.below hb); have HZ1 := Lib.hid (chain (Below.refl W2.heap.size W2).drew hb); clear hb; obtain ⟨t1a0, t1a1, -, -⟩ := Qa1.out.two; obtain ⟨t1b0, t1b1, -, -⟩ := Qb1.out.two)
          | (go_at_call 12; refine (refRight_any na A l c us _ Ha1.out).mono ?_; rintro f2 y2 ⟨rfl, hb⟩; have Qa2 := Lib.hid (Qa1.out.keep hb); have Ha2 := Lib.hid (Ha1.out.below hb); have Qb2 := Lib.hid (Qb1.out.keep hb); have Hb2 := Lib.hid (Hb1.out.below hb); have HZ2 := Lib.hid (chain HZ1.out hb); clear hb; obtain ⟨t2a0, t2a1, -, -⟩ := Qa2.out.two; obtain ⟨t2b0, t2b1, -, -⟩ := Qb2.out.two)
          | (go_at_call 13; have _t := tok1; refine (like_any na nb A B l c k d us vs _ Ha2.out Hb2.out Hla.out).mono ?_; rintro f3 y3 ⟨rfl, hb⟩; have Qa3 := Lib.hid (Qa2.out.keep hb); have Ha3 := Lib.hid (Ha2.out.below hb); have Qb3 := Lib.hid (Qb2.out.keep hb); have Hb3 := Lib.hid (Hb2.out.below hb); have HZ3 := Lib.hid (chain HZ2.out hb); clear hb tok1; obtain ⟨t3a0, t3a1, -, -⟩ := Qa3.out.two; obtain ⟨t3b0, t3b1, -, -⟩ := Qb3.out.two)
          | (go_at_call 14; refine (same_any na nb A B l c k d us vs _ Ha3.out Hb3.out Hla.out).mono ?_; rintro f4 y4 ⟨rfl, hb⟩; have Qa4 := Lib.hid (Qa3.out.keep hb); have Ha4 := Lib.hid (Ha3.out.below hb); have Qb4 := Lib.hid (Qb3.out.keep hb); have Hb4 := Lib.hid (Hb3.out.below hb); have HZ4 := Lib.hid (chain HZ3.out hb); clear hb; obtain ⟨t4a0, t4a1, -, -⟩ := Qa4.out.two; obtain ⟨t4b0, t4b1, -, -⟩ := Qb4.out.two)
          | (go_at_call 13; refine (like_any na na A A l c l c us us _ Ha4.out Ha4.out Hla.out).mono ?_; rintro f5 y5 ⟨rfl, hb⟩; have Qa5 := Lib.hid (Qa4.out.keep hb); have Ha5 := Lib.hid (Ha4.out.below hb); have Qb5 := Lib.hid (Qb4.out.keep hb); have Hb5 := Lib.hid (Hb4.out.below hb); have HZ5 := Lib.hid (chain HZ4.out hb); rw [HSA.out]; clear hb; obtain ⟨t5a0, t5a1, -, -⟩ := Qa5.out.two; obtain ⟨t5b0, t5b1, -, -⟩ := Qb5.out.two)
          | (go_at_call 15; refine (alive1_any _).mono ?_; rintro f6 y6 ⟨rfl, hb⟩; have Qa6 := Lib.hid (Qa5.out.keep hb); have Ha6 := Lib.hid (Ha5.out.below hb); have Qb6 := Lib.hid (Qb5.out.keep hb); have Hb6 := Lib.hid (Hb5.out.below hb); have HZ6 := Lib.hid (chain HZ5.out hb); clear hb; obtain ⟨t6a0, t6a1, -, -⟩ := Qa6.out.two; obtain ⟨t6b0, t6b1, -, -⟩ := Qb6.out.two))
      go_wp2_with fail
      go_meet
      exact ⟨by simp, HZ6.out⟩
    case rest =>
      obtain ⟨rfl, hbz⟩ := hcut
      have Qr := Lib.hid (Qr.out.keep hbz)
      have Hr := Lib.hid (Hr.out.below hbz)
      have Qs := Lib.hid (Qs.out.keep hbz)
      have Hs := Lib.hid (Hs.out.below hbz)
      have HP := Lib.hid (HP.out.below hbz)
      have HB := Lib.hid (chain HB.out hbz)
      clear hbz tR tS p0 p1 q0 q1 HSA Hla Qa Qb Ha Hb
      cases hlm : lmb n with
      | false =>
        have hn := (lmb_no n).1 hlm
        have eE : newE n = 2 := by unfold newE; rw [hlm]; rfl
        have eF : ofE n zs = 2 := by unfold ofE; rw [hlm]; rfl
        have HNr : Hid (newN n = 0 ∧ newW n = []) := by show _ ∧ _; unfold newN newW; rw [hlm]; exact ⟨rfl, rfl⟩
        have HNs : Hid (ofN n zs = 0 ∧ ofW n zs = []) := by show _ ∧ _; unfold ofN ofW; rw [hlm]; exact ⟨rfl, rfl⟩
        clear hlm
        by_cases h0 : n < 0
        · have t : decide (n < 0) = true := by simpa using h0
          obtain ⟨y0, y1, -, -⟩ := Qr.out.two
          go_wp2_with fail
          refine (same_any _ 0 A1 none l1 c1 0 0 _ [] _ Hr.out (Words.nil _ _) (by have := Hr.out.1; rw [HNr.out.2] at this; simp at this; omega)).mono ?_
          rintro g1 z1 ⟨rfl, hb⟩
          clear y0 y1
          rw [HNr.out.1, HNr.out.2, show sameB 0 [] 0 [] = true from rfl]
          have Qs := Lib.hid (Qs.out.keep hb)
          have Hs := Lib.hid (Hs.out.below hb)
          have HB := Lib.hid (chain HB.out hb)
          clear hb
          obtain ⟨y0, y1, -, -⟩ := Qs.out.two
          go_wp2_with fail
          refine (same_any _ 0 A2 none l2 c2 0 0 _ [] _ Hs.out (Words.nil _ _) (by have := Hs.out.1; rw [HNs.out.2] at this; simp at this; omega)).mono ?_
          rintro g2 z2 ⟨rfl, hb⟩
          clear y0 y1
          rw [HNs.out.1, HNs.out.2, show sameB 0 [] 0 [] = true from rfl]
          have HB := Lib.hid (chain HB.out hb)
          clear hb
          go_wp2
          go_ret
          exact ⟨by simp, HB.out⟩
        · have t : decide (n < 0) = false := by simpa using h0
          have t2 : decide (512 < n) = true := by simp; omega
          obtain ⟨y0, y1, -, -⟩ := Qr.out.two
          go_wp2_with fail
          refine (same_any _ 0 A1 none l1 c1 0 0 _ [] _ Hr.out (Words.nil _ _) (by have := Hr.out.1; rw [HNr.out.2] at this; simp at this; omega)).mono ?_
          rintro g1 z1 ⟨rfl, hb⟩
          clear y0 y1
          rw [HNr.out.1, HNr.out.2, show sameB 0 [] 0 [] = true from rfl]
          have Qs := Lib.hid (Qs.out.keep hb)
          have Hs := Lib.hid (Hs.out.below hb)
          have HB := Lib.hid (chain HB.out hb)
          clear hb
          obtain ⟨y0, y1, -, -⟩ := Qs.out.two
          go_wp2_with fail
          refine (same_any _ 0 A2 none l2 c2 0 0 _ [] _ Hs.out (Words.nil _ _) (by have := Hs.out.1; rw [HNs.out.2] at this; simp at this; omega)).mono ?_
          rintro g2 z2 ⟨rfl, hb⟩
          clear y0 y1
          rw [HNs.out.1, HNs.out.2, show sameB 0 [] 0 [] = true from rfl]
          have HB := Lib.hid (chain HB.out hb)
          clear hb
          go_wp2
          go_ret
          exact ⟨by simp, HB.out⟩
      | true =>
        have hn := (lmb_iff n).1 hlm
        obtain ⟨N, hN⟩ := Int.eq_ofNat_of_zero_le hn.1
        have t : decide (n < 0) = false := by simp; omega
        have t2 : decide (512 < n) = false := by simp; omega
        have eE : newE n = 0 := by unfold newE; rw [hlm]; rfl
        have tE : (newE n != 0) = false := by simp [eE]
        clear eE
        have HNr : Hid (newN n = n ∧ newW n = ofBits N []) := by show _ ∧ _; unfold newN newW; rw [hlm, hN]; exact ⟨rfl, rfl⟩
        have Qr := Lib.hid (show Box _ _ _ _ by have h := Qr.out; rw [HNr.out.1] at h; exact h)
        have Hr := Lib.hid (show Words _ _ _ _ by have h := Hr.out; rw [HNr.out.2] at h; exact h)
        have HN := Lib.hid hN
        have HLM := Lib.hid hlm
        clear hN hlm HNr
        have hl1 := Lib.hid (show l1 ≤ 1000000 from by have := Hr.out.1; rw [ofBits_len] at this; unfold nw at this; have := HN.out; omega)
        obtain ⟨r0, r1, -, -⟩ := Qr.out.two
        go_upto_region 8 with (fail)
        go_cut [87] (fun s87 wx => s87 = .bool false ∧ Below wc.heap.size wc wx)
        case first =>
          have hOf := Lib.hid (fun W => refOf_any N none 0 0 [] W (Ints.nil _ _) (by omega) (by have := HN.out; omega) rfl)
          rw [← HN.out] at hOf
          have SX : Hid (sameB n (ofBits N []) n (ofBits N []) = true) := by show _ = _; simp [sameB]
          go_region_held3 (fun w' => w'.cell? ⟨x1.heap.size, 0, none⟩ = some (.int .i64 n) ∧ w'.cell? ⟨x1.heap.size, 1, none⟩ = some (.slice A1 l1 c1)) (go_keep)
            (first
              | (go_at_call 16; refine (hOf.out _).mono ?_; rintro f1 y1 ⟨A3, l3, c3, rfl, hw3, hb⟩; have Qr1 := Lib.hid (Qr.out.drew.keep hb); have Hr1 := Lib.hid (Hr.out.drew.below hb); have HZ1 := Lib.hid (chain (Below.refl wc.heap.size wc).drew hb); have Hu := Lib.hid hw3; clear hb hw3; obtain ⟨u0, u1, -, -⟩ := Qr1.out.two)
              | (go_at_call 14; refine (same_any n n A1 A3 l1 c1 l3 c3 _ _ _ Hr1.out Hu.out hl1.out).mono ?_; rintro f2 y2 ⟨rfl, hb⟩; rw [SX.out]; have Qr2 := Lib.hid (Qr1.out.keep hb); have HZ2 := Lib.hid (chain HZ1.out hb); clear hb; obtain ⟨v0, v1, -, -⟩ := Qr2.out.two))
          go_wp2_with fail
          go_meet
          exact ⟨by simp, HZ2.out⟩
        case rest =>
          obtain ⟨rfl, hbz⟩ := hcut
          have Qs := Lib.hid (Qs.out.keep hbz)
          have Hs := Lib.hid (Hs.out.below hbz)
          have HP := Lib.hid (HP.out.below hbz)
          have HB := Lib.hid (chain HB.out hbz)
          clear hbz r0 r1 tE t t2
          go_wp2_with fail
          refine (there_any Pp pl pc zs n _ HP.out (by omega)).mono ?_
          rintro g1 w' ⟨rfl, rfl⟩
          cases hth : there n zs with
          | false =>
            have eF : ofE n zs = 3 := by unfold ofE; rw [HLM.out, hth]; rfl
            have HNs : Hid (ofN n zs = 0 ∧ ofW n zs = []) := by show _ ∧ _; unfold ofN ofW; rw [HLM.out, hth]; exact ⟨rfl, rfl⟩
            clear hth
            obtain ⟨y0, y1, -, -⟩ := Qs.out.two
            go_wp2_with fail
            refine (same_any _ 0 A2 none l2 c2 0 0 _ [] _ Hs.out (Words.nil _ _) (by have := Hs.out.1; rw [HNs.out.2] at this; simp at this; omega)).mono ?_
            rintro g2 z2 ⟨rfl, hb⟩
            clear y0 y1
            rw [HNs.out.1, HNs.out.2, show sameB 0 [] 0 [] = true from rfl]
            have HB := Lib.hid (chain HB.out hb)
            clear hb
            go_wp2
            go_ret
            exact ⟨by simp, HB.out⟩
          | true =>
            have eF : ofE n zs = 0 := by unfold ofE; rw [HLM.out, hth]; rfl
            have HNs : Hid (ofN n zs = n ∧ ofW n zs = ofBits N zs) := by show _ ∧ _; unfold ofN ofW; rw [HLM.out, hth, HN.out]; exact ⟨rfl, rfl⟩
            have Qs := Lib.hid (show Box _ _ _ _ by have h := Qs.out; rw [HNs.out.1] at h; exact h)
            have Hs := Lib.hid (show Words _ _ _ _ by have h := Hs.out; rw [HNs.out.2] at h; exact h)
            have hOf := Lib.hid (fun W h => refOf_any N Pp pl pc zs W h (by omega) (by have := HN.out; omega) (by rw [← HN.out]; exact hth))
            rw [← HN.out] at hOf
            have SX : Hid (sameB n (ofBits N zs) n (ofBits N zs) = true) := by show _ = _; simp [sameB]
            have hl2 := Lib.hid (show l2 ≤ 1000000 from by have := Hs.out.1; rw [ofBits_len] at this; unfold nw at this; have := HN.out; omega)
            clear hth HNs
            obtain ⟨r0, r1, -, -⟩ := Qs.out.two
            go_wp2_with fail
            go_region_held3 (fun w' => w'.cell? ⟨x2.heap.size, 0, none⟩ = some (.int .i64 n) ∧ w'.cell? ⟨x2.heap.size, 1, none⟩ = some (.slice A2 l2 c2)) (go_keep)
              (first
                | (go_at_call 16; refine (hOf.out _ (by exact HP.out)).mono ?_; rintro f1 y1 ⟨A3, l3, c3, rfl, hw3, hb⟩; have Qs1 := Lib.hid (Qs.out.drew.keep hb); have Hs1 := Lib.hid (Hs.out.drew.below hb); have HB1 := Lib.hid (chain HB.out.drew hb); have Hu := Lib.hid hw3; clear hb hw3; obtain ⟨u0, u1, -, -⟩ := Qs1.out.two)
                | (go_at_call 14; refine (same_any n n A2 A3 l2 c2 l3 c3 _ _ _ Hs1.out Hu.out hl2.out).mono ?_; rintro f2 y2 ⟨rfl, hb⟩; rw [SX.out]; have Qs2 := Lib.hid (Qs1.out.keep hb); have HB2 := Lib.hid (chain HB1.out hb); clear hb; obtain ⟨v0, v1, -, -⟩ := Qs2.out.two))
            go_wp2
            go_ret
            exact ⟨by simp, HB2.out⟩
end Go.Proofs.Ytfeaollpeaphlaa
