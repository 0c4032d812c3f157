/- BlockOrder: the walk. -/
import Derived.Test.YtfeaollpeaphlaaDoorPkX
import Derived.Test.YtfeaollpeaphlaaDoorGTail
import Derived.Test.YtfeaollpeaphlaaDoorBorderM
import Derived.Test.YtfeaollpeaphlaaDoorApS
namespace Go.Proofs.YtfeaollpeaphlaaDoor
set_option linter.unusedVariables false
set_option linter.unusedSimpArgs false
open Go.RowKit
theorem two_cells {x : World} {g1 g2 : Nat} {t : TypeId} {i1 i2 : Int} {S1 S2 T1 T2 : Option Addr} {p1 q1 p2 q2 l1 c1 l2 c2 : Nat}
    (h1 : Box x g1 t #[.int .i64 i1, .slice S1 p1 q1]) (h2 : Box x g2 t #[.int .i64 i2, .slice S2 p2 q2]) (n12 : g1 ≠ g2)
    {w : World} (hb : Below w.heap.size w x) (b1 : w.heap.size ≤ g1) (b2 : w.heap.size ≤ g2) {A : Option Addr} {len : Nat} {ss : List ByteArray} (ht : Texts x A len ss) :
    let y := (x.setCell ⟨g1, 1, none⟩ (.slice T1 l1 c1)).setCell ⟨g2, 1, none⟩ (.slice T2 l2 c2)
    Texts y A len ss ∧ Box y g1 t #[.int .i64 i1, .slice T1 l1 c1] ∧ Box y g2 t #[.int .i64 i2, .slice T2 l2 c2] ∧ Below w.heap.size w y := by
  have k1 : Box (x.setCell ⟨g1, 1, none⟩ (.slice T1 l1 c1)) g1 t #[.int .i64 i1, .slice T1 l1 c1] := h1.put 1 _
  have k2 := h2.far (p := ⟨g1, 1, none⟩) n12.symm (.slice T1 l1 c1)
  have u1 := ht.far h1 1 (.slice T1 l1 c1)
  exact ⟨u1.far k2 1 _, k1.far (p := ⟨g2, 1, none⟩) n12 _, k2.put 1 _, (hb.setCell (p := ⟨g1, 1, none⟩) b1 _).setCell (p := ⟨g2, 1, none⟩) b2 _⟩
theorem remN (a : Int) (n : Nat) (hn : 0 < n) : ∃ r : Int, a.tmod (n : Int) = r ∧ -(n : Int) < r ∧ r < n := by
  refine ⟨_, rfl, ?_, ?_⟩
  · have := Int.lt_tmod_of_pos a (b := (n : Int)) (by omega); omega
  · have := Int.tmod_lt_of_pos a (b := (n : Int)) (by omega); omega
theorem pair_ok (n : Nat) (a b : List UInt8) (ha : a.length = n) (hb : b.length = n) (hn : n ≤ 64) : sumS (ByteArray.size ⟨a.toArray⟩) [⟨a.toArray⟩, ⟨b.toArray⟩] = ⟨(sumL n [⟨a.toArray⟩, ⟨b.toArray⟩]).toArray⟩ ∧ sumE (ByteArray.size ⟨a.toArray⟩) [⟨a.toArray⟩, ⟨b.toArray⟩] = 0 := by
  have e1 : ByteArray.size ⟨a.toArray⟩ = n := by show a.toArray.size = n; simpa using ha
  have e2 : ByteArray.size ⟨b.toArray⟩ = n := by show b.toArray.size = n; simpa using hb
  have hok : okS n [⟨a.toArray⟩, ⟨b.toArray⟩] = true := by
    simp only [okS, allL, List.all_cons, List.all_nil, e1, e2, List.length_cons, List.length_nil, Bool.and_true, Bool.and_eq_true, beq_self_eq_true, decide_eq_true_eq, and_true, true_and]
    exact ⟨(smb_iff _).2 ⟨by omega, by omega⟩, by omega⟩
  rw [e1]
  exact ⟨by simp [sumS, hok], sumE_ok hok⟩
theorem pick_len (n : Nat) (ts : List ByteArray) (N : Int) (us : List Nat) (hok : okS n ts = true) (h : pickE n ts N us = 0) : (pickS n ts N us).size = n := by
  simp only [pickE, hok, if_true] at h
  have hr : (rightB N us && N == (ts.length : Int)) = true := by
    cases e : (rightB N us && N == (ts.length : Int)) with
    | true => rfl
    | false => rw [e] at h; cases h
  have hN : N = (ts.length : Int) := by simp only [Bool.and_eq_true, beq_iff_eq] at hr; exact hr.2
  have h2 := okS_picks hok us
  simp only [pickS, hok, hr, Bool.and_self, if_true, sumS]
  rw [hN, Int.toNat_natCast, h2, if_pos rfl]
  show (sumL n _).toArray.size = n
  rw [List.size_toArray, sumL_length]
set_option maxRecDepth 100000 in
set_option maxHeartbeats 8000000 in
theorem border_walk (n : Int) (A0 : Option Addr) (l0 c0 : Nat) (ss : List ByteArray) (N : Int) (Aw : Option Addr) (j0 dA : Nat) (us : List Nat) (M : Int) (Bw : Option Addr) (k0 dB : Nat) (vs : List Nat) (by0 : Int) (w : World)
    (s0 : SliceOk A0 l0 c0) (s1 : SliceOk Aw j0 dA) (s2 : SliceOk Bw k0 dB) (h0 : Texts w A0 l0 ss) (h1 : Words w Aw j0 us) (h2 : Words w Bw k0 vs) (hT : TabAt w 0) (hby : -9223372036854775808 ≤ by0 ∧ by0 ≤ 9223372036854775807) :
    Calls Tryd.prog 6 #[.int .i64 n, .slice A0 l0 c0, .agg #[.int .i64 N, .slice Aw j0 dA], .agg #[.int .i64 M, .slice Bw k0 dB], .int .i64 by0] w fun e w' => e = .returned (.bool true) ∧ Below w.heap.size w w' := by
  have hW : Below w.heap.size w ((w.alloc (.cells #[.int .i64 N, .slice Aw j0 dA] 24)).alloc (.cells #[.int .i64 M, .slice Bw k0 dB] 24)) := ((Below.refl _ _).alloc (Nat.le_refl _) _).alloc (by simp) _
  have q0 := (Box.new w 24 #[.int .i64 N, .slice Aw j0 dA]).alloc (.cells #[.int .i64 M, .slice Bw k0 dB] 24)
  have q1 := Box.new (w.alloc (.cells #[.int .i64 N, .slice Aw j0 dA] 24)) 24 #[.int .i64 M, .slice Bw k0 dB]
  simp only [World.size_alloc] at q1
  have Qa := Lib.hid q0
  have Qb := Lib.hid q1
  have HF := Lib.hid (fewT_any A0 l0 c0 ss _ (h0.below hW).drewT s0)
  have HW := Lib.hid hW
  have HU := Lib.hid h1
  have HV := Lib.hid h2
  have HT := Lib.hid hT
  have HS1 := Lib.hid s1
  have HS2 := Lib.hid s2
  obtain ⟨r0, r1, -, -⟩ := Qa.out.two
  obtain ⟨z0, z1, -, -⟩ := Qb.out.two
  clear hW h0 h1 h2 hT s0 s1 s2 q0 q1
  go_enter Tryd.func6, Tryd.ntmps6
  go_wp2_with fail
  generalize hWW : (w.alloc (.cells #[.int .i64 N, .slice Aw j0 dA] 24)).alloc (.cells #[.int .i64 M, .slice Bw k0 dB] 24) = W at *
  clear hWW
  go_cut [1] (fun v wx => ∃ A1 l1 c1 j1 k1, v = .slice A1 l1 c1 ∧ l1 ≤ c1 ∧ c1 ≤ maxLen ∧ Texts wx A1 l1 (cuts ss 66) ∧ Box wx w.heap.size 24 #[.int .i64 N, .slice Aw j1 dA] ∧ Box wx (w.heap.size + 1) 24 #[.int .i64 M, .slice Bw k1 dB] ∧ Words wx Aw j1 (us.take 10) ∧ Words wx Bw k1 (vs.take 10) ∧ Below w.heap.size w wx)
  case first =>
    obtain ⟨hs1, hs2, hs3⟩ := HS1.out
    obtain ⟨hv1, hv2, hv3⟩ := HS2.out
    unfold maxLen at hs2 hv2
    have HJ0 := Lib.hid (show ∀ (zs : List Nat) (k : Nat), zs.length = k → zs.take (min k 10) = zs.take 10 from fun zs k h => by rcases Nat.le_total k 10 with h2 | h2; (rw [Nat.min_eq_left h2, List.take_of_length_le (by omega), List.take_of_length_le (by omega)]); (rw [Nat.min_eq_right h2]))
    cases Aw with
    | none =>
      obtain ⟨rfl, rfl⟩ := hs3 rfl
      have hus : us = [] := List.length_eq_zero_iff.1 HU.out.1
      subst hus
      cases Bw with
      | none =>
        obtain ⟨rfl, rfl⟩ := hv3 rfl
        have hvs : vs = [] := List.length_eq_zero_iff.1 HV.out.1
        subst hvs
        refine wp_heldG_bar (Sa := (fun w' => w'.cell? ⟨w.heap.size, 1, none⟩ = some (.slice none 0 0))) (Sb := (fun w' => w'.cell? ⟨w.heap.size + 1, 1, none⟩ = some (.slice none 0 0))) 19 18 (by kernel_rfl) (by decide) ?_
        have hSa : (fun w' => w'.cell? ⟨w.heap.size, 1, none⟩ = some (.slice none 0 0)) W.drew := r1
        have hSb : (fun w' => w'.cell? ⟨w.heap.size + 1, 1, none⟩ = some (.slice none 0 0)) W.drew := z1
        refine headG_take (i := 0) (v := ?_) false rfl (by kernel_rfl) (fun _ _ _ h => h) (fun _ _ _ h => passed_ready h.1) (Or.inl ⟨by rfl, ?hy1⟩) ⟨hSb, fun _ => hSa⟩ ?rest1
        case hy1 => intro w hSw; obtain ⟨sw2, sw1⟩ := hSw; (try dsimp only at sw2); clear sw1; go_simp; try (with_reducible rfl)
        case rest1 =>
        try simp only [Act.put, List.setIfInBounds_toArray, List.set_cons_zero, List.set_cons_succ]
        refine headG_take (i := 2) (v := ?_) false rfl (by kernel_rfl) (fun _ _ _ h => h) (fun _ _ _ h => passed_ready h.1) (Or.inl ⟨by rfl, ?hy2⟩) ⟨hSb, fun _ => hSa⟩ ?rest2
        case hy2 => intro w hSw; obtain ⟨sw2, sw1⟩ := hSw; (try dsimp only at sw2); clear sw1; go_simp; try (with_reducible rfl)
        case rest2 =>
        try simp only [Act.put, List.setIfInBounds_toArray, List.set_cons_zero, List.set_cons_succ]
        refine headG_take (i := 3) (v := ?_) true rfl (by kernel_rfl) (fun _ _ _ h => h) (fun _ _ _ h => passed_ready h.1) (Or.inl ⟨by rfl, ?hy3⟩) ⟨hSb, fun _ => hSa⟩ ?rest3
        case hy3 => intro w hSw; obtain ⟨sw2, sw1⟩ := hSw; (try dsimp only at sw2); have sw1 := sw1 rfl; (try dsimp only at sw1); go_simp; try (with_reducible rfl)
        case rest3 =>
        try simp only [Act.put, List.setIfInBounds_toArray, List.set_cons_zero, List.set_cons_succ]
        refine headG_take (i := 4) (v := ?_) false rfl (by kernel_rfl) (fun _ _ _ h => h) (fun _ _ _ h => passed_ready h.1) (Or.inl ⟨by rfl, ?hy4⟩) ⟨hSb, fun _ => hSa⟩ ?rest4
        case hy4 => intro w hSw; obtain ⟨sw2, sw1⟩ := hSw; (try dsimp only at sw2); clear sw1; go_simp; try (with_reducible rfl)
        case rest4 =>
        try simp only [Act.put, List.setIfInBounds_toArray, List.set_cons_zero, List.set_cons_succ]
        refine headG_take (i := 5) (v := ?_) true rfl (by kernel_rfl) (fun _ _ _ h => h) (fun _ _ _ h => passed_ready h.1) (Or.inl ⟨by rfl, ?hy5⟩) ⟨hSb, fun _ => hSa⟩ ?rest5
        case hy5 => intro w hSw; obtain ⟨sw2, sw1⟩ := hSw; (try dsimp only at sw2); have sw1 := sw1 rfl; (try dsimp only at sw1); go_simp; try (with_reducible rfl)
        case rest5 =>
        try simp only [Act.put, List.setIfInBounds_toArray, List.set_cons_zero, List.set_cons_succ]
        refine headG_take (i := 6) (v := ?_) false rfl (by kernel_rfl) (fun _ _ _ h => h) (fun _ _ _ h => passed_ready h.1) (Or.inl ⟨by rfl, ?hy6⟩) ⟨hSb, fun _ => hSa⟩ ?rest6
        case hy6 => intro w hSw; obtain ⟨sw2, sw1⟩ := hSw; (try dsimp only at sw2); clear sw1; go_simp; try (with_reducible rfl)
        case rest6 =>
        try simp only [Act.put, List.setIfInBounds_toArray, List.set_cons_zero, List.set_cons_succ]
        refine headG_take (i := 7) (v := ?_) false rfl (by kernel_rfl) (fun _ _ _ h => h) (fun _ _ _ h => passed_ready h.1) (Or.inl ⟨by rfl, ?hy7⟩) ⟨hSb, fun _ => hSa⟩ ?rest7
        case hy7 => intro w hSw; obtain ⟨sw2, sw1⟩ := hSw; (try dsimp only at sw2); clear sw1; go_simp; try (with_reducible rfl)
        case rest7 =>
        try simp only [Act.put, List.setIfInBounds_toArray, List.set_cons_zero, List.set_cons_succ]
        refine headG_take (i := 8) (v := ?_) false rfl (by kernel_rfl) (fun _ _ _ h => h) (fun _ _ _ h => passed_ready h.1) (Or.inl ⟨by rfl, ?hy8⟩) ⟨hSb, fun _ => hSa⟩ ?rest8
        case hy8 => intro w hSw; obtain ⟨sw2, sw1⟩ := hSw; (try dsimp only at sw2); clear sw1; go_simp; try (with_reducible rfl)
        case rest8 =>
        try simp only [Act.put, List.setIfInBounds_toArray, List.set_cons_zero, List.set_cons_succ]
        refine headG_take (i := 9) (v := ?_) false rfl (by kernel_rfl) (fun _ _ _ h => h) (fun _ _ _ h => passed_ready h.1) (Or.inl ⟨by rfl, ?hy9⟩) ⟨hSb, fun _ => hSa⟩ ?rest9
        case hy9 => intro w hSw; obtain ⟨sw2, sw1⟩ := hSw; (try dsimp only at sw2); clear sw1; go_simp; try (with_reducible rfl)
        case rest9 =>
        try simp only [Act.put, List.setIfInBounds_toArray, List.set_cons_zero, List.set_cons_succ]
        refine headG_take (i := 10) (v := ?_) false rfl (by kernel_rfl) (fun _ _ _ h => h) (fun _ _ _ h => passed_ready h.1) (Or.inl ⟨by rfl, ?hy10⟩) ⟨hSb, fun _ => hSa⟩ ?rest10
        case hy10 => intro w hSw; obtain ⟨sw2, sw1⟩ := hSw; (try dsimp only at sw2); clear sw1; go_simp; try (with_reducible rfl)
        case rest10 =>
        try simp only [Act.put, List.setIfInBounds_toArray, List.set_cons_zero, List.set_cons_succ]
        refine headG_take (i := 11) (v := ?_) false rfl (by kernel_rfl) (fun _ _ _ h => h) (fun _ _ _ h => passed_ready h.1) (Or.inl ⟨by rfl, ?hy11⟩) ⟨hSb, fun _ => hSa⟩ ?rest11
        case hy11 => intro w hSw; obtain ⟨sw2, sw1⟩ := hSw; (try dsimp only at sw2); clear sw1; go_simp; try (with_reducible rfl)
        case rest11 =>
        try simp only [Act.put, List.setIfInBounds_toArray, List.set_cons_zero, List.set_cons_succ]
        refine headG_take (i := 12) (v := ?_) false rfl (by kernel_rfl) (fun _ _ _ h => h) (fun _ _ _ h => passed_ready h.1) (Or.inl ⟨by rfl, ?hy12⟩) ⟨hSb, fun _ => hSa⟩ ?rest12
        case hy12 => intro w hSw; obtain ⟨sw2, sw1⟩ := hSw; (try dsimp only at sw2); clear sw1; go_simp; try (with_reducible rfl)
        case rest12 =>
        try simp only [Act.put, List.setIfInBounds_toArray, List.set_cons_zero, List.set_cons_succ]
        refine headG_take (i := 13) (v := ?_) false rfl (by kernel_rfl) (fun _ _ _ h => h) (fun _ _ _ h => passed_ready h.1) (Or.inl ⟨by rfl, ?hy13⟩) ⟨hSb, fun _ => hSa⟩ ?rest13
        case hy13 => intro w hSw; obtain ⟨sw2, sw1⟩ := hSw; (try dsimp only at sw2); clear sw1; go_simp; try (with_reducible rfl)
        case rest13 =>
        try simp only [Act.put, List.setIfInBounds_toArray, List.set_cons_zero, List.set_cons_succ]
        refine headG_take (i := 14) (v := ?_) false rfl (by kernel_rfl) (fun _ _ _ h => h) (fun _ _ _ h => passed_ready h.1) (Or.inl ⟨by rfl, ?hy14⟩) ⟨hSb, fun _ => hSa⟩ ?rest14
        case hy14 => intro w hSw; obtain ⟨sw2, sw1⟩ := hSw; (try dsimp only at sw2); clear sw1; go_simp; try (with_reducible rfl)
        case rest14 =>
        try simp only [Act.put, List.setIfInBounds_toArray, List.set_cons_zero, List.set_cons_succ]
        refine headG_take (i := 15) (v := ?_) false rfl (by kernel_rfl) (fun _ _ _ h => h) (fun _ _ _ h => passed_ready h.1) (Or.inl ⟨by rfl, ?hy15⟩) ⟨hSb, fun _ => hSa⟩ ?rest15
        case hy15 => intro w hSw; obtain ⟨sw2, sw1⟩ := hSw; (try dsimp only at sw2); clear sw1; go_simp; try (with_reducible rfl)
        case rest15 =>
        try simp only [Act.put, List.setIfInBounds_toArray, List.set_cons_zero, List.set_cons_succ]
        refine headG_one (i := 1) (by kernel_rfl) rfl (fun K hK => ?_)
        go_simp
        refine HF.out.mono ?_
        rintro e1 x1 ⟨A1, c1, rfl, q1, q2, q3, hb⟩
        have Pa := Lib.hid (Qa.out.drew.keep hb)
        have Pb := Lib.hid (Qb.out.drew.keep hb)
        have B1 := Lib.hid (chain HW.out.drew hb)
        have HX := Lib.hid q3
        clear hb q3 hSa hSb
        obtain ⟨p0, p1, f0, f1⟩ := Pa.out.two
        obtain ⟨p2, p3, f2, f3⟩ := Pb.out.two
        have hSa : (fun w' => w'.cell? ⟨w.heap.size, 1, none⟩ = some (.slice none 0 0)) x1 := p1
        have hSb : (fun w' => w'.cell? ⟨w.heap.size + 1, 1, none⟩ = some (.slice none 0 0)) x1 := p3
        refine hK.out _ _ ⟨hSb, fun _ => hSa⟩ ?_
        clear hK K
        try simp only [Act.put, List.setIfInBounds_toArray, List.set_cons_zero, List.set_cons_succ]
        refine headG_take (i := 16) (v := ?_) false rfl (by kernel_rfl) (fun _ _ _ h => h) (fun _ _ _ h => passed_ready h.1) (Or.inl ⟨by rfl, ?hy16⟩) ⟨hSb, fun _ => hSa⟩ ?rest16
        case hy16 => intro w hSw; obtain ⟨sw2, sw1⟩ := hSw; (try dsimp only at sw2); clear sw1; go_simp; try (with_reducible rfl)
        case rest16 =>
        try simp only [Act.put, List.setIfInBounds_toArray, List.set_cons_zero, List.set_cons_succ]
        refine headG_take (i := 17) (v := ?_) false rfl (by kernel_rfl) (fun _ _ _ h => h) (fun _ _ _ h => passed_ready h.1) (Or.inl ⟨by rfl, ?hy17⟩) ⟨hSb, fun _ => hSa⟩ ?rest17
        case hy17 => intro w hSw; obtain ⟨sw2, sw1⟩ := hSw; (try dsimp only at sw2); clear sw1; go_simp; try (with_reducible rfl)
        case rest17 =>
        try simp only [Act.put, List.setIfInBounds_toArray, List.set_cons_zero, List.set_cons_succ]
        refine headG_one (i := 18) (by kernel_rfl) rfl (fun K hK => ?_)
        go_simp
        refine hK.out _ _ ⟨((Pb.out.far (p := ⟨w.heap.size, 1, none⟩) (by simp) (.slice none 0 0)).cell 1), fun h => Bool.noConfusion (show true = false from h)⟩ ?_
        clear hK K
        refine ⟨by kernel_rfl, ?_⟩
        refine wpAny_take (i := 19) (v := ?_) rfl (by kernel_rfl) (by kernel_rfl) (by kernel_rfl) (fun _ _ _ h => h) (Or.inl ⟨by rfl, ?hy18⟩) ?rest18
        case hy18 => intro w; go_simp; try (with_reducible rfl)
        case rest18 =>
        try simp only [Act.put, List.setIfInBounds_toArray, List.set_cons_zero, List.set_cons_succ]
        refine wpAny_ready (rs := [20]) (by kernel_rfl) (by simp) ?_
        refine AllReady.cons rfl (fun K hK => ?_) AllReady.nil
        go_simp
        refine hK _ _ ?_
        clear hK K
        refine wpAny_done (by kernel_rfl) ?_ _
        go_wp2_with fail
        go_meet
        obtain ⟨t1, t2, t3, t4⟩ := two_cells Pa.out Pb.out (by omega) (T1 := none) (l1 := 0) (c1 := 0) (T2 := none) (l2 := 0) (c2 := 0) B1.out (by omega) (by omega) HX.out
        exact ⟨A1, _, c1, 0, 0, rfl, q1, q2, t1, t2, t3, Words.nil _ _, Words.nil _ _, t4⟩
      | some aB =>
        obtain ⟨k1, ek⟩ : ∃ k, k = min k0 10 := ⟨_, rfl⟩
        have HK2 := Lib.hid (show vs.take k1 = vs.take 10 by rw [ek]; exact HJ0.out vs k0 HV.out.1)
        have hk1 : k1 ≤ k0 := by omega
        have hk2 : k1 ≤ 10 := by omega
        have hk3 : k1 ≤ dB := by omega
        have mk : (if (10 : Int) < (k0 : Int) then 10 else (k0 : Int)) = (k1 : Int) := by split <;> omega
        clear ek
        refine wp_heldG_bar (Sa := (fun w' => w'.cell? ⟨w.heap.size, 1, none⟩ = some (.slice none 0 0))) (Sb := (fun w' => w'.cell? ⟨w.heap.size + 1, 1, none⟩ = some (.slice (some aB) k0 dB))) 19 18 (by kernel_rfl) (by decide) ?_
        have hSa : (fun w' => w'.cell? ⟨w.heap.size, 1, none⟩ = some (.slice none 0 0)) W.drew := r1
        have hSb : (fun w' => w'.cell? ⟨w.heap.size + 1, 1, none⟩ = some (.slice (some aB) k0 dB)) W.drew := z1
        refine headG_take (i := 0) (v := ?_) false rfl (by kernel_rfl) (fun _ _ _ h => h) (fun _ _ _ h => passed_ready h.1) (Or.inl ⟨by rfl, ?hy19⟩) ⟨hSb, fun _ => hSa⟩ ?rest19
        case hy19 => intro w hSw; obtain ⟨sw2, sw1⟩ := hSw; (try dsimp only at sw2); clear sw1; go_simp; try (with_reducible rfl)
        case rest19 =>
        try simp only [Act.put, List.setIfInBounds_toArray, List.set_cons_zero, List.set_cons_succ]
        refine headG_take (i := 2) (v := ?_) false rfl (by kernel_rfl) (fun _ _ _ h => h) (fun _ _ _ h => passed_ready h.1) (Or.inl ⟨by rfl, ?hy20⟩) ⟨hSb, fun _ => hSa⟩ ?rest20
        case hy20 => intro w hSw; obtain ⟨sw2, sw1⟩ := hSw; (try dsimp only at sw2); clear sw1; go_simp; try (with_reducible rfl)
        case rest20 =>
        try simp only [Act.put, List.setIfInBounds_toArray, List.set_cons_zero, List.set_cons_succ]
        refine headG_take (i := 3) (v := ?_) true rfl (by kernel_rfl) (fun _ _ _ h => h) (fun _ _ _ h => passed_ready h.1) (Or.inl ⟨by rfl, ?hy21⟩) ⟨hSb, fun _ => hSa⟩ ?rest21
        case hy21 => intro w hSw; obtain ⟨sw2, sw1⟩ := hSw; (try dsimp only at sw2); have sw1 := sw1 rfl; (try dsimp only at sw1); go_simp; try (with_reducible rfl)
        case rest21 =>
        try simp only [Act.put, List.setIfInBounds_toArray, List.set_cons_zero, List.set_cons_succ]
        refine headG_take (i := 4) (v := ?_) false rfl (by kernel_rfl) (fun _ _ _ h => h) (fun _ _ _ h => passed_ready h.1) (Or.inl ⟨by rfl, ?hy22⟩) ⟨hSb, fun _ => hSa⟩ ?rest22
        case hy22 => intro w hSw; obtain ⟨sw2, sw1⟩ := hSw; (try dsimp only at sw2); clear sw1; go_simp; try (with_reducible rfl)
        case rest22 =>
        try simp only [Act.put, List.setIfInBounds_toArray, List.set_cons_zero, List.set_cons_succ]
        refine headG_take (i := 5) (v := ?_) true rfl (by kernel_rfl) (fun _ _ _ h => h) (fun _ _ _ h => passed_ready h.1) (Or.inl ⟨by rfl, ?hy23⟩) ⟨hSb, fun _ => hSa⟩ ?rest23
        case hy23 => intro w hSw; obtain ⟨sw2, sw1⟩ := hSw; (try dsimp only at sw2); have sw1 := sw1 rfl; (try dsimp only at sw1); go_simp; try (with_reducible rfl)
        case rest23 =>
        try simp only [Act.put, List.setIfInBounds_toArray, List.set_cons_zero, List.set_cons_succ]
        refine headG_take (i := 6) (v := ?_) false rfl (by kernel_rfl) (fun _ _ _ h => h) (fun _ _ _ h => passed_ready h.1) (Or.inl ⟨by rfl, ?hy24⟩) ⟨hSb, fun _ => hSa⟩ ?rest24
        case hy24 => intro w hSw; obtain ⟨sw2, sw1⟩ := hSw; (try dsimp only at sw2); clear sw1; go_simp; try (with_reducible rfl)
        case rest24 =>
        try simp only [Act.put, List.setIfInBounds_toArray, List.set_cons_zero, List.set_cons_succ]
        refine headG_take (i := 7) (v := ?_) false rfl (by kernel_rfl) (fun _ _ _ h => h) (fun _ _ _ h => passed_ready h.1) (Or.inl ⟨by rfl, ?hy25⟩) ⟨hSb, fun _ => hSa⟩ ?rest25
        case hy25 => intro w hSw; obtain ⟨sw2, sw1⟩ := hSw; (try dsimp only at sw2); clear sw1; go_simp; try (with_reducible rfl)
        case rest25 =>
        try simp only [Act.put, List.setIfInBounds_toArray, List.set_cons_zero, List.set_cons_succ]
        refine headG_take (i := 8) (v := ?_) false rfl (by kernel_rfl) (fun _ _ _ h => h) (fun _ _ _ h => passed_ready h.1) (Or.inl ⟨by rfl, ?hy26⟩) ⟨hSb, fun _ => hSa⟩ ?rest26
        case hy26 => intro w hSw; obtain ⟨sw2, sw1⟩ := hSw; (try dsimp only at sw2); clear sw1; go_simp; try (with_reducible rfl)
        case rest26 =>
        try simp only [Act.put, List.setIfInBounds_toArray, List.set_cons_zero, List.set_cons_succ]
        refine headG_take (i := 9) (v := ?_) false rfl (by kernel_rfl) (fun _ _ _ h => h) (fun _ _ _ h => passed_ready h.1) (Or.inl ⟨by rfl, ?hy27⟩) ⟨hSb, fun _ => hSa⟩ ?rest27
        case hy27 => intro w hSw; obtain ⟨sw2, sw1⟩ := hSw; (try dsimp only at sw2); clear sw1; go_simp; try (with_reducible rfl)
        case rest27 =>
        try simp only [Act.put, List.setIfInBounds_toArray, List.set_cons_zero, List.set_cons_succ]
        refine headG_take (i := 10) (v := ?_) false rfl (by kernel_rfl) (fun _ _ _ h => h) (fun _ _ _ h => passed_ready h.1) (Or.inl ⟨by rfl, ?hy28⟩) ⟨hSb, fun _ => hSa⟩ ?rest28
        case hy28 => intro w hSw; obtain ⟨sw2, sw1⟩ := hSw; (try dsimp only at sw2); clear sw1; go_simp; try (with_reducible rfl)
        case rest28 =>
        try simp only [Act.put, List.setIfInBounds_toArray, List.set_cons_zero, List.set_cons_succ]
        refine headG_take (i := 11) (v := ?_) false rfl (by kernel_rfl) (fun _ _ _ h => h) (fun _ _ _ h => passed_ready h.1) (Or.inl ⟨by rfl, ?hy29⟩) ⟨hSb, fun _ => hSa⟩ ?rest29
        case hy29 => intro w hSw; obtain ⟨sw2, sw1⟩ := hSw; (try dsimp only at sw2); clear sw1; go_simp; try (with_reducible rfl)
        case rest29 =>
        try simp only [Act.put, List.setIfInBounds_toArray, List.set_cons_zero, List.set_cons_succ]
        refine headG_take (i := 12) (v := ?_) false rfl (by kernel_rfl) (fun _ _ _ h => h) (fun _ _ _ h => passed_ready h.1) (Or.inl ⟨by rfl, ?hy30⟩) ⟨hSb, fun _ => hSa⟩ ?rest30
        case hy30 => intro w hSw; obtain ⟨sw2, sw1⟩ := hSw; (try dsimp only at sw2); clear sw1; go_simp; try (with_reducible rfl)
        case rest30 =>
        try simp only [Act.put, List.setIfInBounds_toArray, List.set_cons_zero, List.set_cons_succ]
        refine headG_take (i := 13) (v := ?_) false rfl (by kernel_rfl) (fun _ _ _ h => h) (fun _ _ _ h => passed_ready h.1) (Or.inl ⟨by rfl, ?hy31⟩) ⟨hSb, fun _ => hSa⟩ ?rest31
        case hy31 => intro w hSw; obtain ⟨sw2, sw1⟩ := hSw; (try dsimp only at sw2); clear sw1; go_simp; try (with_reducible rfl)
        case rest31 =>
        try simp only [Act.put, List.setIfInBounds_toArray, List.set_cons_zero, List.set_cons_succ]
        refine headG_take (i := 14) (v := ?_) false rfl (by kernel_rfl) (fun _ _ _ h => h) (fun _ _ _ h => passed_ready h.1) (Or.inl ⟨by rfl, ?hy32⟩) ⟨hSb, fun _ => hSa⟩ ?rest32
        case hy32 => intro w hSw; obtain ⟨sw2, sw1⟩ := hSw; (try dsimp only at sw2); clear sw1; go_simp; try (with_reducible rfl)
        case rest32 =>
        try simp only [Act.put, List.setIfInBounds_toArray, List.set_cons_zero, List.set_cons_succ]
        refine headG_take (i := 15) (v := ?_) false rfl (by kernel_rfl) (fun _ _ _ h => h) (fun _ _ _ h => passed_ready h.1) (Or.inl ⟨by rfl, ?hy33⟩) ⟨hSb, fun _ => hSa⟩ ?rest33
        case hy33 => intro w hSw; obtain ⟨sw2, sw1⟩ := hSw; (try dsimp only at sw2); clear sw1; go_simp; try (with_reducible rfl)
        case rest33 =>
        try simp only [Act.put, List.setIfInBounds_toArray, List.set_cons_zero, List.set_cons_succ]
        refine headG_one (i := 1) (by kernel_rfl) rfl (fun K hK => ?_)
        go_simp
        refine HF.out.mono ?_
        rintro e1 x1 ⟨A1, c1, rfl, q1, q2, q3, hb⟩
        have Pa := Lib.hid (Qa.out.drew.keep hb)
        have Pb := Lib.hid (Qb.out.drew.keep hb)
        have B1 := Lib.hid (chain HW.out.drew hb)
        have HX := Lib.hid q3
        clear hb q3 hSa hSb
        obtain ⟨p0, p1, f0, f1⟩ := Pa.out.two
        obtain ⟨p2, p3, f2, f3⟩ := Pb.out.two
        have hSa : (fun w' => w'.cell? ⟨w.heap.size, 1, none⟩ = some (.slice none 0 0)) x1 := p1
        have hSb : (fun w' => w'.cell? ⟨w.heap.size + 1, 1, none⟩ = some (.slice (some aB) k0 dB)) x1 := p3
        refine hK.out _ _ ⟨hSb, fun _ => hSa⟩ ?_
        clear hK K
        try simp only [Act.put, List.setIfInBounds_toArray, List.set_cons_zero, List.set_cons_succ]
        refine headG_take (i := 16) (v := ?_) false rfl (by kernel_rfl) (fun _ _ _ h => h) (fun _ _ _ h => passed_ready h.1) (Or.inl ⟨by rfl, ?hy34⟩) ⟨hSb, fun _ => hSa⟩ ?rest34
        case hy34 => intro w hSw; obtain ⟨sw2, sw1⟩ := hSw; (try dsimp only at sw2); clear sw1; go_simp; try (with_reducible rfl)
        case rest34 =>
        try simp only [Act.put, List.setIfInBounds_toArray, List.set_cons_zero, List.set_cons_succ]
        refine headG_take (i := 17) (v := ?_) false rfl (by kernel_rfl) (fun _ _ _ h => h) (fun _ _ _ h => passed_ready h.1) (Or.inl ⟨by rfl, ?hy35⟩) ⟨hSb, fun _ => hSa⟩ ?rest35
        case hy35 => intro w hSw; obtain ⟨sw2, sw1⟩ := hSw; (try dsimp only at sw2); clear sw1; go_simp; try (with_reducible rfl)
        case rest35 =>
        try simp only [Act.put, List.setIfInBounds_toArray, List.set_cons_zero, List.set_cons_succ]
        refine headG_one (i := 18) (by kernel_rfl) rfl (fun K hK => ?_)
        go_simp
        refine hK.out _ _ ⟨((Pb.out.far (p := ⟨w.heap.size, 1, none⟩) (by simp) (.slice none 0 0)).cell 1), fun h => Bool.noConfusion (show true = false from h)⟩ ?_
        clear hK K
        refine ⟨by kernel_rfl, ?_⟩
        refine wpAny_take (i := 19) (v := ?_) rfl (by kernel_rfl) (by kernel_rfl) (by kernel_rfl) (fun _ _ _ h => h) (Or.inl ⟨by rfl, ?hy36⟩) ?rest36
        case hy36 => intro w; go_simp; try (with_reducible rfl)
        case rest36 =>
        try simp only [Act.put, List.setIfInBounds_toArray, List.set_cons_zero, List.set_cons_succ]
        refine wpAny_ready (rs := [20]) (by kernel_rfl) (by simp) ?_
        refine AllReady.cons rfl (fun K hK => ?_) AllReady.nil
        go_simp
        refine hK _ _ ?_
        clear hK K
        refine wpAny_done (by kernel_rfl) ?_ _
        go_wp2_with fail
        go_meet
        obtain ⟨t1, t2, t3, t4⟩ := two_cells Pa.out Pb.out (by omega) (T1 := none) (l1 := 0) (c1 := 0) (T2 := (some aB)) (l2 := k1) (c2 := dB) B1.out (by omega) (by omega) HX.out
        exact ⟨A1, _, c1, 0, k1, rfl, q1, q2, t1, t2, t3, Words.nil _ _, ((HV.out.take k1 (by omega)).below t4 |> fun h => by rwa [HK2.out] at h), t4⟩
    | some aA =>
      obtain ⟨j1, ej⟩ : ∃ j, j = min j0 10 := ⟨_, rfl⟩
      have HJ := Lib.hid (show us.take j1 = us.take 10 by rw [ej]; exact HJ0.out us j0 HU.out.1)
      have hj1 : j1 ≤ j0 := by omega
      have hj2 : j1 ≤ 10 := by omega
      have hj3 : j1 ≤ dA := by omega
      have mj : (if (10 : Int) < (j0 : Int) then 10 else (j0 : Int)) = (j1 : Int) := by split <;> omega
      clear ej
      cases Bw with
      | none =>
        obtain ⟨rfl, rfl⟩ := hv3 rfl
        have hvs : vs = [] := List.length_eq_zero_iff.1 HV.out.1
        subst hvs
        refine wp_heldG_bar (Sa := (fun w' => w'.cell? ⟨w.heap.size, 1, none⟩ = some (.slice (some aA) j0 dA))) (Sb := (fun w' => w'.cell? ⟨w.heap.size + 1, 1, none⟩ = some (.slice none 0 0))) 19 18 (by kernel_rfl) (by decide) ?_
        have hSa : (fun w' => w'.cell? ⟨w.heap.size, 1, none⟩ = some (.slice (some aA) j0 dA)) W.drew := r1
        have hSb : (fun w' => w'.cell? ⟨w.heap.size + 1, 1, none⟩ = some (.slice none 0 0)) W.drew := z1
        refine headG_take (i := 0) (v := ?_) false rfl (by kernel_rfl) (fun _ _ _ h => h) (fun _ _ _ h => passed_ready h.1) (Or.inl ⟨by rfl, ?hy37⟩) ⟨hSb, fun _ => hSa⟩ ?rest37
        case hy37 => intro w hSw; obtain ⟨sw2, sw1⟩ := hSw; (try dsimp only at sw2); clear sw1; go_simp; try (with_reducible rfl)
        case rest37 =>
        try simp only [Act.put, List.setIfInBounds_toArray, List.set_cons_zero, List.set_cons_succ]
        refine headG_take (i := 2) (v := ?_) false rfl (by kernel_rfl) (fun _ _ _ h => h) (fun _ _ _ h => passed_ready h.1) (Or.inl ⟨by rfl, ?hy38⟩) ⟨hSb, fun _ => hSa⟩ ?rest38
        case hy38 => intro w hSw; obtain ⟨sw2, sw1⟩ := hSw; (try dsimp only at sw2); clear sw1; go_simp; try (with_reducible rfl)
        case rest38 =>
        try simp only [Act.put, List.setIfInBounds_toArray, List.set_cons_zero, List.set_cons_succ]
        refine headG_take (i := 3) (v := ?_) true rfl (by kernel_rfl) (fun _ _ _ h => h) (fun _ _ _ h => passed_ready h.1) (Or.inl ⟨by rfl, ?hy39⟩) ⟨hSb, fun _ => hSa⟩ ?rest39
        case hy39 => intro w hSw; obtain ⟨sw2, sw1⟩ := hSw; (try dsimp only at sw2); have sw1 := sw1 rfl; (try dsimp only at sw1); go_simp; try (with_reducible rfl)
        case rest39 =>
        try simp only [Act.put, List.setIfInBounds_toArray, List.set_cons_zero, List.set_cons_succ]
        refine headG_take (i := 4) (v := ?_) false rfl (by kernel_rfl) (fun _ _ _ h => h) (fun _ _ _ h => passed_ready h.1) (Or.inl ⟨by rfl, ?hy40⟩) ⟨hSb, fun _ => hSa⟩ ?rest40
        case hy40 => intro w hSw; obtain ⟨sw2, sw1⟩ := hSw; (try dsimp only at sw2); clear sw1; go_simp; try (with_reducible rfl)
        case rest40 =>
        try simp only [Act.put, List.setIfInBounds_toArray, List.set_cons_zero, List.set_cons_succ]
        refine headG_take (i := 5) (v := ?_) true rfl (by kernel_rfl) (fun _ _ _ h => h) (fun _ _ _ h => passed_ready h.1) (Or.inl ⟨by rfl, ?hy41⟩) ⟨hSb, fun _ => hSa⟩ ?rest41
        case hy41 => intro w hSw; obtain ⟨sw2, sw1⟩ := hSw; (try dsimp only at sw2); have sw1 := sw1 rfl; (try dsimp only at sw1); go_simp; try (with_reducible rfl)
        case rest41 =>
        try simp only [Act.put, List.setIfInBounds_toArray, List.set_cons_zero, List.set_cons_succ]
        refine headG_take (i := 6) (v := ?_) false rfl (by kernel_rfl) (fun _ _ _ h => h) (fun _ _ _ h => passed_ready h.1) (Or.inl ⟨by rfl, ?hy42⟩) ⟨hSb, fun _ => hSa⟩ ?rest42
        case hy42 => intro w hSw; obtain ⟨sw2, sw1⟩ := hSw; (try dsimp only at sw2); clear sw1; go_simp; try (with_reducible rfl)
        case rest42 =>
        try simp only [Act.put, List.setIfInBounds_toArray, List.set_cons_zero, List.set_cons_succ]
        refine headG_take (i := 7) (v := ?_) false rfl (by kernel_rfl) (fun _ _ _ h => h) (fun _ _ _ h => passed_ready h.1) (Or.inl ⟨by rfl, ?hy43⟩) ⟨hSb, fun _ => hSa⟩ ?rest43
        case hy43 => intro w hSw; obtain ⟨sw2, sw1⟩ := hSw; (try dsimp only at sw2); clear sw1; go_simp; try (with_reducible rfl)
        case rest43 =>
        try simp only [Act.put, List.setIfInBounds_toArray, List.set_cons_zero, List.set_cons_succ]
        refine headG_take (i := 8) (v := ?_) false rfl (by kernel_rfl) (fun _ _ _ h => h) (fun _ _ _ h => passed_ready h.1) (Or.inl ⟨by rfl, ?hy44⟩) ⟨hSb, fun _ => hSa⟩ ?rest44
        case hy44 => intro w hSw; obtain ⟨sw2, sw1⟩ := hSw; (try dsimp only at sw2); clear sw1; go_simp; try (with_reducible rfl)
        case rest44 =>
        try simp only [Act.put, List.setIfInBounds_toArray, List.set_cons_zero, List.set_cons_succ]
        refine headG_take (i := 9) (v := ?_) false rfl (by kernel_rfl) (fun _ _ _ h => h) (fun _ _ _ h => passed_ready h.1) (Or.inl ⟨by rfl, ?hy45⟩) ⟨hSb, fun _ => hSa⟩ ?rest45
        case hy45 => intro w hSw; obtain ⟨sw2, sw1⟩ := hSw; (try dsimp only at sw2); clear sw1; go_simp; try (with_reducible rfl)
        case rest45 =>
        try simp only [Act.put, List.setIfInBounds_toArray, List.set_cons_zero, List.set_cons_succ]
        refine headG_take (i := 10) (v := ?_) false rfl (by kernel_rfl) (fun _ _ _ h => h) (fun _ _ _ h => passed_ready h.1) (Or.inl ⟨by rfl, ?hy46⟩) ⟨hSb, fun _ => hSa⟩ ?rest46
        case hy46 => intro w hSw; obtain ⟨sw2, sw1⟩ := hSw; (try dsimp only at sw2); clear sw1; go_simp; try (with_reducible rfl)
        case rest46 =>
        try simp only [Act.put, List.setIfInBounds_toArray, List.set_cons_zero, List.set_cons_succ]
        refine headG_take (i := 11) (v := ?_) false rfl (by kernel_rfl) (fun _ _ _ h => h) (fun _ _ _ h => passed_ready h.1) (Or.inl ⟨by rfl, ?hy47⟩) ⟨hSb, fun _ => hSa⟩ ?rest47
        case hy47 => intro w hSw; obtain ⟨sw2, sw1⟩ := hSw; (try dsimp only at sw2); clear sw1; go_simp; try (with_reducible rfl)
        case rest47 =>
        try simp only [Act.put, List.setIfInBounds_toArray, List.set_cons_zero, List.set_cons_succ]
        refine headG_take (i := 12) (v := ?_) false rfl (by kernel_rfl) (fun _ _ _ h => h) (fun _ _ _ h => passed_ready h.1) (Or.inl ⟨by rfl, ?hy48⟩) ⟨hSb, fun _ => hSa⟩ ?rest48
        case hy48 => intro w hSw; obtain ⟨sw2, sw1⟩ := hSw; (try dsimp only at sw2); clear sw1; go_simp; try (with_reducible rfl)
        case rest48 =>
        try simp only [Act.put, List.setIfInBounds_toArray, List.set_cons_zero, List.set_cons_succ]
        refine headG_take (i := 13) (v := ?_) false rfl (by kernel_rfl) (fun _ _ _ h => h) (fun _ _ _ h => passed_ready h.1) (Or.inl ⟨by rfl, ?hy49⟩) ⟨hSb, fun _ => hSa⟩ ?rest49
        case hy49 => intro w hSw; obtain ⟨sw2, sw1⟩ := hSw; (try dsimp only at sw2); clear sw1; go_simp; try (with_reducible rfl)
        case rest49 =>
        try simp only [Act.put, List.setIfInBounds_toArray, List.set_cons_zero, List.set_cons_succ]
        refine headG_take (i := 14) (v := ?_) false rfl (by kernel_rfl) (fun _ _ _ h => h) (fun _ _ _ h => passed_ready h.1) (Or.inl ⟨by rfl, ?hy50⟩) ⟨hSb, fun _ => hSa⟩ ?rest50
        case hy50 => intro w hSw; obtain ⟨sw2, sw1⟩ := hSw; (try dsimp only at sw2); clear sw1; go_simp; try (with_reducible rfl)
        case rest50 =>
        try simp only [Act.put, List.setIfInBounds_toArray, List.set_cons_zero, List.set_cons_succ]
        refine headG_take (i := 15) (v := ?_) false rfl (by kernel_rfl) (fun _ _ _ h => h) (fun _ _ _ h => passed_ready h.1) (Or.inl ⟨by rfl, ?hy51⟩) ⟨hSb, fun _ => hSa⟩ ?rest51
        case hy51 => intro w hSw; obtain ⟨sw2, sw1⟩ := hSw; (try dsimp only at sw2); clear sw1; go_simp; try (with_reducible rfl)
        case rest51 =>
        try simp only [Act.put, List.setIfInBounds_toArray, List.set_cons_zero, List.set_cons_succ]
        refine headG_one (i := 1) (by kernel_rfl) rfl (fun K hK => ?_)
        go_simp
        refine HF.out.mono ?_
        rintro e1 x1 ⟨A1, c1, rfl, q1, q2, q3, hb⟩
        have Pa := Lib.hid (Qa.out.drew.keep hb)
        have Pb := Lib.hid (Qb.out.drew.keep hb)
        have B1 := Lib.hid (chain HW.out.drew hb)
        have HX := Lib.hid q3
        clear hb q3 hSa hSb
        obtain ⟨p0, p1, f0, f1⟩ := Pa.out.two
        obtain ⟨p2, p3, f2, f3⟩ := Pb.out.two
        have hSa : (fun w' => w'.cell? ⟨w.heap.size, 1, none⟩ = some (.slice (some aA) j0 dA)) x1 := p1
        have hSb : (fun w' => w'.cell? ⟨w.heap.size + 1, 1, none⟩ = some (.slice none 0 0)) x1 := p3
        refine hK.out _ _ ⟨hSb, fun _ => hSa⟩ ?_
        clear hK K
        try simp only [Act.put, List.setIfInBounds_toArray, List.set_cons_zero, List.set_cons_succ]
        refine headG_take (i := 16) (v := ?_) false rfl (by kernel_rfl) (fun _ _ _ h => h) (fun _ _ _ h => passed_ready h.1) (Or.inl ⟨by rfl, ?hy52⟩) ⟨hSb, fun _ => hSa⟩ ?rest52
        case hy52 => intro w hSw; obtain ⟨sw2, sw1⟩ := hSw; (try dsimp only at sw2); clear sw1; go_simp; try (with_reducible rfl)
        case rest52 =>
        try simp only [Act.put, List.setIfInBounds_toArray, List.set_cons_zero, List.set_cons_succ]
        refine headG_take (i := 17) (v := ?_) false rfl (by kernel_rfl) (fun _ _ _ h => h) (fun _ _ _ h => passed_ready h.1) (Or.inl ⟨by rfl, ?hy53⟩) ⟨hSb, fun _ => hSa⟩ ?rest53
        case hy53 => intro w hSw; obtain ⟨sw2, sw1⟩ := hSw; (try dsimp only at sw2); clear sw1; go_simp; try (with_reducible rfl)
        case rest53 =>
        try simp only [Act.put, List.setIfInBounds_toArray, List.set_cons_zero, List.set_cons_succ]
        refine headG_one (i := 18) (by kernel_rfl) rfl (fun K hK => ?_)
        go_simp
        refine hK.out _ _ ⟨((Pb.out.far (p := ⟨w.heap.size, 1, none⟩) (by simp) (.slice (some aA) j1 dA)).cell 1), fun h => Bool.noConfusion (show true = false from h)⟩ ?_
        clear hK K
        refine ⟨by kernel_rfl, ?_⟩
        refine wpAny_take (i := 19) (v := ?_) rfl (by kernel_rfl) (by kernel_rfl) (by kernel_rfl) (fun _ _ _ h => h) (Or.inl ⟨by rfl, ?hy54⟩) ?rest54
        case hy54 => intro w; go_simp; try (with_reducible rfl)
        case rest54 =>
        try simp only [Act.put, List.setIfInBounds_toArray, List.set_cons_zero, List.set_cons_succ]
        refine wpAny_ready (rs := [20]) (by kernel_rfl) (by simp) ?_
        refine AllReady.cons rfl (fun K hK => ?_) AllReady.nil
        go_simp
        refine hK _ _ ?_
        clear hK K
        refine wpAny_done (by kernel_rfl) ?_ _
        go_wp2_with fail
        go_meet
        obtain ⟨t1, t2, t3, t4⟩ := two_cells Pa.out Pb.out (by omega) (T1 := (some aA)) (l1 := j1) (c1 := dA) (T2 := none) (l2 := 0) (c2 := 0) B1.out (by omega) (by omega) HX.out
        exact ⟨A1, _, c1, j1, 0, rfl, q1, q2, t1, t2, t3, ((HU.out.take j1 (by omega)).below t4 |> fun h => by rwa [HJ.out] at h), Words.nil _ _, t4⟩
      | some aB =>
        obtain ⟨k1, ek⟩ : ∃ k, k = min k0 10 := ⟨_, rfl⟩
        have HK2 := Lib.hid (show vs.take k1 = vs.take 10 by rw [ek]; exact HJ0.out vs k0 HV.out.1)
        have hk1 : k1 ≤ k0 := by omega
        have hk2 : k1 ≤ 10 := by omega
        have hk3 : k1 ≤ dB := by omega
        have mk : (if (10 : Int) < (k0 : Int) then 10 else (k0 : Int)) = (k1 : Int) := by split <;> omega
        clear ek
        refine wp_heldG_bar (Sa := (fun w' => w'.cell? ⟨w.heap.size, 1, none⟩ = some (.slice (some aA) j0 dA))) (Sb := (fun w' => w'.cell? ⟨w.heap.size + 1, 1, none⟩ = some (.slice (some aB) k0 dB))) 19 18 (by kernel_rfl) (by decide) ?_
        have hSa : (fun w' => w'.cell? ⟨w.heap.size, 1, none⟩ = some (.slice (some aA) j0 dA)) W.drew := r1
        have hSb : (fun w' => w'.cell? ⟨w.heap.size + 1, 1, none⟩ = some (.slice (some aB) k0 dB)) W.drew := z1
        refine headG_take (i := 0) (v := ?_) false rfl (by kernel_rfl) (fun _ _ _ h => h) (fun _ _ _ h => passed_ready h.1) (Or.inl ⟨by rfl, ?hy55⟩) ⟨hSb, fun _ => hSa⟩ ?rest55
        case hy55 => intro w hSw; obtain ⟨sw2, sw1⟩ := hSw; (try dsimp only at sw2); clear sw1; go_simp; try (with_reducible rfl)
        case rest55 =>
        try simp only [Act.put, List.setIfInBounds_toArray, List.set_cons_zero, List.set_cons_succ]
        refine headG_take (i := 2) (v := ?_) false rfl (by kernel_rfl) (fun _ _ _ h => h) (fun _ _ _ h => passed_ready h.1) (Or.inl ⟨by rfl, ?hy56⟩) ⟨hSb, fun _ => hSa⟩ ?rest56
        case hy56 => intro w hSw; obtain ⟨sw2, sw1⟩ := hSw; (try dsimp only at sw2); clear sw1; go_simp; try (with_reducible rfl)
        case rest56 =>
        try simp only [Act.put, List.setIfInBounds_toArray, List.set_cons_zero, List.set_cons_succ]
        refine headG_take (i := 3) (v := ?_) true rfl (by kernel_rfl) (fun _ _ _ h => h) (fun _ _ _ h => passed_ready h.1) (Or.inl ⟨by rfl, ?hy57⟩) ⟨hSb, fun _ => hSa⟩ ?rest57
        case hy57 => intro w hSw; obtain ⟨sw2, sw1⟩ := hSw; (try dsimp only at sw2); have sw1 := sw1 rfl; (try dsimp only at sw1); go_simp; try (with_reducible rfl)
        case rest57 =>
        try simp only [Act.put, List.setIfInBounds_toArray, List.set_cons_zero, List.set_cons_succ]
        refine headG_take (i := 4) (v := ?_) false rfl (by kernel_rfl) (fun _ _ _ h => h) (fun _ _ _ h => passed_ready h.1) (Or.inl ⟨by rfl, ?hy58⟩) ⟨hSb, fun _ => hSa⟩ ?rest58
        case hy58 => intro w hSw; obtain ⟨sw2, sw1⟩ := hSw; (try dsimp only at sw2); clear sw1; go_simp; try (with_reducible rfl)
        case rest58 =>
        try simp only [Act.put, List.setIfInBounds_toArray, List.set_cons_zero, List.set_cons_succ]
        refine headG_take (i := 5) (v := ?_) true rfl (by kernel_rfl) (fun _ _ _ h => h) (fun _ _ _ h => passed_ready h.1) (Or.inl ⟨by rfl, ?hy59⟩) ⟨hSb, fun _ => hSa⟩ ?rest59
        case hy59 => intro w hSw; obtain ⟨sw2, sw1⟩ := hSw; (try dsimp only at sw2); have sw1 := sw1 rfl; (try dsimp only at sw1); go_simp; try (with_reducible rfl)
        case rest59 =>
        try simp only [Act.put, List.setIfInBounds_toArray, List.set_cons_zero, List.set_cons_succ]
        refine headG_take (i := 6) (v := ?_) false rfl (by kernel_rfl) (fun _ _ _ h => h) (fun _ _ _ h => passed_ready h.1) (Or.inl ⟨by rfl, ?hy60⟩) ⟨hSb, fun _ => hSa⟩ ?rest60
        case hy60 => intro w hSw; obtain ⟨sw2, sw1⟩ := hSw; (try dsimp only at sw2); clear sw1; go_simp; try (with_reducible rfl)
        case rest60 =>
        try simp only [Act.put, List.setIfInBounds_toArray, List.set_cons_zero, List.set_cons_succ]
        refine headG_take (i := 7) (v := ?_) false rfl (by kernel_rfl) (fun _ _ _ h => h) (fun _ _ _ h => passed_ready h.1) (Or.inl ⟨by rfl, ?hy61⟩) ⟨hSb, fun _ => hSa⟩ ?rest61
        case hy61 => intro w hSw; obtain ⟨sw2, sw1⟩ := hSw; (try dsimp only at sw2); clear sw1; go_simp; try (with_reducible rfl)
        case rest61 =>
        try simp only [Act.put, List.setIfInBounds_toArray, List.set_cons_zero, List.set_cons_succ]
        refine headG_take (i := 8) (v := ?_) false rfl (by kernel_rfl) (fun _ _ _ h => h) (fun _ _ _ h => passed_ready h.1) (Or.inl ⟨by rfl, ?hy62⟩) ⟨hSb, fun _ => hSa⟩ ?rest62
        case hy62 => intro w hSw; obtain ⟨sw2, sw1⟩ := hSw; (try dsimp only at sw2); clear sw1; go_simp; try (with_reducible rfl)
        case rest62 =>
        try simp only [Act.put, List.setIfInBounds_toArray, List.set_cons_zero, List.set_cons_succ]
        refine headG_take (i := 9) (v := ?_) false rfl (by kernel_rfl) (fun _ _ _ h => h) (fun _ _ _ h => passed_ready h.1) (Or.inl ⟨by rfl, ?hy63⟩) ⟨hSb, fun _ => hSa⟩ ?rest63
        case hy63 => intro w hSw; obtain ⟨sw2, sw1⟩ := hSw; (try dsimp only at sw2); clear sw1; go_simp; try (with_reducible rfl)
        case rest63 =>
        try simp only [Act.put, List.setIfInBounds_toArray, List.set_cons_zero, List.set_cons_succ]
        refine headG_take (i := 10) (v := ?_) false rfl (by kernel_rfl) (fun _ _ _ h => h) (fun _ _ _ h => passed_ready h.1) (Or.inl ⟨by rfl, ?hy64⟩) ⟨hSb, fun _ => hSa⟩ ?rest64
        case hy64 => intro w hSw; obtain ⟨sw2, sw1⟩ := hSw; (try dsimp only at sw2); clear sw1; go_simp; try (with_reducible rfl)
        case rest64 =>
        try simp only [Act.put, List.setIfInBounds_toArray, List.set_cons_zero, List.set_cons_succ]
        refine headG_take (i := 11) (v := ?_) false rfl (by kernel_rfl) (fun _ _ _ h => h) (fun _ _ _ h => passed_ready h.1) (Or.inl ⟨by rfl, ?hy65⟩) ⟨hSb, fun _ => hSa⟩ ?rest65
        case hy65 => intro w hSw; obtain ⟨sw2, sw1⟩ := hSw; (try dsimp only at sw2); clear sw1; go_simp; try (with_reducible rfl)
        case rest65 =>
        try simp only [Act.put, List.setIfInBounds_toArray, List.set_cons_zero, List.set_cons_succ]
        refine headG_take (i := 12) (v := ?_) false rfl (by kernel_rfl) (fun _ _ _ h => h) (fun _ _ _ h => passed_ready h.1) (Or.inl ⟨by rfl, ?hy66⟩) ⟨hSb, fun _ => hSa⟩ ?rest66
        case hy66 => intro w hSw; obtain ⟨sw2, sw1⟩ := hSw; (try dsimp only at sw2); clear sw1; go_simp; try (with_reducible rfl)
        case rest66 =>
        try simp only [Act.put, List.setIfInBounds_toArray, List.set_cons_zero, List.set_cons_succ]
        refine headG_take (i := 13) (v := ?_) false rfl (by kernel_rfl) (fun _ _ _ h => h) (fun _ _ _ h => passed_ready h.1) (Or.inl ⟨by rfl, ?hy67⟩) ⟨hSb, fun _ => hSa⟩ ?rest67
        case hy67 => intro w hSw; obtain ⟨sw2, sw1⟩ := hSw; (try dsimp only at sw2); clear sw1; go_simp; try (with_reducible rfl)
        case rest67 =>
        try simp only [Act.put, List.setIfInBounds_toArray, List.set_cons_zero, List.set_cons_succ]
        refine headG_take (i := 14) (v := ?_) false rfl (by kernel_rfl) (fun _ _ _ h => h) (fun _ _ _ h => passed_ready h.1) (Or.inl ⟨by rfl, ?hy68⟩) ⟨hSb, fun _ => hSa⟩ ?rest68
        case hy68 => intro w hSw; obtain ⟨sw2, sw1⟩ := hSw; (try dsimp only at sw2); clear sw1; go_simp; try (with_reducible rfl)
        case rest68 =>
        try simp only [Act.put, List.setIfInBounds_toArray, List.set_cons_zero, List.set_cons_succ]
        refine headG_take (i := 15) (v := ?_) false rfl (by kernel_rfl) (fun _ _ _ h => h) (fun _ _ _ h => passed_ready h.1) (Or.inl ⟨by rfl, ?hy69⟩) ⟨hSb, fun _ => hSa⟩ ?rest69
        case hy69 => intro w hSw; obtain ⟨sw2, sw1⟩ := hSw; (try dsimp only at sw2); clear sw1; go_simp; try (with_reducible rfl)
        case rest69 =>
        try simp only [Act.put, List.setIfInBounds_toArray, List.set_cons_zero, List.set_cons_succ]
        refine headG_one (i := 1) (by kernel_rfl) rfl (fun K hK => ?_)
        go_simp
        refine HF.out.mono ?_
        rintro e1 x1 ⟨A1, c1, rfl, q1, q2, q3, hb⟩
        have Pa := Lib.hid (Qa.out.drew.keep hb)
        have Pb := Lib.hid (Qb.out.drew.keep hb)
        have B1 := Lib.hid (chain HW.out.drew hb)
        have HX := Lib.hid q3
        clear hb q3 hSa hSb
        obtain ⟨p0, p1, f0, f1⟩ := Pa.out.two
        obtain ⟨p2, p3, f2, f3⟩ := Pb.out.two
        have hSa : (fun w' => w'.cell? ⟨w.heap.size, 1, none⟩ = some (.slice (some aA) j0 dA)) x1 := p1
        have hSb : (fun w' => w'.cell? ⟨w.heap.size + 1, 1, none⟩ = some (.slice (some aB) k0 dB)) x1 := p3
        refine hK.out _ _ ⟨hSb, fun _ => hSa⟩ ?_
        clear hK K
        try simp only [Act.put, List.setIfInBounds_toArray, List.set_cons_zero, List.set_cons_succ]
        refine headG_take (i := 16) (v := ?_) false rfl (by kernel_rfl) (fun _ _ _ h => h) (fun _ _ _ h => passed_ready h.1) (Or.inl ⟨by rfl, ?hy70⟩) ⟨hSb, fun _ => hSa⟩ ?rest70
        case hy70 => intro w hSw; obtain ⟨sw2, sw1⟩ := hSw; (try dsimp only at sw2); clear sw1; go_simp; try (with_reducible rfl)
        case rest70 =>
        try simp only [Act.put, List.setIfInBounds_toArray, List.set_cons_zero, List.set_cons_succ]
        refine headG_take (i := 17) (v := ?_) false rfl (by kernel_rfl) (fun _ _ _ h => h) (fun _ _ _ h => passed_ready h.1) (Or.inl ⟨by rfl, ?hy71⟩) ⟨hSb, fun _ => hSa⟩ ?rest71
        case hy71 => intro w hSw; obtain ⟨sw2, sw1⟩ := hSw; (try dsimp only at sw2); clear sw1; go_simp; try (with_reducible rfl)
        case rest71 =>
        try simp only [Act.put, List.setIfInBounds_toArray, List.set_cons_zero, List.set_cons_succ]
        refine headG_one (i := 18) (by kernel_rfl) rfl (fun K hK => ?_)
        go_simp
        refine hK.out _ _ ⟨((Pb.out.far (p := ⟨w.heap.size, 1, none⟩) (by simp) (.slice (some aA) j1 dA)).cell 1), fun h => Bool.noConfusion (show true = false from h)⟩ ?_
        clear hK K
        refine ⟨by kernel_rfl, ?_⟩
        refine wpAny_take (i := 19) (v := ?_) rfl (by kernel_rfl) (by kernel_rfl) (by kernel_rfl) (fun _ _ _ h => h) (Or.inl ⟨by rfl, ?hy72⟩) ?rest72
        case hy72 => intro w; go_simp; try (with_reducible rfl)
        case rest72 =>
        try simp only [Act.put, List.setIfInBounds_toArray, List.set_cons_zero, List.set_cons_succ]
        refine wpAny_ready (rs := [20]) (by kernel_rfl) (by simp) ?_
        refine AllReady.cons rfl (fun K hK => ?_) AllReady.nil
        go_simp
        refine hK _ _ ?_
        clear hK K
        refine wpAny_done (by kernel_rfl) ?_ _
        go_wp2_with fail
        go_meet
        obtain ⟨t1, t2, t3, t4⟩ := two_cells Pa.out Pb.out (by omega) (T1 := (some aA)) (l1 := j1) (c1 := dA) (T2 := (some aB)) (l2 := k1) (c2 := dB) B1.out (by omega) (by omega) HX.out
        exact ⟨A1, _, c1, j1, k1, rfl, q1, q2, t1, t2, t3, ((HU.out.take j1 (by omega)).below t4 |> fun h => by rwa [HJ.out] at h), ((HV.out.take k1 (by omega)).below t4 |> fun h => by rwa [HK2.out] at h), t4⟩
  case rest =>
    obtain ⟨A1, l1, c1, j1, k1, rfl, q1, q2, hx, hba, hbb, hu, hv, hB⟩ := hcut
    have HT := Lib.hid (HT.out.below hB)
    have B := Lib.hid hB
    have Qa := Lib.hid hba
    have Qb := Lib.hid hbb
    have HX := Lib.hid hx
    have HU := Lib.hid hu
    have HV := Lib.hid hv
    clear hB hba hbb hx hu hv HW HF HS1 HS2 r0 r1 z0 z1
    generalize cuts ss 66 = ts at *
    generalize us.take 10 = us at *
    generalize vs.take 10 = vs at *
    have hlen := HX.out.1
    obtain ⟨r0, r1, -, -⟩ := Qa.out.two
    obtain ⟨z0, z1, -, -⟩ := Qb.out.two
    cases hok : okS n ts with
    | false =>
      have HE := Lib.hid (sumE_no hok)
      have HSt := Lib.hid (show sumS n ts = ⟨#[]⟩ by simp [sumS, hok])
      clear hok hlen
      go_wp2_with fail
      refine (sum_any n A1 l1 c1 ts _ HX.out q1 q2).mono ?_
      rintro e x1 ⟨rfl, hb⟩
      rw [HE.out, HSt.out]
      clear r0 r1 z0 z1
      have Qa := Lib.hid (Qa.out.keep hb)
      have Qb := Lib.hid (Qb.out.keep hb)
      have HU := Lib.hid (HU.out.below hb)
      have HV := Lib.hid (HV.out.below hb)
      have HX := Lib.hid (HX.out.below hb)
      have HT := Lib.hid (HT.out.below hb)
      have B := Lib.hid (chain B.out hb)
      clear hb
      obtain ⟨r0, r1, -, -⟩ := Qa.out.two
      obtain ⟨z0, z1, -, -⟩ := Qb.out.two
      go_wp2_with fail
      refine (alive2_any _).mono ?_
      rintro e x2 ⟨rfl, hb⟩
      clear r0 r1 z0 z1
      have Qa := Lib.hid (Qa.out.keep hb)
      have Qb := Lib.hid (Qb.out.keep hb)
      have HU := Lib.hid (HU.out.below hb)
      have HV := Lib.hid (HV.out.below hb)
      have HX := Lib.hid (HX.out.below hb)
      have HT := Lib.hid (HT.out.below hb)
      have B := Lib.hid (chain B.out hb)
      clear hb
      obtain ⟨r0, r1, -, -⟩ := Qa.out.two
      obtain ⟨z0, z1, -, -⟩ := Qb.out.two
      go_wp2_with fail
      go_ret
      exact ⟨by first | rfl | simp, B.out⟩
    | true =>
      have hl64 : l1 ≤ 64 := by simp only [okS, Bool.and_eq_true, decide_eq_true_eq] at hok; omega
      have hn : 0 ≤ n ∧ n ≤ 64 := by
        have h := hok
        simp only [okS, Bool.and_eq_true] at h
        exact (smb_iff n).1 h.1.1
      obtain ⟨m, rfl⟩ := Int.eq_ofNat_of_zero_le hn.1
      have HOK := Lib.hid hok
      have HL := Lib.hid hlen
      have HE := Lib.hid (sumE_ok hok)
      have HSt := Lib.hid (show sumS m ts = ⟨(sumL m ts).toArray⟩ by simp [sumS, hok])
      have hm64 : m ≤ 64 := by omega
      have tj : (joinE N us M vs = 0 ∧ pickE m ts N us = 0 ∧ pickE m ts M vs = 0) ∨ (pickE m ts N us = 1 ∧ joinE N us M vs = 0) ∨ (pickE m ts N us = 1 ∧ (joinE N us M vs != 0) = true) ∨ (pickE m ts N us = 0 ∧ (joinE N us M vs != 0) = true) := by
        simp only [pickE, joinE, hok, if_true]
        cases rightB N us <;> cases rightB M vs <;> by_cases h1 : N = (ts.length : Int) <;> by_cases h2 : N = M <;> simp_all
      clear hok hlen hn
      go_wp2_with fail
      refine (sum_any m A1 l1 c1 ts _ HX.out q1 q2).mono ?_
      rintro e x1 ⟨rfl, hb⟩
      rw [HE.out, HSt.out]
      clear r0 r1 z0 z1
      have Qa := Lib.hid (Qa.out.keep hb)
      have Qb := Lib.hid (Qb.out.keep hb)
      have HU := Lib.hid (HU.out.below hb)
      have HV := Lib.hid (HV.out.below hb)
      have HX := Lib.hid (HX.out.below hb)
      have HT := Lib.hid (HT.out.below hb)
      have B := Lib.hid (chain B.out hb)
      clear hb
      obtain ⟨r0, r1, -, -⟩ := Qa.out.two
      obtain ⟨z0, z1, -, -⟩ := Qb.out.two
      by_cases hmid : 0 < l1 ∧ l1 < 63
      · obtain ⟨hm1, hm2⟩ := hmid
        have g1 : (0 : Int) < (l1 : Int) := by omega
        have g2 : (l1 : Int) < 63 := by omega
        have g3 : ¬ ((l1 : Int) = 0) := by omega
        obtain ⟨r, er, hr1, hr2⟩ := remN by0 l1 hm1
        obtain ⟨y, ey, hy⟩ : ∃ y : Nat, r % (l1 : Int) = (y : Int) ∧ y < l1 := ⟨(r % (l1 : Int)).toNat, by have := Int.emod_nonneg r g3; omega, by have := Int.emod_nonneg r g3; have := Int.emod_lt_of_pos r g1; omega⟩
        have ey2 : (r + (l1 : Int)) % (l1 : Int) = (y : Int) := by rw [Int.add_emod_right, ey]
        obtain ⟨bb, off, eA, hblt, -⟩ := HX.out.2.2 hm1
        subst eA
        obtain ⟨i0, hi', hz0', hz1', hz2'⟩ := info_parts string_info
        have HI := Lib.hid hi'
        have HZ0 := Lib.hid hz0'
        have HZ1 := Lib.hid hz1'
        have HZ2 := Lib.hid hz2'
        clear hi' hz0' hz1' hz2' hblt
        go_wp2_with fail
        simp only [ey2]
        clear er ey ey2 hr1 hr2
        have y0 : (0 : Int) ≤ (y : Int) := by omega
        have y1 : (y : Int) < (l1 : Int) := by omega
        have y2 : (y : Int) ≤ (c1 : Int) := by omega
        have y3' : y ≤ l1 := by omega
        have cy : ¬ c1 = y := by omega
        have c0' : ¬ c1 = 0 := by omega
        have y3 : (y : Int) ≤ (l1 : Int) := by omega
        have HTu := Lib.hid (sum_turn HOK.out y)
        have HMm := Lib.hid (texts_mem HX.out)
        have N0 := Lib.hid (show ∀ (w : World) (b : Addr) (j : Nat) (u : Value), ([] : List Value)[j]? = some u → w.cell? (b.add j) = some u from fun w b j u hu => by simp at hu)
        have L5 := Lib.hid (show (((ts.drop y).take (l1 - y)).map Value.string).length = (l1 - y) * 1 by rw [List.length_map, List.length_take, List.length_drop, HL.out]; omega)
        have L6 := Lib.hid (show (((ts.drop 0).take y).map Value.string).length = y * 1 by rw [List.length_map, List.length_take, List.length_drop, HL.out]; omega)
        have N5 := Lib.hid (news_texts (HX.out.below ((Below.refl _ x1).alloc (Nat.le_refl _) (.cells #[] 9))) y (l1 - y) (by omega))
        have N6 := Lib.hid (fun (w6 : World) (hb : Below x1.heap.size x1 w6) => news_texts (HX.out.below hb) 0 y (by omega))
        have a1 : 0 < 0 + (l1 - y) := by omega
        have a2 : 0 + (l1 - y) ≤ maxLen := by unfold maxLen; omega
        have a3 : (0 + (l1 - y)) * 16 ≤ 140737488355328 := by omega
        have a4 : 0 + (l1 - y) + y ≤ maxLen := by unfold maxLen; omega
        have a5 : (0 + (l1 - y) + y) * 16 ≤ 140737488355328 := by omega
        have a6 : 0 + (l1 - y) + y = l1 := by omega
        have O6 := Lib.hid (news_ones ((ts.drop 0).take y))
        go_region_law (first
          | (refine step_grows rfl (.tmp 78) (.tmp 81) 43 rfl 9 i0 (.string ⟨#[]⟩) 1 16 Tryd.underlying43 HI.out HZ0.out HZ1.out HZ2.out rfl (by decide) ⟨x1.heap.size, 0, none⟩ 0 0 [] ?hs rfl (N0.out _ _) ⟨bb, off + y, none⟩ (l1 - y) (c1 - y) (((ts.drop y).take (l1 - y)).map Value.string) ?hx L5.out N5.out a1 a2 a3 ?rest; (case hs => simp [Act.eval, Act.put]); (case hx => simp [Act.eval, Act.put, cy]); intro v5 w5 hown hgrow; have hb5 := below_grown5 hgrow; have HB5 := Lib.hid hb5; have HO5 := Lib.hid hown; have HG5 := Lib.hid hgrow; clear hown hgrow hb5; have N6 := Lib.hid (N6.out w5 HB5.out); have b5 := own_base HO5.out)
          | (refine step_own rfl (.tmp 82) (.tmp 85) 43 rfl (x1.heap.size + 1) 9 i0 (.string ⟨#[]⟩) 1 16 Tryd.underlying43 HI.out HZ0.out HZ1.out HZ2.out rfl (by decide) v5 (0 + (l1 - y)) _ ?hs2 b5 ⟨bb, off + 0, none⟩ y c1 (((ts.drop 0).take y).map Value.string) ?hx2 L6.out N6.out O6.out a4 a5 (own_le HG5.out) ?rest2; (case hs2 => simp [Act.eval, Act.put]); (case hx2 => simp [Act.eval, Act.put]); intro v6 w6 hown hgrow; have hb6 : Below x1.heap.size x1 w6 := Below.grown HB5.out hgrow HB5.out.size (fun k hk => Nat.le_of_succ_le (b5.lt k hk).1); have HB6 := Lib.hid hb6; clear hgrow hb6; obtain ⟨A6, c6, rfl, hc6, hm6, ht6⟩ := turned_texts hown a6 HL.out y3' HMm.out; have HT6 := Lib.hid ht6; clear ht6 hown)
          | (go_simp; go_at_call 28; refine (sum_any m A6 l1 c6 (ts.drop y ++ ts.take y) _ HT6.out hc6 hm6).mono ?_; rintro e1 x2 ⟨rfl, hb⟩; rw [HTu.out.1, HTu.out.2]; have hb2 := Lib.hid (chain HB6.out hb); clear hb))
        clear r0 r1 z0 z1
        have Qa := Lib.hid (Qa.out.keep hb2.out)
        have Qb := Lib.hid (Qb.out.keep hb2.out)
        have HU := Lib.hid (HU.out.below hb2.out)
        have HV := Lib.hid (HV.out.below hb2.out)
        have HX := Lib.hid (HX.out.below hb2.out)
        have HT := Lib.hid (HT.out.below hb2.out)
        have B := Lib.hid (chain B.out hb2.out)
        clear hb2 HB6 HT6 HB5 HO5 HG5 N5 N6 b5 N0
        obtain ⟨r0, r1, -, -⟩ := Qa.out.two
        obtain ⟨z0, z1, -, -⟩ := Qb.out.two
        go_wp2_with fail
        have HCl := Lib.hid (texts_cell HX.out hy)
        obtain ⟨s, es⟩ : ∃ s, ts.getD y ByteArray.empty = s := ⟨_, rfl⟩
        rw [es] at HCl
        clear es
        have hcl := HCl.out.1
        have HTw := Lib.hid (sum_two (s := s) HOK.out (by rw [HL.out]; omega) HCl.out.2.1)
        have L7 := Lib.hid (show (((ts.drop 0).take l1).map Value.string).length = l1 * 1 by rw [List.length_map, List.length_take, List.length_drop, HL.out]; omega)
        have L8 := Lib.hid (show [Value.string s, Value.string s].length = 2 * 1 from rfl)
        have N7 := Lib.hid (news_texts (HX.out.below ((Below.refl _ x2).alloc (Nat.le_refl _) (.cells #[.string s, .string s] 9))) 0 l1 (by omega))
        have N8 := Lib.hid (news_drew (World.news_of_block (Box.new x2 9 #[.string s, .string s])))
        have a1 : 2 < 2 + l1 := by omega
        have a2 : 2 + l1 ≤ maxLen := by unfold maxLen; omega
        have a3 : (2 + l1) * 16 ≤ 140737488355328 := by omega
        have a6 : 2 + l1 = l1 + 2 := by omega
        go_region_law (first
          | (refine step_grows rfl (.tmp 100) (.tmp 101) 43 rfl 9 i0 (.string ⟨#[]⟩) 1 16 Tryd.underlying43 HI.out HZ0.out HZ1.out HZ2.out rfl (by decide) ⟨x2.heap.size, 0, none⟩ 2 2 [.string s, .string s] ?_ L8.out N8.out ⟨bb, off + 0, none⟩ l1 c1 (((ts.drop 0).take l1).map Value.string) ?_ L7.out N7.out a1 a2 a3 ?_; simp [Act.eval, Act.put]; simp [Act.eval, Act.put]; intro v5 w5 hown hgrow; have hb5 := below_grown5 hgrow; have HB5 := Lib.hid hb5; clear hgrow hb5; obtain ⟨A6, c6, rfl, hc6, hm6, ht6⟩ := twice_texts hown a6 HL.out (HMm.out s HCl.out.2.1) HMm.out; have HT6 := Lib.hid ht6; clear ht6 hown)
          | (go_simp; go_at_call 28; refine (sum_any m A6 (l1 + 2) c6 (s :: s :: ts) _ HT6.out hc6 hm6).mono ?_; rintro e1 x3 ⟨rfl, hb⟩; rw [HTw.out.1, HTw.out.2]; have hb2 := Lib.hid (chain HB5.out hb); clear hb))
        all_goals
          clear r0 r1 z0 z1
          have Qa := Lib.hid (Qa.out.keep hb2.out)
          have Qb := Lib.hid (Qb.out.keep hb2.out)
          have HU := Lib.hid (HU.out.below hb2.out)
          have HV := Lib.hid (HV.out.below hb2.out)
          have HX := Lib.hid (HX.out.below hb2.out)
          have HT := Lib.hid (HT.out.below hb2.out)
          have B := Lib.hid (chain B.out hb2.out)
          clear hb2 HT6 HB5 N7 N8 HCl HTw HTu hcl
          obtain ⟨r0, r1, -, -⟩ := Qa.out.two
          obtain ⟨z0, z1, -, -⟩ := Qb.out.two
          rcases tj with ⟨t1, t2, t3⟩ | ⟨t2, t1⟩ | ⟨t2, t1⟩ | ⟨t2, t1⟩
          · skip
            obtain ⟨R1, R2, R3⟩ := joinE_ok t1
            have T3 := Lib.hid t3
            have T2 := Lib.hid t2
            have HR := Lib.hid R1
            have HR2 := Lib.hid R2
            have HNM := Lib.hid R3
            have HNl := Lib.hid (show N = (l1 : Int) by
              have := T2.out
              simp only [pickE, HOK.out, HR.out, if_true, Bool.true_and, HL.out] at this
              by_cases h : N = (l1 : Int)
              · exact h
              · have e : (N == (l1 : Int)) = false := by simpa using h
                rw [e] at this; cases this)
            have HLen := Lib.hid (show us.length = vs.length by rw [HU.out.1, HV.out.1]; have h2 := HR2.out; rw [← HNM.out] at h2; exact (rightB_len HR.out h2 HU.out.1 HV.out.1).symm)
            have HRx := Lib.hid (show rightB N (xorL us vs) = true by have h2 := HR2.out; rw [← HNM.out] at h2; exact right_xor HR.out h2)
            have HXX := Lib.hid (fun w => xor_any N M Aw Bw j1 dA k1 dB us vs w)
            rw [t1, show joinN N us M vs = N by unfold joinN; rw [HR.out, HR2.out, HNM.out]; simp, show joinW (· ^^^ ·) N us M vs = xorL us vs by unfold joinW; rw [HR.out, HR2.out, HNM.out]; simp [xorL]] at HXX
            have eN : (N == (ts.length : Int)) = true := by rw [HL.out]; simp [HNl.out]
            have eM : (M == (ts.length : Int)) = true := by rw [HL.out, ← HNM.out]; simp [HNl.out]
            have okP : ∀ zs : List Nat, okS m (picks ts (plcN zs l1)) = true := fun zs => by have := okS_picks HOK.out zs; rwa [HL.out] at this
            have eL : ((l1 : Int) == (ts.length : Int)) = true := by rw [HL.out]; simp
            have PS : ∀ zs, pickS m ts N zs = if rightB N zs then ⟨(sumL m (picks ts (plcN zs l1))).toArray⟩ else ⟨#[]⟩ := fun zs => by
              simp only [pickS, HOK.out, Bool.and_true, Bool.true_and, HNl.out, eL, Int.toNat_natCast, sumS, okP zs, if_true]
            have HSa := Lib.hid (show pickS m ts N us = ⟨(sumL m (picks ts (plcN us l1))).toArray⟩ by rw [PS, HR.out]; rfl)
            have HSb := Lib.hid (show pickS m ts M vs = ⟨(sumL m (picks ts (plcN vs l1))).toArray⟩ by rw [← HNM.out, PS, show rightB N vs = true by rw [HNM.out]; exact HR2.out]; rfl)
            have HSx := Lib.hid (show pickS m ts N (xorL us vs) = ⟨(sumL m (picks ts (plcN (xorL us vs) l1))).toArray⟩ by rw [PS, HRx.out]; rfl)
            have HEx := Lib.hid (show pickE m ts N (xorL us vs) = 0 by simp only [pickE, HOK.out, HRx.out, eN]; rfl)
            have hl64u : l1 ≤ 64 * us.length := by
              have := right_len_eq HR.out
              rw [HNl.out, Int.toNat_natCast] at this
              unfold nw at this; omega
            have HBoth := Lib.hid (sum_both m ts us vs HLen.out l1 hl64u)
            clear t1 t2 t3 R1 R2 R3 eN eM okP PS hl64u eL
            go_wp2_with fail
            refine (HXX.out _ HU.out HV.out).mono ?_
            rintro e x2 ⟨A4, l4, c4, rfl, hw, hb⟩
            clear r0 r1 z0 z1
            have Hx := Lib.hid (hw)
            have Qa := Lib.hid (Qa.out.keep hb)
            have Qb := Lib.hid (Qb.out.keep hb)
            have HU := Lib.hid (HU.out.below hb)
            have HV := Lib.hid (HV.out.below hb)
            have HX := Lib.hid (HX.out.below hb)
            have HT := Lib.hid (HT.out.below hb)
            have B := Lib.hid (chain B.out hb)
            clear hb
            clear hw HXX
            have hal : Below x2.heap.size x2 (x2.alloc (.cells #[.int .i64 N, .slice A4 l4 c4] 24)) := (Below.refl _ _).alloc (Nat.le_refl _) _
            have Qa := Lib.hid (Qa.out.keep hal)
            have Qb := Lib.hid (Qb.out.keep hal)
            have HU := Lib.hid (HU.out.below hal)
            have HV := Lib.hid (HV.out.below hal)
            have HX := Lib.hid (HX.out.below hal)
            have HT := Lib.hid (HT.out.below hal)
            have Hx := Lib.hid (Hx.out.below hal)
            have B := Lib.hid (chain B.out hal)
            have Qx := Lib.hid (Box.new x2 24 #[.int .i64 N, .slice A4 l4 c4])
            clear hal
            obtain ⟨r0, r1, -, -⟩ := Qa.out.two
            obtain ⟨z0, z1, -, -⟩ := Qb.out.two
            obtain ⟨x0, x1, -, -⟩ := Qx.out.two
            go_wp2_with fail
            refine (pick_any m (some ⟨bb, off, none⟩) l1 c1 ts N Aw j1 dA us _ HX.out q1 q2 HU.out HT.out).mono ?_
            rintro e x3 ⟨rfl, hb⟩
            rw [T2.out, HSa.out]
            clear r0 r1 z0 z1 x0 x1
            have Qa := Lib.hid (Qa.out.keep hb)
            have Qb := Lib.hid (Qb.out.keep hb)
            have HU := Lib.hid (HU.out.below hb)
            have HV := Lib.hid (HV.out.below hb)
            have HX := Lib.hid (HX.out.below hb)
            have HT := Lib.hid (HT.out.below hb)
            have Hx := Lib.hid (Hx.out.below hb)
            have Qx := Lib.hid (Qx.out.keep hb)
            have B := Lib.hid (chain B.out hb)
            clear hb
            obtain ⟨r0, r1, -, -⟩ := Qa.out.two
            obtain ⟨z0, z1, -, -⟩ := Qb.out.two
            obtain ⟨x0, x1, -, -⟩ := Qx.out.two
            go_wp2_with fail
            refine (pick_any m (some ⟨bb, off, none⟩) l1 c1 ts M Bw k1 dB vs _ HX.out q1 q2 HV.out HT.out).mono ?_
            rintro e x4 ⟨rfl, hb⟩
            rw [T3.out, HSb.out]
            clear r0 r1 z0 z1 x0 x1
            have Qa := Lib.hid (Qa.out.keep hb)
            have Qb := Lib.hid (Qb.out.keep hb)
            have HU := Lib.hid (HU.out.below hb)
            have HV := Lib.hid (HV.out.below hb)
            have HX := Lib.hid (HX.out.below hb)
            have HT := Lib.hid (HT.out.below hb)
            have Hx := Lib.hid (Hx.out.below hb)
            have Qx := Lib.hid (Qx.out.keep hb)
            have B := Lib.hid (chain B.out hb)
            clear hb
            obtain ⟨r0, r1, -, -⟩ := Qa.out.two
            obtain ⟨z0, z1, -, -⟩ := Qb.out.two
            obtain ⟨x0, x1, -, -⟩ := Qx.out.two
            go_wp2_with fail
            refine (pick_any m (some ⟨bb, off, none⟩) l1 c1 ts N A4 l4 c4 (xorL us vs) _ HX.out q1 q2 Hx.out HT.out).mono ?_
            rintro e x5 ⟨rfl, hb⟩
            rw [HEx.out, HSx.out]
            clear r0 r1 z0 z1 x0 x1
            have Qa := Lib.hid (Qa.out.keep hb)
            have Qb := Lib.hid (Qb.out.keep hb)
            have HU := Lib.hid (HU.out.below hb)
            have HV := Lib.hid (HV.out.below hb)
            have HX := Lib.hid (HX.out.below hb)
            have HT := Lib.hid (HT.out.below hb)
            have Hx := Lib.hid (Hx.out.below hb)
            have Qx := Lib.hid (Qx.out.keep hb)
            have B := Lib.hid (chain B.out hb)
            clear hb
            obtain ⟨r0, r1, -, -⟩ := Qa.out.two
            obtain ⟨z0, z1, -, -⟩ := Qb.out.two
            obtain ⟨x0, x1, -, -⟩ := Qx.out.two
            go_wp2_with fail
            have HBX := Lib.hid (bxor_any ⟨(sumL m (picks ts (plcN us l1))).toArray⟩ ⟨(sumL m (picks ts (plcN vs l1))).toArray⟩ (by show (sumL m _).toArray.size ≤ maxLen; rw [List.size_toArray, sumL_length]; unfold maxLen; omega) (by show (sumL m _).toArray.size ≤ maxLen; rw [List.size_toArray, sumL_length]; unfold maxLen; omega))
            have HPk := Lib.hid (pair_ok m (sumL m (picks ts (plcN us l1))) (sumL m (picks ts (plcN vs l1))) (sumL_length _ _) (sumL_length _ _) hm64)
            refine (HBX.out _).mono ?_
            rintro e x6 ⟨rfl, hb⟩
            rw [HPk.out.1, HPk.out.2, HBoth.out]
            clear r0 r1 z0 z1 x0 x1
            have Qa := Lib.hid (Qa.out.keep hb)
            have Qb := Lib.hid (Qb.out.keep hb)
            have HU := Lib.hid (HU.out.below hb)
            have HV := Lib.hid (HV.out.below hb)
            have HX := Lib.hid (HX.out.below hb)
            have HT := Lib.hid (HT.out.below hb)
            have Hx := Lib.hid (Hx.out.below hb)
            have Qx := Lib.hid (Qx.out.keep hb)
            have B := Lib.hid (chain B.out hb)
            clear hb
            obtain ⟨r0, r1, -, -⟩ := Qa.out.two
            obtain ⟨z0, z1, -, -⟩ := Qb.out.two
            obtain ⟨x0, x1, -, -⟩ := Qx.out.two
            go_wp2_with fail
            refine (alive2_any _).mono ?_
            rintro e x7 ⟨rfl, hb⟩
            clear r0 r1 z0 z1 x0 x1
            have Qa := Lib.hid (Qa.out.keep hb)
            have Qb := Lib.hid (Qb.out.keep hb)
            have HU := Lib.hid (HU.out.below hb)
            have HV := Lib.hid (HV.out.below hb)
            have HX := Lib.hid (HX.out.below hb)
            have HT := Lib.hid (HT.out.below hb)
            have Hx := Lib.hid (Hx.out.below hb)
            have Qx := Lib.hid (Qx.out.keep hb)
            have B := Lib.hid (chain B.out hb)
            clear hb
            obtain ⟨r0, r1, -, -⟩ := Qa.out.two
            obtain ⟨z0, z1, -, -⟩ := Qb.out.two
            obtain ⟨x0, x1, -, -⟩ := Qx.out.two
            go_wp2_with fail
            go_ret
            exact ⟨by first | rfl | simp, B.out⟩
          · skip
            have T1 := Lib.hid t1
            have T2 := Lib.hid t2
            have HXX := Lib.hid (fun w => xor_any N M Aw Bw j1 dA k1 dB us vs w)
            rw [t1] at HXX
            clear t1
            clear t2
            go_wp2_with fail
            refine (HXX.out _ HU.out HV.out).mono ?_
            rintro e x2 ⟨A4, l4, c4, rfl, hw, hb⟩
            clear r0 r1 z0 z1
            have Hx := Lib.hid (hw)
            have Qa := Lib.hid (Qa.out.keep hb)
            have Qb := Lib.hid (Qb.out.keep hb)
            have HU := Lib.hid (HU.out.below hb)
            have HV := Lib.hid (HV.out.below hb)
            have HX := Lib.hid (HX.out.below hb)
            have HT := Lib.hid (HT.out.below hb)
            have B := Lib.hid (chain B.out hb)
            clear hb
            clear hw HXX
            have hal : Below x2.heap.size x2 (x2.alloc (.cells #[.int .i64 (joinN N us M vs), .slice A4 l4 c4] 24)) := (Below.refl _ _).alloc (Nat.le_refl _) _
            have Qa := Lib.hid (Qa.out.keep hal)
            have Qb := Lib.hid (Qb.out.keep hal)
            have HU := Lib.hid (HU.out.below hal)
            have HV := Lib.hid (HV.out.below hal)
            have HX := Lib.hid (HX.out.below hal)
            have HT := Lib.hid (HT.out.below hal)
            have Hx := Lib.hid (Hx.out.below hal)
            have B := Lib.hid (chain B.out hal)
            have Qx := Lib.hid (Box.new x2 24 #[.int .i64 (joinN N us M vs), .slice A4 l4 c4])
            clear hal
            obtain ⟨r0, r1, -, -⟩ := Qa.out.two
            obtain ⟨z0, z1, -, -⟩ := Qb.out.two
            obtain ⟨x0, x1, -, -⟩ := Qx.out.two
            go_wp2_with fail
            refine (pick_any m (some ⟨bb, off, none⟩) l1 c1 ts N Aw j1 dA us _ HX.out q1 q2 HU.out HT.out).mono ?_
            rintro e x3 ⟨rfl, hb⟩
            rw [T2.out]
            clear r0 r1 z0 z1 x0 x1
            have Qa := Lib.hid (Qa.out.keep hb)
            have Qb := Lib.hid (Qb.out.keep hb)
            have HU := Lib.hid (HU.out.below hb)
            have HV := Lib.hid (HV.out.below hb)
            have HX := Lib.hid (HX.out.below hb)
            have HT := Lib.hid (HT.out.below hb)
            have Hx := Lib.hid (Hx.out.below hb)
            have Qx := Lib.hid (Qx.out.keep hb)
            have B := Lib.hid (chain B.out hb)
            clear hb
            obtain ⟨r0, r1, -, -⟩ := Qa.out.two
            obtain ⟨z0, z1, -, -⟩ := Qb.out.two
            obtain ⟨x0, x1, -, -⟩ := Qx.out.two
            go_wp2_with fail
            refine (pick_any m (some ⟨bb, off, none⟩) l1 c1 ts M Bw k1 dB vs _ HX.out q1 q2 HV.out HT.out).mono ?_
            rintro e x4 ⟨rfl, hb⟩
            clear r0 r1 z0 z1 x0 x1
            have Qa := Lib.hid (Qa.out.keep hb)
            have Qb := Lib.hid (Qb.out.keep hb)
            have HU := Lib.hid (HU.out.below hb)
            have HV := Lib.hid (HV.out.below hb)
            have HX := Lib.hid (HX.out.below hb)
            have HT := Lib.hid (HT.out.below hb)
            have Hx := Lib.hid (Hx.out.below hb)
            have Qx := Lib.hid (Qx.out.keep hb)
            have B := Lib.hid (chain B.out hb)
            clear hb
            obtain ⟨r0, r1, -, -⟩ := Qa.out.two
            obtain ⟨z0, z1, -, -⟩ := Qb.out.two
            obtain ⟨x0, x1, -, -⟩ := Qx.out.two
            go_wp2_with fail
            refine (pick_any m (some ⟨bb, off, none⟩) l1 c1 ts (joinN N us M vs) A4 l4 c4 (joinW (· ^^^ ·) N us M vs) _ HX.out q1 q2 Hx.out HT.out).mono ?_
            rintro e x5 ⟨rfl, hb⟩
            clear r0 r1 z0 z1 x0 x1
            have Qa := Lib.hid (Qa.out.keep hb)
            have Qb := Lib.hid (Qb.out.keep hb)
            have HU := Lib.hid (HU.out.below hb)
            have HV := Lib.hid (HV.out.below hb)
            have HX := Lib.hid (HX.out.below hb)
            have HT := Lib.hid (HT.out.below hb)
            have Hx := Lib.hid (Hx.out.below hb)
            have Qx := Lib.hid (Qx.out.keep hb)
            have B := Lib.hid (chain B.out hb)
            clear hb
            obtain ⟨r0, r1, -, -⟩ := Qa.out.two
            obtain ⟨z0, z1, -, -⟩ := Qb.out.two
            obtain ⟨x0, x1, -, -⟩ := Qx.out.two
            go_wp2_with fail
            refine (alive2_any _).mono ?_
            rintro e x6 ⟨rfl, hb⟩
            clear r0 r1 z0 z1 x0 x1
            have Qa := Lib.hid (Qa.out.keep hb)
            have Qb := Lib.hid (Qb.out.keep hb)
            have HU := Lib.hid (HU.out.below hb)
            have HV := Lib.hid (HV.out.below hb)
            have HX := Lib.hid (HX.out.below hb)
            have HT := Lib.hid (HT.out.below hb)
            have Hx := Lib.hid (Hx.out.below hb)
            have Qx := Lib.hid (Qx.out.keep hb)
            have B := Lib.hid (chain B.out hb)
            clear hb
            obtain ⟨r0, r1, -, -⟩ := Qa.out.two
            obtain ⟨z0, z1, -, -⟩ := Qb.out.two
            obtain ⟨x0, x1, -, -⟩ := Qx.out.two
            go_wp2_with fail
            go_ret
            exact ⟨by first | rfl | simp, B.out⟩
          · skip
            have T2 := Lib.hid t2
            have HXX := Lib.hid (fun w => xor_any N M Aw Bw j1 dA k1 dB us vs w)
            generalize joinE N us M vs = je at *
            clear t2
            go_wp2_with fail
            refine (HXX.out _ HU.out HV.out).mono ?_
            rintro e x2 ⟨A4, l4, c4, rfl, hw, hb⟩
            clear r0 r1 z0 z1
            have Hx := Lib.hid (hw)
            have Qa := Lib.hid (Qa.out.keep hb)
            have Qb := Lib.hid (Qb.out.keep hb)
            have HU := Lib.hid (HU.out.below hb)
            have HV := Lib.hid (HV.out.below hb)
            have HX := Lib.hid (HX.out.below hb)
            have HT := Lib.hid (HT.out.below hb)
            have B := Lib.hid (chain B.out hb)
            clear hb
            clear hw HXX
            have hal : Below x2.heap.size x2 (x2.alloc (.cells #[.int .i64 (joinN N us M vs), .slice A4 l4 c4] 24)) := (Below.refl _ _).alloc (Nat.le_refl _) _
            have Qa := Lib.hid (Qa.out.keep hal)
            have Qb := Lib.hid (Qb.out.keep hal)
            have HU := Lib.hid (HU.out.below hal)
            have HV := Lib.hid (HV.out.below hal)
            have HX := Lib.hid (HX.out.below hal)
            have HT := Lib.hid (HT.out.below hal)
            have Hx := Lib.hid (Hx.out.below hal)
            have B := Lib.hid (chain B.out hal)
            have Qx := Lib.hid (Box.new x2 24 #[.int .i64 (joinN N us M vs), .slice A4 l4 c4])
            clear hal
            obtain ⟨r0, r1, -, -⟩ := Qa.out.two
            obtain ⟨z0, z1, -, -⟩ := Qb.out.two
            obtain ⟨x0, x1, -, -⟩ := Qx.out.two
            go_wp2_with fail
            refine (pick_any m (some ⟨bb, off, none⟩) l1 c1 ts N Aw j1 dA us _ HX.out q1 q2 HU.out HT.out).mono ?_
            rintro e x3 ⟨rfl, hb⟩
            rw [T2.out]
            clear r0 r1 z0 z1 x0 x1
            have Qa := Lib.hid (Qa.out.keep hb)
            have Qb := Lib.hid (Qb.out.keep hb)
            have HU := Lib.hid (HU.out.below hb)
            have HV := Lib.hid (HV.out.below hb)
            have HX := Lib.hid (HX.out.below hb)
            have HT := Lib.hid (HT.out.below hb)
            have Hx := Lib.hid (Hx.out.below hb)
            have Qx := Lib.hid (Qx.out.keep hb)
            have B := Lib.hid (chain B.out hb)
            clear hb
            obtain ⟨r0, r1, -, -⟩ := Qa.out.two
            obtain ⟨z0, z1, -, -⟩ := Qb.out.two
            obtain ⟨x0, x1, -, -⟩ := Qx.out.two
            go_wp2_with fail
            refine (pick_any m (some ⟨bb, off, none⟩) l1 c1 ts M Bw k1 dB vs _ HX.out q1 q2 HV.out HT.out).mono ?_
            rintro e x4 ⟨rfl, hb⟩
            clear r0 r1 z0 z1 x0 x1
            have Qa := Lib.hid (Qa.out.keep hb)
            have Qb := Lib.hid (Qb.out.keep hb)
            have HU := Lib.hid (HU.out.below hb)
            have HV := Lib.hid (HV.out.below hb)
            have HX := Lib.hid (HX.out.below hb)
            have HT := Lib.hid (HT.out.below hb)
            have Hx := Lib.hid (Hx.out.below hb)
            have Qx := Lib.hid (Qx.out.keep hb)
            have B := Lib.hid (chain B.out hb)
            clear hb
            obtain ⟨r0, r1, -, -⟩ := Qa.out.two
            obtain ⟨z0, z1, -, -⟩ := Qb.out.two
            obtain ⟨x0, x1, -, -⟩ := Qx.out.two
            go_wp2_with fail
            refine (pick_any m (some ⟨bb, off, none⟩) l1 c1 ts (joinN N us M vs) A4 l4 c4 (joinW (· ^^^ ·) N us M vs) _ HX.out q1 q2 Hx.out HT.out).mono ?_
            rintro e x5 ⟨rfl, hb⟩
            clear r0 r1 z0 z1 x0 x1
            have Qa := Lib.hid (Qa.out.keep hb)
            have Qb := Lib.hid (Qb.out.keep hb)
            have HU := Lib.hid (HU.out.below hb)
            have HV := Lib.hid (HV.out.below hb)
            have HX := Lib.hid (HX.out.below hb)
            have HT := Lib.hid (HT.out.below hb)
            have Hx := Lib.hid (Hx.out.below hb)
            have Qx := Lib.hid (Qx.out.keep hb)
            have B := Lib.hid (chain B.out hb)
            clear hb
            obtain ⟨r0, r1, -, -⟩ := Qa.out.two
            obtain ⟨z0, z1, -, -⟩ := Qb.out.two
            obtain ⟨x0, x1, -, -⟩ := Qx.out.two
            go_wp2_with fail
            refine (alive2_any _).mono ?_
            rintro e x6 ⟨rfl, hb⟩
            clear r0 r1 z0 z1 x0 x1
            have Qa := Lib.hid (Qa.out.keep hb)
            have Qb := Lib.hid (Qb.out.keep hb)
            have HU := Lib.hid (HU.out.below hb)
            have HV := Lib.hid (HV.out.below hb)
            have HX := Lib.hid (HX.out.below hb)
            have HT := Lib.hid (HT.out.below hb)
            have Hx := Lib.hid (Hx.out.below hb)
            have Qx := Lib.hid (Qx.out.keep hb)
            have B := Lib.hid (chain B.out hb)
            clear hb
            obtain ⟨r0, r1, -, -⟩ := Qa.out.two
            obtain ⟨z0, z1, -, -⟩ := Qb.out.two
            obtain ⟨x0, x1, -, -⟩ := Qx.out.two
            go_wp2_with fail
            go_ret
            exact ⟨by first | rfl | simp, B.out⟩
          · skip
            have T2 := Lib.hid t2
            have HXX := Lib.hid (fun w => xor_any N M Aw Bw j1 dA k1 dB us vs w)
            generalize joinE N us M vs = je at *
            have HSz := Lib.hid (pick_len m ts N us HOK.out T2.out)
            generalize hpS : pickS m ts N us = pS at *
            have HPS := Lib.hid hpS
            clear hpS
            have hsz : (pS.size : Int) = (m : Int) := by rw [HSz.out]
            clear t2
            go_wp2_with fail
            refine (HXX.out _ HU.out HV.out).mono ?_
            rintro e x2 ⟨A4, l4, c4, rfl, hw, hb⟩
            clear r0 r1 z0 z1
            have Hx := Lib.hid (hw)
            have Qa := Lib.hid (Qa.out.keep hb)
            have Qb := Lib.hid (Qb.out.keep hb)
            have HU := Lib.hid (HU.out.below hb)
            have HV := Lib.hid (HV.out.below hb)
            have HX := Lib.hid (HX.out.below hb)
            have HT := Lib.hid (HT.out.below hb)
            have B := Lib.hid (chain B.out hb)
            clear hb
            clear hw HXX
            have hal : Below x2.heap.size x2 (x2.alloc (.cells #[.int .i64 (joinN N us M vs), .slice A4 l4 c4] 24)) := (Below.refl _ _).alloc (Nat.le_refl _) _
            have Qa := Lib.hid (Qa.out.keep hal)
            have Qb := Lib.hid (Qb.out.keep hal)
            have HU := Lib.hid (HU.out.below hal)
            have HV := Lib.hid (HV.out.below hal)
            have HX := Lib.hid (HX.out.below hal)
            have HT := Lib.hid (HT.out.below hal)
            have Hx := Lib.hid (Hx.out.below hal)
            have B := Lib.hid (chain B.out hal)
            have Qx := Lib.hid (Box.new x2 24 #[.int .i64 (joinN N us M vs), .slice A4 l4 c4])
            clear hal
            obtain ⟨r0, r1, -, -⟩ := Qa.out.two
            obtain ⟨z0, z1, -, -⟩ := Qb.out.two
            obtain ⟨x0, x1, -, -⟩ := Qx.out.two
            go_wp2_with fail
            refine (pick_any m (some ⟨bb, off, none⟩) l1 c1 ts N Aw j1 dA us _ HX.out q1 q2 HU.out HT.out).mono ?_
            rintro e x3 ⟨rfl, hb⟩
            rw [T2.out, HPS.out]
            clear r0 r1 z0 z1 x0 x1
            have Qa := Lib.hid (Qa.out.keep hb)
            have Qb := Lib.hid (Qb.out.keep hb)
            have HU := Lib.hid (HU.out.below hb)
            have HV := Lib.hid (HV.out.below hb)
            have HX := Lib.hid (HX.out.below hb)
            have HT := Lib.hid (HT.out.below hb)
            have Hx := Lib.hid (Hx.out.below hb)
            have Qx := Lib.hid (Qx.out.keep hb)
            have B := Lib.hid (chain B.out hb)
            clear hb
            obtain ⟨r0, r1, -, -⟩ := Qa.out.two
            obtain ⟨z0, z1, -, -⟩ := Qb.out.two
            obtain ⟨x0, x1, -, -⟩ := Qx.out.two
            go_wp2_with fail
            refine (pick_any m (some ⟨bb, off, none⟩) l1 c1 ts M Bw k1 dB vs _ HX.out q1 q2 HV.out HT.out).mono ?_
            rintro e x4 ⟨rfl, hb⟩
            clear r0 r1 z0 z1 x0 x1
            have Qa := Lib.hid (Qa.out.keep hb)
            have Qb := Lib.hid (Qb.out.keep hb)
            have HU := Lib.hid (HU.out.below hb)
            have HV := Lib.hid (HV.out.below hb)
            have HX := Lib.hid (HX.out.below hb)
            have HT := Lib.hid (HT.out.below hb)
            have Hx := Lib.hid (Hx.out.below hb)
            have Qx := Lib.hid (Qx.out.keep hb)
            have B := Lib.hid (chain B.out hb)
            clear hb
            obtain ⟨r0, r1, -, -⟩ := Qa.out.two
            obtain ⟨z0, z1, -, -⟩ := Qb.out.two
            obtain ⟨x0, x1, -, -⟩ := Qx.out.two
            go_wp2_with fail
            refine (pick_any m (some ⟨bb, off, none⟩) l1 c1 ts (joinN N us M vs) A4 l4 c4 (joinW (· ^^^ ·) N us M vs) _ HX.out q1 q2 Hx.out HT.out).mono ?_
            rintro e x5 ⟨rfl, hb⟩
            clear r0 r1 z0 z1 x0 x1
            have Qa := Lib.hid (Qa.out.keep hb)
            have Qb := Lib.hid (Qb.out.keep hb)
            have HU := Lib.hid (HU.out.below hb)
            have HV := Lib.hid (HV.out.below hb)
            have HX := Lib.hid (HX.out.below hb)
            have HT := Lib.hid (HT.out.below hb)
            have Hx := Lib.hid (Hx.out.below hb)
            have Qx := Lib.hid (Qx.out.keep hb)
            have B := Lib.hid (chain B.out hb)
            clear hb
            obtain ⟨r0, r1, -, -⟩ := Qa.out.two
            obtain ⟨z0, z1, -, -⟩ := Qb.out.two
            obtain ⟨x0, x1, -, -⟩ := Qx.out.two
            go_wp2_with fail
            refine (alive2_any _).mono ?_
            rintro e x6 ⟨rfl, hb⟩
            clear r0 r1 z0 z1 x0 x1
            have Qa := Lib.hid (Qa.out.keep hb)
            have Qb := Lib.hid (Qb.out.keep hb)
            have HU := Lib.hid (HU.out.below hb)
            have HV := Lib.hid (HV.out.below hb)
            have HX := Lib.hid (HX.out.below hb)
            have HT := Lib.hid (HT.out.below hb)
            have Hx := Lib.hid (Hx.out.below hb)
            have Qx := Lib.hid (Qx.out.keep hb)
            have B := Lib.hid (chain B.out hb)
            clear hb
            obtain ⟨r0, r1, -, -⟩ := Qa.out.two
            obtain ⟨z0, z1, -, -⟩ := Qb.out.two
            obtain ⟨x0, x1, -, -⟩ := Qx.out.two
            go_wp2_with fail
            go_ret
            exact ⟨by first | rfl | simp, B.out⟩
      · have hm0 : l1 = 0 ∨ 63 ≤ l1 := by omega
        clear hmid
        rcases hm0 with hm0 | hm0
        · have g1 : ¬ (0 : Int) < (l1 : Int) := by omega
          have hl0 : l1 ≤ 0 := by omega
          clear hm0
          rcases tj with ⟨t1, t2, t3⟩ | ⟨t2, t1⟩ | ⟨t2, t1⟩ | ⟨t2, t1⟩
          · skip
            obtain ⟨R1, R2, R3⟩ := joinE_ok t1
            have T3 := Lib.hid t3
            have T2 := Lib.hid t2
            have HR := Lib.hid R1
            have HR2 := Lib.hid R2
            have HNM := Lib.hid R3
            have HNl := Lib.hid (show N = (l1 : Int) by
              have := T2.out
              simp only [pickE, HOK.out, HR.out, if_true, Bool.true_and, HL.out] at this
              by_cases h : N = (l1 : Int)
              · exact h
              · have e : (N == (l1 : Int)) = false := by simpa using h
                rw [e] at this; cases this)
            have HLen := Lib.hid (show us.length = vs.length by rw [HU.out.1, HV.out.1]; have h2 := HR2.out; rw [← HNM.out] at h2; exact (rightB_len HR.out h2 HU.out.1 HV.out.1).symm)
            have HRx := Lib.hid (show rightB N (xorL us vs) = true by have h2 := HR2.out; rw [← HNM.out] at h2; exact right_xor HR.out h2)
            have HXX := Lib.hid (fun w => xor_any N M Aw Bw j1 dA k1 dB us vs w)
            rw [t1, show joinN N us M vs = N by unfold joinN; rw [HR.out, HR2.out, HNM.out]; simp, show joinW (· ^^^ ·) N us M vs = xorL us vs by unfold joinW; rw [HR.out, HR2.out, HNM.out]; simp [xorL]] at HXX
            have eN : (N == (ts.length : Int)) = true := by rw [HL.out]; simp [HNl.out]
            have eM : (M == (ts.length : Int)) = true := by rw [HL.out, ← HNM.out]; simp [HNl.out]
            have okP : ∀ zs : List Nat, okS m (picks ts (plcN zs l1)) = true := fun zs => by have := okS_picks HOK.out zs; rwa [HL.out] at this
            have eL : ((l1 : Int) == (ts.length : Int)) = true := by rw [HL.out]; simp
            have PS : ∀ zs, pickS m ts N zs = if rightB N zs then ⟨(sumL m (picks ts (plcN zs l1))).toArray⟩ else ⟨#[]⟩ := fun zs => by
              simp only [pickS, HOK.out, Bool.and_true, Bool.true_and, HNl.out, eL, Int.toNat_natCast, sumS, okP zs, if_true]
            have HSa := Lib.hid (show pickS m ts N us = ⟨(sumL m (picks ts (plcN us l1))).toArray⟩ by rw [PS, HR.out]; rfl)
            have HSb := Lib.hid (show pickS m ts M vs = ⟨(sumL m (picks ts (plcN vs l1))).toArray⟩ by rw [← HNM.out, PS, show rightB N vs = true by rw [HNM.out]; exact HR2.out]; rfl)
            have HSx := Lib.hid (show pickS m ts N (xorL us vs) = ⟨(sumL m (picks ts (plcN (xorL us vs) l1))).toArray⟩ by rw [PS, HRx.out]; rfl)
            have HEx := Lib.hid (show pickE m ts N (xorL us vs) = 0 by simp only [pickE, HOK.out, HRx.out, eN]; rfl)
            have hl64u : l1 ≤ 64 * us.length := by
              have := right_len_eq HR.out
              rw [HNl.out, Int.toNat_natCast] at this
              unfold nw at this; omega
            have HBoth := Lib.hid (sum_both m ts us vs HLen.out l1 hl64u)
            clear t1 t2 t3 R1 R2 R3 eN eM okP PS hl64u eL
            go_wp2_with fail
            refine (HXX.out _ HU.out HV.out).mono ?_
            rintro e x2 ⟨A4, l4, c4, rfl, hw, hb⟩
            clear r0 r1 z0 z1
            have Hx := Lib.hid (hw)
            have Qa := Lib.hid (Qa.out.keep hb)
            have Qb := Lib.hid (Qb.out.keep hb)
            have HU := Lib.hid (HU.out.below hb)
            have HV := Lib.hid (HV.out.below hb)
            have HX := Lib.hid (HX.out.below hb)
            have HT := Lib.hid (HT.out.below hb)
            have B := Lib.hid (chain B.out hb)
            clear hb
            clear hw HXX
            have hal : Below x2.heap.size x2 (x2.alloc (.cells #[.int .i64 N, .slice A4 l4 c4] 24)) := (Below.refl _ _).alloc (Nat.le_refl _) _
            have Qa := Lib.hid (Qa.out.keep hal)
            have Qb := Lib.hid (Qb.out.keep hal)
            have HU := Lib.hid (HU.out.below hal)
            have HV := Lib.hid (HV.out.below hal)
            have HX := Lib.hid (HX.out.below hal)
            have HT := Lib.hid (HT.out.below hal)
            have Hx := Lib.hid (Hx.out.below hal)
            have B := Lib.hid (chain B.out hal)
            have Qx := Lib.hid (Box.new x2 24 #[.int .i64 N, .slice A4 l4 c4])
            clear hal
            obtain ⟨r0, r1, -, -⟩ := Qa.out.two
            obtain ⟨z0, z1, -, -⟩ := Qb.out.two
            obtain ⟨x0, x1, -, -⟩ := Qx.out.two
            go_wp2_with fail
            refine (pick_any m A1 l1 c1 ts N Aw j1 dA us _ HX.out q1 q2 HU.out HT.out).mono ?_
            rintro e x3 ⟨rfl, hb⟩
            rw [T2.out, HSa.out]
            clear r0 r1 z0 z1 x0 x1
            have Qa := Lib.hid (Qa.out.keep hb)
            have Qb := Lib.hid (Qb.out.keep hb)
            have HU := Lib.hid (HU.out.below hb)
            have HV := Lib.hid (HV.out.below hb)
            have HX := Lib.hid (HX.out.below hb)
            have HT := Lib.hid (HT.out.below hb)
            have Hx := Lib.hid (Hx.out.below hb)
            have Qx := Lib.hid (Qx.out.keep hb)
            have B := Lib.hid (chain B.out hb)
            clear hb
            obtain ⟨r0, r1, -, -⟩ := Qa.out.two
            obtain ⟨z0, z1, -, -⟩ := Qb.out.two
            obtain ⟨x0, x1, -, -⟩ := Qx.out.two
            go_wp2_with fail
            refine (pick_any m A1 l1 c1 ts M Bw k1 dB vs _ HX.out q1 q2 HV.out HT.out).mono ?_
            rintro e x4 ⟨rfl, hb⟩
            rw [T3.out, HSb.out]
            clear r0 r1 z0 z1 x0 x1
            have Qa := Lib.hid (Qa.out.keep hb)
            have Qb := Lib.hid (Qb.out.keep hb)
            have HU := Lib.hid (HU.out.below hb)
            have HV := Lib.hid (HV.out.below hb)
            have HX := Lib.hid (HX.out.below hb)
            have HT := Lib.hid (HT.out.below hb)
            have Hx := Lib.hid (Hx.out.below hb)
            have Qx := Lib.hid (Qx.out.keep hb)
            have B := Lib.hid (chain B.out hb)
            clear hb
            obtain ⟨r0, r1, -, -⟩ := Qa.out.two
            obtain ⟨z0, z1, -, -⟩ := Qb.out.two
            obtain ⟨x0, x1, -, -⟩ := Qx.out.two
            go_wp2_with fail
            refine (pick_any m A1 l1 c1 ts N A4 l4 c4 (xorL us vs) _ HX.out q1 q2 Hx.out HT.out).mono ?_
            rintro e x5 ⟨rfl, hb⟩
            rw [HEx.out, HSx.out]
            clear r0 r1 z0 z1 x0 x1
            have Qa := Lib.hid (Qa.out.keep hb)
            have Qb := Lib.hid (Qb.out.keep hb)
            have HU := Lib.hid (HU.out.below hb)
            have HV := Lib.hid (HV.out.below hb)
            have HX := Lib.hid (HX.out.below hb)
            have HT := Lib.hid (HT.out.below hb)
            have Hx := Lib.hid (Hx.out.below hb)
            have Qx := Lib.hid (Qx.out.keep hb)
            have B := Lib.hid (chain B.out hb)
            clear hb
            obtain ⟨r0, r1, -, -⟩ := Qa.out.two
            obtain ⟨z0, z1, -, -⟩ := Qb.out.two
            obtain ⟨x0, x1, -, -⟩ := Qx.out.two
            go_wp2_with fail
            have HBX := Lib.hid (bxor_any ⟨(sumL m (picks ts (plcN us l1))).toArray⟩ ⟨(sumL m (picks ts (plcN vs l1))).toArray⟩ (by show (sumL m _).toArray.size ≤ maxLen; rw [List.size_toArray, sumL_length]; unfold maxLen; omega) (by show (sumL m _).toArray.size ≤ maxLen; rw [List.size_toArray, sumL_length]; unfold maxLen; omega))
            have HPk := Lib.hid (pair_ok m (sumL m (picks ts (plcN us l1))) (sumL m (picks ts (plcN vs l1))) (sumL_length _ _) (sumL_length _ _) hm64)
            refine (HBX.out _).mono ?_
            rintro e x6 ⟨rfl, hb⟩
            rw [HPk.out.1, HPk.out.2, HBoth.out]
            clear r0 r1 z0 z1 x0 x1
            have Qa := Lib.hid (Qa.out.keep hb)
            have Qb := Lib.hid (Qb.out.keep hb)
            have HU := Lib.hid (HU.out.below hb)
            have HV := Lib.hid (HV.out.below hb)
            have HX := Lib.hid (HX.out.below hb)
            have HT := Lib.hid (HT.out.below hb)
            have Hx := Lib.hid (Hx.out.below hb)
            have Qx := Lib.hid (Qx.out.keep hb)
            have B := Lib.hid (chain B.out hb)
            clear hb
            obtain ⟨r0, r1, -, -⟩ := Qa.out.two
            obtain ⟨z0, z1, -, -⟩ := Qb.out.two
            obtain ⟨x0, x1, -, -⟩ := Qx.out.two
            go_wp2_with fail
            refine (alive2_any _).mono ?_
            rintro e x7 ⟨rfl, hb⟩
            clear r0 r1 z0 z1 x0 x1
            have Qa := Lib.hid (Qa.out.keep hb)
            have Qb := Lib.hid (Qb.out.keep hb)
            have HU := Lib.hid (HU.out.below hb)
            have HV := Lib.hid (HV.out.below hb)
            have HX := Lib.hid (HX.out.below hb)
            have HT := Lib.hid (HT.out.below hb)
            have Hx := Lib.hid (Hx.out.below hb)
            have Qx := Lib.hid (Qx.out.keep hb)
            have B := Lib.hid (chain B.out hb)
            clear hb
            obtain ⟨r0, r1, -, -⟩ := Qa.out.two
            obtain ⟨z0, z1, -, -⟩ := Qb.out.two
            obtain ⟨x0, x1, -, -⟩ := Qx.out.two
            go_wp2_with fail
            go_ret
            exact ⟨by first | rfl | simp, B.out⟩
          · skip
            have T1 := Lib.hid t1
            have T2 := Lib.hid t2
            have HXX := Lib.hid (fun w => xor_any N M Aw Bw j1 dA k1 dB us vs w)
            rw [t1] at HXX
            clear t1
            clear t2
            go_wp2_with fail
            refine (HXX.out _ HU.out HV.out).mono ?_
            rintro e x2 ⟨A4, l4, c4, rfl, hw, hb⟩
            clear r0 r1 z0 z1
            have Hx := Lib.hid (hw)
            have Qa := Lib.hid (Qa.out.keep hb)
            have Qb := Lib.hid (Qb.out.keep hb)
            have HU := Lib.hid (HU.out.below hb)
            have HV := Lib.hid (HV.out.below hb)
            have HX := Lib.hid (HX.out.below hb)
            have HT := Lib.hid (HT.out.below hb)
            have B := Lib.hid (chain B.out hb)
            clear hb
            clear hw HXX
            have hal : Below x2.heap.size x2 (x2.alloc (.cells #[.int .i64 (joinN N us M vs), .slice A4 l4 c4] 24)) := (Below.refl _ _).alloc (Nat.le_refl _) _
            have Qa := Lib.hid (Qa.out.keep hal)
            have Qb := Lib.hid (Qb.out.keep hal)
            have HU := Lib.hid (HU.out.below hal)
            have HV := Lib.hid (HV.out.below hal)
            have HX := Lib.hid (HX.out.below hal)
            have HT := Lib.hid (HT.out.below hal)
            have Hx := Lib.hid (Hx.out.below hal)
            have B := Lib.hid (chain B.out hal)
            have Qx := Lib.hid (Box.new x2 24 #[.int .i64 (joinN N us M vs), .slice A4 l4 c4])
            clear hal
            obtain ⟨r0, r1, -, -⟩ := Qa.out.two
            obtain ⟨z0, z1, -, -⟩ := Qb.out.two
            obtain ⟨x0, x1, -, -⟩ := Qx.out.two
            go_wp2_with fail
            refine (pick_any m A1 l1 c1 ts N Aw j1 dA us _ HX.out q1 q2 HU.out HT.out).mono ?_
            rintro e x3 ⟨rfl, hb⟩
            rw [T2.out]
            clear r0 r1 z0 z1 x0 x1
            have Qa := Lib.hid (Qa.out.keep hb)
            have Qb := Lib.hid (Qb.out.keep hb)
            have HU := Lib.hid (HU.out.below hb)
            have HV := Lib.hid (HV.out.below hb)
            have HX := Lib.hid (HX.out.below hb)
            have HT := Lib.hid (HT.out.below hb)
            have Hx := Lib.hid (Hx.out.below hb)
            have Qx := Lib.hid (Qx.out.keep hb)
            have B := Lib.hid (chain B.out hb)
            clear hb
            obtain ⟨r0, r1, -, -⟩ := Qa.out.two
            obtain ⟨z0, z1, -, -⟩ := Qb.out.two
            obtain ⟨x0, x1, -, -⟩ := Qx.out.two
            go_wp2_with fail
            refine (pick_any m A1 l1 c1 ts M Bw k1 dB vs _ HX.out q1 q2 HV.out HT.out).mono ?_
            rintro e x4 ⟨rfl, hb⟩
            clear r0 r1 z0 z1 x0 x1
            have Qa := Lib.hid (Qa.out.keep hb)
            have Qb := Lib.hid (Qb.out.keep hb)
            have HU := Lib.hid (HU.out.below hb)
            have HV := Lib.hid (HV.out.below hb)
            have HX := Lib.hid (HX.out.below hb)
            have HT := Lib.hid (HT.out.below hb)
            have Hx := Lib.hid (Hx.out.below hb)
            have Qx := Lib.hid (Qx.out.keep hb)
            have B := Lib.hid (chain B.out hb)
            clear hb
            obtain ⟨r0, r1, -, -⟩ := Qa.out.two
            obtain ⟨z0, z1, -, -⟩ := Qb.out.two
            obtain ⟨x0, x1, -, -⟩ := Qx.out.two
            go_wp2_with fail
            refine (pick_any m A1 l1 c1 ts (joinN N us M vs) A4 l4 c4 (joinW (· ^^^ ·) N us M vs) _ HX.out q1 q2 Hx.out HT.out).mono ?_
            rintro e x5 ⟨rfl, hb⟩
            clear r0 r1 z0 z1 x0 x1
            have Qa := Lib.hid (Qa.out.keep hb)
            have Qb := Lib.hid (Qb.out.keep hb)
            have HU := Lib.hid (HU.out.below hb)
            have HV := Lib.hid (HV.out.below hb)
            have HX := Lib.hid (HX.out.below hb)
            have HT := Lib.hid (HT.out.below hb)
            have Hx := Lib.hid (Hx.out.below hb)
            have Qx := Lib.hid (Qx.out.keep hb)
            have B := Lib.hid (chain B.out hb)
            clear hb
            obtain ⟨r0, r1, -, -⟩ := Qa.out.two
            obtain ⟨z0, z1, -, -⟩ := Qb.out.two
            obtain ⟨x0, x1, -, -⟩ := Qx.out.two
            go_wp2_with fail
            refine (alive2_any _).mono ?_
            rintro e x6 ⟨rfl, hb⟩
            clear r0 r1 z0 z1 x0 x1
            have Qa := Lib.hid (Qa.out.keep hb)
            have Qb := Lib.hid (Qb.out.keep hb)
            have HU := Lib.hid (HU.out.below hb)
            have HV := Lib.hid (HV.out.below hb)
            have HX := Lib.hid (HX.out.below hb)
            have HT := Lib.hid (HT.out.below hb)
            have Hx := Lib.hid (Hx.out.below hb)
            have Qx := Lib.hid (Qx.out.keep hb)
            have B := Lib.hid (chain B.out hb)
            clear hb
            obtain ⟨r0, r1, -, -⟩ := Qa.out.two
            obtain ⟨z0, z1, -, -⟩ := Qb.out.two
            obtain ⟨x0, x1, -, -⟩ := Qx.out.two
            go_wp2_with fail
            go_ret
            exact ⟨by first | rfl | simp, B.out⟩
          · skip
            have T2 := Lib.hid t2
            have HXX := Lib.hid (fun w => xor_any N M Aw Bw j1 dA k1 dB us vs w)
            generalize joinE N us M vs = je at *
            clear t2
            go_wp2_with fail
            refine (HXX.out _ HU.out HV.out).mono ?_
            rintro e x2 ⟨A4, l4, c4, rfl, hw, hb⟩
            clear r0 r1 z0 z1
            have Hx := Lib.hid (hw)
            have Qa := Lib.hid (Qa.out.keep hb)
            have Qb := Lib.hid (Qb.out.keep hb)
            have HU := Lib.hid (HU.out.below hb)
            have HV := Lib.hid (HV.out.below hb)
            have HX := Lib.hid (HX.out.below hb)
            have HT := Lib.hid (HT.out.below hb)
            have B := Lib.hid (chain B.out hb)
            clear hb
            clear hw HXX
            have hal : Below x2.heap.size x2 (x2.alloc (.cells #[.int .i64 (joinN N us M vs), .slice A4 l4 c4] 24)) := (Below.refl _ _).alloc (Nat.le_refl _) _
            have Qa := Lib.hid (Qa.out.keep hal)
            have Qb := Lib.hid (Qb.out.keep hal)
            have HU := Lib.hid (HU.out.below hal)
            have HV := Lib.hid (HV.out.below hal)
            have HX := Lib.hid (HX.out.below hal)
            have HT := Lib.hid (HT.out.below hal)
            have Hx := Lib.hid (Hx.out.below hal)
            have B := Lib.hid (chain B.out hal)
            have Qx := Lib.hid (Box.new x2 24 #[.int .i64 (joinN N us M vs), .slice A4 l4 c4])
            clear hal
            obtain ⟨r0, r1, -, -⟩ := Qa.out.two
            obtain ⟨z0, z1, -, -⟩ := Qb.out.two
            obtain ⟨x0, x1, -, -⟩ := Qx.out.two
            go_wp2_with fail
            refine (pick_any m A1 l1 c1 ts N Aw j1 dA us _ HX.out q1 q2 HU.out HT.out).mono ?_
            rintro e x3 ⟨rfl, hb⟩
            rw [T2.out]
            clear r0 r1 z0 z1 x0 x1
            have Qa := Lib.hid (Qa.out.keep hb)
            have Qb := Lib.hid (Qb.out.keep hb)
            have HU := Lib.hid (HU.out.below hb)
            have HV := Lib.hid (HV.out.below hb)
            have HX := Lib.hid (HX.out.below hb)
            have HT := Lib.hid (HT.out.below hb)
            have Hx := Lib.hid (Hx.out.below hb)
            have Qx := Lib.hid (Qx.out.keep hb)
            have B := Lib.hid (chain B.out hb)
            clear hb
            obtain ⟨r0, r1, -, -⟩ := Qa.out.two
            obtain ⟨z0, z1, -, -⟩ := Qb.out.two
            obtain ⟨x0, x1, -, -⟩ := Qx.out.two
            go_wp2_with fail
            refine (pick_any m A1 l1 c1 ts M Bw k1 dB vs _ HX.out q1 q2 HV.out HT.out).mono ?_
            rintro e x4 ⟨rfl, hb⟩
            clear r0 r1 z0 z1 x0 x1
            have Qa := Lib.hid (Qa.out.keep hb)
            have Qb := Lib.hid (Qb.out.keep hb)
            have HU := Lib.hid (HU.out.below hb)
            have HV := Lib.hid (HV.out.below hb)
            have HX := Lib.hid (HX.out.below hb)
            have HT := Lib.hid (HT.out.below hb)
            have Hx := Lib.hid (Hx.out.below hb)
            have Qx := Lib.hid (Qx.out.keep hb)
            have B := Lib.hid (chain B.out hb)
            clear hb
            obtain ⟨r0, r1, -, -⟩ := Qa.out.two
            obtain ⟨z0, z1, -, -⟩ := Qb.out.two
            obtain ⟨x0, x1, -, -⟩ := Qx.out.two
            go_wp2_with fail
            refine (pick_any m A1 l1 c1 ts (joinN N us M vs) A4 l4 c4 (joinW (· ^^^ ·) N us M vs) _ HX.out q1 q2 Hx.out HT.out).mono ?_
            rintro e x5 ⟨rfl, hb⟩
            clear r0 r1 z0 z1 x0 x1
            have Qa := Lib.hid (Qa.out.keep hb)
            have Qb := Lib.hid (Qb.out.keep hb)
            have HU := Lib.hid (HU.out.below hb)
            have HV := Lib.hid (HV.out.below hb)
            have HX := Lib.hid (HX.out.below hb)
            have HT := Lib.hid (HT.out.below hb)
            have Hx := Lib.hid (Hx.out.below hb)
            have Qx := Lib.hid (Qx.out.keep hb)
            have B := Lib.hid (chain B.out hb)
            clear hb
            obtain ⟨r0, r1, -, -⟩ := Qa.out.two
            obtain ⟨z0, z1, -, -⟩ := Qb.out.two
            obtain ⟨x0, x1, -, -⟩ := Qx.out.two
            go_wp2_with fail
            refine (alive2_any _).mono ?_
            rintro e x6 ⟨rfl, hb⟩
            clear r0 r1 z0 z1 x0 x1
            have Qa := Lib.hid (Qa.out.keep hb)
            have Qb := Lib.hid (Qb.out.keep hb)
            have HU := Lib.hid (HU.out.below hb)
            have HV := Lib.hid (HV.out.below hb)
            have HX := Lib.hid (HX.out.below hb)
            have HT := Lib.hid (HT.out.below hb)
            have Hx := Lib.hid (Hx.out.below hb)
            have Qx := Lib.hid (Qx.out.keep hb)
            have B := Lib.hid (chain B.out hb)
            clear hb
            obtain ⟨r0, r1, -, -⟩ := Qa.out.two
            obtain ⟨z0, z1, -, -⟩ := Qb.out.two
            obtain ⟨x0, x1, -, -⟩ := Qx.out.two
            go_wp2_with fail
            go_ret
            exact ⟨by first | rfl | simp, B.out⟩
          · skip
            have T2 := Lib.hid t2
            have HXX := Lib.hid (fun w => xor_any N M Aw Bw j1 dA k1 dB us vs w)
            generalize joinE N us M vs = je at *
            have HSz := Lib.hid (pick_len m ts N us HOK.out T2.out)
            generalize hpS : pickS m ts N us = pS at *
            have HPS := Lib.hid hpS
            clear hpS
            have hsz : (pS.size : Int) = (m : Int) := by rw [HSz.out]
            clear t2
            go_wp2_with fail
            refine (HXX.out _ HU.out HV.out).mono ?_
            rintro e x2 ⟨A4, l4, c4, rfl, hw, hb⟩
            clear r0 r1 z0 z1
            have Hx := Lib.hid (hw)
            have Qa := Lib.hid (Qa.out.keep hb)
            have Qb := Lib.hid (Qb.out.keep hb)
            have HU := Lib.hid (HU.out.below hb)
            have HV := Lib.hid (HV.out.below hb)
            have HX := Lib.hid (HX.out.below hb)
            have HT := Lib.hid (HT.out.below hb)
            have B := Lib.hid (chain B.out hb)
            clear hb
            clear hw HXX
            have hal : Below x2.heap.size x2 (x2.alloc (.cells #[.int .i64 (joinN N us M vs), .slice A4 l4 c4] 24)) := (Below.refl _ _).alloc (Nat.le_refl _) _
            have Qa := Lib.hid (Qa.out.keep hal)
            have Qb := Lib.hid (Qb.out.keep hal)
            have HU := Lib.hid (HU.out.below hal)
            have HV := Lib.hid (HV.out.below hal)
            have HX := Lib.hid (HX.out.below hal)
            have HT := Lib.hid (HT.out.below hal)
            have Hx := Lib.hid (Hx.out.below hal)
            have B := Lib.hid (chain B.out hal)
            have Qx := Lib.hid (Box.new x2 24 #[.int .i64 (joinN N us M vs), .slice A4 l4 c4])
            clear hal
            obtain ⟨r0, r1, -, -⟩ := Qa.out.two
            obtain ⟨z0, z1, -, -⟩ := Qb.out.two
            obtain ⟨x0, x1, -, -⟩ := Qx.out.two
            go_wp2_with fail
            refine (pick_any m A1 l1 c1 ts N Aw j1 dA us _ HX.out q1 q2 HU.out HT.out).mono ?_
            rintro e x3 ⟨rfl, hb⟩
            rw [T2.out, HPS.out]
            clear r0 r1 z0 z1 x0 x1
            have Qa := Lib.hid (Qa.out.keep hb)
            have Qb := Lib.hid (Qb.out.keep hb)
            have HU := Lib.hid (HU.out.below hb)
            have HV := Lib.hid (HV.out.below hb)
            have HX := Lib.hid (HX.out.below hb)
            have HT := Lib.hid (HT.out.below hb)
            have Hx := Lib.hid (Hx.out.below hb)
            have Qx := Lib.hid (Qx.out.keep hb)
            have B := Lib.hid (chain B.out hb)
            clear hb
            obtain ⟨r0, r1, -, -⟩ := Qa.out.two
            obtain ⟨z0, z1, -, -⟩ := Qb.out.two
            obtain ⟨x0, x1, -, -⟩ := Qx.out.two
            go_wp2_with fail
            refine (pick_any m A1 l1 c1 ts M Bw k1 dB vs _ HX.out q1 q2 HV.out HT.out).mono ?_
            rintro e x4 ⟨rfl, hb⟩
            clear r0 r1 z0 z1 x0 x1
            have Qa := Lib.hid (Qa.out.keep hb)
            have Qb := Lib.hid (Qb.out.keep hb)
            have HU := Lib.hid (HU.out.below hb)
            have HV := Lib.hid (HV.out.below hb)
            have HX := Lib.hid (HX.out.below hb)
            have HT := Lib.hid (HT.out.below hb)
            have Hx := Lib.hid (Hx.out.below hb)
            have Qx := Lib.hid (Qx.out.keep hb)
            have B := Lib.hid (chain B.out hb)
            clear hb
            obtain ⟨r0, r1, -, -⟩ := Qa.out.two
            obtain ⟨z0, z1, -, -⟩ := Qb.out.two
            obtain ⟨x0, x1, -, -⟩ := Qx.out.two
            go_wp2_with fail
            refine (pick_any m A1 l1 c1 ts (joinN N us M vs) A4 l4 c4 (joinW (· ^^^ ·) N us M vs) _ HX.out q1 q2 Hx.out HT.out).mono ?_
            rintro e x5 ⟨rfl, hb⟩
            clear r0 r1 z0 z1 x0 x1
            have Qa := Lib.hid (Qa.out.keep hb)
            have Qb := Lib.hid (Qb.out.keep hb)
            have HU := Lib.hid (HU.out.below hb)
            have HV := Lib.hid (HV.out.below hb)
            have HX := Lib.hid (HX.out.below hb)
            have HT := Lib.hid (HT.out.below hb)
            have Hx := Lib.hid (Hx.out.below hb)
            have Qx := Lib.hid (Qx.out.keep hb)
            have B := Lib.hid (chain B.out hb)
            clear hb
            obtain ⟨r0, r1, -, -⟩ := Qa.out.two
            obtain ⟨z0, z1, -, -⟩ := Qb.out.two
            obtain ⟨x0, x1, -, -⟩ := Qx.out.two
            go_wp2_with fail
            refine (alive2_any _).mono ?_
            rintro e x6 ⟨rfl, hb⟩
            clear r0 r1 z0 z1 x0 x1
            have Qa := Lib.hid (Qa.out.keep hb)
            have Qb := Lib.hid (Qb.out.keep hb)
            have HU := Lib.hid (HU.out.below hb)
            have HV := Lib.hid (HV.out.below hb)
            have HX := Lib.hid (HX.out.below hb)
            have HT := Lib.hid (HT.out.below hb)
            have Hx := Lib.hid (Hx.out.below hb)
            have Qx := Lib.hid (Qx.out.keep hb)
            have B := Lib.hid (chain B.out hb)
            clear hb
            obtain ⟨r0, r1, -, -⟩ := Qa.out.two
            obtain ⟨z0, z1, -, -⟩ := Qb.out.two
            obtain ⟨x0, x1, -, -⟩ := Qx.out.two
            go_wp2_with fail
            go_ret
            exact ⟨by first | rfl | simp, B.out⟩
        · have g1 : (0 : Int) < (l1 : Int) := by omega
          have g2 : ¬ (l1 : Int) < 63 := by omega
          rcases tj with ⟨t1, t2, t3⟩ | ⟨t2, t1⟩ | ⟨t2, t1⟩ | ⟨t2, t1⟩
          · skip
            obtain ⟨R1, R2, R3⟩ := joinE_ok t1
            have T3 := Lib.hid t3
            have T2 := Lib.hid t2
            have HR := Lib.hid R1
            have HR2 := Lib.hid R2
            have HNM := Lib.hid R3
            have HNl := Lib.hid (show N = (l1 : Int) by
              have := T2.out
              simp only [pickE, HOK.out, HR.out, if_true, Bool.true_and, HL.out] at this
              by_cases h : N = (l1 : Int)
              · exact h
              · have e : (N == (l1 : Int)) = false := by simpa using h
                rw [e] at this; cases this)
            have HLen := Lib.hid (show us.length = vs.length by rw [HU.out.1, HV.out.1]; have h2 := HR2.out; rw [← HNM.out] at h2; exact (rightB_len HR.out h2 HU.out.1 HV.out.1).symm)
            have HRx := Lib.hid (show rightB N (xorL us vs) = true by have h2 := HR2.out; rw [← HNM.out] at h2; exact right_xor HR.out h2)
            have HXX := Lib.hid (fun w => xor_any N M Aw Bw j1 dA k1 dB us vs w)
            rw [t1, show joinN N us M vs = N by unfold joinN; rw [HR.out, HR2.out, HNM.out]; simp, show joinW (· ^^^ ·) N us M vs = xorL us vs by unfold joinW; rw [HR.out, HR2.out, HNM.out]; simp [xorL]] at HXX
            have eN : (N == (ts.length : Int)) = true := by rw [HL.out]; simp [HNl.out]
            have eM : (M == (ts.length : Int)) = true := by rw [HL.out, ← HNM.out]; simp [HNl.out]
            have okP : ∀ zs : List Nat, okS m (picks ts (plcN zs l1)) = true := fun zs => by have := okS_picks HOK.out zs; rwa [HL.out] at this
            have eL : ((l1 : Int) == (ts.length : Int)) = true := by rw [HL.out]; simp
            have PS : ∀ zs, pickS m ts N zs = if rightB N zs then ⟨(sumL m (picks ts (plcN zs l1))).toArray⟩ else ⟨#[]⟩ := fun zs => by
              simp only [pickS, HOK.out, Bool.and_true, Bool.true_and, HNl.out, eL, Int.toNat_natCast, sumS, okP zs, if_true]
            have HSa := Lib.hid (show pickS m ts N us = ⟨(sumL m (picks ts (plcN us l1))).toArray⟩ by rw [PS, HR.out]; rfl)
            have HSb := Lib.hid (show pickS m ts M vs = ⟨(sumL m (picks ts (plcN vs l1))).toArray⟩ by rw [← HNM.out, PS, show rightB N vs = true by rw [HNM.out]; exact HR2.out]; rfl)
            have HSx := Lib.hid (show pickS m ts N (xorL us vs) = ⟨(sumL m (picks ts (plcN (xorL us vs) l1))).toArray⟩ by rw [PS, HRx.out]; rfl)
            have HEx := Lib.hid (show pickE m ts N (xorL us vs) = 0 by simp only [pickE, HOK.out, HRx.out, eN]; rfl)
            have hl64u : l1 ≤ 64 * us.length := by
              have := right_len_eq HR.out
              rw [HNl.out, Int.toNat_natCast] at this
              unfold nw at this; omega
            have HBoth := Lib.hid (sum_both m ts us vs HLen.out l1 hl64u)
            clear t1 t2 t3 R1 R2 R3 eN eM okP PS hl64u eL
            go_wp2_with fail
            refine (HXX.out _ HU.out HV.out).mono ?_
            rintro e x2 ⟨A4, l4, c4, rfl, hw, hb⟩
            clear r0 r1 z0 z1
            have Hx := Lib.hid (hw)
            have Qa := Lib.hid (Qa.out.keep hb)
            have Qb := Lib.hid (Qb.out.keep hb)
            have HU := Lib.hid (HU.out.below hb)
            have HV := Lib.hid (HV.out.below hb)
            have HX := Lib.hid (HX.out.below hb)
            have HT := Lib.hid (HT.out.below hb)
            have B := Lib.hid (chain B.out hb)
            clear hb
            clear hw HXX
            have hal : Below x2.heap.size x2 (x2.alloc (.cells #[.int .i64 N, .slice A4 l4 c4] 24)) := (Below.refl _ _).alloc (Nat.le_refl _) _
            have Qa := Lib.hid (Qa.out.keep hal)
            have Qb := Lib.hid (Qb.out.keep hal)
            have HU := Lib.hid (HU.out.below hal)
            have HV := Lib.hid (HV.out.below hal)
            have HX := Lib.hid (HX.out.below hal)
            have HT := Lib.hid (HT.out.below hal)
            have Hx := Lib.hid (Hx.out.below hal)
            have B := Lib.hid (chain B.out hal)
            have Qx := Lib.hid (Box.new x2 24 #[.int .i64 N, .slice A4 l4 c4])
            clear hal
            obtain ⟨r0, r1, -, -⟩ := Qa.out.two
            obtain ⟨z0, z1, -, -⟩ := Qb.out.two
            obtain ⟨x0, x1, -, -⟩ := Qx.out.two
            go_wp2_with fail
            refine (pick_any m A1 l1 c1 ts N Aw j1 dA us _ HX.out q1 q2 HU.out HT.out).mono ?_
            rintro e x3 ⟨rfl, hb⟩
            rw [T2.out, HSa.out]
            clear r0 r1 z0 z1 x0 x1
            have Qa := Lib.hid (Qa.out.keep hb)
            have Qb := Lib.hid (Qb.out.keep hb)
            have HU := Lib.hid (HU.out.below hb)
            have HV := Lib.hid (HV.out.below hb)
            have HX := Lib.hid (HX.out.below hb)
            have HT := Lib.hid (HT.out.below hb)
            have Hx := Lib.hid (Hx.out.below hb)
            have Qx := Lib.hid (Qx.out.keep hb)
            have B := Lib.hid (chain B.out hb)
            clear hb
            obtain ⟨r0, r1, -, -⟩ := Qa.out.two
            obtain ⟨z0, z1, -, -⟩ := Qb.out.two
            obtain ⟨x0, x1, -, -⟩ := Qx.out.two
            go_wp2_with fail
            refine (pick_any m A1 l1 c1 ts M Bw k1 dB vs _ HX.out q1 q2 HV.out HT.out).mono ?_
            rintro e x4 ⟨rfl, hb⟩
            rw [T3.out, HSb.out]
            clear r0 r1 z0 z1 x0 x1
            have Qa := Lib.hid (Qa.out.keep hb)
            have Qb := Lib.hid (Qb.out.keep hb)
            have HU := Lib.hid (HU.out.below hb)
            have HV := Lib.hid (HV.out.below hb)
            have HX := Lib.hid (HX.out.below hb)
            have HT := Lib.hid (HT.out.below hb)
            have Hx := Lib.hid (Hx.out.below hb)
            have Qx := Lib.hid (Qx.out.keep hb)
            have B := Lib.hid (chain B.out hb)
            clear hb
            obtain ⟨r0, r1, -, -⟩ := Qa.out.two
            obtain ⟨z0, z1, -, -⟩ := Qb.out.two
            obtain ⟨x0, x1, -, -⟩ := Qx.out.two
            go_wp2_with fail
            refine (pick_any m A1 l1 c1 ts N A4 l4 c4 (xorL us vs) _ HX.out q1 q2 Hx.out HT.out).mono ?_
            rintro e x5 ⟨rfl, hb⟩
            rw [HEx.out, HSx.out]
            clear r0 r1 z0 z1 x0 x1
            have Qa := Lib.hid (Qa.out.keep hb)
            have Qb := Lib.hid (Qb.out.keep hb)
            have HU := Lib.hid (HU.out.below hb)
            have HV := Lib.hid (HV.out.below hb)
            have HX := Lib.hid (HX.out.below hb)
            have HT := Lib.hid (HT.out.below hb)
            have Hx := Lib.hid (Hx.out.below hb)
            have Qx := Lib.hid (Qx.out.keep hb)
            have B := Lib.hid (chain B.out hb)
            clear hb
            obtain ⟨r0, r1, -, -⟩ := Qa.out.two
            obtain ⟨z0, z1, -, -⟩ := Qb.out.two
            obtain ⟨x0, x1, -, -⟩ := Qx.out.two
            go_wp2_with fail
            have HBX := Lib.hid (bxor_any ⟨(sumL m (picks ts (plcN us l1))).toArray⟩ ⟨(sumL m (picks ts (plcN vs l1))).toArray⟩ (by show (sumL m _).toArray.size ≤ maxLen; rw [List.size_toArray, sumL_length]; unfold maxLen; omega) (by show (sumL m _).toArray.size ≤ maxLen; rw [List.size_toArray, sumL_length]; unfold maxLen; omega))
            have HPk := Lib.hid (pair_ok m (sumL m (picks ts (plcN us l1))) (sumL m (picks ts (plcN vs l1))) (sumL_length _ _) (sumL_length _ _) hm64)
            refine (HBX.out _).mono ?_
            rintro e x6 ⟨rfl, hb⟩
            rw [HPk.out.1, HPk.out.2, HBoth.out]
            clear r0 r1 z0 z1 x0 x1
            have Qa := Lib.hid (Qa.out.keep hb)
            have Qb := Lib.hid (Qb.out.keep hb)
            have HU := Lib.hid (HU.out.below hb)
            have HV := Lib.hid (HV.out.below hb)
            have HX := Lib.hid (HX.out.below hb)
            have HT := Lib.hid (HT.out.below hb)
            have Hx := Lib.hid (Hx.out.below hb)
            have Qx := Lib.hid (Qx.out.keep hb)
            have B := Lib.hid (chain B.out hb)
            clear hb
            obtain ⟨r0, r1, -, -⟩ := Qa.out.two
            obtain ⟨z0, z1, -, -⟩ := Qb.out.two
            obtain ⟨x0, x1, -, -⟩ := Qx.out.two
            go_wp2_with fail
            refine (alive2_any _).mono ?_
            rintro e x7 ⟨rfl, hb⟩
            clear r0 r1 z0 z1 x0 x1
            have Qa := Lib.hid (Qa.out.keep hb)
            have Qb := Lib.hid (Qb.out.keep hb)
            have HU := Lib.hid (HU.out.below hb)
            have HV := Lib.hid (HV.out.below hb)
            have HX := Lib.hid (HX.out.below hb)
            have HT := Lib.hid (HT.out.below hb)
            have Hx := Lib.hid (Hx.out.below hb)
            have Qx := Lib.hid (Qx.out.keep hb)
            have B := Lib.hid (chain B.out hb)
            clear hb
            obtain ⟨r0, r1, -, -⟩ := Qa.out.two
            obtain ⟨z0, z1, -, -⟩ := Qb.out.two
            obtain ⟨x0, x1, -, -⟩ := Qx.out.two
            go_wp2_with fail
            go_ret
            exact ⟨by first | rfl | simp, B.out⟩
          · skip
            have T1 := Lib.hid t1
            have T2 := Lib.hid t2
            have HXX := Lib.hid (fun w => xor_any N M Aw Bw j1 dA k1 dB us vs w)
            rw [t1] at HXX
            clear t1
            clear t2
            go_wp2_with fail
            refine (HXX.out _ HU.out HV.out).mono ?_
            rintro e x2 ⟨A4, l4, c4, rfl, hw, hb⟩
            clear r0 r1 z0 z1
            have Hx := Lib.hid (hw)
            have Qa := Lib.hid (Qa.out.keep hb)
            have Qb := Lib.hid (Qb.out.keep hb)
            have HU := Lib.hid (HU.out.below hb)
            have HV := Lib.hid (HV.out.below hb)
            have HX := Lib.hid (HX.out.below hb)
            have HT := Lib.hid (HT.out.below hb)
            have B := Lib.hid (chain B.out hb)
            clear hb
            clear hw HXX
            have hal : Below x2.heap.size x2 (x2.alloc (.cells #[.int .i64 (joinN N us M vs), .slice A4 l4 c4] 24)) := (Below.refl _ _).alloc (Nat.le_refl _) _
            have Qa := Lib.hid (Qa.out.keep hal)
            have Qb := Lib.hid (Qb.out.keep hal)
            have HU := Lib.hid (HU.out.below hal)
            have HV := Lib.hid (HV.out.below hal)
            have HX := Lib.hid (HX.out.below hal)
            have HT := Lib.hid (HT.out.below hal)
            have Hx := Lib.hid (Hx.out.below hal)
            have B := Lib.hid (chain B.out hal)
            have Qx := Lib.hid (Box.new x2 24 #[.int .i64 (joinN N us M vs), .slice A4 l4 c4])
            clear hal
            obtain ⟨r0, r1, -, -⟩ := Qa.out.two
            obtain ⟨z0, z1, -, -⟩ := Qb.out.two
            obtain ⟨x0, x1, -, -⟩ := Qx.out.two
            go_wp2_with fail
            refine (pick_any m A1 l1 c1 ts N Aw j1 dA us _ HX.out q1 q2 HU.out HT.out).mono ?_
            rintro e x3 ⟨rfl, hb⟩
            rw [T2.out]
            clear r0 r1 z0 z1 x0 x1
            have Qa := Lib.hid (Qa.out.keep hb)
            have Qb := Lib.hid (Qb.out.keep hb)
            have HU := Lib.hid (HU.out.below hb)
            have HV := Lib.hid (HV.out.below hb)
            have HX := Lib.hid (HX.out.below hb)
            have HT := Lib.hid (HT.out.below hb)
            have Hx := Lib.hid (Hx.out.below hb)
            have Qx := Lib.hid (Qx.out.keep hb)
            have B := Lib.hid (chain B.out hb)
            clear hb
            obtain ⟨r0, r1, -, -⟩ := Qa.out.two
            obtain ⟨z0, z1, -, -⟩ := Qb.out.two
            obtain ⟨x0, x1, -, -⟩ := Qx.out.two
            go_wp2_with fail
            refine (pick_any m A1 l1 c1 ts M Bw k1 dB vs _ HX.out q1 q2 HV.out HT.out).mono ?_
            rintro e x4 ⟨rfl, hb⟩
            clear r0 r1 z0 z1 x0 x1
            have Qa := Lib.hid (Qa.out.keep hb)
            have Qb := Lib.hid (Qb.out.keep hb)
            have HU := Lib.hid (HU.out.below hb)
            have HV := Lib.hid (HV.out.below hb)
            have HX := Lib.hid (HX.out.below hb)
            have HT := Lib.hid (HT.out.below hb)
            have Hx := Lib.hid (Hx.out.below hb)
            have Qx := Lib.hid (Qx.out.keep hb)
            have B := Lib.hid (chain B.out hb)
            clear hb
            obtain ⟨r0, r1, -, -⟩ := Qa.out.two
            obtain ⟨z0, z1, -, -⟩ := Qb.out.two
            obtain ⟨x0, x1, -, -⟩ := Qx.out.two
            go_wp2_with fail
            refine (pick_any m A1 l1 c1 ts (joinN N us M vs) A4 l4 c4 (joinW (· ^^^ ·) N us M vs) _ HX.out q1 q2 Hx.out HT.out).mono ?_
            rintro e x5 ⟨rfl, hb⟩
            clear r0 r1 z0 z1 x0 x1
            have Qa := Lib.hid (Qa.out.keep hb)
            have Qb := Lib.hid (Qb.out.keep hb)
            have HU := Lib.hid (HU.out.below hb)
            have HV := Lib.hid (HV.out.below hb)
            have HX := Lib.hid (HX.out.below hb)
            have HT := Lib.hid (HT.out.below hb)
            have Hx := Lib.hid (Hx.out.below hb)
            have Qx := Lib.hid (Qx.out.keep hb)
            have B := Lib.hid (chain B.out hb)
            clear hb
            obtain ⟨r0, r1, -, -⟩ := Qa.out.two
            obtain ⟨z0, z1, -, -⟩ := Qb.out.two
            obtain ⟨x0, x1, -, -⟩ := Qx.out.two
            go_wp2_with fail
            refine (alive2_any _).mono ?_
            rintro e x6 ⟨rfl, hb⟩
            clear r0 r1 z0 z1 x0 x1
            have Qa := Lib.hid (Qa.out.keep hb)
            have Qb := Lib.hid (Qb.out.keep hb)
            have HU := Lib.hid (HU.out.below hb)
            have HV := Lib.hid (HV.out.below hb)
            have HX := Lib.hid (HX.out.below hb)
            have HT := Lib.hid (HT.out.below hb)
            have Hx := Lib.hid (Hx.out.below hb)
            have Qx := Lib.hid (Qx.out.keep hb)
            have B := Lib.hid (chain B.out hb)
            clear hb
            obtain ⟨r0, r1, -, -⟩ := Qa.out.two
            obtain ⟨z0, z1, -, -⟩ := Qb.out.two
            obtain ⟨x0, x1, -, -⟩ := Qx.out.two
            go_wp2_with fail
            go_ret
            exact ⟨by first | rfl | simp, B.out⟩
          · skip
            have T2 := Lib.hid t2
            have HXX := Lib.hid (fun w => xor_any N M Aw Bw j1 dA k1 dB us vs w)
            generalize joinE N us M vs = je at *
            clear t2
            go_wp2_with fail
            refine (HXX.out _ HU.out HV.out).mono ?_
            rintro e x2 ⟨A4, l4, c4, rfl, hw, hb⟩
            clear r0 r1 z0 z1
            have Hx := Lib.hid (hw)
            have Qa := Lib.hid (Qa.out.keep hb)
            have Qb := Lib.hid (Qb.out.keep hb)
            have HU := Lib.hid (HU.out.below hb)
            have HV := Lib.hid (HV.out.below hb)
            have HX := Lib.hid (HX.out.below hb)
            have HT := Lib.hid (HT.out.below hb)
            have B := Lib.hid (chain B.out hb)
            clear hb
            clear hw HXX
            have hal : Below x2.heap.size x2 (x2.alloc (.cells #[.int .i64 (joinN N us M vs), .slice A4 l4 c4] 24)) := (Below.refl _ _).alloc (Nat.le_refl _) _
            have Qa := Lib.hid (Qa.out.keep hal)
            have Qb := Lib.hid (Qb.out.keep hal)
            have HU := Lib.hid (HU.out.below hal)
            have HV := Lib.hid (HV.out.below hal)
            have HX := Lib.hid (HX.out.below hal)
            have HT := Lib.hid (HT.out.below hal)
            have Hx := Lib.hid (Hx.out.below hal)
            have B := Lib.hid (chain B.out hal)
            have Qx := Lib.hid (Box.new x2 24 #[.int .i64 (joinN N us M vs), .slice A4 l4 c4])
            clear hal
            obtain ⟨r0, r1, -, -⟩ := Qa.out.two
            obtain ⟨z0, z1, -, -⟩ := Qb.out.two
            obtain ⟨x0, x1, -, -⟩ := Qx.out.two
            go_wp2_with fail
            refine (pick_any m A1 l1 c1 ts N Aw j1 dA us _ HX.out q1 q2 HU.out HT.out).mono ?_
            rintro e x3 ⟨rfl, hb⟩
            rw [T2.out]
            clear r0 r1 z0 z1 x0 x1
            have Qa := Lib.hid (Qa.out.keep hb)
            have Qb := Lib.hid (Qb.out.keep hb)
            have HU := Lib.hid (HU.out.below hb)
            have HV := Lib.hid (HV.out.below hb)
            have HX := Lib.hid (HX.out.below hb)
            have HT := Lib.hid (HT.out.below hb)
            have Hx := Lib.hid (Hx.out.below hb)
            have Qx := Lib.hid (Qx.out.keep hb)
            have B := Lib.hid (chain B.out hb)
            clear hb
            obtain ⟨r0, r1, -, -⟩ := Qa.out.two
            obtain ⟨z0, z1, -, -⟩ := Qb.out.two
            obtain ⟨x0, x1, -, -⟩ := Qx.out.two
            go_wp2_with fail
            refine (pick_any m A1 l1 c1 ts M Bw k1 dB vs _ HX.out q1 q2 HV.out HT.out).mono ?_
            rintro e x4 ⟨rfl, hb⟩
            clear r0 r1 z0 z1 x0 x1
            have Qa := Lib.hid (Qa.out.keep hb)
            have Qb := Lib.hid (Qb.out.keep hb)
            have HU := Lib.hid (HU.out.below hb)
            have HV := Lib.hid (HV.out.below hb)
            have HX := Lib.hid (HX.out.below hb)
            have HT := Lib.hid (HT.out.below hb)
            have Hx := Lib.hid (Hx.out.below hb)
            have Qx := Lib.hid (Qx.out.keep hb)
            have B := Lib.hid (chain B.out hb)
            clear hb
            obtain ⟨r0, r1, -, -⟩ := Qa.out.two
            obtain ⟨z0, z1, -, -⟩ := Qb.out.two
            obtain ⟨x0, x1, -, -⟩ := Qx.out.two
            go_wp2_with fail
            refine (pick_any m A1 l1 c1 ts (joinN N us M vs) A4 l4 c4 (joinW (· ^^^ ·) N us M vs) _ HX.out q1 q2 Hx.out HT.out).mono ?_
            rintro e x5 ⟨rfl, hb⟩
            clear r0 r1 z0 z1 x0 x1
            have Qa := Lib.hid (Qa.out.keep hb)
            have Qb := Lib.hid (Qb.out.keep hb)
            have HU := Lib.hid (HU.out.below hb)
            have HV := Lib.hid (HV.out.below hb)
            have HX := Lib.hid (HX.out.below hb)
            have HT := Lib.hid (HT.out.below hb)
            have Hx := Lib.hid (Hx.out.below hb)
            have Qx := Lib.hid (Qx.out.keep hb)
            have B := Lib.hid (chain B.out hb)
            clear hb
            obtain ⟨r0, r1, -, -⟩ := Qa.out.two
            obtain ⟨z0, z1, -, -⟩ := Qb.out.two
            obtain ⟨x0, x1, -, -⟩ := Qx.out.two
            go_wp2_with fail
            refine (alive2_any _).mono ?_
            rintro e x6 ⟨rfl, hb⟩
            clear r0 r1 z0 z1 x0 x1
            have Qa := Lib.hid (Qa.out.keep hb)
            have Qb := Lib.hid (Qb.out.keep hb)
            have HU := Lib.hid (HU.out.below hb)
            have HV := Lib.hid (HV.out.below hb)
            have HX := Lib.hid (HX.out.below hb)
            have HT := Lib.hid (HT.out.below hb)
            have Hx := Lib.hid (Hx.out.below hb)
            have Qx := Lib.hid (Qx.out.keep hb)
            have B := Lib.hid (chain B.out hb)
            clear hb
            obtain ⟨r0, r1, -, -⟩ := Qa.out.two
            obtain ⟨z0, z1, -, -⟩ := Qb.out.two
            obtain ⟨x0, x1, -, -⟩ := Qx.out.two
            go_wp2_with fail
            go_ret
            exact ⟨by first | rfl | simp, B.out⟩
          · skip
            have T2 := Lib.hid t2
            have HXX := Lib.hid (fun w => xor_any N M Aw Bw j1 dA k1 dB us vs w)
            generalize joinE N us M vs = je at *
            have HSz := Lib.hid (pick_len m ts N us HOK.out T2.out)
            generalize hpS : pickS m ts N us = pS at *
            have HPS := Lib.hid hpS
            clear hpS
            have hsz : (pS.size : Int) = (m : Int) := by rw [HSz.out]
            clear t2
            go_wp2_with fail
            refine (HXX.out _ HU.out HV.out).mono ?_
            rintro e x2 ⟨A4, l4, c4, rfl, hw, hb⟩
            clear r0 r1 z0 z1
            have Hx := Lib.hid (hw)
            have Qa := Lib.hid (Qa.out.keep hb)
            have Qb := Lib.hid (Qb.out.keep hb)
            have HU := Lib.hid (HU.out.below hb)
            have HV := Lib.hid (HV.out.below hb)
            have HX := Lib.hid (HX.out.below hb)
            have HT := Lib.hid (HT.out.below hb)
            have B := Lib.hid (chain B.out hb)
            clear hb
            clear hw HXX
            have hal : Below x2.heap.size x2 (x2.alloc (.cells #[.int .i64 (joinN N us M vs), .slice A4 l4 c4] 24)) := (Below.refl _ _).alloc (Nat.le_refl _) _
            have Qa := Lib.hid (Qa.out.keep hal)
            have Qb := Lib.hid (Qb.out.keep hal)
            have HU := Lib.hid (HU.out.below hal)
            have HV := Lib.hid (HV.out.below hal)
            have HX := Lib.hid (HX.out.below hal)
            have HT := Lib.hid (HT.out.below hal)
            have Hx := Lib.hid (Hx.out.below hal)
            have B := Lib.hid (chain B.out hal)
            have Qx := Lib.hid (Box.new x2 24 #[.int .i64 (joinN N us M vs), .slice A4 l4 c4])
            clear hal
            obtain ⟨r0, r1, -, -⟩ := Qa.out.two
            obtain ⟨z0, z1, -, -⟩ := Qb.out.two
            obtain ⟨x0, x1, -, -⟩ := Qx.out.two
            go_wp2_with fail
            refine (pick_any m A1 l1 c1 ts N Aw j1 dA us _ HX.out q1 q2 HU.out HT.out).mono ?_
            rintro e x3 ⟨rfl, hb⟩
            rw [T2.out, HPS.out]
            clear r0 r1 z0 z1 x0 x1
            have Qa := Lib.hid (Qa.out.keep hb)
            have Qb := Lib.hid (Qb.out.keep hb)
            have HU := Lib.hid (HU.out.below hb)
            have HV := Lib.hid (HV.out.below hb)
            have HX := Lib.hid (HX.out.below hb)
            have HT := Lib.hid (HT.out.below hb)
            have Hx := Lib.hid (Hx.out.below hb)
            have Qx := Lib.hid (Qx.out.keep hb)
            have B := Lib.hid (chain B.out hb)
            clear hb
            obtain ⟨r0, r1, -, -⟩ := Qa.out.two
            obtain ⟨z0, z1, -, -⟩ := Qb.out.two
            obtain ⟨x0, x1, -, -⟩ := Qx.out.two
            go_wp2_with fail
            refine (pick_any m A1 l1 c1 ts M Bw k1 dB vs _ HX.out q1 q2 HV.out HT.out).mono ?_
            rintro e x4 ⟨rfl, hb⟩
            clear r0 r1 z0 z1 x0 x1
            have Qa := Lib.hid (Qa.out.keep hb)
            have Qb := Lib.hid (Qb.out.keep hb)
            have HU := Lib.hid (HU.out.below hb)
            have HV := Lib.hid (HV.out.below hb)
            have HX := Lib.hid (HX.out.below hb)
            have HT := Lib.hid (HT.out.below hb)
            have Hx := Lib.hid (Hx.out.below hb)
            have Qx := Lib.hid (Qx.out.keep hb)
            have B := Lib.hid (chain B.out hb)
            clear hb
            obtain ⟨r0, r1, -, -⟩ := Qa.out.two
            obtain ⟨z0, z1, -, -⟩ := Qb.out.two
            obtain ⟨x0, x1, -, -⟩ := Qx.out.two
            go_wp2_with fail
            refine (pick_any m A1 l1 c1 ts (joinN N us M vs) A4 l4 c4 (joinW (· ^^^ ·) N us M vs) _ HX.out q1 q2 Hx.out HT.out).mono ?_
            rintro e x5 ⟨rfl, hb⟩
            clear r0 r1 z0 z1 x0 x1
            have Qa := Lib.hid (Qa.out.keep hb)
            have Qb := Lib.hid (Qb.out.keep hb)
            have HU := Lib.hid (HU.out.below hb)
            have HV := Lib.hid (HV.out.below hb)
            have HX := Lib.hid (HX.out.below hb)
            have HT := Lib.hid (HT.out.below hb)
            have Hx := Lib.hid (Hx.out.below hb)
            have Qx := Lib.hid (Qx.out.keep hb)
            have B := Lib.hid (chain B.out hb)
            clear hb
            obtain ⟨r0, r1, -, -⟩ := Qa.out.two
            obtain ⟨z0, z1, -, -⟩ := Qb.out.two
            obtain ⟨x0, x1, -, -⟩ := Qx.out.two
            go_wp2_with fail
            refine (alive2_any _).mono ?_
            rintro e x6 ⟨rfl, hb⟩
            clear r0 r1 z0 z1 x0 x1
            have Qa := Lib.hid (Qa.out.keep hb)
            have Qb := Lib.hid (Qb.out.keep hb)
            have HU := Lib.hid (HU.out.below hb)
            have HV := Lib.hid (HV.out.below hb)
            have HX := Lib.hid (HX.out.below hb)
            have HT := Lib.hid (HT.out.below hb)
            have Hx := Lib.hid (Hx.out.below hb)
            have Qx := Lib.hid (Qx.out.keep hb)
            have B := Lib.hid (chain B.out hb)
            clear hb
            obtain ⟨r0, r1, -, -⟩ := Qa.out.two
            obtain ⟨z0, z1, -, -⟩ := Qb.out.two
            obtain ⟨x0, x1, -, -⟩ := Qx.out.two
            go_wp2_with fail
            go_ret
            exact ⟨by first | rfl | simp, B.out⟩
end Go.Proofs.YtfeaollpeaphlaaDoor
