/- Parts: KeX. -/
import Derived.Test.YtdfmogcgangdnaaDoorZj
namespace Go.Proofs.YtdfmogcgangdnaaDoor
section
/- ReduceKeeps: the walk. -/
set_option linter.unusedVariables false
set_option linter.unusedSimpArgs false
open Go.RowKit
set_option maxRecDepth 100000
theorem rightM_mk {N : Nat} {L : List Nat} (hN : N ≤ 64) (hl : L.length ≤ 64) (hL : ∀ r ∈ L, r < 2 ^ N) : rightM N (mkM N L) = true :=
  rightM_of hN (by rw [mkM_len]; exact hl) fun i hi => by
    rw [mkM_len] at hi
    rw [mkM_at N L i hi]
    exact ⟨rfl, rowOf_right N _ (by omega) (hL _ (getD_mem hi))⟩
theorem plc_head {N x p : Nat} (hp : IsLow x p) (hpN : p < N) : ∃ t, plcN (rowOf N x) (64 * nw N) = p :: t := by
  have h0 : ∀ q, q ≤ p → plcN (rowOf N x) q = [] := fun q => by
    induction q with
    | zero => intro _; rfl
    | succ q ih =>
      intro hq
      have hb := rowOf_bit N x q (by omega)
      rw [hp.2 q (by omega)] at hb
      rw [plcN_succ, ih (by omega), if_neg (by simpa using hb)]; rfl
  have h1 : ∀ k, ∃ t, plcN (rowOf N x) (p + 1 + k) = p :: t := fun k => by
    induction k with
    | zero =>
      have hb := rowOf_bit N x p hpN
      rw [hp.1] at hb
      rw [Nat.add_zero, plcN_succ, h0 p (Nat.le_refl _), if_pos (by simpa using hb)]
      exact ⟨[], rfl⟩
    | succ k ih =>
      obtain ⟨t, ht⟩ := ih
      rw [show p + 1 + (k + 1) = p + 1 + k + 1 by omega, plcN_succ, ht]
      exact ⟨_, rfl⟩
  have := h1 (64 * nw N - (p + 1))
  rwa [show p + 1 + (64 * nw N - (p + 1)) = 64 * nw N by unfold nw; omega] at this
theorem bfirst_low (N x p : Nat) (hN : N ≤ 512) (hx : x < 2 ^ N) (hp : IsLow x p) (A : Option Addr) (l c : Nat) (w : World) (hw : Words w A l (rowOf N x)) (hT : TabAt w 0) :
    Calls Tryd.prog 14 #[.agg #[.int .i64 (N : Int), .slice A l c]] w fun e w' => e = .returned (.tuple #[.int .i64 (p : Int), .int .i64 0]) ∧ Below w.heap.size w w' := by
  have h := first_yes (N : Int) A l c (rowOf N x) w (rowOf_right N x hN hx) hw hT
  obtain ⟨t, ht⟩ := plc_head hp (low_lt hx hp)
  rw [show l = nw N by have := hw.1; rw [rowOf_len] at this; omega, ht] at h
  rw [show l = nw N by have := hw.1; rw [rowOf_len] at this; omega]
  exact h
theorem spans_true (N : Nat) (hN : N ≤ 64) (L : List Nat) (hL : ∀ r ∈ L, r < 2 ^ N) (hlen : L.length ≤ 64) (A : Option Addr) (c lo x : Nat) (hx : x < 2 ^ N) (hsp : Sp L x) (B : Option Addr) (k d : Nat) (w : World) (hm : MatAt w lo A L.length (mkM N L)) (hr : rightM N (mkM N L) = true) (hu : Words w B k (rowOf N x)) (hs : SliceOk B k d) :
    Calls Tryd.prog 13 #[.agg #[.int .i64 (N : Int), .slice A L.length c], .agg #[.int .i64 (N : Int), .slice B k d]] w fun e w' => e = .returned (.tuple #[.bool true, .int .i64 0]) ∧ Below w.heap.size w w' := by
  refine (spans_yes N hN L hL hlen A c lo x hx B k d w hm hr hu hs).mono ?_
  rintro e w' ⟨b, hb, rfl, hw⟩
  obtain rfl : b = true := hb.2 hsp
  exact ⟨rfl, hw⟩
theorem more_mat {x w : World} {base N k d y : Nat} {v : Value} {B : Option Addr} {rs : List RowV} {L L9 : List Nat} (h : w.ownsRow base 27 2 v (0 + L.length + 1) (([] ++ rowCells rs) ++ [.int .i64 (N : Int), .slice B k d])) (h1 : rs.length = L.length)
    (h2 : ∀ j, j < L.length → (rs.getD j (0, none, 0, 0)).1 = ((mkM N L).getD j (0, [])).1 ∧ SliceOk (rs.getD j (0, none, 0, 0)).2.1 (rs.getD j (0, none, 0, 0)).2.2.1 (rs.getD j (0, none, 0, 0)).2.2.2 ∧ Words x (rs.getD j (0, none, 0, 0)).2.1 (rs.getD j (0, none, 0, 0)).2.2.1 ((mkM N L).getD j (0, [])).2)
    (hb : Below x.heap.size x w) (hu : Words x B k (rowOf N y)) (hs : SliceOk B k d) (h9 : L9 = L ++ [y]) : ∃ A c, v = .slice A L9.length c ∧ MatAt w 0 A L9.length (mkM N L9) := by
  subst h9
  rw [List.nil_append, ← rowCells_snoc rs ((N : Int), B, k, d), show 0 + L.length + 1 = (L ++ [y]).length by simp] at h
  obtain ⟨A, c, hv, -, hm⟩ := own_mat h (by simp [h1]) (mkM N (L ++ [y])) (mkM_len _ _) (fun j hj => by
    simp only [List.length_append, List.length_cons, List.length_nil] at hj
    by_cases hlt : j < L.length
    · have e1 : (rs ++ [((N : Int), B, k, d)]).getD j (0, none, 0, 0) = rs.getD j (0, none, 0, 0) := by simp only [List.getD]; rw [List.getElem?_append_left (by omega)]
      have e2 : (mkM N (L ++ [y])).getD j (0, []) = (mkM N L).getD j (0, []) := by
        rw [mkM_at N _ j (by simp; omega), mkM_at N L j hlt]
        simp only [List.getD]; rw [List.getElem?_append_left hlt]
      rw [e1, e2]
      obtain ⟨f1, f2, f3⟩ := h2 j hlt
      exact ⟨f1, f2, f3.below hb⟩
    · obtain rfl : j = L.length := by omega
      have e1 : (rs ++ [((N : Int), B, k, d)]).getD L.length (0, none, 0, 0) = ((N : Int), B, k, d) := by rw [← h1]; simp [List.getD]
      have e2 : (mkM N (L ++ [y])).getD L.length (0, []) = mkR N y := by
        rw [mkM_at N _ _ (by simp)]; simp [List.getD]
      rw [e1, e2]
      exact ⟨rfl, hs, hu.below hb⟩)
  exact ⟨A, c, hv, hm.low (Nat.zero_le _)⟩
theorem news_box {w : World} {g : Nat} {t : TypeId} {cs : List Value} (h : Box w g t cs.toArray) : ∀ ad, some (⟨g, 0, none⟩ : Addr) = some ad → ∀ j u, cs[j]? = some u → w.cell? (ad.add j) = some u := by
  intro ad he j u hu
  injection he with he
  subst he
  have hadd : (⟨g, 0, none⟩ : Addr).add j = ⟨g, j, none⟩ := by unfold Addr.add; split <;> simp_all
  rw [hadd, h.cell j]
  simpa using hu
set_option maxHeartbeats 16000000 in
theorem rkeeps_walk (N : Int) (A : Option Addr) (l c : Nat) (ms : List (Int × List Nat)) (n : Int) (Bw : Option Addr) (k0 d : Nat) (us : List Nat) (W : World) (s0 : SliceOk A l c) (s1 : SliceOk Bw k0 d) (h0 : MatAt W 0 A l ms) (h1 : Words W Bw k0 us) (hT : TabAt W 0) :
    Calls Tryd.prog 3 #[.agg #[.int .i64 N, .slice A l c], .agg #[.int .i64 n, .slice Bw k0 d]] W fun e w' => e = .returned (.bool true) ∧ Below W.heap.size W w' := by
  have b1 : Below W.heap.size W ((W.alloc (.cells #[.int .i64 N, .slice A l c] 24)).alloc (.cells #[.int .i64 n, .slice Bw k0 d] 27)) := ((Below.refl _ _).alloc (Nat.le_refl _) _).alloc (by simp) _
  have Q0 := Lib.hid ((Box.new W 24 #[.int .i64 N, .slice A l c]).alloc (.cells #[.int .i64 n, .slice Bw k0 d] 27))
  have q1 := Box.new (W.alloc (.cells #[.int .i64 N, .slice A l c] 24)) 27 #[.int .i64 n, .slice Bw k0 d]
  simp only [World.size_alloc] at q1
  have Q1 := Lib.hid q1
  have HB := Lib.hid b1
  have HF := Lib.hid (few4_any N A l c ms _ s0 (h0.below b1).drew)
  have HU := Lib.hid (h1.below b1)
  have HT := Lib.hid hT
  have hl66 : (fewM ms).length ≤ 66 := by have := fewM_len ms; omega
  have HSh := Lib.hid (fewM_short ms)
  have HS1 := Lib.hid s1
  generalize fewM ms = fs at *
  clear b1 q1 h0 h1 s0 s1 hT
  obtain ⟨r0, r1, -, -⟩ := Q0.out.two
  obtain ⟨t0, t1, -, -⟩ := Q1.out.two
  go_enter Tryd.func3, Tryd.ntmps3
  go_wp2_with fail
  go_cut [] (fun wx => ∃ A1 c1 k1, Box wx W.heap.size 24 #[.int .i64 N, .slice A1 fs.length c1] ∧ Box wx (W.heap.size + 1) 27 #[.int .i64 n, .slice Bw k1 d] ∧ MatAt wx 0 A1 fs.length fs ∧ Words wx Bw k1 (us.take 10) ∧ SliceOk Bw k1 d ∧ Below W.heap.size W wx)
  case first =>
    obtain ⟨hs1, hs2, hs3⟩ := HS1.out
    unfold maxLen at hs2
    cases Bw with
    | none =>
      obtain ⟨rfl, rfl⟩ := hs3 rfl
      have hus : us = [] := List.length_eq_zero_iff.1 HU.out.1
      subst hus
      refine wp_heldG_bar (Sa := (fun w' => w'.cell? ⟨W.heap.size, 0, none⟩ = some (.int .i64 N) ∧ w'.cell? ⟨W.heap.size, 1, none⟩ = some (.slice A l c))) (Sb := (fun w' => w'.cell? ⟨W.heap.size + 1, 1, none⟩ = some (.slice none 0 0))) 10 9 (by kernel_rfl) (by decide) ?_
      have hSa := (show (fun w' => w'.cell? ⟨W.heap.size, 0, none⟩ = some (.int .i64 N) ∧ w'.cell? ⟨W.heap.size, 1, none⟩ = some (.slice A l c)) (World.drew ((W.alloc (.cells #[.int .i64 N, .slice A l c] 24)).alloc (.cells #[.int .i64 n, .slice none 0 0] 27))) from ⟨r0, r1⟩)
      have hSb := (show (fun w' => w'.cell? ⟨W.heap.size + 1, 1, none⟩ = some (.slice none 0 0)) (World.drew ((W.alloc (.cells #[.int .i64 N, .slice A l c] 24)).alloc (.cells #[.int .i64 n, .slice none 0 0] 27))) from t1)
      refine headG_take (i := 0) (v := ?_) true rfl (by kernel_rfl) (fun _ _ _ h => h) (fun _ _ _ h => passed_ready h.1) (Or.inl ⟨by rfl, ?hy1⟩) ⟨hSb, fun _ => hSa⟩ ?rest1
      case hy1 => intro w hSw; obtain ⟨sw2, sw1⟩ := hSw; (try dsimp only at sw2); obtain ⟨sa0, sa1⟩ := sw1 rfl; go_simp; try (with_reducible rfl)
      case rest1 =>
      try simp only [Act.put, List.setIfInBounds_toArray, List.set_cons_zero, List.set_cons_succ]
      refine headG_take (i := 2) (v := ?_) false rfl (by kernel_rfl) (fun _ _ _ h => h) (fun _ _ _ h => passed_ready h.1) (Or.inl ⟨by rfl, ?hy2⟩) ⟨hSb, fun _ => hSa⟩ ?rest2
      case hy2 => intro w hSw; obtain ⟨sw2, sw1⟩ := hSw; (try dsimp only at sw2); clear sw1; go_simp; try (with_reducible rfl)
      case rest2 =>
      try simp only [Act.put, List.setIfInBounds_toArray, List.set_cons_zero, List.set_cons_succ]
      refine headG_take (i := 3) (v := ?_) false rfl (by kernel_rfl) (fun _ _ _ h => h) (fun _ _ _ h => passed_ready h.1) (Or.inl ⟨by rfl, ?hy3⟩) ⟨hSb, fun _ => hSa⟩ ?rest3
      case hy3 => intro w hSw; obtain ⟨sw2, sw1⟩ := hSw; (try dsimp only at sw2); clear sw1; go_simp; try (with_reducible rfl)
      case rest3 =>
      try simp only [Act.put, List.setIfInBounds_toArray, List.set_cons_zero, List.set_cons_succ]
      refine headG_take (i := 4) (v := ?_) false rfl (by kernel_rfl) (fun _ _ _ h => h) (fun _ _ _ h => passed_ready h.1) (Or.inl ⟨by rfl, ?hy4⟩) ⟨hSb, fun _ => hSa⟩ ?rest4
      case hy4 => intro w hSw; obtain ⟨sw2, sw1⟩ := hSw; (try dsimp only at sw2); clear sw1; go_simp; try (with_reducible rfl)
      case rest4 =>
      try simp only [Act.put, List.setIfInBounds_toArray, List.set_cons_zero, List.set_cons_succ]
      refine headG_take (i := 5) (v := ?_) false rfl (by kernel_rfl) (fun _ _ _ h => h) (fun _ _ _ h => passed_ready h.1) (Or.inl ⟨by rfl, ?hy5⟩) ⟨hSb, fun _ => hSa⟩ ?rest5
      case hy5 => intro w hSw; obtain ⟨sw2, sw1⟩ := hSw; (try dsimp only at sw2); clear sw1; go_simp; try (with_reducible rfl)
      case rest5 =>
      try simp only [Act.put, List.setIfInBounds_toArray, List.set_cons_zero, List.set_cons_succ]
      refine headG_take (i := 6) (v := ?_) false rfl (by kernel_rfl) (fun _ _ _ h => h) (fun _ _ _ h => passed_ready h.1) (Or.inl ⟨by rfl, ?hy6⟩) ⟨hSb, fun _ => hSa⟩ ?rest6
      case hy6 => intro w hSw; obtain ⟨sw2, sw1⟩ := hSw; (try dsimp only at sw2); clear sw1; go_simp; try (with_reducible rfl)
      case rest6 =>
      try simp only [Act.put, List.setIfInBounds_toArray, List.set_cons_zero, List.set_cons_succ]
      refine headG_take (i := 7) (v := ?_) false rfl (by kernel_rfl) (fun _ _ _ h => h) (fun _ _ _ h => passed_ready h.1) (Or.inl ⟨by rfl, ?hy7⟩) ⟨hSb, fun _ => hSa⟩ ?rest7
      case hy7 => intro w hSw; obtain ⟨sw2, sw1⟩ := hSw; (try dsimp only at sw2); clear sw1; go_simp; try (with_reducible rfl)
      case rest7 =>
      try simp only [Act.put, List.setIfInBounds_toArray, List.set_cons_zero, List.set_cons_succ]
      refine headG_take (i := 8) (v := ?_) false rfl (by kernel_rfl) (fun _ _ _ h => h) (fun _ _ _ h => passed_ready h.1) (Or.inl ⟨by rfl, ?hy8⟩) ⟨hSb, fun _ => hSa⟩ ?rest8
      case hy8 => intro w hSw; obtain ⟨sw2, sw1⟩ := hSw; (try dsimp only at sw2); clear sw1; go_simp; try (with_reducible rfl)
      case rest8 =>
      try simp only [Act.put, List.setIfInBounds_toArray, List.set_cons_zero, List.set_cons_succ]
      refine headG_one (i := 1) (by kernel_rfl) rfl (fun K hK => ?_)
      go_simp
      refine HF.out.mono ?_
      rintro e1 x1 ⟨A1, c1, rfl, q1, hb⟩
      have P0 := Lib.hid (Q0.out.drew.keep hb)
      have P1 := Lib.hid (Q1.out.drew.keep hb)
      have PB := Lib.hid (chain HB.out.drew hb)
      have PU := Lib.hid (HU.out.drew.below hb)
      have PM := Lib.hid q1
      clear hb q1 hSa hSb
      obtain ⟨u0, u1, u2, u3⟩ := P0.out.two
      obtain ⟨v0, v1, v2, v3⟩ := P1.out.two
      have hSa := (show (fun w' => w'.cell? ⟨W.heap.size, 0, none⟩ = some (.int .i64 N) ∧ w'.cell? ⟨W.heap.size, 1, none⟩ = some (.slice A l c)) x1 from ⟨u0, u1⟩)
      have hSb := (show (fun w' => w'.cell? ⟨W.heap.size + 1, 1, none⟩ = some (.slice none 0 0)) x1 from v1)
      refine hK.out _ _ ⟨hSb, fun _ => hSa⟩ ?_
      clear hK K
      try simp only [Act.put, List.setIfInBounds_toArray, List.set_cons_zero, List.set_cons_succ]
      refine headG_one (i := 9) (by kernel_rfl) rfl (fun K hK => ?_)
      go_simp
      refine hK.out _ _ ⟨((P1.out.far (p := ⟨W.heap.size, 0, none⟩) (by simp) (.int .i64 N)).far (p := ⟨W.heap.size, 1, none⟩) (by simp) (.slice A1 fs.length c1)).cell 1, fun h => Bool.noConfusion (show true = false from h)⟩ ?_
      clear hK K
      refine ⟨by kernel_rfl, ?_⟩
      refine wpAny_take (i := 10) (v := ?_) rfl (by kernel_rfl) (by kernel_rfl) (by kernel_rfl) (fun _ _ _ h => h) (Or.inl ⟨by rfl, ?hy9⟩) ?rest9
      case hy9 => intro w; go_simp; try (with_reducible rfl)
      case rest9 =>
      try simp only [Act.put, List.setIfInBounds_toArray, List.set_cons_zero, List.set_cons_succ]
      refine wpAny_ready (rs := [11]) (by kernel_rfl) (by simp) ?_
      refine AllReady.cons rfl (fun K hK => ?_) AllReady.nil
      go_simp
      refine hK _ _ ?_
      clear hK K
      refine wpAny_done (by kernel_rfl) ?_ _
      go_wp2_with fail
      go_meet
      obtain ⟨e1, e2, e3, e4, e5⟩ := cut_two (A1 := A1) (c1 := c1) (k1 := 0) P0.out P1.out (by simp) PM.out (by simp <;> omega) (by simp <;> omega) (Words.nil x1 none) PB.out (Nat.le_refl _) (by simp)
      exact ⟨A1, c1, 0, e1, e2, e3, e4, HS1.out, e5⟩
    | some ad =>
      by_cases h10 : k0 ≤ 10
      · have g1 : (k0 : Int) ≤ 10 := by omega
        have g2 : ¬ (10 : Int) < k0 := by omega
        refine wp_heldG_bar (Sa := (fun w' => w'.cell? ⟨W.heap.size, 0, none⟩ = some (.int .i64 N) ∧ w'.cell? ⟨W.heap.size, 1, none⟩ = some (.slice A l c))) (Sb := (fun w' => w'.cell? ⟨W.heap.size + 1, 1, none⟩ = some (.slice (some ad) k0 d))) 10 9 (by kernel_rfl) (by decide) ?_
        have hSa := (show (fun w' => w'.cell? ⟨W.heap.size, 0, none⟩ = some (.int .i64 N) ∧ w'.cell? ⟨W.heap.size, 1, none⟩ = some (.slice A l c)) (World.drew ((W.alloc (.cells #[.int .i64 N, .slice A l c] 24)).alloc (.cells #[.int .i64 n, .slice (some ad) k0 d] 27))) from ⟨r0, r1⟩)
        have hSb := (show (fun w' => w'.cell? ⟨W.heap.size + 1, 1, none⟩ = some (.slice (some ad) k0 d)) (World.drew ((W.alloc (.cells #[.int .i64 N, .slice A l c] 24)).alloc (.cells #[.int .i64 n, .slice (some ad) k0 d] 27))) from t1)
        refine headG_take (i := 0) (v := ?_) true rfl (by kernel_rfl) (fun _ _ _ h => h) (fun _ _ _ h => passed_ready h.1) (Or.inl ⟨by rfl, ?hy10⟩) ⟨hSb, fun _ => hSa⟩ ?rest10
        case hy10 => intro w hSw; obtain ⟨sw2, sw1⟩ := hSw; (try dsimp only at sw2); obtain ⟨sa0, sa1⟩ := sw1 rfl; go_simp; try (with_reducible rfl)
        case rest10 =>
        try simp only [Act.put, List.setIfInBounds_toArray, List.set_cons_zero, List.set_cons_succ]
        refine headG_take (i := 2) (v := ?_) false rfl (by kernel_rfl) (fun _ _ _ h => h) (fun _ _ _ h => passed_ready h.1) (Or.inl ⟨by rfl, ?hy11⟩) ⟨hSb, fun _ => hSa⟩ ?rest11
        case hy11 => intro w hSw; obtain ⟨sw2, sw1⟩ := hSw; (try dsimp only at sw2); clear sw1; go_simp; try (with_reducible rfl)
        case rest11 =>
        try simp only [Act.put, List.setIfInBounds_toArray, List.set_cons_zero, List.set_cons_succ]
        refine headG_take (i := 3) (v := ?_) false rfl (by kernel_rfl) (fun _ _ _ h => h) (fun _ _ _ h => passed_ready h.1) (Or.inl ⟨by rfl, ?hy12⟩) ⟨hSb, fun _ => hSa⟩ ?rest12
        case hy12 => intro w hSw; obtain ⟨sw2, sw1⟩ := hSw; (try dsimp only at sw2); clear sw1; go_simp; try (with_reducible rfl)
        case rest12 =>
        try simp only [Act.put, List.setIfInBounds_toArray, List.set_cons_zero, List.set_cons_succ]
        refine headG_take (i := 4) (v := ?_) false rfl (by kernel_rfl) (fun _ _ _ h => h) (fun _ _ _ h => passed_ready h.1) (Or.inl ⟨by rfl, ?hy13⟩) ⟨hSb, fun _ => hSa⟩ ?rest13
        case hy13 => intro w hSw; obtain ⟨sw2, sw1⟩ := hSw; (try dsimp only at sw2); clear sw1; go_simp; try (with_reducible rfl)
        case rest13 =>
        try simp only [Act.put, List.setIfInBounds_toArray, List.set_cons_zero, List.set_cons_succ]
        refine headG_take (i := 5) (v := ?_) false rfl (by kernel_rfl) (fun _ _ _ h => h) (fun _ _ _ h => passed_ready h.1) (Or.inl ⟨by rfl, ?hy14⟩) ⟨hSb, fun _ => hSa⟩ ?rest14
        case hy14 => intro w hSw; obtain ⟨sw2, sw1⟩ := hSw; (try dsimp only at sw2); clear sw1; go_simp; try (with_reducible rfl)
        case rest14 =>
        try simp only [Act.put, List.setIfInBounds_toArray, List.set_cons_zero, List.set_cons_succ]
        refine headG_take (i := 6) (v := ?_) false rfl (by kernel_rfl) (fun _ _ _ h => h) (fun _ _ _ h => passed_ready h.1) (Or.inl ⟨by rfl, ?hy15⟩) ⟨hSb, fun _ => hSa⟩ ?rest15
        case hy15 => intro w hSw; obtain ⟨sw2, sw1⟩ := hSw; (try dsimp only at sw2); clear sw1; go_simp; try (with_reducible rfl)
        case rest15 =>
        try simp only [Act.put, List.setIfInBounds_toArray, List.set_cons_zero, List.set_cons_succ]
        refine headG_take (i := 7) (v := ?_) false rfl (by kernel_rfl) (fun _ _ _ h => h) (fun _ _ _ h => passed_ready h.1) (Or.inl ⟨by rfl, ?hy16⟩) ⟨hSb, fun _ => hSa⟩ ?rest16
        case hy16 => intro w hSw; obtain ⟨sw2, sw1⟩ := hSw; (try dsimp only at sw2); clear sw1; go_simp; try (with_reducible rfl)
        case rest16 =>
        try simp only [Act.put, List.setIfInBounds_toArray, List.set_cons_zero, List.set_cons_succ]
        refine headG_take (i := 8) (v := ?_) false rfl (by kernel_rfl) (fun _ _ _ h => h) (fun _ _ _ h => passed_ready h.1) (Or.inl ⟨by rfl, ?hy17⟩) ⟨hSb, fun _ => hSa⟩ ?rest17
        case hy17 => intro w hSw; obtain ⟨sw2, sw1⟩ := hSw; (try dsimp only at sw2); clear sw1; go_simp; try (with_reducible rfl)
        case rest17 =>
        try simp only [Act.put, List.setIfInBounds_toArray, List.set_cons_zero, List.set_cons_succ]
        refine headG_one (i := 1) (by kernel_rfl) rfl (fun K hK => ?_)
        go_simp
        refine HF.out.mono ?_
        rintro e1 x1 ⟨A1, c1, rfl, q1, hb⟩
        have P0 := Lib.hid (Q0.out.drew.keep hb)
        have P1 := Lib.hid (Q1.out.drew.keep hb)
        have PB := Lib.hid (chain HB.out.drew hb)
        have PU := Lib.hid (HU.out.drew.below hb)
        have PM := Lib.hid q1
        clear hb q1 hSa hSb
        obtain ⟨u0, u1, u2, u3⟩ := P0.out.two
        obtain ⟨v0, v1, v2, v3⟩ := P1.out.two
        have hSa := (show (fun w' => w'.cell? ⟨W.heap.size, 0, none⟩ = some (.int .i64 N) ∧ w'.cell? ⟨W.heap.size, 1, none⟩ = some (.slice A l c)) x1 from ⟨u0, u1⟩)
        have hSb := (show (fun w' => w'.cell? ⟨W.heap.size + 1, 1, none⟩ = some (.slice (some ad) k0 d)) x1 from v1)
        refine hK.out _ _ ⟨hSb, fun _ => hSa⟩ ?_
        clear hK K
        try simp only [Act.put, List.setIfInBounds_toArray, List.set_cons_zero, List.set_cons_succ]
        refine headG_one (i := 9) (by kernel_rfl) rfl (fun K hK => ?_)
        go_simp
        refine hK.out _ _ ⟨((P1.out.far (p := ⟨W.heap.size, 0, none⟩) (by simp) (.int .i64 N)).far (p := ⟨W.heap.size, 1, none⟩) (by simp) (.slice A1 fs.length c1)).cell 1, fun h => Bool.noConfusion (show true = false from h)⟩ ?_
        clear hK K
        refine ⟨by kernel_rfl, ?_⟩
        refine wpAny_take (i := 10) (v := ?_) rfl (by kernel_rfl) (by kernel_rfl) (by kernel_rfl) (fun _ _ _ h => h) (Or.inl ⟨by rfl, ?hy18⟩) ?rest18
        case hy18 => intro w; go_simp; try (with_reducible rfl)
        case rest18 =>
        try simp only [Act.put, List.setIfInBounds_toArray, List.set_cons_zero, List.set_cons_succ]
        refine wpAny_ready (rs := [11]) (by kernel_rfl) (by simp) ?_
        refine AllReady.cons rfl (fun K hK => ?_) AllReady.nil
        go_simp
        refine hK _ _ ?_
        clear hK K
        refine wpAny_done (by kernel_rfl) ?_ _
        go_wp2_with fail
        go_meet
        have PT := Lib.hid (show Words x1 (some ad) k0 (us.take 10) by rw [List.take_of_length_le (by rw [PU.out.1]; omega)]; exact PU.out)
        obtain ⟨e1, e2, e3, e4, e5⟩ := cut_two (A1 := A1) (c1 := c1) (k1 := k0) P0.out P1.out (by simp) PM.out (by simp <;> omega) (by simp <;> omega) PT.out PB.out (Nat.le_refl _) (by simp)
        exact ⟨A1, c1, k0, e1, e2, e3, e4, HS1.out, e5⟩
      · have g1 : (10 : Int) < k0 := by omega
        have g3 : (10 : Int) ≤ d := by omega
        refine wp_heldG_bar (Sa := (fun w' => w'.cell? ⟨W.heap.size, 0, none⟩ = some (.int .i64 N) ∧ w'.cell? ⟨W.heap.size, 1, none⟩ = some (.slice A l c))) (Sb := (fun w' => w'.cell? ⟨W.heap.size + 1, 1, none⟩ = some (.slice (some ad) k0 d))) 10 9 (by kernel_rfl) (by decide) ?_
        have hSa := (show (fun w' => w'.cell? ⟨W.heap.size, 0, none⟩ = some (.int .i64 N) ∧ w'.cell? ⟨W.heap.size, 1, none⟩ = some (.slice A l c)) (World.drew ((W.alloc (.cells #[.int .i64 N, .slice A l c] 24)).alloc (.cells #[.int .i64 n, .slice (some ad) k0 d] 27))) from ⟨r0, r1⟩)
        have hSb := (show (fun w' => w'.cell? ⟨W.heap.size + 1, 1, none⟩ = some (.slice (some ad) k0 d)) (World.drew ((W.alloc (.cells #[.int .i64 N, .slice A l c] 24)).alloc (.cells #[.int .i64 n, .slice (some ad) k0 d] 27))) from t1)
        refine headG_take (i := 0) (v := ?_) true rfl (by kernel_rfl) (fun _ _ _ h => h) (fun _ _ _ h => passed_ready h.1) (Or.inl ⟨by rfl, ?hy19⟩) ⟨hSb, fun _ => hSa⟩ ?rest19
        case hy19 => intro w hSw; obtain ⟨sw2, sw1⟩ := hSw; (try dsimp only at sw2); obtain ⟨sa0, sa1⟩ := sw1 rfl; go_simp; try (with_reducible rfl)
        case rest19 =>
        try simp only [Act.put, List.setIfInBounds_toArray, List.set_cons_zero, List.set_cons_succ]
        refine headG_take (i := 2) (v := ?_) false rfl (by kernel_rfl) (fun _ _ _ h => h) (fun _ _ _ h => passed_ready h.1) (Or.inl ⟨by rfl, ?hy20⟩) ⟨hSb, fun _ => hSa⟩ ?rest20
        case hy20 => intro w hSw; obtain ⟨sw2, sw1⟩ := hSw; (try dsimp only at sw2); clear sw1; go_simp; try (with_reducible rfl)
        case rest20 =>
        try simp only [Act.put, List.setIfInBounds_toArray, List.set_cons_zero, List.set_cons_succ]
        refine headG_take (i := 3) (v := ?_) false rfl (by kernel_rfl) (fun _ _ _ h => h) (fun _ _ _ h => passed_ready h.1) (Or.inl ⟨by rfl, ?hy21⟩) ⟨hSb, fun _ => hSa⟩ ?rest21
        case hy21 => intro w hSw; obtain ⟨sw2, sw1⟩ := hSw; (try dsimp only at sw2); clear sw1; go_simp; try (with_reducible rfl)
        case rest21 =>
        try simp only [Act.put, List.setIfInBounds_toArray, List.set_cons_zero, List.set_cons_succ]
        refine headG_take (i := 4) (v := ?_) false rfl (by kernel_rfl) (fun _ _ _ h => h) (fun _ _ _ h => passed_ready h.1) (Or.inl ⟨by rfl, ?hy22⟩) ⟨hSb, fun _ => hSa⟩ ?rest22
        case hy22 => intro w hSw; obtain ⟨sw2, sw1⟩ := hSw; (try dsimp only at sw2); clear sw1; go_simp; try (with_reducible rfl)
        case rest22 =>
        try simp only [Act.put, List.setIfInBounds_toArray, List.set_cons_zero, List.set_cons_succ]
        refine headG_take (i := 5) (v := ?_) false rfl (by kernel_rfl) (fun _ _ _ h => h) (fun _ _ _ h => passed_ready h.1) (Or.inl ⟨by rfl, ?hy23⟩) ⟨hSb, fun _ => hSa⟩ ?rest23
        case hy23 => intro w hSw; obtain ⟨sw2, sw1⟩ := hSw; (try dsimp only at sw2); clear sw1; go_simp; try (with_reducible rfl)
        case rest23 =>
        try simp only [Act.put, List.setIfInBounds_toArray, List.set_cons_zero, List.set_cons_succ]
        refine headG_take (i := 6) (v := ?_) false rfl (by kernel_rfl) (fun _ _ _ h => h) (fun _ _ _ h => passed_ready h.1) (Or.inl ⟨by rfl, ?hy24⟩) ⟨hSb, fun _ => hSa⟩ ?rest24
        case hy24 => intro w hSw; obtain ⟨sw2, sw1⟩ := hSw; (try dsimp only at sw2); clear sw1; go_simp; try (with_reducible rfl)
        case rest24 =>
        try simp only [Act.put, List.setIfInBounds_toArray, List.set_cons_zero, List.set_cons_succ]
        refine headG_take (i := 7) (v := ?_) false rfl (by kernel_rfl) (fun _ _ _ h => h) (fun _ _ _ h => passed_ready h.1) (Or.inl ⟨by rfl, ?hy25⟩) ⟨hSb, fun _ => hSa⟩ ?rest25
        case hy25 => intro w hSw; obtain ⟨sw2, sw1⟩ := hSw; (try dsimp only at sw2); clear sw1; go_simp; try (with_reducible rfl)
        case rest25 =>
        try simp only [Act.put, List.setIfInBounds_toArray, List.set_cons_zero, List.set_cons_succ]
        refine headG_take (i := 8) (v := ?_) false rfl (by kernel_rfl) (fun _ _ _ h => h) (fun _ _ _ h => passed_ready h.1) (Or.inl ⟨by rfl, ?hy26⟩) ⟨hSb, fun _ => hSa⟩ ?rest26
        case hy26 => intro w hSw; obtain ⟨sw2, sw1⟩ := hSw; (try dsimp only at sw2); clear sw1; go_simp; try (with_reducible rfl)
        case rest26 =>
        try simp only [Act.put, List.setIfInBounds_toArray, List.set_cons_zero, List.set_cons_succ]
        refine headG_one (i := 1) (by kernel_rfl) rfl (fun K hK => ?_)
        go_simp
        refine HF.out.mono ?_
        rintro e1 x1 ⟨A1, c1, rfl, q1, hb⟩
        have P0 := Lib.hid (Q0.out.drew.keep hb)
        have P1 := Lib.hid (Q1.out.drew.keep hb)
        have PB := Lib.hid (chain HB.out.drew hb)
        have PU := Lib.hid (HU.out.drew.below hb)
        have PM := Lib.hid q1
        clear hb q1 hSa hSb
        obtain ⟨u0, u1, u2, u3⟩ := P0.out.two
        obtain ⟨v0, v1, v2, v3⟩ := P1.out.two
        have hSa := (show (fun w' => w'.cell? ⟨W.heap.size, 0, none⟩ = some (.int .i64 N) ∧ w'.cell? ⟨W.heap.size, 1, none⟩ = some (.slice A l c)) x1 from ⟨u0, u1⟩)
        have hSb := (show (fun w' => w'.cell? ⟨W.heap.size + 1, 1, none⟩ = some (.slice (some ad) k0 d)) x1 from v1)
        refine hK.out _ _ ⟨hSb, fun _ => hSa⟩ ?_
        clear hK K
        try simp only [Act.put, List.setIfInBounds_toArray, List.set_cons_zero, List.set_cons_succ]
        refine headG_one (i := 9) (by kernel_rfl) rfl (fun K hK => ?_)
        go_simp
        refine hK.out _ _ ⟨((P1.out.far (p := ⟨W.heap.size, 0, none⟩) (by simp) (.int .i64 N)).far (p := ⟨W.heap.size, 1, none⟩) (by simp) (.slice A1 fs.length c1)).cell 1, fun h => Bool.noConfusion (show true = false from h)⟩ ?_
        clear hK K
        refine ⟨by kernel_rfl, ?_⟩
        refine wpAny_take (i := 10) (v := ?_) rfl (by kernel_rfl) (by kernel_rfl) (by kernel_rfl) (fun _ _ _ h => h) (Or.inl ⟨by rfl, ?hy27⟩) ?rest27
        case hy27 => intro w; go_simp; try (with_reducible rfl)
        case rest27 =>
        try simp only [Act.put, List.setIfInBounds_toArray, List.set_cons_zero, List.set_cons_succ]
        refine wpAny_ready (rs := [11]) (by kernel_rfl) (by simp) ?_
        refine AllReady.cons rfl (fun K hK => ?_) AllReady.nil
        go_simp
        refine hK _ _ ?_
        clear hK K
        refine wpAny_done (by kernel_rfl) ?_ _
        go_wp2_with fail
        go_meet
        obtain ⟨e1, e2, e3, e4, e5⟩ := cut_two (A1 := A1) (c1 := c1) (k1 := 10) P0.out P1.out (by simp) PM.out (by simp <;> omega) (by simp <;> omega) (PU.out.take 10 (by omega)) PB.out (Nat.le_refl _) (by simp)
        exact ⟨A1, c1, 10, e1, e2, e3, e4, ⟨by omega, by unfold maxLen; omega, fun h => by cases h⟩, e5⟩
  case rest =>
    obtain ⟨A1, c1, k1, hq0, hq1, hm, hu, hs, hb⟩ := hcut
    clear HF HS1 HU Q0 Q1 HB r0 r1 t0 t1
    have HT := Lib.hid (HT.out.below hb)
    have Q0 := Lib.hid hq0
    have Q1 := Lib.hid hq1
    have HM := Lib.hid hm
    have HU := Lib.hid hu
    have HS := Lib.hid hs
    have HB := Lib.hid hb
    generalize us.take 10 = vs at *
    clear hq0 hq1 hm hu hs hb
    obtain ⟨r0, r1, -, -⟩ := Q0.out.two
    obtain ⟨t0, t1, -, -⟩ := Q1.out.two
    cases hr : rightM N fs with
    | false =>
      have HE := Lib.hid (ech_no N A1 fs.length c1 _ fs _ HM.out (by unfold maxLen; omega) hr)
      clear hr
      go_wp2_with fail
      refine HE.out.mono ?_
      rintro e x3 ⟨rfl, hb⟩
      have HB := Lib.hid ((chain HB.out hb).alloc (chain HB.out hb).size (.cells #[.int .i64 0, .slice none 0 0] 24))
      clear hb r0 r1 t0 t1 HE
      go_wp2_with fail
      refine (alive4_any _).mono ?_
      rintro e x6 ⟨rfl, hb⟩
      have HB := Lib.hid (chain HB.out hb)
      clear hb
      go_wp2_with fail
      go_ret
      exact ⟨by simp, HB.out⟩
    | true =>
      obtain ⟨n0, L, rfl, hn, hL64, rfl, hL⟩ := mat_num hr (fun i j => HM.out.lt i j)
      rw [mkM_len] at *
      have HLs := Lib.hid hL
      have HRM := Lib.hid hr
      obtain ⟨T, hT1, hT2, hT3, hT4⟩ := turn_num hn hL64 (L := L)
      have HE := Lib.hid (ech_yes n0 hn L hL hL64 A1 c1 _ _ HM.out hr)
      have HTu := Lib.hid (fun w' (h : MatAt w' 0 A1 L.length (mkM n0 L)) => turn_any (n0 : Int) A1 L.length c1 0 (mkM n0 L) w' h (by unfold maxLen; omega))
      rw [show turnN (n0 : Int) (mkM n0 L) = (L.length : Int) by rw [turnN, hr, mkM_len]; rfl, show turnL (n0 : Int) (mkM n0 L) = mkM L.length T by rw [turnL, hr, if_pos rfl, Int.toNat_natCast, hT1], show turnE (n0 : Int) (mkM n0 L) = 0 by rw [turnE, hr]; rfl] at HTu
      have HT1 := Lib.hid hT1
      have HT2 := Lib.hid hT2
      have HT3 := Lib.hid hT3
      have HT4 := Lib.hid hT4
      have HTR := Lib.hid (rightM_mk hL64 (by rw [hT2]; exact hn) hT3)
      clear hr hL hT1 hT2 hT3 hT4
      go_wp2_with fail
      refine (HE.out).mono ?_
      rintro e x1 ⟨M, P, A2, B2, kc, rfl, h1, h2, h3, h4, h5, hb⟩
      clear r0 r1 t0 t1
      have HX := Lib.hid (h3)
      have HI := Lib.hid (h4)
      replace Q0 := Lib.hid (Q0.out.keep hb)
      replace Q1 := Lib.hid (Q1.out.keep hb)
      replace HM := Lib.hid (HM.out.below hb)
      replace HU := Lib.hid (HU.out.below hb)
      replace HT := Lib.hid (HT.out.below hb)
      replace HB := Lib.hid (chain HB.out hb)
      clear hb
      have H1 := Lib.hid h1
      have H2 := Lib.hid h2
      have hml : M.length ≤ 64 := Nat.le_trans (rank_le h1 h2) hL64
      have hmn := rank_bound HLs.out h1 h2
      have hmL := rank_le h1 h2
      have HMl := Lib.hid (same_lt HLs.out h2)
      have HXR := Lib.hid (rightM_mk hn hml HMl.out)
      clear h1 h2 h3 h4 h5
      have hal : Below x1.heap.size x1 (x1.alloc (.cells #[.int .i64 (n0 : Int), .slice A2 M.length M.length] 24)) := (Below.refl _ _).alloc (Nat.le_refl _) _
      replace Q0 := Lib.hid (Q0.out.keep hal)
      replace Q1 := Lib.hid (Q1.out.keep hal)
      replace HM := Lib.hid (HM.out.below hal)
      replace HU := Lib.hid (HU.out.below hal)
      replace HT := Lib.hid (HT.out.below hal)
      replace HX := Lib.hid (HX.out.below hal)
      replace HI := Lib.hid (HI.out.below hal)
      replace HB := Lib.hid (chain HB.out hal)
      have QX := Lib.hid (Box.new x1 24 #[.int .i64 (n0 : Int), .slice A2 M.length M.length])
      clear hal
      obtain ⟨r0, r1, -, -⟩ := Q0.out.two
      obtain ⟨t0, t1, -, -⟩ := Q1.out.two
      obtain ⟨xa, xb, -, -⟩ := QX.out.two
      go_wp2_with fail
      refine ((ech_yes n0 hn M HMl.out hml A2 M.length _ _ HX.out HXR.out)).mono ?_
      rintro e x2 ⟨M4, P4, A4, B4, kc4, he, g1, g2, g3, g4, g5, hb⟩
      obtain ⟨e1, e2⟩ := rref_uniq g1 H1.out g2.symm
      rw [e1] at he g3 g4
      rw [e2] at g4
      subst he
      clear e1 e2
      clear r0 r1 t0 t1 xa xb
      have HA := Lib.hid (g3)
      have HI2 := Lib.hid (g4)
      replace Q0 := Lib.hid (Q0.out.keep hb)
      replace Q1 := Lib.hid (Q1.out.keep hb)
      replace HM := Lib.hid (HM.out.below hb)
      replace HU := Lib.hid (HU.out.below hb)
      replace HT := Lib.hid (HT.out.below hb)
      replace HX := Lib.hid (HX.out.below hb)
      replace HI := Lib.hid (HI.out.below hb)
      replace QX := Lib.hid (QX.out.keep hb)
      replace HB := Lib.hid (chain HB.out hb)
      clear hb
      clear g1 g2 g5
      have hal : Below x2.heap.size x2 (x2.alloc (.cells #[.int .i64 (n0 : Int), .slice A4 M.length M.length] 24)) := (Below.refl _ _).alloc (Nat.le_refl _) _
      replace Q0 := Lib.hid (Q0.out.keep hal)
      replace Q1 := Lib.hid (Q1.out.keep hal)
      replace HM := Lib.hid (HM.out.below hal)
      replace HU := Lib.hid (HU.out.below hal)
      replace HT := Lib.hid (HT.out.below hal)
      replace HX := Lib.hid (HX.out.below hal)
      replace HI := Lib.hid (HI.out.below hal)
      replace QX := Lib.hid (QX.out.keep hal)
      replace HA := Lib.hid (HA.out.below hal)
      replace HI2 := Lib.hid (HI2.out.below hal)
      replace HB := Lib.hid (chain HB.out hal)
      have QA := Lib.hid (Box.new x2 24 #[.int .i64 (n0 : Int), .slice A4 M.length M.length])
      clear hal
      obtain ⟨r0, r1, -, -⟩ := Q0.out.two
      obtain ⟨t0, t1, -, -⟩ := Q1.out.two
      obtain ⟨xa, xb, -, -⟩ := QX.out.two
      obtain ⟨y0, y1, -, -⟩ := QA.out.two
      go_wp2_with fail
      refine (HTu.out _ HM.out).mono ?_
      rintro e x3 ⟨A5, c5, rfl, g1, hb⟩
      clear r0 r1 t0 t1 xa xb y0 y1
      have HTm := Lib.hid (g1.low (Nat.zero_le _))
      replace Q0 := Lib.hid (Q0.out.keep hb)
      replace Q1 := Lib.hid (Q1.out.keep hb)
      replace HM := Lib.hid (HM.out.below hb)
      replace HU := Lib.hid (HU.out.below hb)
      replace HT := Lib.hid (HT.out.below hb)
      replace HX := Lib.hid (HX.out.below hb)
      replace HI := Lib.hid (HI.out.below hb)
      replace QX := Lib.hid (QX.out.keep hb)
      replace HA := Lib.hid (HA.out.below hb)
      replace HI2 := Lib.hid (HI2.out.below hb)
      replace QA := Lib.hid (QA.out.keep hb)
      replace HB := Lib.hid (chain HB.out hb)
      clear hb
      clear g1
      have hal : Below x3.heap.size x3 (x3.alloc (.cells #[.int .i64 (L.length : Int), .slice A5 (mkM L.length T).length c5] 24)) := (Below.refl _ _).alloc (Nat.le_refl _) _
      replace Q0 := Lib.hid (Q0.out.keep hal)
      replace Q1 := Lib.hid (Q1.out.keep hal)
      replace HM := Lib.hid (HM.out.below hal)
      replace HU := Lib.hid (HU.out.below hal)
      replace HT := Lib.hid (HT.out.below hal)
      replace HX := Lib.hid (HX.out.below hal)
      replace HI := Lib.hid (HI.out.below hal)
      replace QX := Lib.hid (QX.out.keep hal)
      replace HA := Lib.hid (HA.out.below hal)
      replace HI2 := Lib.hid (HI2.out.below hal)
      replace QA := Lib.hid (QA.out.keep hal)
      replace HTm := Lib.hid (HTm.out.below hal)
      replace HB := Lib.hid (chain HB.out hal)
      have QT := Lib.hid (Box.new x3 24 #[.int .i64 (L.length : Int), .slice A5 (mkM L.length T).length c5])
      clear hal
      obtain ⟨r0, r1, -, -⟩ := Q0.out.two
      obtain ⟨t0, t1, -, -⟩ := Q1.out.two
      obtain ⟨xa, xb, -, -⟩ := QX.out.two
      obtain ⟨y0, y1, -, -⟩ := QA.out.two
      obtain ⟨z0, z1, -, -⟩ := QT.out.two
      go_wp2_with fail
      rw [mkM_len] at *
      refine ((rank_yes L.length hL64 T HT3.out (by rw [HT2.out]; exact hn) A5 c5 0 _ HTm.out HTR.out)).mono ?_
      rintro e x4 ⟨M6, P6, g1, g2, he, hb⟩
      rw [rank_turn HLs.out HT2.out HT4.out HT3.out H1.out H2.out g1 g2] at he
      subst he
      clear g1 g2
      clear r0 r1 t0 t1 xa xb y0 y1 z0 z1
      replace Q0 := Lib.hid (Q0.out.keep hb)
      replace Q1 := Lib.hid (Q1.out.keep hb)
      replace HM := Lib.hid (HM.out.below hb)
      replace HU := Lib.hid (HU.out.below hb)
      replace HT := Lib.hid (HT.out.below hb)
      replace HX := Lib.hid (HX.out.below hb)
      replace HI := Lib.hid (HI.out.below hb)
      replace QX := Lib.hid (QX.out.keep hb)
      replace HA := Lib.hid (HA.out.below hb)
      replace HI2 := Lib.hid (HI2.out.below hb)
      replace QA := Lib.hid (QA.out.keep hb)
      replace HTm := Lib.hid (HTm.out.below hb)
      replace QT := Lib.hid (QT.out.keep hb)
      replace HB := Lib.hid (chain HB.out hb)
      clear hb
      obtain ⟨r0, r1, -, -⟩ := Q0.out.two
      obtain ⟨t0, t1, -, -⟩ := Q1.out.two
      obtain ⟨xa, xb, -, -⟩ := QX.out.two
      obtain ⟨y0, y1, -, -⟩ := QA.out.two
      obtain ⟨z0, z1, -, -⟩ := QT.out.two
      have j1 : ¬ (n0 : Int) < (M.length : Int) := by omega
      have j2 : ¬ (L.length : Int) < (M.length : Int) := by omega
      have j3 : ((M.length : Int) != (M.length : Int)) = false := by simp
      have j4 : decide (n0 < M.length) = false := decide_eq_false (by omega)
      have j5 : decide (L.length < M.length) = false := decide_eq_false (by omega)
      go_wp2_with fail
      refine ((same3_any n0 n0 A4 A2 M.length M.length M.length M.length 0 0 _ _ _ HA.out HX.out (by omega) (fun j => mk_short n0 hn M j))).mono ?_
      rintro e x5 ⟨rfl, hb⟩
      rw [sameM_self]
      clear r0 r1 t0 t1 xa xb y0 y1 z0 z1
      replace Q0 := Lib.hid (Q0.out.keep hb)
      replace Q1 := Lib.hid (Q1.out.keep hb)
      replace HM := Lib.hid (HM.out.below hb)
      replace HU := Lib.hid (HU.out.below hb)
      replace HT := Lib.hid (HT.out.below hb)
      replace HX := Lib.hid (HX.out.below hb)
      replace HI := Lib.hid (HI.out.below hb)
      replace QX := Lib.hid (QX.out.keep hb)
      replace HA := Lib.hid (HA.out.below hb)
      replace HI2 := Lib.hid (HI2.out.below hb)
      replace QA := Lib.hid (QA.out.keep hb)
      replace HTm := Lib.hid (HTm.out.below hb)
      replace QT := Lib.hid (QT.out.keep hb)
      replace HB := Lib.hid (chain HB.out hb)
      clear hb
      obtain ⟨r0, r1, -, -⟩ := Q0.out.two
      obtain ⟨t0, t1, -, -⟩ := Q1.out.two
      obtain ⟨xa, xb, -, -⟩ := QX.out.two
      obtain ⟨y0, y1, -, -⟩ := QA.out.two
      obtain ⟨z0, z1, -, -⟩ := QT.out.two
      go_wp2_with fail
      refine ((refNumbers_any B2 B4 M.length kc M.length kc4 _ _ _ HI.out HI2.out (by omega) (by omega))).mono ?_
      rintro e x6 ⟨rfl, hb⟩
      rw [show sameZ (P.map fun x : Nat => (x : Int)) (P.map fun x : Nat => (x : Int)) = true from decide_eq_true rfl]
      clear r0 r1 t0 t1 xa xb y0 y1 z0 z1
      replace Q0 := Lib.hid (Q0.out.keep hb)
      replace Q1 := Lib.hid (Q1.out.keep hb)
      replace HM := Lib.hid (HM.out.below hb)
      replace HU := Lib.hid (HU.out.below hb)
      replace HT := Lib.hid (HT.out.below hb)
      replace HX := Lib.hid (HX.out.below hb)
      replace HI := Lib.hid (HI.out.below hb)
      replace QX := Lib.hid (QX.out.keep hb)
      replace HA := Lib.hid (HA.out.below hb)
      replace HI2 := Lib.hid (HI2.out.below hb)
      replace QA := Lib.hid (QA.out.keep hb)
      replace HTm := Lib.hid (HTm.out.below hb)
      replace QT := Lib.hid (QT.out.keep hb)
      replace HB := Lib.hid (chain HB.out hb)
      clear hb
      obtain ⟨r0, r1, -, -⟩ := Q0.out.two
      obtain ⟨t0, t1, -, -⟩ := Q1.out.two
      obtain ⟨xa, xb, -, -⟩ := QX.out.two
      obtain ⟨y0, y1, -, -⟩ := QA.out.two
      obtain ⟨z0, z1, -, -⟩ := QT.out.two
      go_wp2_with fail
      refine (alive4_any _).mono ?_
      rintro e x7 ⟨rfl, hb⟩
      clear r0 r1 t0 t1 xa xb y0 y1 z0 z1
      replace Q0 := Lib.hid (Q0.out.keep hb)
      replace Q1 := Lib.hid (Q1.out.keep hb)
      replace HM := Lib.hid (HM.out.below hb)
      replace HU := Lib.hid (HU.out.below hb)
      replace HT := Lib.hid (HT.out.below hb)
      replace HX := Lib.hid (HX.out.below hb)
      replace HI := Lib.hid (HI.out.below hb)
      replace QX := Lib.hid (QX.out.keep hb)
      replace HA := Lib.hid (HA.out.below hb)
      replace HI2 := Lib.hid (HI2.out.below hb)
      replace QA := Lib.hid (QA.out.keep hb)
      replace HTm := Lib.hid (HTm.out.below hb)
      replace QT := Lib.hid (QT.out.keep hb)
      replace HB := Lib.hid (chain HB.out hb)
      clear hb
      obtain ⟨r0, r1, -, -⟩ := Q0.out.two
      obtain ⟨t0, t1, -, -⟩ := Q1.out.two
      obtain ⟨xa, xb, -, -⟩ := QX.out.two
      obtain ⟨y0, y1, -, -⟩ := QA.out.two
      obtain ⟨z0, z1, -, -⟩ := QT.out.two
      clear HA
      clear HI2
      clear HTm
      clear y0 y1
      clear QA
      clear z0 z1
      clear QT
      go_wp2_with fail
      go_loopw [119] (fun t wr => ∃ i : Nat, i ≤ L.length ∧ t = .int .i64 (i : Int) ∧ Hid (Below x7.heap.size x7 wr)) (fun t _ => L.length - (intOf t).toNat)
      case atStart => exact ⟨0, Nat.zero_le _, rfl, Lib.hid (Below.refl _ _)⟩
      case round =>
        obtain ⟨i, hi, rfl, HBr⟩ := hrel
        clear r0 r1 t0 t1 xa xb
        replace Q0 := Lib.hid (Q0.out.keep HBr.out)
        replace Q1 := Lib.hid (Q1.out.keep HBr.out)
        replace HM := Lib.hid (HM.out.below HBr.out)
        replace HU := Lib.hid (HU.out.below HBr.out)
        replace HT := Lib.hid (HT.out.below HBr.out)
        replace HX := Lib.hid (HX.out.below HBr.out)
        replace HI := Lib.hid (HI.out.below HBr.out)
        replace QX := Lib.hid (QX.out.keep HBr.out)
        replace HB := Lib.hid (chain HB.out HBr.out)
        by_cases hlt : i < L.length
        · have hlt' : (i : Int) < (L.length : Int) := Int.ofNat_lt.2 hlt
          obtain ⟨b, off, Bi, li, ci, rfl, hbl, e0, e1, hs, hw⟩ := HM.out.at i hlt
          rw [mkM_at n0 L i hlt] at e0 hw
          simp only [mkR] at e0 hw
          have HSo := Lib.hid hs
          have HWo := Lib.hid hw
          clear hs hw
          have hal : Below wr.heap.size wr (wr.alloc (.cells #[.int .i64 (n0 : Int), .slice Bi li ci] 27)) := (Below.refl _ _).alloc (Nat.le_refl _) _
          obtain ⟨r0, r1, -, -⟩ := Q0.out.two
          obtain ⟨t0, t1, -, -⟩ := Q1.out.two
          obtain ⟨xa, xb, -, -⟩ := QX.out.two
          replace Q0 := Lib.hid (Q0.out.keep hal)
          replace Q1 := Lib.hid (Q1.out.keep hal)
          replace HM := Lib.hid (HM.out.below hal)
          replace HU := Lib.hid (HU.out.below hal)
          replace HT := Lib.hid (HT.out.below hal)
          replace HX := Lib.hid (HX.out.below hal)
          replace HI := Lib.hid (HI.out.below hal)
          replace QX := Lib.hid (QX.out.keep hal)
          replace HBr := Lib.hid (chain HBr.out hal)
          replace HWo := Lib.hid (HWo.out.below hal)
          replace HB := Lib.hid (chain HB.out hal)
          have G := Lib.hid (Box.new wr 27 #[.int .i64 (n0 : Int), .slice Bi li ci])
          clear hal
          clear r0 r1 t0 t1 xa xb
          have f0 := e0
          have f1 := e1
          obtain ⟨r0, r1, -, -⟩ := Q0.out.two
          obtain ⟨t0, t1, -, -⟩ := Q1.out.two
          obtain ⟨xa, xb, -, -⟩ := QX.out.two
          obtain ⟨g0, g1, -, -⟩ := G.out.two
          go_wp2_with fail
          refine ((spans_true n0 hn L HLs.out hL64 _ c1 0 (L.getD i 0) (HLs.out _ (getD_mem hlt)) (sp_mem (getD_mem hlt)) Bi li ci _ HM.out HRM.out HWo.out HSo.out)).mono ?_
          rintro e x8 ⟨rfl, hb⟩
          clear r0 r1 t0 t1 xa xb g0 g1
          replace Q0 := Lib.hid (Q0.out.keep hb)
          replace Q1 := Lib.hid (Q1.out.keep hb)
          replace HM := Lib.hid (HM.out.below hb)
          replace HU := Lib.hid (HU.out.below hb)
          replace HT := Lib.hid (HT.out.below hb)
          replace HX := Lib.hid (HX.out.below hb)
          replace HI := Lib.hid (HI.out.below hb)
          replace QX := Lib.hid (QX.out.keep hb)
          replace HBr := Lib.hid (chain HBr.out hb)
          replace HWo := Lib.hid (HWo.out.below hb)
          replace G := Lib.hid (G.out.keep hb)
          replace HB := Lib.hid (chain HB.out hb)
          clear hb
          obtain ⟨r0, r1, -, -⟩ := Q0.out.two
          obtain ⟨t0, t1, -, -⟩ := Q1.out.two
          obtain ⟨xa, xb, -, -⟩ := QX.out.two
          obtain ⟨g0, g1, -, -⟩ := G.out.two
          go_wp2_with fail
          refine ((spans_true n0 hn M HMl.out hml A2 M.length 0 (L.getD i 0) (HLs.out _ (getD_mem hlt)) ((H2.out _).1 (sp_mem (getD_mem hlt))) Bi li ci _ HX.out HXR.out HWo.out HSo.out)).mono ?_
          rintro e x9 ⟨rfl, hb⟩
          clear r0 r1 t0 t1 xa xb g0 g1
          replace Q0 := Lib.hid (Q0.out.keep hb)
          replace Q1 := Lib.hid (Q1.out.keep hb)
          replace HM := Lib.hid (HM.out.below hb)
          replace HU := Lib.hid (HU.out.below hb)
          replace HT := Lib.hid (HT.out.below hb)
          replace HX := Lib.hid (HX.out.below hb)
          replace HI := Lib.hid (HI.out.below hb)
          replace QX := Lib.hid (QX.out.keep hb)
          replace HBr := Lib.hid (chain HBr.out hb)
          replace HWo := Lib.hid (HWo.out.below hb)
          replace G := Lib.hid (G.out.keep hb)
          replace HB := Lib.hid (chain HB.out hb)
          clear hb
          obtain ⟨r0, r1, -, -⟩ := Q0.out.two
          obtain ⟨t0, t1, -, -⟩ := Q1.out.two
          obtain ⟨xa, xb, -, -⟩ := QX.out.two
          obtain ⟨g0, g1, -, -⟩ := G.out.two
          go_wp2_with fail
          go_roundw
          case rel => exact ⟨i + 1, by omega, by go_num, HBr⟩
          case measure => simp [intOf] <;> omega
        · obtain rfl : i = L.length := Nat.le_antisymm hi (Nat.le_of_not_lt hlt)
          have hlt' : ¬ (L.length : Int) < (L.length : Int) := Int.lt_irrefl _
          obtain ⟨r0, r1, -, -⟩ := Q0.out.two
          obtain ⟨t0, t1, -, -⟩ := Q1.out.two
          obtain ⟨xa, xb, -, -⟩ := QX.out.two
          go_wp2_with fail
          skip
          go_loopw [153] (fun t wq => ∃ i : Nat, i ≤ M.length ∧ t = .int .i64 (i : Int) ∧ Hid (Below wr.heap.size wr wq)) (fun t _ => M.length - (intOf t).toNat)
          case atStart => exact ⟨0, Nat.zero_le _, rfl, Lib.hid (Below.refl _ _)⟩
          case round =>
            obtain ⟨i, hi, rfl, HBr⟩ := hrel
            clear r0 r1 t0 t1 xa xb
            replace Q0 := Lib.hid (Q0.out.keep HBr.out)
            replace Q1 := Lib.hid (Q1.out.keep HBr.out)
            replace HM := Lib.hid (HM.out.below HBr.out)
            replace HU := Lib.hid (HU.out.below HBr.out)
            replace HT := Lib.hid (HT.out.below HBr.out)
            replace HX := Lib.hid (HX.out.below HBr.out)
            replace HI := Lib.hid (HI.out.below HBr.out)
            replace QX := Lib.hid (QX.out.keep HBr.out)
            replace HB := Lib.hid (chain HB.out HBr.out)
            by_cases hlt : i < M.length
            · have hlt' : (i : Int) < (M.length : Int) := Int.ofNat_lt.2 hlt
              obtain ⟨b, off, Bi, li, ci, rfl, hbl, e0, e1, hs, hw⟩ := HX.out.at i hlt
              rw [mkM_at n0 M i hlt] at e0 hw
              simp only [mkR] at e0 hw
              have HSo := Lib.hid hs
              have HWo := Lib.hid hw
              clear hs hw
              have hal : Below wr.heap.size wr (wr.alloc (.cells #[.int .i64 (n0 : Int), .slice Bi li ci] 27)) := (Below.refl _ _).alloc (Nat.le_refl _) _
              obtain ⟨r0, r1, -, -⟩ := Q0.out.two
              obtain ⟨t0, t1, -, -⟩ := Q1.out.two
              obtain ⟨xa, xb, -, -⟩ := QX.out.two
              replace Q0 := Lib.hid (Q0.out.keep hal)
              replace Q1 := Lib.hid (Q1.out.keep hal)
              replace HM := Lib.hid (HM.out.below hal)
              replace HU := Lib.hid (HU.out.below hal)
              replace HT := Lib.hid (HT.out.below hal)
              replace HX := Lib.hid (HX.out.below hal)
              replace HI := Lib.hid (HI.out.below hal)
              replace QX := Lib.hid (QX.out.keep hal)
              replace HBr := Lib.hid (chain HBr.out hal)
              replace HWo := Lib.hid (HWo.out.below hal)
              replace HB := Lib.hid (chain HB.out hal)
              have G := Lib.hid (Box.new wr 27 #[.int .i64 (n0 : Int), .slice Bi li ci])
              clear hal
              clear r0 r1 t0 t1 xa xb
              obtain ⟨r0, r1, -, -⟩ := Q0.out.two
              obtain ⟨t0, t1, -, -⟩ := Q1.out.two
              obtain ⟨xa, xb, -, -⟩ := QX.out.two
              obtain ⟨g0, g1, -, -⟩ := G.out.two
              have hp : P.getD i 0 < n0 := low_lt (HMl.out _ (getD_mem hlt)) (H1.out.low i hlt)
              have HLo := Lib.hid (H1.out.low i hlt)
              go_wp2_with fail
              refine ((spans_true n0 hn L HLs.out hL64 A1 c1 0 (M.getD i 0) (HMl.out _ (getD_mem hlt)) ((H2.out _).2 (sp_mem (getD_mem hlt))) Bi li ci _ HM.out HRM.out HWo.out HSo.out)).mono ?_
              rintro e x51 ⟨rfl, hb⟩
              clear r0 r1 t0 t1 xa xb g0 g1
              replace Q0 := Lib.hid (Q0.out.keep hb)
              replace Q1 := Lib.hid (Q1.out.keep hb)
              replace HM := Lib.hid (HM.out.below hb)
              replace HU := Lib.hid (HU.out.below hb)
              replace HT := Lib.hid (HT.out.below hb)
              replace HX := Lib.hid (HX.out.below hb)
              replace HI := Lib.hid (HI.out.below hb)
              replace QX := Lib.hid (QX.out.keep hb)
              replace HBr := Lib.hid (chain HBr.out hb)
              replace HWo := Lib.hid (HWo.out.below hb)
              replace G := Lib.hid (G.out.keep hb)
              replace HB := Lib.hid (chain HB.out hb)
              clear hb
              obtain ⟨r0, r1, -, -⟩ := Q0.out.two
              obtain ⟨t0, t1, -, -⟩ := Q1.out.two
              obtain ⟨xa, xb, -, -⟩ := QX.out.two
              obtain ⟨g0, g1, -, -⟩ := G.out.two
              go_wp2_with fail
              refine ((bfirst_low n0 (M.getD i 0) (P.getD i 0) (by omega) (HMl.out _ (getD_mem hlt)) HLo.out Bi li ci _ HWo.out HT.out)).mono ?_
              rintro e x52 ⟨rfl, hb⟩
              clear r0 r1 t0 t1 xa xb g0 g1
              replace Q0 := Lib.hid (Q0.out.keep hb)
              replace Q1 := Lib.hid (Q1.out.keep hb)
              replace HM := Lib.hid (HM.out.below hb)
              replace HU := Lib.hid (HU.out.below hb)
              replace HT := Lib.hid (HT.out.below hb)
              replace HX := Lib.hid (HX.out.below hb)
              replace HI := Lib.hid (HI.out.below hb)
              replace QX := Lib.hid (QX.out.keep hb)
              replace HBr := Lib.hid (chain HBr.out hb)
              replace HWo := Lib.hid (HWo.out.below hb)
              replace G := Lib.hid (G.out.keep hb)
              replace HB := Lib.hid (chain HB.out hb)
              clear hb
              obtain ⟨r0, r1, -, -⟩ := Q0.out.two
              obtain ⟨t0, t1, -, -⟩ := Q1.out.two
              obtain ⟨xa, xb, -, -⟩ := QX.out.two
              obtain ⟨g0, g1, -, -⟩ := G.out.two
              obtain ⟨bi, oi, rfl, hbi, hci⟩ := HI.out.2.2 (Nat.lt_of_le_of_lt (Nat.zero_le _) hlt)
              have cc := hci i hlt
              rw [show (P.map fun x : Nat => (x : Int)).getD i 0 = ((P.getD i 0 : Nat) : Int) by simp [List.getD, show i < P.length by have := H1.out.len; omega]] at cc
              have jj : (((P.getD i 0 : Nat) : Int) != ((P.getD i 0 : Nat) : Int)) = false := by simp
              clear hci HLo
              generalize P.getD i 0 = p at *
              go_wp2_with fail
              go_roundw
              case rel => exact ⟨i + 1, by omega, by go_num, HBr⟩
              case measure => simp [intOf] <;> omega
            · obtain rfl : i = M.length := Nat.le_antisymm hi (Nat.le_of_not_lt hlt)
              have hlt' : ¬ (M.length : Int) < (M.length : Int) := Int.lt_irrefl _
              obtain ⟨r0, r1, -, -⟩ := Q0.out.two
              obtain ⟨t0, t1, -, -⟩ := Q1.out.two
              obtain ⟨xa, xb, -, -⟩ := QX.out.two
              go_wp2_with fail

              clear HI
              clear HX
              clear xa xb
              clear QX
              cases hrr : rightB n vs with
              | false =>
                have HSp := Lib.hid (spans_argR n0 hn L HLs.out hL64 A1 c1 0 n Bw k1 d vs _ HM.out HRM.out HU.out hrr)
                clear hrr
                go_wp2_with fail
                refine (HSp.out).mono ?_
                rintro e x51 ⟨rfl, hb⟩
                clear r0 r1 t0 t1
                replace Q0 := Lib.hid (Q0.out.keep hb)
                replace Q1 := Lib.hid (Q1.out.keep hb)
                replace HM := Lib.hid (HM.out.below hb)
                replace HU := Lib.hid (HU.out.below hb)
                replace HT := Lib.hid (HT.out.below hb)
                replace HB := Lib.hid (chain HB.out hb)
                clear hb
                obtain ⟨r0, r1, -, -⟩ := Q0.out.two
                obtain ⟨t0, t1, -, -⟩ := Q1.out.two
                go_wp2_with fail
                refine (alive4_any _).mono ?_
                rintro e x52 ⟨rfl, hb⟩
                clear r0 r1 t0 t1
                replace Q0 := Lib.hid (Q0.out.keep hb)
                replace Q1 := Lib.hid (Q1.out.keep hb)
                replace HM := Lib.hid (HM.out.below hb)
                replace HU := Lib.hid (HU.out.below hb)
                replace HT := Lib.hid (HT.out.below hb)
                replace HB := Lib.hid (chain HB.out hb)
                clear hb
                obtain ⟨r0, r1, -, -⟩ := Q0.out.two
                obtain ⟨t0, t1, -, -⟩ := Q1.out.two
                go_wp2_with fail
                go_ret
                exact ⟨by simp, HB.out⟩
              | true =>
                cases hne : (n == (n0 : Int)) with
                | false =>
                  have HSp := Lib.hid (spans_size n0 hn L HLs.out hL64 A1 c1 0 n Bw k1 d vs _ HM.out HRM.out HU.out hrr hne)
                  clear hrr hne
                  go_wp2_with fail
                  refine (HSp.out).mono ?_
                  rintro e x51 ⟨rfl, hb⟩
                  clear r0 r1 t0 t1
                  replace Q0 := Lib.hid (Q0.out.keep hb)
                  replace Q1 := Lib.hid (Q1.out.keep hb)
                  replace HM := Lib.hid (HM.out.below hb)
                  replace HU := Lib.hid (HU.out.below hb)
                  replace HT := Lib.hid (HT.out.below hb)
                  replace HB := Lib.hid (chain HB.out hb)
                  clear hb
                  obtain ⟨r0, r1, -, -⟩ := Q0.out.two
                  obtain ⟨t0, t1, -, -⟩ := Q1.out.two
                  go_wp2_with fail
                  refine (alive4_any _).mono ?_
                  rintro e x52 ⟨rfl, hb⟩
                  clear r0 r1 t0 t1
                  replace Q0 := Lib.hid (Q0.out.keep hb)
                  replace Q1 := Lib.hid (Q1.out.keep hb)
                  replace HM := Lib.hid (HM.out.below hb)
                  replace HU := Lib.hid (HU.out.below hb)
                  replace HT := Lib.hid (HT.out.below hb)
                  replace HB := Lib.hid (chain HB.out hb)
                  clear hb
                  obtain ⟨r0, r1, -, -⟩ := Q0.out.two
                  obtain ⟨t0, t1, -, -⟩ := Q1.out.two
                  go_wp2_with fail
                  go_ret
                  exact ⟨by simp, HB.out⟩
                | true =>
                  obtain rfl : n = (n0 : Int) := by simpa using hne
                  obtain ⟨y, rfl, hy⟩ : ∃ y, vs = rowOf n0 y ∧ y < 2 ^ n0 := ⟨_, row_of hrr HU.out.2.1⟩
                  have HY := Lib.hid hy
                  have HSp := Lib.hid (spans_yes n0 hn L HLs.out hL64 A1 c1 0 y hy Bw k1 d _ HM.out HRM.out HU.out HS.out)
                  clear hrr hne hy
                  by_cases h64 : 64 ≤ L.length
                  · have h64' : (64 : Int) ≤ (L.length : Int) := by omega
                    go_wp2_with fail
                    refine (HSp.out).mono ?_
                    rintro e x51 ⟨b, hbs, rfl, hb⟩
                    clear r0 r1 t0 t1
                    replace Q0 := Lib.hid (Q0.out.keep hb)
                    replace Q1 := Lib.hid (Q1.out.keep hb)
                    replace HM := Lib.hid (HM.out.below hb)
                    replace HU := Lib.hid (HU.out.below hb)
                    replace HT := Lib.hid (HT.out.below hb)
                    replace HB := Lib.hid (chain HB.out hb)
                    clear hb
                    clear hbs
                    obtain ⟨r0, r1, -, -⟩ := Q0.out.two
                    obtain ⟨t0, t1, -, -⟩ := Q1.out.two
                    go_wp2_with fail
                    refine (alive4_any _).mono ?_
                    rintro e x52 ⟨rfl, hb⟩
                    clear r0 r1 t0 t1
                    replace Q0 := Lib.hid (Q0.out.keep hb)
                    replace Q1 := Lib.hid (Q1.out.keep hb)
                    replace HM := Lib.hid (HM.out.below hb)
                    replace HU := Lib.hid (HU.out.below hb)
                    replace HT := Lib.hid (HT.out.below hb)
                    replace HB := Lib.hid (chain HB.out hb)
                    clear hb
                    obtain ⟨r0, r1, -, -⟩ := Q0.out.two
                    obtain ⟨t0, t1, -, -⟩ := Q1.out.two
                    go_wp2_with fail
                    go_ret
                    exact ⟨by simp, HB.out⟩
                  · have h64' : ¬ (64 : Int) ≤ (L.length : Int) := by omega
                    go_wp2_with fail
                    refine (HSp.out).mono ?_
                    rintro e x51 ⟨b, hbs, rfl, hb⟩
                    clear r0 r1 t0 t1
                    replace Q0 := Lib.hid (Q0.out.keep hb)
                    replace Q1 := Lib.hid (Q1.out.keep hb)
                    replace HM := Lib.hid (HM.out.below hb)
                    replace HU := Lib.hid (HU.out.below hb)
                    replace HT := Lib.hid (HT.out.below hb)
                    replace HB := Lib.hid (chain HB.out hb)
                    clear hb
                    have HBs := Lib.hid hbs
                    clear hbs
                    obtain ⟨r0, r1, -, -⟩ := Q0.out.two
                    obtain ⟨t0, t1, -, -⟩ := Q1.out.two
                    go_wp2_with fail
                    generalize x51 = x9 at *
                    obtain ⟨i0, hi0, hz0, hz1, hz2⟩ := info_parts row_infoM
                    have HIi := Lib.hid hi0
                    have HZ0 := Lib.hid hz0
                    have HZ1 := Lib.hid hz1
                    have HZ2 := Lib.hid hz2
                    obtain ⟨rs, hrs1, hrs2, hrs3⟩ := HM.out.rs
                    have HRs1 := Lib.hid hrs1
                    have HRs2 := Lib.hid hrs2
                    have HNews := Lib.hid hrs3
                    have HOne := Lib.hid (rowCells_one rs)
                    have HNil := Lib.hid (show A1 = none → L.length = 0 from fun h => by
                      rcases Nat.eq_zero_or_pos L.length with h0 | h0
                      · exact h0
                      · obtain ⟨_, _, _, _, _, h1, _⟩ := HM.out.at 0 h0
                        rw [h] at h1; cases h1)
                    have HCl := Lib.hid (show (rowCells rs).length = L.length * 2 by rw [rowCells_len, hrs1])
                    clear hi0 hz0 hz1 hz2 hrs1 hrs2 hrs3
                    have u1 : Below x9.heap.size x9 (x9.alloc (.cells #[] 27)) := (Below.refl _ _).alloc (Nat.le_refl _) _
                    have u2 : Below x9.heap.size x9 ((x9.alloc (.cells #[] 27)).alloc (.cells #[.int .i64 (n0 : Int), .slice Bw k1 d] 27)) := u1.alloc (by simp) _
                    have u3 : Below x9.heap.size x9 ((x9.alloc (.cells #[.int .i64 (n0 : Int), .slice Bw k1 d] 27)).alloc (.cells #[] 27)) := ((Below.refl _ _).alloc (Nat.le_refl _) _).alloc (by simp) _
                    have B1 := Lib.hid u1.drew
                    have B2 := Lib.hid u2.drew
                    have B3 := Lib.hid u3.drew
                    have e1 := Box.new x9 27 #[]
                    have e2 := e1.alloc (.cells #[.int .i64 (n0 : Int), .slice Bw k1 d] 27)
                    have e3 := Box.new (x9.alloc (.cells #[.int .i64 (n0 : Int), .slice Bw k1 d] 27)) 27 #[]
                    have f2 := Box.new (x9.alloc (.cells #[] 27)) 27 #[.int .i64 (n0 : Int), .slice Bw k1 d]
                    have f3 := (Box.new x9 27 #[.int .i64 (n0 : Int), .slice Bw k1 d]).alloc (.cells #[] 27)
                    simp only [World.size_alloc] at e3 f2
                    have O1 := Lib.hid (own_of_box0 (size := 2) e1.drew (Nat.le_refl x9.heap.size))
                    have O2 := Lib.hid (own_of_box0 (size := 2) e2.drew (Nat.le_refl x9.heap.size))
                    have O3 := Lib.hid (own_of_box0 (size := 2) e3.drew (Nat.le_succ x9.heap.size))
                    have F2 := Lib.hid f2.drew
                    have F3 := Lib.hid f3.drew
                    clear u1 u2 u3 e1 e2 e3 f2 f3
                    have v1 : 0 + L.length ≤ maxLen := by unfold maxLen; omega
                    have v2 : (0 + L.length) * 32 ≤ 140737488355328 := by omega
                    have v3 : 0 + L.length + 1 ≤ maxLen := by unfold maxLen; omega
                    have v4 : (0 + L.length + 1) * 32 ≤ 140737488355328 := by omega
                    have NE2 := Lib.hid (show (Value.slice (some ⟨x9.heap.size, 0, none⟩) 0 0).ownBlock ≠ some (x9.heap.size + 1) from fun h => by simp [Value.ownBlock] at h)
                    have NE3 := Lib.hid (show (Value.slice (some ⟨x9.heap.size + 1, 0, none⟩) 0 0).ownBlock ≠ some x9.heap.size from fun h => by simp [Value.ownBlock] at h)
                    have s1 := Lib.hid B1.out.size
                    have NNil := Lib.hid (show ∀ (ad : Addr), some ad = none → (1 : Nat) = 0 from fun ad h => by cases h)
                    have ROne := Lib.hid (show ∀ u ∈ [Value.int .i64 (n0 : Int), .slice Bw k1 d], u.oneCell' = true from fun u hu => by simp at hu; rcases hu with rfl | rfl <;> rfl)
                    obtain ⟨L9, hL9⟩ : ∃ L9, L9 = L ++ [y] := ⟨_, rfl⟩
                    have hl9 : L9.length ≤ 64 := by rw [hL9]; simp; omega
                    have HLt9 := Lib.hid (show ∀ r ∈ L9, r < 2 ^ n0 from fun r hr => by
                      rw [hL9] at hr
                      rcases List.mem_append.1 hr with hr | hr
                      · exact HLs.out r hr
                      · simp at hr; subst hr; exact HY.out)
                    have HR9 := Lib.hid (rightM_mk hn hl9 HLt9.out)
                    have HL9 := Lib.hid hL9
                    clear hL9
                    have s2 := Lib.hid B2.out.size
                    have s3 := Lib.hid B3.out.size
                    obtain ⟨m00a, m00b, -, -⟩ := (Q0.out.alloc (.cells #[] 27)).two
                    obtain ⟨m01a, m01b, -, -⟩ := (Q1.out.alloc (.cells #[] 27)).two
                    obtain ⟨m10a, m10b, -, -⟩ := ((Q0.out.alloc (.cells #[] 27)).alloc (.cells #[.int .i64 (n0 : Int), .slice Bw k1 d] 27)).two
                    obtain ⟨m11a, m11b, -, -⟩ := ((Q1.out.alloc (.cells #[] 27)).alloc (.cells #[.int .i64 (n0 : Int), .slice Bw k1 d] 27)).two
                    obtain ⟨m20a, m20b, -, -⟩ := (Q0.out.alloc (.cells #[.int .i64 (n0 : Int), .slice Bw k1 d] 27)).two
                    obtain ⟨m21a, m21b, -, -⟩ := (Q1.out.alloc (.cells #[.int .i64 (n0 : Int), .slice Bw k1 d] 27)).two
                    obtain ⟨m30a, m30b, -, -⟩ := ((Q0.out.alloc (.cells #[.int .i64 (n0 : Int), .slice Bw k1 d] 27)).alloc (.cells #[] 27)).two
                    obtain ⟨m31a, m31b, -, -⟩ := ((Q1.out.alloc (.cells #[.int .i64 (n0 : Int), .slice Bw k1 d] 27)).alloc (.cells #[] 27)).two
                    have l0 := Q0.out.lt
                    have l1 := Q1.out.lt
                    have a0 : ¬ W.heap.size = x9.heap.size := by omega
                    have a1 : ¬ W.heap.size + 1 = x9.heap.size := by omega
                    have a2 : ¬ W.heap.size = x9.heap.size + 1 := by omega
                    have a3 : ¬ W.heap.size + 1 = x9.heap.size + 1 := by omega
                    clear l0 l1
                    go_wp2_with fail
                    go_region_held3 (fun w' => w'.cell? ⟨W.heap.size, 0, none⟩ = some (.int .i64 (n0 : Int)) ∧ w'.cell? ⟨W.heap.size, 1, none⟩ = some (.slice A1 L.length c1) ∧ w'.cell? ⟨W.heap.size + 1, 0, none⟩ = some (.int .i64 (n0 : Int)) ∧ w'.cell? ⟨W.heap.size + 1, 1, none⟩ = some (.slice Bw k1 d)) (go_keep) (first
                      | (refine step_opt rfl (.tmp 214) (.tmp 216) 22 rfl x9.heap.size 27 i0 (.agg #[.int .i64 0, .slice none 0 0]) 2 32 Tryd.underlying22 HIi.out HZ0.out HZ1.out HZ2.out rfl (by decide) _ 0 [] ?_ O1.out A1 L.length c1 (rowCells rs) ?_ HCl.out HNil.out (HNews.out _ B1.out) HOne.out v1 v2 s1.out ?_; simp [Act.eval, Act.put]; simp [Act.eval, Act.put]; intro v5 w5 hown hgrow; have hb5 := Below.grown B1.out hgrow B1.out.size (fun k hk => (O1.out.lt k hk).1); obtain ⟨k0, k1', -, -⟩ := (Q0.out.keep hb5).two; obtain ⟨k2, k3, -, -⟩ := (Q1.out.keep hb5).two; have O6 := Lib.hid (hown.alloc (.cells #[.int .i64 (n0 : Int), .slice Bw k1 d] 27)); have B6 := Lib.hid (hb5.alloc hb5.size (.cells #[.int .i64 (n0 : Int), .slice Bw k1 d] 27)); have N6 := Lib.hid (news_box (cs := [.int .i64 (n0 : Int), .slice Bw k1 d]) (Box.new w5 27 #[.int .i64 (n0 : Int), .slice Bw k1 d])); obtain ⟨k4, k5, -, -⟩ := ((Q0.out.keep hb5).alloc (.cells #[.int .i64 (n0 : Int), .slice Bw k1 d] 27)).two; obtain ⟨k6, k7, -, -⟩ := ((Q1.out.keep hb5).alloc (.cells #[.int .i64 (n0 : Int), .slice Bw k1 d] 27)).two; clear hown hgrow hb5)
                      | (refine step_opt rfl (.tmp 214) (.tmp 216) 22 rfl x9.heap.size 27 i0 (.agg #[.int .i64 0, .slice none 0 0]) 2 32 Tryd.underlying22 HIi.out HZ0.out HZ1.out HZ2.out rfl (by decide) _ 0 [] ?_ O2.out A1 L.length c1 (rowCells rs) ?_ HCl.out HNil.out (HNews.out _ B2.out) HOne.out v1 v2 s2.out ?_; simp [Act.eval, Act.put]; simp [Act.eval, Act.put]; intro v5 w5 hown hgrow; have hb5 := Below.grown B2.out hgrow B2.out.size (fun k hk => (O2.out.lt k hk).1); obtain ⟨k0, k1', -, -⟩ := (Q0.out.keep hb5).two; obtain ⟨k2, k3, -, -⟩ := (Q1.out.keep hb5).two; have O6 := Lib.hid hown; have B6 := Lib.hid hb5; have N6 := Lib.hid (news_box (cs := [.int .i64 (n0 : Int), .slice Bw k1 d]) (F2.out.grown hgrow NE2.out)); clear hown hgrow hb5)
                      | (refine step_opt rfl (.tmp 214) (.tmp 216) 22 rfl x9.heap.size 27 i0 (.agg #[.int .i64 0, .slice none 0 0]) 2 32 Tryd.underlying22 HIi.out HZ0.out HZ1.out HZ2.out rfl (by decide) _ 0 [] ?_ O3.out A1 L.length c1 (rowCells rs) ?_ HCl.out HNil.out (HNews.out _ B3.out) HOne.out v1 v2 s3.out ?_; simp [Act.eval, Act.put]; simp [Act.eval, Act.put]; intro v5 w5 hown hgrow; have hb5 := Below.grown B3.out hgrow B3.out.size (fun k hk => (O3.out.lt k hk).1); obtain ⟨k0, k1', -, -⟩ := (Q0.out.keep hb5).two; obtain ⟨k2, k3, -, -⟩ := (Q1.out.keep hb5).two; have O6 := Lib.hid hown; have B6 := Lib.hid hb5; have N6 := Lib.hid (news_box (cs := [.int .i64 (n0 : Int), .slice Bw k1 d]) (F3.out.grown hgrow NE3.out)); clear hown hgrow hb5)
                      | (refine step_opt rfl (.tmp 217) (.tmp 219) 22 rfl x9.heap.size 27 i0 (.agg #[.int .i64 0, .slice none 0 0]) 2 32 Tryd.underlying22 HIi.out HZ0.out HZ1.out HZ2.out rfl (by decide) v5 (0 + L.length) _ ?_ O6.out _ 1 1 [.int .i64 (n0 : Int), .slice Bw k1 d] ?_ rfl (NNil.out _) N6.out ROne.out v3 v4 B6.out.size ?_; simp [Act.eval, Act.put]; simp [Act.eval, Act.put]; intro v7 w7 hown hgrow; have B7 := Lib.hid (Below.grown B6.out hgrow B6.out.size (fun k hk => (O6.out.lt k hk).1)); obtain ⟨A7, c7, rfl, hm7⟩ := more_mat hown HRs1.out HRs2.out B7.out HU.out HS.out HL9.out; have HM7 := Lib.hid hm7; obtain ⟨k8, k9, -, -⟩ := (Q0.out.keep B7.out).two; obtain ⟨ka, kb, -, -⟩ := (Q1.out.keep B7.out).two; clear hown hgrow hm7)
                      | (go_simp; go_at_call 10; refine (rank_yes n0 hn L9 HLt9.out hl9 A7 c7 0 _ HM7.out HR9.out).mono ?_; rintro e1 y9 ⟨M7, P7, g1, g2, rfl, hb⟩; have HRk := Lib.hid (rank_more H1.out H2.out g1 (HL9.out ▸ g2)); have B8 := Lib.hid (chain B7.out hb); obtain ⟨kc', kd, -, -⟩ := (Q0.out.keep B8.out).two; obtain ⟨ke, kf, -, -⟩ := (Q1.out.keep B8.out).two; clear hb g1 g2))
                    all_goals
                      have HB := Lib.hid (chain HB.out B8.out)
                      have hm1 : (M.length : Int) + 1 ≤ 65 := by omega
                      cases b with
                      | true =>
                        have hs := HRk.out.1 (HBs.out.1 rfl)
                        rw [hs]
                        clear hs
                        go_wp2_with fail
                        go_ret
                        exact ⟨by simp, HB.out⟩
                      | false =>
                        have hs := HRk.out.2 (fun h => by have := HBs.out.2 h; cases this)
                        rw [hs]
                        clear hs
                        go_wp2_with fail
                        go_ret
                        exact ⟨by simp, HB.out⟩
end
end Go.Proofs.YtdfmogcgangdnaaDoor
