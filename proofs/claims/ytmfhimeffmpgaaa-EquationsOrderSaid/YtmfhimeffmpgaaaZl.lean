/- Parts: EgX. -/
import Derived.Test.YtmfhimeffmpgaaaZk
namespace Go.Proofs.Ytmfhimeffmpgaaa
section
/- EquationsGrow: the walk. -/
set_option linter.unusedVariables false
set_option linter.unusedSimpArgs false
open Go.RowKit
set_option maxRecDepth 100000
theorem cut_pair {x W : World} {k1 s1 c1 id : Int} {A A0 : Option Addr} {l0 d0 n d : Nat} {xs : List SymR} {dt t : ByteArray}
    (h0 : Box x W.heap.size 24 #[.int .i64 k1, .int .i64 s1, .int .i64 c1, .slice A0 l0 d0]) (h2 : Box x (W.heap.size + 1) 27 #[.int .u64 id, .string dt])
    (ha : Syms x A n xs) (fa : ∀ b off, A = some ⟨b, off, none⟩ → W.heap.size + 2 ≤ b) (hb : Below W.heap.size W x) :
    let y := (((((x.setCell ⟨W.heap.size, 0, none⟩ (.int .i64 k1)).setCell ⟨W.heap.size, 1, none⟩ (.int .i64 s1)).setCell ⟨W.heap.size, 2, none⟩ (.int .i64 c1)).setCell ⟨W.heap.size, 3, none⟩ (.slice A n d)).setCell ⟨W.heap.size + 1, 1, none⟩ (.string t))
    Box y W.heap.size 24 #[.int .i64 k1, .int .i64 s1, .int .i64 c1, .slice A n d] ∧ Box y (W.heap.size + 1) 27 #[.int .u64 id, .string t] ∧ Syms y A n xs ∧ Below W.heap.size W y := by
  intro y
  refine ⟨(h0.put4 (a' := .int .i64 k1) (b' := .int .i64 s1) (c' := .int .i64 c1) (d' := .slice A n d)).far (p := ⟨W.heap.size + 1, 1, none⟩) (by show W.heap.size ≠ W.heap.size + 1; omega) (.string t), (h2.farG (g' := W.heap.size) (by omega) (.int .i64 k1) (.int .i64 s1) (.int .i64 c1) (.slice A n d)).put 1 (.string t), ?_, ?_⟩
  · exact Recs.farB (Recs.far4 ha (fun b off h _ => by have := fa b off h; omega) _ _ _ _) (fun b off h _ => by have := fa b off h; omega) _ _
  · exact (below_set4 hb (Nat.le_refl _) _ _ _ _).setCell (p := ⟨W.heap.size + 1, 1, none⟩) (by show W.heap.size ≤ W.heap.size + 1; omega) _
abbrev egW (a c : Array Value) (W : World) : World := (W.alloc (.cells a 24)).alloc (.cells c 27)
theorem egW_two (a c : Array Value) (W : World) : Box (egW a c W) W.heap.size 24 a ∧ Box (egW a c W) (W.heap.size + 1) 27 c ∧ Below W.heap.size W (egW a c W) ∧ (egW a c W).heap.size = W.heap.size + 2 := by
  refine ⟨(Box.new W _ _).alloc _, ?_, ((Below.refl _ _).alloc (Nat.le_refl _) _).alloc (by simp) _, by simp⟩
  have q := Box.new (W.alloc (.cells a 24)) 27 c
  simpa only [World.size_alloc] using q
set_option maxHeartbeats 16000000 in
theorem eqgrow_walk (k s c : Int) (A1 : Option Addr) (l1 d1 : Nat) (xs1 : List SymR) (id : Nat) (dt : ByteArray) (W : World)
    (z1 : SliceOk A1 l1 d1) (h1 : Syms W A1 l1 xs1) (hid : ∀ j, (xs1.getD j default).1 < 18446744073709551616) (hi2 : id < 18446744073709551616) :
    Calls Try.prog 4 #[.agg #[.int .i64 k, .int .i64 s, .int .i64 c, .slice A1 l1 d1], .agg #[.int .u64 (id : Int), .string dt]] W fun e w' => e = .returned (.bool true) ∧ Below W.heap.size W w' := by
  obtain ⟨q0, q1, b1, sz⟩ := egW_two #[.int .i64 k, .int .i64 s, .int .i64 c, .slice A1 l1 d1] #[.int .u64 (id : Int), .string dt] W
  have Q0 := Lib.hid q0
  have Q1 := Lib.hid q1
  have HB := Lib.hid b1
  have SZ := Lib.hid sz
  have H1 := Lib.hid (h1.below b1)
  have HFa := Lib.hid (fun w' h => few12_any k s c A1 l1 d1 xs1 w' h z1.1 z1.2.1 (fun e => (z1.2.2 e).2))
  have L1 := Lib.hid (show (fewS xs1 66).length ≤ 66 by rw [fewS_len]; omega)
  have HID := Lib.hid (fewS_id xs1 hid 66)
  have HI2 := Lib.hid hi2
  generalize fewS xs1 66 = fs at *
  have HC1 := Lib.hid (show dt.size ≤ 66 → cutX dt = dt from fun h => (cutX_id dt h).symm)
  have HC2 := Lib.hid (show 66 ≤ dt.size → cutX dt = dt.extract 0 66 from fun h => (cutX_min dt 66 (by omega)).symm)
  generalize cutX dt = ct at *
  clear h1 b1 sz q0 q1 z1 hid hi2
  obtain ⟨r0, r1, r2, r3, -, -, -, -⟩ := Q0.out.four
  obtain ⟨v0, v1, -, -⟩ := Q1.out.two
  go_enter Try.func4, Try.ntmps4
  go_wp2_with fail
  go_cut [] (fun wx => ∃ A3 d3, Box wx W.heap.size 24 #[.int .i64 k, .int .i64 s, .int .i64 c, .slice A3 fs.length d3] ∧ Box wx (W.heap.size + 1) 27 #[.int .u64 (id : Int), .string ct] ∧ Syms wx A3 fs.length fs ∧ fs.length ≤ d3 ∧ d3 ≤ maxLen ∧ (A3 = none → d3 = 0) ∧ Below W.heap.size W wx)
  case first =>
    by_cases hd : dt.size ≤ 66
    · have hc := (HC1.out hd).symm
      have g1 : (dt.size : Int) ≤ 66 := by omega
      have g2 : ¬ (66 : Int) < dt.size := by omega
      have gm : min (dt.size : Int) 66 = (dt.size : Int) := by omega
      subst hc
      refine wp_heldG_bar (Sa := (fun w' => w'.cell? ⟨W.heap.size, 0, none⟩ = some (.int .i64 k) ∧ w'.cell? ⟨W.heap.size, 1, none⟩ = some (.int .i64 s) ∧ w'.cell? ⟨W.heap.size, 2, none⟩ = some (.int .i64 c) ∧ w'.cell? ⟨W.heap.size, 3, none⟩ = some (.slice A1 l1 d1))) (Sb := (fun w' => w'.cell? ⟨W.heap.size + 1, 1, none⟩ = some (.string dt))) 10 9 (by kernel_rfl) (by decide) ?_
      have hSa := (show (fun w' => w'.cell? ⟨W.heap.size, 0, none⟩ = some (.int .i64 k) ∧ w'.cell? ⟨W.heap.size, 1, none⟩ = some (.int .i64 s) ∧ w'.cell? ⟨W.heap.size, 2, none⟩ = some (.int .i64 c) ∧ w'.cell? ⟨W.heap.size, 3, none⟩ = some (.slice A1 l1 d1)) (World.drew (egW #[.int .i64 k, .int .i64 s, .int .i64 c, .slice A1 l1 d1] #[.int .u64 (id : Int), .string dt] W)) from ⟨r0, r1, r2, r3⟩)
      have hSb := (show (fun w' => w'.cell? ⟨W.heap.size + 1, 1, none⟩ = some (.string dt)) (World.drew (egW #[.int .i64 k, .int .i64 s, .int .i64 c, .slice A1 l1 d1] #[.int .u64 (id : Int), .string dt] W)) from v1)
      refine headG_take (i := 0) (v := ?_) true rfl (by kernel_rfl) (fun _ _ _ h => h) (fun _ _ _ h => passed_ready h.1) (Or.inl ⟨by rfl, ?hy1⟩) ⟨hSb, fun _ => hSa⟩ ?rest1
      case hy1 => intro w hSw; obtain ⟨sw2, sw1⟩ := hSw; (try dsimp only at sw2); obtain ⟨sa0, sa1, sa2, sa3⟩ := sw1 rfl; go_simp; try (with_reducible rfl)
      case rest1 =>
      try simp only [Act.put, List.setIfInBounds_toArray, List.set_cons_zero, List.set_cons_succ]
      refine headG_take (i := 2) (v := ?_) false rfl (by kernel_rfl) (fun _ _ _ h => h) (fun _ _ _ h => passed_ready h.1) (Or.inl ⟨by rfl, ?hy2⟩) ⟨hSb, fun _ => hSa⟩ ?rest2
      case hy2 => intro w hSw; obtain ⟨sw2, sw1⟩ := hSw; (try dsimp only at sw2); clear sw1; go_simp; try (with_reducible rfl)
      case rest2 =>
      try simp only [Act.put, List.setIfInBounds_toArray, List.set_cons_zero, List.set_cons_succ]
      refine headG_take (i := 3) (v := ?_) false rfl (by kernel_rfl) (fun _ _ _ h => h) (fun _ _ _ h => passed_ready h.1) (Or.inl ⟨by rfl, ?hy3⟩) ⟨hSb, fun _ => hSa⟩ ?rest3
      case hy3 => intro w hSw; obtain ⟨sw2, sw1⟩ := hSw; (try dsimp only at sw2); clear sw1; go_simp; try (with_reducible rfl)
      case rest3 =>
      try simp only [Act.put, List.setIfInBounds_toArray, List.set_cons_zero, List.set_cons_succ]
      refine headG_take (i := 4) (v := ?_) false rfl (by kernel_rfl) (fun _ _ _ h => h) (fun _ _ _ h => passed_ready h.1) (Or.inl ⟨by rfl, ?hy4⟩) ⟨hSb, fun _ => hSa⟩ ?rest4
      case hy4 => intro w hSw; obtain ⟨sw2, sw1⟩ := hSw; (try dsimp only at sw2); clear sw1; go_simp; try (with_reducible rfl)
      case rest4 =>
      try simp only [Act.put, List.setIfInBounds_toArray, List.set_cons_zero, List.set_cons_succ]
      refine headG_take (i := 5) (v := ?_) false rfl (by kernel_rfl) (fun _ _ _ h => h) (fun _ _ _ h => passed_ready h.1) (Or.inl ⟨by rfl, ?hy5⟩) ⟨hSb, fun _ => hSa⟩ ?rest5
      case hy5 => intro w hSw; obtain ⟨sw2, sw1⟩ := hSw; (try dsimp only at sw2); clear sw1; go_simp; try (with_reducible rfl)
      case rest5 =>
      try simp only [Act.put, List.setIfInBounds_toArray, List.set_cons_zero, List.set_cons_succ]
      refine headG_take (i := 6) (v := ?_) false rfl (by kernel_rfl) (fun _ _ _ h => h) (fun _ _ _ h => passed_ready h.1) (Or.inl ⟨by rfl, ?hy6⟩) ⟨hSb, fun _ => hSa⟩ ?rest6
      case hy6 => intro w hSw; obtain ⟨sw2, sw1⟩ := hSw; (try dsimp only at sw2); clear sw1; go_simp; try (with_reducible rfl)
      case rest6 =>
      try simp only [Act.put, List.setIfInBounds_toArray, List.set_cons_zero, List.set_cons_succ]
      refine headG_take (i := 7) (v := ?_) false rfl (by kernel_rfl) (fun _ _ _ h => h) (fun _ _ _ h => passed_ready h.1) (Or.inl ⟨by rfl, ?hy7⟩) ⟨hSb, fun _ => hSa⟩ ?rest7
      case hy7 => intro w hSw; obtain ⟨sw2, sw1⟩ := hSw; (try dsimp only at sw2); clear sw1; go_simp; try (with_reducible rfl)
      case rest7 =>
      try simp only [Act.put, List.setIfInBounds_toArray, List.set_cons_zero, List.set_cons_succ]
      refine headG_take (i := 8) (v := ?_) false rfl (by kernel_rfl) (fun _ _ _ h => h) (fun _ _ _ h => passed_ready h.1) (Or.inl ⟨by rfl, ?hy8⟩) ⟨hSb, fun _ => hSa⟩ ?rest8
      case hy8 => intro w hSw; obtain ⟨sw2, sw1⟩ := hSw; (try dsimp only at sw2); clear sw1; go_simp; try (with_reducible rfl)
      case rest8 =>
      try simp only [Act.put, List.setIfInBounds_toArray, List.set_cons_zero, List.set_cons_succ]
      refine headG_one (i := 1) (by kernel_rfl) rfl (fun K hK => ?_)
      go_simp
      refine (HFa.out _ H1.out.drew).mono ?_
      rintro e1 x1 ⟨A3, d3, rfl, q1, q2, q3, q4, q5, hb⟩
      have P0 := Lib.hid (Q0.out.drew.keep hb)
      have P1 := Lib.hid (Q1.out.drew.keep hb)
      have PB := Lib.hid (chain HB.out.drew hb)
      have PA := Lib.hid q1
      have N1 := Lib.hid (And.intro q2 (And.intro q3 q4))
      have F1 := Lib.hid (show ∀ b off, A3 = some ⟨b, off, none⟩ → W.heap.size + 2 ≤ b from fun b off h => by have h9 := q5 b off h; have h8 := SZ.out; exact h8 ▸ h9)
      clear hb q1 q2 q3 q4 q5 hSa hSb
      obtain ⟨u0, u1, u2, u3, i0, i1, i2, i3⟩ := P0.out.four
      obtain ⟨n0, n1, p0, p1⟩ := P1.out.two
      have hSa := (show (fun w' => w'.cell? ⟨W.heap.size, 0, none⟩ = some (.int .i64 k) ∧ w'.cell? ⟨W.heap.size, 1, none⟩ = some (.int .i64 s) ∧ w'.cell? ⟨W.heap.size, 2, none⟩ = some (.int .i64 c) ∧ w'.cell? ⟨W.heap.size, 3, none⟩ = some (.slice A1 l1 d1)) x1 from ⟨u0, u1, u2, u3⟩)
      have hSb := (show (fun w' => w'.cell? ⟨W.heap.size + 1, 1, none⟩ = some (.string dt)) x1 from n1)
      refine hK.out _ _ ⟨hSb, fun _ => hSa⟩ ?_
      clear hK K
      try simp only [Act.put, List.setIfInBounds_toArray, List.set_cons_zero, List.set_cons_succ]
      refine headG_one (i := 9) (by kernel_rfl) rfl (fun K hK => ?_)
      go_simp
      refine hK.out _ _ ⟨(P1.out.farG (g' := W.heap.size) (by omega) (.int .i64 k) (.int .i64 s) (.int .i64 c) (.slice A3 fs.length d3)).cell 1, fun h => Bool.noConfusion (show true = false from h)⟩ ?_
      clear hK K
      refine ⟨by kernel_rfl, ?_⟩
      refine wpAny_take (i := 10) (v := ?_) rfl (by kernel_rfl) (by kernel_rfl) (by kernel_rfl) (fun _ _ _ h => h) (Or.inl ⟨by rfl, ?hy9⟩) ?rest9
      case hy9 => intro w; go_simp; try (with_reducible rfl)
      case rest9 =>
      try simp only [Act.put, List.setIfInBounds_toArray, List.set_cons_zero, List.set_cons_succ]
      refine wpAny_ready (rs := [11]) (by kernel_rfl) (by simp) ?_
      refine AllReady.cons rfl (fun K hK => ?_) AllReady.nil
      go_simp
      refine hK _ _ ?_
      clear hK K
      refine wpAny_done (by kernel_rfl) ?_ _
      go_wp2_with fail
      go_meet
      obtain ⟨e1, e2, e3, e4⟩ := cut_pair P0.out P1.out PA.out F1.out PB.out
      exact ⟨A3, d3, e1, e2, e3, N1.out.1, N1.out.2.1, N1.out.2.2, e4⟩
    · have hc := HC2.out (by omega)
      have g1 : (66 : Int) < dt.size := by omega
      have g3 : (66 : Int) ≤ dt.size := by omega
      have gm : min (dt.size : Int) 66 = 66 := by omega
      subst hc
      refine wp_heldG_bar (Sa := (fun w' => w'.cell? ⟨W.heap.size, 0, none⟩ = some (.int .i64 k) ∧ w'.cell? ⟨W.heap.size, 1, none⟩ = some (.int .i64 s) ∧ w'.cell? ⟨W.heap.size, 2, none⟩ = some (.int .i64 c) ∧ w'.cell? ⟨W.heap.size, 3, none⟩ = some (.slice A1 l1 d1))) (Sb := (fun w' => w'.cell? ⟨W.heap.size + 1, 1, none⟩ = some (.string dt))) 10 9 (by kernel_rfl) (by decide) ?_
      have hSa := (show (fun w' => w'.cell? ⟨W.heap.size, 0, none⟩ = some (.int .i64 k) ∧ w'.cell? ⟨W.heap.size, 1, none⟩ = some (.int .i64 s) ∧ w'.cell? ⟨W.heap.size, 2, none⟩ = some (.int .i64 c) ∧ w'.cell? ⟨W.heap.size, 3, none⟩ = some (.slice A1 l1 d1)) (World.drew (egW #[.int .i64 k, .int .i64 s, .int .i64 c, .slice A1 l1 d1] #[.int .u64 (id : Int), .string dt] W)) from ⟨r0, r1, r2, r3⟩)
      have hSb := (show (fun w' => w'.cell? ⟨W.heap.size + 1, 1, none⟩ = some (.string dt)) (World.drew (egW #[.int .i64 k, .int .i64 s, .int .i64 c, .slice A1 l1 d1] #[.int .u64 (id : Int), .string dt] W)) from v1)
      refine headG_take (i := 0) (v := ?_) true rfl (by kernel_rfl) (fun _ _ _ h => h) (fun _ _ _ h => passed_ready h.1) (Or.inl ⟨by rfl, ?hy10⟩) ⟨hSb, fun _ => hSa⟩ ?rest10
      case hy10 => intro w hSw; obtain ⟨sw2, sw1⟩ := hSw; (try dsimp only at sw2); obtain ⟨sa0, sa1, sa2, sa3⟩ := sw1 rfl; go_simp; try (with_reducible rfl)
      case rest10 =>
      try simp only [Act.put, List.setIfInBounds_toArray, List.set_cons_zero, List.set_cons_succ]
      refine headG_take (i := 2) (v := ?_) false rfl (by kernel_rfl) (fun _ _ _ h => h) (fun _ _ _ h => passed_ready h.1) (Or.inl ⟨by rfl, ?hy11⟩) ⟨hSb, fun _ => hSa⟩ ?rest11
      case hy11 => intro w hSw; obtain ⟨sw2, sw1⟩ := hSw; (try dsimp only at sw2); clear sw1; go_simp; try (with_reducible rfl)
      case rest11 =>
      try simp only [Act.put, List.setIfInBounds_toArray, List.set_cons_zero, List.set_cons_succ]
      refine headG_take (i := 3) (v := ?_) false rfl (by kernel_rfl) (fun _ _ _ h => h) (fun _ _ _ h => passed_ready h.1) (Or.inl ⟨by rfl, ?hy12⟩) ⟨hSb, fun _ => hSa⟩ ?rest12
      case hy12 => intro w hSw; obtain ⟨sw2, sw1⟩ := hSw; (try dsimp only at sw2); clear sw1; go_simp; try (with_reducible rfl)
      case rest12 =>
      try simp only [Act.put, List.setIfInBounds_toArray, List.set_cons_zero, List.set_cons_succ]
      refine headG_take (i := 4) (v := ?_) false rfl (by kernel_rfl) (fun _ _ _ h => h) (fun _ _ _ h => passed_ready h.1) (Or.inl ⟨by rfl, ?hy13⟩) ⟨hSb, fun _ => hSa⟩ ?rest13
      case hy13 => intro w hSw; obtain ⟨sw2, sw1⟩ := hSw; (try dsimp only at sw2); clear sw1; go_simp; try (with_reducible rfl)
      case rest13 =>
      try simp only [Act.put, List.setIfInBounds_toArray, List.set_cons_zero, List.set_cons_succ]
      refine headG_take (i := 5) (v := ?_) false rfl (by kernel_rfl) (fun _ _ _ h => h) (fun _ _ _ h => passed_ready h.1) (Or.inl ⟨by rfl, ?hy14⟩) ⟨hSb, fun _ => hSa⟩ ?rest14
      case hy14 => intro w hSw; obtain ⟨sw2, sw1⟩ := hSw; (try dsimp only at sw2); clear sw1; go_simp; try (with_reducible rfl)
      case rest14 =>
      try simp only [Act.put, List.setIfInBounds_toArray, List.set_cons_zero, List.set_cons_succ]
      refine headG_take (i := 6) (v := ?_) false rfl (by kernel_rfl) (fun _ _ _ h => h) (fun _ _ _ h => passed_ready h.1) (Or.inl ⟨by rfl, ?hy15⟩) ⟨hSb, fun _ => hSa⟩ ?rest15
      case hy15 => intro w hSw; obtain ⟨sw2, sw1⟩ := hSw; (try dsimp only at sw2); clear sw1; go_simp; try (with_reducible rfl)
      case rest15 =>
      try simp only [Act.put, List.setIfInBounds_toArray, List.set_cons_zero, List.set_cons_succ]
      refine headG_take (i := 7) (v := ?_) false rfl (by kernel_rfl) (fun _ _ _ h => h) (fun _ _ _ h => passed_ready h.1) (Or.inl ⟨by rfl, ?hy16⟩) ⟨hSb, fun _ => hSa⟩ ?rest16
      case hy16 => intro w hSw; obtain ⟨sw2, sw1⟩ := hSw; (try dsimp only at sw2); clear sw1; go_simp; try (with_reducible rfl)
      case rest16 =>
      try simp only [Act.put, List.setIfInBounds_toArray, List.set_cons_zero, List.set_cons_succ]
      refine headG_take (i := 8) (v := ?_) false rfl (by kernel_rfl) (fun _ _ _ h => h) (fun _ _ _ h => passed_ready h.1) (Or.inl ⟨by rfl, ?hy17⟩) ⟨hSb, fun _ => hSa⟩ ?rest17
      case hy17 => intro w hSw; obtain ⟨sw2, sw1⟩ := hSw; (try dsimp only at sw2); clear sw1; go_simp; try (with_reducible rfl)
      case rest17 =>
      try simp only [Act.put, List.setIfInBounds_toArray, List.set_cons_zero, List.set_cons_succ]
      refine headG_one (i := 1) (by kernel_rfl) rfl (fun K hK => ?_)
      go_simp
      refine (HFa.out _ H1.out.drew).mono ?_
      rintro e1 x1 ⟨A3, d3, rfl, q1, q2, q3, q4, q5, hb⟩
      have P0 := Lib.hid (Q0.out.drew.keep hb)
      have P1 := Lib.hid (Q1.out.drew.keep hb)
      have PB := Lib.hid (chain HB.out.drew hb)
      have PA := Lib.hid q1
      have N1 := Lib.hid (And.intro q2 (And.intro q3 q4))
      have F1 := Lib.hid (show ∀ b off, A3 = some ⟨b, off, none⟩ → W.heap.size + 2 ≤ b from fun b off h => by have h9 := q5 b off h; have h8 := SZ.out; exact h8 ▸ h9)
      clear hb q1 q2 q3 q4 q5 hSa hSb
      obtain ⟨u0, u1, u2, u3, i0, i1, i2, i3⟩ := P0.out.four
      obtain ⟨n0, n1, p0, p1⟩ := P1.out.two
      have hSa := (show (fun w' => w'.cell? ⟨W.heap.size, 0, none⟩ = some (.int .i64 k) ∧ w'.cell? ⟨W.heap.size, 1, none⟩ = some (.int .i64 s) ∧ w'.cell? ⟨W.heap.size, 2, none⟩ = some (.int .i64 c) ∧ w'.cell? ⟨W.heap.size, 3, none⟩ = some (.slice A1 l1 d1)) x1 from ⟨u0, u1, u2, u3⟩)
      have hSb := (show (fun w' => w'.cell? ⟨W.heap.size + 1, 1, none⟩ = some (.string dt)) x1 from n1)
      refine hK.out _ _ ⟨hSb, fun _ => hSa⟩ ?_
      clear hK K
      try simp only [Act.put, List.setIfInBounds_toArray, List.set_cons_zero, List.set_cons_succ]
      refine headG_one (i := 9) (by kernel_rfl) rfl (fun K hK => ?_)
      go_simp
      refine hK.out _ _ ⟨(P1.out.farG (g' := W.heap.size) (by omega) (.int .i64 k) (.int .i64 s) (.int .i64 c) (.slice A3 fs.length d3)).cell 1, fun h => Bool.noConfusion (show true = false from h)⟩ ?_
      clear hK K
      refine ⟨by kernel_rfl, ?_⟩
      refine wpAny_take (i := 10) (v := ?_) rfl (by kernel_rfl) (by kernel_rfl) (by kernel_rfl) (fun _ _ _ h => h) (Or.inl ⟨by rfl, ?hy18⟩) ?rest18
      case hy18 => intro w; go_simp; try (with_reducible rfl)
      case rest18 =>
      try simp only [Act.put, List.setIfInBounds_toArray, List.set_cons_zero, List.set_cons_succ]
      refine wpAny_ready (rs := [11]) (by kernel_rfl) (by simp) ?_
      refine AllReady.cons rfl (fun K hK => ?_) AllReady.nil
      go_simp
      refine hK _ _ ?_
      clear hK K
      refine wpAny_done (by kernel_rfl) ?_ _
      go_wp2_with fail
      go_meet
      obtain ⟨e1, e2, e3, e4⟩ := cut_pair P0.out P1.out PA.out F1.out PB.out
      exact ⟨A3, d3, e1, e2, e3, N1.out.1, N1.out.2.1, N1.out.2.2, e4⟩
  case rest =>
    obtain ⟨A3, d3, w0, w1, ha, hl, hd, hn, hb⟩ := hcut
    clear Q0 Q1 HB SZ H1 HFa HC1 HC2 r0 r1 r2 r3 v0 v1
    have Q0 := Lib.hid w0
    have Q1 := Lib.hid w1
    have HA := Lib.hid ha
    have B := Lib.hid hb
    clear ha hb w0 w1
    obtain ⟨r0, r1, r2, r3, -, -, -, -⟩ := Q0.out.four
    obtain ⟨v0, v1, -, -⟩ := Q1.out.two
    cases hsb : storeB k s c fs with
    | false =>
      go_wp2_with fail
      refine (erank_no k s c A3 fs.length d3 fs _ HA.out hl hd hsb).mono ?_
      rintro e x1 ⟨rfl, hb⟩
      clear r0 r1 r2 r3 v0 v1
      replace Q0 := Lib.hid (Q0.out.keep hb)
      replace Q1 := Lib.hid (Q1.out.keep hb)
      replace HA := Lib.hid (HA.out.below hb)
      replace B := Lib.hid (chain B.out hb)
      clear hb
      obtain ⟨r0, r1, r2, r3, -, -, -, -⟩ := Q0.out.four
      obtain ⟨v0, v1, -, -⟩ := Q1.out.two
      go_wp2_with fail
      refine (eadd_bad 1 k s c A3 fs.length d3 fs (id, ct) _ HA.out hl hd (addE_bad hsb) (by decide)).mono ?_
      rintro e x2 ⟨A6, d6, rfl, q5, hb⟩
      clear r0 r1 r2 r3 v0 v1
      have N7 := Lib.hid (q5)
      replace Q0 := Lib.hid (Q0.out.keep hb)
      replace Q1 := Lib.hid (Q1.out.keep hb)
      replace HA := Lib.hid (HA.out.below hb)
      replace B := Lib.hid (chain B.out hb)
      clear hb
      clear q5
      have hal : Below x2.heap.size x2 (x2.alloc (.cells #[.int .i64 0, .int .i64 0, .int .i64 0, .slice A6 0 d6] 24)) := (Below.refl _ _).alloc (Nat.le_refl _) _
      replace Q0 := Lib.hid (Q0.out.keep hal)
      replace Q1 := Lib.hid (Q1.out.keep hal)
      replace HA := Lib.hid (HA.out.below hal)
      replace N7 := Lib.hid (N7.out.below hal)
      replace B := Lib.hid (chain B.out hal)
      have Q4 := Lib.hid (Box.new x2 24 #[.int .i64 0, .int .i64 0, .int .i64 0, .slice A6 0 d6])
      clear hal
      obtain ⟨r0, r1, r2, r3, -, -, -, -⟩ := Q0.out.four
      obtain ⟨v0, v1, -, -⟩ := Q1.out.two
      obtain ⟨m0, m1, m2, m3, -, -, -, -⟩ := Q4.out.four
      go_wp2_with fail
      refine (alive12_any _).mono ?_
      rintro e x3 ⟨rfl, hb⟩
      clear r0 r1 r2 r3 v0 v1 m0 m1 m2 m3
      replace Q0 := Lib.hid (Q0.out.keep hb)
      replace Q1 := Lib.hid (Q1.out.keep hb)
      replace HA := Lib.hid (HA.out.below hb)
      replace N7 := Lib.hid (N7.out.below hb)
      replace Q4 := Lib.hid (Q4.out.keep hb)
      replace B := Lib.hid (chain B.out hb)
      clear hb
      obtain ⟨r0, r1, r2, r3, -, -, -, -⟩ := Q0.out.four
      obtain ⟨v0, v1, -, -⟩ := Q1.out.two
      obtain ⟨m0, m1, m2, m3, -, -, -, -⟩ := Q4.out.four
      go_wp2_with fail
      refine (eright_any _ _ _ A3 fs.length d3 fs _ HA.out hl hd).mono ?_
      rintro e x4 ⟨rfl, hb⟩
      rw [hsb]
      clear r0 r1 r2 r3 v0 v1 m0 m1 m2 m3
      replace Q0 := Lib.hid (Q0.out.keep hb)
      replace Q1 := Lib.hid (Q1.out.keep hb)
      replace HA := Lib.hid (HA.out.below hb)
      replace N7 := Lib.hid (N7.out.below hb)
      replace Q4 := Lib.hid (Q4.out.keep hb)
      replace B := Lib.hid (chain B.out hb)
      clear hb
      obtain ⟨r0, r1, r2, r3, -, -, -, -⟩ := Q0.out.four
      obtain ⟨v0, v1, -, -⟩ := Q1.out.two
      obtain ⟨m0, m1, m2, m3, -, -, -, -⟩ := Q4.out.four
      go_wp2_with fail
      go_ret
      exact ⟨rfl, B.out⟩
    | true =>
      obtain ⟨bk, bs, bc, bl⟩ := storeB_bd hsb
      obtain ⟨kn, rfl⟩ : ∃ n : Nat, k = n := Int.eq_ofNat_of_zero_le (by omega)
      obtain ⟨sn, rfl⟩ : ∃ n : Nat, s = n := Int.eq_ofNat_of_zero_le (by omega)
      obtain ⟨cn, rfl⟩ : ∃ n : Nat, c = n := Int.eq_ofNat_of_zero_le (by omega)
      have BK := Lib.hid (And.intro bk (And.intro bs (And.intro bc bl)))
      clear bk bs bc bl
      go_wp2_with fail
      refine (erank_yes kn sn cn A3 fs.length d3 fs _ HA.out hl hd hsb HID.out).mono ?_
      rintro e x1 ⟨n, rfl, q5, hb⟩
      clear r0 r1 r2 r3 v0 v1
      replace Q0 := Lib.hid (Q0.out.keep hb)
      replace Q1 := Lib.hid (Q1.out.keep hb)
      replace HA := Lib.hid (HA.out.below hb)
      replace B := Lib.hid (chain B.out hb)
      clear hb
      have RK := Lib.hid q5
      clear q5
      obtain ⟨r0, r1, r2, r3, -, -, -, -⟩ := Q0.out.four
      obtain ⟨v0, v1, -, -⟩ := Q1.out.two
      go_wp2_with fail
      obtain ⟨er, her⟩ : ∃ er, addE (kn : Int) sn cn fs (id, ct) = er := ⟨_, rfl⟩
      by_cases h0 : er = 0
      · subst h0
        refine (eadd_good kn sn cn A3 fs.length d3 fs (id, ct) _ HA.out hl hd hn her).mono ?_
        rintro e x2 ⟨A6, d6, rfl, q5, hl6, hd6, hn6, hb⟩
        clear r0 r1 r2 r3 v0 v1
        have N7 := Lib.hid (q5)
        replace Q0 := Lib.hid (Q0.out.keep hb)
        replace Q1 := Lib.hid (Q1.out.keep hb)
        replace HA := Lib.hid (HA.out.below hb)
        replace B := Lib.hid (chain B.out hb)
        clear hb
        have hsb2 := storeB_grow her
        clear q5
        have hal : Below x2.heap.size x2 (x2.alloc (.cells #[.int .i64 (kn : Nat), .int .i64 (sn : Nat), .int .i64 (cn : Nat), .slice A6 (fs.length + 1) d6] 24)) := (Below.refl _ _).alloc (Nat.le_refl _) _
        replace Q0 := Lib.hid (Q0.out.keep hal)
        replace Q1 := Lib.hid (Q1.out.keep hal)
        replace HA := Lib.hid (HA.out.below hal)
        replace N7 := Lib.hid (N7.out.below hal)
        replace B := Lib.hid (chain B.out hal)
        have Q4 := Lib.hid (Box.new x2 24 #[.int .i64 (kn : Nat), .int .i64 (sn : Nat), .int .i64 (cn : Nat), .slice A6 (fs.length + 1) d6])
        clear hal
        obtain ⟨r0, r1, r2, r3, -, -, -, -⟩ := Q0.out.four
        obtain ⟨v0, v1, -, -⟩ := Q1.out.two
        obtain ⟨m0, m1, m2, m3, -, -, -, -⟩ := Q4.out.four
        go_wp2_with fail
        refine (erank_yes kn sn cn A6 (fs.length + 1) d6 (fs ++ [(id, ct)]) _ N7.out hl6 hd6 hsb2 (idB_grow HID.out HI2.out)).mono ?_
        rintro e x3 ⟨m, rfl, q5, hb⟩
        clear r0 r1 r2 r3 v0 v1 m0 m1 m2 m3
        replace Q0 := Lib.hid (Q0.out.keep hb)
        replace Q1 := Lib.hid (Q1.out.keep hb)
        replace HA := Lib.hid (HA.out.below hb)
        replace N7 := Lib.hid (N7.out.below hb)
        replace Q4 := Lib.hid (Q4.out.keep hb)
        replace B := Lib.hid (chain B.out hb)
        clear hb
        have RM := Lib.hid q5
        clear q5
        obtain ⟨r0, r1, r2, r3, -, -, -, -⟩ := Q0.out.four
        obtain ⟨v0, v1, -, -⟩ := Q1.out.two
        obtain ⟨m0, m1, m2, m3, -, -, -, -⟩ := Q4.out.four
        go_wp2_with fail
        refine (ebytes_yes kn sn cn A6 (fs.length + 1) d6 (fs ++ [(id, ct)]) _ N7.out hl6 hd6 hsb2).mono ?_
        rintro e x4 ⟨rfl, hb⟩
        clear r0 r1 r2 r3 v0 v1 m0 m1 m2 m3
        replace Q0 := Lib.hid (Q0.out.keep hb)
        replace Q1 := Lib.hid (Q1.out.keep hb)
        replace HA := Lib.hid (HA.out.below hb)
        replace N7 := Lib.hid (N7.out.below hb)
        replace Q4 := Lib.hid (Q4.out.keep hb)
        replace B := Lib.hid (chain B.out hb)
        clear hb
        obtain ⟨r0, r1, r2, r3, -, -, -, -⟩ := Q0.out.four
        obtain ⟨v0, v1, -, -⟩ := Q1.out.two
        obtain ⟨m0, m1, m2, m3, -, -, -, -⟩ := Q4.out.four
        go_wp2_with fail
        refine (eadd_bad 8 kn sn cn A6 (fs.length + 1) d6 (fs ++ [(id, ct)]) (id, ct) _ N7.out hl6 hd6 (addE_old her) (by decide)).mono ?_
        rintro e x5 ⟨A8, d8, rfl, q5, hb⟩
        clear r0 r1 r2 r3 v0 v1 m0 m1 m2 m3
        have N9 := Lib.hid (q5)
        replace Q0 := Lib.hid (Q0.out.keep hb)
        replace Q1 := Lib.hid (Q1.out.keep hb)
        replace HA := Lib.hid (HA.out.below hb)
        replace N7 := Lib.hid (N7.out.below hb)
        replace Q4 := Lib.hid (Q4.out.keep hb)
        replace B := Lib.hid (chain B.out hb)
        clear hb
        clear q5
        have hal : Below x5.heap.size x5 (x5.alloc (.cells #[.int .i64 0, .int .i64 0, .int .i64 0, .slice A8 0 d8] 24)) := (Below.refl _ _).alloc (Nat.le_refl _) _
        replace Q0 := Lib.hid (Q0.out.keep hal)
        replace Q1 := Lib.hid (Q1.out.keep hal)
        replace HA := Lib.hid (HA.out.below hal)
        replace N7 := Lib.hid (N7.out.below hal)
        replace Q4 := Lib.hid (Q4.out.keep hal)
        replace N9 := Lib.hid (N9.out.below hal)
        replace B := Lib.hid (chain B.out hal)
        have Q5 := Lib.hid (Box.new x5 24 #[.int .i64 0, .int .i64 0, .int .i64 0, .slice A8 0 d8])
        clear hal
        obtain ⟨r0, r1, r2, r3, -, -, -, -⟩ := Q0.out.four
        obtain ⟨v0, v1, -, -⟩ := Q1.out.two
        obtain ⟨m0, m1, m2, m3, -, -, -, -⟩ := Q4.out.four
        obtain ⟨j0, j1, j2, j3, -, -, -, -⟩ := Q5.out.four
        go_wp2_with fail
        refine (alive12_any _).mono ?_
        rintro e x6 ⟨rfl, hb⟩
        clear r0 r1 r2 r3 v0 v1 m0 m1 m2 m3 j0 j1 j2 j3
        replace Q0 := Lib.hid (Q0.out.keep hb)
        replace Q1 := Lib.hid (Q1.out.keep hb)
        replace HA := Lib.hid (HA.out.below hb)
        replace N7 := Lib.hid (N7.out.below hb)
        replace Q4 := Lib.hid (Q4.out.keep hb)
        replace N9 := Lib.hid (N9.out.below hb)
        replace Q5 := Lib.hid (Q5.out.keep hb)
        replace B := Lib.hid (chain B.out hb)
        clear hb
        obtain ⟨r0, r1, r2, r3, -, -, -, -⟩ := Q0.out.four
        obtain ⟨v0, v1, -, -⟩ := Q1.out.two
        obtain ⟨m0, m1, m2, m3, -, -, -, -⟩ := Q4.out.four
        obtain ⟨j0, j1, j2, j3, -, -, -, -⟩ := Q5.out.four
        go_wp2_with fail
        refine (eright_any _ _ _ A6 (fs.length + 1) d6 (fs ++ [(id, ct)]) _ N7.out hl6 hd6).mono ?_
        rintro e x7 ⟨rfl, hb⟩
        rw [hsb2]
        clear r0 r1 r2 r3 v0 v1 m0 m1 m2 m3 j0 j1 j2 j3
        replace Q0 := Lib.hid (Q0.out.keep hb)
        replace Q1 := Lib.hid (Q1.out.keep hb)
        replace HA := Lib.hid (HA.out.below hb)
        replace N7 := Lib.hid (N7.out.below hb)
        replace Q4 := Lib.hid (Q4.out.keep hb)
        replace N9 := Lib.hid (N9.out.below hb)
        replace Q5 := Lib.hid (Q5.out.keep hb)
        replace B := Lib.hid (chain B.out hb)
        clear hb
        obtain ⟨r0, r1, r2, r3, -, -, -, -⟩ := Q0.out.four
        obtain ⟨v0, v1, -, -⟩ := Q1.out.two
        obtain ⟨m0, m1, m2, m3, -, -, -, -⟩ := Q4.out.four
        obtain ⟨j0, j1, j2, j3, -, -, -, -⟩ := Q5.out.four
        have K1 : 1 ≤ kn := by have := BK.out; omega
        have K2 : kn ≤ 64 := by have := BK.out; omega
        have RM2 := RM.out
        rw [rowsN_snoc] at RM2
        have e1 := rk_more RK.out RM2
        have e2 : m ≤ kn := rk_bound (rowsN_lt kn _ K1 K2) RM.out
        have e3 : n ≤ kn := rk_bound (rowsN_lt kn _ K1 K2) RK.out
        have e4 : ((m : Nat) : Int) ≤ (kn : Int) := by omega
        have n64 : ((n : Nat) : Int) ≤ 64 := by omega
        have hlc : fs.length + 1 ≤ cn := by have := addE_ok her; omega
        have BW := bytes_wrap cn sn kn (by have := BK.out; omega) (by have := BK.out; omega) K2
        have BL := bytes_le (fs.length + 1) sn kn cn hlc
        have e5 : ((bytesI (fs.length + 1) sn kn : Nat) : Int) ≤ wrap64 ((cn : Int) * ((sn : Int) + ((kn : Int) + 7) / 8)) := by rw [BW]; omega
        have c64 : ((cn : Nat) : Int) ≤ 64 := by have := BK.out; omega
        have s64 : ((sn : Nat) : Int) ≤ 64 := by have := BK.out; omega
        have k64 : ((kn : Nat) : Int) ≤ 64 := by omega
        have l64 : ((fs.length : Nat) : Int) ≤ 64 := by have := BK.out; omega
        generalize bytesI (fs.length + 1) sn kn = by_ at *
        clear RM RM2 RK BW BL BK HID HI2 her hsb hsb2 N7 N9 Q5 j0 j1 j2 j3 HA
        rcases e1 with e1 | e1
        · subst e1
          go_wp2_with fail
          go_ret
          exact ⟨rfl, B.out⟩
        · have e6 : (((m : Nat) : Int) == ((n : Nat) : Int)) = false := by simp; omega
          have e7 : (((m : Nat) : Int) == ((n : Nat) : Int) + 1) = true := by simp; omega
          clear e1
          go_wp2_with fail
          go_ret
          exact ⟨rfl, B.out⟩
      · have t9 : (er != 0) = true := by simpa using h0
        refine (eadd_bad er kn sn cn A3 fs.length d3 fs (id, ct) _ HA.out hl hd her h0).mono ?_
        rintro e x2 ⟨A6, d6, rfl, q5, hb⟩
        clear r0 r1 r2 r3 v0 v1
        have N7 := Lib.hid (q5)
        replace Q0 := Lib.hid (Q0.out.keep hb)
        replace Q1 := Lib.hid (Q1.out.keep hb)
        replace HA := Lib.hid (HA.out.below hb)
        replace B := Lib.hid (chain B.out hb)
        clear hb
        clear q5
        have hal : Below x2.heap.size x2 (x2.alloc (.cells #[.int .i64 0, .int .i64 0, .int .i64 0, .slice A6 0 d6] 24)) := (Below.refl _ _).alloc (Nat.le_refl _) _
        replace Q0 := Lib.hid (Q0.out.keep hal)
        replace Q1 := Lib.hid (Q1.out.keep hal)
        replace HA := Lib.hid (HA.out.below hal)
        replace N7 := Lib.hid (N7.out.below hal)
        replace B := Lib.hid (chain B.out hal)
        have Q4 := Lib.hid (Box.new x2 24 #[.int .i64 0, .int .i64 0, .int .i64 0, .slice A6 0 d6])
        clear hal
        obtain ⟨r0, r1, r2, r3, -, -, -, -⟩ := Q0.out.four
        obtain ⟨v0, v1, -, -⟩ := Q1.out.two
        obtain ⟨m0, m1, m2, m3, -, -, -, -⟩ := Q4.out.four
        go_wp2_with fail
        refine (alive12_any _).mono ?_
        rintro e x3 ⟨rfl, hb⟩
        clear r0 r1 r2 r3 v0 v1 m0 m1 m2 m3
        replace Q0 := Lib.hid (Q0.out.keep hb)
        replace Q1 := Lib.hid (Q1.out.keep hb)
        replace HA := Lib.hid (HA.out.below hb)
        replace N7 := Lib.hid (N7.out.below hb)
        replace Q4 := Lib.hid (Q4.out.keep hb)
        replace B := Lib.hid (chain B.out hb)
        clear hb
        obtain ⟨r0, r1, r2, r3, -, -, -, -⟩ := Q0.out.four
        obtain ⟨v0, v1, -, -⟩ := Q1.out.two
        obtain ⟨m0, m1, m2, m3, -, -, -, -⟩ := Q4.out.four
        go_wp2_with fail
        refine (eright_any _ _ _ A3 fs.length d3 fs _ HA.out hl hd).mono ?_
        rintro e x4 ⟨rfl, hb⟩
        rw [hsb]
        clear r0 r1 r2 r3 v0 v1 m0 m1 m2 m3
        replace Q0 := Lib.hid (Q0.out.keep hb)
        replace Q1 := Lib.hid (Q1.out.keep hb)
        replace HA := Lib.hid (HA.out.below hb)
        replace N7 := Lib.hid (N7.out.below hb)
        replace Q4 := Lib.hid (Q4.out.keep hb)
        replace B := Lib.hid (chain B.out hb)
        clear hb
        obtain ⟨r0, r1, r2, r3, -, -, -, -⟩ := Q0.out.four
        obtain ⟨v0, v1, -, -⟩ := Q1.out.two
        obtain ⟨m0, m1, m2, m3, -, -, -, -⟩ := Q4.out.four
        go_wp2_with fail
        go_ret
        exact ⟨rfl, B.out⟩
end
end Go.Proofs.Ytmfhimeffmpgaaa
