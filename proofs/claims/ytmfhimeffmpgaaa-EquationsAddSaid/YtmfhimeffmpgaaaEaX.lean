/- EquationsAdd: the walk. -/
import Derived.Test.YtmfhimeffmpgaaaEq5
import Derived.Test.YtmfhimeffmpgaaaEq9
import Derived.Test.YtmfhimeffmpgaaaGTail2
import Derived.Test.YtmfhimeffmpgaaaFew
import Derived.Deep.RegionWith
import Derived.Deep.RegionHeld3
import Derived.Deep.DeepCutAuto
namespace Go.Proofs.Ytmfhimeffmpgaaa
set_option linter.unusedVariables false
set_option linter.unusedSimpArgs false
open Go.RowKit
set_option maxRecDepth 100000
theorem Box.far4 {w : World} {g g' : Nat} {t : TypeId} {cs : Array Value} (h : Box w g t cs) (hn : g ≠ g') (a b c d : Value) : Box ((((w.setCell ⟨g', 0, none⟩ a).setCell ⟨g', 1, none⟩ b).setCell ⟨g', 2, none⟩ c).setCell ⟨g', 3, none⟩ d) g t cs :=
  (((h.far (p := ⟨g', 0, none⟩) hn a).far (p := ⟨g', 1, none⟩) hn b).far (p := ⟨g', 2, none⟩) hn c).far (p := ⟨g', 3, none⟩) hn d
theorem cut_three {x W : World} {k1 s1 c1 k2 s2 c2 id : Int} {A B A0 B0 : Option Addr} {l0 d0 m0 e0 n d m e : Nat} {xs ys : List SymR} {dt t : ByteArray}
    (h0 : Box x W.heap.size 24 #[.int .i64 k1, .int .i64 s1, .int .i64 c1, .slice A0 l0 d0]) (h1 : Box x (W.heap.size + 1) 24 #[.int .i64 k2, .int .i64 s2, .int .i64 c2, .slice B0 m0 e0]) (h2 : Box x (W.heap.size + 2) 27 #[.int .u64 id, .string dt])
    (ha : Syms x A n xs) (fa : ∀ b off, A = some ⟨b, off, none⟩ → W.heap.size + 3 ≤ b) (hc : Syms x B m ys) (fc : ∀ b off, B = some ⟨b, off, none⟩ → W.heap.size + 3 ≤ b) (hb : Below W.heap.size W x) :
    let y := (((((((((x.setCell ⟨W.heap.size, 0, none⟩ (.int .i64 k1)).setCell ⟨W.heap.size, 1, none⟩ (.int .i64 s1)).setCell ⟨W.heap.size, 2, none⟩ (.int .i64 c1)).setCell ⟨W.heap.size, 3, none⟩ (.slice A n d)).setCell ⟨W.heap.size + 1, 0, none⟩ (.int .i64 k2)).setCell ⟨W.heap.size + 1, 1, none⟩ (.int .i64 s2)).setCell ⟨W.heap.size + 1, 2, none⟩ (.int .i64 c2)).setCell ⟨W.heap.size + 1, 3, none⟩ (.slice B m e)).setCell ⟨W.heap.size + 2, 1, none⟩ (.string t))
    Box y W.heap.size 24 #[.int .i64 k1, .int .i64 s1, .int .i64 c1, .slice A n d] ∧ Box y (W.heap.size + 1) 24 #[.int .i64 k2, .int .i64 s2, .int .i64 c2, .slice B m e] ∧ Box y (W.heap.size + 2) 27 #[.int .u64 id, .string t] ∧ Syms y A n xs ∧ Syms y B m ys ∧ Below W.heap.size W y := by
  intro y
  have p0 := ((h0.put4 (a' := .int .i64 k1) (b' := .int .i64 s1) (c' := .int .i64 c1) (d' := .slice A n d)).far4 (g' := W.heap.size + 1) (by omega) (.int .i64 k2) (.int .i64 s2) (.int .i64 c2) (.slice B m e)).far (p := ⟨W.heap.size + 2, 1, none⟩) (by show W.heap.size ≠ W.heap.size + 2; omega) (.string t)
  have p1 := ((h1.far4 (g' := W.heap.size) (by omega) (.int .i64 k1) (.int .i64 s1) (.int .i64 c1) (.slice A n d)).put4 (a' := .int .i64 k2) (b' := .int .i64 s2) (c' := .int .i64 c2) (d' := .slice B m e)).far (p := ⟨W.heap.size + 2, 1, none⟩) (by show W.heap.size + 1 ≠ W.heap.size + 2; omega) (.string t)
  have p2 := ((h2.far4 (g' := W.heap.size) (by omega) (.int .i64 k1) (.int .i64 s1) (.int .i64 c1) (.slice A n d)).far4 (g' := W.heap.size + 1) (by omega) (.int .i64 k2) (.int .i64 s2) (.int .i64 c2) (.slice B m e)).put 1 (.string t)
  refine ⟨p0, p1, p2, ?_, ?_, ?_⟩
  · exact Recs.farB (Recs.far4 (Recs.far4 ha (fun b off h _ => by have := fa b off h; omega) _ _ _ _) (fun b off h _ => by have := fa b off h; omega) _ _ _ _) (fun b off h _ => by have := fa b off h; omega) _ _
  · exact Recs.farB (Recs.far4 (Recs.far4 hc (fun b off h _ => by have := fc b off h; omega) _ _ _ _) (fun b off h _ => by have := fc b off h; omega) _ _ _ _) (fun b off h _ => by have := fc b off h; omega) _ _
  · exact (below_set4 (below_set4 hb (Nat.le_refl _) _ _ _ _) (by omega) _ _ _ _).setCell (p := ⟨W.heap.size + 2, 1, none⟩) (by show W.heap.size ≤ W.heap.size + 2; omega) _
theorem storeB_new (k s c : Int) : storeB k s c [] = sizesB k s c := by
  rw [storeB_eq]
  unfold sizesB kB
  by_cases h : 1 ≤ c
  · have : (0 : Int) ≤ c := by omega
    simp [allB, twiceB, this]
  · simp [h]
theorem enew_law (k s c : Int) (w : World) :
    Calls Try.prog 7 #[.int .i64 k, .int .i64 s, .int .i64 c] w fun e w' => ∃ nK nS nC nE A d, e = .returned (.tuple #[.agg #[.int .i64 nK, .int .i64 nS, .int .i64 nC, .slice A 0 d], .int .i64 nE]) ∧ ((sizesB k s c = true → nK = k ∧ nS = s ∧ nC = c ∧ nE = 0) ∧ (sizesB k s c = false → nK = 0 ∧ nS = 0 ∧ nC = 0 ∧ nE = 2)) ∧ Syms w' A 0 [] ∧ Below w.heap.size w w' := by
  refine (enew_any k s c w).mono ?_
  rintro e w' ⟨A, d, rfl, h1, -, -, -, hb⟩
  rw [storeB_new]
  refine ⟨_, _, _, _, A, d, rfl, ⟨fun h => ?_, fun h => ?_⟩, h1, hb⟩
  · rw [h]; exact ⟨rfl, rfl, rfl, rfl⟩
  · rw [h]; exact ⟨rfl, rfl, rfl, rfl⟩
theorem eadd_law (k s c : Int) (A : Option Addr) (l d : Nat) (xs : List SymR) (x : SymR) (w : World) (hx : Syms w A l xs) (hl : l ≤ d) (hd : d ≤ maxLen) (hn : A = none → d = 0) (h66 : xs.length ≤ 66) :
    Calls Try.prog 8 #[.agg #[.int .i64 k, .int .i64 s, .int .i64 c, .slice A l d], .agg #[.int .u64 (x.1 : Int), .string x.2]] w fun e w' => ∃ K S C A' zs d', e = .returned (.tuple #[.agg #[.int .i64 K, .int .i64 S, .int .i64 C, .slice A' zs.length d'], .int .i64 (addE k s c xs x)]) ∧
      ((addE k s c xs x = 0 → K = k ∧ S = s ∧ C = c ∧ zs = xs ++ [x]) ∧ (¬ addE k s c xs x = 0 → K = 0 ∧ S = 0 ∧ C = 0 ∧ zs = [])) ∧ Syms w' A' zs.length zs ∧ zs.length ≤ d' ∧ d' ≤ maxLen ∧ (A' = none → d' = 0) ∧ zs.length ≤ 67 ∧ Below w.heap.size w w' := by
  by_cases he : addE k s c xs x = 0
  · refine (eadd_yes k s c A l d xs x w hx hl hd hn he).mono ?_
    rintro e w' ⟨A', d', rfl, h1, h2, h3, h4, hb⟩
    exact ⟨k, s, c, A', xs ++ [x], d', by rw [he], ⟨fun _ => ⟨rfl, rfl, rfl, rfl⟩, fun h => absurd he h⟩, h1, h2, h3, h4, by rw [List.length_append]; show xs.length + 1 ≤ 67; omega, hb⟩
  · refine (eadd_no k s c A l d xs x w hx hl hd he).mono ?_
    rintro e w' ⟨A', d', rfl, h1, h2, h3, h4, hb⟩
    exact ⟨0, 0, 0, A', [], d', rfl, ⟨fun h => absurd h he, fun _ => ⟨rfl, rfl, rfl, rfl⟩⟩, h1, h2, h3, h4, Nat.zero_le _, hb⟩
theorem addE_yes {k s c : Int} {xs : List SymR} {x : SymR} (h : storeB k s c xs = true) : addE k s c xs x = whyI s c xs x := by unfold addE; rw [if_pos h]
theorem addE_no {k s c : Int} {xs : List SymR} {x : SymR} (h : storeB k s c xs = false) : addE k s c xs x = 1 := by unfold addE; rw [h]; rfl
abbrev eaW (a b c : Array Value) (W : World) : World := ((W.alloc (.cells a 24)).alloc (.cells b 24)).alloc (.cells c 27)
theorem eaW_three (a b c : Array Value) (W : World) : Box (eaW a b c W) W.heap.size 24 a ∧ Box (eaW a b c W) (W.heap.size + 1) 24 b ∧ Box (eaW a b c W) (W.heap.size + 2) 27 c ∧ Below W.heap.size W (eaW a b c W) ∧ (eaW a b c W).heap.size = W.heap.size + 3 := by
  refine ⟨((Box.new W _ _).alloc _).alloc _, ?_, ?_, (((Below.refl _ _).alloc (Nat.le_refl _) _).alloc (by simp) _).alloc (by simp; omega) _, by simp⟩
  · have q := (Box.new (W.alloc (.cells a 24)) 24 b).alloc (.cells c 27)
    simpa only [World.size_alloc] using q
  · have q := Box.new ((W.alloc (.cells a 24)).alloc (.cells b 24)) 27 c
    simpa only [World.size_alloc] using q
set_option maxHeartbeats 16000000 in
theorem eqadd_walk (k1 s1 c1 : Int) (A1 : Option Addr) (l1 d1 : Nat) (xs1 : List SymR) (k2 s2 c2 : Int) (A2 : Option Addr) (l2 d2 : Nat) (xs2 : List SymR) (id : Nat) (dt : ByteArray) (k s c : Int) (W : World)
    (z1 : SliceOk A1 l1 d1) (h1 : Syms W A1 l1 xs1) (z2 : SliceOk A2 l2 d2) (h2 : Syms W A2 l2 xs2) :
    Calls Try.prog 3 #[.agg #[.int .i64 k1, .int .i64 s1, .int .i64 c1, .slice A1 l1 d1], .agg #[.int .i64 k2, .int .i64 s2, .int .i64 c2, .slice A2 l2 d2], .agg #[.int .u64 (id : Int), .string dt], .int .i64 k, .int .i64 s, .int .i64 c] W fun e w' => e = .returned (.bool true) ∧ Below W.heap.size W w' := by
  obtain ⟨q0, q1, q2, b1, sz⟩ := eaW_three #[.int .i64 k1, .int .i64 s1, .int .i64 c1, .slice A1 l1 d1] #[.int .i64 k2, .int .i64 s2, .int .i64 c2, .slice A2 l2 d2] #[.int .u64 (id : Int), .string dt] W
  have Q0 := Lib.hid q0
  have Q1 := Lib.hid q1
  have Q2 := Lib.hid q2
  have HB := Lib.hid b1
  have SZ := Lib.hid sz
  have H1 := Lib.hid (h1.below b1)
  have H2 := Lib.hid (h2.below b1)
  have HFa := Lib.hid (fun w' h => few12_any k1 s1 c1 A1 l1 d1 xs1 w' h z1.1 z1.2.1 (fun e => (z1.2.2 e).2))
  have HFb := Lib.hid (fun w' h => few12_any k2 s2 c2 A2 l2 d2 xs2 w' h z2.1 z2.2.1 (fun e => (z2.2.2 e).2))
  have L1 := Lib.hid (show (fewS xs1 66).length ≤ 66 by rw [fewS_len]; omega)
  have L2 := Lib.hid (show (fewS xs2 66).length ≤ 66 by rw [fewS_len]; omega)
  generalize fewS xs1 66 = fs at *
  generalize fewS xs2 66 = gs at *
  have HC1 := Lib.hid (show dt.size ≤ 66 → cutX dt = dt from fun h => (cutX_id dt h).symm)
  have HC2 := Lib.hid (show 66 ≤ dt.size → cutX dt = dt.extract 0 66 from fun h => (cutX_min dt 66 (by omega)).symm)
  generalize cutX dt = ct at *
  clear h1 h2 b1 sz q0 q1 q2 z1 z2
  obtain ⟨r0, r1, r2, r3, -, -, -, -⟩ := Q0.out.four
  obtain ⟨t0, t1, t2, t3, -, -, -, -⟩ := Q1.out.four
  obtain ⟨v0, v1, -, -⟩ := Q2.out.two
  go_enter Try.func3, Try.ntmps3
  go_wp2_with fail
  go_cut [] (fun wx => ∃ A3 d3 A4 d4, Box wx W.heap.size 24 #[.int .i64 k1, .int .i64 s1, .int .i64 c1, .slice A3 fs.length d3] ∧ Box wx (W.heap.size + 1) 24 #[.int .i64 k2, .int .i64 s2, .int .i64 c2, .slice A4 gs.length d4] ∧ Box wx (W.heap.size + 2) 27 #[.int .u64 (id : Int), .string ct] ∧ Syms wx A3 fs.length fs ∧ Syms wx A4 gs.length gs ∧ fs.length ≤ d3 ∧ d3 ≤ maxLen ∧ (A3 = none → d3 = 0) ∧ Below W.heap.size W wx)
  case first =>
    by_cases hd : dt.size ≤ 66
    · have hc := (HC1.out hd).symm
      have g1 : (dt.size : Int) ≤ 66 := by omega
      have g2 : ¬ (66 : Int) < dt.size := by omega
      subst hc
      refine wp_heldG_bar (Sa := (fun w' => w'.cell? ⟨W.heap.size, 0, none⟩ = some (.int .i64 k1) ∧ w'.cell? ⟨W.heap.size, 1, none⟩ = some (.int .i64 s1) ∧ w'.cell? ⟨W.heap.size, 2, none⟩ = some (.int .i64 c1) ∧ w'.cell? ⟨W.heap.size, 3, none⟩ = some (.slice A1 l1 d1) ∧ w'.cell? ⟨W.heap.size + 1, 0, none⟩ = some (.int .i64 k2) ∧ w'.cell? ⟨W.heap.size + 1, 1, none⟩ = some (.int .i64 s2) ∧ w'.cell? ⟨W.heap.size + 1, 2, none⟩ = some (.int .i64 c2) ∧ w'.cell? ⟨W.heap.size + 1, 3, none⟩ = some (.slice A2 l2 d2))) (Sb := (fun w' => w'.cell? ⟨W.heap.size + 2, 1, none⟩ = some (.string dt))) 13 11 (by kernel_rfl) (by decide) ?_
      have hSa := (show (fun w' => w'.cell? ⟨W.heap.size, 0, none⟩ = some (.int .i64 k1) ∧ w'.cell? ⟨W.heap.size, 1, none⟩ = some (.int .i64 s1) ∧ w'.cell? ⟨W.heap.size, 2, none⟩ = some (.int .i64 c1) ∧ w'.cell? ⟨W.heap.size, 3, none⟩ = some (.slice A1 l1 d1) ∧ w'.cell? ⟨W.heap.size + 1, 0, none⟩ = some (.int .i64 k2) ∧ w'.cell? ⟨W.heap.size + 1, 1, none⟩ = some (.int .i64 s2) ∧ w'.cell? ⟨W.heap.size + 1, 2, none⟩ = some (.int .i64 c2) ∧ w'.cell? ⟨W.heap.size + 1, 3, none⟩ = some (.slice A2 l2 d2)) (World.drew (eaW #[.int .i64 k1, .int .i64 s1, .int .i64 c1, .slice A1 l1 d1] #[.int .i64 k2, .int .i64 s2, .int .i64 c2, .slice A2 l2 d2] #[.int .u64 (id : Int), .string dt] W)) from ⟨r0, r1, r2, r3, t0, t1, t2, t3⟩)
      have hSb := (show (fun w' => w'.cell? ⟨W.heap.size + 2, 1, none⟩ = some (.string dt)) (World.drew (eaW #[.int .i64 k1, .int .i64 s1, .int .i64 c1, .slice A1 l1 d1] #[.int .i64 k2, .int .i64 s2, .int .i64 c2, .slice A2 l2 d2] #[.int .u64 (id : Int), .string dt] W)) from v1)
      refine headG_take (i := 0) (v := ?_) true rfl (by kernel_rfl) (fun _ _ _ h => h) (fun _ _ _ h => passed_ready h.1) (Or.inl ⟨by rfl, ?hy1⟩) ⟨hSb, fun _ => hSa⟩ ?rest1
      case hy1 => intro w hSw; obtain ⟨sw2, sw1⟩ := hSw; (try dsimp only at sw2); obtain ⟨sa0, sa1, sa2, sa3, sa4, sa5, sa6, sa7⟩ := sw1 rfl; go_simp; try (with_reducible rfl)
      case rest1 =>
      try simp only [Act.put, List.setIfInBounds_toArray, List.set_cons_zero, List.set_cons_succ]
      refine headG_takeT (i := 2) (v := ?_) 3 rfl (by kernel_rfl) (fun _ _ _ h => h) (fun _ _ _ h => passed_ready h.1) (Or.inl ⟨by rfl, ?hy2⟩) ⟨hSb, fun _ => hSa⟩ ?rest2
      case hy2 => intro w hSw; obtain ⟨sw2, sw1⟩ := hSw; (try dsimp only at sw2); obtain ⟨sa0, sa1, sa2, sa3, sa4, sa5, sa6, sa7⟩ := sw1 rfl; go_simp; try (with_reducible rfl)
      case rest2 =>
      try simp only [Act.put, List.setIfInBounds_toArray, List.set_cons_zero, List.set_cons_succ]
      refine headG_take (i := 4) (v := ?_) false rfl (by kernel_rfl) (fun _ _ _ h => h) (fun _ _ _ h => passed_ready h.1) (Or.inl ⟨by rfl, ?hy3⟩) ⟨hSb, fun _ => hSa⟩ ?rest3
      case hy3 => intro w hSw; obtain ⟨sw2, sw1⟩ := hSw; (try dsimp only at sw2); clear sw1; go_simp; try (with_reducible rfl)
      case rest3 =>
      try simp only [Act.put, List.setIfInBounds_toArray, List.set_cons_zero, List.set_cons_succ]
      refine headG_take (i := 5) (v := ?_) false rfl (by kernel_rfl) (fun _ _ _ h => h) (fun _ _ _ h => passed_ready h.1) (Or.inl ⟨by rfl, ?hy4⟩) ⟨hSb, fun _ => hSa⟩ ?rest4
      case hy4 => intro w hSw; obtain ⟨sw2, sw1⟩ := hSw; (try dsimp only at sw2); clear sw1; go_simp; try (with_reducible rfl)
      case rest4 =>
      try simp only [Act.put, List.setIfInBounds_toArray, List.set_cons_zero, List.set_cons_succ]
      refine headG_take (i := 6) (v := ?_) false rfl (by kernel_rfl) (fun _ _ _ h => h) (fun _ _ _ h => passed_ready h.1) (Or.inl ⟨by rfl, ?hy5⟩) ⟨hSb, fun _ => hSa⟩ ?rest5
      case hy5 => intro w hSw; obtain ⟨sw2, sw1⟩ := hSw; (try dsimp only at sw2); clear sw1; go_simp; try (with_reducible rfl)
      case rest5 =>
      try simp only [Act.put, List.setIfInBounds_toArray, List.set_cons_zero, List.set_cons_succ]
      refine headG_take (i := 7) (v := ?_) false rfl (by kernel_rfl) (fun _ _ _ h => h) (fun _ _ _ h => passed_ready h.1) (Or.inl ⟨by rfl, ?hy6⟩) ⟨hSb, fun _ => hSa⟩ ?rest6
      case hy6 => intro w hSw; obtain ⟨sw2, sw1⟩ := hSw; (try dsimp only at sw2); clear sw1; go_simp; try (with_reducible rfl)
      case rest6 =>
      try simp only [Act.put, List.setIfInBounds_toArray, List.set_cons_zero, List.set_cons_succ]
      refine headG_take (i := 8) (v := ?_) false rfl (by kernel_rfl) (fun _ _ _ h => h) (fun _ _ _ h => passed_ready h.1) (Or.inl ⟨by rfl, ?hy7⟩) ⟨hSb, fun _ => hSa⟩ ?rest7
      case hy7 => intro w hSw; obtain ⟨sw2, sw1⟩ := hSw; (try dsimp only at sw2); clear sw1; go_simp; try (with_reducible rfl)
      case rest7 =>
      try simp only [Act.put, List.setIfInBounds_toArray, List.set_cons_zero, List.set_cons_succ]
      refine headG_take (i := 9) (v := ?_) false rfl (by kernel_rfl) (fun _ _ _ h => h) (fun _ _ _ h => passed_ready h.1) (Or.inl ⟨by rfl, ?hy8⟩) ⟨hSb, fun _ => hSa⟩ ?rest8
      case hy8 => intro w hSw; obtain ⟨sw2, sw1⟩ := hSw; (try dsimp only at sw2); clear sw1; go_simp; try (with_reducible rfl)
      case rest8 =>
      try simp only [Act.put, List.setIfInBounds_toArray, List.set_cons_zero, List.set_cons_succ]
      refine headG_take (i := 10) (v := ?_) false rfl (by kernel_rfl) (fun _ _ _ h => h) (fun _ _ _ h => passed_ready h.1) (Or.inl ⟨by rfl, ?hy9⟩) ⟨hSb, fun _ => hSa⟩ ?rest9
      case hy9 => intro w hSw; obtain ⟨sw2, sw1⟩ := hSw; (try dsimp only at sw2); clear sw1; go_simp; try (with_reducible rfl)
      case rest9 =>
      try simp only [Act.put, List.setIfInBounds_toArray, List.set_cons_zero, List.set_cons_succ]
      refine headG_one (i := 1) (by kernel_rfl) rfl (fun K hK => ?_)
      go_simp
      refine (HFa.out _ H1.out.drew).mono ?_
      rintro e1 x1 ⟨A3, d3, rfl, q1, q2, q3, q4, q5, hb⟩
      have P0 := Lib.hid (Q0.out.drew.keep hb)
      have P1 := Lib.hid (Q1.out.drew.keep hb)
      have P2 := Lib.hid (Q2.out.drew.keep hb)
      have PB := Lib.hid (chain HB.out.drew hb)
      have PU := Lib.hid (H2.out.drew.below hb)
      have PA := Lib.hid q1
      have N1 := Lib.hid (And.intro q2 (And.intro q3 q4))
      have F1 := Lib.hid (show ∀ b off, A3 = some ⟨b, off, none⟩ → W.heap.size + 3 ≤ b from fun b off h => by have h9 := q5 b off h; have h8 := SZ.out; exact h8 ▸ h9)
      have ZX := Lib.hid (show W.heap.size + 3 ≤ x1.heap.size from by have h9 := hb.size; have h8 := SZ.out; exact h8 ▸ h9)
      clear hb q1 q2 q3 q4 q5 hSa hSb
      obtain ⟨u0, u1, u2, u3, -, -, -, -⟩ := P0.out.four
      obtain ⟨m0, m1, m2, m3, -, -, -, -⟩ := P1.out.four
      obtain ⟨n0, n1, -, -⟩ := P2.out.two
      have hSa := (show (fun w' => w'.cell? ⟨W.heap.size, 0, none⟩ = some (.int .i64 k1) ∧ w'.cell? ⟨W.heap.size, 1, none⟩ = some (.int .i64 s1) ∧ w'.cell? ⟨W.heap.size, 2, none⟩ = some (.int .i64 c1) ∧ w'.cell? ⟨W.heap.size, 3, none⟩ = some (.slice A1 l1 d1) ∧ w'.cell? ⟨W.heap.size + 1, 0, none⟩ = some (.int .i64 k2) ∧ w'.cell? ⟨W.heap.size + 1, 1, none⟩ = some (.int .i64 s2) ∧ w'.cell? ⟨W.heap.size + 1, 2, none⟩ = some (.int .i64 c2) ∧ w'.cell? ⟨W.heap.size + 1, 3, none⟩ = some (.slice A2 l2 d2)) x1 from ⟨u0, u1, u2, u3, m0, m1, m2, m3⟩)
      have hSb := (show (fun w' => w'.cell? ⟨W.heap.size + 2, 1, none⟩ = some (.string dt)) x1 from n1)
      refine hK.out _ _ ⟨hSb, fun _ => hSa⟩ ?_
      clear hK K
      try simp only [Act.put, List.setIfInBounds_toArray, List.set_cons_zero, List.set_cons_succ]
      refine headG_one (i := 3) (by kernel_rfl) rfl (fun K hK => ?_)
      go_simp
      refine (HFb.out _ PU.out).mono ?_
      rintro e2 x2 ⟨A4, d4, rfl, q1, q2, q3, q4, q5, hb⟩
      have R0 := Lib.hid (P0.out.keep hb)
      have R1 := Lib.hid (P1.out.keep hb)
      have R2 := Lib.hid (P2.out.keep hb)
      have RB := Lib.hid (chain PB.out hb)
      have RA := Lib.hid (Recs.below PA.out hb)
      have RC := Lib.hid q1
      have F2 := Lib.hid (show ∀ b off, A4 = some ⟨b, off, none⟩ → W.heap.size + 3 ≤ b from fun b off h => Nat.le_trans ZX.out (q5 b off h))
      clear hb q1 q2 q3 q4 q5 hSa hSb u0 u1 u2 u3 m0 m1 m2 m3 n0 n1
      obtain ⟨u0, u1, u2, u3, i0, i1, i2, i3⟩ := R0.out.four
      obtain ⟨m0, m1, m2, m3, j0, j1, j2, j3⟩ := R1.out.four
      obtain ⟨n0, n1, p0, p1⟩ := R2.out.two
      have hSa := (show (fun w' => w'.cell? ⟨W.heap.size, 0, none⟩ = some (.int .i64 k1) ∧ w'.cell? ⟨W.heap.size, 1, none⟩ = some (.int .i64 s1) ∧ w'.cell? ⟨W.heap.size, 2, none⟩ = some (.int .i64 c1) ∧ w'.cell? ⟨W.heap.size, 3, none⟩ = some (.slice A1 l1 d1) ∧ w'.cell? ⟨W.heap.size + 1, 0, none⟩ = some (.int .i64 k2) ∧ w'.cell? ⟨W.heap.size + 1, 1, none⟩ = some (.int .i64 s2) ∧ w'.cell? ⟨W.heap.size + 1, 2, none⟩ = some (.int .i64 c2) ∧ w'.cell? ⟨W.heap.size + 1, 3, none⟩ = some (.slice A2 l2 d2)) x2 from ⟨u0, u1, u2, u3, m0, m1, m2, m3⟩)
      have hSb := (show (fun w' => w'.cell? ⟨W.heap.size + 2, 1, none⟩ = some (.string dt)) x2 from n1)
      refine hK.out _ _ ⟨hSb, fun _ => hSa⟩ ?_
      clear hK K
      try simp only [Act.put, List.setIfInBounds_toArray, List.set_cons_zero, List.set_cons_succ]
      refine headG_one (i := 11) (by kernel_rfl) rfl (fun K hK => ?_)
      go_simp
      refine hK.out _ _ ⟨(R2.out.far4 (g' := W.heap.size) (by omega) (.int .i64 k1) (.int .i64 s1) (.int .i64 c1) (.slice A3 fs.length d3)).cell 1, fun h => Bool.noConfusion (show true = false from h)⟩ ?_
      clear hK K
      refine headG_one (i := 12) (by kernel_rfl) rfl (fun K hK => ?_)
      go_simp
      refine hK.out _ _ ⟨((R2.out.far4 (g' := W.heap.size) (by omega) (.int .i64 k1) (.int .i64 s1) (.int .i64 c1) (.slice A3 fs.length d3)).far4 (g' := W.heap.size + 1) (by omega) (.int .i64 k2) (.int .i64 s2) (.int .i64 c2) (.slice A4 gs.length d4)).cell 1, fun h => Bool.noConfusion (show true = false from h)⟩ ?_
      clear hK K
      refine ⟨by kernel_rfl, ?_⟩
      refine wpAny_take (i := 13) (v := ?_) rfl (by kernel_rfl) (by kernel_rfl) (by kernel_rfl) (fun _ _ _ h => h) (Or.inl ⟨by rfl, ?hy10⟩) ?rest10
      case hy10 => intro w; go_simp; try (with_reducible rfl)
      case rest10 =>
      try simp only [Act.put, List.setIfInBounds_toArray, List.set_cons_zero, List.set_cons_succ]
      refine wpAny_ready (rs := [14]) (by kernel_rfl) (by simp) ?_
      refine AllReady.cons rfl (fun K hK => ?_) AllReady.nil
      go_simp
      refine hK _ _ ?_
      clear hK K
      refine wpAny_done (by kernel_rfl) ?_ _
      go_wp2_with fail
      go_meet
      obtain ⟨e1, e2, e3, e4, e5, e6⟩ := cut_three R0.out R1.out R2.out RA.out F1.out RC.out F2.out RB.out
      exact ⟨A3, d3, A4, d4, e1, e2, e3, e4, e5, N1.out.1, N1.out.2.1, N1.out.2.2, e6⟩
    · have hc := HC2.out (by omega)
      have g1 : (66 : Int) < dt.size := by omega
      have g3 : (66 : Int) ≤ dt.size := by omega
      subst hc
      refine wp_heldG_bar (Sa := (fun w' => w'.cell? ⟨W.heap.size, 0, none⟩ = some (.int .i64 k1) ∧ w'.cell? ⟨W.heap.size, 1, none⟩ = some (.int .i64 s1) ∧ w'.cell? ⟨W.heap.size, 2, none⟩ = some (.int .i64 c1) ∧ w'.cell? ⟨W.heap.size, 3, none⟩ = some (.slice A1 l1 d1) ∧ w'.cell? ⟨W.heap.size + 1, 0, none⟩ = some (.int .i64 k2) ∧ w'.cell? ⟨W.heap.size + 1, 1, none⟩ = some (.int .i64 s2) ∧ w'.cell? ⟨W.heap.size + 1, 2, none⟩ = some (.int .i64 c2) ∧ w'.cell? ⟨W.heap.size + 1, 3, none⟩ = some (.slice A2 l2 d2))) (Sb := (fun w' => w'.cell? ⟨W.heap.size + 2, 1, none⟩ = some (.string dt))) 13 11 (by kernel_rfl) (by decide) ?_
      have hSa := (show (fun w' => w'.cell? ⟨W.heap.size, 0, none⟩ = some (.int .i64 k1) ∧ w'.cell? ⟨W.heap.size, 1, none⟩ = some (.int .i64 s1) ∧ w'.cell? ⟨W.heap.size, 2, none⟩ = some (.int .i64 c1) ∧ w'.cell? ⟨W.heap.size, 3, none⟩ = some (.slice A1 l1 d1) ∧ w'.cell? ⟨W.heap.size + 1, 0, none⟩ = some (.int .i64 k2) ∧ w'.cell? ⟨W.heap.size + 1, 1, none⟩ = some (.int .i64 s2) ∧ w'.cell? ⟨W.heap.size + 1, 2, none⟩ = some (.int .i64 c2) ∧ w'.cell? ⟨W.heap.size + 1, 3, none⟩ = some (.slice A2 l2 d2)) (World.drew (eaW #[.int .i64 k1, .int .i64 s1, .int .i64 c1, .slice A1 l1 d1] #[.int .i64 k2, .int .i64 s2, .int .i64 c2, .slice A2 l2 d2] #[.int .u64 (id : Int), .string dt] W)) from ⟨r0, r1, r2, r3, t0, t1, t2, t3⟩)
      have hSb := (show (fun w' => w'.cell? ⟨W.heap.size + 2, 1, none⟩ = some (.string dt)) (World.drew (eaW #[.int .i64 k1, .int .i64 s1, .int .i64 c1, .slice A1 l1 d1] #[.int .i64 k2, .int .i64 s2, .int .i64 c2, .slice A2 l2 d2] #[.int .u64 (id : Int), .string dt] W)) from v1)
      refine headG_take (i := 0) (v := ?_) true rfl (by kernel_rfl) (fun _ _ _ h => h) (fun _ _ _ h => passed_ready h.1) (Or.inl ⟨by rfl, ?hy11⟩) ⟨hSb, fun _ => hSa⟩ ?rest11
      case hy11 => intro w hSw; obtain ⟨sw2, sw1⟩ := hSw; (try dsimp only at sw2); obtain ⟨sa0, sa1, sa2, sa3, sa4, sa5, sa6, sa7⟩ := sw1 rfl; go_simp; try (with_reducible rfl)
      case rest11 =>
      try simp only [Act.put, List.setIfInBounds_toArray, List.set_cons_zero, List.set_cons_succ]
      refine headG_takeT (i := 2) (v := ?_) 3 rfl (by kernel_rfl) (fun _ _ _ h => h) (fun _ _ _ h => passed_ready h.1) (Or.inl ⟨by rfl, ?hy12⟩) ⟨hSb, fun _ => hSa⟩ ?rest12
      case hy12 => intro w hSw; obtain ⟨sw2, sw1⟩ := hSw; (try dsimp only at sw2); obtain ⟨sa0, sa1, sa2, sa3, sa4, sa5, sa6, sa7⟩ := sw1 rfl; go_simp; try (with_reducible rfl)
      case rest12 =>
      try simp only [Act.put, List.setIfInBounds_toArray, List.set_cons_zero, List.set_cons_succ]
      refine headG_take (i := 4) (v := ?_) false rfl (by kernel_rfl) (fun _ _ _ h => h) (fun _ _ _ h => passed_ready h.1) (Or.inl ⟨by rfl, ?hy13⟩) ⟨hSb, fun _ => hSa⟩ ?rest13
      case hy13 => intro w hSw; obtain ⟨sw2, sw1⟩ := hSw; (try dsimp only at sw2); clear sw1; go_simp; try (with_reducible rfl)
      case rest13 =>
      try simp only [Act.put, List.setIfInBounds_toArray, List.set_cons_zero, List.set_cons_succ]
      refine headG_take (i := 5) (v := ?_) false rfl (by kernel_rfl) (fun _ _ _ h => h) (fun _ _ _ h => passed_ready h.1) (Or.inl ⟨by rfl, ?hy14⟩) ⟨hSb, fun _ => hSa⟩ ?rest14
      case hy14 => intro w hSw; obtain ⟨sw2, sw1⟩ := hSw; (try dsimp only at sw2); clear sw1; go_simp; try (with_reducible rfl)
      case rest14 =>
      try simp only [Act.put, List.setIfInBounds_toArray, List.set_cons_zero, List.set_cons_succ]
      refine headG_take (i := 6) (v := ?_) false rfl (by kernel_rfl) (fun _ _ _ h => h) (fun _ _ _ h => passed_ready h.1) (Or.inl ⟨by rfl, ?hy15⟩) ⟨hSb, fun _ => hSa⟩ ?rest15
      case hy15 => intro w hSw; obtain ⟨sw2, sw1⟩ := hSw; (try dsimp only at sw2); clear sw1; go_simp; try (with_reducible rfl)
      case rest15 =>
      try simp only [Act.put, List.setIfInBounds_toArray, List.set_cons_zero, List.set_cons_succ]
      refine headG_take (i := 7) (v := ?_) false rfl (by kernel_rfl) (fun _ _ _ h => h) (fun _ _ _ h => passed_ready h.1) (Or.inl ⟨by rfl, ?hy16⟩) ⟨hSb, fun _ => hSa⟩ ?rest16
      case hy16 => intro w hSw; obtain ⟨sw2, sw1⟩ := hSw; (try dsimp only at sw2); clear sw1; go_simp; try (with_reducible rfl)
      case rest16 =>
      try simp only [Act.put, List.setIfInBounds_toArray, List.set_cons_zero, List.set_cons_succ]
      refine headG_take (i := 8) (v := ?_) false rfl (by kernel_rfl) (fun _ _ _ h => h) (fun _ _ _ h => passed_ready h.1) (Or.inl ⟨by rfl, ?hy17⟩) ⟨hSb, fun _ => hSa⟩ ?rest17
      case hy17 => intro w hSw; obtain ⟨sw2, sw1⟩ := hSw; (try dsimp only at sw2); clear sw1; go_simp; try (with_reducible rfl)
      case rest17 =>
      try simp only [Act.put, List.setIfInBounds_toArray, List.set_cons_zero, List.set_cons_succ]
      refine headG_take (i := 9) (v := ?_) false rfl (by kernel_rfl) (fun _ _ _ h => h) (fun _ _ _ h => passed_ready h.1) (Or.inl ⟨by rfl, ?hy18⟩) ⟨hSb, fun _ => hSa⟩ ?rest18
      case hy18 => intro w hSw; obtain ⟨sw2, sw1⟩ := hSw; (try dsimp only at sw2); clear sw1; go_simp; try (with_reducible rfl)
      case rest18 =>
      try simp only [Act.put, List.setIfInBounds_toArray, List.set_cons_zero, List.set_cons_succ]
      refine headG_take (i := 10) (v := ?_) false rfl (by kernel_rfl) (fun _ _ _ h => h) (fun _ _ _ h => passed_ready h.1) (Or.inl ⟨by rfl, ?hy19⟩) ⟨hSb, fun _ => hSa⟩ ?rest19
      case hy19 => intro w hSw; obtain ⟨sw2, sw1⟩ := hSw; (try dsimp only at sw2); clear sw1; go_simp; try (with_reducible rfl)
      case rest19 =>
      try simp only [Act.put, List.setIfInBounds_toArray, List.set_cons_zero, List.set_cons_succ]
      refine headG_one (i := 1) (by kernel_rfl) rfl (fun K hK => ?_)
      go_simp
      refine (HFa.out _ H1.out.drew).mono ?_
      rintro e1 x1 ⟨A3, d3, rfl, q1, q2, q3, q4, q5, hb⟩
      have P0 := Lib.hid (Q0.out.drew.keep hb)
      have P1 := Lib.hid (Q1.out.drew.keep hb)
      have P2 := Lib.hid (Q2.out.drew.keep hb)
      have PB := Lib.hid (chain HB.out.drew hb)
      have PU := Lib.hid (H2.out.drew.below hb)
      have PA := Lib.hid q1
      have N1 := Lib.hid (And.intro q2 (And.intro q3 q4))
      have F1 := Lib.hid (show ∀ b off, A3 = some ⟨b, off, none⟩ → W.heap.size + 3 ≤ b from fun b off h => by have h9 := q5 b off h; have h8 := SZ.out; exact h8 ▸ h9)
      have ZX := Lib.hid (show W.heap.size + 3 ≤ x1.heap.size from by have h9 := hb.size; have h8 := SZ.out; exact h8 ▸ h9)
      clear hb q1 q2 q3 q4 q5 hSa hSb
      obtain ⟨u0, u1, u2, u3, -, -, -, -⟩ := P0.out.four
      obtain ⟨m0, m1, m2, m3, -, -, -, -⟩ := P1.out.four
      obtain ⟨n0, n1, -, -⟩ := P2.out.two
      have hSa := (show (fun w' => w'.cell? ⟨W.heap.size, 0, none⟩ = some (.int .i64 k1) ∧ w'.cell? ⟨W.heap.size, 1, none⟩ = some (.int .i64 s1) ∧ w'.cell? ⟨W.heap.size, 2, none⟩ = some (.int .i64 c1) ∧ w'.cell? ⟨W.heap.size, 3, none⟩ = some (.slice A1 l1 d1) ∧ w'.cell? ⟨W.heap.size + 1, 0, none⟩ = some (.int .i64 k2) ∧ w'.cell? ⟨W.heap.size + 1, 1, none⟩ = some (.int .i64 s2) ∧ w'.cell? ⟨W.heap.size + 1, 2, none⟩ = some (.int .i64 c2) ∧ w'.cell? ⟨W.heap.size + 1, 3, none⟩ = some (.slice A2 l2 d2)) x1 from ⟨u0, u1, u2, u3, m0, m1, m2, m3⟩)
      have hSb := (show (fun w' => w'.cell? ⟨W.heap.size + 2, 1, none⟩ = some (.string dt)) x1 from n1)
      refine hK.out _ _ ⟨hSb, fun _ => hSa⟩ ?_
      clear hK K
      try simp only [Act.put, List.setIfInBounds_toArray, List.set_cons_zero, List.set_cons_succ]
      refine headG_one (i := 3) (by kernel_rfl) rfl (fun K hK => ?_)
      go_simp
      refine (HFb.out _ PU.out).mono ?_
      rintro e2 x2 ⟨A4, d4, rfl, q1, q2, q3, q4, q5, hb⟩
      have R0 := Lib.hid (P0.out.keep hb)
      have R1 := Lib.hid (P1.out.keep hb)
      have R2 := Lib.hid (P2.out.keep hb)
      have RB := Lib.hid (chain PB.out hb)
      have RA := Lib.hid (Recs.below PA.out hb)
      have RC := Lib.hid q1
      have F2 := Lib.hid (show ∀ b off, A4 = some ⟨b, off, none⟩ → W.heap.size + 3 ≤ b from fun b off h => Nat.le_trans ZX.out (q5 b off h))
      clear hb q1 q2 q3 q4 q5 hSa hSb u0 u1 u2 u3 m0 m1 m2 m3 n0 n1
      obtain ⟨u0, u1, u2, u3, i0, i1, i2, i3⟩ := R0.out.four
      obtain ⟨m0, m1, m2, m3, j0, j1, j2, j3⟩ := R1.out.four
      obtain ⟨n0, n1, p0, p1⟩ := R2.out.two
      have hSa := (show (fun w' => w'.cell? ⟨W.heap.size, 0, none⟩ = some (.int .i64 k1) ∧ w'.cell? ⟨W.heap.size, 1, none⟩ = some (.int .i64 s1) ∧ w'.cell? ⟨W.heap.size, 2, none⟩ = some (.int .i64 c1) ∧ w'.cell? ⟨W.heap.size, 3, none⟩ = some (.slice A1 l1 d1) ∧ w'.cell? ⟨W.heap.size + 1, 0, none⟩ = some (.int .i64 k2) ∧ w'.cell? ⟨W.heap.size + 1, 1, none⟩ = some (.int .i64 s2) ∧ w'.cell? ⟨W.heap.size + 1, 2, none⟩ = some (.int .i64 c2) ∧ w'.cell? ⟨W.heap.size + 1, 3, none⟩ = some (.slice A2 l2 d2)) x2 from ⟨u0, u1, u2, u3, m0, m1, m2, m3⟩)
      have hSb := (show (fun w' => w'.cell? ⟨W.heap.size + 2, 1, none⟩ = some (.string dt)) x2 from n1)
      refine hK.out _ _ ⟨hSb, fun _ => hSa⟩ ?_
      clear hK K
      try simp only [Act.put, List.setIfInBounds_toArray, List.set_cons_zero, List.set_cons_succ]
      refine headG_one (i := 11) (by kernel_rfl) rfl (fun K hK => ?_)
      go_simp
      refine hK.out _ _ ⟨(R2.out.far4 (g' := W.heap.size) (by omega) (.int .i64 k1) (.int .i64 s1) (.int .i64 c1) (.slice A3 fs.length d3)).cell 1, fun h => Bool.noConfusion (show true = false from h)⟩ ?_
      clear hK K
      refine headG_one (i := 12) (by kernel_rfl) rfl (fun K hK => ?_)
      go_simp
      refine hK.out _ _ ⟨((R2.out.far4 (g' := W.heap.size) (by omega) (.int .i64 k1) (.int .i64 s1) (.int .i64 c1) (.slice A3 fs.length d3)).far4 (g' := W.heap.size + 1) (by omega) (.int .i64 k2) (.int .i64 s2) (.int .i64 c2) (.slice A4 gs.length d4)).cell 1, fun h => Bool.noConfusion (show true = false from h)⟩ ?_
      clear hK K
      refine ⟨by kernel_rfl, ?_⟩
      refine wpAny_take (i := 13) (v := ?_) rfl (by kernel_rfl) (by kernel_rfl) (by kernel_rfl) (fun _ _ _ h => h) (Or.inl ⟨by rfl, ?hy20⟩) ?rest20
      case hy20 => intro w; go_simp; try (with_reducible rfl)
      case rest20 =>
      try simp only [Act.put, List.setIfInBounds_toArray, List.set_cons_zero, List.set_cons_succ]
      refine wpAny_ready (rs := [14]) (by kernel_rfl) (by simp) ?_
      refine AllReady.cons rfl (fun K hK => ?_) AllReady.nil
      go_simp
      refine hK _ _ ?_
      clear hK K
      refine wpAny_done (by kernel_rfl) ?_ _
      go_wp2_with fail
      go_meet
      obtain ⟨e1, e2, e3, e4, e5, e6⟩ := cut_three R0.out R1.out R2.out RA.out F1.out RC.out F2.out RB.out
      exact ⟨A3, d3, A4, d4, e1, e2, e3, e4, e5, N1.out.1, N1.out.2.1, N1.out.2.2, e6⟩
  case rest =>
    obtain ⟨A3, d3, A4, d4, w0, w1, w2, ha, hg, hl, hd, hn, hb⟩ := hcut
    clear Q0 Q1 Q2 HB SZ H1 H2 HFa HFb HC1 HC2 r0 r1 r2 r3 t0 t1 t2 t3 v0 v1
    have Q0 := Lib.hid w0
    have Q1 := Lib.hid w1
    have Q2 := Lib.hid w2
    have HA := Lib.hid ha
    have HG := Lib.hid hg
    have B := Lib.hid hb
    have l3 : fs.length ≤ maxLen := by have := L1.out; unfold maxLen; omega
    have l4 : gs.length ≤ maxLen := by have := L2.out; unfold maxLen; omega
    have HT : Hid (∀ w', Syms w' A3 fs.length fs → Calls Try.prog 8 #[.agg #[.int .i64 k1, .int .i64 s1, .int .i64 c1, .slice A3 fs.length d3], .agg #[.int .u64 (id : Int), .string ct]] w' _) := Lib.hid (fun w' h => eadd_law k1 s1 c1 A3 fs.length d3 fs (id, ct) w' h hl hd hn L1.out)
    have HY := Lib.hid (show storeB k1 s1 c1 fs = true → addE k1 s1 c1 fs (id, ct) = whyI s1 c1 fs (id, ct) from addE_yes)
    have HN := Lib.hid (show storeB k1 s1 c1 fs = false → addE k1 s1 c1 fs (id, ct) = 1 from addE_no)
    have HO := Lib.hid (show addE k1 s1 c1 fs (id, ct) = 0 → fs.length ≤ 64 from fun h => by have := addE_ok h; omega)
    have HR1 := Lib.hid (fun w' h => eright_any k1 s1 c1 A3 fs.length d3 fs w' h hl hd)
    have HR2 := Lib.hid (fun w' h => refRight12_any k1 s1 c1 A3 fs.length d3 fs w' h hl hd)
    have HW := Lib.hid (fun w' h => refWhy_any k1 s1 c1 A3 fs.length d3 fs (id, ct) w' h l3)
    have HL1 := Lib.hid (fun w' h h' => elike_any k1 s1 c1 A3 fs.length d3 fs k2 s2 c2 A4 gs.length d4 gs w' h h' l3 l4)
    have HL2 := Lib.hid (fun w' h h' => refSame12_any k1 s1 c1 A3 fs.length d3 fs k2 s2 c2 A4 gs.length d4 gs w' h h' l3 l4)
    have HL3 := Lib.hid (fun w' h => elike_any k1 s1 c1 A3 fs.length d3 fs k1 s1 c1 A3 fs.length d3 fs w' h h l3 l3)
    rw [likeB_self] at HL3
    have HS := Lib.hid (fun w' => refSizes_any k s c w')
    have HE := Lib.hid (fun w' => enew_law k s c w')
    generalize addE k1 s1 c1 fs (id, ct) = er at *
    generalize whyI s1 c1 fs (id, ct) = wy at *
    generalize storeB k1 s1 c1 fs = sb at *
    generalize likeB k1 s1 c1 fs k2 s2 c2 gs = lb at *
    generalize sizesB k s c = sz at *
    clear ha hg hb w0 w1 w2
    obtain ⟨r0, r1, r2, r3, -, -, -, -⟩ := Q0.out.four
    obtain ⟨t0, t1, t2, t3, -, -, -, -⟩ := Q1.out.four
    obtain ⟨v0, v1, -, -⟩ := Q2.out.two
    go_wp2_with fail
    refine (HE.out _).mono ?_
    rintro e x1 ⟨nK, nS, nC, nE, A5, d5, rfl, q6, q5, hb⟩
    clear r0 r1 r2 r3 t0 t1 t2 t3 v0 v1
    have N5 := Lib.hid (q5)
    replace Q0 := Lib.hid (Q0.out.keep hb)
    replace Q1 := Lib.hid (Q1.out.keep hb)
    replace Q2 := Lib.hid (Q2.out.keep hb)
    replace HA := Lib.hid (HA.out.below hb)
    replace HG := Lib.hid (HG.out.below hb)
    replace B := Lib.hid (chain B.out hb)
    clear hb
    have N6 := Lib.hid q6
    clear q5 q6
    have hal : Below x1.heap.size x1 (x1.alloc (.cells #[.int .i64 nK, .int .i64 nS, .int .i64 nC, .slice A5 0 d5] 24)) := (Below.refl _ _).alloc (Nat.le_refl _) _
    replace Q0 := Lib.hid (Q0.out.keep hal)
    replace Q1 := Lib.hid (Q1.out.keep hal)
    replace Q2 := Lib.hid (Q2.out.keep hal)
    replace HA := Lib.hid (HA.out.below hal)
    replace HG := Lib.hid (HG.out.below hal)
    replace N5 := Lib.hid (N5.out.below hal)
    replace B := Lib.hid (chain B.out hal)
    have Q3 := Lib.hid (Box.new x1 24 #[.int .i64 nK, .int .i64 nS, .int .i64 nC, .slice A5 0 d5])
    clear hal
    obtain ⟨r0, r1, r2, r3, -, -, -, -⟩ := Q0.out.four
    obtain ⟨t0, t1, t2, t3, -, -, -, -⟩ := Q1.out.four
    obtain ⟨v0, v1, -, -⟩ := Q2.out.two
    obtain ⟨p0, p1, p2, p3, -, -, -, -⟩ := Q3.out.four
    go_wp2_with fail
    refine (HT.out _ HA.out).mono ?_
    rintro e x2 ⟨kR, sR, cR, A6, zs, d6, rfl, q6, q5, q7, q8, q9, q10, hb⟩
    clear r0 r1 r2 r3 t0 t1 t2 t3 v0 v1 p0 p1 p2 p3
    have N7 := Lib.hid (q5)
    replace Q0 := Lib.hid (Q0.out.keep hb)
    replace Q1 := Lib.hid (Q1.out.keep hb)
    replace Q2 := Lib.hid (Q2.out.keep hb)
    replace HA := Lib.hid (HA.out.below hb)
    replace HG := Lib.hid (HG.out.below hb)
    replace N5 := Lib.hid (N5.out.below hb)
    replace Q3 := Lib.hid (Q3.out.keep hb)
    replace B := Lib.hid (chain B.out hb)
    clear hb
    have N8 := Lib.hid q6
    have l6 : zs.length ≤ maxLen := by unfold maxLen; omega
    clear q5 q6 q7 q8 q9 q10
    have hal : Below x2.heap.size x2 (x2.alloc (.cells #[.int .i64 kR, .int .i64 sR, .int .i64 cR, .slice A6 zs.length d6] 24)) := (Below.refl _ _).alloc (Nat.le_refl _) _
    replace Q0 := Lib.hid (Q0.out.keep hal)
    replace Q1 := Lib.hid (Q1.out.keep hal)
    replace Q2 := Lib.hid (Q2.out.keep hal)
    replace HA := Lib.hid (HA.out.below hal)
    replace HG := Lib.hid (HG.out.below hal)
    replace N5 := Lib.hid (N5.out.below hal)
    replace Q3 := Lib.hid (Q3.out.keep hal)
    replace N7 := Lib.hid (N7.out.below hal)
    replace B := Lib.hid (chain B.out hal)
    have Q4 := Lib.hid (Box.new x2 24 #[.int .i64 kR, .int .i64 sR, .int .i64 cR, .slice A6 zs.length d6])
    clear hal
    obtain ⟨r0, r1, r2, r3, -, -, -, -⟩ := Q0.out.four
    obtain ⟨t0, t1, t2, t3, -, -, -, -⟩ := Q1.out.four
    obtain ⟨v0, v1, -, -⟩ := Q2.out.two
    obtain ⟨p0, p1, p2, p3, -, -, -, -⟩ := Q3.out.four
    obtain ⟨m0, m1, m2, m3, -, -, -, -⟩ := Q4.out.four
    go_wp2_with fail
    have hbb : ∀ b : Bool, (b != b) = false := fun b => by cases b <;> rfl
    skip
    refine wp_held_tail (S := fun w' => w'.cell? ⟨W.heap.size, 0, none⟩ = some (.int .i64 k1) ∧ w'.cell? ⟨W.heap.size, 1, none⟩ = some (.int .i64 s1) ∧ w'.cell? ⟨W.heap.size, 2, none⟩ = some (.int .i64 c1) ∧ w'.cell? ⟨W.heap.size, 3, none⟩ = some (.slice A3 fs.length d3) ∧ w'.cell? ⟨W.heap.size + 1, 0, none⟩ = some (.int .i64 k2) ∧ w'.cell? ⟨W.heap.size + 1, 1, none⟩ = some (.int .i64 s2) ∧ w'.cell? ⟨W.heap.size + 1, 2, none⟩ = some (.int .i64 c2) ∧ w'.cell? ⟨W.heap.size + 1, 3, none⟩ = some (.slice A4 gs.length d4)) 22 (by kernel_rfl) (by decide) ?_
    have hS := Lib.hid (show _ ∧ _ ∧ _ ∧ _ ∧ _ ∧ _ ∧ _ ∧ _ from ⟨r0, r1, r2, r3, t0, t1, t2, t3⟩)
    replace hS := hS.out
    refine headH_take (i := 0) (v := ?_) rfl (by kernel_rfl) (fun _ _ _ h => h) (fun _ _ _ h => seqB_ready h.1) (Or.inl ⟨by rfl, ?hy1⟩) hS ?rest1
    case hy1 => intro w hSw; (try dsimp only at hSw); obtain ⟨hc0, hc1, hc2, hc3, hc4, hc5, hc6, hc7⟩ := hSw; go_simp; try (with_reducible rfl)
    case rest1 =>
    try simp only [Act.put, List.setIfInBounds_toArray, List.set_cons_zero, List.set_cons_succ]
    refine headH_take (i := 2) (v := ?_) rfl (by kernel_rfl) (fun _ _ _ h => h) (fun _ _ _ h => seqB_ready h.1) (Or.inl ⟨by rfl, ?hy2⟩) hS ?rest2
    case hy2 => intro w hSw; (try dsimp only at hSw); obtain ⟨hc0, hc1, hc2, hc3, hc4, hc5, hc6, hc7⟩ := hSw; go_simp; try (with_reducible rfl)
    case rest2 =>
    try simp only [Act.put, List.setIfInBounds_toArray, List.set_cons_zero, List.set_cons_succ]
    refine headH_one (i := 1) (by kernel_rfl) rfl (fun K hK => ?_)
    go_simp
    refine (HR1.out _ HA.out.drew).mono ?_
    rintro f1 w1 ⟨rfl, hb⟩
    have Q0_1 := Lib.hid (Q0.out.drew.keep hb)
    have Q1_1 := Lib.hid (Q1.out.drew.keep hb)
    have Q2_1 := Lib.hid (Q2.out.drew.keep hb)
    have Q3_1 := Lib.hid (Q3.out.drew.keep hb)
    have Q4_1 := Lib.hid (Q4.out.drew.keep hb)
    have HA_1 := Lib.hid (Recs.below HA.out.drew hb)
    have HG_1 := Lib.hid (Recs.below HG.out.drew hb)
    have N5_1 := Lib.hid (Recs.below N5.out.drew hb)
    have N7_1 := Lib.hid (Recs.below N7.out.drew hb)
    have B_1 := Lib.hid (chain B.out.drew hb)
    clear hb hS
    obtain ⟨y10, y11, y12, y13, -, -, -, -⟩ := Q0_1.out.four
    obtain ⟨x10, x11, x12, x13, -, -, -, -⟩ := Q1_1.out.four
    refine hK.out _ _ ((show (fun w' => w'.cell? ⟨W.heap.size, 0, none⟩ = some (.int .i64 k1) ∧ w'.cell? ⟨W.heap.size, 1, none⟩ = some (.int .i64 s1) ∧ w'.cell? ⟨W.heap.size, 2, none⟩ = some (.int .i64 c1) ∧ w'.cell? ⟨W.heap.size, 3, none⟩ = some (.slice A3 fs.length d3) ∧ w'.cell? ⟨W.heap.size + 1, 0, none⟩ = some (.int .i64 k2) ∧ w'.cell? ⟨W.heap.size + 1, 1, none⟩ = some (.int .i64 s2) ∧ w'.cell? ⟨W.heap.size + 1, 2, none⟩ = some (.int .i64 c2) ∧ w'.cell? ⟨W.heap.size + 1, 3, none⟩ = some (.slice A4 gs.length d4)) w1 from ⟨y10, y11, y12, y13, x10, x11, x12, x13⟩)) (fun hS => ?_)
    clear hK K
    refine headH_one (i := 3) (by kernel_rfl) rfl (fun K hK => ?_)
    go_simp
    refine (HR2.out _ HA_1.out).mono ?_
    rintro f2 w2 ⟨rfl, hb⟩
    have Q0_2 := Lib.hid (Q0_1.out.keep hb)
    have Q1_2 := Lib.hid (Q1_1.out.keep hb)
    have Q2_2 := Lib.hid (Q2_1.out.keep hb)
    have Q3_2 := Lib.hid (Q3_1.out.keep hb)
    have Q4_2 := Lib.hid (Q4_1.out.keep hb)
    have HA_2 := Lib.hid (Recs.below HA_1.out hb)
    have HG_2 := Lib.hid (Recs.below HG_1.out hb)
    have N5_2 := Lib.hid (Recs.below N5_1.out hb)
    have N7_2 := Lib.hid (Recs.below N7_1.out hb)
    have B_2 := Lib.hid (chain B_1.out hb)
    clear hb hS
    obtain ⟨y20, y21, y22, y23, -, -, -, -⟩ := Q0_2.out.four
    obtain ⟨x20, x21, x22, x23, -, -, -, -⟩ := Q1_2.out.four
    refine hK.out _ _ ((show (fun w' => w'.cell? ⟨W.heap.size, 0, none⟩ = some (.int .i64 k1) ∧ w'.cell? ⟨W.heap.size, 1, none⟩ = some (.int .i64 s1) ∧ w'.cell? ⟨W.heap.size, 2, none⟩ = some (.int .i64 c1) ∧ w'.cell? ⟨W.heap.size, 3, none⟩ = some (.slice A3 fs.length d3) ∧ w'.cell? ⟨W.heap.size + 1, 0, none⟩ = some (.int .i64 k2) ∧ w'.cell? ⟨W.heap.size + 1, 1, none⟩ = some (.int .i64 s2) ∧ w'.cell? ⟨W.heap.size + 1, 2, none⟩ = some (.int .i64 c2) ∧ w'.cell? ⟨W.heap.size + 1, 3, none⟩ = some (.slice A4 gs.length d4)) w2 from ⟨y20, y21, y22, y23, x20, x21, x22, x23⟩)) (fun hS => ?_)
    clear hK K
    refine headH_take (i := 4) (v := ?_) rfl (by kernel_rfl) (fun _ _ _ h => h) (fun _ _ _ h => seqB_ready h.1) (Or.inl ⟨by rfl, ?hy3⟩) hS ?rest3
    case hy3 => intro w hSw; (try dsimp only at hSw); obtain ⟨hc0, hc1, hc2, hc3, hc4, hc5, hc6, hc7⟩ := hSw; go_simp; try (with_reducible rfl)
    case rest3 =>
    try simp only [Act.put, List.setIfInBounds_toArray, List.set_cons_zero, List.set_cons_succ]
    refine headH_take (i := 5) (v := ?_) rfl (by kernel_rfl) (fun _ _ _ h => h) (fun _ _ _ h => seqB_ready h.1) (Or.inl ⟨by rfl, ?hy4⟩) hS ?rest4
    case hy4 => intro w hSw; (try dsimp only at hSw); obtain ⟨hc0, hc1, hc2, hc3, hc4, hc5, hc6, hc7⟩ := hSw; go_simp; try (with_reducible rfl)
    case rest4 =>
    try simp only [Act.put, List.setIfInBounds_toArray, List.set_cons_zero, List.set_cons_succ]
    refine headH_take (i := 6) (v := ?_) rfl (by kernel_rfl) (fun _ _ _ h => h) (fun _ _ _ h => seqB_ready h.1) (Or.inl ⟨by rfl, ?hy5⟩) hS ?rest5
    case hy5 => intro w hSw; (try dsimp only at hSw); obtain ⟨hc0, hc1, hc2, hc3, hc4, hc5, hc6, hc7⟩ := hSw; go_simp; try (with_reducible rfl)
    case rest5 =>
    try simp only [Act.put, List.setIfInBounds_toArray, List.set_cons_zero, List.set_cons_succ]
    refine headH_take (i := 7) (v := ?_) rfl (by kernel_rfl) (fun _ _ _ h => h) (fun _ _ _ h => seqB_ready h.1) (Or.inl ⟨by rfl, ?hy6⟩) hS ?rest6
    case hy6 => intro w hSw; (try dsimp only at hSw); obtain ⟨hc0, hc1, hc2, hc3, hc4, hc5, hc6, hc7⟩ := hSw; go_simp; try (with_reducible rfl)
    case rest6 =>
    try simp only [Act.put, List.setIfInBounds_toArray, List.set_cons_zero, List.set_cons_succ]
    refine headH_take (i := 9) (v := ?_) rfl (by kernel_rfl) (fun _ _ _ h => h) (fun _ _ _ h => seqB_ready h.1) (Or.inl ⟨by rfl, ?hy7⟩) hS ?rest7
    case hy7 => intro w hSw; (try dsimp only at hSw); obtain ⟨hc0, hc1, hc2, hc3, hc4, hc5, hc6, hc7⟩ := hSw; go_simp; try (with_reducible rfl)
    case rest7 =>
    try simp only [Act.put, List.setIfInBounds_toArray, List.set_cons_zero, List.set_cons_succ]
    refine headH_take (i := 10) (v := ?_) rfl (by kernel_rfl) (fun _ _ _ h => h) (fun _ _ _ h => seqB_ready h.1) (Or.inl ⟨by rfl, ?hy8⟩) hS ?rest8
    case hy8 => intro w hSw; (try dsimp only at hSw); obtain ⟨hc0, hc1, hc2, hc3, hc4, hc5, hc6, hc7⟩ := hSw; go_simp; try (with_reducible rfl)
    case rest8 =>
    try simp only [Act.put, List.setIfInBounds_toArray, List.set_cons_zero, List.set_cons_succ]
    refine headH_one (i := 8) (by kernel_rfl) rfl (fun K hK => ?_)
    go_simp
    refine (HL1.out _ HA_2.out HG_2.out).mono ?_
    rintro f3 w3 ⟨rfl, hb⟩
    have Q0_3 := Lib.hid (Q0_2.out.keep hb)
    have Q1_3 := Lib.hid (Q1_2.out.keep hb)
    have Q2_3 := Lib.hid (Q2_2.out.keep hb)
    have Q3_3 := Lib.hid (Q3_2.out.keep hb)
    have Q4_3 := Lib.hid (Q4_2.out.keep hb)
    have HA_3 := Lib.hid (Recs.below HA_2.out hb)
    have HG_3 := Lib.hid (Recs.below HG_2.out hb)
    have N5_3 := Lib.hid (Recs.below N5_2.out hb)
    have N7_3 := Lib.hid (Recs.below N7_2.out hb)
    have B_3 := Lib.hid (chain B_2.out hb)
    clear hb hS
    obtain ⟨y30, y31, y32, y33, -, -, -, -⟩ := Q0_3.out.four
    obtain ⟨x30, x31, x32, x33, -, -, -, -⟩ := Q1_3.out.four
    refine hK.out _ _ ((show (fun w' => w'.cell? ⟨W.heap.size, 0, none⟩ = some (.int .i64 k1) ∧ w'.cell? ⟨W.heap.size, 1, none⟩ = some (.int .i64 s1) ∧ w'.cell? ⟨W.heap.size, 2, none⟩ = some (.int .i64 c1) ∧ w'.cell? ⟨W.heap.size, 3, none⟩ = some (.slice A3 fs.length d3) ∧ w'.cell? ⟨W.heap.size + 1, 0, none⟩ = some (.int .i64 k2) ∧ w'.cell? ⟨W.heap.size + 1, 1, none⟩ = some (.int .i64 s2) ∧ w'.cell? ⟨W.heap.size + 1, 2, none⟩ = some (.int .i64 c2) ∧ w'.cell? ⟨W.heap.size + 1, 3, none⟩ = some (.slice A4 gs.length d4)) w3 from ⟨y30, y31, y32, y33, x30, x31, x32, x33⟩)) (fun hS => ?_)
    clear hK K
    refine headH_one (i := 11) (by kernel_rfl) rfl (fun K hK => ?_)
    go_simp
    refine (HL2.out _ HA_3.out HG_3.out).mono ?_
    rintro f4 w4 ⟨rfl, hb⟩
    have Q0_4 := Lib.hid (Q0_3.out.keep hb)
    have Q1_4 := Lib.hid (Q1_3.out.keep hb)
    have Q2_4 := Lib.hid (Q2_3.out.keep hb)
    have Q3_4 := Lib.hid (Q3_3.out.keep hb)
    have Q4_4 := Lib.hid (Q4_3.out.keep hb)
    have HA_4 := Lib.hid (Recs.below HA_3.out hb)
    have HG_4 := Lib.hid (Recs.below HG_3.out hb)
    have N5_4 := Lib.hid (Recs.below N5_3.out hb)
    have N7_4 := Lib.hid (Recs.below N7_3.out hb)
    have B_4 := Lib.hid (chain B_3.out hb)
    clear hb hS
    obtain ⟨y40, y41, y42, y43, -, -, -, -⟩ := Q0_4.out.four
    obtain ⟨x40, x41, x42, x43, -, -, -, -⟩ := Q1_4.out.four
    refine hK.out _ _ ((show (fun w' => w'.cell? ⟨W.heap.size, 0, none⟩ = some (.int .i64 k1) ∧ w'.cell? ⟨W.heap.size, 1, none⟩ = some (.int .i64 s1) ∧ w'.cell? ⟨W.heap.size, 2, none⟩ = some (.int .i64 c1) ∧ w'.cell? ⟨W.heap.size, 3, none⟩ = some (.slice A3 fs.length d3) ∧ w'.cell? ⟨W.heap.size + 1, 0, none⟩ = some (.int .i64 k2) ∧ w'.cell? ⟨W.heap.size + 1, 1, none⟩ = some (.int .i64 s2) ∧ w'.cell? ⟨W.heap.size + 1, 2, none⟩ = some (.int .i64 c2) ∧ w'.cell? ⟨W.heap.size + 1, 3, none⟩ = some (.slice A4 gs.length d4)) w4 from ⟨y40, y41, y42, y43, x40, x41, x42, x43⟩)) (fun hS => ?_)
    clear hK K
    refine headH_take (i := 12) (v := ?_) rfl (by kernel_rfl) (fun _ _ _ h => h) (fun _ _ _ h => seqB_ready h.1) (Or.inl ⟨by rfl, ?hy9⟩) hS ?rest9
    case hy9 => intro w hSw; (try dsimp only at hSw); obtain ⟨hc0, hc1, hc2, hc3, hc4, hc5, hc6, hc7⟩ := hSw; go_simp; try (with_reducible rfl)
    case rest9 =>
    try simp only [Act.put, List.setIfInBounds_toArray, List.set_cons_zero, List.set_cons_succ]
    refine headH_take (i := 13) (v := ?_) rfl (by kernel_rfl) (fun _ _ _ h => h) (fun _ _ _ h => seqB_ready h.1) (Or.inl ⟨by rfl, ?hy10⟩) hS ?rest10
    case hy10 => intro w hSw; (try dsimp only at hSw); obtain ⟨hc0, hc1, hc2, hc3, hc4, hc5, hc6, hc7⟩ := hSw; go_simp; try (with_reducible rfl)
    case rest10 =>
    try simp only [Act.put, List.setIfInBounds_toArray, List.set_cons_zero, List.set_cons_succ]
    refine headH_take (i := 14) (v := ?_) rfl (by kernel_rfl) (fun _ _ _ h => h) (fun _ _ _ h => seqB_ready h.1) (Or.inl ⟨by rfl, ?hy11⟩) hS ?rest11
    case hy11 => intro w hSw; (try dsimp only at hSw); obtain ⟨hc0, hc1, hc2, hc3, hc4, hc5, hc6, hc7⟩ := hSw; go_simp; try (with_reducible rfl)
    case rest11 =>
    try simp only [Act.put, List.setIfInBounds_toArray, List.set_cons_zero, List.set_cons_succ]
    refine headH_take (i := 15) (v := ?_) rfl (by kernel_rfl) (fun _ _ _ h => h) (fun _ _ _ h => seqB_ready h.1) (Or.inl ⟨by rfl, ?hy12⟩) hS ?rest12
    case hy12 => intro w hSw; (try dsimp only at hSw); obtain ⟨hc0, hc1, hc2, hc3, hc4, hc5, hc6, hc7⟩ := hSw; go_simp; try (with_reducible rfl)
    case rest12 =>
    try simp only [Act.put, List.setIfInBounds_toArray, List.set_cons_zero, List.set_cons_succ]
    refine headH_take (i := 16) (v := ?_) rfl (by kernel_rfl) (fun _ _ _ h => h) (fun _ _ _ h => seqB_ready h.1) (Or.inl ⟨by rfl, ?hy13⟩) hS ?rest13
    case hy13 => intro w hSw; (try dsimp only at hSw); obtain ⟨hc0, hc1, hc2, hc3, hc4, hc5, hc6, hc7⟩ := hSw; go_simp; try (with_reducible rfl)
    case rest13 =>
    try simp only [Act.put, List.setIfInBounds_toArray, List.set_cons_zero, List.set_cons_succ]
    refine headH_one (i := 17) (by kernel_rfl) rfl (fun K hK => ?_)
    go_simp
    refine (HL3.out _ HA_4.out).mono ?_
    rintro f5 w5 ⟨rfl, hb⟩
    have Q0_5 := Lib.hid (Q0_4.out.keep hb)
    have Q1_5 := Lib.hid (Q1_4.out.keep hb)
    have Q2_5 := Lib.hid (Q2_4.out.keep hb)
    have Q3_5 := Lib.hid (Q3_4.out.keep hb)
    have Q4_5 := Lib.hid (Q4_4.out.keep hb)
    have HA_5 := Lib.hid (Recs.below HA_4.out hb)
    have HG_5 := Lib.hid (Recs.below HG_4.out hb)
    have N5_5 := Lib.hid (Recs.below N5_4.out hb)
    have N7_5 := Lib.hid (Recs.below N7_4.out hb)
    have B_5 := Lib.hid (chain B_4.out hb)
    clear hb hS
    obtain ⟨y50, y51, y52, y53, -, -, -, -⟩ := Q0_5.out.four
    obtain ⟨x50, x51, x52, x53, -, -, -, -⟩ := Q1_5.out.four
    refine hK.out _ _ ((show (fun w' => w'.cell? ⟨W.heap.size, 0, none⟩ = some (.int .i64 k1) ∧ w'.cell? ⟨W.heap.size, 1, none⟩ = some (.int .i64 s1) ∧ w'.cell? ⟨W.heap.size, 2, none⟩ = some (.int .i64 c1) ∧ w'.cell? ⟨W.heap.size, 3, none⟩ = some (.slice A3 fs.length d3) ∧ w'.cell? ⟨W.heap.size + 1, 0, none⟩ = some (.int .i64 k2) ∧ w'.cell? ⟨W.heap.size + 1, 1, none⟩ = some (.int .i64 s2) ∧ w'.cell? ⟨W.heap.size + 1, 2, none⟩ = some (.int .i64 c2) ∧ w'.cell? ⟨W.heap.size + 1, 3, none⟩ = some (.slice A4 gs.length d4)) w5 from ⟨y50, y51, y52, y53, x50, x51, x52, x53⟩)) (fun hS => ?_)
    clear hK K
    refine headH_take (i := 18) (v := ?_) rfl (by kernel_rfl) (fun _ _ _ h => h) (fun _ _ _ h => seqB_ready h.1) (Or.inl ⟨by rfl, ?hy14⟩) hS ?rest14
    case hy14 => intro w hSw; (try dsimp only at hSw); obtain ⟨hc0, hc1, hc2, hc3, hc4, hc5, hc6, hc7⟩ := hSw; go_simp; try (with_reducible rfl)
    case rest14 =>
    try simp only [Act.put, List.setIfInBounds_toArray, List.set_cons_zero, List.set_cons_succ]
    refine headH_take (i := 19) (v := ?_) rfl (by kernel_rfl) (fun _ _ _ h => h) (fun _ _ _ h => seqB_ready h.1) (Or.inl ⟨by rfl, ?hy15⟩) hS ?rest15
    case hy15 => intro w hSw; (try dsimp only at hSw); obtain ⟨hc0, hc1, hc2, hc3, hc4, hc5, hc6, hc7⟩ := hSw; go_simp; try (with_reducible rfl)
    case rest15 =>
    try simp only [Act.put, List.setIfInBounds_toArray, List.set_cons_zero, List.set_cons_succ]
    refine headH_take (i := 20) (v := ?_) rfl (by kernel_rfl) (fun _ _ _ h => h) (fun _ _ _ h => seqB_ready h.1) (Or.inl ⟨by rfl, ?hy16⟩) hS ?rest16
    case hy16 => intro w hSw; (try dsimp only at hSw); obtain ⟨hc0, hc1, hc2, hc3, hc4, hc5, hc6, hc7⟩ := hSw; go_simp; try (with_reducible rfl)
    case rest16 =>
    try simp only [Act.put, List.setIfInBounds_toArray, List.set_cons_zero, List.set_cons_succ]
    refine headH_one (i := 21) (by kernel_rfl) rfl (fun K hK => ?_)
    go_simp
    refine (alive12_any _).mono ?_
    rintro f6 w6 ⟨rfl, hb⟩
    have Q0_6 := Lib.hid (Q0_5.out.keep hb)
    have Q1_6 := Lib.hid (Q1_5.out.keep hb)
    have Q2_6 := Lib.hid (Q2_5.out.keep hb)
    have Q3_6 := Lib.hid (Q3_5.out.keep hb)
    have Q4_6 := Lib.hid (Q4_5.out.keep hb)
    have HA_6 := Lib.hid (Recs.below HA_5.out hb)
    have HG_6 := Lib.hid (Recs.below HG_5.out hb)
    have N5_6 := Lib.hid (Recs.below N5_5.out hb)
    have N7_6 := Lib.hid (Recs.below N7_5.out hb)
    have B_6 := Lib.hid (chain B_5.out hb)
    clear hb hS
    obtain ⟨y60, y61, y62, y63, -, -, -, -⟩ := Q0_6.out.four
    obtain ⟨x60, x61, x62, x63, -, -, -, -⟩ := Q1_6.out.four
    refine hK.out _ _ ((show (fun w' => w'.cell? ⟨W.heap.size, 0, none⟩ = some (.int .i64 k1) ∧ w'.cell? ⟨W.heap.size, 1, none⟩ = some (.int .i64 s1) ∧ w'.cell? ⟨W.heap.size, 2, none⟩ = some (.int .i64 c1) ∧ w'.cell? ⟨W.heap.size, 3, none⟩ = some (.slice A3 fs.length d3) ∧ w'.cell? ⟨W.heap.size + 1, 0, none⟩ = some (.int .i64 k2) ∧ w'.cell? ⟨W.heap.size + 1, 1, none⟩ = some (.int .i64 s2) ∧ w'.cell? ⟨W.heap.size + 1, 2, none⟩ = some (.int .i64 c2) ∧ w'.cell? ⟨W.heap.size + 1, 3, none⟩ = some (.slice A4 gs.length d4)) w6 from ⟨y60, y61, y62, y63, x60, x61, x62, x63⟩)) (fun hS => ?_)
    clear hK K
    refine ⟨by kernel_rfl, ?_⟩
    go_wp2_with fail
    clear r0 r1 r2 r3 t0 t1 t2 t3 v0 v1 p0 p1 p2 p3 m0 m1 m2 m3
    clear Q0 Q1 Q2 Q3 Q4 HA HG N5 N7 B Q0_1 Q1_1 Q2_1 Q3_1 Q4_1 HA_1 HG_1 N5_1 N7_1 B_1 Q0_2 Q1_2 Q2_2 Q3_2 Q4_2 HA_2 HG_2 N5_2 N7_2 B_2 Q0_3 Q1_3 Q2_3 Q3_3 Q4_3 HA_3 HG_3 N5_3 N7_3 B_3 Q0_4 Q1_4 Q2_4 Q3_4 Q4_4 HA_4 HG_4 N5_4 N7_4 B_4 Q0_5 Q1_5 Q2_5 Q3_5 Q4_5 HA_5 HG_5 N5_5 N7_5 B_5 y10 x10 y11 x11 y12 x12 y13 x13 y20 x20 y21 x21 y22 x22 y23 x23 y30 x30 y31 x31 y32 x32 y33 x33 y40 x40 y41 x41 y42 x42 y43 x43 y50 x50 y51 x51 y52 x52 y53 x53 y60 x60 y61 x61 y62 x62 y63 x63
    have Q0 := Q0_6
    have Q1 := Q1_6
    have Q2 := Q2_6
    have Q3 := Q3_6
    have Q4 := Q4_6
    have HA := HA_6
    have HG := HG_6
    have N5 := N5_6
    have N7 := N7_6
    have B := B_6
    clear Q0_6 Q1_6 Q2_6 Q3_6 Q4_6 HA_6 HG_6 N5_6 N7_6 B_6
    obtain ⟨r0, r1, r2, r3, -, -, -, -⟩ := Q0.out.four
    obtain ⟨t0, t1, t2, t3, -, -, -, -⟩ := Q1.out.four
    obtain ⟨v0, v1, -, -⟩ := Q2.out.two
    obtain ⟨p0, p1, p2, p3, -, -, -, -⟩ := Q3.out.four
    obtain ⟨m0, m1, m2, m3, -, -, -, -⟩ := Q4.out.four
    refine (HS.out _).mono ?_
    rintro e u3 ⟨rfl, rfl⟩
    cases sz with
    | true =>
      obtain ⟨rfl, rfl, rfl, rfl⟩ := N6.out.1 rfl
      go_wp2_with fail
      refine (refSame12_any nK nS nC A5 0 d5 [] nK nS nC none 0 0 [] _ N5.out (Recs.nil _ _) (Nat.zero_le _) (Nat.zero_le _)).mono ?_
      rintro e x3 ⟨rfl, hb⟩
      rw [likeB_self]
      clear r0 r1 r2 r3 t0 t1 t2 t3 v0 v1 p0 p1 p2 p3 m0 m1 m2 m3
      replace Q0 := Lib.hid (Q0.out.keep hb)
      replace Q1 := Lib.hid (Q1.out.keep hb)
      replace Q2 := Lib.hid (Q2.out.keep hb)
      replace HA := Lib.hid (HA.out.below hb)
      replace HG := Lib.hid (HG.out.below hb)
      replace N5 := Lib.hid (N5.out.below hb)
      replace Q3 := Lib.hid (Q3.out.keep hb)
      replace N7 := Lib.hid (N7.out.below hb)
      replace Q4 := Lib.hid (Q4.out.keep hb)
      replace B := Lib.hid (chain B.out hb)
      clear hb
      obtain ⟨r0, r1, r2, r3, -, -, -, -⟩ := Q0.out.four
      obtain ⟨t0, t1, t2, t3, -, -, -, -⟩ := Q1.out.four
      obtain ⟨v0, v1, -, -⟩ := Q2.out.two
      obtain ⟨p0, p1, p2, p3, -, -, -, -⟩ := Q3.out.four
      obtain ⟨m0, m1, m2, m3, -, -, -, -⟩ := Q4.out.four
      go_wp2_with fail
      refine (HR2.out _ HA.out).mono ?_
      rintro e x4 ⟨rfl, hb⟩
      clear r0 r1 r2 r3 t0 t1 t2 t3 v0 v1 p0 p1 p2 p3 m0 m1 m2 m3
      replace Q0 := Lib.hid (Q0.out.keep hb)
      replace Q1 := Lib.hid (Q1.out.keep hb)
      replace Q2 := Lib.hid (Q2.out.keep hb)
      replace HA := Lib.hid (HA.out.below hb)
      replace HG := Lib.hid (HG.out.below hb)
      replace N5 := Lib.hid (N5.out.below hb)
      replace Q3 := Lib.hid (Q3.out.keep hb)
      replace N7 := Lib.hid (N7.out.below hb)
      replace Q4 := Lib.hid (Q4.out.keep hb)
      replace B := Lib.hid (chain B.out hb)
      clear hb
      obtain ⟨r0, r1, r2, r3, -, -, -, -⟩ := Q0.out.four
      obtain ⟨t0, t1, t2, t3, -, -, -, -⟩ := Q1.out.four
      obtain ⟨v0, v1, -, -⟩ := Q2.out.two
      obtain ⟨p0, p1, p2, p3, -, -, -, -⟩ := Q3.out.four
      obtain ⟨m0, m1, m2, m3, -, -, -, -⟩ := Q4.out.four
      cases sb with
      | false =>
        obtain rfl := HN.out rfl
        obtain ⟨rfl, rfl, rfl, rfl⟩ := N8.out.2 (by decide)
        go_wp2_with fail
        refine (refSame12_any 0 0 0 A6 0 d6 [] 0 0 0 none 0 0 [] _ N7.out (Recs.nil _ _) (Nat.zero_le _) (Nat.zero_le _)).mono ?_
        rintro e x5 ⟨rfl, hb⟩
        rw [likeB_self]
        clear r0 r1 r2 r3 t0 t1 t2 t3 v0 v1 p0 p1 p2 p3 m0 m1 m2 m3
        replace Q0 := Lib.hid (Q0.out.keep hb)
        replace Q1 := Lib.hid (Q1.out.keep hb)
        replace Q2 := Lib.hid (Q2.out.keep hb)
        replace HA := Lib.hid (HA.out.below hb)
        replace HG := Lib.hid (HG.out.below hb)
        replace N5 := Lib.hid (N5.out.below hb)
        replace Q3 := Lib.hid (Q3.out.keep hb)
        replace N7 := Lib.hid (N7.out.below hb)
        replace Q4 := Lib.hid (Q4.out.keep hb)
        replace B := Lib.hid (chain B.out hb)
        clear hb
        obtain ⟨r0, r1, r2, r3, -, -, -, -⟩ := Q0.out.four
        obtain ⟨t0, t1, t2, t3, -, -, -, -⟩ := Q1.out.four
        obtain ⟨v0, v1, -, -⟩ := Q2.out.two
        obtain ⟨p0, p1, p2, p3, -, -, -, -⟩ := Q3.out.four
        obtain ⟨m0, m1, m2, m3, -, -, -, -⟩ := Q4.out.four
        go_wp2_with fail
        go_ret
        exact ⟨rfl, B.out⟩
      | true =>
        obtain rfl := HY.out rfl
        go_wp2_with fail
        refine (HW.out _ HA.out).mono ?_
        rintro e x5 ⟨rfl, hb⟩
        clear r0 r1 r2 r3 t0 t1 t2 t3 v0 v1 p0 p1 p2 p3 m0 m1 m2 m3
        replace Q0 := Lib.hid (Q0.out.keep hb)
        replace Q1 := Lib.hid (Q1.out.keep hb)
        replace Q2 := Lib.hid (Q2.out.keep hb)
        replace HA := Lib.hid (HA.out.below hb)
        replace HG := Lib.hid (HG.out.below hb)
        replace N5 := Lib.hid (N5.out.below hb)
        replace Q3 := Lib.hid (Q3.out.keep hb)
        replace N7 := Lib.hid (N7.out.below hb)
        replace Q4 := Lib.hid (Q4.out.keep hb)
        replace B := Lib.hid (chain B.out hb)
        clear hb
        obtain ⟨r0, r1, r2, r3, -, -, -, -⟩ := Q0.out.four
        obtain ⟨t0, t1, t2, t3, -, -, -, -⟩ := Q1.out.four
        obtain ⟨v0, v1, -, -⟩ := Q2.out.two
        obtain ⟨p0, p1, p2, p3, -, -, -, -⟩ := Q3.out.four
        obtain ⟨m0, m1, m2, m3, -, -, -, -⟩ := Q4.out.four
        by_cases he : er = 0
        · subst he
          obtain ⟨rfl, rfl, rfl, hz⟩ := N8.out.1 rfl
          have h64 := HO.out rfl
          have HAd := Lib.hid (fun w' h => refAdd12_any kR sR cR A3 fs.length d3 fs (id, ct) w' h h64)
          rw [← hz] at HAd
          clear hz HT HR1 HR2 HW HL1 HL2 HL3 HS HE HY HN HO N6 N8
          go_wp2_with fail
          refine wp_held_tail (S := fun w' => w'.cell? ⟨x2.heap.size, 0, none⟩ = some (.int .i64 kR) ∧ w'.cell? ⟨x2.heap.size, 1, none⟩ = some (.int .i64 sR) ∧ w'.cell? ⟨x2.heap.size, 2, none⟩ = some (.int .i64 cR) ∧ w'.cell? ⟨x2.heap.size, 3, none⟩ = some (.slice A6 zs.length d6) ∧ w'.cell? ⟨W.heap.size, 0, none⟩ = some (.int .i64 kR) ∧ w'.cell? ⟨W.heap.size, 1, none⟩ = some (.int .i64 sR) ∧ w'.cell? ⟨W.heap.size, 2, none⟩ = some (.int .i64 cR) ∧ w'.cell? ⟨W.heap.size, 3, none⟩ = some (.slice A3 fs.length d3) ∧ w'.cell? ⟨W.heap.size + 2, 0, none⟩ = some (.int .u64 (id : Int)) ∧ w'.cell? ⟨W.heap.size + 2, 1, none⟩ = some (.string ct)) 9 (by kernel_rfl) (by decide) ?_
          have hS := Lib.hid (show _ ∧ _ ∧ _ ∧ _ ∧ _ ∧ _ ∧ _ ∧ _ ∧ _ ∧ _ from ⟨m0, m1, m2, m3, r0, r1, r2, r3, v0, v1⟩)
          replace hS := hS.out
          refine headH_take (i := 0) (v := ?_) rfl (by kernel_rfl) (fun _ _ _ h => h) (fun _ _ _ h => seqB_ready h.1) (Or.inl ⟨by rfl, ?hy17⟩) hS ?rest17
          case hy17 => intro w hSw; (try dsimp only at hSw); obtain ⟨hc0, hc1, hc2, hc3, hc4, hc5, hc6, hc7, hc8, hc9⟩ := hSw; go_simp; try (with_reducible rfl)
          case rest17 =>
          try simp only [Act.put, List.setIfInBounds_toArray, List.set_cons_zero, List.set_cons_succ]
          refine headH_take (i := 1) (v := ?_) rfl (by kernel_rfl) (fun _ _ _ h => h) (fun _ _ _ h => seqB_ready h.1) (Or.inl ⟨by rfl, ?hy18⟩) hS ?rest18
          case hy18 => intro w hSw; (try dsimp only at hSw); obtain ⟨hc0, hc1, hc2, hc3, hc4, hc5, hc6, hc7, hc8, hc9⟩ := hSw; go_simp; try (with_reducible rfl)
          case rest18 =>
          try simp only [Act.put, List.setIfInBounds_toArray, List.set_cons_zero, List.set_cons_succ]
          refine headH_take (i := 2) (v := ?_) rfl (by kernel_rfl) (fun _ _ _ h => h) (fun _ _ _ h => seqB_ready h.1) (Or.inl ⟨by rfl, ?hy19⟩) hS ?rest19
          case hy19 => intro w hSw; (try dsimp only at hSw); obtain ⟨hc0, hc1, hc2, hc3, hc4, hc5, hc6, hc7, hc8, hc9⟩ := hSw; go_simp; try (with_reducible rfl)
          case rest19 =>
          try simp only [Act.put, List.setIfInBounds_toArray, List.set_cons_zero, List.set_cons_succ]
          refine headH_take (i := 3) (v := ?_) rfl (by kernel_rfl) (fun _ _ _ h => h) (fun _ _ _ h => seqB_ready h.1) (Or.inl ⟨by rfl, ?hy20⟩) hS ?rest20
          case hy20 => intro w hSw; (try dsimp only at hSw); obtain ⟨hc0, hc1, hc2, hc3, hc4, hc5, hc6, hc7, hc8, hc9⟩ := hSw; go_simp; try (with_reducible rfl)
          case rest20 =>
          try simp only [Act.put, List.setIfInBounds_toArray, List.set_cons_zero, List.set_cons_succ]
          refine headH_take (i := 4) (v := ?_) rfl (by kernel_rfl) (fun _ _ _ h => h) (fun _ _ _ h => seqB_ready h.1) (Or.inl ⟨by rfl, ?hy21⟩) hS ?rest21
          case hy21 => intro w hSw; (try dsimp only at hSw); obtain ⟨hc0, hc1, hc2, hc3, hc4, hc5, hc6, hc7, hc8, hc9⟩ := hSw; go_simp; try (with_reducible rfl)
          case rest21 =>
          try simp only [Act.put, List.setIfInBounds_toArray, List.set_cons_zero, List.set_cons_succ]
          refine headH_take (i := 5) (v := ?_) rfl (by kernel_rfl) (fun _ _ _ h => h) (fun _ _ _ h => seqB_ready h.1) (Or.inl ⟨by rfl, ?hy22⟩) hS ?rest22
          case hy22 => intro w hSw; (try dsimp only at hSw); obtain ⟨hc0, hc1, hc2, hc3, hc4, hc5, hc6, hc7, hc8, hc9⟩ := hSw; go_simp; try (with_reducible rfl)
          case rest22 =>
          try simp only [Act.put, List.setIfInBounds_toArray, List.set_cons_zero, List.set_cons_succ]
          refine headH_one (i := 6) (by kernel_rfl) rfl (fun K hK => ?_)
          go_simp
          refine (HAd.out _ HA.out.drew).mono ?_
          rintro f1 z1 ⟨A7, d7, rfl, q5, -, q7, -, -, hb⟩
          have P7 := Lib.hid q5
          have PN := Lib.hid (Recs.below N7.out.drew hb)
          have PQ0 := Lib.hid (Q0.out.drew.keep hb)
          have PQ2 := Lib.hid (Q2.out.drew.keep hb)
          have PQ4 := Lib.hid (Q4.out.drew.keep hb)
          have PB := Lib.hid (chain B.out.drew hb)
          clear hb hS q5 q7
          obtain ⟨y0, y1, y2, y3, -, -, -, -⟩ := PQ4.out.four
          obtain ⟨e0, e1, e2, e3, -, -, -, -⟩ := PQ0.out.four
          obtain ⟨i0, i1, -, -⟩ := PQ2.out.two
          refine hK.out _ _ ((show (fun w' => w'.cell? ⟨x2.heap.size, 0, none⟩ = some (.int .i64 kR) ∧ w'.cell? ⟨x2.heap.size, 1, none⟩ = some (.int .i64 sR) ∧ w'.cell? ⟨x2.heap.size, 2, none⟩ = some (.int .i64 cR) ∧ w'.cell? ⟨x2.heap.size, 3, none⟩ = some (.slice A6 zs.length d6) ∧ w'.cell? ⟨W.heap.size, 0, none⟩ = some (.int .i64 kR) ∧ w'.cell? ⟨W.heap.size, 1, none⟩ = some (.int .i64 sR) ∧ w'.cell? ⟨W.heap.size, 2, none⟩ = some (.int .i64 cR) ∧ w'.cell? ⟨W.heap.size, 3, none⟩ = some (.slice A3 fs.length d3) ∧ w'.cell? ⟨W.heap.size + 2, 0, none⟩ = some (.int .u64 (id : Int)) ∧ w'.cell? ⟨W.heap.size + 2, 1, none⟩ = some (.string ct)) z1 from ⟨y0, y1, y2, y3, e0, e1, e2, e3, i0, i1⟩)) (fun hS => ?_)
          clear hK K
          refine headH_one (i := 7) (by kernel_rfl) rfl (fun K hK => ?_)
          go_simp
          refine (refSame12_any kR sR cR A6 zs.length d6 zs kR sR cR A7 zs.length d7 zs _ PN.out P7.out l6 l6).mono ?_
          rintro f2 z2 ⟨rfl, hb⟩
          rw [likeB_self]
          have RQ0 := Lib.hid (PQ0.out.keep hb)
          have RQ2 := Lib.hid (PQ2.out.keep hb)
          have RQ4 := Lib.hid (PQ4.out.keep hb)
          have RB := Lib.hid (chain PB.out hb)
          clear hb hS y0 y1 y2 y3 e0 e1 e2 e3 i0 i1
          obtain ⟨y0, y1, y2, y3, -, -, -, -⟩ := RQ4.out.four
          obtain ⟨e0, e1, e2, e3, -, -, -, -⟩ := RQ0.out.four
          obtain ⟨i0, i1, -, -⟩ := RQ2.out.two
          refine hK.out _ _ ((show (fun w' => w'.cell? ⟨x2.heap.size, 0, none⟩ = some (.int .i64 kR) ∧ w'.cell? ⟨x2.heap.size, 1, none⟩ = some (.int .i64 sR) ∧ w'.cell? ⟨x2.heap.size, 2, none⟩ = some (.int .i64 cR) ∧ w'.cell? ⟨x2.heap.size, 3, none⟩ = some (.slice A6 zs.length d6) ∧ w'.cell? ⟨W.heap.size, 0, none⟩ = some (.int .i64 kR) ∧ w'.cell? ⟨W.heap.size, 1, none⟩ = some (.int .i64 sR) ∧ w'.cell? ⟨W.heap.size, 2, none⟩ = some (.int .i64 cR) ∧ w'.cell? ⟨W.heap.size, 3, none⟩ = some (.slice A3 fs.length d3) ∧ w'.cell? ⟨W.heap.size + 2, 0, none⟩ = some (.int .u64 (id : Int)) ∧ w'.cell? ⟨W.heap.size + 2, 1, none⟩ = some (.string ct)) z2 from ⟨y0, y1, y2, y3, e0, e1, e2, e3, i0, i1⟩)) (fun hS => ?_)
          clear hK K
          refine headH_take (i := 8) (v := ?_) rfl (by kernel_rfl) (fun _ _ _ h => h) (fun _ _ _ h => seqB_ready h.1) (Or.inl ⟨by rfl, ?hy23⟩) hS ?rest23
          case hy23 => intro w hSw; (try dsimp only at hSw); obtain ⟨hc0, hc1, hc2, hc3, hc4, hc5, hc6, hc7, hc8, hc9⟩ := hSw; go_simp; try (with_reducible rfl)
          case rest23 =>
          try simp only [Act.put, List.setIfInBounds_toArray, List.set_cons_zero, List.set_cons_succ]
          refine ⟨by kernel_rfl, ?_⟩
          go_wp2_with fail
          go_ret
          exact ⟨rfl, RB.out⟩
        · obtain ⟨rfl, rfl, rfl, rfl⟩ := N8.out.2 he
          have t9 : (er != 0) = true := by simpa using he
          go_wp2_with fail
          refine (refSame12_any 0 0 0 A6 0 d6 [] 0 0 0 none 0 0 [] _ N7.out (Recs.nil _ _) (Nat.zero_le _) (Nat.zero_le _)).mono ?_
          rintro e x6 ⟨rfl, hb⟩
          rw [likeB_self]
          clear r0 r1 r2 r3 t0 t1 t2 t3 v0 v1 p0 p1 p2 p3 m0 m1 m2 m3
          replace Q0 := Lib.hid (Q0.out.keep hb)
          replace Q1 := Lib.hid (Q1.out.keep hb)
          replace Q2 := Lib.hid (Q2.out.keep hb)
          replace HA := Lib.hid (HA.out.below hb)
          replace HG := Lib.hid (HG.out.below hb)
          replace N5 := Lib.hid (N5.out.below hb)
          replace Q3 := Lib.hid (Q3.out.keep hb)
          replace N7 := Lib.hid (N7.out.below hb)
          replace Q4 := Lib.hid (Q4.out.keep hb)
          replace B := Lib.hid (chain B.out hb)
          clear hb
          obtain ⟨r0, r1, r2, r3, -, -, -, -⟩ := Q0.out.four
          obtain ⟨t0, t1, t2, t3, -, -, -, -⟩ := Q1.out.four
          obtain ⟨v0, v1, -, -⟩ := Q2.out.two
          obtain ⟨p0, p1, p2, p3, -, -, -, -⟩ := Q3.out.four
          obtain ⟨m0, m1, m2, m3, -, -, -, -⟩ := Q4.out.four
          go_wp2_with fail
          go_ret
          exact ⟨rfl, B.out⟩
    | false =>
      obtain ⟨rfl, rfl, rfl, rfl⟩ := N6.out.2 rfl
      go_wp2_with fail
      refine (refSame12_any 0 0 0 A5 0 d5 [] 0 0 0 none 0 0 [] _ N5.out (Recs.nil _ _) (Nat.zero_le _) (Nat.zero_le _)).mono ?_
      rintro e x3 ⟨rfl, hb⟩
      rw [likeB_self]
      clear r0 r1 r2 r3 t0 t1 t2 t3 v0 v1 p0 p1 p2 p3 m0 m1 m2 m3
      replace Q0 := Lib.hid (Q0.out.keep hb)
      replace Q1 := Lib.hid (Q1.out.keep hb)
      replace Q2 := Lib.hid (Q2.out.keep hb)
      replace HA := Lib.hid (HA.out.below hb)
      replace HG := Lib.hid (HG.out.below hb)
      replace N5 := Lib.hid (N5.out.below hb)
      replace Q3 := Lib.hid (Q3.out.keep hb)
      replace N7 := Lib.hid (N7.out.below hb)
      replace Q4 := Lib.hid (Q4.out.keep hb)
      replace B := Lib.hid (chain B.out hb)
      clear hb
      obtain ⟨r0, r1, r2, r3, -, -, -, -⟩ := Q0.out.four
      obtain ⟨t0, t1, t2, t3, -, -, -, -⟩ := Q1.out.four
      obtain ⟨v0, v1, -, -⟩ := Q2.out.two
      obtain ⟨p0, p1, p2, p3, -, -, -, -⟩ := Q3.out.four
      obtain ⟨m0, m1, m2, m3, -, -, -, -⟩ := Q4.out.four
      go_wp2_with fail
      refine (HR2.out _ HA.out).mono ?_
      rintro e x4 ⟨rfl, hb⟩
      clear r0 r1 r2 r3 t0 t1 t2 t3 v0 v1 p0 p1 p2 p3 m0 m1 m2 m3
      replace Q0 := Lib.hid (Q0.out.keep hb)
      replace Q1 := Lib.hid (Q1.out.keep hb)
      replace Q2 := Lib.hid (Q2.out.keep hb)
      replace HA := Lib.hid (HA.out.below hb)
      replace HG := Lib.hid (HG.out.below hb)
      replace N5 := Lib.hid (N5.out.below hb)
      replace Q3 := Lib.hid (Q3.out.keep hb)
      replace N7 := Lib.hid (N7.out.below hb)
      replace Q4 := Lib.hid (Q4.out.keep hb)
      replace B := Lib.hid (chain B.out hb)
      clear hb
      obtain ⟨r0, r1, r2, r3, -, -, -, -⟩ := Q0.out.four
      obtain ⟨t0, t1, t2, t3, -, -, -, -⟩ := Q1.out.four
      obtain ⟨v0, v1, -, -⟩ := Q2.out.two
      obtain ⟨p0, p1, p2, p3, -, -, -, -⟩ := Q3.out.four
      obtain ⟨m0, m1, m2, m3, -, -, -, -⟩ := Q4.out.four
      cases sb with
      | false =>
        obtain rfl := HN.out rfl
        obtain ⟨rfl, rfl, rfl, rfl⟩ := N8.out.2 (by decide)
        go_wp2_with fail
        refine (refSame12_any 0 0 0 A6 0 d6 [] 0 0 0 none 0 0 [] _ N7.out (Recs.nil _ _) (Nat.zero_le _) (Nat.zero_le _)).mono ?_
        rintro e x5 ⟨rfl, hb⟩
        rw [likeB_self]
        clear r0 r1 r2 r3 t0 t1 t2 t3 v0 v1 p0 p1 p2 p3 m0 m1 m2 m3
        replace Q0 := Lib.hid (Q0.out.keep hb)
        replace Q1 := Lib.hid (Q1.out.keep hb)
        replace Q2 := Lib.hid (Q2.out.keep hb)
        replace HA := Lib.hid (HA.out.below hb)
        replace HG := Lib.hid (HG.out.below hb)
        replace N5 := Lib.hid (N5.out.below hb)
        replace Q3 := Lib.hid (Q3.out.keep hb)
        replace N7 := Lib.hid (N7.out.below hb)
        replace Q4 := Lib.hid (Q4.out.keep hb)
        replace B := Lib.hid (chain B.out hb)
        clear hb
        obtain ⟨r0, r1, r2, r3, -, -, -, -⟩ := Q0.out.four
        obtain ⟨t0, t1, t2, t3, -, -, -, -⟩ := Q1.out.four
        obtain ⟨v0, v1, -, -⟩ := Q2.out.two
        obtain ⟨p0, p1, p2, p3, -, -, -, -⟩ := Q3.out.four
        obtain ⟨m0, m1, m2, m3, -, -, -, -⟩ := Q4.out.four
        go_wp2_with fail
        go_ret
        exact ⟨rfl, B.out⟩
      | true =>
        obtain rfl := HY.out rfl
        go_wp2_with fail
        refine (HW.out _ HA.out).mono ?_
        rintro e x5 ⟨rfl, hb⟩
        clear r0 r1 r2 r3 t0 t1 t2 t3 v0 v1 p0 p1 p2 p3 m0 m1 m2 m3
        replace Q0 := Lib.hid (Q0.out.keep hb)
        replace Q1 := Lib.hid (Q1.out.keep hb)
        replace Q2 := Lib.hid (Q2.out.keep hb)
        replace HA := Lib.hid (HA.out.below hb)
        replace HG := Lib.hid (HG.out.below hb)
        replace N5 := Lib.hid (N5.out.below hb)
        replace Q3 := Lib.hid (Q3.out.keep hb)
        replace N7 := Lib.hid (N7.out.below hb)
        replace Q4 := Lib.hid (Q4.out.keep hb)
        replace B := Lib.hid (chain B.out hb)
        clear hb
        obtain ⟨r0, r1, r2, r3, -, -, -, -⟩ := Q0.out.four
        obtain ⟨t0, t1, t2, t3, -, -, -, -⟩ := Q1.out.four
        obtain ⟨v0, v1, -, -⟩ := Q2.out.two
        obtain ⟨p0, p1, p2, p3, -, -, -, -⟩ := Q3.out.four
        obtain ⟨m0, m1, m2, m3, -, -, -, -⟩ := Q4.out.four
        by_cases he : er = 0
        · subst he
          obtain ⟨rfl, rfl, rfl, hz⟩ := N8.out.1 rfl
          have h64 := HO.out rfl
          have HAd := Lib.hid (fun w' h => refAdd12_any kR sR cR A3 fs.length d3 fs (id, ct) w' h h64)
          rw [← hz] at HAd
          clear hz HT HR1 HR2 HW HL1 HL2 HL3 HS HE HY HN HO N6 N8
          go_wp2_with fail
          refine wp_held_tail (S := fun w' => w'.cell? ⟨x2.heap.size, 0, none⟩ = some (.int .i64 kR) ∧ w'.cell? ⟨x2.heap.size, 1, none⟩ = some (.int .i64 sR) ∧ w'.cell? ⟨x2.heap.size, 2, none⟩ = some (.int .i64 cR) ∧ w'.cell? ⟨x2.heap.size, 3, none⟩ = some (.slice A6 zs.length d6) ∧ w'.cell? ⟨W.heap.size, 0, none⟩ = some (.int .i64 kR) ∧ w'.cell? ⟨W.heap.size, 1, none⟩ = some (.int .i64 sR) ∧ w'.cell? ⟨W.heap.size, 2, none⟩ = some (.int .i64 cR) ∧ w'.cell? ⟨W.heap.size, 3, none⟩ = some (.slice A3 fs.length d3) ∧ w'.cell? ⟨W.heap.size + 2, 0, none⟩ = some (.int .u64 (id : Int)) ∧ w'.cell? ⟨W.heap.size + 2, 1, none⟩ = some (.string ct)) 9 (by kernel_rfl) (by decide) ?_
          have hS := Lib.hid (show _ ∧ _ ∧ _ ∧ _ ∧ _ ∧ _ ∧ _ ∧ _ ∧ _ ∧ _ from ⟨m0, m1, m2, m3, r0, r1, r2, r3, v0, v1⟩)
          replace hS := hS.out
          refine headH_take (i := 0) (v := ?_) rfl (by kernel_rfl) (fun _ _ _ h => h) (fun _ _ _ h => seqB_ready h.1) (Or.inl ⟨by rfl, ?hy24⟩) hS ?rest24
          case hy24 => intro w hSw; (try dsimp only at hSw); obtain ⟨hc0, hc1, hc2, hc3, hc4, hc5, hc6, hc7, hc8, hc9⟩ := hSw; go_simp; try (with_reducible rfl)
          case rest24 =>
          try simp only [Act.put, List.setIfInBounds_toArray, List.set_cons_zero, List.set_cons_succ]
          refine headH_take (i := 1) (v := ?_) rfl (by kernel_rfl) (fun _ _ _ h => h) (fun _ _ _ h => seqB_ready h.1) (Or.inl ⟨by rfl, ?hy25⟩) hS ?rest25
          case hy25 => intro w hSw; (try dsimp only at hSw); obtain ⟨hc0, hc1, hc2, hc3, hc4, hc5, hc6, hc7, hc8, hc9⟩ := hSw; go_simp; try (with_reducible rfl)
          case rest25 =>
          try simp only [Act.put, List.setIfInBounds_toArray, List.set_cons_zero, List.set_cons_succ]
          refine headH_take (i := 2) (v := ?_) rfl (by kernel_rfl) (fun _ _ _ h => h) (fun _ _ _ h => seqB_ready h.1) (Or.inl ⟨by rfl, ?hy26⟩) hS ?rest26
          case hy26 => intro w hSw; (try dsimp only at hSw); obtain ⟨hc0, hc1, hc2, hc3, hc4, hc5, hc6, hc7, hc8, hc9⟩ := hSw; go_simp; try (with_reducible rfl)
          case rest26 =>
          try simp only [Act.put, List.setIfInBounds_toArray, List.set_cons_zero, List.set_cons_succ]
          refine headH_take (i := 3) (v := ?_) rfl (by kernel_rfl) (fun _ _ _ h => h) (fun _ _ _ h => seqB_ready h.1) (Or.inl ⟨by rfl, ?hy27⟩) hS ?rest27
          case hy27 => intro w hSw; (try dsimp only at hSw); obtain ⟨hc0, hc1, hc2, hc3, hc4, hc5, hc6, hc7, hc8, hc9⟩ := hSw; go_simp; try (with_reducible rfl)
          case rest27 =>
          try simp only [Act.put, List.setIfInBounds_toArray, List.set_cons_zero, List.set_cons_succ]
          refine headH_take (i := 4) (v := ?_) rfl (by kernel_rfl) (fun _ _ _ h => h) (fun _ _ _ h => seqB_ready h.1) (Or.inl ⟨by rfl, ?hy28⟩) hS ?rest28
          case hy28 => intro w hSw; (try dsimp only at hSw); obtain ⟨hc0, hc1, hc2, hc3, hc4, hc5, hc6, hc7, hc8, hc9⟩ := hSw; go_simp; try (with_reducible rfl)
          case rest28 =>
          try simp only [Act.put, List.setIfInBounds_toArray, List.set_cons_zero, List.set_cons_succ]
          refine headH_take (i := 5) (v := ?_) rfl (by kernel_rfl) (fun _ _ _ h => h) (fun _ _ _ h => seqB_ready h.1) (Or.inl ⟨by rfl, ?hy29⟩) hS ?rest29
          case hy29 => intro w hSw; (try dsimp only at hSw); obtain ⟨hc0, hc1, hc2, hc3, hc4, hc5, hc6, hc7, hc8, hc9⟩ := hSw; go_simp; try (with_reducible rfl)
          case rest29 =>
          try simp only [Act.put, List.setIfInBounds_toArray, List.set_cons_zero, List.set_cons_succ]
          refine headH_one (i := 6) (by kernel_rfl) rfl (fun K hK => ?_)
          go_simp
          refine (HAd.out _ HA.out.drew).mono ?_
          rintro f1 z1 ⟨A7, d7, rfl, q5, -, q7, -, -, hb⟩
          have P7 := Lib.hid q5
          have PN := Lib.hid (Recs.below N7.out.drew hb)
          have PQ0 := Lib.hid (Q0.out.drew.keep hb)
          have PQ2 := Lib.hid (Q2.out.drew.keep hb)
          have PQ4 := Lib.hid (Q4.out.drew.keep hb)
          have PB := Lib.hid (chain B.out.drew hb)
          clear hb hS q5 q7
          obtain ⟨y0, y1, y2, y3, -, -, -, -⟩ := PQ4.out.four
          obtain ⟨e0, e1, e2, e3, -, -, -, -⟩ := PQ0.out.four
          obtain ⟨i0, i1, -, -⟩ := PQ2.out.two
          refine hK.out _ _ ((show (fun w' => w'.cell? ⟨x2.heap.size, 0, none⟩ = some (.int .i64 kR) ∧ w'.cell? ⟨x2.heap.size, 1, none⟩ = some (.int .i64 sR) ∧ w'.cell? ⟨x2.heap.size, 2, none⟩ = some (.int .i64 cR) ∧ w'.cell? ⟨x2.heap.size, 3, none⟩ = some (.slice A6 zs.length d6) ∧ w'.cell? ⟨W.heap.size, 0, none⟩ = some (.int .i64 kR) ∧ w'.cell? ⟨W.heap.size, 1, none⟩ = some (.int .i64 sR) ∧ w'.cell? ⟨W.heap.size, 2, none⟩ = some (.int .i64 cR) ∧ w'.cell? ⟨W.heap.size, 3, none⟩ = some (.slice A3 fs.length d3) ∧ w'.cell? ⟨W.heap.size + 2, 0, none⟩ = some (.int .u64 (id : Int)) ∧ w'.cell? ⟨W.heap.size + 2, 1, none⟩ = some (.string ct)) z1 from ⟨y0, y1, y2, y3, e0, e1, e2, e3, i0, i1⟩)) (fun hS => ?_)
          clear hK K
          refine headH_one (i := 7) (by kernel_rfl) rfl (fun K hK => ?_)
          go_simp
          refine (refSame12_any kR sR cR A6 zs.length d6 zs kR sR cR A7 zs.length d7 zs _ PN.out P7.out l6 l6).mono ?_
          rintro f2 z2 ⟨rfl, hb⟩
          rw [likeB_self]
          have RQ0 := Lib.hid (PQ0.out.keep hb)
          have RQ2 := Lib.hid (PQ2.out.keep hb)
          have RQ4 := Lib.hid (PQ4.out.keep hb)
          have RB := Lib.hid (chain PB.out hb)
          clear hb hS y0 y1 y2 y3 e0 e1 e2 e3 i0 i1
          obtain ⟨y0, y1, y2, y3, -, -, -, -⟩ := RQ4.out.four
          obtain ⟨e0, e1, e2, e3, -, -, -, -⟩ := RQ0.out.four
          obtain ⟨i0, i1, -, -⟩ := RQ2.out.two
          refine hK.out _ _ ((show (fun w' => w'.cell? ⟨x2.heap.size, 0, none⟩ = some (.int .i64 kR) ∧ w'.cell? ⟨x2.heap.size, 1, none⟩ = some (.int .i64 sR) ∧ w'.cell? ⟨x2.heap.size, 2, none⟩ = some (.int .i64 cR) ∧ w'.cell? ⟨x2.heap.size, 3, none⟩ = some (.slice A6 zs.length d6) ∧ w'.cell? ⟨W.heap.size, 0, none⟩ = some (.int .i64 kR) ∧ w'.cell? ⟨W.heap.size, 1, none⟩ = some (.int .i64 sR) ∧ w'.cell? ⟨W.heap.size, 2, none⟩ = some (.int .i64 cR) ∧ w'.cell? ⟨W.heap.size, 3, none⟩ = some (.slice A3 fs.length d3) ∧ w'.cell? ⟨W.heap.size + 2, 0, none⟩ = some (.int .u64 (id : Int)) ∧ w'.cell? ⟨W.heap.size + 2, 1, none⟩ = some (.string ct)) z2 from ⟨y0, y1, y2, y3, e0, e1, e2, e3, i0, i1⟩)) (fun hS => ?_)
          clear hK K
          refine headH_take (i := 8) (v := ?_) rfl (by kernel_rfl) (fun _ _ _ h => h) (fun _ _ _ h => seqB_ready h.1) (Or.inl ⟨by rfl, ?hy30⟩) hS ?rest30
          case hy30 => intro w hSw; (try dsimp only at hSw); obtain ⟨hc0, hc1, hc2, hc3, hc4, hc5, hc6, hc7, hc8, hc9⟩ := hSw; go_simp; try (with_reducible rfl)
          case rest30 =>
          try simp only [Act.put, List.setIfInBounds_toArray, List.set_cons_zero, List.set_cons_succ]
          refine ⟨by kernel_rfl, ?_⟩
          go_wp2_with fail
          go_ret
          exact ⟨rfl, RB.out⟩
        · obtain ⟨rfl, rfl, rfl, rfl⟩ := N8.out.2 he
          have t9 : (er != 0) = true := by simpa using he
          go_wp2_with fail
          refine (refSame12_any 0 0 0 A6 0 d6 [] 0 0 0 none 0 0 [] _ N7.out (Recs.nil _ _) (Nat.zero_le _) (Nat.zero_le _)).mono ?_
          rintro e x6 ⟨rfl, hb⟩
          rw [likeB_self]
          clear r0 r1 r2 r3 t0 t1 t2 t3 v0 v1 p0 p1 p2 p3 m0 m1 m2 m3
          replace Q0 := Lib.hid (Q0.out.keep hb)
          replace Q1 := Lib.hid (Q1.out.keep hb)
          replace Q2 := Lib.hid (Q2.out.keep hb)
          replace HA := Lib.hid (HA.out.below hb)
          replace HG := Lib.hid (HG.out.below hb)
          replace N5 := Lib.hid (N5.out.below hb)
          replace Q3 := Lib.hid (Q3.out.keep hb)
          replace N7 := Lib.hid (N7.out.below hb)
          replace Q4 := Lib.hid (Q4.out.keep hb)
          replace B := Lib.hid (chain B.out hb)
          clear hb
          obtain ⟨r0, r1, r2, r3, -, -, -, -⟩ := Q0.out.four
          obtain ⟨t0, t1, t2, t3, -, -, -, -⟩ := Q1.out.four
          obtain ⟨v0, v1, -, -⟩ := Q2.out.two
          obtain ⟨p0, p1, p2, p3, -, -, -, -⟩ := Q3.out.four
          obtain ⟨m0, m1, m2, m3, -, -, -, -⟩ := Q4.out.four
          go_wp2_with fail
          go_ret
          exact ⟨rfl, B.out⟩
end Go.Proofs.Ytmfhimeffmpgaaa
