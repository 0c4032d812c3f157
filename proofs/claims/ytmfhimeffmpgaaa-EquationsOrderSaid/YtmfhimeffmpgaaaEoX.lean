/- EquationsOrder: the walk. -/
import Derived.Test.YtmfhimeffmpgaaaZl
import Derived.Test.YtmfhimeffmpgaaaKTail
namespace Go.Proofs.Ytmfhimeffmpgaaa
set_option linter.unusedVariables false
set_option linter.unusedSimpArgs false
open Go.RowKit
set_option maxRecDepth 100000
theorem addE_two {k s c : Int} {xs : List SymR} {x y : SymR} (h : addE k s c xs x = 0) (h' : addE k s c xs y = 0) : addE k s c (xs ++ [x]) y = if x.1 = y.1 then 8 else if (xs.length : Int) + 1 = c then 7 else 0 := by
  obtain ⟨h1, h2, h3, h4, -⟩ := addE_ok h
  obtain ⟨-, g2, g3, g4, -⟩ := addE_ok h'
  unfold addE
  rw [storeB_grow h, if_pos rfl]
  unfold whyI
  rw [hasI_last, g3]
  by_cases he : x.1 = y.1
  · simp [g2, he]
  · simp [g2, he]
theorem cut_trip {x W : World} {k1 s1 c1 id id2 : Int} {A A0 : Option Addr} {l0 d0 n d : Nat} {xs : List SymR} {dt t dt2 t2 : ByteArray}
    (h0 : Box x W.heap.size 24 #[.int .i64 k1, .int .i64 s1, .int .i64 c1, .slice A0 l0 d0]) (h2 : Box x (W.heap.size + 1) 27 #[.int .u64 id, .string dt]) (h3 : Box x (W.heap.size + 2) 27 #[.int .u64 id2, .string dt2])
    (ha : Syms x A n xs) (fa : ∀ b off, A = some ⟨b, off, none⟩ → W.heap.size + 3 ≤ b) (hb : Below W.heap.size W x) :
    let y := ((((((x.setCell ⟨W.heap.size, 0, none⟩ (.int .i64 k1)).setCell ⟨W.heap.size, 1, none⟩ (.int .i64 s1)).setCell ⟨W.heap.size, 2, none⟩ (.int .i64 c1)).setCell ⟨W.heap.size, 3, none⟩ (.slice A n d)).setCell ⟨W.heap.size + 1, 1, none⟩ (.string t)).setCell ⟨W.heap.size + 2, 1, none⟩ (.string t2))
    Box y W.heap.size 24 #[.int .i64 k1, .int .i64 s1, .int .i64 c1, .slice A n d] ∧ Box y (W.heap.size + 1) 27 #[.int .u64 id, .string t] ∧ Box y (W.heap.size + 2) 27 #[.int .u64 id2, .string t2] ∧ Syms y A n xs ∧ Below W.heap.size W y := by
  intro y
  refine ⟨((h0.put4 (a' := .int .i64 k1) (b' := .int .i64 s1) (c' := .int .i64 c1) (d' := .slice A n d)).far (p := ⟨W.heap.size + 1, 1, none⟩) (by show W.heap.size ≠ W.heap.size + 1; omega) (.string t)).far (p := ⟨W.heap.size + 2, 1, none⟩) (by show W.heap.size ≠ W.heap.size + 2; omega) (.string t2), ((h2.farG (g' := W.heap.size) (by omega) (.int .i64 k1) (.int .i64 s1) (.int .i64 c1) (.slice A n d)).put 1 (.string t)).far (p := ⟨W.heap.size + 2, 1, none⟩) (by show W.heap.size + 1 ≠ W.heap.size + 2; omega) (.string t2), (((h3.farG (g' := W.heap.size) (by omega) (.int .i64 k1) (.int .i64 s1) (.int .i64 c1) (.slice A n d)).far (p := ⟨W.heap.size + 1, 1, none⟩) (by show W.heap.size + 2 ≠ W.heap.size + 1; omega) (.string t))).put 1 (.string t2), ?_, ?_⟩
  · exact Recs.farB (Recs.farB (Recs.far4 ha (fun b off h _ => by have := fa b off h; omega) _ _ _ _) (fun b off h _ => by have := fa b off h; omega) _ _) (fun b off h _ => by have := fa b off h; omega) _ _
  · exact ((below_set4 hb (Nat.le_refl _) _ _ _ _).setCell (p := ⟨W.heap.size + 1, 1, none⟩) (by show W.heap.size ≤ W.heap.size + 1; omega) _).setCell (p := ⟨W.heap.size + 2, 1, none⟩) (by show W.heap.size ≤ W.heap.size + 2; omega) _
abbrev eoW (a c d : Array Value) (W : World) : World := ((W.alloc (.cells a 24)).alloc (.cells c 27)).alloc (.cells d 27)
theorem eoW_three (a c d : Array Value) (W : World) : Box (eoW a c d W) W.heap.size 24 a ∧ Box (eoW a c d W) (W.heap.size + 1) 27 c ∧ Box (eoW a c d W) (W.heap.size + 2) 27 d ∧ Below W.heap.size W (eoW a c d W) ∧ (eoW a c d W).heap.size = W.heap.size + 3 := by
  refine ⟨((Box.new W _ _).alloc _).alloc _, ?_, ?_, (((Below.refl _ _).alloc (Nat.le_refl _) _).alloc (by simp) _).alloc (by simp; omega) _, by simp⟩
  · have q := (Box.new (W.alloc (.cells a 24)) 27 c).alloc (.cells d 27)
    simpa only [World.size_alloc] using q
  · have q := Box.new ((W.alloc (.cells a 24)).alloc (.cells c 27)) 27 d
    simpa only [World.size_alloc] using q
set_option maxHeartbeats 16000000 in
theorem eqord_walk (k s c : Int) (A1 : Option Addr) (l1 d1 : Nat) (xs1 : List SymR) (id : Nat) (dt : ByteArray) (id2 : Nat) (dy : ByteArray) (W : World)
    (z1 : SliceOk A1 l1 d1) (h1 : Syms W A1 l1 xs1) (hid : ∀ j, (xs1.getD j default).1 < 18446744073709551616) (hi2 : id < 18446744073709551616) (hi3 : id2 < 18446744073709551616) :
    Calls Try.prog 5 #[.agg #[.int .i64 k, .int .i64 s, .int .i64 c, .slice A1 l1 d1], .agg #[.int .u64 (id : Int), .string dt], .agg #[.int .u64 (id2 : Int), .string dy]] W fun e w' => e = .returned (.bool true) ∧ Below W.heap.size W w' := by
  obtain ⟨q0, q1, q2, b1, sz⟩ := eoW_three #[.int .i64 k, .int .i64 s, .int .i64 c, .slice A1 l1 d1] #[.int .u64 (id : Int), .string dt] #[.int .u64 (id2 : Int), .string dy] W
  have Q0 := Lib.hid q0
  have Q1 := Lib.hid q1
  have Q2 := Lib.hid q2
  have HB := Lib.hid b1
  have SZ := Lib.hid sz
  have H1 := Lib.hid (h1.below b1)
  have HFa := Lib.hid (fun w' h => few12_any k s c A1 l1 d1 xs1 w' h z1.1 z1.2.1 (fun e => (z1.2.2 e).2))
  have L1 := Lib.hid (show (fewS xs1 66).length ≤ 66 by rw [fewS_len]; omega)
  have HID := Lib.hid (fewS_id xs1 hid 66)
  have HI2 := Lib.hid hi2
  have HI3 := Lib.hid hi3
  generalize fewS xs1 66 = fs at *
  have HC1 := Lib.hid (show dt.size ≤ 66 → cutX dt = dt from fun h => (cutX_id dt h).symm)
  have HC2 := Lib.hid (show 66 ≤ dt.size → cutX dt = dt.extract 0 66 from fun h => (cutX_min dt 66 (by omega)).symm)
  have HD1 := Lib.hid (show dy.size ≤ 66 → cutX dy = dy from fun h => (cutX_id dy h).symm)
  have HD2 := Lib.hid (show 66 ≤ dy.size → cutX dy = dy.extract 0 66 from fun h => (cutX_min dy 66 (by omega)).symm)
  generalize cutX dt = ct at *
  generalize cutX dy = cy at *
  clear h1 b1 sz q0 q1 q2 z1 hid hi2 hi3
  obtain ⟨r0, r1, r2, r3, -, -, -, -⟩ := Q0.out.four
  obtain ⟨v0, v1, -, -⟩ := Q1.out.two
  obtain ⟨o0, o1, -, -⟩ := Q2.out.two
  go_enter Try.func5, Try.ntmps5
  go_wp2_with fail
  go_cut [] (fun wx => ∃ A3 d3, Box wx W.heap.size 24 #[.int .i64 k, .int .i64 s, .int .i64 c, .slice A3 fs.length d3] ∧ Box wx (W.heap.size + 1) 27 #[.int .u64 (id : Int), .string ct] ∧ Box wx (W.heap.size + 2) 27 #[.int .u64 (id2 : Int), .string cy] ∧ Syms wx A3 fs.length fs ∧ fs.length ≤ d3 ∧ d3 ≤ maxLen ∧ (A3 = none → d3 = 0) ∧ Below W.heap.size W wx)
  case first =>
    by_cases hd : dt.size ≤ 66
    · have hdc := (HC1.out hd).symm
      have hd1 : (dt.size : Int) ≤ 66 := by omega
      have hd2 : ¬ (66 : Int) < dt.size := by omega
      have hdm : min (dt.size : Int) 66 = (dt.size : Int) := by omega
      subst hdc
      by_cases he : dy.size ≤ 66
      · have hec := (HD1.out he).symm
        have he1 : (dy.size : Int) ≤ 66 := by omega
        have he2 : ¬ (66 : Int) < dy.size := by omega
        have hem : min (dy.size : Int) 66 = (dy.size : Int) := by omega
        subst hec
        refine wp_heldK_bar [(16, fun (w' : World) => w'.cell? ⟨W.heap.size, 0, none⟩ = some (.int .i64 k) ∧ w'.cell? ⟨W.heap.size, 1, none⟩ = some (.int .i64 s) ∧ w'.cell? ⟨W.heap.size, 2, none⟩ = some (.int .i64 c) ∧ w'.cell? ⟨W.heap.size, 3, none⟩ = some (.slice A1 l1 d1)), (18, fun (w' : World) => w'.cell? ⟨W.heap.size + 1, 1, none⟩ = some (.string dt)), (20, fun (w' : World) => w'.cell? ⟨W.heap.size + 2, 1, none⟩ = some (.string dy))] 21 (by kernel_rfl) (by decide) ?_
        have hS0 := (show (fun (w' : World) => w'.cell? ⟨W.heap.size, 0, none⟩ = some (.int .i64 k) ∧ w'.cell? ⟨W.heap.size, 1, none⟩ = some (.int .i64 s) ∧ w'.cell? ⟨W.heap.size, 2, none⟩ = some (.int .i64 c) ∧ w'.cell? ⟨W.heap.size, 3, none⟩ = some (.slice A1 l1 d1)) (World.drew (eoW #[.int .i64 k, .int .i64 s, .int .i64 c, .slice A1 l1 d1] #[.int .u64 (id : Int), .string dt] #[.int .u64 (id2 : Int), .string dy] W)) from ⟨r0, r1, r2, r3⟩)
        have hS1 := (show (fun (w' : World) => w'.cell? ⟨W.heap.size + 1, 1, none⟩ = some (.string dt)) (World.drew (eoW #[.int .i64 k, .int .i64 s, .int .i64 c, .slice A1 l1 d1] #[.int .u64 (id : Int), .string dt] #[.int .u64 (id2 : Int), .string dy] W)) from v1)
        have hS2 := (show (fun (w' : World) => w'.cell? ⟨W.heap.size + 2, 1, none⟩ = some (.string dy)) (World.drew (eoW #[.int .i64 k, .int .i64 s, .int .i64 c, .slice A1 l1 d1] #[.int .u64 (id : Int), .string dt] #[.int .u64 (id2 : Int), .string dy] W)) from o1)
        refine headK_load 0 16 _ rfl (i := 0) (v := ?_) rfl (by kernel_rfl) (fun _ _ _ h => h) (fun _ _ _ h => passed_ready h.1) (Or.inl ⟨by rfl, ?hy1⟩) ⟨fun _ => hS0, fun _ => hS1, fun _ => hS2, trivial⟩ ?rest1
        case hy1 => intro w hSw; (try dsimp only at hSw); obtain ⟨hc0, hc1, hc2, hc3⟩ := hSw; go_simp; try (with_reducible rfl)
        case rest1 =>
        try simp only [Act.put, List.setIfInBounds_toArray, List.set_cons_zero, List.set_cons_succ]
        refine headK_take (i := 2) (v := ?_) rfl (by kernel_rfl) (fun _ _ _ h => h) (fun _ _ _ h => passed_ready h.1) (Or.inl ⟨by rfl, ?hy2⟩) ⟨fun _ => hS0, fun _ => hS1, fun _ => hS2, trivial⟩ ?rest2
        case hy2 => intro w _; go_simp; try (with_reducible rfl)
        case rest2 =>
        try simp only [Act.put, List.setIfInBounds_toArray, List.set_cons_zero, List.set_cons_succ]
        refine headK_load 1 18 _ rfl (i := 3) (v := ?_) rfl (by kernel_rfl) (fun _ _ _ h => h) (fun _ _ _ h => passed_ready h.1) (Or.inl ⟨by rfl, ?hy3⟩) ⟨fun _ => hS0, fun _ => hS1, fun _ => hS2, trivial⟩ ?rest3
        case hy3 => intro w hSw; (try dsimp only at hSw); go_simp; try (with_reducible rfl)
        case rest3 =>
        try simp only [Act.put, List.setIfInBounds_toArray, List.set_cons_zero, List.set_cons_succ]
        refine headK_take (i := 4) (v := ?_) rfl (by kernel_rfl) (fun _ _ _ h => h) (fun _ _ _ h => passed_ready h.1) (Or.inl ⟨by rfl, ?hy4⟩) ⟨fun _ => hS0, fun _ => hS1, fun _ => hS2, trivial⟩ ?rest4
        case hy4 => intro w _; go_simp; try (with_reducible rfl)
        case rest4 =>
        try simp only [Act.put, List.setIfInBounds_toArray, List.set_cons_zero, List.set_cons_succ]
        refine headK_load 1 18 _ rfl (i := 5) (v := ?_) rfl (by kernel_rfl) (fun _ _ _ h => h) (fun _ _ _ h => passed_ready h.1) (Or.inl ⟨by rfl, ?hy5⟩) ⟨fun _ => hS0, fun _ => hS1, fun _ => hS2, trivial⟩ ?rest5
        case hy5 => intro w hSw; (try dsimp only at hSw); go_simp; try (with_reducible rfl)
        case rest5 =>
        try simp only [Act.put, List.setIfInBounds_toArray, List.set_cons_zero, List.set_cons_succ]
        refine headK_take (i := 6) (v := ?_) rfl (by kernel_rfl) (fun _ _ _ h => h) (fun _ _ _ h => passed_ready h.1) (Or.inl ⟨by rfl, ?hy6⟩) ⟨fun _ => hS0, fun _ => hS1, fun _ => hS2, trivial⟩ ?rest6
        case hy6 => intro w _; go_simp; try (with_reducible rfl)
        case rest6 =>
        try simp only [Act.put, List.setIfInBounds_toArray, List.set_cons_zero, List.set_cons_succ]
        refine headK_take (i := 7) (v := ?_) rfl (by kernel_rfl) (fun _ _ _ h => h) (fun _ _ _ h => passed_ready h.1) (Or.inl ⟨by rfl, ?hy7⟩) ⟨fun _ => hS0, fun _ => hS1, fun _ => hS2, trivial⟩ ?rest7
        case hy7 => intro w _; go_simp; try (with_reducible rfl)
        case rest7 =>
        try simp only [Act.put, List.setIfInBounds_toArray, List.set_cons_zero, List.set_cons_succ]
        refine headK_take (i := 8) (v := ?_) rfl (by kernel_rfl) (fun _ _ _ h => h) (fun _ _ _ h => passed_ready h.1) (Or.inl ⟨by rfl, ?hy8⟩) ⟨fun _ => hS0, fun _ => hS1, fun _ => hS2, trivial⟩ ?rest8
        case hy8 => intro w _; go_simp; try (with_reducible rfl)
        case rest8 =>
        try simp only [Act.put, List.setIfInBounds_toArray, List.set_cons_zero, List.set_cons_succ]
        refine headK_take (i := 9) (v := ?_) rfl (by kernel_rfl) (fun _ _ _ h => h) (fun _ _ _ h => passed_ready h.1) (Or.inl ⟨by rfl, ?hy9⟩) ⟨fun _ => hS0, fun _ => hS1, fun _ => hS2, trivial⟩ ?rest9
        case hy9 => intro w _; go_simp; try (with_reducible rfl)
        case rest9 =>
        try simp only [Act.put, List.setIfInBounds_toArray, List.set_cons_zero, List.set_cons_succ]
        refine headK_load 2 20 _ rfl (i := 10) (v := ?_) rfl (by kernel_rfl) (fun _ _ _ h => h) (fun _ _ _ h => passed_ready h.1) (Or.inl ⟨by rfl, ?hy10⟩) ⟨fun _ => hS0, fun _ => hS1, fun _ => hS2, trivial⟩ ?rest10
        case hy10 => intro w hSw; (try dsimp only at hSw); go_simp; try (with_reducible rfl)
        case rest10 =>
        try simp only [Act.put, List.setIfInBounds_toArray, List.set_cons_zero, List.set_cons_succ]
        refine headK_take (i := 11) (v := ?_) rfl (by kernel_rfl) (fun _ _ _ h => h) (fun _ _ _ h => passed_ready h.1) (Or.inl ⟨by rfl, ?hy11⟩) ⟨fun _ => hS0, fun _ => hS1, fun _ => hS2, trivial⟩ ?rest11
        case hy11 => intro w _; go_simp; try (with_reducible rfl)
        case rest11 =>
        try simp only [Act.put, List.setIfInBounds_toArray, List.set_cons_zero, List.set_cons_succ]
        refine headK_load 2 20 _ rfl (i := 12) (v := ?_) rfl (by kernel_rfl) (fun _ _ _ h => h) (fun _ _ _ h => passed_ready h.1) (Or.inl ⟨by rfl, ?hy12⟩) ⟨fun _ => hS0, fun _ => hS1, fun _ => hS2, trivial⟩ ?rest12
        case hy12 => intro w hSw; (try dsimp only at hSw); go_simp; try (with_reducible rfl)
        case rest12 =>
        try simp only [Act.put, List.setIfInBounds_toArray, List.set_cons_zero, List.set_cons_succ]
        refine headK_take (i := 13) (v := ?_) rfl (by kernel_rfl) (fun _ _ _ h => h) (fun _ _ _ h => passed_ready h.1) (Or.inl ⟨by rfl, ?hy13⟩) ⟨fun _ => hS0, fun _ => hS1, fun _ => hS2, trivial⟩ ?rest13
        case hy13 => intro w _; go_simp; try (with_reducible rfl)
        case rest13 =>
        try simp only [Act.put, List.setIfInBounds_toArray, List.set_cons_zero, List.set_cons_succ]
        refine headK_take (i := 14) (v := ?_) rfl (by kernel_rfl) (fun _ _ _ h => h) (fun _ _ _ h => passed_ready h.1) (Or.inl ⟨by rfl, ?hy14⟩) ⟨fun _ => hS0, fun _ => hS1, fun _ => hS2, trivial⟩ ?rest14
        case hy14 => intro w _; go_simp; try (with_reducible rfl)
        case rest14 =>
        try simp only [Act.put, List.setIfInBounds_toArray, List.set_cons_zero, List.set_cons_succ]
        refine headK_take (i := 15) (v := ?_) rfl (by kernel_rfl) (fun _ _ _ h => h) (fun _ _ _ h => passed_ready h.1) (Or.inl ⟨by rfl, ?hy15⟩) ⟨fun _ => hS0, fun _ => hS1, fun _ => hS2, trivial⟩ ?rest15
        case hy15 => intro w _; go_simp; try (with_reducible rfl)
        case rest15 =>
        try simp only [Act.put, List.setIfInBounds_toArray, List.set_cons_zero, List.set_cons_succ]
        refine headK_one (i := 1) (by kernel_rfl) rfl (fun K hK => ?_)
        go_simp
        refine (HFa.out _ H1.out.drew).mono ?_
        rintro e1 x1 ⟨A3, d3, rfl, q1, q2, q3, q4, q5, hb⟩
        have P0 := Lib.hid (Q0.out.drew.keep hb)
        have P1 := Lib.hid (Q1.out.drew.keep hb)
        have P2 := Lib.hid (Q2.out.drew.keep hb)
        have PB := Lib.hid (chain HB.out.drew hb)
        have PA := Lib.hid q1
        have N1 := Lib.hid (And.intro q2 (And.intro q3 q4))
        have F1 := Lib.hid (show ∀ b off, A3 = some ⟨b, off, none⟩ → W.heap.size + 3 ≤ b from fun b off h => by have h9 := q5 b off h; have h8 := SZ.out; exact h8 ▸ h9)
        clear hb q1 q2 q3 q4 q5 hS0 hS1 hS2
        obtain ⟨u0, u1, u2, u3, i0, i1, i2, i3⟩ := P0.out.four
        obtain ⟨n0, n1, p0, p1⟩ := P1.out.two
        obtain ⟨n2, n3, p2, p3⟩ := P2.out.two
        have hS0 := (show (fun (w' : World) => w'.cell? ⟨W.heap.size, 0, none⟩ = some (.int .i64 k) ∧ w'.cell? ⟨W.heap.size, 1, none⟩ = some (.int .i64 s) ∧ w'.cell? ⟨W.heap.size, 2, none⟩ = some (.int .i64 c) ∧ w'.cell? ⟨W.heap.size, 3, none⟩ = some (.slice A1 l1 d1)) x1 from ⟨u0, u1, u2, u3⟩)
        have hS1 := (show (fun (w' : World) => w'.cell? ⟨W.heap.size + 1, 1, none⟩ = some (.string dt)) x1 from n1)
        have hS2 := (show (fun (w' : World) => w'.cell? ⟨W.heap.size + 2, 1, none⟩ = some (.string dy)) x1 from n3)
        refine hK.out _ _ ⟨fun _ => hS0, fun _ => hS1, fun _ => hS2, trivial⟩ ?_
        clear hK K
        try simp only [Act.put, List.setIfInBounds_toArray, List.set_cons_zero, List.set_cons_succ]
        refine headK_one (i := 16) (by kernel_rfl) rfl (fun K hK => ?_)
        go_simp
        have hS1 := (show (fun (w' : World) => w'.cell? ⟨W.heap.size + 1, 1, none⟩ = some (.string dt)) _ from (P1.out.farG (g' := W.heap.size) (by omega) (.int .i64 k) (.int .i64 s) (.int .i64 c) (.slice A3 fs.length d3)).cell 1)
        have hS2 := (show (fun (w' : World) => w'.cell? ⟨W.heap.size + 2, 1, none⟩ = some (.string dy)) _ from (P2.out.farG (g' := W.heap.size) (by omega) (.int .i64 k) (.int .i64 s) (.int .i64 c) (.slice A3 fs.length d3)).cell 1)
        refine hK.out _ _ ⟨fun h => Bool.noConfusion (show true = false from h), fun _ => hS1, fun _ => hS2, trivial⟩ ?_
        clear hK K
        try simp only [Act.put, List.setIfInBounds_toArray, List.set_cons_zero, List.set_cons_succ]
        refine headK_take (i := 17) (v := ?_) rfl (by kernel_rfl) (fun _ _ _ h => h) (fun _ _ _ h => passed_ready h.1) (Or.inl ⟨by rfl, ?hy16⟩) ⟨fun h => Bool.noConfusion (show true = false from h), fun _ => hS1, fun _ => hS2, trivial⟩ ?rest16
        case hy16 => intro w _; go_simp; try (with_reducible rfl)
        case rest16 =>
        try simp only [Act.put, List.setIfInBounds_toArray, List.set_cons_zero, List.set_cons_succ]
        refine headK_one (i := 18) (by kernel_rfl) rfl (fun K hK => ?_)
        go_simp
        have hS2 := (show (fun (w' : World) => w'.cell? ⟨W.heap.size + 2, 1, none⟩ = some (.string dy)) _ from ((P2.out.farG (g' := W.heap.size) (by omega) (.int .i64 k) (.int .i64 s) (.int .i64 c) (.slice A3 fs.length d3)).far (p := ⟨W.heap.size + 1, 1, none⟩) (by show W.heap.size + 2 ≠ W.heap.size + 1; omega) (.string dt)).cell 1)
        refine hK.out _ _ ⟨fun h => Bool.noConfusion (show true = false from h), fun h => Bool.noConfusion (show true = false from h), fun _ => hS2, trivial⟩ ?_
        clear hK K
        try simp only [Act.put, List.setIfInBounds_toArray, List.set_cons_zero, List.set_cons_succ]
        refine headK_take (i := 19) (v := ?_) rfl (by kernel_rfl) (fun _ _ _ h => h) (fun _ _ _ h => passed_ready h.1) (Or.inl ⟨by rfl, ?hy17⟩) ⟨fun h => Bool.noConfusion (show true = false from h), fun h => Bool.noConfusion (show true = false from h), fun _ => hS2, trivial⟩ ?rest17
        case hy17 => intro w _; go_simp; try (with_reducible rfl)
        case rest17 =>
        try simp only [Act.put, List.setIfInBounds_toArray, List.set_cons_zero, List.set_cons_succ]
        refine headK_one (i := 20) (by kernel_rfl) rfl (fun K hK => ?_)
        go_simp
        refine hK.out _ _ ⟨fun h => Bool.noConfusion (show true = false from h), fun h => Bool.noConfusion (show true = false from h), fun h => Bool.noConfusion (show true = false from h), trivial⟩ ?_
        clear hK K
        try simp only [Act.put, List.setIfInBounds_toArray, List.set_cons_zero, List.set_cons_succ]
        refine ⟨by kernel_rfl, ?_⟩
        refine wpAny_done (by kernel_rfl) ?_ _
        go_wp2_with fail
        go_meet
        obtain ⟨e1, e2, e3, e4, e5⟩ := cut_trip P0.out P1.out P2.out PA.out F1.out PB.out
        exact ⟨A3, d3, e1, e2, e3, e4, N1.out.1, N1.out.2.1, N1.out.2.2, e5⟩
      · have hec := HD2.out (by omega)
        have he1 : (66 : Int) < dy.size := by omega
        have he3 : (66 : Int) ≤ dy.size := by omega
        have hem : min (dy.size : Int) 66 = 66 := by omega
        subst hec
        refine wp_heldK_bar [(16, fun (w' : World) => w'.cell? ⟨W.heap.size, 0, none⟩ = some (.int .i64 k) ∧ w'.cell? ⟨W.heap.size, 1, none⟩ = some (.int .i64 s) ∧ w'.cell? ⟨W.heap.size, 2, none⟩ = some (.int .i64 c) ∧ w'.cell? ⟨W.heap.size, 3, none⟩ = some (.slice A1 l1 d1)), (18, fun (w' : World) => w'.cell? ⟨W.heap.size + 1, 1, none⟩ = some (.string dt)), (20, fun (w' : World) => w'.cell? ⟨W.heap.size + 2, 1, none⟩ = some (.string dy))] 21 (by kernel_rfl) (by decide) ?_
        have hS0 := (show (fun (w' : World) => w'.cell? ⟨W.heap.size, 0, none⟩ = some (.int .i64 k) ∧ w'.cell? ⟨W.heap.size, 1, none⟩ = some (.int .i64 s) ∧ w'.cell? ⟨W.heap.size, 2, none⟩ = some (.int .i64 c) ∧ w'.cell? ⟨W.heap.size, 3, none⟩ = some (.slice A1 l1 d1)) (World.drew (eoW #[.int .i64 k, .int .i64 s, .int .i64 c, .slice A1 l1 d1] #[.int .u64 (id : Int), .string dt] #[.int .u64 (id2 : Int), .string dy] W)) from ⟨r0, r1, r2, r3⟩)
        have hS1 := (show (fun (w' : World) => w'.cell? ⟨W.heap.size + 1, 1, none⟩ = some (.string dt)) (World.drew (eoW #[.int .i64 k, .int .i64 s, .int .i64 c, .slice A1 l1 d1] #[.int .u64 (id : Int), .string dt] #[.int .u64 (id2 : Int), .string dy] W)) from v1)
        have hS2 := (show (fun (w' : World) => w'.cell? ⟨W.heap.size + 2, 1, none⟩ = some (.string dy)) (World.drew (eoW #[.int .i64 k, .int .i64 s, .int .i64 c, .slice A1 l1 d1] #[.int .u64 (id : Int), .string dt] #[.int .u64 (id2 : Int), .string dy] W)) from o1)
        refine headK_load 0 16 _ rfl (i := 0) (v := ?_) rfl (by kernel_rfl) (fun _ _ _ h => h) (fun _ _ _ h => passed_ready h.1) (Or.inl ⟨by rfl, ?hy18⟩) ⟨fun _ => hS0, fun _ => hS1, fun _ => hS2, trivial⟩ ?rest18
        case hy18 => intro w hSw; (try dsimp only at hSw); obtain ⟨hc0, hc1, hc2, hc3⟩ := hSw; go_simp; try (with_reducible rfl)
        case rest18 =>
        try simp only [Act.put, List.setIfInBounds_toArray, List.set_cons_zero, List.set_cons_succ]
        refine headK_take (i := 2) (v := ?_) rfl (by kernel_rfl) (fun _ _ _ h => h) (fun _ _ _ h => passed_ready h.1) (Or.inl ⟨by rfl, ?hy19⟩) ⟨fun _ => hS0, fun _ => hS1, fun _ => hS2, trivial⟩ ?rest19
        case hy19 => intro w _; go_simp; try (with_reducible rfl)
        case rest19 =>
        try simp only [Act.put, List.setIfInBounds_toArray, List.set_cons_zero, List.set_cons_succ]
        refine headK_load 1 18 _ rfl (i := 3) (v := ?_) rfl (by kernel_rfl) (fun _ _ _ h => h) (fun _ _ _ h => passed_ready h.1) (Or.inl ⟨by rfl, ?hy20⟩) ⟨fun _ => hS0, fun _ => hS1, fun _ => hS2, trivial⟩ ?rest20
        case hy20 => intro w hSw; (try dsimp only at hSw); go_simp; try (with_reducible rfl)
        case rest20 =>
        try simp only [Act.put, List.setIfInBounds_toArray, List.set_cons_zero, List.set_cons_succ]
        refine headK_take (i := 4) (v := ?_) rfl (by kernel_rfl) (fun _ _ _ h => h) (fun _ _ _ h => passed_ready h.1) (Or.inl ⟨by rfl, ?hy21⟩) ⟨fun _ => hS0, fun _ => hS1, fun _ => hS2, trivial⟩ ?rest21
        case hy21 => intro w _; go_simp; try (with_reducible rfl)
        case rest21 =>
        try simp only [Act.put, List.setIfInBounds_toArray, List.set_cons_zero, List.set_cons_succ]
        refine headK_load 1 18 _ rfl (i := 5) (v := ?_) rfl (by kernel_rfl) (fun _ _ _ h => h) (fun _ _ _ h => passed_ready h.1) (Or.inl ⟨by rfl, ?hy22⟩) ⟨fun _ => hS0, fun _ => hS1, fun _ => hS2, trivial⟩ ?rest22
        case hy22 => intro w hSw; (try dsimp only at hSw); go_simp; try (with_reducible rfl)
        case rest22 =>
        try simp only [Act.put, List.setIfInBounds_toArray, List.set_cons_zero, List.set_cons_succ]
        refine headK_take (i := 6) (v := ?_) rfl (by kernel_rfl) (fun _ _ _ h => h) (fun _ _ _ h => passed_ready h.1) (Or.inl ⟨by rfl, ?hy23⟩) ⟨fun _ => hS0, fun _ => hS1, fun _ => hS2, trivial⟩ ?rest23
        case hy23 => intro w _; go_simp; try (with_reducible rfl)
        case rest23 =>
        try simp only [Act.put, List.setIfInBounds_toArray, List.set_cons_zero, List.set_cons_succ]
        refine headK_take (i := 7) (v := ?_) rfl (by kernel_rfl) (fun _ _ _ h => h) (fun _ _ _ h => passed_ready h.1) (Or.inl ⟨by rfl, ?hy24⟩) ⟨fun _ => hS0, fun _ => hS1, fun _ => hS2, trivial⟩ ?rest24
        case hy24 => intro w _; go_simp; try (with_reducible rfl)
        case rest24 =>
        try simp only [Act.put, List.setIfInBounds_toArray, List.set_cons_zero, List.set_cons_succ]
        refine headK_take (i := 8) (v := ?_) rfl (by kernel_rfl) (fun _ _ _ h => h) (fun _ _ _ h => passed_ready h.1) (Or.inl ⟨by rfl, ?hy25⟩) ⟨fun _ => hS0, fun _ => hS1, fun _ => hS2, trivial⟩ ?rest25
        case hy25 => intro w _; go_simp; try (with_reducible rfl)
        case rest25 =>
        try simp only [Act.put, List.setIfInBounds_toArray, List.set_cons_zero, List.set_cons_succ]
        refine headK_take (i := 9) (v := ?_) rfl (by kernel_rfl) (fun _ _ _ h => h) (fun _ _ _ h => passed_ready h.1) (Or.inl ⟨by rfl, ?hy26⟩) ⟨fun _ => hS0, fun _ => hS1, fun _ => hS2, trivial⟩ ?rest26
        case hy26 => intro w _; go_simp; try (with_reducible rfl)
        case rest26 =>
        try simp only [Act.put, List.setIfInBounds_toArray, List.set_cons_zero, List.set_cons_succ]
        refine headK_load 2 20 _ rfl (i := 10) (v := ?_) rfl (by kernel_rfl) (fun _ _ _ h => h) (fun _ _ _ h => passed_ready h.1) (Or.inl ⟨by rfl, ?hy27⟩) ⟨fun _ => hS0, fun _ => hS1, fun _ => hS2, trivial⟩ ?rest27
        case hy27 => intro w hSw; (try dsimp only at hSw); go_simp; try (with_reducible rfl)
        case rest27 =>
        try simp only [Act.put, List.setIfInBounds_toArray, List.set_cons_zero, List.set_cons_succ]
        refine headK_take (i := 11) (v := ?_) rfl (by kernel_rfl) (fun _ _ _ h => h) (fun _ _ _ h => passed_ready h.1) (Or.inl ⟨by rfl, ?hy28⟩) ⟨fun _ => hS0, fun _ => hS1, fun _ => hS2, trivial⟩ ?rest28
        case hy28 => intro w _; go_simp; try (with_reducible rfl)
        case rest28 =>
        try simp only [Act.put, List.setIfInBounds_toArray, List.set_cons_zero, List.set_cons_succ]
        refine headK_load 2 20 _ rfl (i := 12) (v := ?_) rfl (by kernel_rfl) (fun _ _ _ h => h) (fun _ _ _ h => passed_ready h.1) (Or.inl ⟨by rfl, ?hy29⟩) ⟨fun _ => hS0, fun _ => hS1, fun _ => hS2, trivial⟩ ?rest29
        case hy29 => intro w hSw; (try dsimp only at hSw); go_simp; try (with_reducible rfl)
        case rest29 =>
        try simp only [Act.put, List.setIfInBounds_toArray, List.set_cons_zero, List.set_cons_succ]
        refine headK_take (i := 13) (v := ?_) rfl (by kernel_rfl) (fun _ _ _ h => h) (fun _ _ _ h => passed_ready h.1) (Or.inl ⟨by rfl, ?hy30⟩) ⟨fun _ => hS0, fun _ => hS1, fun _ => hS2, trivial⟩ ?rest30
        case hy30 => intro w _; go_simp; try (with_reducible rfl)
        case rest30 =>
        try simp only [Act.put, List.setIfInBounds_toArray, List.set_cons_zero, List.set_cons_succ]
        refine headK_take (i := 14) (v := ?_) rfl (by kernel_rfl) (fun _ _ _ h => h) (fun _ _ _ h => passed_ready h.1) (Or.inl ⟨by rfl, ?hy31⟩) ⟨fun _ => hS0, fun _ => hS1, fun _ => hS2, trivial⟩ ?rest31
        case hy31 => intro w _; go_simp; try (with_reducible rfl)
        case rest31 =>
        try simp only [Act.put, List.setIfInBounds_toArray, List.set_cons_zero, List.set_cons_succ]
        refine headK_take (i := 15) (v := ?_) rfl (by kernel_rfl) (fun _ _ _ h => h) (fun _ _ _ h => passed_ready h.1) (Or.inl ⟨by rfl, ?hy32⟩) ⟨fun _ => hS0, fun _ => hS1, fun _ => hS2, trivial⟩ ?rest32
        case hy32 => intro w _; go_simp; try (with_reducible rfl)
        case rest32 =>
        try simp only [Act.put, List.setIfInBounds_toArray, List.set_cons_zero, List.set_cons_succ]
        refine headK_one (i := 1) (by kernel_rfl) rfl (fun K hK => ?_)
        go_simp
        refine (HFa.out _ H1.out.drew).mono ?_
        rintro e1 x1 ⟨A3, d3, rfl, q1, q2, q3, q4, q5, hb⟩
        have P0 := Lib.hid (Q0.out.drew.keep hb)
        have P1 := Lib.hid (Q1.out.drew.keep hb)
        have P2 := Lib.hid (Q2.out.drew.keep hb)
        have PB := Lib.hid (chain HB.out.drew hb)
        have PA := Lib.hid q1
        have N1 := Lib.hid (And.intro q2 (And.intro q3 q4))
        have F1 := Lib.hid (show ∀ b off, A3 = some ⟨b, off, none⟩ → W.heap.size + 3 ≤ b from fun b off h => by have h9 := q5 b off h; have h8 := SZ.out; exact h8 ▸ h9)
        clear hb q1 q2 q3 q4 q5 hS0 hS1 hS2
        obtain ⟨u0, u1, u2, u3, i0, i1, i2, i3⟩ := P0.out.four
        obtain ⟨n0, n1, p0, p1⟩ := P1.out.two
        obtain ⟨n2, n3, p2, p3⟩ := P2.out.two
        have hS0 := (show (fun (w' : World) => w'.cell? ⟨W.heap.size, 0, none⟩ = some (.int .i64 k) ∧ w'.cell? ⟨W.heap.size, 1, none⟩ = some (.int .i64 s) ∧ w'.cell? ⟨W.heap.size, 2, none⟩ = some (.int .i64 c) ∧ w'.cell? ⟨W.heap.size, 3, none⟩ = some (.slice A1 l1 d1)) x1 from ⟨u0, u1, u2, u3⟩)
        have hS1 := (show (fun (w' : World) => w'.cell? ⟨W.heap.size + 1, 1, none⟩ = some (.string dt)) x1 from n1)
        have hS2 := (show (fun (w' : World) => w'.cell? ⟨W.heap.size + 2, 1, none⟩ = some (.string dy)) x1 from n3)
        refine hK.out _ _ ⟨fun _ => hS0, fun _ => hS1, fun _ => hS2, trivial⟩ ?_
        clear hK K
        try simp only [Act.put, List.setIfInBounds_toArray, List.set_cons_zero, List.set_cons_succ]
        refine headK_one (i := 16) (by kernel_rfl) rfl (fun K hK => ?_)
        go_simp
        have hS1 := (show (fun (w' : World) => w'.cell? ⟨W.heap.size + 1, 1, none⟩ = some (.string dt)) _ from (P1.out.farG (g' := W.heap.size) (by omega) (.int .i64 k) (.int .i64 s) (.int .i64 c) (.slice A3 fs.length d3)).cell 1)
        have hS2 := (show (fun (w' : World) => w'.cell? ⟨W.heap.size + 2, 1, none⟩ = some (.string dy)) _ from (P2.out.farG (g' := W.heap.size) (by omega) (.int .i64 k) (.int .i64 s) (.int .i64 c) (.slice A3 fs.length d3)).cell 1)
        refine hK.out _ _ ⟨fun h => Bool.noConfusion (show true = false from h), fun _ => hS1, fun _ => hS2, trivial⟩ ?_
        clear hK K
        try simp only [Act.put, List.setIfInBounds_toArray, List.set_cons_zero, List.set_cons_succ]
        refine headK_take (i := 17) (v := ?_) rfl (by kernel_rfl) (fun _ _ _ h => h) (fun _ _ _ h => passed_ready h.1) (Or.inl ⟨by rfl, ?hy33⟩) ⟨fun h => Bool.noConfusion (show true = false from h), fun _ => hS1, fun _ => hS2, trivial⟩ ?rest33
        case hy33 => intro w _; go_simp; try (with_reducible rfl)
        case rest33 =>
        try simp only [Act.put, List.setIfInBounds_toArray, List.set_cons_zero, List.set_cons_succ]
        refine headK_one (i := 18) (by kernel_rfl) rfl (fun K hK => ?_)
        go_simp
        have hS2 := (show (fun (w' : World) => w'.cell? ⟨W.heap.size + 2, 1, none⟩ = some (.string dy)) _ from ((P2.out.farG (g' := W.heap.size) (by omega) (.int .i64 k) (.int .i64 s) (.int .i64 c) (.slice A3 fs.length d3)).far (p := ⟨W.heap.size + 1, 1, none⟩) (by show W.heap.size + 2 ≠ W.heap.size + 1; omega) (.string dt)).cell 1)
        refine hK.out _ _ ⟨fun h => Bool.noConfusion (show true = false from h), fun h => Bool.noConfusion (show true = false from h), fun _ => hS2, trivial⟩ ?_
        clear hK K
        try simp only [Act.put, List.setIfInBounds_toArray, List.set_cons_zero, List.set_cons_succ]
        refine headK_take (i := 19) (v := ?_) rfl (by kernel_rfl) (fun _ _ _ h => h) (fun _ _ _ h => passed_ready h.1) (Or.inl ⟨by rfl, ?hy34⟩) ⟨fun h => Bool.noConfusion (show true = false from h), fun h => Bool.noConfusion (show true = false from h), fun _ => hS2, trivial⟩ ?rest34
        case hy34 => intro w _; go_simp; try (with_reducible rfl)
        case rest34 =>
        try simp only [Act.put, List.setIfInBounds_toArray, List.set_cons_zero, List.set_cons_succ]
        refine headK_one (i := 20) (by kernel_rfl) rfl (fun K hK => ?_)
        go_simp
        refine hK.out _ _ ⟨fun h => Bool.noConfusion (show true = false from h), fun h => Bool.noConfusion (show true = false from h), fun h => Bool.noConfusion (show true = false from h), trivial⟩ ?_
        clear hK K
        try simp only [Act.put, List.setIfInBounds_toArray, List.set_cons_zero, List.set_cons_succ]
        refine ⟨by kernel_rfl, ?_⟩
        refine wpAny_done (by kernel_rfl) ?_ _
        go_wp2_with fail
        go_meet
        obtain ⟨e1, e2, e3, e4, e5⟩ := cut_trip P0.out P1.out P2.out PA.out F1.out PB.out
        exact ⟨A3, d3, e1, e2, e3, e4, N1.out.1, N1.out.2.1, N1.out.2.2, e5⟩
    · have hdc := HC2.out (by omega)
      have hd1 : (66 : Int) < dt.size := by omega
      have hd3 : (66 : Int) ≤ dt.size := by omega
      have hdm : min (dt.size : Int) 66 = 66 := by omega
      subst hdc
      by_cases he : dy.size ≤ 66
      · have hec := (HD1.out he).symm
        have he1 : (dy.size : Int) ≤ 66 := by omega
        have he2 : ¬ (66 : Int) < dy.size := by omega
        have hem : min (dy.size : Int) 66 = (dy.size : Int) := by omega
        subst hec
        refine wp_heldK_bar [(16, fun (w' : World) => w'.cell? ⟨W.heap.size, 0, none⟩ = some (.int .i64 k) ∧ w'.cell? ⟨W.heap.size, 1, none⟩ = some (.int .i64 s) ∧ w'.cell? ⟨W.heap.size, 2, none⟩ = some (.int .i64 c) ∧ w'.cell? ⟨W.heap.size, 3, none⟩ = some (.slice A1 l1 d1)), (18, fun (w' : World) => w'.cell? ⟨W.heap.size + 1, 1, none⟩ = some (.string dt)), (20, fun (w' : World) => w'.cell? ⟨W.heap.size + 2, 1, none⟩ = some (.string dy))] 21 (by kernel_rfl) (by decide) ?_
        have hS0 := (show (fun (w' : World) => w'.cell? ⟨W.heap.size, 0, none⟩ = some (.int .i64 k) ∧ w'.cell? ⟨W.heap.size, 1, none⟩ = some (.int .i64 s) ∧ w'.cell? ⟨W.heap.size, 2, none⟩ = some (.int .i64 c) ∧ w'.cell? ⟨W.heap.size, 3, none⟩ = some (.slice A1 l1 d1)) (World.drew (eoW #[.int .i64 k, .int .i64 s, .int .i64 c, .slice A1 l1 d1] #[.int .u64 (id : Int), .string dt] #[.int .u64 (id2 : Int), .string dy] W)) from ⟨r0, r1, r2, r3⟩)
        have hS1 := (show (fun (w' : World) => w'.cell? ⟨W.heap.size + 1, 1, none⟩ = some (.string dt)) (World.drew (eoW #[.int .i64 k, .int .i64 s, .int .i64 c, .slice A1 l1 d1] #[.int .u64 (id : Int), .string dt] #[.int .u64 (id2 : Int), .string dy] W)) from v1)
        have hS2 := (show (fun (w' : World) => w'.cell? ⟨W.heap.size + 2, 1, none⟩ = some (.string dy)) (World.drew (eoW #[.int .i64 k, .int .i64 s, .int .i64 c, .slice A1 l1 d1] #[.int .u64 (id : Int), .string dt] #[.int .u64 (id2 : Int), .string dy] W)) from o1)
        refine headK_load 0 16 _ rfl (i := 0) (v := ?_) rfl (by kernel_rfl) (fun _ _ _ h => h) (fun _ _ _ h => passed_ready h.1) (Or.inl ⟨by rfl, ?hy35⟩) ⟨fun _ => hS0, fun _ => hS1, fun _ => hS2, trivial⟩ ?rest35
        case hy35 => intro w hSw; (try dsimp only at hSw); obtain ⟨hc0, hc1, hc2, hc3⟩ := hSw; go_simp; try (with_reducible rfl)
        case rest35 =>
        try simp only [Act.put, List.setIfInBounds_toArray, List.set_cons_zero, List.set_cons_succ]
        refine headK_take (i := 2) (v := ?_) rfl (by kernel_rfl) (fun _ _ _ h => h) (fun _ _ _ h => passed_ready h.1) (Or.inl ⟨by rfl, ?hy36⟩) ⟨fun _ => hS0, fun _ => hS1, fun _ => hS2, trivial⟩ ?rest36
        case hy36 => intro w _; go_simp; try (with_reducible rfl)
        case rest36 =>
        try simp only [Act.put, List.setIfInBounds_toArray, List.set_cons_zero, List.set_cons_succ]
        refine headK_load 1 18 _ rfl (i := 3) (v := ?_) rfl (by kernel_rfl) (fun _ _ _ h => h) (fun _ _ _ h => passed_ready h.1) (Or.inl ⟨by rfl, ?hy37⟩) ⟨fun _ => hS0, fun _ => hS1, fun _ => hS2, trivial⟩ ?rest37
        case hy37 => intro w hSw; (try dsimp only at hSw); go_simp; try (with_reducible rfl)
        case rest37 =>
        try simp only [Act.put, List.setIfInBounds_toArray, List.set_cons_zero, List.set_cons_succ]
        refine headK_take (i := 4) (v := ?_) rfl (by kernel_rfl) (fun _ _ _ h => h) (fun _ _ _ h => passed_ready h.1) (Or.inl ⟨by rfl, ?hy38⟩) ⟨fun _ => hS0, fun _ => hS1, fun _ => hS2, trivial⟩ ?rest38
        case hy38 => intro w _; go_simp; try (with_reducible rfl)
        case rest38 =>
        try simp only [Act.put, List.setIfInBounds_toArray, List.set_cons_zero, List.set_cons_succ]
        refine headK_load 1 18 _ rfl (i := 5) (v := ?_) rfl (by kernel_rfl) (fun _ _ _ h => h) (fun _ _ _ h => passed_ready h.1) (Or.inl ⟨by rfl, ?hy39⟩) ⟨fun _ => hS0, fun _ => hS1, fun _ => hS2, trivial⟩ ?rest39
        case hy39 => intro w hSw; (try dsimp only at hSw); go_simp; try (with_reducible rfl)
        case rest39 =>
        try simp only [Act.put, List.setIfInBounds_toArray, List.set_cons_zero, List.set_cons_succ]
        refine headK_take (i := 6) (v := ?_) rfl (by kernel_rfl) (fun _ _ _ h => h) (fun _ _ _ h => passed_ready h.1) (Or.inl ⟨by rfl, ?hy40⟩) ⟨fun _ => hS0, fun _ => hS1, fun _ => hS2, trivial⟩ ?rest40
        case hy40 => intro w _; go_simp; try (with_reducible rfl)
        case rest40 =>
        try simp only [Act.put, List.setIfInBounds_toArray, List.set_cons_zero, List.set_cons_succ]
        refine headK_take (i := 7) (v := ?_) rfl (by kernel_rfl) (fun _ _ _ h => h) (fun _ _ _ h => passed_ready h.1) (Or.inl ⟨by rfl, ?hy41⟩) ⟨fun _ => hS0, fun _ => hS1, fun _ => hS2, trivial⟩ ?rest41
        case hy41 => intro w _; go_simp; try (with_reducible rfl)
        case rest41 =>
        try simp only [Act.put, List.setIfInBounds_toArray, List.set_cons_zero, List.set_cons_succ]
        refine headK_take (i := 8) (v := ?_) rfl (by kernel_rfl) (fun _ _ _ h => h) (fun _ _ _ h => passed_ready h.1) (Or.inl ⟨by rfl, ?hy42⟩) ⟨fun _ => hS0, fun _ => hS1, fun _ => hS2, trivial⟩ ?rest42
        case hy42 => intro w _; go_simp; try (with_reducible rfl)
        case rest42 =>
        try simp only [Act.put, List.setIfInBounds_toArray, List.set_cons_zero, List.set_cons_succ]
        refine headK_take (i := 9) (v := ?_) rfl (by kernel_rfl) (fun _ _ _ h => h) (fun _ _ _ h => passed_ready h.1) (Or.inl ⟨by rfl, ?hy43⟩) ⟨fun _ => hS0, fun _ => hS1, fun _ => hS2, trivial⟩ ?rest43
        case hy43 => intro w _; go_simp; try (with_reducible rfl)
        case rest43 =>
        try simp only [Act.put, List.setIfInBounds_toArray, List.set_cons_zero, List.set_cons_succ]
        refine headK_load 2 20 _ rfl (i := 10) (v := ?_) rfl (by kernel_rfl) (fun _ _ _ h => h) (fun _ _ _ h => passed_ready h.1) (Or.inl ⟨by rfl, ?hy44⟩) ⟨fun _ => hS0, fun _ => hS1, fun _ => hS2, trivial⟩ ?rest44
        case hy44 => intro w hSw; (try dsimp only at hSw); go_simp; try (with_reducible rfl)
        case rest44 =>
        try simp only [Act.put, List.setIfInBounds_toArray, List.set_cons_zero, List.set_cons_succ]
        refine headK_take (i := 11) (v := ?_) rfl (by kernel_rfl) (fun _ _ _ h => h) (fun _ _ _ h => passed_ready h.1) (Or.inl ⟨by rfl, ?hy45⟩) ⟨fun _ => hS0, fun _ => hS1, fun _ => hS2, trivial⟩ ?rest45
        case hy45 => intro w _; go_simp; try (with_reducible rfl)
        case rest45 =>
        try simp only [Act.put, List.setIfInBounds_toArray, List.set_cons_zero, List.set_cons_succ]
        refine headK_load 2 20 _ rfl (i := 12) (v := ?_) rfl (by kernel_rfl) (fun _ _ _ h => h) (fun _ _ _ h => passed_ready h.1) (Or.inl ⟨by rfl, ?hy46⟩) ⟨fun _ => hS0, fun _ => hS1, fun _ => hS2, trivial⟩ ?rest46
        case hy46 => intro w hSw; (try dsimp only at hSw); go_simp; try (with_reducible rfl)
        case rest46 =>
        try simp only [Act.put, List.setIfInBounds_toArray, List.set_cons_zero, List.set_cons_succ]
        refine headK_take (i := 13) (v := ?_) rfl (by kernel_rfl) (fun _ _ _ h => h) (fun _ _ _ h => passed_ready h.1) (Or.inl ⟨by rfl, ?hy47⟩) ⟨fun _ => hS0, fun _ => hS1, fun _ => hS2, trivial⟩ ?rest47
        case hy47 => intro w _; go_simp; try (with_reducible rfl)
        case rest47 =>
        try simp only [Act.put, List.setIfInBounds_toArray, List.set_cons_zero, List.set_cons_succ]
        refine headK_take (i := 14) (v := ?_) rfl (by kernel_rfl) (fun _ _ _ h => h) (fun _ _ _ h => passed_ready h.1) (Or.inl ⟨by rfl, ?hy48⟩) ⟨fun _ => hS0, fun _ => hS1, fun _ => hS2, trivial⟩ ?rest48
        case hy48 => intro w _; go_simp; try (with_reducible rfl)
        case rest48 =>
        try simp only [Act.put, List.setIfInBounds_toArray, List.set_cons_zero, List.set_cons_succ]
        refine headK_take (i := 15) (v := ?_) rfl (by kernel_rfl) (fun _ _ _ h => h) (fun _ _ _ h => passed_ready h.1) (Or.inl ⟨by rfl, ?hy49⟩) ⟨fun _ => hS0, fun _ => hS1, fun _ => hS2, trivial⟩ ?rest49
        case hy49 => intro w _; go_simp; try (with_reducible rfl)
        case rest49 =>
        try simp only [Act.put, List.setIfInBounds_toArray, List.set_cons_zero, List.set_cons_succ]
        refine headK_one (i := 1) (by kernel_rfl) rfl (fun K hK => ?_)
        go_simp
        refine (HFa.out _ H1.out.drew).mono ?_
        rintro e1 x1 ⟨A3, d3, rfl, q1, q2, q3, q4, q5, hb⟩
        have P0 := Lib.hid (Q0.out.drew.keep hb)
        have P1 := Lib.hid (Q1.out.drew.keep hb)
        have P2 := Lib.hid (Q2.out.drew.keep hb)
        have PB := Lib.hid (chain HB.out.drew hb)
        have PA := Lib.hid q1
        have N1 := Lib.hid (And.intro q2 (And.intro q3 q4))
        have F1 := Lib.hid (show ∀ b off, A3 = some ⟨b, off, none⟩ → W.heap.size + 3 ≤ b from fun b off h => by have h9 := q5 b off h; have h8 := SZ.out; exact h8 ▸ h9)
        clear hb q1 q2 q3 q4 q5 hS0 hS1 hS2
        obtain ⟨u0, u1, u2, u3, i0, i1, i2, i3⟩ := P0.out.four
        obtain ⟨n0, n1, p0, p1⟩ := P1.out.two
        obtain ⟨n2, n3, p2, p3⟩ := P2.out.two
        have hS0 := (show (fun (w' : World) => w'.cell? ⟨W.heap.size, 0, none⟩ = some (.int .i64 k) ∧ w'.cell? ⟨W.heap.size, 1, none⟩ = some (.int .i64 s) ∧ w'.cell? ⟨W.heap.size, 2, none⟩ = some (.int .i64 c) ∧ w'.cell? ⟨W.heap.size, 3, none⟩ = some (.slice A1 l1 d1)) x1 from ⟨u0, u1, u2, u3⟩)
        have hS1 := (show (fun (w' : World) => w'.cell? ⟨W.heap.size + 1, 1, none⟩ = some (.string dt)) x1 from n1)
        have hS2 := (show (fun (w' : World) => w'.cell? ⟨W.heap.size + 2, 1, none⟩ = some (.string dy)) x1 from n3)
        refine hK.out _ _ ⟨fun _ => hS0, fun _ => hS1, fun _ => hS2, trivial⟩ ?_
        clear hK K
        try simp only [Act.put, List.setIfInBounds_toArray, List.set_cons_zero, List.set_cons_succ]
        refine headK_one (i := 16) (by kernel_rfl) rfl (fun K hK => ?_)
        go_simp
        have hS1 := (show (fun (w' : World) => w'.cell? ⟨W.heap.size + 1, 1, none⟩ = some (.string dt)) _ from (P1.out.farG (g' := W.heap.size) (by omega) (.int .i64 k) (.int .i64 s) (.int .i64 c) (.slice A3 fs.length d3)).cell 1)
        have hS2 := (show (fun (w' : World) => w'.cell? ⟨W.heap.size + 2, 1, none⟩ = some (.string dy)) _ from (P2.out.farG (g' := W.heap.size) (by omega) (.int .i64 k) (.int .i64 s) (.int .i64 c) (.slice A3 fs.length d3)).cell 1)
        refine hK.out _ _ ⟨fun h => Bool.noConfusion (show true = false from h), fun _ => hS1, fun _ => hS2, trivial⟩ ?_
        clear hK K
        try simp only [Act.put, List.setIfInBounds_toArray, List.set_cons_zero, List.set_cons_succ]
        refine headK_take (i := 17) (v := ?_) rfl (by kernel_rfl) (fun _ _ _ h => h) (fun _ _ _ h => passed_ready h.1) (Or.inl ⟨by rfl, ?hy50⟩) ⟨fun h => Bool.noConfusion (show true = false from h), fun _ => hS1, fun _ => hS2, trivial⟩ ?rest50
        case hy50 => intro w _; go_simp; try (with_reducible rfl)
        case rest50 =>
        try simp only [Act.put, List.setIfInBounds_toArray, List.set_cons_zero, List.set_cons_succ]
        refine headK_one (i := 18) (by kernel_rfl) rfl (fun K hK => ?_)
        go_simp
        have hS2 := (show (fun (w' : World) => w'.cell? ⟨W.heap.size + 2, 1, none⟩ = some (.string dy)) _ from ((P2.out.farG (g' := W.heap.size) (by omega) (.int .i64 k) (.int .i64 s) (.int .i64 c) (.slice A3 fs.length d3)).far (p := ⟨W.heap.size + 1, 1, none⟩) (by show W.heap.size + 2 ≠ W.heap.size + 1; omega) (.string (dt.extract 0 66))).cell 1)
        refine hK.out _ _ ⟨fun h => Bool.noConfusion (show true = false from h), fun h => Bool.noConfusion (show true = false from h), fun _ => hS2, trivial⟩ ?_
        clear hK K
        try simp only [Act.put, List.setIfInBounds_toArray, List.set_cons_zero, List.set_cons_succ]
        refine headK_take (i := 19) (v := ?_) rfl (by kernel_rfl) (fun _ _ _ h => h) (fun _ _ _ h => passed_ready h.1) (Or.inl ⟨by rfl, ?hy51⟩) ⟨fun h => Bool.noConfusion (show true = false from h), fun h => Bool.noConfusion (show true = false from h), fun _ => hS2, trivial⟩ ?rest51
        case hy51 => intro w _; go_simp; try (with_reducible rfl)
        case rest51 =>
        try simp only [Act.put, List.setIfInBounds_toArray, List.set_cons_zero, List.set_cons_succ]
        refine headK_one (i := 20) (by kernel_rfl) rfl (fun K hK => ?_)
        go_simp
        refine hK.out _ _ ⟨fun h => Bool.noConfusion (show true = false from h), fun h => Bool.noConfusion (show true = false from h), fun h => Bool.noConfusion (show true = false from h), trivial⟩ ?_
        clear hK K
        try simp only [Act.put, List.setIfInBounds_toArray, List.set_cons_zero, List.set_cons_succ]
        refine ⟨by kernel_rfl, ?_⟩
        refine wpAny_done (by kernel_rfl) ?_ _
        go_wp2_with fail
        go_meet
        obtain ⟨e1, e2, e3, e4, e5⟩ := cut_trip P0.out P1.out P2.out PA.out F1.out PB.out
        exact ⟨A3, d3, e1, e2, e3, e4, N1.out.1, N1.out.2.1, N1.out.2.2, e5⟩
      · have hec := HD2.out (by omega)
        have he1 : (66 : Int) < dy.size := by omega
        have he3 : (66 : Int) ≤ dy.size := by omega
        have hem : min (dy.size : Int) 66 = 66 := by omega
        subst hec
        refine wp_heldK_bar [(16, fun (w' : World) => w'.cell? ⟨W.heap.size, 0, none⟩ = some (.int .i64 k) ∧ w'.cell? ⟨W.heap.size, 1, none⟩ = some (.int .i64 s) ∧ w'.cell? ⟨W.heap.size, 2, none⟩ = some (.int .i64 c) ∧ w'.cell? ⟨W.heap.size, 3, none⟩ = some (.slice A1 l1 d1)), (18, fun (w' : World) => w'.cell? ⟨W.heap.size + 1, 1, none⟩ = some (.string dt)), (20, fun (w' : World) => w'.cell? ⟨W.heap.size + 2, 1, none⟩ = some (.string dy))] 21 (by kernel_rfl) (by decide) ?_
        have hS0 := (show (fun (w' : World) => w'.cell? ⟨W.heap.size, 0, none⟩ = some (.int .i64 k) ∧ w'.cell? ⟨W.heap.size, 1, none⟩ = some (.int .i64 s) ∧ w'.cell? ⟨W.heap.size, 2, none⟩ = some (.int .i64 c) ∧ w'.cell? ⟨W.heap.size, 3, none⟩ = some (.slice A1 l1 d1)) (World.drew (eoW #[.int .i64 k, .int .i64 s, .int .i64 c, .slice A1 l1 d1] #[.int .u64 (id : Int), .string dt] #[.int .u64 (id2 : Int), .string dy] W)) from ⟨r0, r1, r2, r3⟩)
        have hS1 := (show (fun (w' : World) => w'.cell? ⟨W.heap.size + 1, 1, none⟩ = some (.string dt)) (World.drew (eoW #[.int .i64 k, .int .i64 s, .int .i64 c, .slice A1 l1 d1] #[.int .u64 (id : Int), .string dt] #[.int .u64 (id2 : Int), .string dy] W)) from v1)
        have hS2 := (show (fun (w' : World) => w'.cell? ⟨W.heap.size + 2, 1, none⟩ = some (.string dy)) (World.drew (eoW #[.int .i64 k, .int .i64 s, .int .i64 c, .slice A1 l1 d1] #[.int .u64 (id : Int), .string dt] #[.int .u64 (id2 : Int), .string dy] W)) from o1)
        refine headK_load 0 16 _ rfl (i := 0) (v := ?_) rfl (by kernel_rfl) (fun _ _ _ h => h) (fun _ _ _ h => passed_ready h.1) (Or.inl ⟨by rfl, ?hy52⟩) ⟨fun _ => hS0, fun _ => hS1, fun _ => hS2, trivial⟩ ?rest52
        case hy52 => intro w hSw; (try dsimp only at hSw); obtain ⟨hc0, hc1, hc2, hc3⟩ := hSw; go_simp; try (with_reducible rfl)
        case rest52 =>
        try simp only [Act.put, List.setIfInBounds_toArray, List.set_cons_zero, List.set_cons_succ]
        refine headK_take (i := 2) (v := ?_) rfl (by kernel_rfl) (fun _ _ _ h => h) (fun _ _ _ h => passed_ready h.1) (Or.inl ⟨by rfl, ?hy53⟩) ⟨fun _ => hS0, fun _ => hS1, fun _ => hS2, trivial⟩ ?rest53
        case hy53 => intro w _; go_simp; try (with_reducible rfl)
        case rest53 =>
        try simp only [Act.put, List.setIfInBounds_toArray, List.set_cons_zero, List.set_cons_succ]
        refine headK_load 1 18 _ rfl (i := 3) (v := ?_) rfl (by kernel_rfl) (fun _ _ _ h => h) (fun _ _ _ h => passed_ready h.1) (Or.inl ⟨by rfl, ?hy54⟩) ⟨fun _ => hS0, fun _ => hS1, fun _ => hS2, trivial⟩ ?rest54
        case hy54 => intro w hSw; (try dsimp only at hSw); go_simp; try (with_reducible rfl)
        case rest54 =>
        try simp only [Act.put, List.setIfInBounds_toArray, List.set_cons_zero, List.set_cons_succ]
        refine headK_take (i := 4) (v := ?_) rfl (by kernel_rfl) (fun _ _ _ h => h) (fun _ _ _ h => passed_ready h.1) (Or.inl ⟨by rfl, ?hy55⟩) ⟨fun _ => hS0, fun _ => hS1, fun _ => hS2, trivial⟩ ?rest55
        case hy55 => intro w _; go_simp; try (with_reducible rfl)
        case rest55 =>
        try simp only [Act.put, List.setIfInBounds_toArray, List.set_cons_zero, List.set_cons_succ]
        refine headK_load 1 18 _ rfl (i := 5) (v := ?_) rfl (by kernel_rfl) (fun _ _ _ h => h) (fun _ _ _ h => passed_ready h.1) (Or.inl ⟨by rfl, ?hy56⟩) ⟨fun _ => hS0, fun _ => hS1, fun _ => hS2, trivial⟩ ?rest56
        case hy56 => intro w hSw; (try dsimp only at hSw); go_simp; try (with_reducible rfl)
        case rest56 =>
        try simp only [Act.put, List.setIfInBounds_toArray, List.set_cons_zero, List.set_cons_succ]
        refine headK_take (i := 6) (v := ?_) rfl (by kernel_rfl) (fun _ _ _ h => h) (fun _ _ _ h => passed_ready h.1) (Or.inl ⟨by rfl, ?hy57⟩) ⟨fun _ => hS0, fun _ => hS1, fun _ => hS2, trivial⟩ ?rest57
        case hy57 => intro w _; go_simp; try (with_reducible rfl)
        case rest57 =>
        try simp only [Act.put, List.setIfInBounds_toArray, List.set_cons_zero, List.set_cons_succ]
        refine headK_take (i := 7) (v := ?_) rfl (by kernel_rfl) (fun _ _ _ h => h) (fun _ _ _ h => passed_ready h.1) (Or.inl ⟨by rfl, ?hy58⟩) ⟨fun _ => hS0, fun _ => hS1, fun _ => hS2, trivial⟩ ?rest58
        case hy58 => intro w _; go_simp; try (with_reducible rfl)
        case rest58 =>
        try simp only [Act.put, List.setIfInBounds_toArray, List.set_cons_zero, List.set_cons_succ]
        refine headK_take (i := 8) (v := ?_) rfl (by kernel_rfl) (fun _ _ _ h => h) (fun _ _ _ h => passed_ready h.1) (Or.inl ⟨by rfl, ?hy59⟩) ⟨fun _ => hS0, fun _ => hS1, fun _ => hS2, trivial⟩ ?rest59
        case hy59 => intro w _; go_simp; try (with_reducible rfl)
        case rest59 =>
        try simp only [Act.put, List.setIfInBounds_toArray, List.set_cons_zero, List.set_cons_succ]
        refine headK_take (i := 9) (v := ?_) rfl (by kernel_rfl) (fun _ _ _ h => h) (fun _ _ _ h => passed_ready h.1) (Or.inl ⟨by rfl, ?hy60⟩) ⟨fun _ => hS0, fun _ => hS1, fun _ => hS2, trivial⟩ ?rest60
        case hy60 => intro w _; go_simp; try (with_reducible rfl)
        case rest60 =>
        try simp only [Act.put, List.setIfInBounds_toArray, List.set_cons_zero, List.set_cons_succ]
        refine headK_load 2 20 _ rfl (i := 10) (v := ?_) rfl (by kernel_rfl) (fun _ _ _ h => h) (fun _ _ _ h => passed_ready h.1) (Or.inl ⟨by rfl, ?hy61⟩) ⟨fun _ => hS0, fun _ => hS1, fun _ => hS2, trivial⟩ ?rest61
        case hy61 => intro w hSw; (try dsimp only at hSw); go_simp; try (with_reducible rfl)
        case rest61 =>
        try simp only [Act.put, List.setIfInBounds_toArray, List.set_cons_zero, List.set_cons_succ]
        refine headK_take (i := 11) (v := ?_) rfl (by kernel_rfl) (fun _ _ _ h => h) (fun _ _ _ h => passed_ready h.1) (Or.inl ⟨by rfl, ?hy62⟩) ⟨fun _ => hS0, fun _ => hS1, fun _ => hS2, trivial⟩ ?rest62
        case hy62 => intro w _; go_simp; try (with_reducible rfl)
        case rest62 =>
        try simp only [Act.put, List.setIfInBounds_toArray, List.set_cons_zero, List.set_cons_succ]
        refine headK_load 2 20 _ rfl (i := 12) (v := ?_) rfl (by kernel_rfl) (fun _ _ _ h => h) (fun _ _ _ h => passed_ready h.1) (Or.inl ⟨by rfl, ?hy63⟩) ⟨fun _ => hS0, fun _ => hS1, fun _ => hS2, trivial⟩ ?rest63
        case hy63 => intro w hSw; (try dsimp only at hSw); go_simp; try (with_reducible rfl)
        case rest63 =>
        try simp only [Act.put, List.setIfInBounds_toArray, List.set_cons_zero, List.set_cons_succ]
        refine headK_take (i := 13) (v := ?_) rfl (by kernel_rfl) (fun _ _ _ h => h) (fun _ _ _ h => passed_ready h.1) (Or.inl ⟨by rfl, ?hy64⟩) ⟨fun _ => hS0, fun _ => hS1, fun _ => hS2, trivial⟩ ?rest64
        case hy64 => intro w _; go_simp; try (with_reducible rfl)
        case rest64 =>
        try simp only [Act.put, List.setIfInBounds_toArray, List.set_cons_zero, List.set_cons_succ]
        refine headK_take (i := 14) (v := ?_) rfl (by kernel_rfl) (fun _ _ _ h => h) (fun _ _ _ h => passed_ready h.1) (Or.inl ⟨by rfl, ?hy65⟩) ⟨fun _ => hS0, fun _ => hS1, fun _ => hS2, trivial⟩ ?rest65
        case hy65 => intro w _; go_simp; try (with_reducible rfl)
        case rest65 =>
        try simp only [Act.put, List.setIfInBounds_toArray, List.set_cons_zero, List.set_cons_succ]
        refine headK_take (i := 15) (v := ?_) rfl (by kernel_rfl) (fun _ _ _ h => h) (fun _ _ _ h => passed_ready h.1) (Or.inl ⟨by rfl, ?hy66⟩) ⟨fun _ => hS0, fun _ => hS1, fun _ => hS2, trivial⟩ ?rest66
        case hy66 => intro w _; go_simp; try (with_reducible rfl)
        case rest66 =>
        try simp only [Act.put, List.setIfInBounds_toArray, List.set_cons_zero, List.set_cons_succ]
        refine headK_one (i := 1) (by kernel_rfl) rfl (fun K hK => ?_)
        go_simp
        refine (HFa.out _ H1.out.drew).mono ?_
        rintro e1 x1 ⟨A3, d3, rfl, q1, q2, q3, q4, q5, hb⟩
        have P0 := Lib.hid (Q0.out.drew.keep hb)
        have P1 := Lib.hid (Q1.out.drew.keep hb)
        have P2 := Lib.hid (Q2.out.drew.keep hb)
        have PB := Lib.hid (chain HB.out.drew hb)
        have PA := Lib.hid q1
        have N1 := Lib.hid (And.intro q2 (And.intro q3 q4))
        have F1 := Lib.hid (show ∀ b off, A3 = some ⟨b, off, none⟩ → W.heap.size + 3 ≤ b from fun b off h => by have h9 := q5 b off h; have h8 := SZ.out; exact h8 ▸ h9)
        clear hb q1 q2 q3 q4 q5 hS0 hS1 hS2
        obtain ⟨u0, u1, u2, u3, i0, i1, i2, i3⟩ := P0.out.four
        obtain ⟨n0, n1, p0, p1⟩ := P1.out.two
        obtain ⟨n2, n3, p2, p3⟩ := P2.out.two
        have hS0 := (show (fun (w' : World) => w'.cell? ⟨W.heap.size, 0, none⟩ = some (.int .i64 k) ∧ w'.cell? ⟨W.heap.size, 1, none⟩ = some (.int .i64 s) ∧ w'.cell? ⟨W.heap.size, 2, none⟩ = some (.int .i64 c) ∧ w'.cell? ⟨W.heap.size, 3, none⟩ = some (.slice A1 l1 d1)) x1 from ⟨u0, u1, u2, u3⟩)
        have hS1 := (show (fun (w' : World) => w'.cell? ⟨W.heap.size + 1, 1, none⟩ = some (.string dt)) x1 from n1)
        have hS2 := (show (fun (w' : World) => w'.cell? ⟨W.heap.size + 2, 1, none⟩ = some (.string dy)) x1 from n3)
        refine hK.out _ _ ⟨fun _ => hS0, fun _ => hS1, fun _ => hS2, trivial⟩ ?_
        clear hK K
        try simp only [Act.put, List.setIfInBounds_toArray, List.set_cons_zero, List.set_cons_succ]
        refine headK_one (i := 16) (by kernel_rfl) rfl (fun K hK => ?_)
        go_simp
        have hS1 := (show (fun (w' : World) => w'.cell? ⟨W.heap.size + 1, 1, none⟩ = some (.string dt)) _ from (P1.out.farG (g' := W.heap.size) (by omega) (.int .i64 k) (.int .i64 s) (.int .i64 c) (.slice A3 fs.length d3)).cell 1)
        have hS2 := (show (fun (w' : World) => w'.cell? ⟨W.heap.size + 2, 1, none⟩ = some (.string dy)) _ from (P2.out.farG (g' := W.heap.size) (by omega) (.int .i64 k) (.int .i64 s) (.int .i64 c) (.slice A3 fs.length d3)).cell 1)
        refine hK.out _ _ ⟨fun h => Bool.noConfusion (show true = false from h), fun _ => hS1, fun _ => hS2, trivial⟩ ?_
        clear hK K
        try simp only [Act.put, List.setIfInBounds_toArray, List.set_cons_zero, List.set_cons_succ]
        refine headK_take (i := 17) (v := ?_) rfl (by kernel_rfl) (fun _ _ _ h => h) (fun _ _ _ h => passed_ready h.1) (Or.inl ⟨by rfl, ?hy67⟩) ⟨fun h => Bool.noConfusion (show true = false from h), fun _ => hS1, fun _ => hS2, trivial⟩ ?rest67
        case hy67 => intro w _; go_simp; try (with_reducible rfl)
        case rest67 =>
        try simp only [Act.put, List.setIfInBounds_toArray, List.set_cons_zero, List.set_cons_succ]
        refine headK_one (i := 18) (by kernel_rfl) rfl (fun K hK => ?_)
        go_simp
        have hS2 := (show (fun (w' : World) => w'.cell? ⟨W.heap.size + 2, 1, none⟩ = some (.string dy)) _ from ((P2.out.farG (g' := W.heap.size) (by omega) (.int .i64 k) (.int .i64 s) (.int .i64 c) (.slice A3 fs.length d3)).far (p := ⟨W.heap.size + 1, 1, none⟩) (by show W.heap.size + 2 ≠ W.heap.size + 1; omega) (.string (dt.extract 0 66))).cell 1)
        refine hK.out _ _ ⟨fun h => Bool.noConfusion (show true = false from h), fun h => Bool.noConfusion (show true = false from h), fun _ => hS2, trivial⟩ ?_
        clear hK K
        try simp only [Act.put, List.setIfInBounds_toArray, List.set_cons_zero, List.set_cons_succ]
        refine headK_take (i := 19) (v := ?_) rfl (by kernel_rfl) (fun _ _ _ h => h) (fun _ _ _ h => passed_ready h.1) (Or.inl ⟨by rfl, ?hy68⟩) ⟨fun h => Bool.noConfusion (show true = false from h), fun h => Bool.noConfusion (show true = false from h), fun _ => hS2, trivial⟩ ?rest68
        case hy68 => intro w _; go_simp; try (with_reducible rfl)
        case rest68 =>
        try simp only [Act.put, List.setIfInBounds_toArray, List.set_cons_zero, List.set_cons_succ]
        refine headK_one (i := 20) (by kernel_rfl) rfl (fun K hK => ?_)
        go_simp
        refine hK.out _ _ ⟨fun h => Bool.noConfusion (show true = false from h), fun h => Bool.noConfusion (show true = false from h), fun h => Bool.noConfusion (show true = false from h), trivial⟩ ?_
        clear hK K
        try simp only [Act.put, List.setIfInBounds_toArray, List.set_cons_zero, List.set_cons_succ]
        refine ⟨by kernel_rfl, ?_⟩
        refine wpAny_done (by kernel_rfl) ?_ _
        go_wp2_with fail
        go_meet
        obtain ⟨e1, e2, e3, e4, e5⟩ := cut_trip P0.out P1.out P2.out PA.out F1.out PB.out
        exact ⟨A3, d3, e1, e2, e3, e4, N1.out.1, N1.out.2.1, N1.out.2.2, e5⟩
  case rest =>
    obtain ⟨A3, d3, w0, w1, w2, ha, hl, hd, hn, hb⟩ := hcut
    clear Q0 Q1 Q2 HB SZ H1 HFa HC1 HC2 HD1 HD2 r0 r1 r2 r3 v0 v1 o0 o1
    have Q0 := Lib.hid w0
    have Q1 := Lib.hid w1
    have Q2 := Lib.hid w2
    have HA := Lib.hid ha
    have B := Lib.hid hb
    clear ha hb w0 w1 w2
    obtain ⟨r0, r1, r2, r3, -, -, -, -⟩ := Q0.out.four
    obtain ⟨v0, v1, -, -⟩ := Q1.out.two
    obtain ⟨o0, o1, -, -⟩ := Q2.out.two
    obtain ⟨er, her⟩ : ∃ er, addE k s c fs (id, ct) = er := ⟨_, rfl⟩
    obtain ⟨fr, hfr⟩ : ∃ fr, addE k s c fs (id2, cy) = fr := ⟨_, rfl⟩
    go_wp2_with fail
    by_cases h0 : er = 0
    · subst h0
      refine (eadd_good k s c A3 fs.length d3 fs (id, ct) _ HA.out hl hd hn her).mono ?_
      rintro e x1 ⟨A6, d6, rfl, q5, hl6, hd6, hn6, hb⟩
      clear r0 r1 r2 r3 v0 v1 o0 o1
      have N6 := Lib.hid (q5)
      replace Q0 := Lib.hid (Q0.out.keep hb)
      replace Q1 := Lib.hid (Q1.out.keep hb)
      replace Q2 := Lib.hid (Q2.out.keep hb)
      replace HA := Lib.hid (HA.out.below hb)
      replace B := Lib.hid (chain B.out hb)
      clear hb
      clear q5
      have hal : Below x1.heap.size x1 (x1.alloc (.cells #[.int .i64 k, .int .i64 s, .int .i64 c, .slice A6 (fs.length + 1) d6] 24)) := (Below.refl _ _).alloc (Nat.le_refl _) _
      replace Q0 := Lib.hid (Q0.out.keep hal)
      replace Q1 := Lib.hid (Q1.out.keep hal)
      replace Q2 := Lib.hid (Q2.out.keep hal)
      replace HA := Lib.hid (HA.out.below hal)
      replace N6 := Lib.hid (N6.out.below hal)
      replace B := Lib.hid (chain B.out hal)
      have Q4 := Lib.hid (Box.new x1 24 #[.int .i64 k, .int .i64 s, .int .i64 c, .slice A6 (fs.length + 1) d6])
      clear hal
      obtain ⟨r0, r1, r2, r3, -, -, -, -⟩ := Q0.out.four
      obtain ⟨v0, v1, -, -⟩ := Q1.out.two
      obtain ⟨o0, o1, -, -⟩ := Q2.out.two
      obtain ⟨m0, m1, m2, m3, -, -, -, -⟩ := Q4.out.four
      go_wp2_with fail
      by_cases h1 : fr = 0
      · subst h1
        refine (eadd_good k s c A3 fs.length d3 fs (id2, cy) _ HA.out hl hd hn hfr).mono ?_
        rintro e x2 ⟨A7, d7, rfl, q5, hl7, hd7, hn7, hb⟩
        clear r0 r1 r2 r3 v0 v1 o0 o1 m0 m1 m2 m3
        have N7 := Lib.hid (q5)
        replace Q0 := Lib.hid (Q0.out.keep hb)
        replace Q1 := Lib.hid (Q1.out.keep hb)
        replace Q2 := Lib.hid (Q2.out.keep hb)
        replace HA := Lib.hid (HA.out.below hb)
        replace N6 := Lib.hid (N6.out.below hb)
        replace Q4 := Lib.hid (Q4.out.keep hb)
        replace B := Lib.hid (chain B.out hb)
        clear hb
        clear q5
        have hal : Below x2.heap.size x2 (x2.alloc (.cells #[.int .i64 k, .int .i64 s, .int .i64 c, .slice A7 (fs.length + 1) d7] 24)) := (Below.refl _ _).alloc (Nat.le_refl _) _
        replace Q0 := Lib.hid (Q0.out.keep hal)
        replace Q1 := Lib.hid (Q1.out.keep hal)
        replace Q2 := Lib.hid (Q2.out.keep hal)
        replace HA := Lib.hid (HA.out.below hal)
        replace N6 := Lib.hid (N6.out.below hal)
        replace Q4 := Lib.hid (Q4.out.keep hal)
        replace N7 := Lib.hid (N7.out.below hal)
        replace B := Lib.hid (chain B.out hal)
        have Q5 := Lib.hid (Box.new x2 24 #[.int .i64 k, .int .i64 s, .int .i64 c, .slice A7 (fs.length + 1) d7])
        clear hal
        obtain ⟨r0, r1, r2, r3, -, -, -, -⟩ := Q0.out.four
        obtain ⟨v0, v1, -, -⟩ := Q1.out.two
        obtain ⟨o0, o1, -, -⟩ := Q2.out.two
        obtain ⟨m0, m1, m2, m3, -, -, -, -⟩ := Q4.out.four
        obtain ⟨n0, n1, n2, n3, -, -, -, -⟩ := Q5.out.four
        go_wp2_with fail
        have hg := addE_two her hfr
        have hh := addE_two hfr her
        have hsa := storeB_grow her
        have hsb := storeB_grow hfr
        dsimp only at hg hh
        by_cases hq : id = id2
        · rw [if_pos hq] at hg
          rw [if_pos hq.symm] at hh
          subst hq
          refine (eadd_bad 8 k s c A6 (fs.length + 1) d6 (fs ++ [(id, ct)]) (id, cy) _ N6.out hl6 hd6 hg (by decide)).mono ?_
          rintro e x3 ⟨A8, d8, rfl, q5, hb⟩
          clear r0 r1 r2 r3 v0 v1 o0 o1 m0 m1 m2 m3 n0 n1 n2 n3
          have N8 := Lib.hid (q5)
          replace Q0 := Lib.hid (Q0.out.keep hb)
          replace Q1 := Lib.hid (Q1.out.keep hb)
          replace Q2 := Lib.hid (Q2.out.keep hb)
          replace HA := Lib.hid (HA.out.below hb)
          replace N6 := Lib.hid (N6.out.below hb)
          replace Q4 := Lib.hid (Q4.out.keep hb)
          replace N7 := Lib.hid (N7.out.below hb)
          replace Q5 := Lib.hid (Q5.out.keep hb)
          replace B := Lib.hid (chain B.out hb)
          clear hb
          clear q5
          have hal : Below x3.heap.size x3 (x3.alloc (.cells #[.int .i64 0, .int .i64 0, .int .i64 0, .slice A8 0 d8] 24)) := (Below.refl _ _).alloc (Nat.le_refl _) _
          replace Q0 := Lib.hid (Q0.out.keep hal)
          replace Q1 := Lib.hid (Q1.out.keep hal)
          replace Q2 := Lib.hid (Q2.out.keep hal)
          replace HA := Lib.hid (HA.out.below hal)
          replace N6 := Lib.hid (N6.out.below hal)
          replace Q4 := Lib.hid (Q4.out.keep hal)
          replace N7 := Lib.hid (N7.out.below hal)
          replace Q5 := Lib.hid (Q5.out.keep hal)
          replace N8 := Lib.hid (N8.out.below hal)
          replace B := Lib.hid (chain B.out hal)
          have Q6 := Lib.hid (Box.new x3 24 #[.int .i64 0, .int .i64 0, .int .i64 0, .slice A8 0 d8])
          clear hal
          obtain ⟨r0, r1, r2, r3, -, -, -, -⟩ := Q0.out.four
          obtain ⟨v0, v1, -, -⟩ := Q1.out.two
          obtain ⟨o0, o1, -, -⟩ := Q2.out.two
          obtain ⟨m0, m1, m2, m3, -, -, -, -⟩ := Q4.out.four
          obtain ⟨n0, n1, n2, n3, -, -, -, -⟩ := Q5.out.four
          obtain ⟨a0, a1, a2, a3, -, -, -, -⟩ := Q6.out.four
          go_wp2_with fail
          refine (eadd_bad 8 k s c A7 (fs.length + 1) d7 (fs ++ [(id, cy)]) (id, ct) _ N7.out hl7 hd7 hh (by decide)).mono ?_
          rintro e x4 ⟨A9, d9, rfl, q5, hb⟩
          clear r0 r1 r2 r3 v0 v1 o0 o1 m0 m1 m2 m3 n0 n1 n2 n3 a0 a1 a2 a3
          have N9 := Lib.hid (q5)
          replace Q0 := Lib.hid (Q0.out.keep hb)
          replace Q1 := Lib.hid (Q1.out.keep hb)
          replace Q2 := Lib.hid (Q2.out.keep hb)
          replace HA := Lib.hid (HA.out.below hb)
          replace N6 := Lib.hid (N6.out.below hb)
          replace Q4 := Lib.hid (Q4.out.keep hb)
          replace N7 := Lib.hid (N7.out.below hb)
          replace Q5 := Lib.hid (Q5.out.keep hb)
          replace N8 := Lib.hid (N8.out.below hb)
          replace Q6 := Lib.hid (Q6.out.keep hb)
          replace B := Lib.hid (chain B.out hb)
          clear hb
          clear q5
          have hal : Below x4.heap.size x4 (x4.alloc (.cells #[.int .i64 0, .int .i64 0, .int .i64 0, .slice A9 0 d9] 24)) := (Below.refl _ _).alloc (Nat.le_refl _) _
          replace Q0 := Lib.hid (Q0.out.keep hal)
          replace Q1 := Lib.hid (Q1.out.keep hal)
          replace Q2 := Lib.hid (Q2.out.keep hal)
          replace HA := Lib.hid (HA.out.below hal)
          replace N6 := Lib.hid (N6.out.below hal)
          replace Q4 := Lib.hid (Q4.out.keep hal)
          replace N7 := Lib.hid (N7.out.below hal)
          replace Q5 := Lib.hid (Q5.out.keep hal)
          replace N8 := Lib.hid (N8.out.below hal)
          replace Q6 := Lib.hid (Q6.out.keep hal)
          replace N9 := Lib.hid (N9.out.below hal)
          replace B := Lib.hid (chain B.out hal)
          have Q7 := Lib.hid (Box.new x4 24 #[.int .i64 0, .int .i64 0, .int .i64 0, .slice A9 0 d9])
          clear hal
          obtain ⟨r0, r1, r2, r3, -, -, -, -⟩ := Q0.out.four
          obtain ⟨v0, v1, -, -⟩ := Q1.out.two
          obtain ⟨o0, o1, -, -⟩ := Q2.out.two
          obtain ⟨m0, m1, m2, m3, -, -, -, -⟩ := Q4.out.four
          obtain ⟨n0, n1, n2, n3, -, -, -, -⟩ := Q5.out.four
          obtain ⟨a0, a1, a2, a3, -, -, -, -⟩ := Q6.out.four
          obtain ⟨b0, b1, b2, b3, -, -, -, -⟩ := Q7.out.four
          go_wp2_with fail
          refine (alive12_any _).mono ?_
          rintro e x5 ⟨rfl, hb⟩
          clear r0 r1 r2 r3 v0 v1 o0 o1 m0 m1 m2 m3 n0 n1 n2 n3 a0 a1 a2 a3 b0 b1 b2 b3
          replace Q0 := Lib.hid (Q0.out.keep hb)
          replace Q1 := Lib.hid (Q1.out.keep hb)
          replace Q2 := Lib.hid (Q2.out.keep hb)
          replace HA := Lib.hid (HA.out.below hb)
          replace N6 := Lib.hid (N6.out.below hb)
          replace Q4 := Lib.hid (Q4.out.keep hb)
          replace N7 := Lib.hid (N7.out.below hb)
          replace Q5 := Lib.hid (Q5.out.keep hb)
          replace N8 := Lib.hid (N8.out.below hb)
          replace Q6 := Lib.hid (Q6.out.keep hb)
          replace N9 := Lib.hid (N9.out.below hb)
          replace Q7 := Lib.hid (Q7.out.keep hb)
          replace B := Lib.hid (chain B.out hb)
          clear hb
          obtain ⟨r0, r1, r2, r3, -, -, -, -⟩ := Q0.out.four
          obtain ⟨v0, v1, -, -⟩ := Q1.out.two
          obtain ⟨o0, o1, -, -⟩ := Q2.out.two
          obtain ⟨m0, m1, m2, m3, -, -, -, -⟩ := Q4.out.four
          obtain ⟨n0, n1, n2, n3, -, -, -, -⟩ := Q5.out.four
          obtain ⟨a0, a1, a2, a3, -, -, -, -⟩ := Q6.out.four
          obtain ⟨b0, b1, b2, b3, -, -, -, -⟩ := Q7.out.four
          go_wp2_with fail
          go_ret
          exact ⟨rfl, B.out⟩
        · rw [if_neg hq] at hg
          rw [if_neg (fun h => hq h.symm)] at hh
          have hq1 : ((id : Int) == (id2 : Int)) = false := by simp; omega
          by_cases hr : (fs.length : Int) + 1 = c
          · rw [if_pos hr] at hg hh
            refine (eadd_bad 7 k s c A6 (fs.length + 1) d6 (fs ++ [(id, ct)]) (id2, cy) _ N6.out hl6 hd6 hg (by decide)).mono ?_
            rintro e x3 ⟨A8, d8, rfl, q5, hb⟩
            clear r0 r1 r2 r3 v0 v1 o0 o1 m0 m1 m2 m3 n0 n1 n2 n3
            have N8 := Lib.hid (q5)
            replace Q0 := Lib.hid (Q0.out.keep hb)
            replace Q1 := Lib.hid (Q1.out.keep hb)
            replace Q2 := Lib.hid (Q2.out.keep hb)
            replace HA := Lib.hid (HA.out.below hb)
            replace N6 := Lib.hid (N6.out.below hb)
            replace Q4 := Lib.hid (Q4.out.keep hb)
            replace N7 := Lib.hid (N7.out.below hb)
            replace Q5 := Lib.hid (Q5.out.keep hb)
            replace B := Lib.hid (chain B.out hb)
            clear hb
            clear q5
            have hal : Below x3.heap.size x3 (x3.alloc (.cells #[.int .i64 0, .int .i64 0, .int .i64 0, .slice A8 0 d8] 24)) := (Below.refl _ _).alloc (Nat.le_refl _) _
            replace Q0 := Lib.hid (Q0.out.keep hal)
            replace Q1 := Lib.hid (Q1.out.keep hal)
            replace Q2 := Lib.hid (Q2.out.keep hal)
            replace HA := Lib.hid (HA.out.below hal)
            replace N6 := Lib.hid (N6.out.below hal)
            replace Q4 := Lib.hid (Q4.out.keep hal)
            replace N7 := Lib.hid (N7.out.below hal)
            replace Q5 := Lib.hid (Q5.out.keep hal)
            replace N8 := Lib.hid (N8.out.below hal)
            replace B := Lib.hid (chain B.out hal)
            have Q6 := Lib.hid (Box.new x3 24 #[.int .i64 0, .int .i64 0, .int .i64 0, .slice A8 0 d8])
            clear hal
            obtain ⟨r0, r1, r2, r3, -, -, -, -⟩ := Q0.out.four
            obtain ⟨v0, v1, -, -⟩ := Q1.out.two
            obtain ⟨o0, o1, -, -⟩ := Q2.out.two
            obtain ⟨m0, m1, m2, m3, -, -, -, -⟩ := Q4.out.four
            obtain ⟨n0, n1, n2, n3, -, -, -, -⟩ := Q5.out.four
            obtain ⟨a0, a1, a2, a3, -, -, -, -⟩ := Q6.out.four
            go_wp2_with fail
            refine (eadd_bad 7 k s c A7 (fs.length + 1) d7 (fs ++ [(id2, cy)]) (id, ct) _ N7.out hl7 hd7 hh (by decide)).mono ?_
            rintro e x4 ⟨A9, d9, rfl, q5, hb⟩
            clear r0 r1 r2 r3 v0 v1 o0 o1 m0 m1 m2 m3 n0 n1 n2 n3 a0 a1 a2 a3
            have N9 := Lib.hid (q5)
            replace Q0 := Lib.hid (Q0.out.keep hb)
            replace Q1 := Lib.hid (Q1.out.keep hb)
            replace Q2 := Lib.hid (Q2.out.keep hb)
            replace HA := Lib.hid (HA.out.below hb)
            replace N6 := Lib.hid (N6.out.below hb)
            replace Q4 := Lib.hid (Q4.out.keep hb)
            replace N7 := Lib.hid (N7.out.below hb)
            replace Q5 := Lib.hid (Q5.out.keep hb)
            replace N8 := Lib.hid (N8.out.below hb)
            replace Q6 := Lib.hid (Q6.out.keep hb)
            replace B := Lib.hid (chain B.out hb)
            clear hb
            clear q5
            have hal : Below x4.heap.size x4 (x4.alloc (.cells #[.int .i64 0, .int .i64 0, .int .i64 0, .slice A9 0 d9] 24)) := (Below.refl _ _).alloc (Nat.le_refl _) _
            replace Q0 := Lib.hid (Q0.out.keep hal)
            replace Q1 := Lib.hid (Q1.out.keep hal)
            replace Q2 := Lib.hid (Q2.out.keep hal)
            replace HA := Lib.hid (HA.out.below hal)
            replace N6 := Lib.hid (N6.out.below hal)
            replace Q4 := Lib.hid (Q4.out.keep hal)
            replace N7 := Lib.hid (N7.out.below hal)
            replace Q5 := Lib.hid (Q5.out.keep hal)
            replace N8 := Lib.hid (N8.out.below hal)
            replace Q6 := Lib.hid (Q6.out.keep hal)
            replace N9 := Lib.hid (N9.out.below hal)
            replace B := Lib.hid (chain B.out hal)
            have Q7 := Lib.hid (Box.new x4 24 #[.int .i64 0, .int .i64 0, .int .i64 0, .slice A9 0 d9])
            clear hal
            obtain ⟨r0, r1, r2, r3, -, -, -, -⟩ := Q0.out.four
            obtain ⟨v0, v1, -, -⟩ := Q1.out.two
            obtain ⟨o0, o1, -, -⟩ := Q2.out.two
            obtain ⟨m0, m1, m2, m3, -, -, -, -⟩ := Q4.out.four
            obtain ⟨n0, n1, n2, n3, -, -, -, -⟩ := Q5.out.four
            obtain ⟨a0, a1, a2, a3, -, -, -, -⟩ := Q6.out.four
            obtain ⟨b0, b1, b2, b3, -, -, -, -⟩ := Q7.out.four
            go_wp2_with fail
            refine (alive12_any _).mono ?_
            rintro e x5 ⟨rfl, hb⟩
            clear r0 r1 r2 r3 v0 v1 o0 o1 m0 m1 m2 m3 n0 n1 n2 n3 a0 a1 a2 a3 b0 b1 b2 b3
            replace Q0 := Lib.hid (Q0.out.keep hb)
            replace Q1 := Lib.hid (Q1.out.keep hb)
            replace Q2 := Lib.hid (Q2.out.keep hb)
            replace HA := Lib.hid (HA.out.below hb)
            replace N6 := Lib.hid (N6.out.below hb)
            replace Q4 := Lib.hid (Q4.out.keep hb)
            replace N7 := Lib.hid (N7.out.below hb)
            replace Q5 := Lib.hid (Q5.out.keep hb)
            replace N8 := Lib.hid (N8.out.below hb)
            replace Q6 := Lib.hid (Q6.out.keep hb)
            replace N9 := Lib.hid (N9.out.below hb)
            replace Q7 := Lib.hid (Q7.out.keep hb)
            replace B := Lib.hid (chain B.out hb)
            clear hb
            obtain ⟨r0, r1, r2, r3, -, -, -, -⟩ := Q0.out.four
            obtain ⟨v0, v1, -, -⟩ := Q1.out.two
            obtain ⟨o0, o1, -, -⟩ := Q2.out.two
            obtain ⟨m0, m1, m2, m3, -, -, -, -⟩ := Q4.out.four
            obtain ⟨n0, n1, n2, n3, -, -, -, -⟩ := Q5.out.four
            obtain ⟨a0, a1, a2, a3, -, -, -, -⟩ := Q6.out.four
            obtain ⟨b0, b1, b2, b3, -, -, -, -⟩ := Q7.out.four
            go_wp2_with fail
            go_ret
            exact ⟨rfl, B.out⟩
          · rw [if_neg hr] at hg hh
            refine (eadd_good k s c A6 (fs.length + 1) d6 (fs ++ [(id, ct)]) (id2, cy) _ N6.out hl6 hd6 hn6 hg).mono ?_
            rintro e x3 ⟨A8, d8, rfl, q5, hl8, hd8, hn8, hb⟩
            clear r0 r1 r2 r3 v0 v1 o0 o1 m0 m1 m2 m3 n0 n1 n2 n3
            have N8 := Lib.hid (q5)
            replace Q0 := Lib.hid (Q0.out.keep hb)
            replace Q1 := Lib.hid (Q1.out.keep hb)
            replace Q2 := Lib.hid (Q2.out.keep hb)
            replace HA := Lib.hid (HA.out.below hb)
            replace N6 := Lib.hid (N6.out.below hb)
            replace Q4 := Lib.hid (Q4.out.keep hb)
            replace N7 := Lib.hid (N7.out.below hb)
            replace Q5 := Lib.hid (Q5.out.keep hb)
            replace B := Lib.hid (chain B.out hb)
            clear hb
            have hsc := storeB_grow hg
            clear q5
            have hal : Below x3.heap.size x3 (x3.alloc (.cells #[.int .i64 k, .int .i64 s, .int .i64 c, .slice A8 (fs.length + 1 + 1) d8] 24)) := (Below.refl _ _).alloc (Nat.le_refl _) _
            replace Q0 := Lib.hid (Q0.out.keep hal)
            replace Q1 := Lib.hid (Q1.out.keep hal)
            replace Q2 := Lib.hid (Q2.out.keep hal)
            replace HA := Lib.hid (HA.out.below hal)
            replace N6 := Lib.hid (N6.out.below hal)
            replace Q4 := Lib.hid (Q4.out.keep hal)
            replace N7 := Lib.hid (N7.out.below hal)
            replace Q5 := Lib.hid (Q5.out.keep hal)
            replace N8 := Lib.hid (N8.out.below hal)
            replace B := Lib.hid (chain B.out hal)
            have Q6 := Lib.hid (Box.new x3 24 #[.int .i64 k, .int .i64 s, .int .i64 c, .slice A8 (fs.length + 1 + 1) d8])
            clear hal
            obtain ⟨r0, r1, r2, r3, -, -, -, -⟩ := Q0.out.four
            obtain ⟨v0, v1, -, -⟩ := Q1.out.two
            obtain ⟨o0, o1, -, -⟩ := Q2.out.two
            obtain ⟨m0, m1, m2, m3, -, -, -, -⟩ := Q4.out.four
            obtain ⟨n0, n1, n2, n3, -, -, -, -⟩ := Q5.out.four
            obtain ⟨a0, a1, a2, a3, -, -, -, -⟩ := Q6.out.four
            go_wp2_with fail
            refine (eadd_good k s c A7 (fs.length + 1) d7 (fs ++ [(id2, cy)]) (id, ct) _ N7.out hl7 hd7 hn7 hh).mono ?_
            rintro e x4 ⟨A9, d9, rfl, q5, hl9, hd9, hn9, hb⟩
            clear r0 r1 r2 r3 v0 v1 o0 o1 m0 m1 m2 m3 n0 n1 n2 n3 a0 a1 a2 a3
            have N9 := Lib.hid (q5)
            replace Q0 := Lib.hid (Q0.out.keep hb)
            replace Q1 := Lib.hid (Q1.out.keep hb)
            replace Q2 := Lib.hid (Q2.out.keep hb)
            replace HA := Lib.hid (HA.out.below hb)
            replace N6 := Lib.hid (N6.out.below hb)
            replace Q4 := Lib.hid (Q4.out.keep hb)
            replace N7 := Lib.hid (N7.out.below hb)
            replace Q5 := Lib.hid (Q5.out.keep hb)
            replace N8 := Lib.hid (N8.out.below hb)
            replace Q6 := Lib.hid (Q6.out.keep hb)
            replace B := Lib.hid (chain B.out hb)
            clear hb
            have hsd := storeB_grow hh
            clear q5
            have hal : Below x4.heap.size x4 (x4.alloc (.cells #[.int .i64 k, .int .i64 s, .int .i64 c, .slice A9 (fs.length + 1 + 1) d9] 24)) := (Below.refl _ _).alloc (Nat.le_refl _) _
            replace Q0 := Lib.hid (Q0.out.keep hal)
            replace Q1 := Lib.hid (Q1.out.keep hal)
            replace Q2 := Lib.hid (Q2.out.keep hal)
            replace HA := Lib.hid (HA.out.below hal)
            replace N6 := Lib.hid (N6.out.below hal)
            replace Q4 := Lib.hid (Q4.out.keep hal)
            replace N7 := Lib.hid (N7.out.below hal)
            replace Q5 := Lib.hid (Q5.out.keep hal)
            replace N8 := Lib.hid (N8.out.below hal)
            replace Q6 := Lib.hid (Q6.out.keep hal)
            replace N9 := Lib.hid (N9.out.below hal)
            replace B := Lib.hid (chain B.out hal)
            have Q7 := Lib.hid (Box.new x4 24 #[.int .i64 k, .int .i64 s, .int .i64 c, .slice A9 (fs.length + 1 + 1) d9])
            clear hal
            obtain ⟨r0, r1, r2, r3, -, -, -, -⟩ := Q0.out.four
            obtain ⟨v0, v1, -, -⟩ := Q1.out.two
            obtain ⟨o0, o1, -, -⟩ := Q2.out.two
            obtain ⟨m0, m1, m2, m3, -, -, -, -⟩ := Q4.out.four
            obtain ⟨n0, n1, n2, n3, -, -, -, -⟩ := Q5.out.four
            obtain ⟨a0, a1, a2, a3, -, -, -, -⟩ := Q6.out.four
            obtain ⟨b0, b1, b2, b3, -, -, -, -⟩ := Q7.out.four
            go_wp2_with fail
            refine (alive12_any _).mono ?_
            rintro e x5 ⟨rfl, hb⟩
            clear r0 r1 r2 r3 v0 v1 o0 o1 m0 m1 m2 m3 n0 n1 n2 n3 a0 a1 a2 a3 b0 b1 b2 b3
            replace Q0 := Lib.hid (Q0.out.keep hb)
            replace Q1 := Lib.hid (Q1.out.keep hb)
            replace Q2 := Lib.hid (Q2.out.keep hb)
            replace HA := Lib.hid (HA.out.below hb)
            replace N6 := Lib.hid (N6.out.below hb)
            replace Q4 := Lib.hid (Q4.out.keep hb)
            replace N7 := Lib.hid (N7.out.below hb)
            replace Q5 := Lib.hid (Q5.out.keep hb)
            replace N8 := Lib.hid (N8.out.below hb)
            replace Q6 := Lib.hid (Q6.out.keep hb)
            replace N9 := Lib.hid (N9.out.below hb)
            replace Q7 := Lib.hid (Q7.out.keep hb)
            replace B := Lib.hid (chain B.out hb)
            clear hb
            obtain ⟨r0, r1, r2, r3, -, -, -, -⟩ := Q0.out.four
            obtain ⟨v0, v1, -, -⟩ := Q1.out.two
            obtain ⟨o0, o1, -, -⟩ := Q2.out.two
            obtain ⟨m0, m1, m2, m3, -, -, -, -⟩ := Q4.out.four
            obtain ⟨n0, n1, n2, n3, -, -, -, -⟩ := Q5.out.four
            obtain ⟨a0, a1, a2, a3, -, -, -, -⟩ := Q6.out.four
            obtain ⟨b0, b1, b2, b3, -, -, -, -⟩ := Q7.out.four
            obtain ⟨bk, bs, bc, bl⟩ := storeB_bd hsc
            obtain ⟨kn, rfl⟩ : ∃ n : Nat, k = n := Int.eq_ofNat_of_zero_le (by omega)
            obtain ⟨sn, rfl⟩ : ∃ n : Nat, s = n := Int.eq_ofNat_of_zero_le (by omega)
            go_wp2_with fail
            refine (erank_yes kn sn c A8 (fs.length + 1 + 1) d8 _ _ N8.out hl8 hd8 hsc (idB_grow (idB_grow HID.out HI2.out) HI3.out)).mono ?_
            rintro e x6 ⟨m, rfl, q5, hb⟩
            clear r0 r1 r2 r3 v0 v1 o0 o1 m0 m1 m2 m3 n0 n1 n2 n3 a0 a1 a2 a3 b0 b1 b2 b3
            replace Q0 := Lib.hid (Q0.out.keep hb)
            replace Q1 := Lib.hid (Q1.out.keep hb)
            replace Q2 := Lib.hid (Q2.out.keep hb)
            replace HA := Lib.hid (HA.out.below hb)
            replace N6 := Lib.hid (N6.out.below hb)
            replace Q4 := Lib.hid (Q4.out.keep hb)
            replace N7 := Lib.hid (N7.out.below hb)
            replace Q5 := Lib.hid (Q5.out.keep hb)
            replace N8 := Lib.hid (N8.out.below hb)
            replace Q6 := Lib.hid (Q6.out.keep hb)
            replace N9 := Lib.hid (N9.out.below hb)
            replace Q7 := Lib.hid (Q7.out.keep hb)
            replace B := Lib.hid (chain B.out hb)
            clear hb
            have RM := Lib.hid q5
            clear q5
            obtain ⟨r0, r1, r2, r3, -, -, -, -⟩ := Q0.out.four
            obtain ⟨v0, v1, -, -⟩ := Q1.out.two
            obtain ⟨o0, o1, -, -⟩ := Q2.out.two
            obtain ⟨m0, m1, m2, m3, -, -, -, -⟩ := Q4.out.four
            obtain ⟨n0, n1, n2, n3, -, -, -, -⟩ := Q5.out.four
            obtain ⟨a0, a1, a2, a3, -, -, -, -⟩ := Q6.out.four
            obtain ⟨b0, b1, b2, b3, -, -, -, -⟩ := Q7.out.four
            go_wp2_with fail
            refine (erank_yes kn sn c A9 (fs.length + 1 + 1) d9 _ _ N9.out hl9 hd9 hsd (idB_grow (idB_grow HID.out HI3.out) HI2.out)).mono ?_
            rintro e x7 ⟨n, rfl, q5, hb⟩
            clear r0 r1 r2 r3 v0 v1 o0 o1 m0 m1 m2 m3 n0 n1 n2 n3 a0 a1 a2 a3 b0 b1 b2 b3
            replace Q0 := Lib.hid (Q0.out.keep hb)
            replace Q1 := Lib.hid (Q1.out.keep hb)
            replace Q2 := Lib.hid (Q2.out.keep hb)
            replace HA := Lib.hid (HA.out.below hb)
            replace N6 := Lib.hid (N6.out.below hb)
            replace Q4 := Lib.hid (Q4.out.keep hb)
            replace N7 := Lib.hid (N7.out.below hb)
            replace Q5 := Lib.hid (Q5.out.keep hb)
            replace N8 := Lib.hid (N8.out.below hb)
            replace Q6 := Lib.hid (Q6.out.keep hb)
            replace N9 := Lib.hid (N9.out.below hb)
            replace Q7 := Lib.hid (Q7.out.keep hb)
            replace B := Lib.hid (chain B.out hb)
            clear hb
            have RN := Lib.hid q5
            clear q5
            obtain ⟨r0, r1, r2, r3, -, -, -, -⟩ := Q0.out.four
            obtain ⟨v0, v1, -, -⟩ := Q1.out.two
            obtain ⟨o0, o1, -, -⟩ := Q2.out.two
            obtain ⟨m0, m1, m2, m3, -, -, -, -⟩ := Q4.out.four
            obtain ⟨n0, n1, n2, n3, -, -, -, -⟩ := Q5.out.four
            obtain ⟨a0, a1, a2, a3, -, -, -, -⟩ := Q6.out.four
            obtain ⟨b0, b1, b2, b3, -, -, -, -⟩ := Q7.out.four
            go_wp2_with fail
            refine (ebytes_yes kn sn c A8 (fs.length + 1 + 1) d8 _ _ N8.out hl8 hd8 hsc).mono ?_
            rintro e x8 ⟨rfl, hb⟩
            clear r0 r1 r2 r3 v0 v1 o0 o1 m0 m1 m2 m3 n0 n1 n2 n3 a0 a1 a2 a3 b0 b1 b2 b3
            replace Q0 := Lib.hid (Q0.out.keep hb)
            replace Q1 := Lib.hid (Q1.out.keep hb)
            replace Q2 := Lib.hid (Q2.out.keep hb)
            replace HA := Lib.hid (HA.out.below hb)
            replace N6 := Lib.hid (N6.out.below hb)
            replace Q4 := Lib.hid (Q4.out.keep hb)
            replace N7 := Lib.hid (N7.out.below hb)
            replace Q5 := Lib.hid (Q5.out.keep hb)
            replace N8 := Lib.hid (N8.out.below hb)
            replace Q6 := Lib.hid (Q6.out.keep hb)
            replace N9 := Lib.hid (N9.out.below hb)
            replace Q7 := Lib.hid (Q7.out.keep hb)
            replace B := Lib.hid (chain B.out hb)
            clear hb
            obtain ⟨r0, r1, r2, r3, -, -, -, -⟩ := Q0.out.four
            obtain ⟨v0, v1, -, -⟩ := Q1.out.two
            obtain ⟨o0, o1, -, -⟩ := Q2.out.two
            obtain ⟨m0, m1, m2, m3, -, -, -, -⟩ := Q4.out.four
            obtain ⟨n0, n1, n2, n3, -, -, -, -⟩ := Q5.out.four
            obtain ⟨a0, a1, a2, a3, -, -, -, -⟩ := Q6.out.four
            obtain ⟨b0, b1, b2, b3, -, -, -, -⟩ := Q7.out.four
            go_wp2_with fail
            refine (ebytes_yes kn sn c A9 (fs.length + 1 + 1) d9 _ _ N9.out hl9 hd9 hsd).mono ?_
            rintro e x9 ⟨rfl, hb⟩
            clear r0 r1 r2 r3 v0 v1 o0 o1 m0 m1 m2 m3 n0 n1 n2 n3 a0 a1 a2 a3 b0 b1 b2 b3
            replace Q0 := Lib.hid (Q0.out.keep hb)
            replace Q1 := Lib.hid (Q1.out.keep hb)
            replace Q2 := Lib.hid (Q2.out.keep hb)
            replace HA := Lib.hid (HA.out.below hb)
            replace N6 := Lib.hid (N6.out.below hb)
            replace Q4 := Lib.hid (Q4.out.keep hb)
            replace N7 := Lib.hid (N7.out.below hb)
            replace Q5 := Lib.hid (Q5.out.keep hb)
            replace N8 := Lib.hid (N8.out.below hb)
            replace Q6 := Lib.hid (Q6.out.keep hb)
            replace N9 := Lib.hid (N9.out.below hb)
            replace Q7 := Lib.hid (Q7.out.keep hb)
            replace B := Lib.hid (chain B.out hb)
            clear hb
            obtain ⟨r0, r1, r2, r3, -, -, -, -⟩ := Q0.out.four
            obtain ⟨v0, v1, -, -⟩ := Q1.out.two
            obtain ⟨o0, o1, -, -⟩ := Q2.out.two
            obtain ⟨m0, m1, m2, m3, -, -, -, -⟩ := Q4.out.four
            obtain ⟨n0, n1, n2, n3, -, -, -, -⟩ := Q5.out.four
            obtain ⟨a0, a1, a2, a3, -, -, -, -⟩ := Q6.out.four
            obtain ⟨b0, b1, b2, b3, -, -, -, -⟩ := Q7.out.four
            have RM2 := RM.out
            have RN2 := RN.out
            rw [rowsN_snoc, rowsN_snoc] at RM2 RN2
            obtain rfl := rk_swap RM2 RN2
            have e1 := rk_le RM2
            simp only [List.length_append, List.length_cons, List.length_nil, rowsN_len] at e1
            have e4 : ((m : Nat) : Int) ≤ (fs.length : Int) + 1 + 1 := by omega
            clear RM RN RM2 RN2 e1 bk bs bc bl
            go_wp2_with fail
            go_ret
            exact ⟨rfl, B.out⟩
      · have t7 : (fr != 0) = true := by simpa using h1
        have t6 : (fr == 0) = false := by simpa using h1
        refine (eadd_bad fr k s c A3 fs.length d3 fs (id2, cy) _ HA.out hl hd hfr h1).mono ?_
        rintro e x2 ⟨A7, d7, rfl, q5, hb⟩
        clear r0 r1 r2 r3 v0 v1 o0 o1 m0 m1 m2 m3
        have N7 := Lib.hid (q5)
        replace Q0 := Lib.hid (Q0.out.keep hb)
        replace Q1 := Lib.hid (Q1.out.keep hb)
        replace Q2 := Lib.hid (Q2.out.keep hb)
        replace HA := Lib.hid (HA.out.below hb)
        replace N6 := Lib.hid (N6.out.below hb)
        replace Q4 := Lib.hid (Q4.out.keep hb)
        replace B := Lib.hid (chain B.out hb)
        clear hb
        clear q5
        have hal : Below x2.heap.size x2 (x2.alloc (.cells #[.int .i64 0, .int .i64 0, .int .i64 0, .slice A7 0 d7] 24)) := (Below.refl _ _).alloc (Nat.le_refl _) _
        replace Q0 := Lib.hid (Q0.out.keep hal)
        replace Q1 := Lib.hid (Q1.out.keep hal)
        replace Q2 := Lib.hid (Q2.out.keep hal)
        replace HA := Lib.hid (HA.out.below hal)
        replace N6 := Lib.hid (N6.out.below hal)
        replace Q4 := Lib.hid (Q4.out.keep hal)
        replace N7 := Lib.hid (N7.out.below hal)
        replace B := Lib.hid (chain B.out hal)
        have Q5 := Lib.hid (Box.new x2 24 #[.int .i64 0, .int .i64 0, .int .i64 0, .slice A7 0 d7])
        clear hal
        obtain ⟨r0, r1, r2, r3, -, -, -, -⟩ := Q0.out.four
        obtain ⟨v0, v1, -, -⟩ := Q1.out.two
        obtain ⟨o0, o1, -, -⟩ := Q2.out.two
        obtain ⟨m0, m1, m2, m3, -, -, -, -⟩ := Q4.out.four
        obtain ⟨n0, n1, n2, n3, -, -, -, -⟩ := Q5.out.four
        go_wp2_with fail
        refine (alive12_any _).mono ?_
        rintro e x3 ⟨rfl, hb⟩
        clear r0 r1 r2 r3 v0 v1 o0 o1 m0 m1 m2 m3 n0 n1 n2 n3
        replace Q0 := Lib.hid (Q0.out.keep hb)
        replace Q1 := Lib.hid (Q1.out.keep hb)
        replace Q2 := Lib.hid (Q2.out.keep hb)
        replace HA := Lib.hid (HA.out.below hb)
        replace N6 := Lib.hid (N6.out.below hb)
        replace Q4 := Lib.hid (Q4.out.keep hb)
        replace N7 := Lib.hid (N7.out.below hb)
        replace Q5 := Lib.hid (Q5.out.keep hb)
        replace B := Lib.hid (chain B.out hb)
        clear hb
        obtain ⟨r0, r1, r2, r3, -, -, -, -⟩ := Q0.out.four
        obtain ⟨v0, v1, -, -⟩ := Q1.out.two
        obtain ⟨o0, o1, -, -⟩ := Q2.out.two
        obtain ⟨m0, m1, m2, m3, -, -, -, -⟩ := Q4.out.four
        obtain ⟨n0, n1, n2, n3, -, -, -, -⟩ := Q5.out.four
        go_wp2_with fail
        go_ret
        exact ⟨rfl, B.out⟩
    · have t9 : (er != 0) = true := by simpa using h0
      have t8 : (er == 0) = false := by simpa using h0
      refine (eadd_bad er k s c A3 fs.length d3 fs (id, ct) _ HA.out hl hd her h0).mono ?_
      rintro e x1 ⟨A6, d6, rfl, q5, hb⟩
      clear r0 r1 r2 r3 v0 v1 o0 o1
      have N6 := Lib.hid (q5)
      replace Q0 := Lib.hid (Q0.out.keep hb)
      replace Q1 := Lib.hid (Q1.out.keep hb)
      replace Q2 := Lib.hid (Q2.out.keep hb)
      replace HA := Lib.hid (HA.out.below hb)
      replace B := Lib.hid (chain B.out hb)
      clear hb
      clear q5
      have hal : Below x1.heap.size x1 (x1.alloc (.cells #[.int .i64 0, .int .i64 0, .int .i64 0, .slice A6 0 d6] 24)) := (Below.refl _ _).alloc (Nat.le_refl _) _
      replace Q0 := Lib.hid (Q0.out.keep hal)
      replace Q1 := Lib.hid (Q1.out.keep hal)
      replace Q2 := Lib.hid (Q2.out.keep hal)
      replace HA := Lib.hid (HA.out.below hal)
      replace N6 := Lib.hid (N6.out.below hal)
      replace B := Lib.hid (chain B.out hal)
      have Q4 := Lib.hid (Box.new x1 24 #[.int .i64 0, .int .i64 0, .int .i64 0, .slice A6 0 d6])
      clear hal
      obtain ⟨r0, r1, r2, r3, -, -, -, -⟩ := Q0.out.four
      obtain ⟨v0, v1, -, -⟩ := Q1.out.two
      obtain ⟨o0, o1, -, -⟩ := Q2.out.two
      obtain ⟨m0, m1, m2, m3, -, -, -, -⟩ := Q4.out.four
      go_wp2_with fail
      by_cases h1 : fr = 0
      · subst h1
        refine (eadd_good k s c A3 fs.length d3 fs (id2, cy) _ HA.out hl hd hn hfr).mono ?_
        rintro e x2 ⟨A7, d7, rfl, q5, hl7, hd7, hn7, hb⟩
        clear r0 r1 r2 r3 v0 v1 o0 o1 m0 m1 m2 m3
        have N7 := Lib.hid (q5)
        replace Q0 := Lib.hid (Q0.out.keep hb)
        replace Q1 := Lib.hid (Q1.out.keep hb)
        replace Q2 := Lib.hid (Q2.out.keep hb)
        replace HA := Lib.hid (HA.out.below hb)
        replace N6 := Lib.hid (N6.out.below hb)
        replace Q4 := Lib.hid (Q4.out.keep hb)
        replace B := Lib.hid (chain B.out hb)
        clear hb
        clear q5
        have hal : Below x2.heap.size x2 (x2.alloc (.cells #[.int .i64 k, .int .i64 s, .int .i64 c, .slice A7 (fs.length + 1) d7] 24)) := (Below.refl _ _).alloc (Nat.le_refl _) _
        replace Q0 := Lib.hid (Q0.out.keep hal)
        replace Q1 := Lib.hid (Q1.out.keep hal)
        replace Q2 := Lib.hid (Q2.out.keep hal)
        replace HA := Lib.hid (HA.out.below hal)
        replace N6 := Lib.hid (N6.out.below hal)
        replace Q4 := Lib.hid (Q4.out.keep hal)
        replace N7 := Lib.hid (N7.out.below hal)
        replace B := Lib.hid (chain B.out hal)
        have Q5 := Lib.hid (Box.new x2 24 #[.int .i64 k, .int .i64 s, .int .i64 c, .slice A7 (fs.length + 1) d7])
        clear hal
        obtain ⟨r0, r1, r2, r3, -, -, -, -⟩ := Q0.out.four
        obtain ⟨v0, v1, -, -⟩ := Q1.out.two
        obtain ⟨o0, o1, -, -⟩ := Q2.out.two
        obtain ⟨m0, m1, m2, m3, -, -, -, -⟩ := Q4.out.four
        obtain ⟨n0, n1, n2, n3, -, -, -, -⟩ := Q5.out.four
        go_wp2_with fail
        refine (alive12_any _).mono ?_
        rintro e x3 ⟨rfl, hb⟩
        clear r0 r1 r2 r3 v0 v1 o0 o1 m0 m1 m2 m3 n0 n1 n2 n3
        replace Q0 := Lib.hid (Q0.out.keep hb)
        replace Q1 := Lib.hid (Q1.out.keep hb)
        replace Q2 := Lib.hid (Q2.out.keep hb)
        replace HA := Lib.hid (HA.out.below hb)
        replace N6 := Lib.hid (N6.out.below hb)
        replace Q4 := Lib.hid (Q4.out.keep hb)
        replace N7 := Lib.hid (N7.out.below hb)
        replace Q5 := Lib.hid (Q5.out.keep hb)
        replace B := Lib.hid (chain B.out hb)
        clear hb
        obtain ⟨r0, r1, r2, r3, -, -, -, -⟩ := Q0.out.four
        obtain ⟨v0, v1, -, -⟩ := Q1.out.two
        obtain ⟨o0, o1, -, -⟩ := Q2.out.two
        obtain ⟨m0, m1, m2, m3, -, -, -, -⟩ := Q4.out.four
        obtain ⟨n0, n1, n2, n3, -, -, -, -⟩ := Q5.out.four
        go_wp2_with fail
        go_ret
        exact ⟨rfl, B.out⟩
      · have t7 : (fr != 0) = true := by simpa using h1
        have t6 : (fr == 0) = false := by simpa using h1
        refine (eadd_bad fr k s c A3 fs.length d3 fs (id2, cy) _ HA.out hl hd hfr h1).mono ?_
        rintro e x2 ⟨A7, d7, rfl, q5, hb⟩
        clear r0 r1 r2 r3 v0 v1 o0 o1 m0 m1 m2 m3
        have N7 := Lib.hid (q5)
        replace Q0 := Lib.hid (Q0.out.keep hb)
        replace Q1 := Lib.hid (Q1.out.keep hb)
        replace Q2 := Lib.hid (Q2.out.keep hb)
        replace HA := Lib.hid (HA.out.below hb)
        replace N6 := Lib.hid (N6.out.below hb)
        replace Q4 := Lib.hid (Q4.out.keep hb)
        replace B := Lib.hid (chain B.out hb)
        clear hb
        clear q5
        have hal : Below x2.heap.size x2 (x2.alloc (.cells #[.int .i64 0, .int .i64 0, .int .i64 0, .slice A7 0 d7] 24)) := (Below.refl _ _).alloc (Nat.le_refl _) _
        replace Q0 := Lib.hid (Q0.out.keep hal)
        replace Q1 := Lib.hid (Q1.out.keep hal)
        replace Q2 := Lib.hid (Q2.out.keep hal)
        replace HA := Lib.hid (HA.out.below hal)
        replace N6 := Lib.hid (N6.out.below hal)
        replace Q4 := Lib.hid (Q4.out.keep hal)
        replace N7 := Lib.hid (N7.out.below hal)
        replace B := Lib.hid (chain B.out hal)
        have Q5 := Lib.hid (Box.new x2 24 #[.int .i64 0, .int .i64 0, .int .i64 0, .slice A7 0 d7])
        clear hal
        obtain ⟨r0, r1, r2, r3, -, -, -, -⟩ := Q0.out.four
        obtain ⟨v0, v1, -, -⟩ := Q1.out.two
        obtain ⟨o0, o1, -, -⟩ := Q2.out.two
        obtain ⟨m0, m1, m2, m3, -, -, -, -⟩ := Q4.out.four
        obtain ⟨n0, n1, n2, n3, -, -, -, -⟩ := Q5.out.four
        go_wp2_with fail
        refine (alive12_any _).mono ?_
        rintro e x3 ⟨rfl, hb⟩
        clear r0 r1 r2 r3 v0 v1 o0 o1 m0 m1 m2 m3 n0 n1 n2 n3
        replace Q0 := Lib.hid (Q0.out.keep hb)
        replace Q1 := Lib.hid (Q1.out.keep hb)
        replace Q2 := Lib.hid (Q2.out.keep hb)
        replace HA := Lib.hid (HA.out.below hb)
        replace N6 := Lib.hid (N6.out.below hb)
        replace Q4 := Lib.hid (Q4.out.keep hb)
        replace N7 := Lib.hid (N7.out.below hb)
        replace Q5 := Lib.hid (Q5.out.keep hb)
        replace B := Lib.hid (chain B.out hb)
        clear hb
        obtain ⟨r0, r1, r2, r3, -, -, -, -⟩ := Q0.out.four
        obtain ⟨v0, v1, -, -⟩ := Q1.out.two
        obtain ⟨o0, o1, -, -⟩ := Q2.out.two
        obtain ⟨m0, m1, m2, m3, -, -, -, -⟩ := Q4.out.four
        obtain ⟨n0, n1, n2, n3, -, -, -, -⟩ := Q5.out.four
        go_wp2_with fail
        go_ret
        exact ⟨rfl, B.out⟩
end Go.Proofs.Ytmfhimeffmpgaaa
