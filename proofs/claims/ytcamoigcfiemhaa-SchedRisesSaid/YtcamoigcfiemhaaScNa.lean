/- Layer 20: New. -/
import Derived.Test.YtcamoigcfiemhaaScRep
import Derived.Test.YtcamoigcfiemhaaInvL
namespace Go.Proofs.Ytcamoigcfiemhaa
set_option linter.unusedVariables false
set_option linter.unusedSimpArgs false
open Go.RowKit Go.Lib
set_option maxRecDepth 100000
theorem list14 {L : List Value} (h : L.length = 14) : ∃ v0 v1 v2 v3 v4 v5 v6 v7 v8 v9 v10 v11 v12 v13, L = [v0, v1, v2, v3, v4, v5, v6, v7, v8, v9, v10, v11, v12, v13] :=
  match L, h with
  | [v0, v1, v2, v3, v4, v5, v6, v7, v8, v9, v10, v11, v12, v13], _ => ⟨v0, v1, v2, v3, v4, v5, v6, v7, v8, v9, v10, v11, v12, v13, rfl⟩
theorem makeI_any (n : Nat) (hn : n ≤ 1000000) (w : World) :
    (Instr.makeSlice 23 (.int .i64 (n : Int)) (.int .i64 (n : Int))).run Try.prog w = .ok (.slice (some ⟨w.heap.size, 0, none⟩) n n) (w.alloc (.cells (Array.replicate n (.int .i64 0)) 3)) := by
  obtain ⟨i0, hi, hz0, hz1, hz2⟩ := info_parts int_infoS
  have hr := run_make (P := Try.prog) w _ _ i0 _ Try.underlying23 hi hz0 .i64 .i64 n n (by omega) (by omega) (by rw [hz2]; omega) (by omega)
  simp only [Int.toNat_natCast, hz1, Nat.mul_one] at hr
  rw [hr]
  have : madeCells (Value.int .i64 0).cells n = Array.replicate n (Value.int .i64 0) := by
    apply Array.toList_inj.1
    have := toList_madeCells_one (Value.int .i64 0) n
    simpa [Value.cells] using this
  rw [this]
theorem make4r (w : World) : (Instr.makeSlice 24 (.int .i64 4) (.int .i64 4)).run Try.prog w = .ok (.slice (some ⟨w.heap.size, 0, none⟩) 4 4) (w.alloc (.cells #[.slice none 0 0, .slice none 0 0, .slice none 0 0, .slice none 0 0] 23)) := by kernel_rfl
theorem box_rep {w : World} {g n : Nat} {t : TypeId} (h : Box w g t (Array.replicate n (.int .i64 0))) : Ints w (some ⟨g, 0, none⟩) n (List.replicate n 0) := by
  refine ⟨List.length_replicate, in64_rep n, fun _ => ⟨g, 0, rfl, h.lt, fun j hj => ?_⟩⟩
  rw [Nat.zero_add]
  refine (h.cell j).trans ?_
  simp [Array.getElem?_replicate, List.getElem?_replicate, hj, List.getD]
theorem box_nils {w : World} {g : Nat} {t : TypeId} (h : Box w g t #[.slice none 0 0, .slice none 0 0, .slice none 0 0, .slice none 0 0]) : Chs w (some ⟨g, 0, none⟩) 4 [[], [], [], []] := by
  have hk : SliceOk none 0 0 := ⟨Nat.le_refl _, Nat.zero_le _, fun _ => ⟨rfl, rfl⟩⟩
  refine ⟨rfl, fun _ => ⟨g, 0, rfl, h.lt, fun j hj => ?_⟩⟩
  have : j = 0 ∨ j = 1 ∨ j = 2 ∨ j = 3 := by omega
  rcases this with rfl | rfl | rfl | rfl
  · exact ⟨none, 0, 0, h.cell 0, hk, Ints.nil _ _⟩
  · exact ⟨none, 0, 0, h.cell 1, hk, Ints.nil _ _⟩
  · exact ⟨none, 0, 0, h.cell 2, hk, Ints.nil _ _⟩
  · exact ⟨none, 0, 0, h.cell 3, hk, Ints.nil _ _⟩
def RowF (w : World) (n : Nat) (zs : List Int) (v : Value) : Prop := ∃ A c, v = .slice A n c ∧ SliceOk A n c ∧ Ints w A n zs
theorem RowF.below {w w' : World} {n : Nat} {zs : List Int} {v : Value} (h : RowF w n zs v) (hb : Below w.heap.size w w') : RowF w' n zs v := by
  obtain ⟨A, c, h1, h2, h3⟩ := h
  exact ⟨A, c, h1, h2, h3.below hb⟩
/-- What is known of each operation's value, once it has come up. -/
def FN (A : Option Addr) (l c : Nat) (ts : List (List InR)) (W : World) (k : Nat) (v : Value) (w : World) : Prop :=
  match k with
  | 0 | 1 | 4 => v = .slice A l c
  | 2 | 5 => v = .int .i64 (l : Int)
  | 3 | 6 => RowF w l (List.replicate l 0) v
  | 7 => ∃ g, v = .slice (some ⟨g, 0, none⟩) 1 1 ∧ Box w g 3 #[.int .i64 (-1)]
  | 8 => RowF w 4 [-1, -1, -1, -1] v
  | 9 => RowF w 4 (List.replicate 4 0) v
  | 10 => ∃ B d, v = .slice B 4 d ∧ SliceOk B 4 d ∧ Chs w B 4 [[], [], [], []]
  | 11 => SysAt w v (newS ts)
  | 12 => ∃ M, OwnM M w v (newS ts)
  | _ => ∃ g, v = .pointer (some ⟨g, 0, none⟩) ∧ W.heap.size ≤ g ∧ Box w g 26 #[.slice none 0 0, .slice none 0 0, .slice none 0 0, .slice none 0 0, .slice none 0 0, .slice none 0 0]
theorem FN.below {A : Option Addr} {l c : Nat} {ts : List (List InR)} {W : World} {k : Nat} {v : Value} {w w' : World} (h : FN A l c ts W k v w) (hb : Below w.heap.size w w') : FN A l c ts W k v w' := by
  unfold FN at *
  split at h
  · exact h
  · exact h
  · exact h
  · exact h
  · exact h
  · exact h.below hb
  · exact h.below hb
  · obtain ⟨g, h1, h2⟩ := h; exact ⟨g, h1, h2.keep hb⟩
  · exact h.below hb
  · exact h.below hb
  · obtain ⟨B, d, h1, h2, h3⟩ := h; exact ⟨B, d, h1, h2, Chs.below h3 hb⟩
  · exact SysAt.below h hb
  · obtain ⟨M, h1⟩ := h; exact ⟨M, h1.keepB hb⟩
  · obtain ⟨g, h1, h2, h3⟩ := h; exact ⟨g, h1, h2, h3.keep hb⟩
/-- The frame. -/
abbrev frN (A : Option Addr) (l c : Nat) (r : Value) (L : List Value) : Act := ⟨#[.slice A l c, undef, r, .int .i64 0, L.getD 13 undef, L.getD 0 undef, L.getD 1 undef, L.getD 2 undef, L.getD 3 undef, L.getD 4 undef, L.getD 5 undef, L.getD 6 undef, L.getD 7 undef, L.getD 8 undef, L.getD 9 undef, L.getD 10 undef, L.getD 11 undef, L.getD 12 undef, undef, undef, undef, undef, undef], []⟩
/-- The condition. -/
def JN (A : Option Addr) (l c : Nat) (ts : List (List InR)) (r : Value) (W : World) (listed : Array Bool) (a : Act) (w : World) : Prop :=
  Below W.heap.size W w ∧ listed.size = 15 ∧
  ((listed.getD 14 false = false ∧ ∃ L : List Value, L.length = 14 ∧ a = frN A l c r L ∧ ∀ k, k < 14 → listed.getD k false = true → FN A l c ts W k (L.getD k undef) w) ∨
   ((∀ i, i < 15 → listed.getD i false = true) ∧ ∃ (L : List Value) (g : Nat) (cs : Array Value) (M : Nat → Prop), L.length = 14 ∧ L.getD 13 undef = .pointer (some ⟨g, 0, none⟩) ∧ a = frN A l c r L ∧ W.heap.size ≤ g ∧ Box w g 26 cs ∧ OwnM M w (.agg cs) (newS ts)))
theorem getD_set14 (listed : Array Bool) (i k : Nat) (h : k ≠ i) : (listed.setIfInBounds i true).getD k false = listed.getD k false := by
  simp [Array.getD_eq_getD_getElem?, Array.getElem?_setIfInBounds, Ne.symm h]
theorem all14 {listed : Array Bool} (hs : listed.size = 15) (h : ∀ i, i < 14 → listed.getD i false = true) : ∀ i, i < 15 → (listed.setIfInBounds 14 true).getD i false = true := fun i hi => by
  by_cases e : i = 14
  · subst e; simp [Array.getD_eq_getD_getElem?, Array.getElem?_setIfInBounds, hs]
  · rw [getD_set14 _ _ _ e]; exact h i (by omega)
theorem JN.put {A : Option Addr} {l c : Nat} {ts : List (List InR)} {r : Value} {W : World} {listed : Array Bool} {w w' : World} {L : List Value} {i : Nat} (v' : Value) (hW : Below W.heap.size W w) (hs : listed.size = 15) (h14 : listed.getD 14 false = false) (hL : L.length = 14)
    (h : ∀ k, k < 14 → listed.getD k false = true → FN A l c ts W k (L.getD k undef) w) (hi : i < 14) (hb : Below w.heap.size w w') (hn : FN A l c ts W i v' w') : JN A l c ts r W (listed.setIfInBounds i true) (frN A l c r (L.set i v')) w' := by
  refine ⟨hW.trans (hb.mono hW.size), by simpa using hs, .inl ⟨by rw [getD_set14 _ _ _ (by omega)]; exact h14, L.set i v', by simpa using hL, rfl, fun k hk hl => ?_⟩⟩
  by_cases e : k = i
  · subst e
    have e : (L.set k v').getD k undef = v' := by simp [List.getD, List.getElem?_set, hL, hk]
    rw [e]
    exact hn
  · rw [getD_set14 _ _ _ e] at hl
    have e2 : (L.set i v').getD k undef = L.getD k undef := by simp [List.getD, List.getElem?_set_ne (Ne.symm e)]
    rw [e2]
    exact (h k hk hl).below hb
/-- What New tells. -/
def newRes (ts : List (List InR)) : Int × Sys := if rightS (newS ts) = true then (0, newS ts) else (1, sys0)
def NewOut (ts : List (List InR)) (w : World) (e : Ending) (w' : World) : Prop := ∃ v', e = .returned (.tuple #[v', .int .i64 (newRes ts).1]) ∧ SysAt w' v' (newRes ts).2 ∧ Below w.heap.size w w'
set_option maxHeartbeats 16000000 in
theorem new_any (A : Option Addr) (l c : Nat) (ts : List (List InR)) (w : World) (h : Thr w A l ts) (hs : SliceOk A l c) (hl : l ≤ 100) (hr : ∀ j, j < ts.length → (ts.getD j []).length ≤ 1000) : Calls Try.prog 10 #[.slice A l c] w (NewOut ts w) := by
  have HT := Lib.hid h
  have HSl := Lib.hid hs
  have HSm := Lib.hid (show Small (newS ts) from by
    have h1 := h.1
    refine ⟨by show ts.length ≤ 1000; omega, hr, by simp [newS]; omega, by simp [newS]; omega, by simp [newS], by simp [newS], by simp [newS], fun j hj => ?_⟩
    have : j < 4 := hj
    have : j = 0 ∨ j = 1 ∨ j = 2 ∨ j = 3 := by omega
    rcases this with rfl | rfl | rfl | rfl <;> simp [newS])
  have HE0 := Lib.hid (show newS ts = { th := ts, pc := List.replicate l 0, su := List.replicate l 0, lo := [-1, -1, -1, -1], ce := List.replicate 4 0, ch := [[], [], [], []] } by unfold newS; rw [h.1])
  have HNu := Lib.hid (show Nums (newS ts) from ⟨in64_rep _, in64_rep _, in64_lt (fun x hx => by simp [newS] at hx; subst hx; decide), in64_rep _, fun j hj => by
    have : j < 4 := hj
    have : j = 0 ∨ j = 1 ∨ j = 2 ∨ j = 3 := by omega
    rcases this with rfl | rfl | rfl | rfl <;> exact in64_lt (fun x hx => by simp [newS] at hx)⟩)
  have HB0 := Lib.hid (show Below w.heap.size w (w.alloc (.cells #[.slice none 0 0, .slice none 0 0, .slice none 0 0, .slice none 0 0, .slice none 0 0, .slice none 0 0] 26)).drew from ((Below.refl w.heap.size w).alloc (Nat.le_refl _) (.cells #[.slice none 0 0, .slice none 0 0, .slice none 0 0, .slice none 0 0, .slice none 0 0, .slice none 0 0] 26)).drew)
  have R0 := Lib.hid (show Box (w.alloc (.cells #[.slice none 0 0, .slice none 0 0, .slice none 0 0, .slice none 0 0, .slice none 0 0, .slice none 0 0] 26)).drew w.heap.size 26 #[.slice none 0 0, .slice none 0 0, .slice none 0 0, .slice none 0 0, .slice none 0 0, .slice none 0 0] from (Box.new w 26 #[.slice none 0 0, .slice none 0 0, .slice none 0 0, .slice none 0 0, .slice none 0 0, .slice none 0 0]).drew)
  clear h hs hr
  go_enter Try.func10, Try.ntmps10
  go_upto_region 1 with (fail)
  refine wp_inv (J := JN A l c ts (.pointer (some ⟨w.heap.size, 0, none⟩)) (w.alloc (.cells #[.slice none 0 0, .slice none 0 0, .slice none 0 0, .slice none 0 0, .slice none 0 0, .slice none 0 0] 26)).drew) (by kernel_rfl) (by kernel_rfl) ?start ?step ?done
  case start =>
    exact ⟨Below.refl _ _, by simp, .inl ⟨by simp [Array.getD_eq_getD_getElem?], [undef, undef, undef, undef, undef, undef, undef, undef, undef, undef, undef, undef, undef, undef], rfl, rfl, fun k hk hl => by simp [Array.getD_eq_getD_getElem?, Array.getElem?_replicate] at hl; split at hl <;> simp at hl⟩⟩
  case step =>
    intro listed a wr i o hJ hun ho hp
    have hi : i < 15 := (Array.getElem?_eq_some_iff.1 ho).1
    obtain ⟨hW, hs, ⟨h14, L, hL, rfl, hF⟩ | ⟨hall, -⟩⟩ := hJ
    · obtain ⟨v0, v1, v2, v3, v4, v5, v6, v7, v8, v9, v10, v11, v12, v13, rfl⟩ := list14 hL
      have f0 : listed.getD 0 false = true → FN A l c ts (w.alloc (.cells #[.slice none 0 0, .slice none 0 0, .slice none 0 0, .slice none 0 0, .slice none 0 0, .slice none 0 0] 26)).drew 0 v0 wr := hF 0 (by omega)
      have f1 : listed.getD 1 false = true → FN A l c ts (w.alloc (.cells #[.slice none 0 0, .slice none 0 0, .slice none 0 0, .slice none 0 0, .slice none 0 0, .slice none 0 0] 26)).drew 1 v1 wr := hF 1 (by omega)
      have f2 : listed.getD 2 false = true → FN A l c ts (w.alloc (.cells #[.slice none 0 0, .slice none 0 0, .slice none 0 0, .slice none 0 0, .slice none 0 0, .slice none 0 0] 26)).drew 2 v2 wr := hF 2 (by omega)
      have f3 : listed.getD 3 false = true → FN A l c ts (w.alloc (.cells #[.slice none 0 0, .slice none 0 0, .slice none 0 0, .slice none 0 0, .slice none 0 0, .slice none 0 0] 26)).drew 3 v3 wr := hF 3 (by omega)
      have f4 : listed.getD 4 false = true → FN A l c ts (w.alloc (.cells #[.slice none 0 0, .slice none 0 0, .slice none 0 0, .slice none 0 0, .slice none 0 0, .slice none 0 0] 26)).drew 4 v4 wr := hF 4 (by omega)
      have f5 : listed.getD 5 false = true → FN A l c ts (w.alloc (.cells #[.slice none 0 0, .slice none 0 0, .slice none 0 0, .slice none 0 0, .slice none 0 0, .slice none 0 0] 26)).drew 5 v5 wr := hF 5 (by omega)
      have f6 : listed.getD 6 false = true → FN A l c ts (w.alloc (.cells #[.slice none 0 0, .slice none 0 0, .slice none 0 0, .slice none 0 0, .slice none 0 0, .slice none 0 0] 26)).drew 6 v6 wr := hF 6 (by omega)
      have f7 : listed.getD 7 false = true → FN A l c ts (w.alloc (.cells #[.slice none 0 0, .slice none 0 0, .slice none 0 0, .slice none 0 0, .slice none 0 0, .slice none 0 0] 26)).drew 7 v7 wr := hF 7 (by omega)
      have f8 : listed.getD 8 false = true → FN A l c ts (w.alloc (.cells #[.slice none 0 0, .slice none 0 0, .slice none 0 0, .slice none 0 0, .slice none 0 0, .slice none 0 0] 26)).drew 8 v8 wr := hF 8 (by omega)
      have f9 : listed.getD 9 false = true → FN A l c ts (w.alloc (.cells #[.slice none 0 0, .slice none 0 0, .slice none 0 0, .slice none 0 0, .slice none 0 0, .slice none 0 0] 26)).drew 9 v9 wr := hF 9 (by omega)
      have f10 : listed.getD 10 false = true → FN A l c ts (w.alloc (.cells #[.slice none 0 0, .slice none 0 0, .slice none 0 0, .slice none 0 0, .slice none 0 0, .slice none 0 0] 26)).drew 10 v10 wr := hF 10 (by omega)
      have f11 : listed.getD 11 false = true → FN A l c ts (w.alloc (.cells #[.slice none 0 0, .slice none 0 0, .slice none 0 0, .slice none 0 0, .slice none 0 0, .slice none 0 0] 26)).drew 11 v11 wr := hF 11 (by omega)
      have f12 : listed.getD 12 false = true → FN A l c ts (w.alloc (.cells #[.slice none 0 0, .slice none 0 0, .slice none 0 0, .slice none 0 0, .slice none 0 0, .slice none 0 0] 26)).drew 12 v12 wr := hF 12 (by omega)
      have f13 : listed.getD 13 false = true → FN A l c ts (w.alloc (.cells #[.slice none 0 0, .slice none 0 0, .slice none 0 0, .slice none 0 0, .slice none 0 0, .slice none 0 0] 26)).drew 13 v13 wr := hF 13 (by omega)
      have : i = 0 ∨ i = 1 ∨ i = 2 ∨ i = 3 ∨ i = 4 ∨ i = 5 ∨ i = 6 ∨ i = 7 ∨ i = 8 ∨ i = 9 ∨ i = 10 ∨ i = 11 ∨ i = 12 ∨ i = 13 ∨ i = 14 := by omega
      rcases this with rfl | rfl | rfl | rfl | rfl | rfl | rfl | rfl | rfl | rfl | rfl | rfl | rfl | rfl | rfl
      · obtain rfl := Option.some.inj (show some _ = some o from ho)
        refine wpOp_step ho (fun K hK => ?_)
        go_simp
        exact hK _ _ (JN.put (.slice A l c) hW hs h14 rfl hF (by omega) (Below.refl _ _) rfl)
      · obtain rfl := Option.some.inj (show some _ = some o from ho)
        refine wpOp_step ho (fun K hK => ?_)
        go_simp
        exact hK _ _ (JN.put (.slice A l c) hW hs h14 rfl hF (by omega) (Below.refl _ _) rfl)
      · obtain rfl := Option.some.inj (show some _ = some o from ho)
        have p1 := f1 (hp ⟨1, .data⟩ (by simp) rfl)
        replace p1 : v1 = .slice A l c := p1
        subst p1
        refine wpOp_step ho (fun K hK => ?_)
        go_simp
        exact hK _ _ (JN.put (.int .i64 (l : Int)) hW hs h14 rfl hF (by omega) (Below.refl _ _) rfl)
      · obtain rfl := Option.some.inj (show some _ = some o from ho)
        have p2 := f2 (hp ⟨2, .data⟩ (by simp) rfl)
        replace p2 : v2 = .int .i64 (l : Int) := p2
        subst p2
        have mk := makeI_any l (by omega) wr
        refine wpOp_step ho (fun K hK => ?_)
        go_simp
        exact hK _ _ (JN.put (.slice (some ⟨wr.heap.size, 0, none⟩) l l) hW hs h14 rfl hF (by omega) ((Below.refl _ _).alloc (Nat.le_refl _) (.cells (Array.replicate l (.int .i64 0)) 3)) ⟨_, _, rfl, ⟨Nat.le_refl _, by unfold maxLen; omega, fun e => by cases e⟩, box_rep (Box.new _ _ _)⟩)
      · obtain rfl := Option.some.inj (show some _ = some o from ho)
        refine wpOp_step ho (fun K hK => ?_)
        go_simp
        exact hK _ _ (JN.put (.slice A l c) hW hs h14 rfl hF (by omega) (Below.refl _ _) rfl)
      · obtain rfl := Option.some.inj (show some _ = some o from ho)
        have p4 := f4 (hp ⟨4, .data⟩ (by simp) rfl)
        replace p4 : v4 = .slice A l c := p4
        subst p4
        refine wpOp_step ho (fun K hK => ?_)
        go_simp
        exact hK _ _ (JN.put (.int .i64 (l : Int)) hW hs h14 rfl hF (by omega) (Below.refl _ _) rfl)
      · obtain rfl := Option.some.inj (show some _ = some o from ho)
        have p5 := f5 (hp ⟨5, .data⟩ (by simp) rfl)
        replace p5 : v5 = .int .i64 (l : Int) := p5
        subst p5
        have mk := makeI_any l (by omega) wr
        refine wpOp_step ho (fun K hK => ?_)
        go_simp
        exact hK _ _ (JN.put (.slice (some ⟨wr.heap.size, 0, none⟩) l l) hW hs h14 rfl hF (by omega) ((Below.refl _ _).alloc (Nat.le_refl _) (.cells (Array.replicate l (.int .i64 0)) 3)) ⟨_, _, rfl, ⟨Nat.le_refl _, by unfold maxLen; omega, fun e => by cases e⟩, box_rep (Box.new _ _ _)⟩)
      · obtain rfl := Option.some.inj (show some _ = some o from ho)
        refine wpOp_step ho (fun K hK => ?_)
        go_simp
        exact hK _ _ (JN.put (.slice (some ⟨wr.heap.size, 0, none⟩) 1 1) hW hs h14 rfl hF (by omega) ((Below.refl _ _).alloc (Nat.le_refl _) (.cells #[.int .i64 (-1)] 3)) ⟨_, rfl, Box.new _ _ _⟩)
      · obtain rfl := Option.some.inj (show some _ = some o from ho)
        have p7 := f7 (hp ⟨7, .data⟩ (by simp) rfl)
        obtain ⟨g, rfl, hbx⟩ : ∃ g, v7 = .slice (some ⟨g, 0, none⟩) 1 1 ∧ Box wr g 3 #[.int .i64 (-1)] := p7
        refine wpOp_step ho (fun K hK => ?_)
        go_simp
        refine (repeat_any g _ wr hbx).mono ?_
        rintro e w9 ⟨B, d, rfl, hk, hI, hb⟩
        exact hK _ _ (JN.put (.slice B 4 d) hW hs h14 rfl hF (by omega) hb ⟨_, _, rfl, hk, hI⟩)
      · obtain rfl := Option.some.inj (show some _ = some o from ho)
        have mk := make4i wr
        refine wpOp_step ho (fun K hK => ?_)
        go_simp
        exact hK _ _ (JN.put (.slice (some ⟨wr.heap.size, 0, none⟩) 4 4) hW hs h14 rfl hF (by omega) ((Below.refl _ _).alloc (Nat.le_refl _) (.cells #[.int .i64 0, .int .i64 0, .int .i64 0, .int .i64 0] 3)) ⟨_, _, rfl, ⟨Nat.le_refl _, by decide, fun e => by cases e⟩, box_rep (n := 4) (Box.new _ _ _)⟩)
      · obtain rfl := Option.some.inj (show some _ = some o from ho)
        have mk := make4r wr
        refine wpOp_step ho (fun K hK => ?_)
        go_simp
        exact hK _ _ (JN.put (.slice (some ⟨wr.heap.size, 0, none⟩) 4 4) hW hs h14 rfl hF (by omega) ((Below.refl _ _).alloc (Nat.le_refl _) (.cells #[.slice none 0 0, .slice none 0 0, .slice none 0 0, .slice none 0 0] 23)) ⟨_, _, rfl, ⟨Nat.le_refl _, by decide, fun e => by cases e⟩, box_nils (Box.new _ _ _)⟩)
      · obtain rfl := Option.some.inj (show some _ = some o from ho)
        have p0 := f0 (hp ⟨0, .data⟩ (by simp) rfl)
        have p3 := f3 (hp ⟨3, .data⟩ (by simp) rfl)
        have p6 := f6 (hp ⟨6, .data⟩ (by simp) rfl)
        have p8 := f8 (hp ⟨8, .data⟩ (by simp) rfl)
        have p9 := f9 (hp ⟨9, .data⟩ (by simp) rfl)
        have p10 := f10 (hp ⟨10, .data⟩ (by simp) rfl)
        replace p0 : v0 = .slice A l c := p0
        subst p0
        obtain ⟨B3, d3, rfl, k3, i3⟩ : RowF wr l (List.replicate l 0) v3 := p3
        obtain ⟨B6, d6, rfl, k6, i6⟩ : RowF wr l (List.replicate l 0) v6 := p6
        obtain ⟨B8, d8, rfl, k8, i8⟩ : RowF wr 4 [-1, -1, -1, -1] v8 := p8
        obtain ⟨B9, d9, rfl, k9, i9⟩ : RowF wr 4 (List.replicate 4 0) v9 := p9
        obtain ⟨Ba, da, rfl, ka, ia⟩ : ∃ B d, v10 = .slice B 4 d ∧ SliceOk B 4 d ∧ Chs wr B 4 [[], [], [], []] := p10
        refine wpOp_step ho (fun K hK => ?_)
        go_simp
        exact hK _ _ (JN.put (.agg #[.slice A l c, .slice B3 l d3, .slice B6 l d6, .slice B8 4 d8, .slice B9 4 d9, .slice Ba 4 da]) hW hs h14 rfl hF (by omega) (Below.refl _ _) (show SysAt wr _ (newS ts) from by rw [HE0.out]; exact ⟨_, _, _, _, _, _, _, _, _, _, _, _, _, _, _, _, _, _, rfl, HSl.out, k3, k6, k8, k9, ka, HT.out.below (HB0.out.trans (hW.mono HB0.out.size)), i3, i6, i8, i9, ia⟩))
      · obtain rfl := Option.some.inj (show some _ = some o from ho)
        have p11 := f11 (hp ⟨11, .data⟩ (by simp) rfl)
        replace p11 : SysAt wr v11 (newS ts) := p11
        refine wpOp_step ho (fun K hK => ?_)
        go_simp
        refine (copied_any v11 (newS ts) wr p11 HSm.out).mono ?_
        rintro e w9 ⟨v', rfl, ho9, hb⟩
        exact hK _ _ (JN.put (v') hW hs h14 rfl hF (by omega) hb ⟨_, ho9.toM⟩)
      · obtain rfl := Option.some.inj (show some _ = some o from ho)
        refine wpOp_step ho (fun K hK => ?_)
        go_simp
        exact hK _ _ (JN.put (.pointer (some ⟨wr.heap.size, 0, none⟩)) hW hs h14 rfl hF (by omega) ((Below.refl _ _).alloc (Nat.le_refl _) (.cells #[.slice none 0 0, .slice none 0 0, .slice none 0 0, .slice none 0 0, .slice none 0 0, .slice none 0 0] 26)) ⟨_, rfl, hW.size, Box.new _ _ _⟩)
      · obtain rfl := Option.some.inj (show some _ = some o from ho)
        have p0 := hp ⟨0, .phase⟩ (by simp) rfl
        have p1 := hp ⟨1, .phase⟩ (by simp) rfl
        have p2 := hp ⟨2, .phase⟩ (by simp) rfl
        have p3 := hp ⟨3, .phase⟩ (by simp) rfl
        have p4 := hp ⟨4, .phase⟩ (by simp) rfl
        have p5 := hp ⟨5, .phase⟩ (by simp) rfl
        have p6 := hp ⟨6, .phase⟩ (by simp) rfl
        have p7 := hp ⟨7, .phase⟩ (by simp) rfl
        have p8 := hp ⟨8, .phase⟩ (by simp) rfl
        have p9 := hp ⟨9, .phase⟩ (by simp) rfl
        have p10 := hp ⟨10, .phase⟩ (by simp) rfl
        have p11 := hp ⟨11, .phase⟩ (by simp) rfl
        have p12 := hp ⟨12, .phase⟩ (by simp) rfl
        have p13 := hp ⟨13, .phase⟩ (by simp) rfl
        obtain ⟨g, rfl, hg, hbx⟩ : ∃ g, v13 = .pointer (some ⟨g, 0, none⟩) ∧ (w.alloc (.cells #[.slice none 0 0, .slice none 0 0, .slice none 0 0, .slice none 0 0, .slice none 0 0, .slice none 0 0] 26)).drew.heap.size ≤ g ∧ Box wr g 26 #[.slice none 0 0, .slice none 0 0, .slice none 0 0, .slice none 0 0, .slice none 0 0, .slice none 0 0] := f13 p13
        obtain ⟨M, hM⟩ : ∃ M, OwnM M wr v12 (newS ts) := f12 p12
        obtain ⟨A0, c0, A1, c1, A2, c2, A3, c3, A4, c4, A5, c5, rs0, rs5, rfl, hpp⟩ := id hM
        have hX := set6_grown wr g (.slice A0 (newS ts).th.length c0) (.slice A1 (newS ts).pc.length c1) (.slice A2 (newS ts).su.length c2) (.slice A3 (newS ts).lo.length c3) (.slice A4 (newS ts).ce.length c4) (.slice A5 (newS ts).ch.length c5)
        have hM2 := OwnM.box_gr hM hbx hX
        have hB2 := ((((((hbx.put 0 (.slice A0 (newS ts).th.length c0)).put 1 (.slice A1 (newS ts).pc.length c1)).put 2 (.slice A2 (newS ts).su.length c2)).put 3 (.slice A3 (newS ts).lo.length c3)).put 4 (.slice A4 (newS ts).ce.length c4)).put 5 (.slice A5 (newS ts).ch.length c5))
        have hW2 := (((((hW.setCell (p := ⟨g, 0, none⟩) hg (.slice A0 (newS ts).th.length c0)).setCell (p := ⟨g, 1, none⟩) hg (.slice A1 (newS ts).pc.length c1)).setCell (p := ⟨g, 2, none⟩) hg (.slice A2 (newS ts).su.length c2)).setCell (p := ⟨g, 3, none⟩) hg (.slice A3 (newS ts).lo.length c3)).setCell (p := ⟨g, 4, none⟩) hg (.slice A4 (newS ts).ce.length c4)).setCell (p := ⟨g, 5, none⟩) hg (.slice A5 (newS ts).ch.length c5)
        obtain ⟨m0, m1, m2, m3, m4, m5⟩ := hbx.six
        have q0 := hbx.free 0
        have q1 := hbx.free 1
        have q2 := hbx.free 2
        have q3 := hbx.free 3
        have q4 := hbx.free 4
        have q5 := hbx.free 5
        have hall := all14 hs (fun i hi => match i, hi with
          | 0, _ => p0
          | 1, _ => p1
          | 2, _ => p2
          | 3, _ => p3
          | 4, _ => p4
          | 5, _ => p5
          | 6, _ => p6
          | 7, _ => p7
          | 8, _ => p8
          | 9, _ => p9
          | 10, _ => p10
          | 11, _ => p11
          | 12, _ => p12
          | 13, _ => p13
          | _ + 14, h => absurd h (by omega))
        have HF := Lib.hid hW2
        have HA := Lib.hid hall
        have HBx := Lib.hid hB2
        have HMx := Lib.hid hM2
        have HSz := Lib.hid (show (listed.setIfInBounds 14 true).size = 15 by simpa using hs)
        have HG := Lib.hid hg
        refine wpOp_step ho (fun K hK => ?_)
        have HK := Lib.hid hK
        clear hK hW2 hall hB2 hM2 hs hg hX hpp hbx hM hp hF hun hW h14 p0 p1 p2 p3 p4 p5 p6 p7 p8 p9 p10 p11 p12 p13 f0 f1 f2 f3 f4 f5 f6 f7 f8 f9 f10 f11 f12 f13 ho hi
        go_simp
        exact HK.out _ _ ⟨HF.out, HSz.out, .inr ⟨HA.out, [v0, v1, v2, v3, v4, v5, v6, v7, v8, v9, v10, v11, _, _], g, _, M, rfl, rfl, rfl, HG.out, HBx.out, HMx.out⟩⟩
    · have := hall i hi
      rw [getD_both hun] at this
      cases this
  case done =>
    intro listed a wr hJ hall
    obtain ⟨hW, hs, ⟨h14, -⟩ | ⟨-, L, g, cs, M, hL, h13, rfl, hg, hbx, hM⟩⟩ := hJ
    · rw [hall 14 (by decide)] at h14; cases h14
    · obtain ⟨v0, v1, v2, v3, v4, v5, v6, v7, v8, v9, v10, v11, v12, v13, rfl⟩ := list14 hL
      replace h13 : v13 = .pointer (some ⟨g, 0, none⟩) := h13
      subst h13
      obtain ⟨w2, hw2⟩ : ∃ x : World, x = wr := ⟨_, rfl⟩
      subst hw2
      have HB2 := Lib.hid (HB0.out.trans (hW.mono HB0.out.size))
      have R2 := Lib.hid (R0.out.keep hW)
      have hne : g ≠ w.heap.size := by have := HB0.out.size; have := R0.out.lt; omega
      obtain ⟨B0, d0, B1, d1, B2, d2, B3, d3, B4, d4, B5, d5, rs0, rs5, hcs, hpp⟩ := id hM
      injection hcs with hcs
      subst hcs
      have HM := Lib.hid hM
      have Y2 := Lib.hid hbx
      have HR := Lib.hid (right20_any _ (newS ts) w2 (OwnSys.at hM.sys HNu.out))
      clear hW hs hg hbx hM hpp hall hL
      obtain ⟨y0, y1, y2, y3, y4, y5⟩ := Y2.out.six
      go_wp2_with fail
      refine HR.out.mono ?_
      rintro e w3 ⟨rfl, hb⟩
      have R3 := Lib.hid (R2.out.keep hb)
      have Y3 := Lib.hid (Y2.out.keep hb)
      have M3 := Lib.hid (HM.out.keepB hb)
      have HB3 := Lib.hid (chain HB2.out hb)
      clear hb y0 y1 y2 y3 y4 y5 HR R2 Y2 HM HB2
      obtain ⟨m0, m1, m2, m3, m4, m5⟩ := R3.out.six
      have f0 := R3.out.free 0
      have f1 := R3.out.free 1
      have f2 := R3.out.free 2
      have f3 := R3.out.free 3
      have f4 := R3.out.free 4
      have f5 := R3.out.free 5
      obtain ⟨y0, y1, y2, y3, y4, y5⟩ := Y3.out.six
      cases hr : rightS (newS ts) with
      | false =>
        have HE := Lib.hid (show newRes ts = (1, sys0) by unfold newRes; rw [hr]; rfl)
        have XF := Lib.hid (((((((R3.out.put 0 (.slice none 0 0)).put 1 (.slice none 0 0)).put 2 (.slice none 0 0)).put 3 (.slice none 0 0)).put 4 (.slice none 0 0)).put 5 (.slice none 0 0)))
        have BF := Lib.hid (((((((HB3.out.setCell (p := ⟨w.heap.size, 0, none⟩) (Nat.le_refl _) (.slice none 0 0)).setCell (p := ⟨w.heap.size, 1, none⟩) (Nat.le_refl _) (.slice none 0 0)).setCell (p := ⟨w.heap.size, 2, none⟩) (Nat.le_refl _) (.slice none 0 0)).setCell (p := ⟨w.heap.size, 3, none⟩) (Nat.le_refl _) (.slice none 0 0)).setCell (p := ⟨w.heap.size, 4, none⟩) (Nat.le_refl _) (.slice none 0 0)).setCell (p := ⟨w.heap.size, 5, none⟩) (Nat.le_refl _) (.slice none 0 0)))
        clear hr
        go_wp2_with fail
        refine close_cell Try.results10 rfl rfl rfl XF.out Try.underlying26 rfl (by kernel_rfl) ?_
        unfold NewOut
        rw [HE.out]
        exact ⟨zeroV, rfl, zeroV_at _, BF.out⟩
      | true =>
        have HE := Lib.hid (show newRes ts = (0, newS ts) by unfold newRes; rw [if_pos hr])
        have OF := Lib.hid (OwnM.box_gr M3.out R3.out (set6_grown w3 w.heap.size (.slice B0 (newS ts).th.length d0) (.slice B1 (newS ts).pc.length d1) (.slice B2 (newS ts).su.length d2) (.slice B3 (newS ts).lo.length d3) (.slice B4 (newS ts).ce.length d4) (.slice B5 (newS ts).ch.length d5)))
        have XF := Lib.hid (((((((R3.out.put 0 (.slice B0 (newS ts).th.length d0)).put 1 (.slice B1 (newS ts).pc.length d1)).put 2 (.slice B2 (newS ts).su.length d2)).put 3 (.slice B3 (newS ts).lo.length d3)).put 4 (.slice B4 (newS ts).ce.length d4)).put 5 (.slice B5 (newS ts).ch.length d5)))
        have BF := Lib.hid (((((((HB3.out.setCell (p := ⟨w.heap.size, 0, none⟩) (Nat.le_refl _) (.slice B0 (newS ts).th.length d0)).setCell (p := ⟨w.heap.size, 1, none⟩) (Nat.le_refl _) (.slice B1 (newS ts).pc.length d1)).setCell (p := ⟨w.heap.size, 2, none⟩) (Nat.le_refl _) (.slice B2 (newS ts).su.length d2)).setCell (p := ⟨w.heap.size, 3, none⟩) (Nat.le_refl _) (.slice B3 (newS ts).lo.length d3)).setCell (p := ⟨w.heap.size, 4, none⟩) (Nat.le_refl _) (.slice B4 (newS ts).ce.length d4)).setCell (p := ⟨w.heap.size, 5, none⟩) (Nat.le_refl _) (.slice B5 (newS ts).ch.length d5)))
        clear hr
        go_wp2_with fail
        refine close_cell Try.results10 rfl rfl rfl XF.out Try.underlying26 rfl (by kernel_rfl) ?_
        unfold NewOut
        rw [HE.out]
        exact ⟨_, rfl, OwnSys.at OF.out.sys HNu.out, BF.out⟩
end Go.Proofs.Ytcamoigcfiemhaa
