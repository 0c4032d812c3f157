/- Parts: Re4, BsP, PopM, BitT, Plc, Oc, Tz, Ones, OnesP, OnesQ, Bs1. -/
import Derived.Test.YtdfmogcgangdnaaDoorZe
import Derived.ArgAppend
import Derived.IntWalk
import Derived.Laws.BitsAllLaws
import Derived.LoopIn
import Derived.LoopNIn
import Derived.Maps.AppendAt
import Derived.OwnWalkIn
import Derived.RangeFuncBound
import Derived.RangeFuncBox
import Derived.RangeFuncCalls
import Derived.RangeFuncLeaves
import Derived.RangeFuncNested
import Derived.Shelf.Abstract
import Derived.Shelf.RegionOpen
import Derived.TacticsInMore
namespace Go.Proofs.YtdfmogcgangdnaaDoor
section
/- The reference's with. -/
set_option linter.unusedVariables false
set_option linter.unusedSimpArgs false
open Go.RowKit
set_option maxRecDepth 100000
/-- A row of the reference's: its words are the argument's (at the world w0) or its own. -/
def RowQ (w0 w : World) (N : Nat) (r : RowV) (x : Nat) : Prop := r.1 = (N : Int) ∧ SliceOk r.2.1 r.2.2.1 r.2.2.2 ∧ (Words w0 r.2.1 r.2.2.1 (rowOf N x) ∨ OwnW w r.2.1 r.2.2.1 r.2.2.2 (rowOf N x))
def RowsQ (w0 w : World) (base : Nat) (v : Value) (N : Nat) (K : List Nat) : Prop :=
  ∃ rs : List RowV, rs.length = K.length ∧ w.ownsRow base 27 2 v K.length (rowCells rs) ∧ ∀ j, j < K.length → RowQ w0 w N (rs.getD j (0, none, 0, 0)) (K.getD j 0)
theorem RowQ.below {w0 w w' : World} {N : Nat} {r : RowV} {x : Nat} (h : RowQ w0 w N r x) (hb : Below w.heap.size w w') : RowQ w0 w' N r x := ⟨h.1, h.2.1, h.2.2.imp id (fun o => o.below hb)⟩
theorem RowsQ.below {w0 w w' : World} {base : Nat} {v : Value} {N : Nat} {K : List Nat} (h : RowsQ w0 w base v N K) (hb : Below w.heap.size w w') : RowsQ w0 w' base v N K := by
  obtain ⟨rs, h1, h2, h3⟩ := h
  exact ⟨rs, h1, own_keep h2 hb, fun j hj => (h3 j hj).below hb⟩
theorem RowsQ.appended {w0 w : World} {base : Nat} {v : Value} {N : Nat} {K : List Nat} {B : Option Addr} {l d y : Nat} (h : RowsQ w0 w base v N K) (hn : RowQ w0 w N ((N : Int), B, l, d) y) :
    ∃ rs : List RowV, (w.alloc (.cells #[.int .i64 (N : Int), .slice B l d] 27)).ownsRow base 27 2 v K.length (rowCells rs) ∧ ∀ v' w1, w1.ownsRow base 27 2 v' (K.length + 1) (rowCells rs ++ [.int .i64 (N : Int), .slice B l d]) → (w.alloc (.cells #[.int .i64 (N : Int), .slice B l d] 27)).grownBy w1 v.ownBlock → RowsQ w0 w1 base v' N (K ++ [y]) := by
  obtain ⟨rs, h1, h2, h3⟩ := h
  have h2' := World.ownsRow.alloc h2 (.cells #[.int .i64 (N : Int), .slice B l d] 27)
  have al : Below w.heap.size w (w.alloc (.cells #[.int .i64 (N : Int), .slice B l d] 27)) := (Below.refl _ _).alloc (Nat.le_refl _) _
  refine ⟨rs, h2', fun v' w1 ho hg => ⟨rs ++ [((N : Int), B, l, d)], by simp [h1], by rw [rowCells_snoc, List.length_append]; exact ho, fun j hj => ?_⟩⟩
  have gr : ∀ {r : RowV} {x : Nat}, RowQ w0 w N r x → RowQ w0 w1 N r x := fun q => ⟨q.1, q.2.1, q.2.2.imp id (fun o => (o.below al).grown h2' (by decide) hg)⟩
  rw [List.length_append] at hj
  by_cases hm : j < K.length
  · have e1 : (rs ++ [((N : Int), B, l, d)]).getD j (0, none, 0, 0) = rs.getD j (0, none, 0, 0) := by simp only [List.getD]; rw [List.getElem?_append_left (by omega)]
    have e2 : (K ++ [y]).getD j 0 = K.getD j 0 := by simp only [List.getD]; rw [List.getElem?_append_left (by omega)]
    rw [e1, e2]; exact gr (h3 j hm)
  · obtain rfl : j = K.length := by simp at hj; omega
    have e1 : (rs ++ [((N : Int), B, l, d)]).getD K.length (0, none, 0, 0) = ((N : Int), B, l, d) := by rw [← h1]; simp [List.getD]
    have e2 : (K ++ [y]).getD K.length 0 = y := by simp [List.getD]
    rw [e1, e2]; exact gr hn
theorem RowsQ.mat {w0 w : World} {base : Nat} {v : Value} {N : Nat} {K : List Nat} (h : RowsQ w0 w base v N K) {B : Nat} (hB : w0.heap.size ≤ B) (hb : Below B w0 w) : ∃ A c, v = .slice A K.length c ∧ K.length ≤ c ∧ MatAt w 0 A K.length (mkM N K) := by
  obtain ⟨rs, h1, h2, h3⟩ := h
  obtain ⟨A, c, e, hc, hm⟩ := own_mat h2 h1 (mkM N K) (mkM_len N K) (fun j hj => by
    obtain ⟨a1, a2, a3⟩ := h3 j hj
    rw [mkM_at N K j hj]
    exact ⟨a1, a2, by rcases a3 with a3 | a3; exact a3.mono hB hb; exact a3.words (rowOf_lt N _)⟩)
  exact ⟨A, c, e, hc, hm.low (Nat.zero_le _)⟩
/-- The rows ahead of the new one, i of the old ones looked at. -/
def withP (L : List Nat) (z a m i : Nat) : List Nat := (L.take (min i m)).map (fun x => if x.testBit a then x ^^^ z else x)
theorem withP_lt (L : List Nat) (z a m i : Nat) (hi : i < m) (hl : i < L.length) : withP L z a m (i + 1) = withP L z a m i ++ [if (L.getD i 0).testBit a then L.getD i 0 ^^^ z else L.getD i 0] := by
  unfold withP
  rw [Nat.min_eq_left (by omega), Nat.min_eq_left (by omega), List.take_succ_eq_append_getElem hl, List.map_append]
  simp [List.getD, hl]
theorem withP_ge (L : List Nat) (z a m i : Nat) (hi : m ≤ i) : withP L z a m (i + 1) = withP L z a m i := by
  unfold withP
  rw [Nat.min_eq_right (by omega), Nat.min_eq_right (by omega)]
theorem withP_len (L : List Nat) (z a m i : Nat) : (withP L z a m i).length ≤ L.length := by
  unfold withP; rw [List.length_map, List.length_take]; omega
/-- The rows behind it. -/
def withD (L : List Nat) (m i : Nat) : List Nat := (L.drop m).take (i - m)
theorem withD_lt (L : List Nat) (m i : Nat) (hi : i < m) : withD L m (i + 1) = withD L m i := by
  unfold withD; rw [show i + 1 - m = 0 by omega, show i - m = 0 by omega]
theorem withD_ge (L : List Nat) (m i : Nat) (hi : m ≤ i) (hl : i < L.length) : withD L m (i + 1) = withD L m i ++ [L.getD i 0] := by
  unfold withD
  rw [show i + 1 - m = (i - m) + 1 by omega, List.take_succ_eq_append_getElem (by rw [List.length_drop]; omega)]
  simp [List.getD, hl, show m + (i - m) = i by omega]
theorem withD_len (L : List Nat) (m i : Nat) : (withD L m i).length ≤ L.length := by
  unfold withD; rw [List.length_take, List.length_drop]; omega
theorem with_all (L : List Nat) (z a m : Nat) (hm : m ≤ L.length) : (withP L z a m L.length ++ [z]) ++ withD L m L.length = putW L z a m := by
  unfold withP withD putW
  have e : (L.drop m).take (L.length - m) = L.drop m := List.take_of_length_le (by rw [List.length_drop]; omega)
  rw [Nat.min_eq_right hm, e]
  simp
theorem own_empty4 (W : World) (base e : Nat) (hb : base ≤ W.heap.size) : (W.alloc (.cells #[] e)).ownsRow base e 2 (.slice (some ⟨W.heap.size, 0, none⟩) 0 0) 0 [] :=
  ⟨by simp, .inr ⟨W.heap.size, 0, #[], rfl, hb, heap_alloc_new W _, Nat.le_refl _, Nat.zero_le _, by simp, by simp⟩⟩
/-- What with hands back. -/
def WithOut (N : Nat) (K : List Nat) (w : World) (e : Ending) (w' : World) : Prop :=
  ∃ A c, e = .returned (.slice A K.length c) ∧ MatAt w' 0 A K.length (mkM N K) ∧ Below w.heap.size w w'
end
section
/- Rows with their blocks in memory: pairs and owners. -/
set_option linter.unusedVariables false
set_option linter.unusedSimpArgs false
open Go.RowKit
set_option maxRecDepth 100000
/-- A column put out of the first i. -/
def clrU (c : Nat) (f : PV) (L : List PV) (i : Nat) : List PV := (clrP c f L).take i ++ L.drop i
theorem clrU_len (c : Nat) (f : PV) (L : List PV) (i : Nat) (hi : i ≤ L.length) : (clrU c f L i).length = L.length := by
  simp [clrU, clrP_len]; omega
theorem clrU_zero (c : Nat) (f : PV) (L : List PV) : clrU c f L 0 = L := by simp [clrU]
theorem clrU_all (c : Nat) (f : PV) (L : List PV) : clrU c f L L.length = clrP c f L := by
  unfold clrU
  rw [List.take_of_length_le (by rw [clrP_len]; exact Nat.le_refl _), List.drop_length, List.append_nil]
theorem clrP_get (c : Nat) (f : PV) (L : List PV) (i : Nat) (h : i < L.length) : (clrP c f L)[i]'(by rw [clrP_len]; exact h) = if (L.getD i pv0).1.testBit c then plusP (L.getD i pv0) f else L.getD i pv0 := by
  simp [clrP, List.getD, h]
theorem clrU_here (c : Nat) (f : PV) (L : List PV) (i : Nat) (h : i < L.length) : (clrU c f L i).getD i pv0 = L.getD i pv0 := by
  have e : ((clrP c f L).take i).length = i := by rw [List.length_take, clrP_len]; omega
  simp only [List.getD, clrU]
  rw [List.getElem?_append_right (by omega), e, Nat.sub_self, List.getElem?_drop]; simp
theorem clrU_no (c : Nat) (f : PV) (L : List PV) (i : Nat) (h : i < L.length) (hb : (L.getD i pv0).1.testBit c = false) : clrU c f L (i + 1) = clrU c f L i := by
  unfold clrU
  have hi : i < (clrP c f L).length := by rw [clrP_len]; exact h
  rw [List.take_succ_eq_append_getElem hi, clrP_get c f L i h, hb, List.drop_eq_getElem_cons h]
  simp [List.getD, h]
theorem clrU_yes (c : Nat) (f : PV) (L : List PV) (i : Nat) (h : i < L.length) (hb : (L.getD i pv0).1.testBit c = true) : clrU c f L (i + 1) = (clrU c f L i).set i (plusP (L.getD i pv0) f) := by
  unfold clrU
  have hi : i < (clrP c f L).length := by rw [clrP_len]; exact h
  have e : ((clrP c f L).take i).length = i := by rw [List.length_take, clrP_len]; omega
  rw [List.take_succ_eq_append_getElem hi, clrP_get c f L i h, if_pos hb, List.set_append, if_neg (by omega), e, Nat.sub_self, List.drop_eq_getElem_cons h, List.set_cons_zero, List.append_assoc]
  rfl
theorem clrU_good {N n c : Nat} {f : PV} {L : List PV} (hf : GoodP N n f) (hL : ∀ p ∈ L, GoodP N n p) (i : Nat) : ∀ p ∈ clrU c f L i, GoodP N n p := fun p hp => by
  rcases List.mem_append.1 hp with h | h
  · exact clrP_good hf hL p (List.mem_of_mem_take h)
  · exact hL p (List.mem_of_mem_drop h)
theorem set_getD (L : List PV) (i j : Nat) (p : PV) (h : j < L.length) : (L.set i p).getD j pv0 = if i = j then p else L.getD j pv0 := by
  simp only [List.getD, List.getElem?_set]
  by_cases e : i = j
  · subst e; simp [h]
  · simp [e]
/-- A row of cells at the head of a block of the call's own. -/
def CellsRow (w : World) (base : Nat) (t : TypeId) (v : Value) (n : Nat) (xs : List Value) : Prop :=
  ∃ A c, v = .slice A n c ∧ n ≤ c ∧ c ≤ maxLen ∧ (0 < n → ∃ g cur, A = some ⟨g, 0, none⟩ ∧ base ≤ g ∧ Box w g t cur ∧ cur.toList.take xs.length = xs)
section
variable {w w' : World} {base n : Nat} {t : TypeId} {v : Value} {xs : List Value}
theorem CellsRow.of {sz : Nat} (h : w.ownsRow base t sz v n xs) : CellsRow w base t v n xs := by
  rcases h.2 with ⟨hv, hz⟩ | ⟨g, cap, cur, hv, hb, hh, hc, hm, h1, h2⟩
  · exact ⟨none, 0, by rw [hv, hz], by omega, by simp [maxLen], fun h => by omega⟩
  · exact ⟨some ⟨g, 0, none⟩, cap, hv, hc, hm, fun _ => ⟨g, cur, rfl, hb, hh, by rw [h.1]; exact h2⟩⟩
theorem CellsRow.keep (h : CellsRow w base t v n xs) (hb : Below w.heap.size w w') : CellsRow w' base t v n xs := by
  obtain ⟨A, c, h1, h2, h3, h4⟩ := h
  exact ⟨A, c, h1, h2, h3, fun hn => by obtain ⟨g, cur, a, b, d, e⟩ := h4 hn; exact ⟨g, cur, a, b, d.keep hb, e⟩⟩
theorem CellsRow.far (h : CellsRow w base t v n xs) {g : Nat} {t' : TypeId} {cs : Array Value} (hb : Box w g t' cs) (hne : t ≠ t') (i : Nat) (u : Value) : CellsRow (w.setCell ⟨g, i, none⟩ u) base t v n xs := by
  obtain ⟨A, c, h1, h2, h3, h4⟩ := h
  refine ⟨A, c, h1, h2, h3, fun hn => ?_⟩
  obtain ⟨g', cur, a, b, d, e⟩ := h4 hn
  have : g' ≠ g := fun e => by
    subst e
    unfold Box at hb d
    rw [hb] at d
    injection d with d
    injection d with _ d
    exact hne d.symm
  exact ⟨g', cur, a, b, d.far this u, e⟩
theorem CellsRow.put {g c : Nat} (h : CellsRow w base t (.slice (some ⟨g, 0, none⟩) n c) n xs) (hn : 0 < n) (i : Nat) (u : Value) : CellsRow (w.setCell ⟨g, i, none⟩ u) base t (.slice (some ⟨g, 0, none⟩) n c) n (xs.set i u) := by
  obtain ⟨A, c', h1, h2, h3, h4⟩ := h
  obtain ⟨g', cur, a, b, d, e⟩ := h4 hn
  injection h1 with h1 _ h1'
  rw [← h1] at a
  injection a with a
  injection a with a
  subst a
  subst h1'
  refine ⟨_, c, rfl, h2, h3, fun _ => ⟨g, _, rfl, b, d.put i u, ?_⟩⟩
  rw [Array.toList_setIfInBounds, List.length_set, List.take_set, e]
  
theorem CellsRow.take (h : CellsRow w base t v n xs) {A : Option Addr} {c : Nat} (hv : v = .slice A n c) (m : Nat) (hm : m ≤ n) (c' : Nat) (h1 : m ≤ c') (h2 : c' ≤ c) (k : Nat) : CellsRow w base t (.slice A m c') m (xs.take k) := by
  subst hv
  obtain ⟨A', c'', h3, h4, h5, h6⟩ := h
  injection h3 with h3 _ h3'
  subst h3 h3'
  refine ⟨A, c', rfl, h1, by omega, fun hp => ?_⟩
  obtain ⟨g, cur, a, b, d, e⟩ := h6 (by omega)
  refine ⟨g, cur, a, b, d, ?_⟩
  have : (xs.take k).length = min k xs.length := List.length_take
  rw [this, ← List.take_take, e]
theorem CellsRow.cell {g c : Nat} (h : CellsRow w base t (.slice (some ⟨g, 0, none⟩) n c) n xs) (hn : 0 < n) (i : Nat) (u : Value) (hi : xs[i]? = some u) : w.cell? ⟨g, i, none⟩ = some u ∧ w.frozen? ⟨g, i, none⟩ = false := by
  obtain ⟨A, c', h1, h2, h3, h4⟩ := h
  obtain ⟨g', cur, a, b, d, e⟩ := h4 hn
  injection h1 with h1 _ h1'
  rw [← h1] at a
  injection a with a
  injection a with a
  subst a
  refine ⟨?_, d.free i⟩
  rw [d.cell i]
  rw [← e] at hi
  obtain ⟨hl, -⟩ := List.getElem?_eq_some_iff.1 hi
  rw [List.getElem?_take_of_lt (by rw [List.length_take] at hl; omega)] at hi
  simpa using hi
theorem CellsRow.form (h : CellsRow w base t v n xs) (hn : 0 < n) : ∃ g c, v = .slice (some ⟨g, 0, none⟩) n c ∧ base ≤ g ∧ n ≤ c ∧ c ≤ maxLen ∧ ∃ cur, Box w g t cur := by
  obtain ⟨A, c, h1, h2, h3, h4⟩ := h
  obtain ⟨g, cur, a, b, d, e⟩ := h4 hn
  subst a
  exact ⟨g, c, h1, b, h2, h3, cur, d⟩
theorem CellsRow.form0 (h : CellsRow w base t v n xs) : ∃ A c, v = .slice A n c ∧ n ≤ c ∧ c ≤ maxLen := by
  obtain ⟨A, c, h1, h2, h3, h4⟩ := h
  exact ⟨A, c, h1, h2, h3⟩
end
/-- The cells of a pair. -/
def prV (r : RowV) (s : ByteArray) : List Value := [.int .i64 r.1, .slice r.2.1 r.2.2.1 r.2.2.2, .string s]
def prC : List RowV → List PV → List Value
  | r :: rs, p :: L => .int .i64 r.1 :: .slice r.2.1 r.2.2.1 r.2.2.2 :: .string p.2 :: prC rs L
  | _, _ => []
theorem prC_len : ∀ (rs : List RowV) (L : List PV), rs.length = L.length → (prC rs L).length = L.length * 3
  | [], [], _ => rfl
  | r :: rs, p :: L, h => by simp only [prC, List.length_cons, prC_len rs L (by simpa using h)]; omega
theorem prC_at : ∀ (rs : List RowV) (L : List PV), rs.length = L.length → ∀ i, i < L.length → (prC rs L)[i * 3]? = some (.int .i64 (rs.getD i (0, none, 0, 0)).1) ∧ (prC rs L)[i * 3 + 1]? = some (.slice (rs.getD i (0, none, 0, 0)).2.1 (rs.getD i (0, none, 0, 0)).2.2.1 (rs.getD i (0, none, 0, 0)).2.2.2) ∧ (prC rs L)[i * 3 + 2]? = some (.string (L.getD i pv0).2)
  | [], [], _, i, h => by cases h
  | r :: rs, p :: L, _, 0, _ => ⟨rfl, rfl, rfl⟩
  | r :: rs, p :: L, h, i + 1, hi => by
    have ih := prC_at rs L (by simpa using h) i (by simpa using hi)
    rw [show (i + 1) * 3 = i * 3 + 3 by omega]
    simp only [prC]
    exact ⟨ih.1, ih.2.1, ih.2.2⟩
theorem prC_set : ∀ (rs : List RowV) (L : List PV), rs.length = L.length → ∀ i, i < L.length → ∀ (r : RowV) (p : PV), (((prC rs L).set (i * 3) (.int .i64 r.1)).set (i * 3 + 1) (.slice r.2.1 r.2.2.1 r.2.2.2)).set (i * 3 + 2) (.string p.2) = prC (rs.set i r) (L.set i p)
  | [], [], _, i, h, _, _ => by cases h
  | r0 :: rs, p0 :: L, _, 0, _, r, p => rfl
  | r0 :: rs, p0 :: L, h, i + 1, hi, r, p => by
    have ih := prC_set rs L (by simpa using h) i (by simpa using hi) r p
    rw [show (i + 1) * 3 = i * 3 + 3 by omega, show i * 3 + 3 + 1 = i * 3 + 1 + 3 by omega, show i * 3 + 3 + 2 = i * 3 + 2 + 3 by omega]
    simp only [prC, List.set_cons_succ]
    rw [ih]
theorem prC_snoc : ∀ (rs : List RowV) (L : List PV), rs.length = L.length → ∀ (r : RowV) (p : PV), prC (rs ++ [r]) (L ++ [p]) = prC rs L ++ prV r p.2
  | [], [], _, r, p => rfl
  | r0 :: rs, p0 :: L, h, r, p => by simp only [List.cons_append, prC, prC_snoc rs L (by simpa using h) r p]
theorem prC_take : ∀ (rs : List RowV) (L : List PV), rs.length = L.length → ∀ i, (prC rs L).take (i * 3) = prC (rs.take i) (L.take i)
  | [], [], _, i => by simp [prC]
  | r0 :: rs, p0 :: L, _, 0 => by simp [prC]
  | r0 :: rs, p0 :: L, h, i + 1 => by
    rw [show (i + 1) * 3 = i * 3 + 3 by omega]
    simp only [prC, List.take_succ_cons]
    rw [prC_take rs L (by simpa using h) i]
theorem prC_drop : ∀ (rs : List RowV) (L : List PV), rs.length = L.length → ∀ i, (prC rs L).drop (i * 3) = prC (rs.drop i) (L.drop i)
  | [], [], _, i => by simp [prC]
  | r0 :: rs, p0 :: L, _, 0 => by simp [prC]
  | r0 :: rs, p0 :: L, h, i + 1 => by
    rw [show (i + 1) * 3 = i * 3 + 3 by omega]
    simp only [prC, List.drop_succ_cons]
    rw [prC_drop rs L (by simpa using h) i]
theorem prC_app : ∀ (rs : List RowV) (L : List PV), rs.length = L.length → ∀ (ss : List RowV) (M : List PV), prC (rs ++ ss) (L ++ M) = prC rs L ++ prC ss M
  | [], [], _, ss, M => rfl
  | r0 :: rs, p0 :: L, h, ss, M => by simp only [List.cons_append, prC, prC_app rs L (by simpa using h) ss M]
/-- A row of pairs: its words are the argument's (at the world w0) or the call's own. -/
def PairsQ (w0 w : World) (base : Nat) (v : Value) (N : Nat) (L : List PV) : Prop :=
  ∃ rs : List RowV, rs.length = L.length ∧ CellsRow w base 84 v L.length (prC rs L) ∧ ∀ j, j < L.length → RowQ w0 w N (rs.getD j (0, none, 0, 0)) (L.getD j pv0).1
theorem RowQ.words {w0 w : World} {N : Nat} {r : RowV} {x : Nat} (h : RowQ w0 w N r x) {B : Nat} (hB : w0.heap.size ≤ B) (hb : Below B w0 w) : Words w r.2.1 r.2.2.1 (rowOf N x) := by
  rcases h.2.2 with a | a
  · exact a.mono hB hb
  · exact a.words (rowOf_lt N _)
theorem RowQ.far {w0 w : World} {N : Nat} {r : RowV} {x : Nat} (h : RowQ w0 w N r x) {g : Nat} {t : TypeId} {cs : Array Value} (hb : Box w g t cs) (hne : 63 ≠ t) (i : Nat) (u : Value) : RowQ w0 (w.setCell ⟨g, i, none⟩ u) N r x := ⟨h.1, h.2.1, h.2.2.imp id (fun o => o.far hb hne i u)⟩
section
variable {w0 w w' : World} {base : Nat} {v : Value} {N : Nat} {L : List PV}
theorem PairsQ.keep (h : PairsQ w0 w base v N L) (hb : Below w.heap.size w w') : PairsQ w0 w' base v N L := by
  obtain ⟨rs, h1, h2, h3⟩ := h
  exact ⟨rs, h1, h2.keep hb, fun j hj => (h3 j hj).below hb⟩
theorem PairsQ.far (h : PairsQ w0 w base v N L) {g : Nat} {t : TypeId} {cs : Array Value} (hb : Box w g t cs) (hne : 63 ≠ t) (hne2 : 84 ≠ t) (i : Nat) (u : Value) : PairsQ w0 (w.setCell ⟨g, i, none⟩ u) base v N L := by
  obtain ⟨rs, h1, h2, h3⟩ := h
  exact ⟨rs, h1, h2.far hb hne2 i u, fun j hj => (h3 j hj).far hb hne i u⟩
theorem PairsQ.form (h : PairsQ w0 w base v N L) (hn : 0 < L.length) : ∃ g c, v = .slice (some ⟨g, 0, none⟩) L.length c ∧ base ≤ g ∧ g < w.heap.size ∧ L.length ≤ c ∧ c ≤ maxLen := by
  obtain ⟨rs, h1, h2, h3⟩ := h
  obtain ⟨g, c, a, b, d, e, cur, f⟩ := h2.form hn
  exact ⟨g, c, a, b, f.lt, d, e⟩
theorem PairsQ.form0 (h : PairsQ w0 w base v N L) : ∃ A c, v = .slice A L.length c ∧ L.length ≤ c ∧ c ≤ maxLen := by
  obtain ⟨rs, h1, h2, h3⟩ := h
  exact h2.form0
theorem PairsQ.at {g c : Nat} (h : PairsQ w0 w base (.slice (some ⟨g, 0, none⟩) L.length c) N L) (i : Nat) (hi : i < L.length) :
    ∃ A l d, w.cell? ⟨g, i * 3, none⟩ = some (.int .i64 N) ∧ w.cell? ⟨g, i * 3 + 1, none⟩ = some (.slice A l d) ∧ w.cell? ⟨g, i * 3 + 2, none⟩ = some (.string (L.getD i pv0).2) ∧ RowQ w0 w N ((N : Int), A, l, d) (L.getD i pv0).1 ∧ w.frozen? ⟨g, i * 3, none⟩ = false ∧ w.frozen? ⟨g, i * 3 + 1, none⟩ = false ∧ w.frozen? ⟨g, i * 3 + 2, none⟩ = false := by
  obtain ⟨rs, h1, h2, h3⟩ := h
  obtain ⟨a1, a2, a3⟩ := prC_at rs L h1 i hi
  have q := h3 i hi
  have hn : 0 < L.length := by omega
  have c1 := h2.cell hn _ _ a1
  have c2 := h2.cell hn _ _ a2
  have c3 := h2.cell hn _ _ a3
  rw [q.1] at c1
  refine ⟨_, _, _, c1.1, c2.1, c3.1, ⟨rfl, q.2.1, q.2.2⟩, c1.2, c2.2, c3.2⟩
/-- A pair is put in place of another one. -/
theorem PairsQ.put {g c : Nat} (h : PairsQ w0 w base (.slice (some ⟨g, 0, none⟩) L.length c) N L) (i : Nat) (hi : i < L.length) (p : PV) {A : Option Addr} {l d : Nat} (hw : RowQ w0 w N ((N : Int), A, l, d) p.1) :
    PairsQ w0 (((w.setCell ⟨g, i * 3, none⟩ (.int .i64 N)).setCell ⟨g, i * 3 + 1, none⟩ (.slice A l d)).setCell ⟨g, i * 3 + 2, none⟩ (.string p.2)) base (.slice (some ⟨g, 0, none⟩) L.length c) N (L.set i p) := by
  obtain ⟨rs, h1, h2, h3⟩ := h
  have hn : 0 < L.length := by omega
  obtain ⟨g', c', hv, -, -, -, cur, hbx⟩ := h2.form hn
  injection hv with hv
  injection hv with hv
  injection hv with hv
  subst hv
  have s := ((h2.put hn (i * 3) (.int .i64 N)).put hn (i * 3 + 1) (.slice A l d)).put hn (i * 3 + 2) (.string p.2)
  rw [show (((prC rs L).set (i * 3) (.int .i64 (N : Int))).set (i * 3 + 1) (.slice A l d)).set (i * 3 + 2) (.string p.2) = prC (rs.set i ((N : Int), A, l, d)) (L.set i p) from prC_set rs L h1 i hi ((N : Int), A, l, d) p] at s
  have far : ∀ {r : RowV} {x : Nat}, RowQ w0 w N r x → RowQ w0 (((w.setCell ⟨g, i * 3, none⟩ (.int .i64 N)).setCell ⟨g, i * 3 + 1, none⟩ (.slice A l d)).setCell ⟨g, i * 3 + 2, none⟩ (.string p.2)) N r x := fun q => ((q.far hbx (by decide) _ _).far (hbx.put _ _) (by decide) _ _).far ((hbx.put _ _).put _ _) (by decide) _ _
  refine ⟨rs.set i ((N : Int), A, l, d), by simp [h1], by rw [List.length_set]; exact s, fun j hj => ?_⟩
  rw [List.length_set] at hj
  rw [set_getD L i j p hj]
  by_cases e : i = j
  · subst e
    have e1 : (rs.set i ((N : Int), A, l, d)).getD i (0, none, 0, 0) = ((N : Int), A, l, d) := by simp [List.getD, h1, hi]
    rw [e1, if_pos rfl]
    exact far hw
  · have e1 : (rs.set i ((N : Int), A, l, d)).getD j (0, none, 0, 0) = rs.getD j (0, none, 0, 0) := by simp only [List.getD]; rw [List.getElem?_set_ne e]
    rw [e1, if_neg e]
    exact far (h3 j hj)
end
end
section
/- How many bits of a word are 1, byte by byte, and folded. No program. -/
set_option linter.unusedVariables false
set_option linter.unusedSimpArgs false
/-- A number by its bytes, the lowest first. -/
def valB : List Nat → Nat
  | [] => 0
  | c :: cs => c + 256 * valB cs
theorem valB_and (m : Nat) (hm : m < 256) : ∀ cs : List Nat, (∀ c ∈ cs, c < 256) → valB cs &&& valB (List.replicate cs.length m) = valB (cs.map (· &&& m))
  | [], _ => by simp [valB]
  | c :: cs, h => by
    have hc : c < 256 := h c (by simp)
    have ih := valB_and m hm cs (fun x hx => h x (by simp [hx]))
    have e1 : (valB (c :: cs) &&& valB (List.replicate (c :: cs).length m)) / 2 ^ 8 = valB (c :: cs) / 2 ^ 8 &&& valB (List.replicate (c :: cs).length m) / 2 ^ 8 := Nat.and_div_two_pow
    have e2 : (valB (c :: cs) &&& valB (List.replicate (c :: cs).length m)) % 2 ^ 8 = (valB (c :: cs) % 2 ^ 8) &&& (valB (List.replicate (c :: cs).length m) % 2 ^ 8) := Nat.and_mod_two_pow
    simp only [List.length_cons, List.replicate_succ, valB] at *
    rw [show (c + 256 * valB cs) / 2 ^ 8 = valB cs by omega, show (m + 256 * valB (List.replicate cs.length m)) / 2 ^ 8 = valB (List.replicate cs.length m) by omega, ih] at e1
    rw [show (c + 256 * valB cs) % 2 ^ 8 = c by omega, show (m + 256 * valB (List.replicate cs.length m)) % 2 ^ 8 = m by omega] at e2
    have := Nat.div_add_mod ((c + 256 * valB cs) &&& (m + 256 * valB (List.replicate cs.length m))) (2 ^ 8)
    rw [e1, e2] at this
    simp only [List.map_cons, valB]
    omega
/-- Bytes shifted down by k bits. -/
def shrB (p q : Nat) : List Nat → List Nat
  | [] => []
  | [c] => [c / p]
  | c :: d :: r => (c / p + d % p * q) :: shrB p q (d :: r)
theorem div_cut (c p q y : Nat) (hp : 0 < p) (e : p * q = 256) : (c + 256 * y) / p = c / p + q * y := by
  rw [← e, Nat.mul_assoc, Nat.add_mul_div_left _ _ hp]
theorem shrB_val (p q : Nat) (hp : 0 < p) (e : p * q = 256) : ∀ cs : List Nat, valB (shrB p q cs) = valB cs / p
  | [] => by simp [shrB, valB]
  | [c] => by simp [shrB, valB]
  | c :: d :: r => by
    have ih := shrB_val p q hp e (d :: r)
    show c / p + d % p * q + 256 * valB (shrB p q (d :: r)) = (c + 256 * valB (d :: r)) / p
    rw [ih, div_cut c p q _ hp e, ← e]
    have h1 := Nat.div_add_mod (valB (d :: r)) p
    have h2 : valB (d :: r) % p = d % p := by
      simp only [valB]
      rw [← e, Nat.mul_assoc, Nat.add_mul_mod_self_left]
    rw [h2] at h1
    have h3 : q * valB (d :: r) = q * (p * (valB (d :: r) / p) + d % p) := by rw [h1]
    rw [h3, Nat.mul_add, Nat.mul_comm (d % p) q, ← Nat.mul_assoc q p, Nat.mul_comm q p]
    omega
theorem shrB_len (p q : Nat) : ∀ cs : List Nat, (shrB p q cs).length = cs.length
  | [] => rfl
  | [c] => rfl
  | c :: d :: r => by simp only [shrB, List.length_cons]; rw [shrB_len p q (d :: r)]; rfl
theorem shrB_lt (p q : Nat) (hp : 0 < p) (e : p * q = 256) : ∀ cs : List Nat, (∀ c ∈ cs, c < 256) → ∀ c ∈ shrB p q cs, c < 256
  | [], _ => by simp [shrB]
  | [c], h => by
    intro x hx
    have : x = c / p := by simpa [shrB] using hx
    have := h c (by simp)
    have := Nat.div_le_self c p
    omega
  | c :: d :: r, h => by
    intro x hx
    rcases List.mem_cons.1 (show x ∈ (c / p + d % p * q) :: shrB p q (d :: r) from hx) with rfl | hx
    · have h1 := h c (by simp)
      have h2 : c / p < q := by rw [Nat.div_lt_iff_lt_mul hp, Nat.mul_comm, e]; exact h1
      have h3 : d % p < p := Nat.mod_lt _ hp
      have h4 : (d % p + 1) * q ≤ p * q := Nat.mul_le_mul_right _ h3
      rw [Nat.add_mul, Nat.one_mul, e] at h4
      omega
    · exact shrB_lt p q hp e (d :: r) (fun y hy => h y (by simp [hy])) x hx
theorem valB_add : ∀ xa bs : List Nat, xa.length = bs.length → valB xa + valB bs = valB (List.zipWith (· + ·) xa bs)
  | [], [], _ => rfl
  | a :: xa, b :: bs, h => by
    have ih := valB_add xa bs (by simpa using h)
    simp only [valB, List.zipWith_cons_cons]
    omega
  | [], _ :: _, h => by simp at h
  | _ :: _, [], h => by simp at h
/-- Two masked halves put together, byte by byte. -/
theorem half_map (p q m : Nat) (f : Nat → Nat) (hf : ∀ c, c < 256 → ∀ z, z < p → ((c / p + z * q) &&& m) + (c &&& m) = f c) (hf0 : ∀ c, c < 256 → ((c / p) &&& m) + (c &&& m) = f c) (hp : 0 < p) :
    ∀ cs : List Nat, (∀ c ∈ cs, c < 256) → List.zipWith (· + ·) ((shrB p q cs).map (· &&& m)) (cs.map (· &&& m)) = cs.map f
  | [], _ => rfl
  | [c], h => by simp [shrB, hf0 c (h c (by simp))]
  | c :: d :: r, h => by
    have ih := half_map p q m f hf hf0 hp (d :: r) (fun y hy => h y (by simp [hy]))
    simp only [shrB, List.map_cons, List.zipWith_cons_cons] at *
    rw [ih, hf c (h c (by simp)) (d % p) (Nat.mod_lt _ hp)]
/-- Two halves put together, and masked, byte by byte. -/
theorem both_map : ∀ cs : List Nat, (List.zipWith (· + ·) (shrB 16 16 cs) cs).map (· &&& 15) = cs.map fun c => (c / 16 + c) % 16
  | [] => rfl
  | [c] => by
    simp only [shrB, List.zipWith_cons_cons, List.zipWith_nil_left, List.map_cons, List.map_nil]
    exact congrArg (fun y => [y]) (Nat.and_two_pow_sub_one_eq_mod (c / 16 + c) 4)
  | c :: d :: r => by
    have ih := both_map (d :: r)
    simp only [shrB, List.map_cons, List.zipWith_cons_cons] at *
    rw [ih, show (c / 16 + d % 16 * 16 + c) &&& 15 = (c / 16 + d % 16 * 16 + c) % 2 ^ 4 from Nat.and_two_pow_sub_one_eq_mod _ 4, show (c / 16 + d % 16 * 16 + c) % 2 ^ 4 = (c / 16 + c) % 16 by omega]
theorem both_lt : ∀ cs : List Nat, (∀ c ∈ cs, c / 16 ≤ 4 ∧ c % 16 ≤ 4) → ∀ x ∈ List.zipWith (· + ·) (shrB 16 16 cs) cs, x < 256
  | [], _ => by simp [shrB]
  | [c], h => by
    intro x hx
    have := h c (by simp)
    have : x = c / 16 + c := by simpa [shrB] using hx
    omega
  | c :: d :: r, h => by
    intro x hx
    simp only [shrB, List.zipWith_cons_cons] at hx
    rcases List.mem_cons.1 hx with rfl | hx
    · have h1 := h c (by simp)
      have h2 := h d (by simp)
      omega
    · exact both_lt (d :: r) (fun y hy => h y (by simp [hy])) x hx
def f1 (c : Nat) : Nat := ((c / 2) &&& 85) + (c &&& 85)
def f2 (c : Nat) : Nat := ((c / 4) &&& 51) + (c &&& 51)
/-- How many bits of a byte are 1. -/
def pop8 (c : Nat) : Nat := ((List.range 8).filter c.testBit).length
theorem f1_ok : ∀ c : Fin 256, ∀ z : Fin 2, ((c.val / 2 + z.val * 128) &&& 85) + (c.val &&& 85) = f1 c.val := by decide +kernel
theorem f1_lt : ∀ c : Fin 256, f1 c.val < 171 := by decide +kernel
theorem f2_ok : ∀ c : Fin 256, ∀ z : Fin 4, ((c.val / 4 + z.val * 64) &&& 51) + (c.val &&& 51) = f2 c.val := by decide +kernel
theorem f2_lt : ∀ c : Fin 256, f2 (f1 c.val) / 16 ≤ 4 ∧ f2 (f1 c.val) % 16 ≤ 4 := by decide +kernel
theorem pop_ok : ∀ c : Fin 256, (f2 (f1 c.val) / 16 + f2 (f1 c.val)) % 16 = pop8 c.val := by decide +kernel
theorem pop_le : ∀ c : Fin 256, pop8 c.val ≤ 8 := by decide +kernel
/-- The three steps that count within bytes. -/
def stepA (x : Nat) : Nat := ((x / 2) &&& 6148914691236517205) + (x &&& 6148914691236517205)
def stepB (x : Nat) : Nat := ((x / 4) &&& 3689348814741910323) + (x &&& 3689348814741910323)
def stepC (x : Nat) : Nat := (x / 16 + x) &&& 1085102592571150095
theorem step_half (p q m : Nat) (f : Nat → Nat) (M : Nat) (hm : m < 256) (hp : 0 < p) (e : p * q = 256) (hf : ∀ c : Fin 256, ∀ z : Fin p, ((c.val / p + z.val * q) &&& m) + (c.val &&& m) = f c.val) (cs : List Nat) (h : ∀ c ∈ cs, c < 256) (hM : M = valB (List.replicate cs.length m)) :
    ((valB cs / p) &&& M) + (valB cs &&& M) = valB (cs.map f) := by
  have l1 := shrB_len p q cs
  have e1 := valB_and m hm (shrB p q cs) (shrB_lt p q hp e cs h)
  have e2 := valB_and m hm cs h
  rw [l1, shrB_val p q hp e] at e1
  rw [hM, e1, e2, valB_add _ _ (by simp [l1]), half_map p q m f (fun c hc z hz => hf ⟨c, hc⟩ ⟨z, hz⟩) (fun c hc => by have := hf ⟨c, hc⟩ ⟨0, hp⟩; simpa using this) hp cs h]
theorem steps (cs : List Nat) (h : ∀ c ∈ cs, c < 256) (h8 : cs.length = 8) : stepC (stepB (stepA (valB cs))) = valB (cs.map pop8) ∧ stepA (valB cs) = valB (cs.map f1) ∧ stepB (stepA (valB cs)) = valB (cs.map fun c => f2 (f1 c)) := by
  have a1 : stepA (valB cs) = valB (cs.map f1) := step_half 2 128 85 f1 _ (by decide) (by decide) rfl f1_ok cs h (by rw [h8]; decide)
  have hb : ∀ c ∈ cs.map f1, c < 256 := by
    intro x hx
    obtain ⟨c, hc, rfl⟩ := List.mem_map.1 hx
    have := f1_lt ⟨c, h c hc⟩
    simp only at this
    omega
  have a2 : stepB (valB (cs.map f1)) = valB ((cs.map f1).map f2) := step_half 4 64 51 f2 _ (by decide) (by decide) rfl f2_ok _ hb (by rw [List.length_map, h8]; decide)
  rw [List.map_map] at a2
  refine ⟨?_, a1, by rw [a1, a2]; rfl⟩
  rw [a1, a2]
  unfold stepC
  have hc : ∀ x ∈ cs.map (f2 ∘ f1), x / 16 ≤ 4 ∧ x % 16 ≤ 4 := by
    intro x hx
    obtain ⟨c, hc, rfl⟩ := List.mem_map.1 hx
    exact f2_lt ⟨c, h c hc⟩
  rw [← shrB_val 16 16 (by decide) rfl, valB_add _ _ (by rw [shrB_len])]
  have e3 := valB_and 15 (by decide) _ (both_lt _ hc)
  have hl : (List.zipWith (· + ·) (shrB 16 16 (cs.map (f2 ∘ f1))) (cs.map (f2 ∘ f1))).length = 8 := by simp [shrB_len, h8]
  rw [hl, both_map, List.map_map] at e3
  rw [show (1085102592571150095 : Nat) = valB (List.replicate 8 15) by decide, e3]
  congr 1
  apply List.map_congr_left
  intro c hc
  exact pop_ok ⟨c, h c hc⟩
/-- The bytes of a word. -/
def bytesW (x : Nat) : List Nat := (List.range 8).map fun i => x / 256 ^ i % 256
theorem bytesW_eq (x : Nat) : bytesW x = [x % 256, x / 256 % 256, x / 65536 % 256, x / 16777216 % 256, x / 4294967296 % 256, x / 1099511627776 % 256, x / 281474976710656 % 256, x / 72057594037927936 % 256] := by simp [bytesW, List.range_succ]
theorem bytesW_val (x : Nat) (h : x < 18446744073709551616) : valB (bytesW x) = x := by
  rw [bytesW_eq]
  simp only [valB]
  omega
/-- The sums of bytes, folded. -/
theorem fold_sum (a b c d e f g i : Nat) (h : a ≤ 8 ∧ b ≤ 8 ∧ c ≤ 8 ∧ d ≤ 8 ∧ e ≤ 8 ∧ f ≤ 8 ∧ g ≤ 8 ∧ i ≤ 8) (z t u v : Nat) (hz : z = valB [a, b, c, d, e, f, g, i]) (ht : t = z + z / 256) (hu : u = t + t / 65536) (hv : v = u + u / 4294967296) :
    v % 128 = a + b + c + d + e + f + g + i ∧ v < 18446744073709551616 := by
  simp only [valB] at hz
  have t1 : t = (a + b) + 256 * ((b + c) + 256 * ((c + d) + 256 * ((d + e) + 256 * ((e + f) + 256 * ((f + g) + 256 * ((g + i) + 256 * i)))))) := by omega
  clear ht hz
  have u1 : u = (a + b + c + d) + 256 * ((b + c + d + e) + 256 * ((c + d + e + f) + 256 * ((d + e + f + g) + 256 * ((e + f + g + i) + 256 * ((f + g + i) + 256 * ((g + i) + 256 * i)))))) := by omega
  clear hu t1
  have v1 : u / 4294967296 = (e + f + g + i) + 256 * ((f + g + i) + 256 * ((g + i) + 256 * i)) := by omega
  rw [v1, u1] at hv
  omega
/-- How many of the first m bits are 1. -/
def popW (x m : Nat) : Nat := ((List.range m).filter x.testBit).length
theorem popW_step (x m : Nat) : popW x (m + 8) = popW x m + pop8 (x / 2 ^ m % 256) := by
  unfold popW pop8
  rw [List.range_add, List.filter_append, List.length_append, List.filter_map, List.length_map]
  congr 2
  apply List.filter_congr
  intro j hj
  have hj : j < 8 := by simpa using hj
  show x.testBit (m + j) = _
  rw [show (256 : Nat) = 2 ^ 8 from rfl, Nat.testBit_mod_two_pow, Nat.testBit_div_two_pow, Nat.add_comm]
  simp [hj]
theorem popW_bytes (x : Nat) : popW x 64 = pop8 (x % 256) + pop8 (x / 256 % 256) + pop8 (x / 65536 % 256) + pop8 (x / 16777216 % 256) + pop8 (x / 4294967296 % 256) + pop8 (x / 1099511627776 % 256) + pop8 (x / 281474976710656 % 256) + pop8 (x / 72057594037927936 % 256) := by
  have s0 := popW_step x 0
  have s1 := popW_step x 8
  have s2 := popW_step x 16
  have s3 := popW_step x 24
  have s4 := popW_step x 32
  have s5 := popW_step x 40
  have s6 := popW_step x 48
  have s7 := popW_step x 56
  have z : popW x 0 = 0 := rfl
  simp only [Nat.reduceAdd, Nat.reducePow, Nat.div_one] at s0 s1 s2 s3 s4 s5 s6 s7
  omega
/-- The library's count of a word's bits, step by step. -/
theorem count_word (x : Nat) (hx : x < 18446744073709551616) (z t u v : Nat) (hz : z = stepC (stepB (stepA x))) (ht : t = z + z / 256) (hu : u = t + t / 65536) (hv : v = u + u / 4294967296) : v % 128 = popW x 64 ∧ v < 18446744073709551616 := by
  have hb : ∀ c ∈ bytesW x, c < 256 := by
    intro c hc
    rw [bytesW] at hc
    obtain ⟨i, -, rfl⟩ := List.mem_map.1 hc
    exact Nat.mod_lt _ (by omega)
  have h1 := (steps (bytesW x) hb (by simp [bytesW])).1
  rw [bytesW_val x hx] at h1
  rw [h1, bytesW_eq] at hz
  rw [popW_bytes]
  have hp : ∀ y : Nat, pop8 (y % 256) ≤ 8 := fun y => pop_le ⟨y % 256, Nat.mod_lt _ (by omega)⟩
  exact fold_sum _ _ _ _ _ _ _ _ ⟨hp x, hp _, hp _, hp _, hp _, hp _, hp _, hp _⟩ z t u v hz ht hu hv
theorem steps_small (x : Nat) : stepA x < 18446744073709551616 ∧ stepB (stepA x) < 18446744073709551616 ∧ stepA x = ((x / 2) &&& 6148914691236517205) + (x &&& 6148914691236517205) := by
  have h1 : (x / 2) &&& 6148914691236517205 ≤ 6148914691236517205 := Nat.and_le_right
  have h2 : x &&& 6148914691236517205 ≤ 6148914691236517205 := Nat.and_le_right
  have h3 : (stepA x / 4) &&& 3689348814741910323 ≤ 3689348814741910323 := Nat.and_le_right
  have h4 : stepA x &&& 3689348814741910323 ≤ 3689348814741910323 := Nat.and_le_right
  refine ⟨?_, ?_, rfl⟩
  · unfold stepA; omega
  · show (stepA x / 4 &&& 3689348814741910323) + (stepA x &&& 3689348814741910323) < _; omega
end
section
/- The lowest bit of a word: how a word is cut at it. No program. -/
set_option linter.unusedVariables false
set_option linter.unusedSimpArgs false
theorem odd_form (x : Nat) (h : 0 < x) : ∃ i m, x = 2 ^ i * (2 * m + 1) := by
  induction x using Nat.strongRecOn with
  | ind x ih =>
    by_cases hp : x % 2 = 1
    · exact ⟨0, x / 2, by simp; omega⟩
    · obtain ⟨i, m, e⟩ := ih (x / 2) (by omega) (by omega)
      refine ⟨i + 1, m, ?_⟩
      have h2 : x = 2 * (x / 2) := by omega
      rw [h2, e, Nat.pow_succ, Nat.mul_comm (2 ^ i) 2, Nat.mul_assoc]
theorem odd_bit (i m j : Nat) : (2 ^ i * (2 * m + 1)).testBit j = if j < i then false else if j = i then true else m.testBit (j - i - 1) := by
  rw [Nat.testBit_two_pow_mul]
  by_cases h : j < i
  · simp [h, Nat.not_le.2 h]
  · by_cases e : j = i
    · subst e; simp
    · obtain ⟨d, rfl⟩ : ∃ d, j = i + (d + 1) := ⟨j - i - 1, by omega⟩
      have h1 : i + (d + 1) - i = d + 1 := by omega
      have h2 : d + 1 - 1 = d := by omega
      rw [h1, h2]
      simp [Nat.testBit_succ, show (2 * m + 1) / 2 = m by omega]
theorem odd_bit1 (i m j : Nat) : (2 ^ i * (2 * m + 1) - 1).testBit j = if j < i then true else if j = i then false else m.testBit (j - i - 1) := by
  have hp : 0 < 2 ^ i := Nat.two_pow_pos i
  have e : 2 ^ i * (2 * m + 1) - 1 = 2 ^ i * (2 * m) + (2 ^ i - 1) := by
    rw [Nat.mul_add, Nat.mul_one]; omega
  rw [e, Nat.testBit_two_pow_mul_add _ (by omega)]
  by_cases h : j < i
  · simp [h, Nat.testBit_two_pow_sub_one]
  · by_cases e : j = i
    · subst e; simp [Nat.testBit_zero]
    · obtain ⟨d, rfl⟩ : ∃ d, j = i + (d + 1) := ⟨j - i - 1, by omega⟩
      have h1 : i + (d + 1) - i = d + 1 := by omega
      have h2 : d + 1 - 1 = d := by omega
      rw [h1, h2]
      simp [Nat.testBit_succ, show 2 * m / 2 = m by omega]
/-- The lowest bit struck off. -/
theorem strike_low (i m : Nat) : (2 ^ i * (2 * m + 1)) &&& (2 ^ i * (2 * m + 1) - 1) = 2 ^ i * (2 * m) := by
  apply Nat.eq_of_testBit_eq
  intro j
  rw [Nat.testBit_and, odd_bit, odd_bit1, Nat.testBit_two_pow_mul]
  by_cases h : j < i
  · simp [h, Nat.not_le.2 h]
  · by_cases e : j = i
    · subst e; simp [Nat.testBit_zero]
    · obtain ⟨d, rfl⟩ : ∃ d, j = i + (d + 1) := ⟨j - i - 1, by omega⟩
      have h1 : i + (d + 1) - i = d + 1 := by omega
      have h2 : d + 1 - 1 = d := by omega
      rw [h1, h2]
      have h3 : ¬ i + (d + 1) < i := h
      simp only [h3, Bool.true_and, if_false, Bool.and_self, Nat.testBit_succ, e, show 2 * m / 2 = m by omega, show i + (d + 1) ≥ i by omega, decide_true]
/-- The lowest bit alone. -/
theorem only_low (i m : Nat) (hx : 2 ^ i * (2 * m + 1) < 18446744073709551616) : (2 ^ i * (2 * m + 1)) &&& (18446744073709551616 - 2 ^ i * (2 * m + 1)) = 2 ^ i := by
  have hp : 0 < 2 ^ i * (2 * m + 1) := Nat.mul_pos (Nat.two_pow_pos i) (by omega)
  have hi : i < 64 := by
    refine Nat.lt_of_not_le fun h => ?_
    have h1 : 2 ^ 64 ≤ 2 ^ i := Nat.pow_le_pow_right (by omega) h
    have h2 : 2 ^ i * 1 ≤ 2 ^ i * (2 * m + 1) := Nat.mul_le_mul_left _ (by omega)
    omega
  apply Nat.eq_of_testBit_eq
  intro j
  have e : 18446744073709551616 - 2 ^ i * (2 * m + 1) = 2 ^ 64 - (2 ^ i * (2 * m + 1) - 1 + 1) := by
    rw [show 2 ^ i * (2 * m + 1) - 1 + 1 = 2 ^ i * (2 * m + 1) by omega]
  rw [e, Nat.testBit_and, Nat.testBit_two_pow_sub_succ (by omega), odd_bit, odd_bit1, Nat.testBit_two_pow]
  by_cases h : j < i
  · simp [h]; omega
  · by_cases e : j = i
    · subst e; simp [hi]
    · have : ¬ i = j := fun h => e h.symm
      simp [h, e, this]
      intro h1 _
      exact h1
/-- The table of places by a de Bruijn word, as the library has it. -/
def dbTab : List Nat := [0, 1, 56, 2, 57, 49, 28, 3, 61, 58, 42, 50, 38, 29, 17, 4, 62, 47, 59, 36, 45, 43, 51, 22, 53, 39, 33, 30, 24, 18, 12, 5, 63, 55, 48, 27, 60, 41, 37, 16, 46, 35, 44, 21, 52, 32, 23, 11, 54, 26, 40, 15, 34, 20, 31, 10, 25, 14, 19, 9, 13, 8, 7, 6]
theorem db_at : ∀ i : Fin 64, dbTab.getD (2 ^ i.val * 285870213051353865 % 18446744073709551616 / 288230376151711744) 99 = i.val := by decide
end
section
/- The places of the bits 1 of words, and how they are found word by word, lowest bit first. No program. -/
set_option linter.unusedVariables false
set_option linter.unusedSimpArgs false
/-- Where bits are 1, of the first m. -/
def plcN (us : List Nat) (m : Nat) : List Nat := (List.range m).filter fun p => bitAt us p == 1
theorem plcN_succ (us : List Nat) (m : Nat) : plcN us (m + 1) = plcN us m ++ if bitAt us m = 1 then [m] else [] := by
  unfold plcN
  rw [List.range_succ, List.filter_append]
  by_cases h : bitAt us m = 1 <;> simp [h]
/-- A word without its low bits. -/
def hiW (x t : Nat) : Nat := 2 ^ t * (x / 2 ^ t)
theorem hiW_bit (x t j : Nat) : (hiW x t).testBit j = (decide (t ≤ j) && x.testBit j) := by
  unfold hiW
  rw [Nat.testBit_two_pow_mul, Nat.testBit_div_two_pow]
  by_cases h : t ≤ j
  · simp [h, Nat.sub_add_cancel h]
  · simp [h]
theorem bitAt_bit (us : List Nat) (i j : Nat) (h : j < 64) : (bitAt us (64 * i + j) = 1) = ((us.getD i 0).testBit j = true) := by
  unfold bitAt
  rw [show (64 * i + j) / 64 = i by omega, show (64 * i + j) % 64 = j by omega, Nat.testBit_eq_decide_div_mod_eq]
  simp
theorem plcN_skip (us : List Nat) (i t s : Nat) (hs : t + s ≤ 64) (h : ∀ j, t ≤ j → j < t + s → (us.getD i 0).testBit j = false) : plcN us (64 * i + (t + s)) = plcN us (64 * i + t) := by
  induction s with
  | zero => rfl
  | succ s ih =>
    rw [show 64 * i + (t + (s + 1)) = (64 * i + (t + s)) + 1 by omega, plcN_succ, ih (by omega) (fun j h1 h2 => h j h1 (by omega))]
    have : ¬ bitAt us (64 * i + (t + s)) = 1 := by
      rw [bitAt_bit us i (t + s) (by omega), h (t + s) (by omega) (by omega)]; simp
    rw [if_neg this, List.append_nil]
theorem hi_done (us : List Nat) (i t : Nat) (ht : t ≤ 64) (h : hiW (us.getD i 0) t = 0) : plcN us (64 * i + t) = plcN us (64 * (i + 1)) := by
  have := plcN_skip us i t (64 - t) (by omega) (fun j h1 h2 => by
    have := hiW_bit (us.getD i 0) t j
    rw [h] at this
    simpa [h1] using this.symm)
  rw [show t + (64 - t) = 64 by omega] at this
  rw [← this, show 64 * (i + 1) = 64 * i + 64 by omega]
theorem hi_step (us : List Nat) (i t : Nat) (hx : us.getD i 0 < 18446744073709551616) (h : hiW (us.getD i 0) t ≠ 0) :
    ∃ s m, t ≤ s ∧ s < 64 ∧ hiW (us.getD i 0) t = 2 ^ s * (2 * m + 1) ∧ hiW (us.getD i 0) (s + 1) = 2 ^ s * (2 * m) ∧ plcN us (64 * i + (s + 1)) = plcN us (64 * i + t) ++ [64 * i + s] := by
  obtain ⟨s, m, e⟩ := odd_form (hiW (us.getD i 0) t) (by omega)
  have hb : ∀ j, (decide (t ≤ j) && (us.getD i 0).testBit j) = if j < s then false else if j = s then true else m.testBit (j - s - 1) := fun j => by
    rw [← hiW_bit, e, odd_bit]
  have h0 := hb s
  simp only [Nat.lt_irrefl, if_false, if_true, Bool.and_eq_true, decide_eq_true_eq] at h0
  have hs : s < 64 := by
    refine Nat.lt_of_not_le fun h6 => ?_
    have := Nat.testBit_lt_two_pow (i := s) (Nat.lt_of_lt_of_le hx (show 2 ^ 64 ≤ 2 ^ s from Nat.pow_le_pow_right (by omega) h6))
    rw [this] at h0; exact absurd h0.2 (by decide)
  refine ⟨s, m, h0.1, hs, e, ?_, ?_⟩
  · apply Nat.eq_of_testBit_eq
    intro j
    rw [hiW_bit, Nat.testBit_two_pow_mul]
    have := hb j
    by_cases h1 : s + 1 ≤ j
    · have h2 : t ≤ j := by omega
      have h3 : ¬ j < s := by omega
      have h4 : ¬ j = s := by omega
      simp only [h2, h3, h4, decide_true, Bool.true_and, if_false] at this
      have h5 : s ≤ j := by omega
      obtain ⟨d, rfl⟩ : ∃ d, j = s + (d + 1) := ⟨j - s - 1, by omega⟩
      simp only [h1, h5, decide_true, Bool.true_and, this]
      rw [show s + (d + 1) - s = d + 1 by omega, show d + 1 - 1 = d by omega, Nat.testBit_succ, show 2 * m / 2 = m by omega]
    · have h6 : (decide (s + 1 ≤ j)) = false := by simpa using h1
      rw [h6, Bool.false_and]
      by_cases h7 : s ≤ j
      · obtain rfl : j = s := by omega
        simp [Nat.testBit_zero]
      · simp [h7]
  · rw [show 64 * i + (s + 1) = (64 * i + s) + 1 by omega, plcN_succ]
    have e1 : plcN us (64 * i + s) = plcN us (64 * i + t) := by
      have := plcN_skip us i t (s - t) (by omega) (fun j h1 h2 => by
        have := hb j
        have h3 : j < s := by omega
        simpa [h1, h3] using this)
      rwa [show t + (s - t) = s by omega] at this
    have e2 : bitAt us (64 * i + s) = 1 := by rw [bitAt_bit us i s hs]; exact h0.2
    rw [e1, if_pos e2]
theorem hiW_zero (x : Nat) : hiW x 0 = x := by simp [hiW]
theorem hiW_lt (x t : Nat) (hx : x < 18446744073709551616) : hiW x t < 18446744073709551616 := Nat.lt_of_le_of_lt (Nat.mul_div_le x (2 ^ t)) hx
end
section
/- math/bits.OnesCount64, bitrow.Count. -/
set_option linter.unusedVariables false
set_option linter.unusedSimpArgs false
open Go.RowKit
theorem ofInt_i64N (a : Nat) (ha : a < 9223372036854775808) : (BitVec.ofInt 64 (a : Int)).toNat = a := by
  rw [BitVec.ofInt_natCast, BitVec.toNat_ofNat]; exact Nat.mod_eq_of_lt (by omega)
theorem i64_and_nat (a b : Nat) (ha : a < 9223372036854775808) (hb : b < 9223372036854775808) : bits .and .i64 (a : Int) (b : Int) = ((a &&& b : Nat) : Int) := by
  have hx : a &&& b < 2 ^ 63 := Nat.and_lt_two_pow _ (by omega)
  show IntKind.i64.wrap ((BitVec.ofInt 64 (a : Int) &&& BitVec.ofInt 64 (b : Int)).toNat : Int) = _
  rw [BitVec.toNat_and, ofInt_i64N a ha, ofInt_i64N b hb]
  exact IntWalk.i64_in _ (by omega)
theorem low7 (v : Nat) : v &&& 127 = v % 128 := Nat.and_two_pow_sub_one_eq_mod v 7
set_option maxHeartbeats 1000000 in
theorem ones64_any (x : Nat) (hx : x < 18446744073709551616) (w : World) :
    Calls Tryd.prog 49 #[.int .u64 x] w fun e w' => e = .returned (.int .i64 (popW x 64 : Nat)) ∧ w = w' := by
  obtain ⟨a1, ea1⟩ : ∃ a, a = (x / 2) &&& 6148914691236517205 := ⟨_, rfl⟩
  obtain ⟨a2, ea2⟩ : ∃ a, a = x &&& 6148914691236517205 := ⟨_, rfl⟩
  obtain ⟨b1, eb1⟩ : ∃ a, a = ((a1 + a2) / 4) &&& 3689348814741910323 := ⟨_, rfl⟩
  obtain ⟨b2, eb2⟩ : ∃ a, a = (a1 + a2) &&& 3689348814741910323 := ⟨_, rfl⟩
  obtain ⟨z, ez⟩ : ∃ a, a = ((b1 + b2) / 16 + (b1 + b2)) &&& 1085102592571150095 := ⟨_, rfl⟩
  have la1 : a1 ≤ 6148914691236517205 := by rw [ea1]; exact Nat.and_le_right
  have la2 : a2 ≤ 6148914691236517205 := by rw [ea2]; exact Nat.and_le_right
  have lb1 : b1 ≤ 3689348814741910323 := by rw [eb1]; exact Nat.and_le_right
  have lb2 : b2 ≤ 3689348814741910323 := by rw [eb2]; exact Nat.and_le_right
  have lz : z ≤ 1085102592571150095 := by rw [ez]; exact Nat.and_le_right
  have hv := (count_word x hx z (z + z / 256) ((z + z / 256) + (z + z / 256) / 65536) _ (by rw [ez, eb1, eb2, ea1, ea2]; rfl) rfl rfl rfl).1
  have s1 : bits BinOp.and IntKind.u64 ((x : Int) / 2) 6148914691236517205 = (a1 : Int) := by
    have := u64_and_nat (x / 2) 6148914691236517205 (by omega) (by omega)
    rw [← ea1] at this; exact this
  have s2 : bits BinOp.and IntKind.u64 (x : Int) 6148914691236517205 = (a2 : Int) := by
    have := u64_and_nat x 6148914691236517205 hx (by omega)
    rw [← ea2] at this; exact this
  have s3 : bits BinOp.and IntKind.u64 (((a1 : Int) + (a2 : Int)) / 4) 3689348814741910323 = (b1 : Int) := by
    have := u64_and_nat ((a1 + a2) / 4) 3689348814741910323 (by omega) (by omega)
    rw [← eb1] at this; exact this
  have s4 : bits BinOp.and IntKind.u64 ((a1 : Int) + (a2 : Int)) 3689348814741910323 = (b2 : Int) := by
    have := u64_and_nat (a1 + a2) 3689348814741910323 (by omega) (by omega)
    rw [← eb2] at this; exact this
  have s5 : bits BinOp.and IntKind.u64 (((b1 : Int) + (b2 : Int)) / 16 + ((b1 : Int) + (b2 : Int))) 1085102592571150095 = (z : Int) := by
    have := u64_and_nat ((b1 + b2) / 16 + (b1 + b2)) 1085102592571150095 (by omega) (by omega)
    rw [← ez] at this; exact this
  have s6 : bits BinOp.and IntKind.i64 (((z : Int) + (z : Int) / 256) + ((z : Int) + (z : Int) / 256) / 65536 + (((z : Int) + (z : Int) / 256) + ((z : Int) + (z : Int) / 256) / 65536) / 4294967296) 127 = ((popW x 64 : Nat) : Int) := by
    have := i64_and_nat (((z + z / 256) + (z + z / 256) / 65536) + ((z + z / 256) + (z + z / 256) / 65536) / 4294967296) 127 (by omega) (by omega)
    rw [low7, hv] at this; exact this
  clear hv ea1 ea2 eb1 eb2 ez
  go_enter Tryd.func49, Tryd.ntmps49
  go_wp2
  go_ret
  exact ⟨rfl, rfl⟩
end
section
/- math/bits.TrailingZeros64, where its table lies as the library has it. -/
set_option linter.unusedVariables false
set_option linter.unusedSimpArgs false
open Go.RowKit
/-- The library's table lies in block 0. -/
def TabAt (w : World) (g : Nat) : Prop := g < w.heap.size ∧ ∀ i, i < 64 → w.cell? ⟨g, i, none⟩ = some (.int .u8 (dbTab.getD i 99 : Nat))
theorem TabAt.below {w w' : World} {g : Nat} (h : TabAt w g) (hb : Below w.heap.size w w') : TabAt w' g := ⟨Nat.lt_of_lt_of_le h.1 hb.size, fun i hi => (hb.cell (p := ⟨g, i, none⟩) h.1).trans (h.2 i hi)⟩
theorem TabAt.same {w w' : World} {g : Nat} (h : TabAt w g) (hb : w'.heap[g]? = w.heap[g]?) : TabAt w' g := by
  refine ⟨?_, fun i hi => (World.cell?_of_block (a := ⟨g, i, none⟩) hb).trans (h.2 i hi)⟩
  rcases Nat.lt_or_ge g w'.heap.size with hl | hg
  · exact hl
  · have h1 := h.1
    rw [Array.getElem?_eq_none hg, Array.getElem?_eq_getElem h1] at hb; cases hb
theorem neg_in (x : Nat) (h1 : 0 < x) (hx : x < 18446744073709551616) : IntKind.u64.wrap (-(x : Int)) = ((18446744073709551616 - x : Nat) : Int) := by rw [IntKind.wrap_u64]; omega
theorem prod_in (y : Nat) : IntKind.u64.wrap ((y : Int) * 285870213051353865) / 288230376151711744 = ((y * 285870213051353865 % 18446744073709551616 / 288230376151711744 : Nat) : Int) := by rw [IntKind.wrap_u64]; omega
theorem quo_lt (y : Nat) : y * 285870213051353865 % 18446744073709551616 / 288230376151711744 < 64 := by omega
theorem exp_lt (s m : Nat) (hx : 2 ^ s * (2 * m + 1) < 18446744073709551616) : s < 64 := by
  refine Nat.lt_of_not_le fun h => ?_
  have h1 : 2 ^ 64 ≤ 2 ^ s := Nat.pow_le_pow_right (by omega) h
  have h2 : 2 ^ s * 1 ≤ 2 ^ s * (2 * m + 1) := Nat.mul_le_mul_left _ (by omega)
  omega
theorem tz_val (x s m : Nat) (hx : x < 18446744073709551616) (e : x = 2 ^ s * (2 * m + 1)) :
    ∃ q : Nat, q < 64 ∧ IntKind.u64.wrap (bits BinOp.and IntKind.u64 (x : Int) (IntKind.u64.wrap (-(x : Int))) * 285870213051353865) / 288230376151711744 = (q : Int) ∧ dbTab.getD q 99 = s := by
  have hp : 0 < x := by rw [e]; exact Nat.mul_pos (Nat.two_pow_pos s) (by omega)
  have hl := only_low s m (by rw [← e]; exact hx)
  rw [← e] at hl
  refine ⟨2 ^ s * 285870213051353865 % 18446744073709551616 / 288230376151711744, quo_lt _, ?_, db_at ⟨s, exp_lt s m (by rw [← e]; exact hx)⟩⟩
  rw [neg_in x hp hx, u64_and_nat x (18446744073709551616 - x) hx (by omega), hl, prod_in]
set_option maxHeartbeats 1000000 in
theorem tz_any (x s m : Nat) (hx : x < 18446744073709551616) (e : x = 2 ^ s * (2 * m + 1)) (w : World) (ht : TabAt w 0) :
    Calls Tryd.prog 51 #[.int .u64 x] w fun e w' => e = .returned (.int .i64 (s : Nat)) ∧ w = w' := by
  have hp : 0 < x := by rw [e]; exact Nat.mul_pos (Nat.two_pow_pos s) (by omega)
  obtain ⟨q, hq1, hq2, hq3⟩ := tz_val x s m hx e
  have hs := exp_lt s m (by rw [← e]; exact hx)
  have t : ((x : Int) == 0) = false := by simp; omega
  have hc := ht.2 q hq1
  rw [hq3] at hc
  clear hq3 e ht
  go_enter Tryd.func51, Tryd.ntmps51
  go_wp2
  go_ret
  exact ⟨rfl, rfl⟩
end
section
/- The iterator bitrow.ones: the places of the bits 1, rising. -/
set_option linter.unusedVariables false
set_option linter.unusedSimpArgs false
open Go.RowKit Go.Shelf
attribute [local go_sem] Oper.semAt_some
/-- What the iterator asks of a round: some blocks stay. -/
def KpS (S : Nat → Prop) (W W' : World) : Prop := ∀ b, S b → W'.heap[b]? = W.heap[b]?
theorem KpS.trans {S : Nat → Prop} {A B C : World} (h : KpS S A B) (k : KpS S B C) : KpS S A C := fun b hb => (k b hb).trans (h b hb)
theorem KpS.refl (S : Nat → Prop) (A : World) : KpS S A A := fun _ _ => rfl
/-- How a round of the iterator is left. -/
def RndS (S : Nat → Prop) (J Jx : List Nat → World → Prop) (ys : List Nat) (W : World) (b : Bool) (W' : World) : Prop := (b = true → J ys W' ∧ KpS S W W') ∧ (b = false → Jx ys W')
def RndSE (S : Nat → Prop) (J Jx : List Nat → World → Prop) (ys : List Nat) (W : World) (e : Ending) (W' : World) : Prop := ∃ b : Bool, e = .returned (.bool b) ∧ RndS S J Jx ys W b W'
theorem rndS_of {S : Nat → Prop} {J Jx : List Nat → World → Prop} {ys : List Nat} {W : World} (e : Ending) (W' : World) (h : (e = .returned (.bool true) ∧ J ys W' ∧ KpS S W W') ∨ (e = .returned (.bool false) ∧ Jx ys W')) : RndSE S J Jx ys W e W' := by
  rcases h with ⟨rfl, h1, h2⟩ | ⟨rfl, h1⟩
  · exact ⟨true, rfl, fun _ => ⟨h1, h2⟩, (fun h => by cases h)⟩
  · exact ⟨false, rfl, (fun h => by cases h), fun _ => h1⟩
theorem plcN_prefix (us : List Nat) (a b : Nat) (h : a ≤ b) : plcN us a <+: plcN us b := by
  obtain ⟨d, rfl⟩ := Nat.le.dest h
  unfold plcN
  rw [List.range_add, List.filter_append]
  exact List.prefix_append _ _
theorem plcN_len (us : List Nat) (m : Nat) : (plcN us m).length ≤ m := by
  have := List.length_filter_le (fun p => bitAt us p == 1) (List.range m)
  simpa [plcN] using this
theorem plcN_lt (us : List Nat) (m : Nat) {p : Nat} (h : p ∈ plcN us m) : p < m := by
  have := (List.mem_filter.1 h).1
  simpa using this
set_option maxRecDepth 100000 in
set_option maxHeartbeats 4000000 in
theorem ones1_in (n : Nat) (hn : 1 ≤ n) (l B : Nat) (N : Int) (A : Option Addr) (len c : Nat) (us : List Nat) (hl : len ≤ 100000) (S : Nat → Prop) (hS0 : S 0) (hSB : S B) (hSA : ∀ b off, 0 < len → A = some ⟨b, off, none⟩ → S b) (J Jx : List Nat → World → Prop)
    (hY : ∀ (pre : List Nat) (x : Nat) (W : World), J pre W → pre.length < 64 * len → pre ++ [x] <+: plcN us (64 * len) → YieldAt Fence.wide (n - 1) Tryd.prog l #[.int .i64 (x : Int)] W fun e W' =>
      (e = .returned (.bool true) ∧ J (pre ++ [x]) W' ∧ KpS S W W') ∨ (e = .returned (.bool false) ∧ Jx (pre ++ [x]) W'))
    (W : World) (hB : Box W B 27 #[.int .i64 N, .slice A len c]) (hW : Words W A len us) (hT : TabAt W 0) (h0 : J [] W) :
    CallsIn Fence.wide n Tryd.prog 50 #[.func (.yield l) #[] #[], .pointer (some ⟨B, 0, none⟩)] W fun e W' => (∃ v, e = .returned v) ∧
      ((∃ ys, ys = plcN us (64 * len) ∧ J ys W') ∨ (∃ pre, (pre <+: plcN us (64 * len) ∧ pre ≠ []) ∧ Jx pre W')) := by
  refine callsIn_of_wp Tryd.func50 rfl trivial ?_ rfl
  simp only [Tryd.ntmps50, List.size_toArray, List.length_cons, List.length_nil, Nat.reduceAdd, Nat.reduceSub, Array.replicate_succ, Array.replicate_zero, List.push_toArray, List.append_toArray, List.nil_append, List.cons_append]
  obtain ⟨-, b1, -, -⟩ := hB.two
  have HY := Lib.hid hY
  have HW := Lib.hid hW
  have HT := Lib.hid hT
  have HSA := Lib.hid hSA
  clear hY hW hT hSA hB
  gi_wp2
  gi_loopw [8, 3, 4] (fun i _ _ wr => ∃ j : Nat, j ≤ len ∧ i = .int .i64 j ∧ J (plcN us (64 * j)) wr ∧ Hid (KpS S W wr)) (fun i _ _ _ => len - (intOf i).toNat)
  case atStart => exact ⟨0, Nat.zero_le _, rfl, h0, Lib.hid (KpS.refl _ _)⟩
  case round =>
    obtain ⟨j, hj, rfl, hJs, HK⟩ := hrel
    by_cases hlt : j < len
    · obtain ⟨b, off, rfl, hlb, hc⟩ := HW.out.2.2 (by omega)
      have c1 := (World.cell?_of_block (a := ⟨b, off + j, none⟩) (HK.out b (HSA.out b off (by omega) rfl))).trans (hc j hlt)
      have hx := HW.out.2.1 j
      obtain ⟨wo, rfl⟩ : ∃ wo : World, wo = wr := ⟨_, rfl⟩
      obtain ⟨x, ex⟩ : ∃ x, x = us.getD j 0 := ⟨_, rfl⟩
      have HSt := Lib.hid (hi_step us j)
      have HDn := Lib.hid (hi_done us j)
      rw [← ex] at c1 hx HSt HDn
      have HX := Lib.hid hx
      have hz0 := hiW_zero x
      have HZ0 := Lib.hid hz0
      clear hc b1 hz0 ex
      gi_wp2
      clear c1
      gi_loopw [4] (fun v wi => ∃ t : Nat, t ≤ 64 ∧ v = .int .u64 (hiW x t : Nat) ∧ J (plcN us (64 * j + t)) wi ∧ Hid (KpS S W wi)) (fun v _ => (intOf v).toNat)
      case atStart => exact ⟨0, by omega, by rw [HZ0.out], hJs, HK⟩
      case round =>
        clear hJs HK
        obtain ⟨t, ht, rfl, hJi, HKi⟩ := hrel
        have hh := hiW_lt x t HX.out
        by_cases hz : hiW x t = 0
        · have HD := Lib.hid (HDn.out t ht hz)
          have HJ := Lib.hid hJi
          rw [hz]
          clear hz hh hJi
          gi_wp2
          go_roundw
          case rel => exact ⟨j + 1, by omega, by go_num, by rw [← HD.out]; exact HJ.out, HKi⟩
          case measure => simp [intOf]; omega
        · obtain ⟨s, m, hs1, hs2, he1, he2, hp⟩ := HSt.out t HX.out hz
          have hst := strike_low s m
          rw [← he1, ← he2] at hst
          have HTZ := Lib.hid (tz_any (hiW x t) s m hh he1)
          have HP := Lib.hid hp
          have hlen := plcN_len us (64 * j + t)
          have hpre : plcN us (64 * j + t) ++ [64 * j + s] <+: plcN us (64 * len) := by
            rw [← hp]; exact plcN_prefix us _ _ (by omega)
          have HPre := Lib.hid hpre
          have hy0 := HY.out (plcN us (64 * j + t)) (64 * j + s) wr hJi (by have := hpre.length_le; have := plcN_len us (64 * len); simp at *; omega) hpre
          rw [show (((64 * j + s : Nat)) : Int) = (j : Int) * 64 + (s : Int) by omega] at hy0
          obtain ⟨fn, tmps, assign, body, hy, hR⟩ := hy0
          have htab := HT.out.same (HKi.out 0 hS0)
          have HTab := Lib.hid htab
          have hnx := hiW_lt x (s + 1) HX.out
          have hand : bits BinOp.and IntKind.u64 ((hiW x t : Nat) : Int) (((hiW x t : Nat) : Int) - 1) = ((hiW x (s + 1) : Nat) : Int) := by
            have := u64_and_nat (hiW x t) (hiW x t - 1) hh (by omega)
            rw [hst, show (((hiW x t - 1 : Nat)) : Int) = ((hiW x t : Nat) : Int) - 1 by omega] at this
            exact this
          have hR' := Lib.hid (hR.mono rndS_of)
          have t0 : (((hiW x t : Nat) : Int) != 0) = true := by rw [bne_iff_ne]; omega
          have hp1 : 1 ≤ ((hiW x t : Nat) : Int) := by omega
          have HLT := Lib.hid (show hiW x (s + 1) < hiW x t by rw [he2, he1]; have := Nat.two_pow_pos s; exact Nat.mul_lt_mul_of_pos_left (by omega) this)
          clear hR hst he1 he2 hp hpre htab hJi hz
          generalize hiW x t = h at *
          generalize e2 : hiW x (s + 1) = h2 at *
          have E2 := Lib.hid e2
          clear e2
          gi_wp2
          refine ⟨trivial, (callsIn_wide.2 (HTZ.out _ HTab.out)).mono ?_⟩
          rintro e w' ⟨rfl, rfl⟩
          gi_wp2
          refine RoundIn.mono hR'.out ?_
          rintro e W3 ⟨bv, rfl, hP⟩
          cases bv
          · gi_wp2
            refine bodyPost_ret (results_none rfl _ _ _) rfl ?_
            exact ⟨⟨_, rfl⟩, .inr ⟨_, ⟨HPre.out, by simp⟩, hP.2 rfl⟩⟩
          · gi_wp2
            go_roundw
            case rel => exact ⟨s + 1, by omega, by rw [E2.out], by rw [HP.out]; exact (hP.1 rfl).1, Lib.hid (HKi.out.trans (hP.1 rfl).2)⟩
            case measure => have := HLT.out; simp [intOf]; omega
    · obtain rfl : j = len := by omega
      have hlt' : ¬ (j : Int) < j := by omega
      gi_wp2
      go_end0
      first
        | exact ⟨⟨_, rfl⟩, .inl hJs⟩
        | exact .inl hJs
        | exact ⟨⟨_, rfl⟩, .inl ⟨_, rfl, hJs⟩⟩
end
section
/- bitrow.ones, and bitrow.Places: the places of the bits 1. -/
set_option linter.unusedVariables false
set_option linter.unusedSimpArgs false
open Go.RowKit Go.Shelf
attribute [local go_sem] Oper.semAt_some
theorem ownP_low {w : World} {base base' e size n : Nat} {v : Value} {xs : List Value} (h : w.ownsRow base e size v n xs) (hb : base' ≤ base) : w.ownsRow base' e size v n xs := by
  refine ⟨h.1, ?_⟩
  rcases h.2 with h0 | ⟨g, cap, cur, rfl, h1, h2⟩
  · exact .inl h0
  · exact .inr ⟨g, cap, cur, rfl, Nat.le_trans hb h1, h2⟩
def plcV (x : Nat) : Value := .int .i64 (x : Int)
theorem int_infoP : (Tryd.prog.info? 3).map (fun i => (i.zero, i.size, i.bytes)) = some (some (.int .i64 0), 1, 8) := by kernel_rfl
theorem keepS {W w1 : World} {B n1 : Nat} {S : Nat → Prop} {v v' : Value} {e k : Nat} {xs : List Value} {tmp : Obj} (hrow : W.ownsRow n1 e 1 v k xs) (hgrow : (W.alloc tmp).grownBy w1 v.ownBlock) (hs : n1 ≤ W.heap.size)
    (hS : ∀ b, S b → b < n1 ∧ b ≠ B) : KpS S W (w1.setCell ⟨B, 0, none⟩ v') := by
  intro b hb
  have hbn := hS b hb
  have hne : some b ≠ v.ownBlock := fun e => by have := (hrow.lt b e.symm).1; omega
  rw [heap_setCell_other w1 ⟨B, 0, none⟩ b v' hbn.2, hgrow.block b (by simp; omega) hne, Below.heap_alloc W tmp b (by omega)]
theorem kpS_put {S : Nat → Prop} {w : World} (hS : ∀ b, S b → b < w.heap.size) (W : World) (l : Nat) (o o' : Obj) (hl : w.heap.size ≤ l) (_ : W.heap[l]? = some o) (_ : o.isCells = false) (_ : o.isWalk = false) : KpS S W (W.putObj l o') := by
  intro b hb
  exact World.putObj_heap_other (by have := hS b hb; omega)
theorem TabAt.put2 {w : World} {g : Nat} {t : TypeId} {a b : Value} (h : TabAt w 0) (hb : Box w g t #[a, b]) (hg : g ≠ 0) (u v : Value) : TabAt ((w.setCell ⟨g, 0, none⟩ u).setCell ⟨g, 1, none⟩ v) 0 := by
  refine h.same ?_
  rw [heap_setCell_other _ ⟨g, 1, none⟩ _ v (Ne.symm hg), heap_setCell_other _ ⟨g, 0, none⟩ _ u (Ne.symm hg)]
/-- What ones hands back: an iterator over a box of the row. -/
def OnesOut (N : Int) (A : Option Addr) (len c : Nat) (w : World) (e : Ending) (w' : World) : Prop :=
  ∃ B, e = .returned (.func (.func 50) #[] #[.pointer (some ⟨B, 0, none⟩)]) ∧ Box w' B 27 #[.int .i64 N, .slice A len c] ∧ w.heap.size ≤ B ∧ Below w.heap.size w w'
theorem onesIt_any (N : Int) (A : Option Addr) (len c : Nat) (w : World) : Calls Tryd.prog 33 #[.agg #[.int .i64 N, .slice A len c]] w (OnesOut N A len c w) := by
  go_enter Tryd.func33, Tryd.ntmps33
  go_wp2
  go_ret
  exact ⟨_, rfl, Box.new _ _ _, Nat.le_refl _, (Below.refl _ _).alloc (Nat.le_refl _) _⟩
theorem ones_stops (n : Nat) (hn : 1 ≤ n) (B : Nat) (N : Int) (A : Option Addr) (len c : Nat) (us : List Nat) (hl : len ≤ 100000) (S : Nat → Prop) (hS0 : S 0) (hSB : S B) (hSA : ∀ b off, 0 < len → A = some ⟨b, off, none⟩ → S b) (w : World)
    (hB : Box w B 27 #[.int .i64 N, .slice A len c]) (hW : Words w A len us) (hT : TabAt w 0) :
    SeqStopsK Fence.wide n Tryd.prog 50 #[.pointer (some ⟨B, 0, none⟩)] (fun x : Nat => #[Value.int .i64 (x : Int)]) (KpS S) (fun ys => ys = plcN us (64 * len)) (fun pre => pre <+: plcN us (64 * len) ∧ pre ≠ []) (64 * len) w := fun l J Jx W hw hJ _ hY h0 =>
  ones1_in n hn l B N A len c us hl S hS0 hSB hSA J Jx (fun pre x W hj hlt _ => hY pre x W hj hlt) W (hB.keep hw) (hW.below hw) (hT.below hw) h0
def plcZ (ys : List Nat) : List Int := ys.map fun x : Nat => (x : Int)
theorem plcZ_getD (ys : List Nat) (j : Nat) : (plcZ ys).getD j 0 = (ys.getD j 0 : Nat) := by
  simp only [plcZ, List.getD, List.getElem?_map]
  cases ys[j]? <;> simp
theorem own_plcInts {w : World} {base n : Nat} {A : Option Addr} {c : Nat} {ys : List Nat} (h : w.ownsRow base 3 1 (.slice A n c) n (ys.map plcV)) (hb : ∀ x ∈ ys, x ≤ 1000000) : Ints w A n (plcZ ys) := by
  have e : (plcZ ys).map (Value.int .i64) = ys.map plcV := by simp [plcZ, plcV, Function.comp_def]
  rw [← e] at h
  refine own_ints h fun j => ?_
  rw [plcZ_getD]
  have : ys.getD j 0 ≤ 1000000 := by
    simp only [List.getD]
    cases hx : ys[j]? with
    | none => simp
    | some y => simpa using hb y (List.mem_of_getElem? hx)
  omega
/-- A slice of numbers of its own, and no error, is returned. -/
def PlcOut (ys : List Nat) (w : World) (e : Ending) (w' : World) : Prop := ∃ v, e = .returned (.tuple #[v, .int .i64 0]) ∧ w'.ownsRow w.heap.size 3 1 v ys.length (ys.map plcV) ∧ Below w.heap.size w w'
set_option maxRecDepth 100000 in
set_option maxHeartbeats 2000000 in
theorem plc_in (N : Int) (A : Option Addr) (len c : Nat) (us : List Nat) (w : World) (hr : rightB N us = true) (hW : Words w A len us) (hT : TabAt w 0) : CallsIn Fence.wide 5 Tryd.prog 56 #[.agg #[.int .i64 N, .slice A len c]] w (PlcOut (plcN us (64 * len)) w) := by
  obtain ⟨i0, hi, hz0, hz1, hz2⟩ := info_parts int_infoP
  have hl8 := rightB_len8 hr hW.1
  have HW := Lib.hid (hW.alloc (.cells #[.int .i64 N, .slice A len c] 27))
  have HT := Lib.hid (hT.below ((Below.refl _ _).alloc (Nat.le_refl _) (.cells #[.int .i64 N, .slice A len c] 27)))
  have Q0 := Lib.hid (Box.new w 27 #[.int .i64 N, .slice A len c])
  have HB := Lib.hid (show Below w.heap.size w (w.alloc (.cells #[.int .i64 N, .slice A len c] 27)) from (Below.refl _ _).alloc (Nat.le_refl _) _)
  have hT0 := hT.1
  have HLt := Lib.hid (show ∀ b off, 0 < len → A = some ⟨b, off, none⟩ → b < w.heap.size from fun b off h e => by
    obtain ⟨b', off', e', hlt, _⟩ := hW.2.2 h
    rw [e] at e'; injection e' with e'; injection e' with e1 _; omega)
  have HR := Lib.hid (right_any N A len c us _ HW.out)
  rw [hr] at HR
  clear hW hT
  refine callsIn_of_wp_marks Tryd.func56 rfl trivial ?_ rfl
  simp only [Tryd.ntmps56, List.size_toArray, List.length_cons, List.length_nil, Nat.reduceAdd, Nat.reduceSub, Array.replicate_succ, Array.replicate_zero, List.push_toArray, List.append_toArray, List.nil_append, List.cons_append]
  gi_wp2
  refine ⟨trivial, (callsIn_wide.2 HR.out).mono ?_⟩
  rintro e x1 ⟨rfl, hb⟩
  have Q1 := Lib.hid ((Q0.out.keep hb).alloc (.cells #[.slice none 0 0] 29))
  have HW1 := Lib.hid ((HW.out.below hb).alloc (.cells #[.slice none 0 0] 29))
  have HT1 := Lib.hid ((HT.out.below hb).below ((Below.refl _ _).alloc (Nat.le_refl _) (.cells #[.slice none 0 0] 29)))
  have HB1 := Lib.hid ((chain HB.out hb).alloc (chain HB.out hb).size (.cells #[.slice none 0 0] 29))
  have hs0 : w.heap.size < x1.heap.size := (Q0.out.keep hb).lt
  obtain ⟨r0, r1, -, -⟩ := Q1.out.two
  have hld := run_loadVar_row (P := Tryd.prog) (x1.alloc (.cells #[.slice none 0 0] 29)) w.heap.size 27 27 #[.int .i64 N, .slice A len c] (0, 0) _ Q1.out Tryd.underlying27 rfl (by kernel_rfl)
  clear hb Q0 HW HT HB HR
  gi_wp2
  refine ⟨trivial, (callsIn_wide.2 (onesIt_any N A len c _)).mono ?_⟩
  rintro e w1 ⟨B, rfl, bB, hge, hb⟩
  have bO : Boxed w1 x1.heap.size 29 (.slice none 0 0) := (Box.new x1 29 #[.slice none 0 0]).keep hb
  have hB0 : Below w.heap.size w w1 := chain HB1.out hb
  have hw1 := HW1.out.below hb
  have ht1 := HT1.out.below hb
  have lB := bB.lt
  have lO := bO.lt
  have hsz1 := hB0.size
  simp only [World.size_alloc] at hge
  clear hb r0 r1 hld Q1
  gi_wp2
  have hS : ∀ b, (b < w1.heap.size ∧ b ≠ x1.heap.size) → b < w1.heap.size ∧ b ≠ x1.heap.size := fun b h => h
  refine wpIn_rangeFunc_ownG rfl (by omega) (gf := 50) (lb := #[.pointer (some ⟨B, 0, none⟩)]) rfl trivial (enters_of Tryd.func50 (by kernel_rfl) rfl)
    (ones_stops (5 - 1) (by omega) B N A len c us (by omega) (fun b => b < w1.heap.size ∧ b ≠ x1.heap.size) ⟨by omega, by omega⟩ ⟨lB, by omega⟩ (fun b off h e => by have := HLt.out b off h e; omega) w1 bB hw1 ht1) KpS.trans (kpS_put (fun b h => h.1)) (Below.refl _ _) (fun _ => rfl)
    (fun pre W => (∃ v, Boxed W x1.heap.size 29 v ∧ W.ownsRow w1.heap.size 3 1 v pre.length (pre.map plcV) ∧ True) ∧ Below w.heap.size w W ∧ w1.heap.size ≤ W.heap.size)
    (fun _ _ _ => False)
    (OwnFrom.and (Own.from (holdsRow_own w1.heap.size x1.heap.size 29 3 1 (fun pre : List Nat => pre.length) (fun pre : List Nat => pre.map plcV) (fun _ _ => True)) _) (OwnFrom.and (ownFrom_below (Nat.le_refl _) (by omega)) (fun _ _ _ _ hs hg _ => Nat.le_trans hs hg.size)))
    (fun _ _ _ _ _ hs _ _ => hs)
    ⟨⟨_, bO, World.ownsRow_nil _ _ _ _, trivial⟩, hB0, Nat.le_refl _⟩
    (fun x => { tmps := #[.agg #[.int .i64 N, .slice A len c], .pointer (some ⟨w.heap.size, 0, none⟩), .slice none 0 0, .int .i64 0, .pointer (some ⟨x1.heap.size, 0, none⟩), .int .i64 (x : Int), .agg #[.int .i64 N, .slice A len c], .bool true, .bool false, .agg #[.int .i64 N, .slice A len c], .func (.func 50) #[] #[.pointer (some ⟨B, 0, none⟩)], .int .i64 (x : Int), undef, undef, undef, undef, undef], defers := [] }) ?assign ?body ?done ?stop
  case assign =>
    intro l x W K hK
    gi_wp2
    exact hK
  case body =>
    rintro l pre x W ⟨⟨v, hv, hrow, _⟩, hB, hsz⟩ hlt
    have hc := hv.cell
    have hlo : x1.heap.size < w1.heap.size := lO
    gi_wp2_with (gi_at_builtin; refine wpListIn_append_own _ rfl _ _ 29 rfl w1.heap.size 3 i0 (.int .i64 0) 1 8 Tryd.underlying29 hi hz0 hz1 hz2 rfl (by decide) _ _ _ rfl (hrow.alloc _) ⟨W.heap.size, 0, none⟩ 1 1 [.int .i64 (x : Int)] rfl rfl (cell_one_new _ _ _) (by simp [Value.oneCell']) (by simp [maxLen]; omega) (by omega) (by simp; omega) ?_; intro v' w2 hown' hgrow _; obtain ⟨g', cap', rfl⟩ := ownsRow_succ hown'; obtain ⟨hv1, hv2, hr2, hk2, hb2⟩ := hv.appended (by decide) (ownP_low hrow (by omega)) hB.size (by omega) (ownP_low hown' (by omega)) hgrow; have hr3 := hown'.kept (grownBy_setCell' w2 x1.heap.size (.slice (some ⟨g', 0, none⟩) (pre.length + 1) cap')) (.inr (hv1.not_row (by decide) hown').symm); have hkp := keepS (B := x1.heap.size) (v' := .slice (some ⟨g', 0, none⟩) (pre.length + 1) cap') hrow hgrow hsz hS; have hc1 := hv1.cell; have hf1 := hv1.frozen)
    exact ⟨hk2.from _, hkp, ⟨_, hv2, by simpa [plcV] using hr3, trivial⟩, hB.trans hb2, Nat.le_trans hsz hk2.size⟩
  case done =>
    rintro D ys W hD rfl ⟨⟨v, hv, hrow, _⟩, hB, hsz⟩ hK
    have hc := hv.cell
    gi_wp2
    refine ⟨by simp, .inl ⟨_, _, rfl, run_takeDeferred hK, ?_⟩⟩
    exact ⟨_, results_tmp2 rfl _ _ _, v, rfl, ownP_low (ownsRow_putObj hrow _ hK rfl) (by omega), hB.trans (belowK_b (w := w) (Nat.le_refl _) W D _ _ (by omega) hK rfl rfl)⟩
  case stop =>
    rintro D c pre W _ _ h _
    exact h.elim
theorem plc_yes (N : Int) (A : Option Addr) (len c : Nat) (us : List Nat) (w : World) (hr : rightB N us = true) (hW : Words w A len us) (hT : TabAt w 0) : Calls Tryd.prog 56 #[.agg #[.int .i64 N, .slice A len c]] w (PlcOut (plcN us (64 * len)) w) := callsIn_wide.1 (plc_in N A len c us w hr hW hT)
end
section
/- bitrow.Count, bitrow.Get. -/
set_option linter.unusedVariables false
set_option linter.unusedSimpArgs false
open Go.RowKit
theorem plcN_word (us : List Nat) (j : Nat) : (plcN us (64 * (j + 1))).length = (plcN us (64 * j)).length + popW (us.getD j 0) 64 := by
  unfold plcN popW
  rw [show 64 * (j + 1) = 64 * j + 64 by omega, List.range_add, List.filter_append, List.length_append, List.filter_map, List.length_map]
  congr 2
  apply List.filter_congr
  intro p hp
  have hp : p < 64 := by simpa using hp
  show (bitAt us (64 * j + p) == 1) = _
  rw [Bool.eq_iff_iff, beq_iff_eq, bitAt_bit us j p hp]
theorem count_no (N : Int) (A : Option Addr) (len c : Nat) (us : List Nat) (w : World) (hr : rightB N us = false) (hW : Words w A len us) :
    Calls Tryd.prog 32 #[.agg #[.int .i64 N, .slice A len c]] w fun e w' => e = .returned (.tuple #[.int .i64 0, .int .i64 1]) ∧ Below w.heap.size w w' := by
  have Q := Lib.hid (Box.new w 27 #[.int .i64 N, .slice A len c])
  have HB := Lib.hid (show Below w.heap.size w (w.alloc (.cells #[.int .i64 N, .slice A len c] 27)) from (Below.refl _ _).alloc (Nat.le_refl _) _)
  have HR := Lib.hid (right_any N A len c us _ (hW.alloc (.cells #[.int .i64 N, .slice A len c] 27)))
  rw [hr] at HR
  obtain ⟨r0, r1, -, -⟩ := Q.out.two
  clear hW hr
  go_enter Tryd.func32, Tryd.ntmps32
  go_wp2_with fail
  refine HR.out.mono ?_
  rintro e w1 ⟨rfl, hb⟩
  have B := Lib.hid (chain HB.out hb)
  clear hb
  go_wp2
  go_ret2
  exact ⟨rfl, B.out⟩
set_option maxHeartbeats 1000000 in
theorem count_yes (N : Int) (A : Option Addr) (len c : Nat) (us : List Nat) (w : World) (hr : rightB N us = true) (hW : Words w A len us) :
    Calls Tryd.prog 32 #[.agg #[.int .i64 N, .slice A len c]] w fun e w' => e = .returned (.tuple #[.int .i64 ((plcN us (64 * len)).length : Nat), .int .i64 0]) ∧ Below w.heap.size w w' := by
  have hl8 := rightB_len8 hr hW.1
  have Q := Lib.hid (Box.new w 27 #[.int .i64 N, .slice A len c])
  have HB := Lib.hid (show Below w.heap.size w (w.alloc (.cells #[.int .i64 N, .slice A len c] 27)) from (Below.refl _ _).alloc (Nat.le_refl _) _)
  have HW := Lib.hid (hW.alloc (.cells #[.int .i64 N, .slice A len c] 27))
  have HR := Lib.hid (right_any N A len c us _ HW.out)
  rw [hr] at HR
  obtain ⟨r0, r1, -, -⟩ := Q.out.two
  clear hW hr
  go_enter Tryd.func32, Tryd.ntmps32
  go_wp2_with fail
  refine HR.out.mono ?_
  rintro e w1 ⟨rfl, hb⟩
  have B := Lib.hid (chain HB.out hb)
  have HW := Lib.hid (HW.out.below hb)
  have Q := Lib.hid (Q.out.keep hb)
  clear hb HR HB r0 r1
  obtain ⟨r0, r1, -, -⟩ := Q.out.two
  go_wp2
  clear r0 r1
  go_loop [13, 4, 6] (fun i m _ => ∃ j : Nat, j ≤ len ∧ i = .int .i64 j ∧ m = .int .i64 ((plcN us (64 * j)).length : Nat)) (fun i _ _ => len - (intOf i).toNat)
  case atStart => exact ⟨0, by omega, rfl, rfl⟩
  case round =>
    obtain ⟨j, hj, rfl, rfl⟩ := hrel
    have hm := plcN_len us (64 * j)
    have HN := Lib.hid (plcN_word us j)
    generalize hme : (plcN us (64 * j)).length = m at *
    have HE := Lib.hid hme
    clear hme
    by_cases hlt : j < len
    · obtain ⟨b, off, rfl, hlb, hc⟩ := HW.out.2.2 (by omega)
      have c1 := hc j hlt
      have hx := HW.out.2.1 j
      have hp : popW (us.getD j 0) 64 ≤ 64 := by
        have := List.length_filter_le (us.getD j 0).testBit (List.range 64)
        simpa [popW] using this
      have HC := Lib.hid (ones64_any (us.getD j 0) hx)
      generalize popW (us.getD j 0) 64 = p at *
      generalize us.getD j 0 = x at *
      clear hc
      go_wp2_with fail
      refine (HC.out _).mono ?_
      rintro e w2 ⟨rfl, rfl⟩
      clear HC c1
      go_wp2
      go_round
      case rel => exact ⟨j + 1, by omega, by go_num, by rw [HN.out]; go_num⟩
      case measure => simp [intOf]; omega
    · obtain rfl : j = len := by omega
      go_wp2
      go_ret2
      exact ⟨by rw [HE.out]; rfl, B.out⟩
end
section
/- backsub: pair.has, pair.isAlone, pair.plus. -/
set_option linter.unusedVariables false
set_option linter.unusedSimpArgs false
open Go.RowKit
set_option maxRecDepth 100000
theorem pairHas_any (N x : Nat) (hN : N ≤ 512) (hx : x < 2 ^ N) (A : Option Addr) (l c p : Nat) (s : ByteArray) (hp : p < N) (w : World) (hw : Words w A l (rowOf N x)) :
    Calls Tryd.prog 59 #[.agg #[.int .i64 N, .slice A l c, .string s], .int .i64 (p : Int)] w fun e w' => e = .returned (.bool (x.testBit p)) ∧ Below w.heap.size w w' := by
  have hW : Below w.heap.size w (w.alloc (.cells #[.int .i64 N, .slice A l c, .string s] 84)) := (Below.refl _ _).alloc (Nat.le_refl _) _
  have Q := Box.new w 84 #[.int .i64 (N : Int), .slice A l c, .string s]
  have HG := Lib.hid (get_yes N p A l c (rowOf N x) _ (rowOf_right N x hN hx) hp (hw.below hW))
  rw [rowOf_bitN N x p hp] at HG
  have HW := Lib.hid hW
  obtain ⟨q0, q1, q2, -, -, -⟩ := Q.three
  clear hw hW Q
  cases hb : x.testBit p with
  | true =>
    rw [hb] at HG
    clear hb
    go_enter Tryd.func59, Tryd.ntmps59
    go_wp2_with fail
    refine HG.out.mono ?_
    rintro e w1 ⟨rfl, hb⟩
    have B := Lib.hid (chainN HW.out HW.out.size hb)
    clear hb
    go_wp2_with fail
    go_ret
    exact ⟨by simp, B.out⟩
  | false =>
    rw [hb] at HG
    clear hb
    go_enter Tryd.func59, Tryd.ntmps59
    go_wp2_with fail
    refine HG.out.mono ?_
    rintro e w1 ⟨rfl, hb⟩
    have B := Lib.hid (chainN HW.out HW.out.size hb)
    clear hb
    go_wp2_with fail
    go_ret
    exact ⟨by simp, B.out⟩
theorem Box.put3 {w : World} {g : Nat} {t : TypeId} {a b d u v x : Value} (h : Box w g t #[a, b, d]) : Box (((w.setCell ⟨g, 0, none⟩ u).setCell ⟨g, 1, none⟩ v).setCell ⟨g, 2, none⟩ x) g t #[u, v, x] := ((h.put 0 u).put 1 v).put 2 x
/-- How many places a number has. -/
def popN (N x : Nat) : Nat := (plcN (rowOf N x) (64 * (rowOf N x).length)).length
theorem isAlone_any (N x : Nat) (hN : N ≤ 512) (hx : x < 2 ^ N) (A : Option Addr) (l c : Nat) (s : ByteArray) (w : World) (hw : Words w A l (rowOf N x)) :
    Calls Tryd.prog 39 #[.agg #[.int .i64 N, .slice A l c, .string s]] w fun e w' => e = .returned (.bool (decide (popN N x = 1))) ∧ Below w.heap.size w w' := by
  have hl := hw.1
  have hW : Below w.heap.size w (w.alloc (.cells #[.int .i64 N, .slice A l c, .string s] 84)) := (Below.refl _ _).alloc (Nat.le_refl _) _
  have Q := Box.new w 84 #[.int .i64 (N : Int), .slice A l c, .string s]
  have HG := Lib.hid (count_yes N A l c (rowOf N x) _ (rowOf_right N x hN hx) (hw.below hW))
  have HW := Lib.hid hW
  obtain ⟨m, hm⟩ : ∃ m, m = popN N x := ⟨_, rfl⟩
  have hm2 : (plcN (rowOf N x) (64 * l)).length = m := by rw [hm, popN, hl]
  rw [hm2] at HG
  rw [← hm]
  obtain ⟨q0, q1, q2, -, -, -⟩ := Q.three
  clear hw hW Q hm hm2 hl
  by_cases h1 : m = 1
  · subst h1
    go_enter Tryd.func39, Tryd.ntmps39
    go_wp2_with fail
    refine HG.out.mono ?_
    rintro e w1 ⟨rfl, hb⟩
    have B := Lib.hid (chainN HW.out HW.out.size hb)
    clear hb
    go_wp2_with fail
    go_ret
    exact ⟨by simp, B.out⟩
  · have t : ((m : Int) == 1) = false := by simp; omega
    have t2 : decide (m = 1) = false := by simpa using h1
    rw [t2]
    go_enter Tryd.func39, Tryd.ntmps39
    go_wp2_with fail
    refine HG.out.mono ?_
    rintro e w1 ⟨rfl, hb⟩
    have B := Lib.hid (chainN HW.out HW.out.size hb)
    clear hb
    go_wp2_with fail
    go_ret
    exact ⟨by simp, B.out⟩
/-- Two pairs in one. -/
def PlusOut (N : Nat) (p : PV) (w : World) (e : Ending) (w' : World) : Prop :=
  ∃ A l c, e = .returned (.agg #[.int .i64 (N : Int), .slice A l c, .string p.2]) ∧ OwnW w' A l c (rowOf N p.1) ∧ Below w.heap.size w w'
theorem plus_any (N n : Nat) (hN : N ≤ 512) (hn : n ≤ 64) (p q : PV) (hp : GoodP N n p) (hq : GoodP N n q) (A B : Option Addr) (l c k d : Nat) (w : World) (hu : Words w A l (rowOf N p.1)) (hv : Words w B k (rowOf N q.1)) :
    Calls Tryd.prog 60 #[.agg #[.int .i64 N, .slice A l c, .string p.2], .agg #[.int .i64 N, .slice B k d, .string q.2]] w (PlusOut N (plusP p q) w) := by
  have b1 : Below w.heap.size w (((w.alloc (.cells #[.int .i64 N, .slice A l c, .string p.2] 84)).alloc (.cells #[.int .i64 N, .slice B k d, .string q.2] 84)).alloc (.cells #[.int .i64 0, .slice none 0 0, .string ⟨#[]⟩] 84)) := (((Below.refl _ _).alloc (Nat.le_refl _) _).alloc (by simp) _).alloc (by simp; omega) _
  have Q0 := ((Box.new w 84 #[.int .i64 (N : Int), .slice A l c, .string p.2]).alloc (.cells #[.int .i64 N, .slice B k d, .string q.2] 84)).alloc (.cells #[.int .i64 0, .slice none 0 0, .string ⟨#[]⟩] 84)
  have Q1 := (Box.new (w.alloc (.cells #[.int .i64 (N : Int), .slice A l c, .string p.2] 84)) 84 #[.int .i64 (N : Int), .slice B k d, .string q.2]).alloc (.cells #[.int .i64 0, .slice none 0 0, .string ⟨#[]⟩] 84)
  have Q2 := Box.new ((w.alloc (.cells #[.int .i64 (N : Int), .slice A l c, .string p.2] 84)).alloc (.cells #[.int .i64 N, .slice B k d, .string q.2] 84)) 84 #[.int .i64 0, .slice none 0 0, .string ⟨#[]⟩]
  simp only [World.size_alloc] at Q1 Q2
  have HQ0 := Lib.hid Q0
  have HQ1 := Lib.hid Q1
  have HQ2 := Lib.hid Q2
  have HB := Lib.hid b1
  have HX := Lib.hid (xor_num N p.1 q.1 hN hp.1 hq.1 A B l c k d _ (hu.below b1) (hv.below b1))
  have HS := Lib.hid (fun W => bxor_any p.2 q.2 (by rw [hp.2]; unfold maxLen; omega) (by rw [hq.2]; unfold maxLen; omega) W)
  have HE := Lib.hid (plus_sum hp.2 hq.2 hn)
  obtain ⟨a0, a1, a2, -, -, -⟩ := HQ0.out.three
  obtain ⟨c0, c1, c2, -, -, -⟩ := HQ1.out.three
  clear b1 Q0 Q1 Q2 hu hv
  go_enter Tryd.func60, Tryd.ntmps60
  go_wp2_with fail
  refine HX.out.mono ?_
  rintro e w1 ⟨A3, l3, c3, rfl, ow, hb⟩
  have HB1 := Lib.hid (chainN HB.out HB.out.size hb)
  have R0 := Lib.hid (HQ0.out.keep hb)
  have R1 := Lib.hid (HQ1.out.keep hb)
  have R2 := Lib.hid (HQ2.out.keep hb)
  have OW := Lib.hid ow
  clear hb ow HX HQ0 HQ1 HQ2 HB a0 a1 a2 c0 c1 c2
  obtain ⟨a0, a1, a2, -, -, -⟩ := R0.out.three
  obtain ⟨c0, c1, c2, -, -, -⟩ := R1.out.three
  have al : Below w1.heap.size w1 (w1.alloc (.cells #[.int .i64 (N : Int), .slice A3 l3 c3] 27)) := (Below.refl _ _).alloc (Nat.le_refl _) _
  have T := Lib.hid (Box.new w1 27 #[.int .i64 (N : Int), .slice A3 l3 c3])
  have AL1 := Lib.hid al
  obtain ⟨a0', a1', a2', -, -, -⟩ := (R0.out.keep al).three
  obtain ⟨c0', c1', c2', -, -, -⟩ := (R1.out.keep al).three
  clear al
  go_wp2_with fail
  refine (HS.out _).mono ?_
  rintro e w2 ⟨rfl, hb⟩
  have HB2 := Lib.hid (chainN HB1.out HB1.out.size (chainN AL1.out AL1.out.size hb))
  have T2 := Lib.hid (T.out.keep hb)
  have S2 := Lib.hid ((R2.out.keep AL1.out).keep hb)
  have OW2 := Lib.hid ((OW.out.below AL1.out).below hb)
  rw [HE.out]
  clear hb HS a0 a1 a2 c0 c1 c2 a0' a1' a2' c0' c1' c2' R0 R1 R2 T AL1 OW HB1 HE
  obtain ⟨t0, t1, -, -⟩ := T2.out.two
  obtain ⟨s0, s1, s2, f0, f1, f2⟩ := S2.out.three
  go_wp2_with fail
  refine close_one Tryd.results60 rfl rfl S2.out.put3 Tryd.underlying84 rfl (by kernel_rfl) ⟨A3, l3, c3, rfl, ?_, ?_⟩
  · exact (((OW2.out.far S2.out (by decide) _ _).far (S2.out.put _ _) (by decide) _ _).far ((S2.out.put _ _).put _ _) (by decide) _ _)
  · exact ((HB2.out.setCell (p := ⟨w.heap.size + 1 + 1, 0, none⟩) (by simp; omega) _).setCell (p := ⟨w.heap.size + 1 + 1, 1, none⟩) (by simp; omega) _).setCell (p := ⟨w.heap.size + 1 + 1, 2, none⟩) (by simp; omega) _
end
end Go.Proofs.YtdfmogcgangdnaaDoor
