/- Layer 13: stripes as data, and in memory; what may be. -/
import Derived.Test.YtehlebeeoeghmaaScA
import Derived.Test.YtehlebeeoeghmaaEq1
namespace Go.Proofs.Ytehlebeeoeghmaa
set_option linter.unusedVariables false
set_option linter.unusedSimpArgs false
open Go.RowKit Go.Lib
set_option maxRecDepth 100000
/-- Stripes: cap, size, lists. -/
abbrev ShR := Int × Int × List (List SymR)
abbrev Lsts (w : World) (A : Option Addr) (l : Nat) (ls : List (List SymR)) : Prop := RRow Syms w A l ls
theorem Lsts.below {w w' : World} {A : Option Addr} {l : Nat} {ls : List (List SymR)} (h : Lsts w A l ls) (hb : Below w.heap.size w w') : Lsts w' A l ls := RRow.below (P := Syms) (fun _ _ _ _ _ h hb => Recs.below h hb) h hb
def ShAt (w : World) (v : Value) (s : ShR) : Prop := ∃ A c, v = .agg #[.int .i64 s.1, .int .i64 s.2.1, .slice A s.2.2.length c] ∧ SliceOk A s.2.2.length c ∧ Lsts w A s.2.2.length s.2.2
theorem ShAt.below {w w' : World} {v : Value} {s : ShR} (h : ShAt w v s) (hb : Below w.heap.size w w') : ShAt w' v s := by
  obtain ⟨A, c, h1, h2, h3⟩ := h
  exact ⟨A, c, h1, h2, Lsts.below h3 hb⟩
structure OkSh (ls : List (List SymR)) : Prop where
  n : ls.length ≤ 100
  r : ∀ j, (ls.getD j []).length ≤ 1000
  id : ∀ j i, ((ls.getD j []).getD i default).1 < 18446744073709551616
theorem Box.tri {w : World} {g : Nat} {t : TypeId} {a b c : Value} (h : Box w g t #[a, b, c]) : w.cell? ⟨g, 0, none⟩ = some a ∧ w.cell? ⟨g, 1, none⟩ = some b ∧ w.cell? ⟨g, 2, none⟩ = some c := ⟨h.cell 0, h.cell 1, h.cell 2⟩
def cntS (ls : List (List SymR)) : Nat := (ls.map List.length).sum
theorem cntS_snoc (ls : List (List SymR)) (k : Nat) (h : k < ls.length) : cntS (ls.take (k + 1)) = cntS (ls.take k) + (ls.getD k []).length := by
  have e : ls.take (k + 1) = ls.take k ++ [ls.getD k []] := take_snocD ls k h
  rw [e]
  unfold cntS
  rw [List.map_append, List.sum_append]
  simp
theorem cntS_bd {ls : List (List SymR)} (h : OkSh ls) : ∀ k, cntS (ls.take k) ≤ 1000 * k
  | 0 => by simp [cntS]
  | k + 1 => by
    by_cases q : k < ls.length
    · have := cntS_bd h k; have := h.r k; rw [cntS_snoc ls k q]; omega
    · have h1 := cntS_bd h k
      rw [List.take_of_length_le (by omega)] at h1 ⊢
      omega
def ltS (a b : SymR) : Prop := a.1 < b.1
instance : DecidableRel ltS := fun a b => inferInstanceAs (Decidable (a.1 < b.1))
/-- May a symbol stand in stripe k of n? -/
def elB (n : Nat) (z : Int) (k : Int) (x : SymR) : Bool := (x.2.size : Int) == z && ((x.1 % n : Nat) : Int) == k
/-- May a stripe be? -/
def strB (n : Nat) (z : Int) (k : Int) (l : List SymR) : Bool := l.all (elB n z k) && decide (l.Pairwise ltS)
def rowsB (n : Nat) (z : Int) (ls : List (List SymR)) (m : Nat) : Bool := (List.range m).all fun (k : Nat) => strB n z (k : Int) (ls.getD k [])
def inK (x a b : Int) : Bool := decide (a ≤ x) && decide (x ≤ b)
def rightSh (s : ShR) : Bool := inK s.2.2.length 1 16 && (inK s.2.1 0 64 && inK s.1 1 64) && decide ((cntS s.2.2 : Int) ≤ s.1) && rowsB s.2.2.length s.2.1 s.2.2 s.2.2.length
theorem strB_snoc (n : Nat) (z k : Int) (l : List SymR) (i : Nat) (h : i < l.length) (hs : strB n z k (l.take i) = true) :
    strB n z k (l.take (i + 1)) = (elB n z k (l.getD i default) && decide (∀ j, j < i → (l.getD j default).1 < (l.getD i default).1)) := by
  unfold strB at *
  rw [Bool.and_eq_true, decide_eq_true_eq] at hs
  rw [take_snocD l i h, List.all_append, hs.1, Bool.true_and]
  congr 1
  · simp
  · apply decide_eq_decide.2
    rw [List.pairwise_append]
    constructor
    · rintro ⟨-, -, h3⟩ j hj
      refine h3 _ ?_ _ (List.mem_singleton.2 rfl)
      have hj2 : j < (l.take i).length := by rw [List.length_take]; omega
      have : l.getD j default = (l.take i)[j] := by simp [List.getD, List.getElem_take, show j < l.length by omega]
      rw [this]
      exact List.getElem_mem _
    · intro h3
      refine ⟨hs.2, List.pairwise_singleton _ _, fun a ha b hb => ?_⟩
      obtain rfl := List.mem_singleton.1 hb
      obtain ⟨j, hj, rfl⟩ := List.mem_iff_getElem.1 ha
      rw [List.length_take] at hj
      have h9 := h3 j (by omega)
      have e : l.getD j default = (l.take i)[j]'(by rw [List.length_take]; omega) := by simp [List.getD, List.getElem_take, show j < l.length by omega]
      rw [e] at h9
      exact h9
theorem strB_no (n : Nat) (z k : Int) (l : List SymR) (i : Nat) (h : strB n z k (l.take i) = false) : strB n z k l = false := by
  rw [Bool.eq_false_iff] at *
  intro h2
  refine h ?_
  unfold strB at *
  rw [Bool.and_eq_true, decide_eq_true_eq] at *
  refine ⟨?_, h2.2.sublist (List.take_sublist _ _)⟩
  rw [List.all_eq_true] at *
  exact fun x hx => h2.1 x (List.mem_of_mem_take hx)
/-- Of what rises, the last one is the greatest. -/
theorem rise_last (l : List SymR) (i : Nat) (h : i < l.length) (hp : (l.take i).Pairwise ltS) (h0 : 0 < i) (x : Nat) : (∀ j, j < i → (l.getD j default).1 < x) ↔ (l.getD (i - 1) default).1 < x := by
  constructor
  · exact fun h => h _ (by omega)
  · intro hx j hj
    by_cases e : j = i - 1
    · rw [e]; exact hx
    · have hg := List.pairwise_iff_getElem.1 hp j (i - 1) (by rw [List.length_take]; omega) (by rw [List.length_take]; omega) (by omega)
      have h9 : ((l.take i)[j]'(by rw [List.length_take]; omega)).1 < ((l.take i)[i - 1]'(by rw [List.length_take]; omega)).1 := hg
      rw [List.getElem_take, List.getElem_take] at h9
      have e1 : l.getD j default = l[j] := by simp [List.getD, show j < l.length by omega]
      have e2 : l.getD (i - 1) default = l[i - 1] := by simp [List.getD, show i - 1 < l.length by omega]
      rw [e1]
      rw [e2] at hx
      omega
theorem strB_pw {n : Nat} {z k : Int} {l : List SymR} (h : strB n z k l = true) : l.Pairwise ltS := by
  unfold strB at h
  rw [Bool.and_eq_true, decide_eq_true_eq] at h
  exact h.2
theorem rows_no (n : Nat) (z : Int) (ls : List (List SymR)) (m k : Nat) (h : k < m) (hp : strB n z (k : Int) (ls.getD k []) = false) : rowsB n z ls m = false := all_range_no _ m k h hp
theorem rows_snoc (n : Nat) (z : Int) (ls : List (List SymR)) (k : Nat) : rowsB n z ls (k + 1) = (rowsB n z ls k && strB n z (k : Int) (ls.getD k [])) := all_range_snoc _ k
end Go.Proofs.Ytehlebeeoeghmaa
