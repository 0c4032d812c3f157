/- Several stores into one block, as a struct's store makes them. No program. -/
import Derived.Test.YtehlebeeoeghmaaWords
import Derived.RangeFuncOwn
import Derived.RangeFuncWrites
namespace Go.Proofs.Ytehlebeeoeghmaa
set_option linter.unusedVariables false
set_option linter.unusedSimpArgs false
open Go.RowKit
/-- Stores into block g, from place i on. -/
def setL (w : World) (g : Nat) (i : Nat) : List Value → World
  | [] => w
  | v :: vs => setL (w.setCell ⟨g, i, none⟩ v) g (i + 1) vs
def setA (cs : Array Value) (i : Nat) : List Value → Array Value
  | [] => cs
  | v :: vs => setA (cs.setIfInBounds i v) (i + 1) vs
theorem Box.putL {g : Nat} {t : TypeId} : ∀ (vs : List Value) {w : World} {cs : Array Value} (i : Nat), Box w g t cs → Box (setL w g i vs) g t (setA cs i vs)
  | [], _, _, _, h => h
  | v :: vs, _, _, i, h => Box.putL vs (i + 1) (h.put i v)
theorem setA_size : ∀ (vs : List Value) (cs : Array Value) (i : Nat), (setA cs i vs).size = cs.size
  | [], _, _ => rfl
  | v :: vs, cs, i => by rw [setA, setA_size vs]; simp
theorem setA_get : ∀ (vs : List Value) (cs : Array Value) (i j : Nat), i + vs.length ≤ cs.size → (setA cs i vs)[j]? = if i ≤ j ∧ j < i + vs.length then vs[j - i]? else cs[j]?
  | [], cs, i, j, _ => by rw [if_neg (by simp only [List.length_nil]; omega)]; rfl
  | v :: vs, cs, i, j, h => by
    simp only [List.length_cons] at h
    rw [setA, setA_get vs _ _ _ (by simp; omega)]
    by_cases h1 : i + 1 ≤ j ∧ j < i + 1 + vs.length
    · rw [if_pos h1, if_pos (by simp only [List.length_cons]; omega), show j - i = (j - (i + 1)) + 1 by omega, List.getElem?_cons_succ]
    · rw [if_neg h1]
      by_cases h2 : i = j
      · subst h2
        rw [if_pos (by simp only [List.length_cons]; omega), Nat.sub_self, List.getElem?_cons_zero, Array.getElem?_setIfInBounds_self_of_lt (by omega)]
      · rw [if_neg (by simp only [List.length_cons]; omega), Array.getElem?_setIfInBounds_ne h2]
theorem setA_all (vs : List Value) (cs : Array Value) (h : vs.length = cs.size) : setA cs 0 vs = vs.toArray := by
  apply Array.ext_getElem?
  intro j
  rw [setA_get vs cs 0 j (by omega), Nat.zero_add, Nat.sub_zero]
  by_cases hj : j < vs.length
  · rw [if_pos ⟨Nat.zero_le _, hj⟩]; simp
  · rw [if_neg (by omega), Array.getElem?_eq_none (by omega)]; simp; omega
/-- All cells of a box stored anew. -/
theorem Box.putAll {w : World} {g : Nat} {t : TypeId} {cs : Array Value} (vs : List Value) (h : Box w g t cs) (hl : vs.length = cs.size) : Box (Go.Proofs.Ytehlebeeoeghmaa.setL w g 0 vs) g t vs.toArray := by
  rw [← setA_all vs cs hl]; exact Box.putL vs 0 h
theorem Box.farL {g g' : Nat} {t : TypeId} {cs : Array Value} (hn : g ≠ g') : ∀ (vs : List Value) {w : World} (i : Nat), Box w g t cs → Box (setL w g' i vs) g t cs
  | [], _, _, h => h
  | v :: vs, _, i, h => Box.farL hn vs (i + 1) (h.far (p := ⟨g', i, none⟩) hn v)
theorem below_setL {B g : Nat} {w : World} (hg : B ≤ g) : ∀ (vs : List Value) {x : World} (i : Nat), Below B w x → Below B w (setL x g i vs)
  | [], _, _, h => h
  | v :: vs, _, i, h => below_setL hg vs (i + 1) (h.setCell (p := ⟨g, i, none⟩) hg v)
theorem keeps_setL {g : Nat} : ∀ (vs : List Value) (w : World) (i : Nat), KeepsOthers w (setL w g i vs)
  | [], w, _ => KeepsOthers.refl w
  | v :: vs, w, i => (KeepsOthers.setCell w _ v).trans (keeps_setL vs _ (i + 1))
theorem heap_setL {g b : Nat} (hn : b ≠ g) : ∀ (vs : List Value) (w : World) (i : Nat), (setL w g i vs).heap[b]? = w.heap[b]?
  | [], _, _ => rfl
  | v :: vs, w, i => (heap_setL hn vs _ (i + 1)).trans (heap_setCell_other w ⟨g, i, none⟩ b v hn)
theorem size_setL {g : Nat} : ∀ (vs : List Value) (w : World) (i : Nat), (setL w g i vs).heap.size = w.heap.size
  | [], _, _ => rfl
  | v :: vs, w, i => (size_setL vs _ (i + 1)).trans (by simp [World.setCell])
theorem box_own {β : Type} (B : Nat) (t : TypeId) (f : β → Array Value) : Own (fun s W => Box W B t (f s)) := fun s X Y row hs hg hrow =>
  hs.grown hg (fun e' => by obtain ⟨o, ho, hc⟩ := hrow B e'; rw [show X.heap[B]? = _ from hs] at ho; cases ho; cases hc)
theorem boxed_putObj {W : World} {B D : Nat} {t : TypeId} {cs : Array Value} {o : Obj} (hD : D ≠ B) (h : Box W B t cs) : Box (W.putObj D o) B t cs := (World.putObj_heap_other (Ne.symm hD)).trans h
end Go.Proofs.Ytehlebeeoeghmaa
