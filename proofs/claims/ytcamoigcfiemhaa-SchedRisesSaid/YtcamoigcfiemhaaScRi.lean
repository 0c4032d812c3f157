/- Layer 20: threads that lock in rising order never stand still (lists alone). -/
import Derived.Test.YtcamoigcfiemhaaScM
namespace Go.Proofs.Ytcamoigcfiemhaa
set_option linter.unusedVariables false
set_option linter.unusedSimpArgs false
open Go.RowKit Go.Lib
set_option maxRecDepth 100000
/-- A thread: its locks, rising; the cell and the number that it adds. -/
structure Th where
  ls : List Nat
  c : Nat
  n : Int
def Th.ins (x : Th) : List InR := x.ls.map (fun (a : Nat) => ((0 : Int), (a : Int), (0 : Int))) ++ ((2 : Int), (x.c : Int), x.n) :: x.ls.map (fun (a : Nat) => ((1 : Int), (a : Int), (0 : Int)))
def Th.k (x : Th) : Nat := x.ls.length
def Th.ok (x : Th) : Prop := x.ls.Pairwise (· < ·) ∧ (∀ a ∈ x.ls, a < 4) ∧ x.c < 4
/-- The locks that it holds at its place p. -/
def Th.held (x : Th) (p : Nat) : List Nat := (x.ls.take p).drop (p - (x.k + 1))
theorem Th.len (x : Th) : x.ins.length = 2 * x.k + 1 := by simp [Th.ins, Th.k]; omega
theorem Th.at_lock (x : Th) (p : Nat) (h : p < x.k) : x.ins.getD p default = (0, ((x.ls.getD p 0 : Nat) : Int), 0) := by
  unfold Th.k at h
  simp [Th.ins, List.getD, List.getElem?_append_left, h]
theorem Th.at_add (x : Th) : x.ins.getD x.k default = (2, (x.c : Int), x.n) := by
  simp [Th.ins, List.getD, Th.k]
theorem Th.at_unlock (x : Th) (i : Nat) (h : i < x.k) : x.ins.getD (x.k + 1 + i) default = (1, ((x.ls.getD i 0 : Nat) : Int), 0) := by
  unfold Th.k at *
  unfold Th.ins
  rw [List.getD_eq_getElem?_getD, List.getElem?_append_right (by simp; omega)]
  simp only [List.length_map]
  rw [show x.ls.length + 1 + i - x.ls.length = i + 1 by omega, List.getElem?_cons_succ]
  simp [h]
theorem getD_nat (l : List Nat) (i : Nat) (h : i < l.length) : l.getD i 0 = l[i] := by simp [List.getD, h]
theorem Th.held_lock (x : Th) (p : Nat) (h : p < x.k) : x.held (p + 1) = x.held p ++ [x.ls.getD p 0] := by
  unfold Th.held
  rw [show p + 1 - (x.k + 1) = 0 by omega, show p - (x.k + 1) = 0 by omega, List.drop_zero, List.drop_zero, List.take_add_one, List.getElem?_eq_getElem h, getD_nat _ _ h]
  rfl
theorem Th.held_add (x : Th) : x.held (x.k + 1) = x.held x.k := by
  unfold Th.held
  rw [show x.k + 1 - (x.k + 1) = 0 by omega, show x.k - (x.k + 1) = 0 by omega, List.take_of_length_le (by unfold Th.k; omega), List.take_of_length_le (by unfold Th.k; omega)]
theorem Th.held_unlock (x : Th) (i : Nat) (h : i < x.k) : x.held (x.k + 1 + i) = x.ls.getD i 0 :: x.held (x.k + 1 + (i + 1)) := by
  unfold Th.held
  rw [show x.k + 1 + i - (x.k + 1) = i by omega, show x.k + 1 + (i + 1) - (x.k + 1) = i + 1 by omega, List.take_of_length_le (by unfold Th.k; omega), List.take_of_length_le (by unfold Th.k; omega), getD_nat _ _ h, List.drop_eq_getElem_cons h]
theorem Th.held_end (x : Th) : x.held (2 * x.k + 1) = [] := by
  unfold Th.held
  rw [show 2 * x.k + 1 - (x.k + 1) = x.k by omega, List.take_of_length_le (by unfold Th.k; omega)]
  exact List.drop_of_length_le (Nat.le_refl _)
theorem Th.held_sub (x : Th) (p a : Nat) (h : a ∈ x.held p) : a ∈ x.ls := List.mem_of_mem_take (List.mem_of_mem_drop h)
/-- What is held while it waits for a lock lies below it. -/
theorem Th.held_below (x : Th) (hx : x.ok) (p : Nat) (h : p < x.k) (a : Nat) (ha : a ∈ x.held p) : a < x.ls.getD p 0 := by
  have h2 : a ∈ x.ls.take p := List.mem_of_mem_drop ha
  obtain ⟨i, hi, e⟩ := List.mem_iff_getElem.1 h2
  rw [List.length_take] at hi
  rw [getD_nat _ _ h, ← e, List.getElem_take]
  exact List.pairwise_iff_getElem.1 hx.1 i p (by have : p < x.ls.length := h; omega) h (by omega)
theorem Th.held_nodup (x : Th) (hx : x.ok) (p : Nat) : (x.held p).Nodup := by
  have : x.ls.Nodup := hx.1.imp (fun h => Nat.ne_of_lt h)
  exact (this.sublist (List.take_sublist _ _)).sublist (List.drop_sublist _ _)
/-! Sums over threads. -/
def sumN (f : Nat → Int) : Nat → Int
  | 0 => 0
  | n + 1 => sumN f n + f n
theorem sumN_upd {f g : Nat → Int} {t : Nat} (h : ∀ u, u ≠ t → g u = f u) : ∀ n, sumN g n = sumN f n + (if t < n then g t - f t else 0)
  | 0 => by simp [sumN]
  | n + 1 => by
    unfold sumN
    rw [sumN_upd h n]
    by_cases e : n = t
    · subst e; rw [if_neg (by omega), if_pos (by omega)]; omega
    · rw [h n e]
      by_cases q : t < n
      · rw [if_pos q, if_pos (by omega)]; omega
      · rw [if_neg q, if_neg (by omega)]; omega
theorem sumN_le {f : Nat → Int} (h : ∀ u, 0 ≤ f u) : ∀ n, 0 ≤ sumN f n
  | 0 => by simp [sumN]
  | n + 1 => by unfold sumN; have := sumN_le h n; have := h n; omega
theorem sumN_zero {f : Nat → Int} (h : ∀ u, 0 ≤ f u) : ∀ n, sumN f n = 0 → ∀ t, t < n → f t = 0
  | 0, _, t, ht => by omega
  | n + 1, hs, t, ht => by
    unfold sumN at hs
    have h1 := sumN_le h n
    have h2 := h n
    by_cases e : t = n
    · subst e; omega
    · exact sumN_zero h n (by omega) t (by omega)
theorem sumN_congr {f g : Nat → Int} : ∀ n, (∀ t, t < n → f t = g t) → sumN f n = sumN g n
  | 0, _ => rfl
  | n + 1, h => by unfold sumN; rw [sumN_congr n (fun t ht => h t (by omega)), h n (by omega)]
end Go.Proofs.Ytcamoigcfiemhaa
