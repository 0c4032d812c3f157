/- Plain mathematics of layer 7: roots, tables. No program. -/
import Derived.WalkKit
import Derived.Lib.Hide
namespace Go.Proofs.YtbgikkeiapbghaaDoor
theorem countP_lt (n m : Nat) : (List.range n).countP (fun i => decide (i < m)) = min n m := by
  induction n with
  | zero => simp
  | succ n ih =>
    rw [List.range_succ, List.countP_append, ih]
    by_cases h : n < m
    · simp [h]; omega
    · simp [h]; omega
/-- How many of the numbers below 65536 have squares of at most k. -/
def cnt (k : Nat) : Nat := (List.range 65536).countP (fun i => !decide (k < i * i))
theorem exists_root (k : Nat) : ∃ s, s * s ≤ k ∧ k < (s + 1) * (s + 1) := by
  induction k with
  | zero => exact ⟨0, by omega, by omega⟩
  | succ k ih =>
    obtain ⟨s, h1, h2⟩ := ih
    by_cases h : k + 1 < (s + 1) * (s + 1)
    · exact ⟨s, by omega, h⟩
    · refine ⟨s + 1, by omega, ?_⟩
      have e : (s + 1 + 1) * (s + 1 + 1) = (s + 1) * (s + 1) + 2 * s + 3 := by
        simp only [Nat.add_mul, Nat.mul_add]; omega
      omega
theorem sq_le {a b : Nat} (h : a ≤ b) : a * a ≤ b * b := Nat.mul_le_mul h h
theorem cnt_of (k s : Nat) (h1 : s * s ≤ k) (h2 : k < (s + 1) * (s + 1)) (hs : s < 65536) : cnt k = s + 1 := by
  unfold cnt
  have : (List.range 65536).countP (fun i => !decide (k < i * i)) = (List.range 65536).countP (fun i => decide (i < s + 1)) := by
    apply List.countP_congr
    intro i _
    have : (k < i * i) ↔ ¬ (i < s + 1) := by
      constructor
      · intro h h3
        have := sq_le (show i ≤ s by omega)
        omega
      · intro h
        have := sq_le (show s + 1 ≤ i by omega)
        omega
    simp [this]
  rw [this, countP_lt]
  omega
/-- A number's square root, rounded down. -/
def root (k : Nat) : Nat := cnt k - 1
theorem root_of (k s : Nat) (h1 : s * s ≤ k) (h2 : k < (s + 1) * (s + 1)) (hk : k ≤ 2147483647) : root k = s ∧ cnt k = s + 1 := by
  have hs : s < 65536 := by
    rcases Nat.lt_or_ge s 65536 with h | h
    · exact h
    · have := sq_le h; omega
  have := cnt_of k s h1 h2 hs
  exact ⟨by unfold root; omega, this⟩
theorem root_spec (k : Nat) (hk : k ≤ 2147483647) : root k * root k ≤ k ∧ k < (root k + 1) * (root k + 1) ∧ cnt k = root k + 1 ∧ root k < 65536 := by
  obtain ⟨s, h1, h2⟩ := exists_root k
  obtain ⟨e, e2⟩ := root_of k s h1 h2 hk
  have hs : s < 65536 := by
    rcases Nat.lt_or_ge s 65536 with h | h
    · exact h
    · have := sq_le h; omega
  rw [e, e2]
  exact ⟨h1, h2, rfl, hs⟩
theorem root_next (k : Nat) (hk : k + 1 ≤ 2147483647) : root (k + 1) = root k ∨ root (k + 1) = root k + 1 := by
  obtain ⟨a1, a2, _⟩ := root_spec k (by omega)
  generalize root k = s at *
  by_cases h : k + 1 < (s + 1) * (s + 1)
  · left; exact (root_of (k + 1) s (by omega) h hk).1
  · right
    refine (root_of (k + 1) (s + 1) (by omega) ?_ hk).1
    have e : (s + 1 + 1) * (s + 1 + 1) = (s + 1) * (s + 1) + 2 * s + 3 := by
      simp only [Nat.add_mul, Nat.mul_add]; omega
    omega
theorem root_sq (n : Nat) (hn : n < 46340) : root (n * n) = n ∧ root (n * n + 2 * n) = n := by
  have h := sq_le (show n ≤ 46339 by omega)
  have e : (n + 1) * (n + 1) = n * n + 2 * n + 1 := by simp only [Nat.add_mul, Nat.mul_add]; omega
  exact ⟨(root_of _ n (by omega) (by omega) (by omega)).1, (root_of _ n (by omega) (by omega) (by omega)).1⟩
/-- May a table be? -/
def risesFrom : Nat → List Nat → Bool
  | _, [] => true
  | a, x :: l => decide (a < x) && risesFrom x l
def tabB (ws : List Nat) : Bool := decide (1 ≤ ws.length) && decide (ws.length ≤ 64) && risesFrom 0 ws
theorem rises_at : ∀ (ws : List Nat) (a k : Nat), risesFrom a ws = true → k < ws.length → a < ws.getD k 0 ∧ (k + 1 < ws.length → ws.getD k 0 < ws.getD (k + 1) 0)
  | [], _, _, _, h => by simp at h
  | x :: l, a, k, h, hk => by
    simp only [risesFrom, Bool.and_eq_true, decide_eq_true_eq] at h
    cases k with
    | zero =>
      refine ⟨by simpa using h.1, fun hl => ?_⟩
      have := (rises_at l x 0 h.2 (by simpa using hl)).1
      simpa using this
    | succ k =>
      have := rises_at l x k h.2 (by simpa using hk)
      simp only [List.length_cons] at hk
      refine ⟨by have := this.1; simp only [List.getD_cons_succ]; omega, fun hl => ?_⟩
      simpa using this.2 (by simpa using hl)
theorem rises_mono (ws : List Nat) (h : risesFrom 0 ws = true) (a b : Nat) (hab : a ≤ b) (hb : b < ws.length) : ws.getD a 0 ≤ ws.getD b 0 := by
  induction b with
  | zero => obtain rfl : a = 0 := by omega
            exact Nat.le_refl _
  | succ b ih =>
    by_cases e : a = b + 1
    · rw [e]; exact Nat.le_refl _
    · have h1 := ih (by omega) (by omega)
      have h2 := (rises_at ws 0 b h (by omega)).2 hb
      omega
theorem rises_take (ws : List Nat) (a k : Nat) (hk : k < ws.length) : risesFrom a (ws.take (k + 1)) = (risesFrom a (ws.take k) && decide ((if k = 0 then a else ws.getD (k - 1) 0) < ws.getD k 0)) := by
  induction ws generalizing a k with
  | nil => simp at hk
  | cons x l ih =>
    cases k with
    | zero => simp [risesFrom]
    | succ k =>
      rw [List.take_succ_cons, List.take_succ_cons, risesFrom, risesFrom, ih x k (by simpa using hk), Bool.and_assoc]
      cases k with
      | zero => simp
      | succ k => simp
theorem rises_stop (ws : List Nat) (k : Nat) (hk : k ≤ ws.length) (h : risesFrom 0 (ws.take k) = false) : risesFrom 0 ws = false := by
  rw [Bool.eq_false_iff]
  intro ha
  have : ∀ j, j ≤ ws.length → risesFrom 0 (ws.take j) = true := by
    intro j hj
    have hz := List.take_append_drop j ws
    generalize ws.take j = p at *
    generalize ws.drop j = q at *
    subst hz
    clear h hk hj
    have : ∀ (p : List Nat) (a : Nat), risesFrom a (p ++ q) = true → risesFrom a p = true := by
      intro p
      induction p with
      | nil => intro a _; rfl
      | cons x p ih =>
        intro a h
        simp only [List.cons_append, risesFrom, Bool.and_eq_true] at h ⊢
        exact ⟨h.1, ih x h.2⟩
    exact this p 0 ha
  rw [this k hk] at h
  cases h
/-- The degree that a number picks. -/
def pickN (ws : List Nat) (n : Nat) : Nat := (List.range ws.length).countP (fun i => !decide (n < ws.getD i 0))
theorem pickN_of (ws : List Nat) (n s : Nat) (h1 : ∀ i, i < s → ws.getD i 0 ≤ n) (h2 : ∀ i, s ≤ i → i < ws.length → n < ws.getD i 0) (hs : s ≤ ws.length) : pickN ws n = s := by
  unfold pickN
  have : (List.range ws.length).countP (fun i => !decide (n < ws.getD i 0)) = (List.range ws.length).countP (fun i => decide (i < s)) := by
    apply List.countP_congr
    intro i hi
    have hi' : i < ws.length := by simpa using hi
    by_cases h : i < s
    · have := h1 i h
      simp [h]
      simp [List.getD] at this
      omega
    · have := h2 i (by omega) hi'
      simp [h]
      simp [List.getD] at this
      omega
  rw [this, countP_lt]
  omega
end Go.Proofs.YtbgikkeiapbghaaDoor
