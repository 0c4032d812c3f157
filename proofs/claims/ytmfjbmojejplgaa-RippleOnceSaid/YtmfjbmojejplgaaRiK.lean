/- Layer 14: heaps, as lists. -/
import Derived.Test.YtmfjbmojejplgaaRiJ
namespace Go.Proofs.Ytmfjbmojejplgaa
set_option linter.unusedVariables false
set_option linter.unusedSimpArgs false
theorem swpL_at (xs : List DrR) (i j k : Nat) (hi : i < xs.length) (hj : j < xs.length) : drAt (swpL xs i j) k = if k = j then drAt xs i else if k = i then drAt xs j else drAt xs k := by
  unfold swpL
  by_cases h1 : k = j
  · subst h1; rw [if_pos rfl]; simp [List.getD, hj]
  · rw [if_neg h1]
    have e : drAt ((xs.set i (drAt xs j)).set j (drAt xs i)) k = drAt (xs.set i (drAt xs j)) k := by simp only [List.getD]; rw [List.getElem?_set_ne (Ne.symm h1)]
    rw [e]
    by_cases h2 : k = i
    · subst h2; rw [if_pos rfl]; simp [List.getD, hi]
    · rw [if_neg h2]; simp only [List.getD]; rw [List.getElem?_set_ne (Ne.symm h2)]
theorem swpL_perm (l : List DrR) (i j : Nat) (hi : i < l.length) (hj : j < l.length) : (swpL l i j).Perm l := by
  rw [List.perm_iff_count]
  intro a
  have g1 : drAt l j = l[j] := by simp [List.getD, hj]
  have g2 : drAt l i = l[i] := by simp [List.getD, hi]
  have hj2 : j < (l.set i l[j]).length := by simpa using hj
  have e : (l.set i l[j])[j] = l[j] := by
    rw [List.getElem_set]
    split
    · rfl
    · rfl
  unfold swpL
  rw [g1, g2, List.count_set hj2, e, List.count_set hi]
  have p1 : (if l[i] == a then 1 else 0) ≤ l.count a := by
    split
    · rename_i h
      have : l[i] = a := by simpa using h
      rw [← this]
      exact List.count_pos_iff.2 (List.getElem_mem hi)
    · omega
  generalize hx : (if l[i] == a then 1 else 0) = x at *
  generalize hy : (if l[j] == a then 1 else 0) = y at *
  omega
def par (k : Nat) : Nat := (k - 1) / 2
abbrev leA (xs : List DrR) (a b : Nat) : Prop := leD (drAt xs a) (drAt xs b) = true
/-- The first m are a heap. -/
def HeapN (xs : List DrR) (m : Nat) : Prop := ∀ k, 0 < k → k < m → leA xs (par k) k
/-- A heap but for one that may be too small for its place. -/
def UpInv (xs : List DrR) (n j : Nat) : Prop := (∀ k, 0 < k → k < n → k ≠ j → leA xs (par k) k) ∧ (∀ k, 0 < k → k < n → par k = j → 0 < j → leA xs (par j) k)
/-- A heap but for one that may be too great for its place. -/
def DnInv (xs : List DrR) (m i : Nat) : Prop := (∀ k, 0 < k → k < m → par k ≠ i → leA xs (par k) k) ∧ (∀ k, 0 < k → k < m → par k = i → 0 < i → leA xs (par i) k)
theorem lt_le {a b : DrR} (h : befD a b = true) : leD a b = true := by rw [befD_iff] at h; rw [leD_iff]; omega
theorem nlt_le {a b : DrR} (h : befD a b = false) : leD b a = true := by unfold leD; rw [h]; rfl
theorem up_start {xs : List DrR} {n : Nat} (h : HeapN xs n) (x : DrR) (hn : xs.length = n) : UpInv (xs ++ [x]) (n + 1) n := by
  have e : ∀ k, k < n → drAt (xs ++ [x]) k = drAt xs k := fun k hk => by simp only [List.getD]; rw [List.getElem?_append_left (by omega)]
  refine ⟨fun k h0 hk hne => ?_, fun k h0 hk hp hj => ?_⟩
  · have hp : par k < n := by unfold par; omega
    show leD _ _ = true
    rw [e k (by omega), e _ hp]
    exact h k h0 (by omega)
  · unfold par at hp; omega
theorem up_done {xs : List DrR} {n j : Nat} (h : UpInv xs n j) (hl : 0 < j → leA xs (par j) j) : HeapN xs n := fun k h0 hk => by
  by_cases e : k = j
  · subst e; exact hl h0
  · exact h.1 k h0 hk e
theorem up_step {xs : List DrR} {n j : Nat} (hn : xs.length = n) (h : UpInv xs n j) (h0 : 0 < j) (hj : j < n) (hl : befD (drAt xs j) (drAt xs (par j)) = true) : UpInv (swpL xs (par j) j) n (par j) := by
  have hpj : par j < j := by unfold par; omega
  have at_ := fun k => swpL_at xs (par j) j k (by omega) (by omega)
  refine ⟨fun k k0 hk hne => ?_, fun k k0 hk hp hi => ?_⟩
  · show leD _ _ = true
    rw [at_, at_]
    by_cases e1 : k = j
    · subst e1
      rw [if_pos rfl, if_neg (by omega), if_pos rfl]
      exact lt_le hl
    · rw [if_neg e1, if_neg hne]
      by_cases e2 : par k = j
      · rw [if_pos e2]
        exact h.2 k k0 hk e2 h0
      · rw [if_neg e2]
        by_cases e3 : par k = par j
        · rw [if_pos e3]
          have := h.1 k k0 hk e1
          unfold leA at this
          rw [e3] at this
          exact leD_trans _ _ _ (lt_le hl) this
        · rw [if_neg e3]; exact h.1 k k0 hk e1
  · show leD _ _ = true
    have hpp : par (par j) < par j := by unfold par at *; omega
    rw [at_, at_, if_neg (by omega), if_neg (by omega)]
    have hg : leA xs (par (par j)) (par j) := h.1 (par j) hi (by omega) (by omega)
    by_cases e1 : k = j
    · rw [if_pos e1]; exact hg
    · have e2 : ¬ k = par j := by unfold par at *; omega
      rw [if_neg e1, if_neg e2]
      have := h.1 k k0 hk e1
      unfold leA at this
      rw [hp] at this
      exact leD_trans _ _ _ hg this
theorem dn_done {xs : List DrR} {m i : Nat} (h : DnInv xs m i) (hl : ∀ k, 0 < k → k < m → par k = i → leA xs i k) : HeapN xs m := fun k h0 hk => by
  by_cases e : par k = i
  · rw [e]; exact hl k h0 hk e
  · exact h.1 k h0 hk e
theorem dn_step {xs : List DrR} {m i j : Nat} (hm : m ≤ xs.length) (h : DnInv xs m i) (j0 : 0 < j) (hj : j < m) (hp : par j = i) (hl : befD (drAt xs j) (drAt xs i) = true) (hs : ∀ k, 0 < k → k < m → par k = i → leA xs j k) : DnInv (swpL xs i j) m j := by
  have hij : i < j := by rw [← hp]; unfold par; omega
  have at_ := fun k => swpL_at xs i j k (by omega) (by omega)
  refine ⟨fun k k0 hk hne => ?_, fun k k0 hk hpk _ => ?_⟩
  · show leD _ _ = true
    have hpk : par k < k := by unfold par; omega
    rw [at_, at_, if_neg hne]
    by_cases e1 : par k = i
    · rw [if_pos e1]
      by_cases e2 : k = j
      · rw [if_pos e2]; exact lt_le hl
      · rw [if_neg e2, if_neg (by omega)]
        exact hs k k0 hk e1
    · rw [if_neg e1]
      by_cases e2 : k = j
      · subst e2; exact absurd hp e1
      · rw [if_neg e2]
        by_cases e3 : k = i
        · subst e3
          rw [if_pos rfl]
          exact h.2 j j0 hj hp k0
        · rw [if_neg e3]; exact h.1 k k0 hk e1
  · show leD _ _ = true
    have hkj : j < k := by rw [← hpk]; unfold par; omega
    rw [hp, at_, at_, if_neg (by omega), if_pos rfl, if_neg (by omega), if_neg (by omega)]
    have := h.1 k k0 hk (by rw [hpk]; omega)
    unfold leA at this
    rwa [hpk] at this
theorem dn_start {xs : List DrR} {n : Nat} (h : HeapN xs n) (hn : xs.length = n) (h0 : 0 < n) : DnInv (swpL xs 0 (n - 1)) (n - 1) 0 := by
  have at_ := fun k => swpL_at xs 0 (n - 1) k (by omega) (by omega)
  refine ⟨fun k k0 hk hne => ?_, fun k k0 hk hp hi => absurd hi (by omega)⟩
  show leD _ _ = true
  have hpk : par k < k := by unfold par; omega
  rw [at_, at_, if_neg (by omega), if_neg hne, if_neg (by omega), if_neg (by omega)]
  exact h k k0 (by omega)
/-- The root is the least one. -/
theorem heap_root {xs : List DrR} {n : Nat} (h : HeapN xs n) : ∀ k, k < n → leA xs 0 k := by
  intro k
  induction k using Nat.strongRecOn with
  | _ k ih =>
    intro hk
    rcases Nat.eq_zero_or_pos k with e | e
    · subst e; show leD _ _ = true; rw [leD_iff]; omega
    · have hp : par k < k := by unfold par; omega
      exact leD_trans _ _ _ (ih _ hp (by omega)) (h k e hk)
end Go.Proofs.Ytmfjbmojejplgaa
