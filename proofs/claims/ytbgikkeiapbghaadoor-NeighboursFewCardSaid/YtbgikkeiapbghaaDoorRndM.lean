/- Layer 6, its arithmetic: mixed is one to one, so some number of a state is below whatever the bound leaves out. No program. -/
import Derived.WalkKit
import Derived.Lib.Hide
namespace Go.Proofs.YtbgikkeiapbghaaDoor
def M64 : Nat := 18446744073709551616
def mixA (z : Nat) : Nat := ((z ^^^ z / 1073741824) * 13787848793156543929) % 18446744073709551616
def mixB (z : Nat) : Nat := ((z ^^^ z / 134217728) * 10723151780598845931) % 18446744073709551616
def mixN (z : Nat) : Nat := mixB (mixA z) ^^^ mixB (mixA z) / 2147483648
theorem shx_inj (k : Nat) (hk : 1 ≤ k) (x y : Nat) (h : x ^^^ x / 2 ^ k = y ^^^ y / 2 ^ k) : x = y := by
  have hd : (x ^^^ y) = (x ^^^ y) / 2 ^ k := by
    apply Nat.eq_of_testBit_eq
    intro i
    have h1 := congrArg (fun z => Nat.testBit z i) h
    simp only [Nat.testBit_xor, Nat.testBit_div_two_pow] at h1 ⊢
    revert h1
    cases x.testBit i <;> cases y.testBit i <;> cases x.testBit (i + k) <;> cases y.testBit (i + k) <;> decide
  have h0 : x ^^^ y = 0 := by
    rcases Nat.eq_zero_or_pos (x ^^^ y) with e | e
    · exact e
    · have : (x ^^^ y) / 2 ^ k < x ^^^ y := Nat.div_lt_self e (Nat.one_lt_two_pow (by omega))
      omega
  apply Nat.eq_of_testBit_eq
  intro i
  have h1 := congrArg (fun z => Nat.testBit z i) h0
  simp only [Nat.testBit_xor, Nat.zero_testBit] at h1
  revert h1
  cases x.testBit i <;> cases y.testBit i <;> decide
theorem mul_inj (c d q : Nat) (hcd : c * d = 1 + q * 18446744073709551616) (x y : Nat) (hx : x < 18446744073709551616) (hy : y < 18446744073709551616) (h : x * c % 18446744073709551616 = y * c % 18446744073709551616) : x = y := by
  have k : ∀ z, z < 18446744073709551616 → (z * c % 18446744073709551616) * d % 18446744073709551616 = z := fun z hz => by
    rw [Nat.mod_mul_mod, Nat.mul_assoc, hcd, Nat.mul_add, Nat.mul_one, ← Nat.mul_assoc, Nat.add_mul_mod_self_right, Nat.mod_eq_of_lt hz]
  rw [← k x hx, h, k y hy]
theorem xor_lt (x k : Nat) (hx : x < 18446744073709551616) : x ^^^ x / k < 18446744073709551616 :=
  Nat.xor_lt_two_pow (n := 64) hx (Nat.lt_of_le_of_lt (Nat.div_le_self _ _) hx)
theorem mixA_lt (z : Nat) : mixA z < 18446744073709551616 := Nat.mod_lt _ (by omega)
theorem mixB_lt (z : Nat) : mixB z < 18446744073709551616 := Nat.mod_lt _ (by omega)
theorem mixN_lt (z : Nat) : mixN z < 18446744073709551616 := xor_lt _ _ (mixB_lt _)
theorem mixA_inj (x y : Nat) (hx : x < 18446744073709551616) (hy : y < 18446744073709551616) (h : mixA x = mixA y) : x = y :=
  shx_inj 30 (by omega) x y (mul_inj 13787848793156543929 10871156337175269513 8125545580553827436 (by decide) _ _ (xor_lt x _ hx) (xor_lt y _ hy) h)
theorem mixB_inj (x y : Nat) (hx : x < 18446744073709551616) (hy : y < 18446744073709551616) (h : mixB x = mixB y) : x = y :=
  shx_inj 27 (by omega) x y (mul_inj 10723151780598845931 3573116690164977347 2077064247507883091 (by decide) _ _ (xor_lt x _ hx) (xor_lt y _ hy) h)
theorem mixN_inj (x y : Nat) (hx : x < 18446744073709551616) (hy : y < 18446744073709551616) (h : mixN x = mixN y) : x = y :=
  mixA_inj x y hx hy (mixB_inj _ _ (mixA_lt x) (mixA_lt y) (shx_inj 31 (by omega) _ _ h))
/-- The next state. -/
def nextS (s : Nat) : Nat := (s + 11400714819323198485) % 18446744073709551616
theorem nextS_lt (s : Nat) : nextS s < 18446744073709551616 := Nat.mod_lt _ (by omega)
/-- The state behind so many numbers. -/
def stN (s j : Nat) : Nat := (s + j * 11400714819323198485) % 18446744073709551616
theorem stN_succ (s j : Nat) : stN s (j + 1) = nextS (stN s j) := by
  unfold stN nextS
  rw [Nat.mod_add_mod, Nat.succ_mul, Nat.add_assoc]
theorem add_cancel (s a b : Nat) (h : (s + a) % 18446744073709551616 = (s + b) % 18446744073709551616) : a % 18446744073709551616 = b % 18446744073709551616 := by omega
theorem stN_next (s j : Nat) : stN (nextS s) j = stN s (j + 1) := by
  unfold stN nextS
  rw [Nat.mod_add_mod, Nat.succ_mul, Nat.add_assoc, Nat.add_comm 11400714819323198485]
theorem stN_lt (s j : Nat) : stN s j < 18446744073709551616 := Nat.mod_lt _ (by omega)
theorem stN_inj (s i j : Nat) (hi : i < 1000) (hj : j < 1000) (h : stN s i = stN s j) : i = j := by
  have h1 : i < 18446744073709551616 := by omega
  have h2 : j < 18446744073709551616 := by omega
  exact mul_inj 11400714819323198485 17428512612931826493 10771413168148108919 (by decide) i j h1 h2 (add_cancel _ _ _ h)
theorem pigeon : ∀ (n : Nat) (f : Nat → Nat), (∀ i, i ≤ n → f i < n) → ∃ i j, i < j ∧ j ≤ n ∧ f i = f j
  | 0, f, h => absurd (h 0 (Nat.le_refl _)) (Nat.not_lt_zero _)
  | n + 1, f, h => by
    by_cases hc : ∃ i, i ≤ n ∧ f i = f (n + 1)
    · obtain ⟨i, hi, e⟩ := hc
      exact ⟨i, n + 1, by omega, Nat.le_refl _, e⟩
    · have hne : ∀ i, i ≤ n → f i ≠ f (n + 1) := fun i hi e => hc ⟨i, hi, e⟩
      have hv := h (n + 1) (Nat.le_refl _)
      obtain ⟨i, j, hij, hj, e⟩ := pigeon n (fun i => if f i = n then f (n + 1) else f i) (fun i hi => by
        have h1 := h i (by omega)
        have h2 := hne i hi
        by_cases h3 : f i = n
        · simp only [if_pos h3]; omega
        · simp only [if_neg h3]; omega)
      have h1 := hne i (by omega)
      have h2 := hne j hj
      refine ⟨i, j, hij, by omega, ?_⟩
      by_cases h3 : f i = n <;> by_cases h4 : f j = n
      · rw [h3, h4]
      · simp only [if_pos h3, if_neg h4] at e; exact absurd e.symm h2
      · simp only [if_neg h3, if_pos h4] at e; exact absurd e h1
      · simpa only [if_neg h3, if_neg h4] using e
/-- A state whose next number serves. -/
def good (over s : Nat) : Prop := mixN (nextS s) + over < 18446744073709551616
instance (over s : Nat) : Decidable (good over s) := inferInstanceAs (Decidable (_ < _))
/-- One of the next so many serves. -/
def gw (over : Nat) : Nat → Nat → Prop
  | 0, _ => False
  | k + 1, s => good over s ∨ gw over k (nextS s)
theorem stN_zero (s : Nat) (hs : s < 18446744073709551616) : stN s 0 = s := by
  unfold stN
  rw [Nat.zero_mul, Nat.add_zero, Nat.mod_eq_of_lt hs]
theorem gw_of (over k : Nat) : ∀ (s j : Nat), j < k → good over (stN s j) → s < 18446744073709551616 → gw over k s := by
  induction k with
  | zero => exact fun s j h _ _ => absurd h (Nat.not_lt_zero _)
  | succ k ih =>
    intro s j h hg hs
    cases j with
    | zero => exact .inl (by rwa [stN_zero s hs] at hg)
    | succ j => exact .inr (ih (nextS s) j (Nat.lt_of_succ_lt_succ h) (by rw [stN_next]; exact hg) (nextS_lt s))
theorem diff_lt {a b m : Nat} (h1 : a < m) (h2 : m ≤ a + b) : a + b - m < b := by omega
theorem diff_inj {a c b m : Nat} (h1 : m ≤ a + b) (h2 : m ≤ c + b) (e : a + b - m = c + b - m) : a = c := by omega
theorem gw_all (over s : Nat) (ho : over < 512) (hs : s < 18446744073709551616) : gw over 512 s := by
  by_cases h : ∃ j, j < 512 ∧ good over (stN s j)
  · obtain ⟨j, hj, hg⟩ := h
    exact gw_of over 512 s j hj hg hs
  · exfalso
    have hb : ∀ j, j < 512 → 18446744073709551616 ≤ mixN (stN s (j + 1)) + over := fun j hj => by
      have h1 : ¬ good over (stN s j) := fun hg => h ⟨j, hj, hg⟩
      unfold good at h1
      rw [← stN_succ] at h1
      exact Nat.le_of_not_lt h1
    obtain ⟨i, j, hij, hj, e⟩ := pigeon over (fun j => mixN (stN s (j + 1)) + over - 18446744073709551616) (fun j hj => diff_lt (mixN_lt _) (hb j (Nat.lt_of_le_of_lt hj ho)))
    have hj2 : j < 512 := Nat.lt_of_le_of_lt hj ho
    have hi2 : i < 512 := Nat.lt_trans hij hj2
    have h3 := mixN_inj _ _ (stN_lt s (i + 1)) (stN_lt s (j + 1)) (diff_inj (hb i hi2) (hb j hj2) e)
    have h4 := stN_inj s (i + 1) (j + 1) (Nat.lt_trans (Nat.succ_lt_succ hi2) (by decide)) (Nat.lt_trans (Nat.succ_lt_succ hj2) (by decide)) h3
    have h5 : i = j := Nat.succ.inj h4
    exact absurd hij (by rw [h5]; exact Nat.lt_irrefl _)
/-- The number below n, and the state behind it; at most so many tries. -/
def belowF (n over : Nat) : Nat → Nat → Nat × Nat
  | 0, s => (s, 0)
  | k + 1, s => if good over s then (nextS s, mixN (nextS s) % n) else belowF n over k (nextS s)
def belowN (n s : Nat) : Nat × Nat := belowF n (18446744073709551616 % n) 512 s
theorem over_lt (n : Nat) (h1 : 1 ≤ n) (h2 : n ≤ 512) : 18446744073709551616 % n < 512 := Nat.lt_of_lt_of_le (Nat.mod_lt _ (by omega)) h2
theorem belowF_lt (n over : Nat) (hn : 1 ≤ n) (k : Nat) : ∀ (s : Nat), s < 18446744073709551616 → (belowF n over k s).1 < 18446744073709551616 ∧ (belowF n over k s).2 < n := by
  induction k with
  | zero => exact fun s hs => ⟨hs, hn⟩
  | succ k ih =>
    intro s hs
    unfold belowF
    split
    · exact ⟨nextS_lt s, Nat.mod_lt _ hn⟩
    · exact ih (nextS s) (nextS_lt s)
theorem belowN_lt (n s : Nat) (hn : 1 ≤ n) (hs : s < 18446744073709551616) : (belowN n s).1 < 18446744073709551616 ∧ (belowN n s).2 < n := belowF_lt n _ hn 512 s hs
end Go.Proofs.YtbgikkeiapbghaaDoor
