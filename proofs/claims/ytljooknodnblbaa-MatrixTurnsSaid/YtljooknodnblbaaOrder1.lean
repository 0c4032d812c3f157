/- Rows of one size that may be: what Xor and And of them are; the plain laws of both. -/
import Derived.Test.YtljooknodnblbaaBitrow3
namespace Go.Proofs.Ytljooknodnblbaa
set_option linter.unusedVariables false
set_option linter.unusedSimpArgs false
open Go.RowKit
theorem right_len_eq {n : Int} {us : List Nat} (h : rightB n us = true) : us.length = nw n.toNat := by
  simp only [rightB, Bool.and_eq_true, beq_iff_eq] at h
  exact h.1.2
theorem right_lmb {n : Int} {us : List Nat} (h : rightB n us = true) : lmb n = true := by
  simp only [rightB, Bool.and_eq_true] at h
  exact h.1.1
theorem zip_last (g : Nat → Nat → Nat) (us vs : List Nat) (i : Nat) (hu : i < us.length) (hv : i < vs.length) : (List.zipWith g us vs).getD i 0 = g (us.getD i 0) (vs.getD i 0) := by
  simp [List.getD, List.getElem?_zipWith, hu, hv]
theorem right_zip (g : Nat → Nat → Nat) (hg : ∀ x y k, x / 2 ^ k = 0 → y / 2 ^ k = 0 → g x y / 2 ^ k = 0) {n : Int} {us vs : List Nat} (h1 : rightB n us = true) (h2 : rightB n vs = true) : rightB n (List.zipWith g us vs) = true := by
  have l1 := right_len_eq h1
  have l2 := right_len_eq h2
  have hl : (List.zipWith g us vs).length = us.length := by simp; omega
  simp only [rightB, Bool.and_eq_true, Bool.or_eq_true, beq_iff_eq] at h1 h2 ⊢
  refine ⟨⟨h1.1.1, by rw [hl]; exact h1.1.2⟩, ?_⟩
  rcases h1.2 with h | h
  · exact .inl h
  · rcases h2.2 with h' | h'
    · exact .inl h'
    · by_cases h0 : us.length = 0
      · left
        rw [l1] at h0
        unfold nw at h0
        omega
      · right
        rw [hl, zip_last g us vs _ (by omega) (by omega)]
        exact hg _ _ _ h (by rw [l2, ← l1] at h'; exact h')
theorem xor_div (x y k : Nat) (h : x / 2 ^ k = 0) (h' : y / 2 ^ k = 0) : (x ^^^ y) / 2 ^ k = 0 := by
  have p : 0 < 2 ^ k := Nat.two_pow_pos k
  rw [Nat.div_eq_zero_iff] at h h' ⊢
  right
  exact Nat.xor_lt_two_pow (by omega) (by omega)
theorem and_div (x y k : Nat) (h : x / 2 ^ k = 0) (_ : y / 2 ^ k = 0) : (x &&& y) / 2 ^ k = 0 := by
  have p : 0 < 2 ^ k := Nat.two_pow_pos k
  rw [Nat.div_eq_zero_iff] at h ⊢
  right
  have := Nat.and_le_left (n := x) (m := y)
  omega
def xorL (us vs : List Nat) : List Nat := List.zipWith (· ^^^ ·) us vs
def andL (us vs : List Nat) : List Nat := List.zipWith (· &&& ·) us vs
theorem right_xor {n : Int} {us vs : List Nat} (h1 : rightB n us = true) (h2 : rightB n vs = true) : rightB n (xorL us vs) = true := right_zip _ xor_div h1 h2
theorem right_and {n : Int} {us vs : List Nat} (h1 : rightB n us = true) (h2 : rightB n vs = true) : rightB n (andL us vs) = true := right_zip _ and_div h1 h2
theorem joinE_ok {n m : Int} {us vs : List Nat} (h : joinE n us m vs = 0) : rightB n us = true ∧ rightB m vs = true ∧ n = m := by
  unfold joinE at h
  split at h
  · rename_i h1
    rw [Bool.and_eq_true] at h1
    split at h
    · rename_i h2
      exact ⟨h1.1, h1.2, by simpa using h2⟩
    · omega
  · omega
theorem joinE_no {n m : Int} {us vs : List Nat} (g : Nat → Nat → Nat) (h : joinE n us m vs ≠ 0) : joinN n us m vs = 0 ∧ joinW g n us m vs = [] := by
  unfold joinE at h
  unfold joinN joinW
  by_cases h1 : (rightB n us && rightB m vs) = true
  · rw [if_pos h1] at h
    by_cases h2 : (n == m) = true
    · rw [if_pos h2] at h; omega
    · rw [if_neg (by simp [h2]), if_neg (by simp [h2])]; exact ⟨rfl, rfl⟩
  · rw [if_neg (by simp [h1]), if_neg (by simp [h1])]; exact ⟨rfl, rfl⟩
theorem xorL_comm (us vs : List Nat) : xorL us vs = xorL vs us := by
  unfold xorL
  rw [List.zipWith_comm]
  congr 1
  funext x y
  exact Nat.xor_comm _ _
theorem andL_comm (us vs : List Nat) : andL us vs = andL vs us := by
  unfold andL
  rw [List.zipWith_comm]
  congr 1
  funext x y
  exact Nat.and_comm _ _
theorem xorL_assoc (us vs zs : List Nat) : xorL (xorL us vs) zs = xorL us (xorL vs zs) := by
  induction us generalizing vs zs with
  | nil => simp [xorL]
  | cons x us ih =>
    cases vs with
    | nil => simp [xorL]
    | cons y vs =>
      cases zs with
      | nil => simp [xorL]
      | cons z zs =>
        have := ih vs zs
        simp only [xorL, List.zipWith_cons_cons] at this ⊢
        rw [this, Nat.xor_assoc]
theorem andL_xor (us vs zs : List Nat) : andL us (xorL vs zs) = xorL (andL us vs) (andL us zs) := by
  induction us generalizing vs zs with
  | nil => simp [xorL, andL]
  | cons x us ih =>
    cases vs with
    | nil => simp [xorL, andL]
    | cons y vs =>
      cases zs with
      | nil => simp [xorL, andL]
      | cons z zs =>
        have := ih vs zs
        simp only [xorL, andL, List.zipWith_cons_cons] at this ⊢
        rw [this, Nat.and_xor_distrib_left]
end Go.Proofs.Ytljooknodnblbaa
