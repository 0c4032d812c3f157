/- Plain mathematics: a text's sum as one number's walk of bits; an error within 32 bits in a row is always seen. No Go, no program. -/
import Derived.Test.YthihcdocfcfnkaaMath
namespace Crc
def num : List UInt8 → Nat
  | [] => 0
  | b :: l => b.toNat + 256 * num l
theorem hsN_succ' (n x : Nat) : hsN (n + 1) x = hsN n (hs x) := hsN_add n 1 x
theorem hsN_shift (k x : Nat) : hsN k (2 ^ k * x) = x := by
  induction k with
  | zero => simp [hsN]
  | succ k ih =>
    rw [hsN_succ', show 2 ^ (k + 1) * x = 2 * (2 ^ k * x) by rw [Nat.pow_succ]; rw [Nat.mul_comm (2 ^ k) 2, Nat.mul_assoc], hs_even, ih]
theorem add_xor (b : UInt8) (m : Nat) : b.toNat + 256 * m = b.toNat ^^^ 256 * m := by
  have hb := b.toNat_lt
  have h := Nat.two_pow_add_eq_or_of_lt (i := 8) (b := b.toNat) (by omega) m
  apply Nat.eq_of_testBit_eq
  intro i
  rw [show b.toNat + 256 * m = 2 ^ 8 * m + b.toNat by omega, h, show 256 * m = 2 ^ 8 * m by omega]
  rw [Nat.testBit_or, Nat.testBit_xor, Nat.testBit_two_pow_mul]
  by_cases hi : 8 ≤ i
  · have : b.toNat.testBit i = false := Nat.testBit_lt_two_pow (Nat.lt_of_lt_of_le (show b.toNat < 2 ^ 8 by omega) (Nat.pow_le_pow_right (by omega) hi))
    simp [this]
  · simp [hi]
theorem fold_num (l : List UInt8) (x : Nat) : fold l x = hsN (8 * l.length) (x ^^^ num l) := by
  induction l generalizing x with
  | nil => simp [fold, num, hsN]
  | cons b l ih =>
    simp only [fold, num, List.length_cons]
    rw [ih, show 8 * (l.length + 1) = 8 * l.length + 8 by omega, hsN_add, add_xor, ← Nat.xor_assoc, hsN_xor 8 _ (256 * num l), show 256 * num l = 2 ^ 8 * num l by omega, hsN_shift]
theorem hs_ne (x : Nat) (h : x < 4294967296) (h0 : x ≠ 0) : hs x ≠ 0 := by
  unfold hs
  intro e
  rcases Nat.mod_two_eq_zero_or_one x with hx | hx
  · rw [hx] at e; simp at e; omega
  · rw [hx] at e
    have h2 : x / 2 = poly := by
      have : x / 2 ^^^ 1 * poly ^^^ poly = 0 ^^^ poly := by rw [e]
      rw [Nat.one_mul, Nat.xor_assoc, Nat.xor_self, Nat.xor_zero, Nat.zero_xor] at this
      exact this
    unfold poly at h2
    omega
theorem hsN_ne (n x : Nat) (h : x < 4294967296) (h0 : x ≠ 0) : hsN n x ≠ 0 := by
  induction n with
  | zero => exact h0
  | succ n ih => exact hs_ne _ (hsN_lt n x h) ih
theorem not_xor (x : Nat) (h : x < 4294967296) : x ^^^ (4294967295 - x) = 4294967295 := by
  apply Nat.eq_of_testBit_eq
  intro i
  have e : 4294967295 - x = 2 ^ 32 - (x + 1) := by omega
  have e2 : (4294967295 : Nat) = 2 ^ 32 - 1 := by omega
  rw [e, Nat.testBit_xor, Nat.testBit_two_pow_sub_succ (by omega), e2, Nat.testBit_two_pow_sub_one]
  by_cases hi : i < 32
  · simp [hi]
  · have : x.testBit i = false := Nat.testBit_lt_two_pow (Nat.lt_of_lt_of_le (show x < 2 ^ 32 by omega) (Nat.pow_le_pow_right (by omega) (by omega)))
    simp [hi, this]
def t4 (c : Nat) : List UInt8 := [UInt8.ofNat (c % 256), UInt8.ofNat (c / 256 % 256), UInt8.ofNat (c / 65536 % 256), UInt8.ofNat (c / 16777216 % 256)]
theorem num_t4 (c : Nat) (h : c < 4294967296) : num (t4 c) = c := by
  simp [num, t4]
  omega
theorem fold_sealed (l : List UInt8) : fold (l ++ t4 (more 0 l)) 4294967295 = hsN 32 4294967295 := by
  have hl := fold_lt l 4294967295 (by omega)
  rw [fold_append, fold_num (t4 _), num_t4 _ (more_lt 0 l)]
  show hsN 32 (fold l 4294967295 ^^^ (4294967295 - fold l 4294967295)) = _
  rw [not_xor _ hl]
theorem num_testBit (l : List UInt8) (i : Nat) : (num l).testBit i = (l.getD (i / 8) 0).toNat.testBit (i % 8) := by
  induction l generalizing i with
  | nil => simp [num]
  | cons b l ih =>
    simp only [num]
    rw [add_xor, Nat.testBit_xor, show 256 * num l = 2 ^ 8 * num l by omega, Nat.testBit_two_pow_mul]
    by_cases hi : 8 ≤ i
    · have hb := b.toNat_lt
      have : b.toNat.testBit i = false := Nat.testBit_lt_two_pow (Nat.lt_of_lt_of_le (show b.toNat < 2 ^ 8 by omega) (Nat.pow_le_pow_right (by omega) hi))
      obtain ⟨j, rfl⟩ : ∃ j, i = j + 8 := ⟨i - 8, by omega⟩
      rw [this, ih]
      have e1 : (j + 8) / 8 = j / 8 + 1 := by omega
      have e2 : (j + 8) % 8 = j % 8 := by omega
      simp [e1, e2]
    · have e1 : i / 8 = 0 := by omega
      have e2 : i % 8 = i := by omega
      simp [hi, e1, e2]
theorem num_lt (l : List UInt8) : num l < 2 ^ (8 * l.length) := by
  induction l with
  | nil => simp [num]
  | cons b l ih =>
    have hb := b.toNat_lt
    simp only [num, List.length_cons]
    rw [show 8 * (l.length + 1) = 8 * l.length + 8 by omega, Nat.pow_add]
    have : 2 ^ (8 * l.length) * 2 ^ 8 = 256 * 2 ^ (8 * l.length) := by omega
    omega
theorem xor8 (b : UInt8) (r : Nat) (hr : r < 8) : (UInt8.ofNat (b.toNat ^^^ 2 ^ r)).toNat = b.toNat ^^^ 2 ^ r := by
  have hb := b.toNat_lt
  have h : b.toNat ^^^ 2 ^ r < 2 ^ 8 := Nat.xor_lt_two_pow (by omega) (Nat.pow_lt_pow_right (by omega) hr)
  rw [UInt8.toNat_ofNat']
  exact Nat.mod_eq_of_lt h
theorem num_flip (l : List UInt8) (k : Nat) (hk : k < 8 * l.length) : num (l.set (k / 8) (UInt8.ofNat ((l.getD (k / 8) 0).toNat ^^^ 2 ^ (k % 8)))) = num l ^^^ 2 ^ k := by
  apply Nat.eq_of_testBit_eq
  intro i
  rw [num_testBit, Nat.testBit_xor, num_testBit, Nat.testBit_two_pow]
  have hlt : k / 8 < l.length := by omega
  by_cases hj : i / 8 = k / 8
  · have e : (l.set (k / 8) (UInt8.ofNat ((l.getD (k / 8) 0).toNat ^^^ 2 ^ (k % 8)))).getD (i / 8) 0 = UInt8.ofNat ((l.getD (k / 8) 0).toNat ^^^ 2 ^ (k % 8)) := by
      rw [hj]; simp [List.getD, hlt]
    rw [e, xor8 _ _ (by omega), Nat.testBit_xor, Nat.testBit_two_pow, hj]
    congr 1
    have : (k % 8 = i % 8) ↔ (k = i) := by omega
    simp [this]
  · have e : (l.set (k / 8) (UInt8.ofNat ((l.getD (k / 8) 0).toNat ^^^ 2 ^ (k % 8)))).getD (i / 8) 0 = l.getD (i / 8) 0 := by
      simp [List.getD, List.getElem?_set, Ne.symm hj]
    have : ¬ k = i := by omega
    rw [e]; simp [this]
def err (n at_ B i : Nat) : Nat := (2 ^ at_ * (B % 2 ^ i)) % 2 ^ n
theorem err_testBit (n at_ B i j : Nat) : (err n at_ B i).testBit j = (decide (j < n) && (decide (at_ ≤ j) && (decide (j - at_ < i) && B.testBit (j - at_)))) := by
  unfold err
  rw [Nat.testBit_mod_two_pow, Nat.testBit_two_pow_mul, Nat.testBit_mod_two_pow]
theorem err_succ_flip (n at_ B i : Nat) (hb : B.testBit i = true) (hn : at_ + i < n) : err n at_ B (i + 1) = err n at_ B i ^^^ 2 ^ (at_ + i) := by
  apply Nat.eq_of_testBit_eq
  intro j
  rw [Nat.testBit_xor, err_testBit, err_testBit, Nat.testBit_two_pow]
  by_cases h : at_ + i = j
  · subst h
    have : at_ + i - at_ = i := by omega
    simp [this, hb, hn]
  · have e : (j - at_ < i + 1 ∧ at_ ≤ j) ↔ (j - at_ < i ∧ at_ ≤ j) := by omega
    simp only [h, decide_false, Bool.xor_false]
    by_cases h1 : at_ ≤ j
    · have : (j - at_ < i + 1) ↔ (j - at_ < i) := by omega
      simp [this]
    · simp [h1]
theorem err_succ_same (n at_ B i : Nat) (h : B.testBit i = false ∨ n ≤ at_ + i) : err n at_ B (i + 1) = err n at_ B i := by
  apply Nat.eq_of_testBit_eq
  intro j
  rw [err_testBit, err_testBit]
  by_cases h1 : at_ ≤ j
  · by_cases h2 : j - at_ = i
    · rcases h with h | h
      · simp [h2, h]
      · have : ¬ j < n := by omega
        simp [this]
    · have : (j - at_ < i + 1) ↔ (j - at_ < i) := by omega
      simp [this]
  · simp [h1]
theorem err_zero (n at_ B : Nat) : err n at_ B 0 = 0 := by
  unfold err; simp [Nat.mod_one]
theorem err_seen (n at_ B : Nat) (hB : B < 4294967296) (hodd : B % 2 = 1) (hat : at_ < n) : hsN n (err n at_ B 32) ≠ 0 := by
  have e0 : B % 2 ^ 32 = B := Nat.mod_eq_of_lt (by omega)
  have e1 : err n at_ B 32 = 2 ^ at_ * (B % 2 ^ (n - at_)) := by
    unfold err
    rw [e0, show n = at_ + (n - at_) by omega, Nat.pow_add, Nat.mul_mod_mul_left]
    congr 2
    rw [show at_ + (n - at_) - at_ = n - at_ by omega]
  rw [e1, show n = (n - at_) + at_ by omega, hsN_add, hsN_shift]
  have h1 : B % 2 ^ (n - at_ + at_ - at_) ≤ B := Nat.mod_le _ _
  apply hsN_ne
  · omega
  · have h2 : B % 2 ^ (n - at_ + at_ - at_) % 2 = 1 := by
      rw [Nat.mod_mod_of_dvd, hodd]
      obtain ⟨q, hq⟩ : ∃ q, n - at_ + at_ - at_ = q + 1 := ⟨n - at_ - 1, by omega⟩
      rw [hq, Nat.pow_succ]
      exact Nat.dvd_mul_left 2 _
    omega
theorem burst_seen (l m : List UInt8) (at_ B : Nat) (hB : B < 4294967296) (hodd : B % 2 = 1) (hlen : m.length = l.length) (hat : at_ < 8 * l.length)
    (hnum : num m = num l ^^^ err (8 * l.length) at_ B 32) (hl : fold l 4294967295 = hsN 32 4294967295) : fold m 4294967295 ≠ hsN 32 4294967295 := by
  intro h
  rw [fold_num, hlen, hnum, ← Nat.xor_assoc, hsN_xor, ← fold_num, hl] at h
  have : hsN (8 * l.length) (err (8 * l.length) at_ B 32) = 0 := by
    have h2 : hsN 32 4294967295 ^^^ (hsN 32 4294967295 ^^^ hsN (8 * l.length) (err (8 * l.length) at_ B 32)) = hsN 32 4294967295 ^^^ hsN 32 4294967295 := by rw [h]
    rw [xx, Nat.xor_self] at h2
    exact h2
  exact err_seen _ _ _ hB hodd hat this
end Crc
