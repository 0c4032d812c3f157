/- Plain mathematics of CRC-32C by halves of bytes: the step on four bits is the table's step. No Go, no program. -/
namespace Crc
def poly : Nat := 2197175160
def hs (x : Nat) : Nat := x / 2 ^^^ (x % 2 * poly)
def hsN : Nat → Nat → Nat
  | 0, x => x
  | n + 1, x => hs (hsN n x)
def fold : List UInt8 → Nat → Nat
  | [], x => x
  | b :: l, x => fold l (hsN 8 (x ^^^ b.toNat))
def more (c : Nat) (l : List UInt8) : Nat := 4294967295 - fold l (4294967295 - c)

theorem hs_lt (x : Nat) (h : x < 4294967296) : hs x < 4294967296 := by
  unfold hs poly
  exact Nat.xor_lt_two_pow (n := 32) (by omega) (by omega)
theorem hsN_lt (n x : Nat) (h : x < 4294967296) : hsN n x < 4294967296 := by
  induction n with
  | zero => exact h
  | succ n ih => exact hs_lt _ ih
theorem hsN_add (a b x : Nat) : hsN (a + b) x = hsN a (hsN b x) := by
  induction a with
  | zero => simp [hsN]
  | succ a ih => rw [Nat.succ_add]; simp [hsN, ih]
theorem div2_xor (x y : Nat) : (x ^^^ y) / 2 = x / 2 ^^^ y / 2 := by
  have := @Nat.xor_div_two x y
  exact this
theorem mod2_xor (x y : Nat) : (x ^^^ y) % 2 = (x % 2 + y % 2) % 2 := by
  have h := Nat.testBit_xor x y 0
  simp only [Nat.testBit_zero] at h
  rcases Nat.mod_two_eq_zero_or_one x with hx | hx <;> rcases Nat.mod_two_eq_zero_or_one y with hy | hy <;> rcases Nat.mod_two_eq_zero_or_one (x ^^^ y) with hz | hz <;> rw [hx, hy, hz] at h <;> rw [hx, hy, hz] <;> revert h <;> decide
theorem xlc (x y z : Nat) : x ^^^ (y ^^^ z) = y ^^^ (x ^^^ z) := by
  rw [← Nat.xor_assoc, Nat.xor_comm x y, Nat.xor_assoc]
theorem xx (x z : Nat) : x ^^^ (x ^^^ z) = z := by
  rw [← Nat.xor_assoc, Nat.xor_self, Nat.zero_xor]
theorem hs_xor (x y : Nat) : hs (x ^^^ y) = hs x ^^^ hs y := by
  unfold hs
  rw [div2_xor, mod2_xor]
  generalize x / 2 = a
  generalize y / 2 = b
  rcases Nat.mod_two_eq_zero_or_one x with hx | hx <;> rcases Nat.mod_two_eq_zero_or_one y with hy | hy <;> rw [hx, hy] <;> simp only [Nat.reduceAdd, Nat.reduceMod, Nat.zero_mul, Nat.one_mul, Nat.xor_zero, Nat.zero_mod, Nat.one_mod]
  · rw [Nat.xor_assoc]
  · rw [Nat.xor_assoc, Nat.xor_comm b poly, ← Nat.xor_assoc]
  · rw [Nat.xor_assoc, xlc poly b poly, Nat.xor_self, Nat.xor_zero]
theorem hsN_xor (n x y : Nat) : hsN n (x ^^^ y) = hsN n x ^^^ hsN n y := by
  induction n with
  | zero => rfl
  | succ n ih => simp only [hsN, ih, hs_xor]
theorem hs_even (x : Nat) : hs (2 * x) = x := by
  unfold hs
  have h1 : 2 * x / 2 = x := by omega
  have h2 : 2 * x % 2 = 0 := by omega
  rw [h1, h2]; simp
theorem hsN4_shift (x : Nat) : hsN 4 (16 * x) = x := by
  have h : 16 * x = 2 * (2 * (2 * (2 * x))) := by omega
  rw [h]
  simp only [hsN, hs_even]
theorem split16 (x : Nat) : x = 16 * (x / 16) ^^^ x % 16 := by
  have h := Nat.two_pow_add_eq_or_of_lt (i := 4) (b := x % 16) (by omega) (x / 16)
  have h2 : 2 ^ 4 * (x / 16) + x % 16 = x := by omega
  apply Nat.eq_of_testBit_eq
  intro i
  rw [Nat.testBit_xor]
  have e : 16 * (x / 16) = 2 ^ 4 * (x / 2 ^ 4) := by simp
  have e2 : x % 16 = x % 2 ^ 4 := by simp
  rw [e, e2, Nat.testBit_two_pow_mul, Nat.testBit_mod_two_pow, Nat.testBit_div_two_pow]
  by_cases hi : 4 ≤ i
  · have : 4 + (i - 4) = i := by omega
    simp [hi, show ¬ i < 4 by omega, this]
  · simp [hi, show i < 4 by omega]
theorem hsN4 (x : Nat) : hsN 4 x = x / 16 ^^^ hsN 4 (x % 16) := by
  conv => lhs; rw [split16 x]
  rw [hsN_xor, hsN4_shift]
theorem hsN8 (x : Nat) : hsN 8 x = hsN 4 (hsN 4 x) := hsN_add 4 4 x
theorem byte_lt (x : Nat) (b : UInt8) (h : x < 4294967296) : x ^^^ b.toNat < 4294967296 :=
  Nat.xor_lt_two_pow (n := 32) (by omega) (by have := b.toNat_lt; omega)
theorem fold_lt (l : List UInt8) (x : Nat) (h : x < 4294967296) : fold l x < 4294967296 := by
  induction l generalizing x with
  | nil => exact h
  | cons b l ih => exact ih _ (hsN_lt _ _ (byte_lt x b h))
theorem fold_append (l m : List UInt8) (x : Nat) : fold (l ++ m) x = fold m (fold l x) := by
  induction l generalizing x with
  | nil => rfl
  | cons b l ih => exact ih _
theorem fold_snoc (l : List UInt8) (b : UInt8) (x : Nat) : fold (l ++ [b]) x = hsN 8 (fold l x ^^^ b.toNat) := by
  rw [fold_append]; rfl
theorem more_lt (c : Nat) (l : List UInt8) : more c l < 4294967296 := by unfold more; omega
theorem more_more (c : Nat) (l m : List UInt8) : more (more c l) m = more c (l ++ m) := by
  unfold more
  rw [fold_append]
  have := fold_lt l (4294967295 - c) (by omega)
  have e : 4294967295 - (4294967295 - fold l (4294967295 - c)) = fold l (4294967295 - c) := by omega
  rw [e]
theorem more_nil (c : Nat) (h : c < 4294967296) : more c [] = c := by unfold more; simp only [fold]; omega
theorem more_check : more 0 [49, 50, 51, 52, 53, 54, 55, 56, 57] = 3808858755 := by decide +kernel
end Crc
