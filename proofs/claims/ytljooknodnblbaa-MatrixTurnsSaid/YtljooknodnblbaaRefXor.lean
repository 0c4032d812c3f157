/- Contracts of the reference's Xor and And. -/
import Derived.Test.YtljooknodnblbaaFrom
import Derived.Test.YtljooknodnblbaaOrder1
import Derived.Deep.RegionHeld3
import Derived.Deep.AppendLies
import Derived.Deep.RegionWith
namespace Go.Proofs.Ytljooknodnblbaa
set_option linter.unusedVariables false
set_option linter.unusedSimpArgs false
open Go.RowKit
theorem int_info : (Try.prog.info? 3).map (fun i => (i.zero, i.size, i.bytes)) = some (some (.int .i64 0), 1, 8) := by kernel_rfl
def bitSums (g : Nat → Nat → Nat) (us vs : List Nat) (i : Nat) : List Int := (List.range i).map fun j => ((g (bitAt us j) (bitAt vs j) : Nat) : Int)
theorem bitSums_succ (g : Nat → Nat → Nat) (us vs : List Nat) (i : Nat) : bitSums g us vs (i + 1) = bitSums g us vs i ++ [((g (bitAt us i) (bitAt vs i) : Nat) : Int)] := by simp [bitSums, List.range_succ]
theorem bitSums_len (g : Nat → Nat → Nat) (us vs : List Nat) (i : Nat) : (bitSums g us vs i).length = i := by simp [bitSums]
theorem bitSums_get (g : Nat → Nat → Nat) (us vs : List Nat) (i j : Nat) (h : j < i) : (bitSums g us vs i).getD j 0 = ((g (bitAt us j) (bitAt vs j) : Nat) : Int) := by simp [bitSums, List.getD, h]
theorem bitSums_lt (us vs : List Nat) (i j : Nat) : -9223372036854775808 ≤ (bitSums (fun x y => (x + y) % 2) us vs i).getD j 0 ∧ (bitSums (fun x y => (x + y) % 2) us vs i).getD j 0 ≤ 9223372036854775807 := by
  by_cases h : j < i
  · rw [bitSums_get _ us vs i j h]; omega
  · have hn : (bitSums (fun x y => (x + y) % 2) us vs i)[j]? = none := List.getElem?_eq_none (by rw [bitSums_len]; omega)
    simp only [List.getD, hn, Option.getD_none]
    omega
theorem accM_bit (b : Nat → Bool) (i m j : Nat) (hm : m ≤ 64) : (accM b i m).testBit j = (decide (j < m) && b (64 * i + (64 - m + j))) := by
  induction m generalizing j with
  | zero => simp [accM]
  | succ m ih =>
    simp only [accM]
    cases j with
    | zero =>
      rw [Nat.testBit_zero]
      have e : 64 - (m + 1) + 0 = 63 - m := by omega
      rw [e]
      cases b (64 * i + (63 - m)) <;> simp <;> omega
    | succ j =>
      rw [Nat.testBit_succ]
      have e : (2 * accM b i m + if b (64 * i + (63 - m)) = true then 1 else 0) / 2 = accM b i m := by split <;> omega
      rw [e, ih j (by omega)]
      have e2 : 64 - m + j = 64 - (m + 1) + (j + 1) := by omega
      rw [e2]
      have e3 : decide (j < m) = decide (j + 1 < m + 1) := by simp
      rw [e3]
theorem bitAt_test (us : List Nat) (i : Nat) : (bitAt us i == 1) = (us.getD (i / 64) 0).testBit (i % 64) := by
  rw [Nat.testBit_eq_decide_div_mod_eq]; rfl
/-- A row that may be has no bits behind its last. -/
theorem right_bits {n : Nat} {us : List Nat} (h : rightB n us = true) (i : Nat) (hi : n ≤ i) (hl : i < 64 * us.length) : bitAt us i = 0 := by
  have hlm := right_lmb h
  have hle := right_len_eq h
  rw [Int.toNat_natCast] at hle
  rcases bitAt_le us i with h0 | h1
  · exact h0
  · have := not_right_of_bit n us.length i us hlm rfl hle hi hl h1
    rw [h] at this
    cases this
theorem from_zip (g : Nat → Nat → Nat) (f : Nat → Nat → Nat) (hgf : ∀ x y k, (f x y).testBit k = (g (if x.testBit k then 1 else 0) (if y.testBit k then 1 else 0) == 1)) (h00 : g 0 0 = 0) (hf : ∀ x y, x < 18446744073709551616 → y < 18446744073709551616 → f x y < 18446744073709551616) (n : Nat) (us vs : List Nat) (h1 : rightB n us = true) (h2 : rightB n vs = true)
    (hu : ∀ j, us.getD j 0 < 18446744073709551616) (hv : ∀ j, vs.getD j 0 < 18446744073709551616) :
    fromL (bitsOf (bitSums g us vs n)) (nw n) = List.zipWith f us vs := by
  have l1 := right_len_eq h1
  have l2 := right_len_eq h2
  rw [Int.toNat_natCast] at l1 l2
  apply List.ext_getElem
  · rw [fromL_len]; simp; omega
  · intro i hi1 hi2
    have hi : i < nw n := by rw [fromL_len] at hi1; exact hi1
    have iu : i < us.length := by omega
    have iv : i < vs.length := by omega
    simp only [fromL, List.getElem_map, List.getElem_range, List.getElem_zipWith]
    have eu : us[i] = us.getD i 0 := by simp [List.getD, iu]
    have ev : vs[i] = vs.getD i 0 := by simp [List.getD, iv]
    rw [eu, ev]
    apply Nat.eq_of_testBit_eq
    intro j
    rw [accM_bit _ _ _ _ (Nat.le_refl _)]
    by_cases hj : j < 64
    · have e0 : 64 * i + (64 - 64 + j) = 64 * i + j := by omega
      have ed : (64 * i + j) / 64 = i := by omega
      have em : (64 * i + j) % 64 = j := by omega
      have bu : (if (us.getD i 0).testBit j then 1 else 0) = bitAt us (64 * i + j) := by
        have := bitAt_test us (64 * i + j)
        rw [ed, em] at this
        rw [← this]
        rcases bitAt_le us (64 * i + j) with h | h <;> rw [h] <;> rfl
      have bv : (if (vs.getD i 0).testBit j then 1 else 0) = bitAt vs (64 * i + j) := by
        have := bitAt_test vs (64 * i + j)
        rw [ed, em] at this
        rw [← this]
        rcases bitAt_le vs (64 * i + j) with h | h <;> rw [h] <;> rfl
      rw [e0, hgf, bu, bv]
      have hd : decide (j < 64) = true := by simpa using hj
      rw [hd, Bool.true_and]
      unfold bitsOf
      rw [bitSums_len]
      by_cases hn : 64 * i + j < n
      · rw [bitSums_get g us vs n _ hn]
        have : decide (64 * i + j < n) = true := by simpa using hn
        rw [this, Bool.true_and]
        rw [Bool.eq_iff_iff]
        simp only [beq_iff_eq]
        omega
      · have z1 := right_bits h1 (64 * i + j) (by omega) (by omega)
        have z2 := right_bits h2 (64 * i + j) (by omega) (by omega)
        have : decide (64 * i + j < n) = false := by simpa using hn
        rw [this, Bool.false_and, z1, z2, h00]; rfl
    · have hd : decide (j < 64) = false := by simpa using hj
      rw [hd, Bool.false_and]
      symm
      exact Nat.testBit_lt_two_pow (Nat.lt_of_lt_of_le (hf _ _ (hu i) (hv i)) (show 2 ^ 64 ≤ 2 ^ j from Nat.pow_le_pow_right (by omega) (by omega)))
theorem from_xor (n : Nat) (us vs : List Nat) (h1 : rightB n us = true) (h2 : rightB n vs = true) (hu : ∀ j, us.getD j 0 < 18446744073709551616) (hv : ∀ j, vs.getD j 0 < 18446744073709551616) :
    fromL (bitsOf (bitSums (fun x y => (x + y) % 2) us vs n)) (nw n) = xorL us vs := by
  refine from_zip _ _ ?_ rfl (fun x y hx hy => Nat.xor_lt_two_pow (n := 64) hx hy) n us vs h1 h2 hu hv
  intro x y k
  rw [Nat.testBit_xor]
  cases x.testBit k <;> cases y.testBit k <;> rfl
theorem bitSums_lt_and (us vs : List Nat) (i j : Nat) : -9223372036854775808 ≤ (bitSums (fun x y => x * y) us vs i).getD j 0 ∧ (bitSums (fun x y => x * y) us vs i).getD j 0 ≤ 9223372036854775807 := by
  by_cases h : j < i
  · rw [bitSums_get _ us vs i j h]
    rcases bitAt_le us j with h1 | h1 <;> rcases bitAt_le vs j with h2 | h2 <;> rw [h1, h2] <;> decide
  · have hn : (bitSums (fun x y => x * y) us vs i)[j]? = none := List.getElem?_eq_none (by rw [bitSums_len]; omega)
    simp only [List.getD, hn, Option.getD_none]
    omega
theorem from_and (n : Nat) (us vs : List Nat) (h1 : rightB n us = true) (h2 : rightB n vs = true) (hu : ∀ j, us.getD j 0 < 18446744073709551616) (hv : ∀ j, vs.getD j 0 < 18446744073709551616) :
    fromL (bitsOf (bitSums (fun x y => x * y) us vs n)) (nw n) = andL us vs := by
  refine from_zip _ _ ?_ rfl (fun x y hx hy => Nat.and_lt_two_pow (n := 64) _ hy) n us vs h1 h2 hu hv
  intro x y k
  rw [Nat.testBit_and]
  cases x.testBit k <;> cases y.testBit k <;> rfl
end Go.Proofs.Ytljooknodnblbaa
