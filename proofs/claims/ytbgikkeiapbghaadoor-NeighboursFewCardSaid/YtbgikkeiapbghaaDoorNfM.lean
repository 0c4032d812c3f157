/- The places of a symbol's row are its blocks. -/
import Derived.Test.YtbgikkeiapbghaaDoorOnesP
import Derived.Test.YtbgikkeiapbghaaDoorRefOf
import Derived.Test.YtbgikkeiapbghaaDoorNb1
namespace Go.Proofs.YtbgikkeiapbghaaDoor
theorem filter_wide (k m : Nat) (c : Nat → Bool) (h : k ≤ m) : ((List.range m).filter fun p => decide (p ∈ (List.range k).filter c)) = (List.range k).filter c := by
  obtain ⟨d, rfl⟩ := Nat.le.dest h
  rw [List.range_add, List.filter_append]
  have e1 : ((List.range k).filter fun p => decide (p ∈ (List.range k).filter c)) = (List.range k).filter c := by
    apply List.filter_congr
    intro x hx
    rw [Bool.eq_iff_iff]
    simp only [List.mem_filter, decide_eq_true_eq]
    exact ⟨fun h => h.2, fun h => ⟨hx, h⟩⟩
  have e2 : (((List.range d).map fun x => k + x).filter fun p => decide (p ∈ (List.range k).filter c)) = [] := by
    rw [List.filter_eq_nil_iff]
    intro x hx
    obtain ⟨y, -, rfl⟩ := List.mem_map.1 hx
    simp only [List.mem_filter, decide_eq_true_eq, List.mem_range]
    omega
  rw [e1, e2, List.append_nil]
theorem bitAt_small (us : List Nat) (p : Nat) (h : p < 64) : (bitAt us p == 1) = (us.getD 0 0).testBit p := by
  rw [Bool.eq_iff_iff, beq_iff_eq, ← bitAt_bit us 0 p h, Nat.mul_zero, Nat.zero_add]
theorem nb_lt (k id x : Nat) (h : x ∈ nbL k id) : x < k := by
  have := (List.mem_filter.1 h).1
  simpa using this
theorem nb_plc (k id : Nat) (h1 : 1 ≤ k) (h2 : k ≤ 64) : plcN (nbRow k id) 64 = nbL k id := by
  have e : plcN (nbRow k id) 64 = (List.range 64).filter fun p => decide (p ∈ nbL k id) := by
    unfold plcN
    apply List.filter_congr
    intro p hp
    have hp : p < 64 := by simpa using hp
    rw [bitAt_small _ p hp, nbRow, ofBits_test k _ 0 p (by unfold nw; omega), Bool.eq_iff_iff]
    simp only [List.any_eq_true, nbZ, castZ, List.mem_map, decide_eq_true_eq, Bool.and_eq_true, beq_iff_eq]
    constructor
    · rintro ⟨z, ⟨y, hy, rfl⟩, h3, h4⟩
      rw [Int.toNat_natCast] at h3 h4
      have : y = p := by omega
      rwa [← this]
    · intro hy
      refine ⟨(p : Int), ⟨p, hy, rfl⟩, ?_, ?_⟩
      · rw [Int.toNat_natCast]; omega
      · rw [Int.toNat_natCast]; omega
  rw [e]
  exact filter_wide k 64 _ h2
theorem nb_facts (k id : Nat) (j : Nat) (hj : j < (nbL k id).length) : (nbL k id).getD j 0 < k ∧ (0 < j → (nbL k id).getD (j - 1) 0 < (nbL k id).getD j 0) := by
  have e : (nbL k id).getD j 0 = (nbL k id)[j] := by simp [List.getD, hj]
  refine ⟨by rw [e]; exact nb_lt k id _ (List.getElem_mem hj), fun h0 => ?_⟩
  have e2 : (nbL k id).getD (j - 1) 0 = (nbL k id)[j - 1] := by simp [List.getD, show j - 1 < (nbL k id).length by omega]
  rw [e, e2]
  have hp : (nbL k id).Pairwise (· < ·) := (List.pairwise_lt_range (n := k)).sublist List.filter_sublist
  exact List.pairwise_iff_getElem.1 hp (j - 1) j (by omega) hj (by omega)
theorem nb_right (k id : Nat) (h1 : 1 ≤ k) (h2 : k ≤ 64) : rightB (k : Int) (nbRow k id) = true := by
  have hlen : (nbRow k id).length = 1 := by rw [nbRow, ofBits_len]; unfold nw; omega
  refine right_of_bits k 1 _ (lmb_k k h1 h2) hlen (by unfold nw; omega) (ofBits_lt k _) fun i h3 h4 => ?_
  have h : plcN (nbRow k id) 64 = nbL k id := nb_plc k id h1 h2
  rcases bitAt_le (nbRow k id) i with h0 | h0
  · exact h0
  · exfalso
    have : i ∈ plcN (nbRow k id) 64 := by
      unfold plcN
      exact List.mem_filter.2 ⟨by simp; omega, by simpa using h0⟩
    rw [h] at this
    have := nb_lt k id i this
    omega
end Go.Proofs.YtbgikkeiapbghaaDoor
