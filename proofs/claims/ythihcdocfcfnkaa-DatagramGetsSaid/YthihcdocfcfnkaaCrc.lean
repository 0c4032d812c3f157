/- Contracts of package crc and of the small functions of its statements: halfBytes, More, Sum, bytesOf, Seal, Open, the reference's More and Seal. -/
import Derived.Test.YthihcdocfcfnkaaRows
import Derived.Test.YthihcdocfcfnkaaMath
import Derived.WalkKit
import Derived.Outline
import Derived.Lib.Hide
import Derived.Laws.CopyOwn
namespace Go.Proofs.Ythihcdocfcfnkaa
open Go.RowKit
def tabOf (f : Nat → Nat) (k : Nat) : Array Value := Array.ofFn (n := 16) fun i => .int .u32 (if i.val < k then f i.val else 0 : Nat)
theorem tabOf_get (f : Nat → Nat) (k i : Nat) (hi : i < 16) : (tabOf f k)[i]? = some (.int .u32 (if i < k then f i else 0 : Nat)) := by
  unfold tabOf
  simp [hi]
theorem tabOf_size (f : Nat → Nat) (k : Nat) : (tabOf f k).size = 16 := by unfold tabOf; simp
theorem tabOf_one (f : Nat → Nat) (k : Nat) : (tabOf f k).all (·.oneCell') = true := by
  rw [Array.all_eq_true]
  intro i hi
  simp [tabOf, Value.oneCell']
theorem tabOf_set (f : Nat → Nat) (k : Nat) (hk : k < 16) : (tabOf f k).setIfInBounds k (.int .u32 (f k : Nat)) = tabOf f (k + 1) := by
  apply Array.ext
  · simp [tabOf]
  · intro i h1 h2
    have h3 : i < 16 := by simpa [tabOf] using h2
    have h4 : i < (tabOf f k).size := by rw [tabOf_size]; exact h3
    rw [Array.getElem_setIfInBounds h4]
    by_cases h : k = i
    · subst h; simp [tabOf]
    · rw [if_neg h]
      have : (i < k) ↔ (i < k + 1) := by omega
      simp [tabOf, this]
def tabAt (k : Nat) : Array Value := tabOf (Crc.hsN 4) k
theorem tabAt_size (k : Nat) : (tabAt k).size = 16 := tabOf_size _ k
theorem tabAt_one (k : Nat) : (tabAt k).all (·.oneCell') = true := tabOf_one _ k
theorem tabAt_set (k : Nat) (hk : k < 16) : (tabAt k).setIfInBounds k (.int .u32 (Crc.hsN 4 k : Nat)) = tabAt (k + 1) := tabOf_set _ k hk
theorem tabAt_fresh (k : Nat) (hk : k < 16) : (tabAt k)[k]? = some (.int .u32 0) := by
  unfold tabAt
  rw [tabOf_get _ k k hk]; simp
theorem tabAt_full (k : Nat) (hk : k < 16) : (tabAt 16)[k]? = some (.int .u32 (Crc.hsN 4 k : Nat)) := by
  unfold tabAt
  rw [tabOf_get _ 16 k hk]; simp [hk]
theorem hs_int (X : Nat) (h : X < 4294967296) : bits BinOp.xor IntKind.u32 (X / 2 : Int) (bits BinOp.and IntKind.u32 (X : Int) 1 * 2197175160 % 4294967296) = (Crc.hs X : Nat) := by
  have e1 : bits BinOp.and IntKind.u32 (X : Int) 1 = ((X % 2 : Nat) : Int) := by
    have := u32_and_nat X 1 h (by omega)
    rw [nat_mask1] at this
    exact this
  rw [e1]
  have e2 : ((X % 2 : Nat) : Int) * 2197175160 % 4294967296 = ((X % 2 * 2197175160 : Nat) : Int) := by omega
  have e3 : (X : Int) / 2 = ((X / 2 : Nat) : Int) := by omega
  rw [e2, e3, u32_xor_nat _ _ (by omega) (by omega)]
  rfl
set_option maxHeartbeats 400000 in
theorem half_any (w : World) : Calls Try.prog 26 #[] w fun e w' => e = .returned (.agg (tabAt 16)) ∧ Below w.heap.size w w' := by
  go_enter Try.func26, Try.ntmps26
  go_wp2
  go_loopw [5] (fun i wr => ∃ k : Nat, k ≤ 16 ∧ i = .int .i64 k ∧ wr.heap[w.heap.size]? = some (.cells (tabAt 0) 49 (0, 0)) ∧ wr.heap[w.heap.size + 1]? = some (.cells (tabAt k) 49 (0, 0)) ∧ Below w.heap.size w wr)
    (fun i _ => 16 - (intOf i).toNat)
  case atStart =>
    refine ⟨0, by omega, rfl, ?_, ?_, ((Below.refl _ _).alloc (Nat.le_refl _) _).alloc (by simp) _⟩
    · rw [heap_alloc2_old]; rfl
    · rw [heap_alloc2_new]; rfl
  case round =>
    obtain ⟨k, hk, rfl, hb0, hb1, hbel⟩ := hrel
    by_cases hlt : k < 16
    · have hc : wr.cell? ⟨w.heap.size + 1, k, none⟩ = some (.int .u32 0) := by
        rw [cell_of_row wr _ k _ _ _ hb1, tabAt_fresh k hlt]
      have hf := frozen_of_row wr _ k _ _ hb1
      have Hb0 := Lib.hid hb0
      have Hb1 := Lib.hid hb1
      have Hbel := Lib.hid hbel
      clear hb0 hb1 hbel
      go_wp2
      go_loop [10, 3] (fun j x => ∃ m : Nat, m ≤ 4 ∧ j = .int .i64 m ∧ x = .int .u32 (Crc.hsN m k : Nat)) (fun j _ => 4 - (intOf j).toNat)
      case atStart => exact ⟨0, by omega, rfl, rfl⟩
      case round =>
        obtain ⟨m, hm, rfl, rfl⟩ := hrel
        have hx := Crc.hsN_lt m k (by omega)
        generalize hX : Crc.hsN m k = X at *
        by_cases hm4 : m < 4
        · have HX := Lib.hid hX
          clear hX
          go_wp2
          go_round
          case rel => exact ⟨m + 1, by omega, by go_num, by rw [hs_int X hx]; rw [← HX.out]; rfl⟩
          case measure => simp [intOf]; omega
        · have HX := Lib.hid hX
          clear hX
          go_wp2
          go_roundw
          case rel =>
            obtain rfl : m = 4 := by omega
            refine ⟨k + 1, by omega, by go_num, ?_, ?_, Hbel.out.setCell (p := ⟨w.heap.size + 1, k, none⟩) (by simp) _⟩
            · rw [heap_setCell_other _ _ _ _ (by simp)]; exact Hb0.out
            · rw [heap_setCell_same _ _ _ _ _ _ Hb1.out, ← HX.out]
              exact congrArg (fun c => some (Obj.cells c 49 (0, 0))) (tabAt_set k hlt)
          case measure => simp [intOf]; omega
    · obtain rfl : k = 16 := by omega
      have Hbel := Lib.hid hbel
      clear hbel
      go_wp2_with (first
        | (refine wpList_load_row rfl 49 _ rfl (w.heap.size + 1) rfl 49 (tabAt 16) (0, 0) _ hb1 Try.underlying49 rfl (by rw [tabAt_size]; kernel_rfl) ?_)
        | (refine wpList_store_row rfl 49 _ _ rfl w.heap.size (tabAt 16) rfl rfl 49 (tabAt 0) hb0 (by rw [tabAt_size]; kernel_rfl) (by rw [tabAt_size, tabAt_size]) (tabAt_one _) ?_))
      refine bodyPost_ret (results_cell_row Try.results26 _ _ w.heap.size 49 (tabAt 16) (0, 0) _ rfl (setRow_heap _ _ (tabAt 0) _ _ _ hb0) Try.underlying49 rfl (by rw [tabAt_size]; kernel_rfl)) rfl ⟨rfl, ?_⟩
      exact below_setRow Hbel.out (Nat.le_refl _) _
end Go.Proofs.Ythihcdocfcfnkaa
