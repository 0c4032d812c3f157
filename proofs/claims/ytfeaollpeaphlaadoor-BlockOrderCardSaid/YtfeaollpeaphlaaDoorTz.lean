/- math/bits.TrailingZeros64, where its table lies as the library has it. -/
import Derived.Test.YtfeaollpeaphlaaDoorPlc
import Derived.Laws.BitsAllLaws
namespace Go.Proofs.YtfeaollpeaphlaaDoor
set_option linter.unusedVariables false
set_option linter.unusedSimpArgs false
open Go.RowKit
/-- The library's table lies in block 0. -/
def TabAt (w : World) (g : Nat) : Prop := g < w.heap.size ∧ ∀ i, i < 64 → w.cell? ⟨g, i, none⟩ = some (.int .u8 (dbTab.getD i 99 : Nat))
theorem TabAt.below {w w' : World} {g : Nat} (h : TabAt w g) (hb : Below w.heap.size w w') : TabAt w' g := ⟨Nat.lt_of_lt_of_le h.1 hb.size, fun i hi => (hb.cell (p := ⟨g, i, none⟩) h.1).trans (h.2 i hi)⟩
theorem TabAt.same {w w' : World} {g : Nat} (h : TabAt w g) (hb : w'.heap[g]? = w.heap[g]?) : TabAt w' g := by
  refine ⟨?_, fun i hi => (World.cell?_of_block (a := ⟨g, i, none⟩) hb).trans (h.2 i hi)⟩
  rcases Nat.lt_or_ge g w'.heap.size with hl | hg
  · exact hl
  · have h1 := h.1
    rw [Array.getElem?_eq_none hg, Array.getElem?_eq_getElem h1] at hb; cases hb
theorem neg_in (x : Nat) (h1 : 0 < x) (hx : x < 18446744073709551616) : IntKind.u64.wrap (-(x : Int)) = ((18446744073709551616 - x : Nat) : Int) := by rw [IntKind.wrap_u64]; omega
theorem prod_in (y : Nat) : IntKind.u64.wrap ((y : Int) * 285870213051353865) / 288230376151711744 = ((y * 285870213051353865 % 18446744073709551616 / 288230376151711744 : Nat) : Int) := by rw [IntKind.wrap_u64]; omega
theorem quo_lt (y : Nat) : y * 285870213051353865 % 18446744073709551616 / 288230376151711744 < 64 := by omega
theorem exp_lt (s m : Nat) (hx : 2 ^ s * (2 * m + 1) < 18446744073709551616) : s < 64 := by
  refine Nat.lt_of_not_le fun h => ?_
  have h1 : 2 ^ 64 ≤ 2 ^ s := Nat.pow_le_pow_right (by omega) h
  have h2 : 2 ^ s * 1 ≤ 2 ^ s * (2 * m + 1) := Nat.mul_le_mul_left _ (by omega)
  omega
theorem tz_val (x s m : Nat) (hx : x < 18446744073709551616) (e : x = 2 ^ s * (2 * m + 1)) :
    ∃ q : Nat, q < 64 ∧ IntKind.u64.wrap (bits BinOp.and IntKind.u64 (x : Int) (IntKind.u64.wrap (-(x : Int))) * 285870213051353865) / 288230376151711744 = (q : Int) ∧ dbTab.getD q 99 = s := by
  have hp : 0 < x := by rw [e]; exact Nat.mul_pos (Nat.two_pow_pos s) (by omega)
  have hl := only_low s m (by rw [← e]; exact hx)
  rw [← e] at hl
  refine ⟨2 ^ s * 285870213051353865 % 18446744073709551616 / 288230376151711744, quo_lt _, ?_, db_at ⟨s, exp_lt s m (by rw [← e]; exact hx)⟩⟩
  rw [neg_in x hp hx, u64_and_nat x (18446744073709551616 - x) hx (by omega), hl, prod_in]
set_option maxHeartbeats 1000000 in
theorem tz_any (x s m : Nat) (hx : x < 18446744073709551616) (e : x = 2 ^ s * (2 * m + 1)) (w : World) (ht : TabAt w 0) :
    Calls Tryd.prog 46 #[.int .u64 x] w fun e w' => e = .returned (.int .i64 (s : Nat)) ∧ w = w' := by
  have hp : 0 < x := by rw [e]; exact Nat.mul_pos (Nat.two_pow_pos s) (by omega)
  obtain ⟨q, hq1, hq2, hq3⟩ := tz_val x s m hx e
  have hs := exp_lt s m (by rw [← e]; exact hx)
  have t : ((x : Int) == 0) = false := by simp; omega
  have hc := ht.2 q hq1
  rw [hq3] at hc
  clear hq3 e ht
  go_enter Tryd.func46, Tryd.ntmps46
  go_wp2
  go_ret
  exact ⟨rfl, rfl⟩
end Go.Proofs.YtfeaollpeaphlaaDoor
