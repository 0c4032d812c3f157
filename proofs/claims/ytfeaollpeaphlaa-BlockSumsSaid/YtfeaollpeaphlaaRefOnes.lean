/- Contract of layer 2's reference: Ones. -/
import Derived.Test.YtfeaollpeaphlaaRefBlock
import Derived.Test.YtfeaollpeaphlaaFrom
namespace Go.Proofs.Ytfeaollpeaphlaa
open Go.RowKit
theorem int_infoB : (Try.prog.info? 3).map (fun i => (i.zero, i.size, i.bytes)) = some (some (.int .i64 0), 1, 8) := by kernel_rfl
def ones (k : Nat) : List Int := List.replicate k 1
theorem ones_succ (k : Nat) : ones (k + 1) = ones k ++ [1] := List.replicate_succ'
theorem ones_lt (k j : Nat) : -9223372036854775808 ≤ (ones k).getD j 0 ∧ (ones k).getD j 0 ≤ 9223372036854775807 := by
  simp only [ones, List.getD, List.getElem?_replicate]
  split <;> simp
/-- A slice of whole numbers is returned. -/
def IntsOut (n : Nat) (zs : List Int) (w : World) (e : Ending) (w' : World) : Prop := ∃ A c, e = .returned (.slice A n c) ∧ Ints w' A n zs ∧ Below w.heap.size w w'
set_option maxHeartbeats 1000000 in
theorem ones_any (n : Nat) (hn : n ≤ 1000) (w : World) :
    Calls Try.prog 31 #[.int .i64 n] w (IntsOut n (ones n) w) := by
  obtain ⟨i0, hi, hz0, hz1, hz2⟩ := info_parts int_infoB
  go_enter Try.func31, Try.ntmps31
  go_wp2
  have HOw := Lib.hid (own_empty w w.heap.size 3 (Nat.le_refl _))
  have HW := Lib.hid ((Below.refl w.heap.size w).alloc (Nat.le_refl _) (.cells #[] 3))
  have HI := Lib.hid hi
  have HZ0 := Lib.hid hz0
  have HZ1 := Lib.hid hz1
  have HZ2 := Lib.hid hz2
  clear hi hz0 hz1 hz2
  go_loopw [3, 4] (fun v t wr => ∃ i : Nat, i ≤ n ∧ t = .int .i64 i ∧ wr.ownsRow w.heap.size 3 1 v i ((ones i).map (Value.int .i64)) ∧ Below w.heap.size w wr)
    (fun _ t _ => n - (intOf t).toNat)
  case atStart => exact ⟨0, by omega, rfl, HOw.out, HW.out⟩
  case round =>
    obtain ⟨i, hi, rfl, hown, hbel⟩ := hrel
    have HO := Lib.hid hown
    have HB := Lib.hid hbel
    clear hown hbel HW HOw
    by_cases hlt : i < n
    · have hlt' : (i : Int) < (n : Int) := by omega
      have hi' := HI.out
      have hz0' := HZ0.out
      have hz1' := HZ1.out
      have hz2' := HZ2.out
      have XO := Lib.hid (HO.out.alloc (.cells #[.int .i64 1] 3))
      have XB := Lib.hid (HB.out.alloc HB.out.size (.cells #[.int .i64 1] 3))
      have N2 := Lib.hid (fun k hk => (HO.out.lt k hk).1)
      go_wp2_with (at_builtin; refine wpList_append_own _ rfl _ _ 22 rfl w.heap.size 3 i0 (.int .i64 0) 1 8 Try.underlying22 hi' hz0' hz1' hz2' rfl (by decide) _ _ _ rfl XO.out ⟨wr.heap.size, 0, none⟩ 1 1 [.int .i64 1] rfl rfl (cell_one_new _ _ _) (by simp [Value.oneCell']) (by simp [maxLen]; omega) (by omega) XB.out.size ?_; intro v' w1 hown' hgrow _; have HC := Lib.hid (XB.out.grown hgrow XB.out.size N2.out); have HO2 := Lib.hid hown'; clear hown' hgrow)
      go_roundw
      case rel =>
        refine ⟨i + 1, by omega, by go_num, ?_, HC.out⟩
        rw [ones_succ, List.map_append]
        exact HO2.out
      case measure => simp [intOf] <;> omega
    · obtain rfl : i = n := by omega
      have hlt' : ¬ (i : Int) < (i : Int) := by omega
      obtain ⟨A', c', rfl, hA'⟩ := own_form HO.out
      go_wp2
      go_ret
      exact ⟨A', c', rfl, own_ints HO.out (ones_lt i), HB.out⟩
end Go.Proofs.Ytfeaollpeaphlaa
