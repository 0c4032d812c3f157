/- Contracts of layer 6: mixed, Next, Start, boundMayBe; the reference's Mixed, rest. -/
import Derived.Test.YtbgikkeiapbghaaDoorChecked
import Derived.Test.YtbgikkeiapbghaaDoorWords
import Derived.Test.YtbgikkeiapbghaaDoorRndM
import Derived.IntWalk
namespace Go.Proofs.YtbgikkeiapbghaaDoor
open Go.RowKit
theorem xor_cast (x k : Nat) (hx : x < 18446744073709551616) : bits BinOp.xor IntKind.u64 (x : Int) ((x / k : Nat) : Int) = ((x ^^^ x / k : Nat) : Int) :=
  u64_xor_nat _ _ (by omega) (by have := Nat.div_le_self x k; omega)
theorem div_cast (x k : Nat) : (x : Int) / (k : Int) = ((x / k : Nat) : Int) := by simp
theorem mixA_int (z : Nat) (hz : z < 18446744073709551616) : IntKind.u64.wrap (bits BinOp.xor IntKind.u64 (z : Int) ((z : Int) / 1073741824) * 13787848793156543929) = ((mixA z : Nat) : Int) := by
  rw [show (z : Int) / 1073741824 = ((z / 1073741824 : Nat) : Int) from div_cast z 1073741824, xor_cast z _ hz, IntKind.wrap_u64, mixA, Int.natCast_emod, Int.natCast_mul]
  rfl
theorem mixB_int (z : Nat) (hz : z < 18446744073709551616) : IntKind.u64.wrap (bits BinOp.xor IntKind.u64 (z : Int) ((z : Int) / 134217728) * 10723151780598845931) = ((mixB z : Nat) : Int) := by
  rw [show (z : Int) / 134217728 = ((z / 134217728 : Nat) : Int) from div_cast z 134217728, xor_cast z _ hz, IntKind.wrap_u64, mixB, Int.natCast_emod, Int.natCast_mul]
  rfl
theorem mixN_int (z : Nat) : bits BinOp.xor IntKind.u64 ((mixB (mixA z) : Nat) : Int) (((mixB (mixA z) : Nat) : Int) / 2147483648) = ((mixN z : Nat) : Int) := by
  rw [show ((mixB (mixA z) : Nat) : Int) / 2147483648 = ((mixB (mixA z) / 2147483648 : Nat) : Int) from div_cast _ 2147483648, xor_cast _ _ (mixB_lt _), mixN]
theorem tdiv_wrap (x k : Nat) (hx : x < 18446744073709551616) : IntKind.u64.wrap ((x : Int).tdiv (k : Int)) = (x : Int) / (k : Int) := by
  rw [Int.tdiv_eq_ediv_of_nonneg (Int.natCast_nonneg x), div_cast]
  exact IntWalk.u64_in _ ⟨Int.natCast_nonneg _, by have := Nat.div_le_self x k; omega⟩
theorem rest_int (n : Nat) (h1 : 1 ≤ n) (h2 : n ≤ 512) : (IntKind.u64.wrap (18446744073709551615 % (n : Int) + 1)).tmod (n : Int) = ((18446744073709551616 % n : Nat) : Int) := by
  have e : (18446744073709551615 : Int) % (n : Int) = ((18446744073709551615 % n : Nat) : Int) := rfl
  have hl : 18446744073709551615 % n < n := Nat.mod_lt _ h1
  have e2 : (18446744073709551615 % n + 1) % n = 18446744073709551616 % n := Nat.mod_add_mod _ _ _
  rw [e]
  generalize 18446744073709551615 % n = r at *
  generalize 18446744073709551616 % n = m at *
  rw [IntWalk.u64_in _ (by omega), Int.tmod_eq_emod_of_nonneg (by omega), ← e2]
  rfl
theorem ret_u64 (x y : Int) (h : x = y) : Ending.returned (.int .u64 x) = .returned (.int .u64 y) := by rw [h]
set_option maxHeartbeats 1000000 in
theorem mixed_any (z : Nat) (hz : z < 18446744073709551616) (w : World) : Calls Tryd.prog 26 #[.int .u64 z] w fun e w' => e = .returned (.int .u64 (mixN z : Nat)) ∧ w = w' := by
  go_enter Tryd.func26, Tryd.ntmps26
  go_wp2
  go_ret
  exact ⟨ret_u64 _ _ (by rw [mixA_int z hz, mixB_int _ (mixA_lt z), mixN_int]), rfl⟩
theorem bound_any (n : Int) (w : World) : Calls Tryd.prog 32 #[.int .i64 n] w fun e w' => e = .returned (.bool (decide (1 ≤ n ∧ n ≤ 512))) ∧ w = w' := by
  by_cases h : 1 ≤ n
  · by_cases h2 : n ≤ 512
    · rw [decide_eq_true ⟨h, h2⟩]
      go_enter Tryd.func32, Tryd.ntmps32
      go_wp2
      go_ret
      exact ⟨rfl, rfl⟩
    · rw [decide_eq_false (fun x => h2 x.2)]
      have t : decide (n ≤ 512) = false := by simpa using h2
      go_enter Tryd.func32, Tryd.ntmps32
      go_wp2
      go_ret
      exact ⟨by simp, rfl⟩
  · rw [decide_eq_false (fun x => h x.1)]
    have t : decide (1 ≤ n) = false := by simpa using h
    go_enter Tryd.func32, Tryd.ntmps32
    go_wp2
    go_ret
    exact ⟨by simp, rfl⟩
theorem next_any (s : Nat) (hs : s < 18446744073709551616) (w : World) : Calls Tryd.prog 16 #[.int .u64 s] w fun e w' => e = .returned (.tuple #[.int .u64 (nextS s : Nat), .int .u64 (mixN (nextS s) : Nat)]) ∧ w = w' := by
  have e : IntKind.u64.wrap ((s : Int) + 11400714819323198485) = ((nextS s : Nat) : Int) := by
    rw [IntKind.wrap_u64, nextS]; rfl
  have HM := Lib.hid (mixed_any (nextS s) (nextS_lt s))
  generalize nextS s = t at *
  go_enter Tryd.func16, Tryd.ntmps16
  go_wp2_with fail
  refine (HM.out _).mono ?_
  rintro e' w1 ⟨rfl, rfl⟩
  go_wp2_with fail
  go_ret2
  exact ⟨rfl, rfl⟩
theorem start_any (s : Nat) (hs : s < 18446744073709551616) (w : World) : Calls Tryd.prog 17 #[.int .u64 s] w fun e w' => e = .returned (.int .u64 (mixN s : Nat)) ∧ w = w' := by
  have HM := Lib.hid (mixed_any s hs)
  go_enter Tryd.func17, Tryd.ntmps17
  go_wp2_with fail
  refine (HM.out _).mono ?_
  rintro e' w1 ⟨rfl, rfl⟩
  go_wp2_with fail
  go_ret
  exact ⟨rfl, rfl⟩
end Go.Proofs.YtbgikkeiapbghaaDoor
