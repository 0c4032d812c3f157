/- math/bits.OnesCount64, bitrow.Count. -/
import Derived.Test.YtfeaollpeaphlaaDoorPopM
import Derived.Test.YtfeaollpeaphlaaDoorPlc
import Derived.Laws.BitsAllLaws
namespace Go.Proofs.YtfeaollpeaphlaaDoor
set_option linter.unusedVariables false
set_option linter.unusedSimpArgs false
open Go.RowKit
theorem ofInt_i64N (a : Nat) (ha : a < 9223372036854775808) : (BitVec.ofInt 64 (a : Int)).toNat = a := by
  rw [BitVec.ofInt_natCast, BitVec.toNat_ofNat]; exact Nat.mod_eq_of_lt (by omega)
theorem i64_and_nat (a b : Nat) (ha : a < 9223372036854775808) (hb : b < 9223372036854775808) : bits .and .i64 (a : Int) (b : Int) = ((a &&& b : Nat) : Int) := by
  have hx : a &&& b < 2 ^ 63 := Nat.and_lt_two_pow _ (by omega)
  show IntKind.i64.wrap ((BitVec.ofInt 64 (a : Int) &&& BitVec.ofInt 64 (b : Int)).toNat : Int) = _
  rw [BitVec.toNat_and, ofInt_i64N a ha, ofInt_i64N b hb]
  exact IntWalk.i64_in _ (by omega)
theorem low7 (v : Nat) : v &&& 127 = v % 128 := Nat.and_two_pow_sub_one_eq_mod v 7
set_option maxHeartbeats 1000000 in
theorem ones64_any (x : Nat) (hx : x < 18446744073709551616) (w : World) :
    Calls Tryd.prog 31 #[.int .u64 x] w fun e w' => e = .returned (.int .i64 (popW x 64 : Nat)) ∧ w = w' := by
  obtain ⟨a1, ea1⟩ : ∃ a, a = (x / 2) &&& 6148914691236517205 := ⟨_, rfl⟩
  obtain ⟨a2, ea2⟩ : ∃ a, a = x &&& 6148914691236517205 := ⟨_, rfl⟩
  obtain ⟨b1, eb1⟩ : ∃ a, a = ((a1 + a2) / 4) &&& 3689348814741910323 := ⟨_, rfl⟩
  obtain ⟨b2, eb2⟩ : ∃ a, a = (a1 + a2) &&& 3689348814741910323 := ⟨_, rfl⟩
  obtain ⟨z, ez⟩ : ∃ a, a = ((b1 + b2) / 16 + (b1 + b2)) &&& 1085102592571150095 := ⟨_, rfl⟩
  have la1 : a1 ≤ 6148914691236517205 := by rw [ea1]; exact Nat.and_le_right
  have la2 : a2 ≤ 6148914691236517205 := by rw [ea2]; exact Nat.and_le_right
  have lb1 : b1 ≤ 3689348814741910323 := by rw [eb1]; exact Nat.and_le_right
  have lb2 : b2 ≤ 3689348814741910323 := by rw [eb2]; exact Nat.and_le_right
  have lz : z ≤ 1085102592571150095 := by rw [ez]; exact Nat.and_le_right
  have hv := (count_word x hx z (z + z / 256) ((z + z / 256) + (z + z / 256) / 65536) _ (by rw [ez, eb1, eb2, ea1, ea2]; rfl) rfl rfl rfl).1
  have s1 : bits BinOp.and IntKind.u64 ((x : Int) / 2) 6148914691236517205 = (a1 : Int) := by
    have := u64_and_nat (x / 2) 6148914691236517205 (by omega) (by omega)
    rw [← ea1] at this; exact this
  have s2 : bits BinOp.and IntKind.u64 (x : Int) 6148914691236517205 = (a2 : Int) := by
    have := u64_and_nat x 6148914691236517205 hx (by omega)
    rw [← ea2] at this; exact this
  have s3 : bits BinOp.and IntKind.u64 (((a1 : Int) + (a2 : Int)) / 4) 3689348814741910323 = (b1 : Int) := by
    have := u64_and_nat ((a1 + a2) / 4) 3689348814741910323 (by omega) (by omega)
    rw [← eb1] at this; exact this
  have s4 : bits BinOp.and IntKind.u64 ((a1 : Int) + (a2 : Int)) 3689348814741910323 = (b2 : Int) := by
    have := u64_and_nat (a1 + a2) 3689348814741910323 (by omega) (by omega)
    rw [← eb2] at this; exact this
  have s5 : bits BinOp.and IntKind.u64 (((b1 : Int) + (b2 : Int)) / 16 + ((b1 : Int) + (b2 : Int))) 1085102592571150095 = (z : Int) := by
    have := u64_and_nat ((b1 + b2) / 16 + (b1 + b2)) 1085102592571150095 (by omega) (by omega)
    rw [← ez] at this; exact this
  have s6 : bits BinOp.and IntKind.i64 (((z : Int) + (z : Int) / 256) + ((z : Int) + (z : Int) / 256) / 65536 + (((z : Int) + (z : Int) / 256) + ((z : Int) + (z : Int) / 256) / 65536) / 4294967296) 127 = ((popW x 64 : Nat) : Int) := by
    have := i64_and_nat (((z + z / 256) + (z + z / 256) / 65536) + ((z + z / 256) + (z + z / 256) / 65536) / 4294967296) 127 (by omega) (by omega)
    rw [low7, hv] at this; exact this
  clear hv ea1 ea2 eb1 eb2 ez
  go_enter Tryd.func31, Tryd.ntmps31
  go_wp2
  go_ret
  exact ⟨rfl, rfl⟩
end Go.Proofs.YtfeaollpeaphlaaDoor
