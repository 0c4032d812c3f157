/- Contract of layer 11's reference: number. -/
import Derived.Test.YthihcdocfcfnkaaDg5
namespace Go.Proofs.Ythihcdocfcfnkaa
open Go.RowKit
set_option maxHeartbeats 1000000 in
theorem refNumber_any (s : ByteArray) (w : World) (hm : 8 ≤ s.size) (hs : s.size ≤ 1000000) :
    Calls Try.prog 31 #[.string s] w fun e w' => e = .returned (.int .u64 (numB (s.data.toList.take 8) : Nat)) ∧ w = w' := by
  go_enter Try.func31, Try.ntmps31
  go_wp2
  go_loop [3, 4] (fun x i => ∃ j : Nat, j ≤ 8 ∧ i = .int .i64 j ∧ x = .int .u64 (numB (s.data.toList.take j) : Nat)) (fun _ i => 8 - (intOf i).toNat)
  case atStart => exact ⟨0, by omega, rfl, rfl⟩
  case round =>
    obtain ⟨j, hj, rfl, rfl⟩ := hrel
    by_cases hjl : j < 8
    · have hj' : (j : Int) < 8 := by omega
      have HS := Lib.hid (show numB (s.data.toList.take (j + 1)) = numB (s.data.toList.take j) * 256 + (s[j]'(by omega)).toNat by rw [takeB_snoc s j (by omega), numB_snoc])
      have hx := numB_lt j (s.data.toList.take j) (by simp; omega)
      have hx2 : numB (s.data.toList.take j) < 256 ^ 7 := Nat.lt_of_lt_of_le hx (Nat.pow_le_pow_right (by omega) (by omega))
      have hb := (s[j]'(by omega)).toNat_lt
      clear hx
      generalize numB (s.data.toList.take j) = x at *
      have hw : IntKind.u64.wrap ((s[j]'(by omega)).toNat : Int) = ((s[j]'(by omega)).toNat : Int) := IntWalk.u64_in _ (by omega)
      have h7 : x < 72057594037927936 := hx2
      clear hx2
      go_wp2
      go_round
      case rel => exact ⟨j + 1, by omega, by go_num, by rw [HS.out]; simp; omega⟩
      case measure => simp [intOf] <;> omega
    · obtain rfl : j = 8 := by omega
      go_wp2
      go_ret
      exact ⟨rfl, rfl⟩
end Go.Proofs.Ythihcdocfcfnkaa
