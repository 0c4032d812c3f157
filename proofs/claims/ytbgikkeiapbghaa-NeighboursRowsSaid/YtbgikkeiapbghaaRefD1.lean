/- Contracts of layer 7's reference: Root, digits, Same. -/
import Derived.Test.YtbgikkeiapbghaaDegW3
namespace Go.Proofs.Ytbgikkeiapbghaa
open Go.RowKit
set_option maxHeartbeats 1000000 in
theorem refRoot_any (k : Nat) (hk : k ≤ 2147483647) (w : World) : Calls Try.prog 58 #[.int .i64 k] w fun e w' => e = .returned (.int .i64 (root k : Nat)) ∧ w = w' := by
  have HR := Lib.hid (fun s h1 h2 => (root_of k s h1 h2 hk).1)
  go_enter Try.func58, Try.ntmps58
  go_wp2
  go_loop [3, 4] (fun l h => ∃ a b : Nat, a < b ∧ b ≤ 46341 ∧ l = .int .i64 a ∧ h = .int .i64 b ∧ Hid (a * a ≤ k ∧ k < b * b)) (fun l h => (intOf h).toNat - (intOf l).toNat)
  case atStart => exact ⟨0, 46341, by omega, by omega, rfl, rfl, Lib.hid ⟨by omega, by omega⟩⟩
  case round =>
    obtain ⟨a, b, hab, hb, rfl, rfl, HK⟩ := hrel
    by_cases hlt : 1 < b - a
    · have g1 : (1 : Int) < (b : Int) - a := by omega
      obtain ⟨x, hx⟩ : ∃ x, x = (a + b) / 2 := ⟨_, rfl⟩
      have hx1 : a < x := by omega
      have hx2 : x < b := by omega
      have hxe : ((a : Int) + (b : Int)) / 2 = (x : Int) := by omega
      have m1 : x * x ≤ 46341 * 46341 := Nat.mul_le_mul (by omega) (by omega)
      have m2 : (x : Int) * (x : Int) ≤ 2147488281 := by rw [sq_cast]; omega
      have m3 : 0 ≤ (x : Int) * (x : Int) := by rw [sq_cast]; omega
      clear hx
      by_cases hs : x * x ≤ k
      · have t : (x : Int) * (x : Int) ≤ k := by rw [sq_cast]; omega
        go_wp2
        go_round
        case rel => exact ⟨x, b, hx2, hb, by rw [hxe], rfl, Lib.hid ⟨hs, HK.out.2⟩⟩
        case measure => simp [intOf] <;> omega
      · have t : ¬ (x : Int) * (x : Int) ≤ k := by rw [sq_cast]; omega
        go_wp2
        go_round
        case rel => exact ⟨a, x, hx1, by omega, rfl, by rw [hxe], Lib.hid ⟨HK.out.1, by omega⟩⟩
        case measure => simp [intOf] <;> omega
    · have g1 : ¬ (1 : Int) < (b : Int) - a := by omega
      have HE := Lib.hid (HR.out a HK.out.1 (by have h := HK.out.2; rw [show b = a + 1 by omega] at h; exact h))
      go_wp2
      go_ret
      exact ⟨by rw [HE.out]; rfl, rfl⟩
theorem bit_count : ∀ N : Fin 256, ∀ j : Fin 10, N.val / 2 ^ j.val = 0 → (j.val = 0 ∨ 0 < N.val / 2 ^ (j.val - 1)) → j.val = Lib.bitLen N.val := by decide +kernel
set_option maxHeartbeats 1000000 in
theorem digits_any (n : Nat) (hn : n < 256) (w : World) : Calls Try.prog 59 #[.int .i64 n] w fun e w' => e = .returned (.int .i64 (Lib.bitLen n : Nat)) ∧ w = w' := by
  have HBC := Lib.hid (fun j h1 h2 h3 => bit_count ⟨n, hn⟩ ⟨j, h1⟩ h2 h3)
  go_enter Try.func59, Try.ntmps59
  go_wp2
  go_loop [0, 3] (fun m c => ∃ j : Nat, j ≤ 8 ∧ c = .int .i64 j ∧ m = .int .i64 ((n / 2 ^ j : Nat) : Int) ∧ Hid (j = 0 ∨ 0 < n / 2 ^ (j - 1))) (fun m _ => (intOf m).toNat)
  case atStart => exact ⟨0, by omega, rfl, by simp, Lib.hid (.inl rfl)⟩
  case round =>
    obtain ⟨j, hj, rfl, rfl, HJ⟩ := hrel
    have HD := Lib.hid (show n / 2 ^ (j + 1) = n / 2 ^ j / 2 by rw [Nat.pow_succ, Nat.div_div_eq_div_mul])
    have h8 : j = 8 → n / 2 ^ j = 0 := fun e => by rw [e]; exact Nat.div_eq_of_lt (by omega)
    have HB2 := Lib.hid (fun h => HBC.out j (by omega) h HJ.out)
    have HP := Lib.hid (show 0 < n / 2 ^ j → (j + 1 = 0 ∨ 0 < n / 2 ^ (j + 1 - 1)) from fun h => .inr h)
    have hm256 : n / 2 ^ j < 256 := Nat.lt_of_le_of_lt (Nat.div_le_self _ _) hn
    generalize n / 2 ^ j = m at *
    by_cases hm : 0 < m
    · have g : (0 : Int) < m := by omega
      have hj8 : j < 8 := by rcases Nat.lt_or_ge j 8 with e | e
                             · exact e
                             · have := h8 (by omega); omega
      clear h8
      go_wp2
      go_round
      case rel => exact ⟨j + 1, by omega, by go_num, by rw [HD.out]; simp, Lib.hid (HP.out hm)⟩
      case measure => simp [intOf] <;> omega
    · obtain rfl : m = 0 := by omega
      have HE := Lib.hid (HB2.out rfl)
      clear h8
      go_wp2
      go_ret
      exact ⟨by rw [← HE.out]; rfl, rfl⟩
end Go.Proofs.Ytbgikkeiapbghaa
