/- DegreeRoots: the walk. -/
import Derived.Test.YtjfiaeoknmfniaaDeg2
namespace Go.Proofs.Ytjfiaeoknmfniaa
open Go.RowKit
theorem turn_mod (n k : Int) (hk : 0 < k) : ∃ m : Nat, n.tmod k % k = m ∧ (m : Int) < k := by
  have h1 := Int.emod_nonneg (n.tmod k) (show k ≠ 0 by omega)
  have h2 := Int.emod_lt_of_pos (n.tmod k) hk
  exact ⟨(n.tmod k % k).toNat, by omega, by omega⟩
set_option maxHeartbeats 1000000 in
set_option maxRecDepth 100000 in
theorem roots_walk (n : Int) (w : World) : Calls Try.prog 10 #[.int .i64 n] w fun e w' => e = .returned (.bool true) ∧ Below w.heap.size w w' := by
  obtain ⟨m, hm, hm2⟩ := turn_mod n 46340 (by omega)
  have HM := Lib.hid hm
  have t1 := Int.tmod_lt_of_pos n (show (0 : Int) < 46340 by omega)
  have t2 : -46340 < n.tmod 46340 := Int.lt_tmod_of_pos n (by omega)
  clear hm
  have hs1 : m * m ≤ 46339 * 46339 := Nat.mul_le_mul (show m ≤ 46339 by omega) (show m ≤ 46339 by omega)
  have hs2 : (m : Int) * (m : Int) = ((m * m : Nat) : Int) := sq_cast m
  have HC := Lib.hid hs2
  have q1 : (m : Int) * (m : Int) ≤ 2147302921 := by rw [hs2]; omega
  have q2 : 0 ≤ (m : Int) * (m : Int) := by rw [hs2]; omega
  have HS := Lib.hid (root_sq m (by omega))
  have HN := Lib.hid (root_next m (by omega))
  clear hs2
  go_enter Try.func10, Try.ntmps10
  go_wp2_with fail
  simp only [Int.add_emod_right]
  rw [HM.out]
  clear t1 t2 HM
  refine (root_yes m (by omega) _).mono ?_
  rintro e w1 ⟨rfl, hb⟩
  have B1 := Lib.hid hb
  clear hb
  go_wp2_with fail
  rw [show (m : Int) + 1 = ((m + 1 : Nat) : Int) by simp]
  refine (root_yes (m + 1) (by omega) _).mono ?_
  rintro e w2 ⟨rfl, hb⟩
  have B2 := Lib.hid (chain B1.out hb)
  clear hb
  go_wp2_with fail
  rw [HC.out]
  refine (root_yes (m * m) (by omega) _).mono ?_
  rintro e w3 ⟨rfl, hb⟩
  have B3 := Lib.hid (chain B2.out hb)
  clear hb
  go_wp2_with fail
  rw [show (m : Int) * (m : Int) + 2 * (m : Int) = ((m * m + 2 * m : Nat) : Int) by simp]
  refine (root_yes (m * m + 2 * m) (by omega) _).mono ?_
  rintro e w4 ⟨rfl, hb⟩
  have B4 := Lib.hid (chain B3.out hb)
  clear hb
  rw [HS.out.1, HS.out.2]
  clear HS HC q1 q2 hs1
  go_wp2_with fail
  refine (alive7_any _).mono ?_
  rintro e w5 ⟨rfl, hb⟩
  have B5 := Lib.hid (chain B4.out hb)
  clear hb
  have hr := (root_spec m (by omega)).2.2.2
  generalize root m = r at *
  generalize root (m + 1) = r' at *
  by_cases hrr : r' = r
  · subst hrr
    go_wp2_with fail
    go_ret
    exact ⟨by simp, B5.out⟩
  · have e2 : r' = r + 1 := HN.out.resolve_left hrr
    have t : ((r' : Int) == (r : Int)) = false := beq_eq_false_iff_ne.2 (by omega)
    have t' : ((r' : Int) == (r : Int) + 1) = true := beq_iff_eq.2 (by omega)
    clear e2 hrr HN
    go_wp2_with fail
    go_ret
    exact ⟨by simp, B5.out⟩
end Go.Proofs.Ytjfiaeoknmfniaa
