/- Contracts of layer 7: plain, more, math/bits.Len64 at small numbers. -/
import Derived.Test.YtbgikkeiapbghaaDoorDeg1
import Derived.Lib.Strings
import Derived.Lib.Slices
import Derived.Lib.Small
import Derived.Lib.Walk
import Derived.Lib.BitFns
namespace Go.Proofs.YtbgikkeiapbghaaDoor
open Go.RowKit
def plainN (d k : Nat) : Nat := if d = 1 then 4294967296 / k else 4294967296 / (d * (d - 1))
def moreN (d p t k : Nat) : Nat := if d < p then 4294967296 * t / (d * k) else if d = p then 4294967296 * t * Lib.bitLen t / k else 0
theorem mul_cast (a b : Nat) : (a : Int) * (b : Int) = ((a * b : Nat) : Int) := by simp
theorem tab_size : Lib.len8tab.size = 256 := by decide +kernel
theorem len_tab : ∀ n : Fin 256, wrap64 (wrap64 ((Lib.len8tab[n.val]'(by rw [tab_size]; exact n.isLt)).toNat : Int)) = (Lib.bitLen n.val : Int) := by decide +kernel
set_option maxHeartbeats 4000000 in
set_option maxRecDepth 100000 in
theorem len64_int (x : Int) (w : World) (h0 : 0 ≤ x) (h1 : x < 256) : Calls Tryd.prog 46 #[.int .u64 x] w fun e w' => e = .returned (.int .i64 (Lib.bitLen x.toNat)) ∧ w = w' := by
  go_enter Tryd.func46, Tryd.ntmps46
  go_wp2
  go_ret
  refine ⟨congrArg Ending.returned (congrArg (Value.int IntKind.i64) ?_), rfl⟩
  exact len_tab ⟨x.toNat, by omega⟩
theorem len64_any (x : Nat) (hx : x < 256) (w : World) : Calls Tryd.prog 46 #[.int .u64 x] w fun e w' => e = .returned (.int .i64 (Lib.bitLen x : Nat)) ∧ w = w' := by
  have := len64_int x w (by omega) (by omega)
  rwa [Int.toNat_natCast] at this
theorem bitLen_le (x : Nat) (hx : x < 256) : Lib.bitLen x ≤ 8 := by
  have := Lib.bitLen_le8' (x : Int) (by omega) (by omega)
  rw [Int.toNat_natCast] at this
  omega
theorem plain_any (d k : Nat) (h1 : 1 ≤ d) (h2 : d ≤ 64) (h3 : 1 ≤ k) (h4 : k ≤ 64) (w : World) :
    Calls Tryd.prog 40 #[.int .u64 d, .int .u64 k] w fun e w' => e = .returned (.int .u64 (plainN d k : Nat)) ∧ w = w' := by
  by_cases hd : d = 1
  · subst hd
    have g : (1 : Int) ≤ k := by omega
    go_enter Tryd.func40, Tryd.ntmps40
    go_wp2
    go_ret
    exact ⟨rfl, rfl⟩
  · obtain ⟨c, rfl⟩ : ∃ c, d = c + 1 := ⟨d - 1, by omega⟩
    have t : (((c + 1 : Nat) : Int) == 1) = false := beq_eq_false_iff_ne.2 (by omega)
    have e : plainN (c + 1) k = 4294967296 / ((c + 1) * c) := by rw [plainN, if_neg hd]; rfl
    rw [e]
    have q0 : 1 * 1 ≤ (c + 1) * c := Nat.mul_le_mul (by omega) (by omega)
    have q1 : (c + 1) * c ≤ 64 * 63 := Nat.mul_le_mul (by omega) (by omega)
    have q2 : ((c : Int) + 1) * (c : Int) = (((c + 1) * c : Nat) : Int) := by simp
    have q3 : 1 ≤ ((c : Int) + 1) * (c : Int) := by rw [q2]; omega
    have q4 : ((c : Int) + 1) * (c : Int) ≤ 4032 := by rw [q2]; omega
    have HQ := Lib.hid q2
    clear q2 e
    go_enter Tryd.func40, Tryd.ntmps40
    go_wp2
    go_ret
    exact ⟨congrArg (fun z => Ending.returned (.int .u64 z)) (by rw [HQ.out]; simp), rfl⟩
set_option maxHeartbeats 1000000 in
theorem more_any (d p t k : Nat) (h1 : 1 ≤ d) (h2 : d ≤ 64) (h3 : 1 ≤ k) (h4 : k ≤ 64) (h5 : 1 ≤ t) (h6 : t ≤ 64) (h7 : p ≤ 64) (w : World) :
    Calls Tryd.prog 41 #[.int .u64 d, .int .u64 p, .int .u64 t, .int .u64 k] w fun e w' => e = .returned (.int .u64 (moreN d p t k : Nat)) ∧ w = w' := by
  have g1 : (1 : Int) ≤ k := by omega
  by_cases hd : d < p
  · have e : moreN d p t k = 4294967296 * t / (d * k) := by rw [moreN, if_pos hd]
    rw [e]
    have g : (d : Int) < p := by omega
    have q0 : 1 * 1 ≤ d * k := Nat.mul_le_mul (by omega) (by omega)
    have q1 : d * k ≤ 64 * 64 := Nat.mul_le_mul (by omega) (by omega)
    have q2 : (d : Int) * (k : Int) = ((d * k : Nat) : Int) := by simp
    have q3 : 1 ≤ (d : Int) * (k : Int) := by rw [q2]; omega
    have q4 : (d : Int) * (k : Int) ≤ 4096 := by rw [q2]; omega
    have HQ := Lib.hid q2
    clear q2 e
    go_enter Tryd.func41, Tryd.ntmps41
    go_wp2
    go_ret
    exact ⟨congrArg (fun z => Ending.returned (.int .u64 z)) (by rw [HQ.out]; simp), rfl⟩
  · have g : ¬ (d : Int) < p := by omega
    by_cases hp : d = p
    · have e : moreN d p t k = 4294967296 * t * Lib.bitLen t / k := by rw [moreN, if_neg hd, if_pos hp]
      rw [e]
      have g2 : ((d : Int) == (p : Int)) = true := beq_iff_eq.2 (by omega)
      have HL := Lib.hid (len64_any t (by omega) w)
      have hb := bitLen_le t (by omega)
      generalize Lib.bitLen t = z at *
      have q1 : t * z ≤ 64 * 8 := Nat.mul_le_mul (by omega) (by omega)
      have q2 : 4294967296 * (t : Int) * (z : Int) = ((4294967296 * (t * z) : Nat) : Int) := by rw [Int.mul_assoc, mul_cast]; simp
      have q3 : 0 ≤ 4294967296 * (t : Int) * (z : Int) := by rw [q2]; omega
      have q4 : 4294967296 * (t : Int) * (z : Int) ≤ 2199023255552 := by rw [q2]; omega
      have HQ := Lib.hid q2
      clear q2 e hp hd
      go_enter Tryd.func41, Tryd.ntmps41
      go_wp2_with fail
      refine HL.out.mono ?_
      rintro e w1 ⟨rfl, rfl⟩
      go_wp2
      go_ret
      exact ⟨congrArg (fun z => Ending.returned (.int .u64 z)) (by rw [HQ.out, Nat.mul_assoc]; simp), rfl⟩
    · have e : moreN d p t k = 0 := by rw [moreN, if_neg hd, if_neg hp]
      rw [e]
      have g2 : ((d : Int) == (p : Int)) = false := beq_eq_false_iff_ne.2 (by omega)
      clear e hp
      go_enter Tryd.func41, Tryd.ntmps41
      go_wp2
      go_ret
      exact ⟨rfl, rfl⟩
end Go.Proofs.YtbgikkeiapbghaaDoor
