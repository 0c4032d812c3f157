/- Contracts of layer 2's reference: Why, Ones. -/
import Derived.Test.YtfeaollpeaphlaaDoorBlock4
import Derived.Test.YtfeaollpeaphlaaDoorWords2
namespace Go.Proofs.YtfeaollpeaphlaaDoor
set_option linter.unusedVariables false
set_option linter.unusedSimpArgs false
open Go.RowKit
def whyE (b : Bool) : Int := if b then 0 else 2
theorem why_neg (n : Int) (A : Option Addr) (l c : Nat) (h : n < 0) (w : World) : Calls Tryd.prog 24 #[.int .i64 n, .slice A l c] w fun e w' => e = .returned (.int .i64 2) ∧ w = w' := by
  have t : decide (n < 0) = true := by simpa using h
  go_enter Tryd.func24, Tryd.ntmps24
  go_wp2
  go_ret
  exact ⟨rfl, rfl⟩
theorem why_big (n : Int) (A : Option Addr) (l c : Nat) (h0 : ¬ n < 0) (h : 64 < n) (w : World) : Calls Tryd.prog 24 #[.int .i64 n, .slice A l c] w fun e w' => e = .returned (.int .i64 2) ∧ w = w' := by
  have t0 : decide (n < 0) = false := by simpa using h0
  have t : decide (64 < n) = true := by simpa using h
  go_enter Tryd.func24, Tryd.ntmps24
  go_wp2
  go_ret
  exact ⟨rfl, rfl⟩
theorem why_many (n : Int) (A : Option Addr) (l c : Nat) (h0 : ¬ n < 0) (h : ¬ 64 < n) (hl : 64 < l) (hl2 : l ≤ maxLen) (w : World) : Calls Tryd.prog 24 #[.int .i64 n, .slice A l c] w fun e w' => e = .returned (.int .i64 2) ∧ w = w' := by
  unfold maxLen at hl2
  have t0 : decide (n < 0) = false := by simpa using h0
  have t : decide (64 < n) = false := by simpa using h
  have t2 : (64 : Int) < l := by omega
  go_enter Tryd.func24, Tryd.ntmps24
  go_wp2
  go_ret
  exact ⟨rfl, rfl⟩
theorem why_loop (n : Int) (A : Option Addr) (l c : Nat) (ss : List ByteArray) (w : World) (ht : Texts w A l ss) (h0 : ¬ n < 0) (h : ¬ 64 < n) (hl : l ≤ 64) :
    Calls Tryd.prog 24 #[.int .i64 n, .slice A l c] w fun e w' => e = .returned (.int .i64 (whyE (allL n ss))) ∧ w = w' := by
  have t0 : decide (n < 0) = false := by simpa using h0
  have t : decide (64 < n) = false := by simpa using h
  have t2 : ¬ (64 : Int) < l := by omega
  have hlen := Lib.hid ht.1
  have HT := Lib.hid ht
  clear ht
  go_enter Tryd.func24, Tryd.ntmps24
  go_wp2_with fail
  go_loop [20] (fun i => ∃ k : Nat, k ≤ l ∧ i = .int .i64 k ∧ Hid (allL n (ss.take k) = true)) (fun i => l - (intOf i).toNat)
  case atStart => exact ⟨0, by omega, rfl, Lib.hid (by simp [allL])⟩
  case round =>
    obtain ⟨k, hk, rfl, HN⟩ := hrel
    by_cases hlt : k < l
    · obtain ⟨b, off, rfl, hb, hc⟩ := HT.out.2.2 (by omega)
      have c1 := hc k hlt
      have hm := HT.out.2.1 k
      have HS := Lib.hid (allL_snoc n ss k (by rw [hlen.out]; exact hlt))
      have HNO := Lib.hid (allL_not n ss k (by rw [hlen.out]; exact hlt))
      generalize ss.getD k ByteArray.empty = s at *
      unfold maxLen at hm
      clear hc
      by_cases hz : (s.size : Int) = n
      · have t : ((s.size : Int) != n) = false := by simpa using hz
        have HZ := Lib.hid hz
        clear hz
        go_wp2
        go_round
        case rel => exact ⟨k + 1, by omega, by go_num, Lib.hid (by rw [HS.out, HN.out, HZ.out]; simp)⟩
        case measure => simp [intOf]; omega
      · have t : ((s.size : Int) != n) = true := by simpa using hz
        go_wp2
        go_ret
        exact ⟨by rw [HNO.out hz]; rfl, rfl⟩
    · obtain rfl : k = l := by omega
      have HE := Lib.hid (show allL n ss = true by have := HN.out; rwa [List.take_of_length_le (by rw [hlen.out]; omega)] at this)
      go_wp2
      go_ret
      exact ⟨by rw [HE.out]; rfl, rfl⟩
theorem why_any (n : Int) (A : Option Addr) (l c : Nat) (ss : List ByteArray) (w : World) (ht : Texts w A l ss) (hl : l ≤ maxLen) :
    Calls Tryd.prog 24 #[.int .i64 n, .slice A l c] w fun e w' => e = .returned (.int .i64 (sumE n ss)) ∧ w = w' := by
  have hlen := ht.1
  by_cases h0 : n < 0
  · have e : okS n ss = false := by simp [okS, smb]; omega
    rw [sumE, e]; exact why_neg n A l c h0 w
  · by_cases h : 64 < n
    · have e : okS n ss = false := by simp [okS, smb]; omega
      rw [sumE, e]; exact why_big n A l c h0 h w
    · by_cases h2 : l ≤ 64
      · have e : okS n ss = allL n ss := by
          have : smb n = true := (smb_iff n).2 ⟨by omega, by omega⟩
          simp [okS, this, hlen, h2]
        rw [sumE, e]; exact why_loop n A l c ss w ht h0 h h2
      · have e : okS n ss = false := by simp [okS, hlen, h2]
        rw [sumE, e]; exact why_many n A l c h0 h (by omega) hl w
end Go.Proofs.YtfeaollpeaphlaaDoor
