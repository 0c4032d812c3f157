/- Layer 20: the law's rows, cuts. -/
import Derived.Test.YtcamoigcfiemhaaScNa
import Derived.StillTailTactics
namespace Go.Proofs.Ytcamoigcfiemhaa
set_option linter.unusedVariables false
set_option linter.unusedSimpArgs false
open Go.RowKit Go.Lib
set_option maxRecDepth 100000
theorem Ints.take {w : World} {A : Option Addr} {l : Nat} {zs : List Int} (h : Ints w A l zs) (n : Nat) (hn : n ≤ l) : Ints w A n (zs.take n) := by
  obtain ⟨h1, h2, h3⟩ := h
  refine ⟨by rw [List.length_take]; omega, fun j => ?_, fun hp => ?_⟩
  · by_cases hj : j < n
    · have := h2 j
      simpa [List.getD, List.getElem?_take, hj] using this
    · simp [List.getD, List.getElem?_take, hj]
  · obtain ⟨b, o, rfl, hb, hc⟩ := h3 (by omega)
    exact ⟨b, o, rfl, hb, fun j hj => by rw [hc j (by omega)]; simp [List.getD, List.getElem?_take, hj]⟩
theorem min_word (n k : Nat) : (if (k : Int) < (n : Int) then (k : Int) else (n : Int)) = ((min n k : Nat) : Int) := by split <;> omega
set_option maxHeartbeats 2000000 in
theorem cut20_any (A : Option Addr) (l c : Nat) (w : World) (hs : SliceOk A l c) : Calls Try.prog 31 #[.slice A l c] w fun e w' => e = .returned (.slice A (min l 12) c) ∧ w' = w := by
  obtain ⟨h1, h2, h3⟩ := hs
  have hm := min_word l 12
  obtain ⟨k, hk⟩ : ∃ k, k = min l 12 := ⟨_, rfl⟩
  rw [← hk] at hm ⊢
  have k1 : k ≤ c := by omega
  have k2 : (k : Int) ≤ (c : Int) := by omega
  have k3 : (0 : Int) ≤ (k : Int) := by omega
  have hm' : (if (12 : Int) < (l : Int) then (12 : Int) else (l : Int)) = (k : Int) := hm
  have hm2 : min (l : Int) 12 = (k : Int) := by omega
  cases A with
  | none =>
    obtain ⟨rfl, rfl⟩ := h3 rfl
    obtain rfl : k = 0 := by omega
    clear hk hm k1 k2 k3 h1 h2 h3
    go_enter Try.func31, Try.ntmps31
    go_wp2_with fail
    go_ret
    exact ⟨rfl, rfl⟩
  | some ad =>
    clear hk hm h1 h2 h3 k1
    go_enter Try.func31, Try.ntmps31
    go_wp2_with fail
    go_ret
    exact ⟨rfl, rfl⟩
end Go.Proofs.Ytcamoigcfiemhaa
