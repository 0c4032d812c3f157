/- Layer 6: rows of small numbers as rows of ints. -/
import Derived.Test.YtbgikkeiapbghaaDoorRndR3
import Derived.Test.YtbgikkeiapbghaaDoorRefNums
namespace Go.Proofs.YtbgikkeiapbghaaDoor
open Go.RowKit
def castZ (zs : List Nat) : List Int := zs.map fun x : Nat => (x : Int)
theorem castZ_getD (zs : List Nat) (j : Nat) : (castZ zs).getD j 0 = ((zs.getD j 0 : Nat) : Int) := by
  by_cases h : j < zs.length
  · simp [castZ, List.getD, h]
  · simp [castZ, List.getD, List.getElem?_eq_none (Nat.le_of_not_lt h)]
theorem nats_ints {w : World} {g k : Nat} {zs : List Nat} (h : NatsAt w g zs) (hz : zs.length = k) (hg : g < w.heap.size) (hb : ∀ x ∈ zs, x ≤ 1000000) : Ints w (some ⟨g, 0, none⟩) k (castZ zs) := by
  refine ⟨by simpa [castZ] using hz, fun j => ?_, fun _ => ⟨g, 0, rfl, hg, fun j hj => ?_⟩⟩
  · rw [castZ_getD]
    have : zs.getD j 0 ≤ 1000000 := by
      by_cases hj : j < zs.length
      · have : zs.getD j 0 = zs[j] := by simp [List.getD, hj]
        rw [this]; exact hb _ (List.getElem_mem hj)
      · simp [List.getD, List.getElem?_eq_none (Nat.le_of_not_lt hj)]
    omega
  · rw [castZ_getD, Nat.zero_add]
    exact (h j (by omega)).1
theorem shuf_bound (n s : Nat) (h1 : 1 ≤ n) (h2 : n ≤ 512) (hs : s < 18446744073709551616) : ∀ x ∈ (shufN n s).2, x ≤ 1000000 := by
  intro x hx
  have := (shufN_perm n s h1 hs).1.mem_iff.1 hx
  have : x < n := by simpa using this
  omega
theorem some_bound (n many s : Nat) (h2 : n ≤ 512) : ∀ x ∈ someN n many s, x ≤ 1000000 := by
  intro x hx
  have := List.mem_filter.1 hx
  have : x < n := by simpa using this.1
  omega
theorem sameZ_self (xs : List Int) : sameZ xs xs = true := decide_eq_true rfl
theorem own_natInts {w : World} {base n : Nat} {A : Option Addr} {c : Nat} {zs : List Nat} (h : w.ownsRow base 3 1 (.slice A n c) n (zs.map natV)) (hb : ∀ x ∈ zs, x ≤ 1000000) : Ints w A n (castZ zs) := by
  have h' : w.ownsRow base 3 1 (.slice A n c) n ((castZ zs).map (Value.int .i64)) := by
    have : (castZ zs).map (Value.int .i64) = zs.map natV := by simp [castZ, natV, Function.comp_def]
    rw [this]; exact h
  refine own_ints h' (fun j => ?_)
  rw [castZ_getD]
  have : zs.getD j 0 ≤ 1000000 := by
    by_cases hj : j < zs.length
    · have : zs.getD j 0 = zs[j] := by simp [List.getD, hj]
      rw [this]; exact hb _ (List.getElem_mem hj)
    · simp [List.getD, List.getElem?_eq_none (Nat.le_of_not_lt hj)]
  omega
end Go.Proofs.YtbgikkeiapbghaaDoor
