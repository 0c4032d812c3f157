/- The reference's Same of two matrices. -/
import Derived.Test.YtbgikkeiapbghaaDoorNb5
import Derived.Test.YtbgikkeiapbghaaDoorSame
import Derived.OpenShut
import Derived.Deep.RegionWith
namespace Go.Proofs.YtbgikkeiapbghaaDoor
open Go.RowKit
theorem flatR_at (k : Int) (rs : List (Option Addr × Nat × Nat)) (j : Nat) (hj : j < rs.length) : (flatR k rs)[j * 2]? = some (.int .i64 k) ∧ (flatR k rs)[j * 2 + 1]? = some (.slice (rs.getD j (none, 0, 0)).1 (rs.getD j (none, 0, 0)).2.1 (rs.getD j (none, 0, 0)).2.2) := by
  induction rs generalizing j with
  | nil => cases hj
  | cons r rs ih =>
    have e : flatR k (r :: rs) = .int .i64 k :: .slice r.1 r.2.1 r.2.2 :: flatR k rs := rfl
    cases j with
    | zero => rw [e]; exact ⟨rfl, rfl⟩
    | succ j =>
      have h := ih j (by simpa using hj)
      rw [e, show (j + 1) * 2 = j * 2 + 1 + 1 by omega]
      exact h
theorem add_zero_off (g j : Nat) : (⟨g, 0, none⟩ : Addr).add j = ⟨g, j, none⟩ := by unfold Addr.add; split <;> simp_all
theorem MatW.at {w : World} {base : Nat} {k : Int} {A : Option Addr} {n c : Nat} {ls : List (List Nat)} (h : MatW w base k (.slice A n c) ls) (j : Nat) (hj : j < ls.length) :
    ∃ g B l d, A = some ⟨g, 0, none⟩ ∧ g < w.heap.size ∧ w.cell? ⟨g, j * 2, none⟩ = some (.int .i64 k) ∧ w.cell? ⟨g, j * 2 + 1, none⟩ = some (.slice B l d) ∧ OwnW w B l d (ls.getD j []) := by
  obtain ⟨rs, h1, h2, h3⟩ := h
  obtain ⟨f1, f2⟩ := flatR_at k rs j (by omega)
  have h3 := h3 j hj
  have hA := h2.2
  rcases hA with ⟨-, h0⟩ | ⟨g, cap, cur, hv, -⟩
  · omega
  · injection hv with hA _ _
    subst hA
    have hc := World.ownsRow.cells h2 (g := g) rfl
    have c1 := hc _ _ f1
    have c2 := hc _ _ f2
    rw [add_zero_off] at c1 c2
    exact ⟨g, _, _, _, rfl, (h2.lt g rfl).2, c1, c2, h3⟩
end Go.Proofs.YtbgikkeiapbghaaDoor
