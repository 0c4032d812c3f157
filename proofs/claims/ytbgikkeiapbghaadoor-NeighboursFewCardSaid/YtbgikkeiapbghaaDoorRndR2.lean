/- Contracts of layer 6's reference: in, Some. -/
import Derived.Test.YtbgikkeiapbghaaDoorRndR1
import Derived.Test.YtbgikkeiapbghaaDoorRndS
namespace Go.Proofs.YtbgikkeiapbghaaDoor
open Go.RowKit
theorem contains_take_succ (zs : List Nat) (i x : Nat) (hi : i < zs.length) : (zs.take (i + 1)).contains x = ((zs.take i).contains x || (zs.getD i 0 == x)) := by
  rw [List.take_succ_eq_append_getElem hi]
  have : zs.getD i 0 = zs[i] := by simp [List.getD, hi]
  rw [this, Bool.eq_iff_iff]
  simp only [List.contains_iff_mem, List.mem_append, List.mem_singleton, Bool.or_eq_true, beq_iff_eq]
  exact or_congr Iff.rfl eq_comm
/-- Is a number in a row? -/
def hasN (l : List Nat) (x : Nat) : Bool := l.contains x
theorem own_lower {w : World} {base base' e size n : Nat} {v : Value} {xs : List Value} (h : w.ownsRow base e size v n xs) (hb : base' ≤ base) : w.ownsRow base' e size v n xs := by
  refine ⟨h.1, ?_⟩
  rcases h.2 with h0 | ⟨g, cap, cur, rfl, h1, h2⟩
  · exact .inl h0
  · exact .inr ⟨g, cap, cur, rfl, Nat.le_trans hb h1, h2⟩
theorem range_filter_succ (p : Nat → Bool) (k : Nat) : (List.range (k + 1)).filter p = (List.range k).filter p ++ (if p k = true then [k] else []) := by
  rw [List.range_succ, List.filter_append, List.filter_cons, List.filter_nil]
/-- What the reference's Some hands back. -/
def RSomeOut (n many s : Nat) (w : World) (e : Ending) (w' : World) : Prop :=
  ∃ v, e = .returned (.agg #[.int .u64 ((shufN n s).1 : Nat), v]) ∧ w'.ownsRow w.heap.size 3 1 v (someN n many s).length ((someN n many s).map natV) ∧ Below w.heap.size w w'
end Go.Proofs.YtbgikkeiapbghaaDoor
