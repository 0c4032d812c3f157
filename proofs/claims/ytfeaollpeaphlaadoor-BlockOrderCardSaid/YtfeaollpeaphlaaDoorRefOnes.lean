/- Contract of layer 2's reference: Ones. -/
import Derived.Test.YtfeaollpeaphlaaDoorRefBlock
import Derived.Test.YtfeaollpeaphlaaDoorFrom
namespace Go.Proofs.YtfeaollpeaphlaaDoor
set_option linter.unusedVariables false
set_option linter.unusedSimpArgs false
open Go.RowKit
theorem int_infoB : (Tryd.prog.info? 3).map (fun i => (i.zero, i.size, i.bytes)) = some (some (.int .i64 0), 1, 8) := by kernel_rfl
def ones (k : Nat) : List Int := List.replicate k 1
theorem ones_succ (k : Nat) : ones (k + 1) = ones k ++ [1] := List.replicate_succ'
theorem ones_lt (k j : Nat) : -9223372036854775808 ≤ (ones k).getD j 0 ∧ (ones k).getD j 0 ≤ 9223372036854775807 := by
  simp only [ones, List.getD, List.getElem?_replicate]
  split <;> simp
/-- A slice of whole numbers is returned. -/
def IntsOut (n : Nat) (zs : List Int) (w : World) (e : Ending) (w' : World) : Prop := ∃ A c, e = .returned (.slice A n c) ∧ Ints w' A n zs ∧ Below w.heap.size w w'
end Go.Proofs.YtfeaollpeaphlaaDoor
