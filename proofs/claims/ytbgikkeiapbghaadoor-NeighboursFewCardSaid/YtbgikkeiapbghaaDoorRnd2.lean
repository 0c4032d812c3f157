/- Contract of layer 6's reference: Below. -/
import Derived.Test.YtbgikkeiapbghaaDoorRnd1
import Derived.Deep.LoopGhost
namespace Go.Proofs.YtbgikkeiapbghaaDoor
open Go.RowKit
theorem step_wrap (s : Nat) : IntKind.u64.wrap ((s : Int) + 11400714819323198485) = ((nextS s : Nat) : Int) := by
  rw [IntKind.wrap_u64, nextS]; rfl
end Go.Proofs.YtbgikkeiapbghaaDoor
