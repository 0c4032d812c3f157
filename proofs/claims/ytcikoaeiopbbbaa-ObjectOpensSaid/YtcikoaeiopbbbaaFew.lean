/- Contract of the statements' few: a row with at most ten words. -/
import Derived.Test.YtcikoaeiopbbbaaBitrow1
namespace Go.Proofs.Ytcikoaeiopbbbaa
set_option linter.unusedVariables false
set_option linter.unusedSimpArgs false
open Go.RowKit
/-- What a call that answers a row leaves. -/
def OneRow (n : Int) (zs : List Nat) (w : World) (e : Ending) (w' : World) : Prop :=
  ∃ A l c, e = .returned (.agg #[.int .i64 n, .slice A l c]) ∧ Words w' A l zs ∧ Below w.heap.size w w'
/-- A slice value as Go has it: nil is empty, without capacity. -/
def SliceOk (A : Option Addr) (l c : Nat) : Prop := l ≤ c ∧ c ≤ maxLen ∧ (A = none → l = 0 ∧ c = 0)
end Go.Proofs.Ytcikoaeiopbbbaa
