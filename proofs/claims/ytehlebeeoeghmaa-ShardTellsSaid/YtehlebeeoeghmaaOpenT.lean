/- How a slice of texts that came in is opened. -/
import Derived.Test.YtehlebeeoeghmaaOpen
import Derived.Test.YtehlebeeoeghmaaBlock2
import Derived.SliceStrings
namespace Go.Proofs.Ytehlebeeoeghmaa
set_option linter.unusedVariables false
set_option linter.unusedSimpArgs false
open Go.RowKit Go.Joins Go.ChangeShapes Go.WideShapes
theorem cellsStr : Try.prog.cellsOf 9 = 1 := by kernel_rfl
end Go.Proofs.Ytehlebeeoeghmaa
