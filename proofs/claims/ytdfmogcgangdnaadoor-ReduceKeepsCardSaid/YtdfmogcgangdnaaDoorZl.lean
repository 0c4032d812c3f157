/- Parts: Open. -/
import Derived.Test.YtdfmogcgangdnaaDoorZk
import Derived.Lib.SmallJoins
import Derived.OpenShut
import Derived.ProofKit
namespace Go.Proofs.YtdfmogcgangdnaaDoor
section
/- How a row (a struct with a slice of words) and a slice of ints that came in are opened. -/
set_option linter.unusedVariables false
set_option linter.unusedSimpArgs false
open Go.RowKit Go.Joins Go.ChangeShapes Go.WideShapes
theorem cellsRow : Tryd.prog.cellsOf 27 = 2 := by kernel_rfl
set_option maxRecDepth 100000 in
theorem open_row {H : Type} {enc : TypeId × Value → H} {W : World} {r : Reach} {b0 : Nat} {v : Value} {d : DataW H} {p : List MemPlace}
    (hv : Value.okWide Tryd.prog W r b0 27 v) (h : DataW.Trod enc Tryd.prog W 0 (fun _ => true) true 27 v d p) :
    ∃ n A l c us, v = .agg #[.int .i64 n, .slice A l c] ∧ (Lit.int .i64 n).wf = true ∧ SliceOk A l c ∧ Words W A l us := by
  obtain ⟨c0, c1, y0, y1, m, rfl, rfl, rfl, hy0, hy1⟩ := open_agg2 Tryd.underlying27 (by kernel_rfl) cellsRow hv h
  obtain ⟨a, e0, -, wa⟩ := DataW.trod_int Tryd.underlying3 hy0
  obtain ⟨A, l, c, us, e1, hs, hw⟩ := open_words hy1
  simp at e0 e1
  subst e0 e1
  exact ⟨a, A, l, c, us, rfl, wa, hs, hw⟩
end
end Go.Proofs.YtdfmogcgangdnaaDoor
