/-
  No cell of these rows narrows 'for every input' (looked for: loops, veiled, ifaces, maps, wideKeys, modest, calm, conditions, laid).
  DERIVED. THE GIVEN ROWS OF THIS SEAT. 3 by the template 'for every input the law returns true; each argument reads behind the call as it read before'; 0 by the template 'total and deterministic' (their statements: YtmfhimeffmpgaaaTotals.lean).
  GIVEN WITH THE SEED: the statements are not yours to turn. If you find one false, say at which input.
  Laid BY PROGRAM, IN A SANDBOX (cutbox-rows.mjs): the forced cells as the released guide's own fill.sh prints them over the translation 5105676f7587374c… (all of the seat's roots in one cut). By AI agents, Wed Nov 11 2026. No macro, syntax, notation, axiom, sorry.
-/
import Derived.Test.YtmfhimeffmpgaaaChecked
import GoSem.Claim
import GoSem.ClaimJoined
import GoSem.ClaimMapViews
import Derived.JoinedTies
import Derived.KernelRfl
namespace Go.Proofs.Ytmfhimeffmpgaaa
/- THE CELL 'sum', in the pinned program and in every row, IS THE sha256 OF THE DUMP (.gsa) THAT YtmfhimeffmpgaaaProg.lean LOADS. Nothing in Lean hashes anything: it is a label: what it is worth is what the hold of that sum in a sandbox is worth. -/
noncomputable def Try.pinned : Pinned := { name := "ytmfhimeffmpgaaa", sum := "5105676f7587374cf17b6acd52754a27f1a8e14d0766a3138315657233f8deb6", checked := Try.checked }
namespace Rows
def none {H : Type} : Left H := { results := [], args := [] }

/-- 'downpourlaw12.EquationsAdd': WHATEVER THE INPUT: true; the input reads as it did. -/
def equationsAddSpec : ChangeSpec := { name := "equationsAdd", fn := fun _ => fun
  | [d1, d2, d3, d4, d5, d6] => { results := [.lit (.bool true)], args := [d1, d2, d3, d4, d5, d6] }
  | _ => none }
def equationsAddRow : OpenClaim := { program := "ytmfhimeffmpgaaa", sum := "5105676f7587374cf17b6acd52754a27f1a8e14d0766a3138315657233f8deb6", func := "downpour/downpourlaw12.EquationsAdd", spec := "equationsAdd", unfollowed := true, recurses := true, apart := false }
def EquationsAddSaid : Prop := equationsAddRow.holds Try.pinned (OpenSpec.ofChange equationsAddSpec)

/-- ITS FALSE NEIGHBOUR: 'it returns false'. Refute it at one input. -/
def equationsAddWrong : ChangeSpec := { name := "equationsAdd", fn := fun _ => fun
  | [d1, d2, d3, d4, d5, d6] => { results := [.lit (.bool false)], args := [d1, d2, d3, d4, d5, d6] }
  | _ => none }
def EquationsAddWrongFalsely : Prop := equationsAddRow.holds Try.pinned (OpenSpec.ofChange equationsAddWrong)

/-- 'downpourlaw12.EquationsGrow': WHATEVER THE INPUT: true; the input reads as it did. -/
def equationsGrowSpec : ChangeSpec := { name := "equationsGrow", fn := fun _ => fun
  | [d1, d2] => { results := [.lit (.bool true)], args := [d1, d2] }
  | _ => none }
def equationsGrowRow : OpenClaim := { program := "ytmfhimeffmpgaaa", sum := "5105676f7587374cf17b6acd52754a27f1a8e14d0766a3138315657233f8deb6", func := "downpour/downpourlaw12.EquationsGrow", spec := "equationsGrow", unfollowed := true, recurses := true, apart := false }
def EquationsGrowSaid : Prop := equationsGrowRow.holds Try.pinned (OpenSpec.ofChange equationsGrowSpec)

/-- ITS FALSE NEIGHBOUR: 'it returns false'. Refute it at one input. -/
def equationsGrowWrong : ChangeSpec := { name := "equationsGrow", fn := fun _ => fun
  | [d1, d2] => { results := [.lit (.bool false)], args := [d1, d2] }
  | _ => none }
def EquationsGrowWrongFalsely : Prop := equationsGrowRow.holds Try.pinned (OpenSpec.ofChange equationsGrowWrong)

/-- 'downpourlaw12.EquationsOrder': WHATEVER THE INPUT: true; the input reads as it did. -/
def equationsOrderSpec : ChangeSpec := { name := "equationsOrder", fn := fun _ => fun
  | [d1, d2, d3] => { results := [.lit (.bool true)], args := [d1, d2, d3] }
  | _ => none }
def equationsOrderRow : OpenClaim := { program := "ytmfhimeffmpgaaa", sum := "5105676f7587374cf17b6acd52754a27f1a8e14d0766a3138315657233f8deb6", func := "downpour/downpourlaw12.EquationsOrder", spec := "equationsOrder", unfollowed := true, recurses := true, apart := false }
def EquationsOrderSaid : Prop := equationsOrderRow.holds Try.pinned (OpenSpec.ofChange equationsOrderSpec)

/-- ITS FALSE NEIGHBOUR: 'it returns false'. Refute it at one input. -/
def equationsOrderWrong : ChangeSpec := { name := "equationsOrder", fn := fun _ => fun
  | [d1, d2, d3] => { results := [.lit (.bool false)], args := [d1, d2, d3] }
  | _ => none }
def EquationsOrderWrongFalsely : Prop := equationsOrderRow.holds Try.pinned (OpenSpec.ofChange equationsOrderWrong)

/- THE SECOND FORM. 'bulk': how many values and letters a reading holds, each counted each time it is reached (what is shared counts as often as it is met; a slice's spare places count too). A statement '..UptoSaid' is the law's where the arguments, and the package variables that the reading takes, are together of bulk at most 1048576: NARROWER than '..Said'. Prove '..Said' where nothing that the law and all that it calls make is longer than what came in: it says more and counts as full. Else prove '..UptoSaid'. A law counts once. -/
mutual
def uptoBulk {H : Type} : DataW H → Nat
  | .lit (.string bytes) => bytes.length + 1
  | .lit _ => 1
  | .nil => 1
  | .ptr d => uptoBulk d + 1
  | .slice elems spare => uptoBulkAll elems + uptoBulkAll spare + 1
  | .agg parts => uptoBulkAll parts + 1
  | .iface _ d => uptoBulk d + 1
  | .map entries => uptoBulkEntries entries + 1
  | .held _ => 1
def uptoBulkAll {H : Type} : List (DataW H) → Nat
  | [] => 0
  | d :: r => uptoBulk d + uptoBulkAll r
def uptoBulkEntries {H : Type} : List (Lit × DataW H) → Nat
  | [] => 0
  | x :: r => uptoBulkEntry x + uptoBulkEntries r
def uptoBulkEntry {H : Type} : Lit × DataW H → Nat
  | (.string bytes, d) => bytes.length + uptoBulk d + 1
  | (_, d) => uptoBulk d + 1
 end
def uptoSmall : (H : Type) → List (DataW H) → Bool := fun _ ds => decide (uptoBulkAll ds ≤ 1048576)
def OpenSpec.upto (s : _root_.Go.ChangeSpec) : _root_.Go.OpenSpec := { _root_.Go.OpenSpec.ofChange s with cond := some uptoSmall }

/-- 'downpourlaw12.EquationsAdd', WHERE WHAT IT READS IS OF BULK AT MOST 1048576: true; the input reads as it did. -/
def equationsAddUptoRow : OpenClaim := { program := "ytmfhimeffmpgaaa", sum := "5105676f7587374cf17b6acd52754a27f1a8e14d0766a3138315657233f8deb6", func := "downpour/downpourlaw12.EquationsAdd", spec := "equationsAdd", unfollowed := true, recurses := true, apart := false, narrowed := true }
def EquationsAddUptoSaid : Prop := equationsAddUptoRow.holds Try.pinned (OpenSpec.upto equationsAddSpec)

/-- 'downpourlaw12.EquationsGrow', WHERE WHAT IT READS IS OF BULK AT MOST 1048576: true; the input reads as it did. -/
def equationsGrowUptoRow : OpenClaim := { program := "ytmfhimeffmpgaaa", sum := "5105676f7587374cf17b6acd52754a27f1a8e14d0766a3138315657233f8deb6", func := "downpour/downpourlaw12.EquationsGrow", spec := "equationsGrow", unfollowed := true, recurses := true, apart := false, narrowed := true }
def EquationsGrowUptoSaid : Prop := equationsGrowUptoRow.holds Try.pinned (OpenSpec.upto equationsGrowSpec)

/-- 'downpourlaw12.EquationsOrder', WHERE WHAT IT READS IS OF BULK AT MOST 1048576: true; the input reads as it did. -/
def equationsOrderUptoRow : OpenClaim := { program := "ytmfhimeffmpgaaa", sum := "5105676f7587374cf17b6acd52754a27f1a8e14d0766a3138315657233f8deb6", func := "downpour/downpourlaw12.EquationsOrder", spec := "equationsOrder", unfollowed := true, recurses := true, apart := false, narrowed := true }
def EquationsOrderUptoSaid : Prop := equationsOrderUptoRow.holds Try.pinned (OpenSpec.upto equationsOrderSpec)

end Rows
end Go.Proofs.Ytmfhimeffmpgaaa
