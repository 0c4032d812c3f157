/-
  No cell of these rows narrows 'for every input' (looked for: loops, veiled, ifaces, maps, wideKeys, modest, calm, conditions, laid).
  DERIVED. THE GIVEN ROWS OF THIS SEAT. 4 by the template 'for every input the law returns true; each argument reads behind the call as it read before'; 0 by the template 'total and deterministic' (their statements: YtmfjbmojejplgaaTotals.lean).
  GIVEN WITH THE SEED: the statements are not yours to turn. If you find one false, say at which input.
  Laid BY PROGRAM, IN A SANDBOX (cutbox-rows.mjs): the forced cells as the released guide's own fill.sh prints them over the translation 67ff0cb8cd93edf7… (all of the seat's roots in one cut). By AI agents, Wed Nov 11 2026. No macro, syntax, notation, axiom, sorry.
-/
import Derived.Test.YtmfjbmojejplgaaChecked
import GoSem.Claim
import GoSem.ClaimJoined
import GoSem.ClaimMapViews
import Derived.JoinedTies
import Derived.KernelRfl
namespace Go.Proofs.Ytmfjbmojejplgaa
/- THE CELL 'sum', in the pinned program and in every row, IS THE sha256 OF THE DUMP (.gsa) THAT YtmfjbmojejplgaaProg.lean LOADS. Nothing in Lean hashes anything: it is a label: what it is worth is what the hold of that sum in a sandbox is worth. -/
noncomputable def Try.pinned : Pinned := { name := "ytmfjbmojejplgaa", sum := "67ff0cb8cd93edf78547837572ce1e8d5a2d52c4d721b15db03221d42f2d7edb", checked := Try.checked }
namespace Rows
def none {H : Type} : Left H := { results := [], args := [] }

/-- 'downpourlaw14.RippleSorts': WHATEVER THE INPUT: true; the input reads as it did. -/
def rippleSortsSpec : ChangeSpec := { name := "rippleSorts", fn := fun _ => fun
  | [d1, d2, d3, d4] => { results := [.lit (.bool true)], args := [d1, d2, d3, d4] }
  | _ => none }
def rippleSortsRow : OpenClaim := { program := "ytmfjbmojejplgaa", sum := "67ff0cb8cd93edf78547837572ce1e8d5a2d52c4d721b15db03221d42f2d7edb", func := "downpour/downpourlaw14.RippleSorts", spec := "rippleSorts", unfollowed := true, recurses := true, apart := false }
def RippleSortsSaid : Prop := rippleSortsRow.holds Try.pinned (OpenSpec.ofChange rippleSortsSpec)

/-- ITS FALSE NEIGHBOUR: 'it returns false'. Refute it at one input. -/
def rippleSortsWrong : ChangeSpec := { name := "rippleSorts", fn := fun _ => fun
  | [d1, d2, d3, d4] => { results := [.lit (.bool false)], args := [d1, d2, d3, d4] }
  | _ => none }
def RippleSortsWrongFalsely : Prop := rippleSortsRow.holds Try.pinned (OpenSpec.ofChange rippleSortsWrong)

/-- 'downpourlaw14.RippleRuns': WHATEVER THE INPUT: true; the input reads as it did. -/
def rippleRunsSpec : ChangeSpec := { name := "rippleRuns", fn := fun _ => fun
  | [d] => { results := [.lit (.bool true)], args := [d] }
  | _ => none }
def rippleRunsRow : OpenClaim := { program := "ytmfjbmojejplgaa", sum := "67ff0cb8cd93edf78547837572ce1e8d5a2d52c4d721b15db03221d42f2d7edb", func := "downpour/downpourlaw14.RippleRuns", spec := "rippleRuns", unfollowed := true, recurses := true, apart := false }
def RippleRunsSaid : Prop := rippleRunsRow.holds Try.pinned (OpenSpec.ofChange rippleRunsSpec)

/-- ITS FALSE NEIGHBOUR: 'it returns false'. Refute it at one input. -/
def rippleRunsWrong : ChangeSpec := { name := "rippleRuns", fn := fun _ => fun
  | [d] => { results := [.lit (.bool false)], args := [d] }
  | _ => none }
def RippleRunsWrongFalsely : Prop := rippleRunsRow.holds Try.pinned (OpenSpec.ofChange rippleRunsWrong)

/-- 'downpourlaw14.RippleOnce': WHATEVER THE INPUT: true; the input reads as it did. -/
def rippleOnceSpec : ChangeSpec := { name := "rippleOnce", fn := fun _ => fun
  | [d] => { results := [.lit (.bool true)], args := [d] }
  | _ => none }
def rippleOnceRow : OpenClaim := { program := "ytmfjbmojejplgaa", sum := "67ff0cb8cd93edf78547837572ce1e8d5a2d52c4d721b15db03221d42f2d7edb", func := "downpour/downpourlaw14.RippleOnce", spec := "rippleOnce", unfollowed := true, recurses := true, apart := false }
def RippleOnceSaid : Prop := rippleOnceRow.holds Try.pinned (OpenSpec.ofChange rippleOnceSpec)

/-- ITS FALSE NEIGHBOUR: 'it returns false'. Refute it at one input. -/
def rippleOnceWrong : ChangeSpec := { name := "rippleOnce", fn := fun _ => fun
  | [d] => { results := [.lit (.bool false)], args := [d] }
  | _ => none }
def RippleOnceWrongFalsely : Prop := rippleOnceRow.holds Try.pinned (OpenSpec.ofChange rippleOnceWrong)

/-- 'downpourlaw14.RippleFirst': WHATEVER THE INPUT: true; the input reads as it did. -/
def rippleFirstSpec : ChangeSpec := { name := "rippleFirst", fn := fun _ => fun
  | [d1, d2, d3] => { results := [.lit (.bool true)], args := [d1, d2, d3] }
  | _ => none }
def rippleFirstRow : OpenClaim := { program := "ytmfjbmojejplgaa", sum := "67ff0cb8cd93edf78547837572ce1e8d5a2d52c4d721b15db03221d42f2d7edb", func := "downpour/downpourlaw14.RippleFirst", spec := "rippleFirst", unfollowed := true, recurses := true, apart := false }
def RippleFirstSaid : Prop := rippleFirstRow.holds Try.pinned (OpenSpec.ofChange rippleFirstSpec)

/-- ITS FALSE NEIGHBOUR: 'it returns false'. Refute it at one input. -/
def rippleFirstWrong : ChangeSpec := { name := "rippleFirst", fn := fun _ => fun
  | [d1, d2, d3] => { results := [.lit (.bool false)], args := [d1, d2, d3] }
  | _ => none }
def RippleFirstWrongFalsely : Prop := rippleFirstRow.holds Try.pinned (OpenSpec.ofChange rippleFirstWrong)

/- THE SECOND FORM. 'bulk': how many values and letters a reading holds, each counted each time it is reached (what is shared counts as often as it is met; a slice's spare places count too). A statement '..UptoSaid' is the law's where the arguments, and the package variables that the reading takes, are together of bulk at most 1048576: NARROWER than '..Said'. Prove '..Said' where nothing that the law and all that it calls make is longer than what came in: it says more and counts as full. Else prove '..UptoSaid'. A law counts once. -/
mutual
def uptoBulk {H : Type} : DataW H → Nat
  | .lit (.string bytes) => bytes.length + 1
  | .lit _ => 1
  | .nil => 1
  | .ptr d => uptoBulk d + 1
  | .slice elems spare => uptoBulkAll elems + uptoBulkAll spare + 1
  | .agg parts => uptoBulkAll parts + 1
  | .iface _ d => uptoBulk d + 1
  | .map entries => uptoBulkEntries entries + 1
  | .held _ => 1
def uptoBulkAll {H : Type} : List (DataW H) → Nat
  | [] => 0
  | d :: r => uptoBulk d + uptoBulkAll r
def uptoBulkEntries {H : Type} : List (Lit × DataW H) → Nat
  | [] => 0
  | x :: r => uptoBulkEntry x + uptoBulkEntries r
def uptoBulkEntry {H : Type} : Lit × DataW H → Nat
  | (.string bytes, d) => bytes.length + uptoBulk d + 1
  | (_, d) => uptoBulk d + 1
 end
def uptoSmall : (H : Type) → List (DataW H) → Bool := fun _ ds => decide (uptoBulkAll ds ≤ 1048576)
def OpenSpec.upto (s : _root_.Go.ChangeSpec) : _root_.Go.OpenSpec := { _root_.Go.OpenSpec.ofChange s with cond := some uptoSmall }

/-- 'downpourlaw14.RippleSorts', WHERE WHAT IT READS IS OF BULK AT MOST 1048576: true; the input reads as it did. -/
def rippleSortsUptoRow : OpenClaim := { program := "ytmfjbmojejplgaa", sum := "67ff0cb8cd93edf78547837572ce1e8d5a2d52c4d721b15db03221d42f2d7edb", func := "downpour/downpourlaw14.RippleSorts", spec := "rippleSorts", unfollowed := true, recurses := true, apart := false, narrowed := true }
def RippleSortsUptoSaid : Prop := rippleSortsUptoRow.holds Try.pinned (OpenSpec.upto rippleSortsSpec)

/-- 'downpourlaw14.RippleRuns', WHERE WHAT IT READS IS OF BULK AT MOST 1048576: true; the input reads as it did. -/
def rippleRunsUptoRow : OpenClaim := { program := "ytmfjbmojejplgaa", sum := "67ff0cb8cd93edf78547837572ce1e8d5a2d52c4d721b15db03221d42f2d7edb", func := "downpour/downpourlaw14.RippleRuns", spec := "rippleRuns", unfollowed := true, recurses := true, apart := false, narrowed := true }
def RippleRunsUptoSaid : Prop := rippleRunsUptoRow.holds Try.pinned (OpenSpec.upto rippleRunsSpec)

/-- 'downpourlaw14.RippleOnce', WHERE WHAT IT READS IS OF BULK AT MOST 1048576: true; the input reads as it did. -/
def rippleOnceUptoRow : OpenClaim := { program := "ytmfjbmojejplgaa", sum := "67ff0cb8cd93edf78547837572ce1e8d5a2d52c4d721b15db03221d42f2d7edb", func := "downpour/downpourlaw14.RippleOnce", spec := "rippleOnce", unfollowed := true, recurses := true, apart := false, narrowed := true }
def RippleOnceUptoSaid : Prop := rippleOnceUptoRow.holds Try.pinned (OpenSpec.upto rippleOnceSpec)

/-- 'downpourlaw14.RippleFirst', WHERE WHAT IT READS IS OF BULK AT MOST 1048576: true; the input reads as it did. -/
def rippleFirstUptoRow : OpenClaim := { program := "ytmfjbmojejplgaa", sum := "67ff0cb8cd93edf78547837572ce1e8d5a2d52c4d721b15db03221d42f2d7edb", func := "downpour/downpourlaw14.RippleFirst", spec := "rippleFirst", unfollowed := true, recurses := true, apart := false, narrowed := true }
def RippleFirstUptoSaid : Prop := rippleFirstUptoRow.holds Try.pinned (OpenSpec.upto rippleFirstSpec)

end Rows
end Go.Proofs.Ytmfjbmojejplgaa
