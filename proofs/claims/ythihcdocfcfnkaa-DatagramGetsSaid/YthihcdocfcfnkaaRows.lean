/-
  No cell of these rows narrows 'for every input' (looked for: loops, veiled, ifaces, maps, wideKeys, modest, calm, conditions, laid).
  DERIVED. THE GIVEN ROWS OF THIS SEAT. 7 by the template 'for every input the law returns true; each argument reads behind the call as it read before'; 0 by the template 'total and deterministic' (their statements: YthihcdocfcfnkaaTotals.lean).
  GIVEN WITH THE SEED: the statements are not yours to turn. If you find one false, say at which input.
  Laid BY PROGRAM, IN A SANDBOX (cutbox-rows.mjs): the forced cells as the released guide's own fill.sh prints them over the translation c8be075c14324e64… (all of the seat's roots in one cut). By AI agents, Wed Nov 11 2026. No macro, syntax, notation, axiom, sorry.
-/
import Derived.Test.YthihcdocfcfnkaaChecked
import GoSem.Claim
import GoSem.ClaimJoined
import GoSem.ClaimMapViews
import Derived.JoinedTies
import Derived.KernelRfl
namespace Go.Proofs.Ythihcdocfcfnkaa
/- THE CELL 'sum', in the pinned program and in every row, IS THE sha256 OF THE DUMP (.gsa) THAT YthihcdocfcfnkaaProg.lean LOADS. Nothing in Lean hashes anything: it is a label: what it is worth is what the hold of that sum in a sandbox is worth. -/
noncomputable def Try.pinned : Pinned := { name := "ythihcdocfcfnkaa", sum := "c8be075c14324e64b03edae8c3460b4154de76109b9daf0519107b70f66513cc", checked := Try.checked }
namespace Rows
def none {H : Type} : Left H := { results := [], args := [] }

/-- 'downpourlaw10.CrcSums': WHATEVER THE INPUT: true; the input reads as it did. -/
def crcSumsSpec : ChangeSpec := { name := "crcSums", fn := fun _ => fun
  | [d1, d2] => { results := [.lit (.bool true)], args := [d1, d2] }
  | _ => none }
def crcSumsRow : OpenClaim := { program := "ythihcdocfcfnkaa", sum := "c8be075c14324e64b03edae8c3460b4154de76109b9daf0519107b70f66513cc", func := "downpour/downpourlaw10.CrcSums", spec := "crcSums", apart := false }
def CrcSumsSaid : Prop := crcSumsRow.holds Try.pinned (OpenSpec.ofChange crcSumsSpec)

/-- ITS FALSE NEIGHBOUR: 'it returns false'. Refute it at one input. -/
def crcSumsWrong : ChangeSpec := { name := "crcSums", fn := fun _ => fun
  | [d1, d2] => { results := [.lit (.bool false)], args := [d1, d2] }
  | _ => none }
def CrcSumsWrongFalsely : Prop := crcSumsRow.holds Try.pinned (OpenSpec.ofChange crcSumsWrong)

/-- 'downpourlaw10.CrcOpens': WHATEVER THE INPUT: true; the input reads as it did. -/
def crcOpensSpec : ChangeSpec := { name := "crcOpens", fn := fun _ => fun
  | [d] => { results := [.lit (.bool true)], args := [d] }
  | _ => none }
def crcOpensRow : OpenClaim := { program := "ythihcdocfcfnkaa", sum := "c8be075c14324e64b03edae8c3460b4154de76109b9daf0519107b70f66513cc", func := "downpour/downpourlaw10.CrcOpens", spec := "crcOpens", apart := false }
def CrcOpensSaid : Prop := crcOpensRow.holds Try.pinned (OpenSpec.ofChange crcOpensSpec)

/-- ITS FALSE NEIGHBOUR: 'it returns false'. Refute it at one input. -/
def crcOpensWrong : ChangeSpec := { name := "crcOpens", fn := fun _ => fun
  | [d] => { results := [.lit (.bool false)], args := [d] }
  | _ => none }
def CrcOpensWrongFalsely : Prop := crcOpensRow.holds Try.pinned (OpenSpec.ofChange crcOpensWrong)

/-- 'downpourlaw10.CrcBursts': WHATEVER THE INPUT: true; the input reads as it did. -/
def crcBurstsSpec : ChangeSpec := { name := "crcBursts", fn := fun _ => fun
  | [d1, d2, d3, d4] => { results := [.lit (.bool true)], args := [d1, d2, d3, d4] }
  | _ => none }
def crcBurstsRow : OpenClaim := { program := "ythihcdocfcfnkaa", sum := "c8be075c14324e64b03edae8c3460b4154de76109b9daf0519107b70f66513cc", func := "downpour/downpourlaw10.CrcBursts", spec := "crcBursts", apart := false }
def CrcBurstsSaid : Prop := crcBurstsRow.holds Try.pinned (OpenSpec.ofChange crcBurstsSpec)

/-- ITS FALSE NEIGHBOUR: 'it returns false'. Refute it at one input. -/
def crcBurstsWrong : ChangeSpec := { name := "crcBursts", fn := fun _ => fun
  | [d1, d2, d3, d4] => { results := [.lit (.bool false)], args := [d1, d2, d3, d4] }
  | _ => none }
def CrcBurstsWrongFalsely : Prop := crcBurstsRow.holds Try.pinned (OpenSpec.ofChange crcBurstsWrong)

/-- 'downpourlaw10.CrcParts': WHATEVER THE INPUT: true; the input reads as it did. -/
def crcPartsSpec : ChangeSpec := { name := "crcParts", fn := fun _ => fun
  | [d1, d2, d3, d4] => { results := [.lit (.bool true)], args := [d1, d2, d3, d4] }
  | _ => none }
def crcPartsRow : OpenClaim := { program := "ythihcdocfcfnkaa", sum := "c8be075c14324e64b03edae8c3460b4154de76109b9daf0519107b70f66513cc", func := "downpour/downpourlaw10.CrcParts", spec := "crcParts", apart := false }
def CrcPartsSaid : Prop := crcPartsRow.holds Try.pinned (OpenSpec.ofChange crcPartsSpec)

/-- ITS FALSE NEIGHBOUR: 'it returns false'. Refute it at one input. -/
def crcPartsWrong : ChangeSpec := { name := "crcParts", fn := fun _ => fun
  | [d1, d2, d3, d4] => { results := [.lit (.bool false)], args := [d1, d2, d3, d4] }
  | _ => none }
def CrcPartsWrongFalsely : Prop := crcPartsRow.holds Try.pinned (OpenSpec.ofChange crcPartsWrong)

/-- 'downpourlaw11.DatagramPuts': WHATEVER THE INPUT: true; the input reads as it did. -/
def datagramPutsSpec : ChangeSpec := { name := "datagramPuts", fn := fun _ => fun
  | [d] => { results := [.lit (.bool true)], args := [d] }
  | _ => none }
def datagramPutsRow : OpenClaim := { program := "ythihcdocfcfnkaa", sum := "c8be075c14324e64b03edae8c3460b4154de76109b9daf0519107b70f66513cc", func := "downpour/downpourlaw11.DatagramPuts", spec := "datagramPuts", apart := false }
def DatagramPutsSaid : Prop := datagramPutsRow.holds Try.pinned (OpenSpec.ofChange datagramPutsSpec)

/-- ITS FALSE NEIGHBOUR: 'it returns false'. Refute it at one input. -/
def datagramPutsWrong : ChangeSpec := { name := "datagramPuts", fn := fun _ => fun
  | [d] => { results := [.lit (.bool false)], args := [d] }
  | _ => none }
def DatagramPutsWrongFalsely : Prop := datagramPutsRow.holds Try.pinned (OpenSpec.ofChange datagramPutsWrong)

/-- 'downpourlaw11.DatagramGets': WHATEVER THE INPUT: true; the input reads as it did. -/
def datagramGetsSpec : ChangeSpec := { name := "datagramGets", fn := fun _ => fun
  | [d] => { results := [.lit (.bool true)], args := [d] }
  | _ => none }
def datagramGetsRow : OpenClaim := { program := "ythihcdocfcfnkaa", sum := "c8be075c14324e64b03edae8c3460b4154de76109b9daf0519107b70f66513cc", func := "downpour/downpourlaw11.DatagramGets", spec := "datagramGets", unfollowed := true, recurses := true, apart := false }
def DatagramGetsSaid : Prop := datagramGetsRow.holds Try.pinned (OpenSpec.ofChange datagramGetsSpec)

/-- ITS FALSE NEIGHBOUR: 'it returns false'. Refute it at one input. -/
def datagramGetsWrong : ChangeSpec := { name := "datagramGets", fn := fun _ => fun
  | [d] => { results := [.lit (.bool false)], args := [d] }
  | _ => none }
def DatagramGetsWrongFalsely : Prop := datagramGetsRow.holds Try.pinned (OpenSpec.ofChange datagramGetsWrong)

/-- 'downpourlaw11.DatagramBack': WHATEVER THE INPUT: true; the input reads as it did. -/
def datagramBackSpec : ChangeSpec := { name := "datagramBack", fn := fun _ => fun
  | [d1, d2, d3] => { results := [.lit (.bool true)], args := [d1, d2, d3] }
  | _ => none }
def datagramBackRow : OpenClaim := { program := "ythihcdocfcfnkaa", sum := "c8be075c14324e64b03edae8c3460b4154de76109b9daf0519107b70f66513cc", func := "downpour/downpourlaw11.DatagramBack", spec := "datagramBack", unfollowed := true, recurses := true, apart := false }
def DatagramBackSaid : Prop := datagramBackRow.holds Try.pinned (OpenSpec.ofChange datagramBackSpec)

/-- ITS FALSE NEIGHBOUR: 'it returns false'. Refute it at one input. -/
def datagramBackWrong : ChangeSpec := { name := "datagramBack", fn := fun _ => fun
  | [d1, d2, d3] => { results := [.lit (.bool false)], args := [d1, d2, d3] }
  | _ => none }
def DatagramBackWrongFalsely : Prop := datagramBackRow.holds Try.pinned (OpenSpec.ofChange datagramBackWrong)

/- THE SECOND FORM. 'bulk': how many values and letters a reading holds, each counted each time it is reached (what is shared counts as often as it is met; a slice's spare places count too). A statement '..UptoSaid' is the law's where the arguments, and the package variables that the reading takes, are together of bulk at most 1048576: NARROWER than '..Said'. Prove '..Said' where nothing that the law and all that it calls make is longer than what came in: it says more and counts as full. Else prove '..UptoSaid'. A law counts once. -/
mutual
def uptoBulk {H : Type} : DataW H → Nat
  | .lit (.string bytes) => bytes.length + 1
  | .lit _ => 1
  | .nil => 1
  | .ptr d => uptoBulk d + 1
  | .slice elems spare => uptoBulkAll elems + uptoBulkAll spare + 1
  | .agg parts => uptoBulkAll parts + 1
  | .iface _ d => uptoBulk d + 1
  | .map entries => uptoBulkEntries entries + 1
  | .held _ => 1
def uptoBulkAll {H : Type} : List (DataW H) → Nat
  | [] => 0
  | d :: r => uptoBulk d + uptoBulkAll r
def uptoBulkEntries {H : Type} : List (Lit × DataW H) → Nat
  | [] => 0
  | x :: r => uptoBulkEntry x + uptoBulkEntries r
def uptoBulkEntry {H : Type} : Lit × DataW H → Nat
  | (.string bytes, d) => bytes.length + uptoBulk d + 1
  | (_, d) => uptoBulk d + 1
 end
def uptoSmall : (H : Type) → List (DataW H) → Bool := fun _ ds => decide (uptoBulkAll ds ≤ 1048576)
def OpenSpec.upto (s : _root_.Go.ChangeSpec) : _root_.Go.OpenSpec := { _root_.Go.OpenSpec.ofChange s with cond := some uptoSmall }

/-- 'downpourlaw10.CrcSums', WHERE WHAT IT READS IS OF BULK AT MOST 1048576: true; the input reads as it did. -/
def crcSumsUptoRow : OpenClaim := { program := "ythihcdocfcfnkaa", sum := "c8be075c14324e64b03edae8c3460b4154de76109b9daf0519107b70f66513cc", func := "downpour/downpourlaw10.CrcSums", spec := "crcSums", apart := false, narrowed := true }
def CrcSumsUptoSaid : Prop := crcSumsUptoRow.holds Try.pinned (OpenSpec.upto crcSumsSpec)

/-- 'downpourlaw10.CrcOpens', WHERE WHAT IT READS IS OF BULK AT MOST 1048576: true; the input reads as it did. -/
def crcOpensUptoRow : OpenClaim := { program := "ythihcdocfcfnkaa", sum := "c8be075c14324e64b03edae8c3460b4154de76109b9daf0519107b70f66513cc", func := "downpour/downpourlaw10.CrcOpens", spec := "crcOpens", apart := false, narrowed := true }
def CrcOpensUptoSaid : Prop := crcOpensUptoRow.holds Try.pinned (OpenSpec.upto crcOpensSpec)

/-- 'downpourlaw10.CrcBursts', WHERE WHAT IT READS IS OF BULK AT MOST 1048576: true; the input reads as it did. -/
def crcBurstsUptoRow : OpenClaim := { program := "ythihcdocfcfnkaa", sum := "c8be075c14324e64b03edae8c3460b4154de76109b9daf0519107b70f66513cc", func := "downpour/downpourlaw10.CrcBursts", spec := "crcBursts", apart := false, narrowed := true }
def CrcBurstsUptoSaid : Prop := crcBurstsUptoRow.holds Try.pinned (OpenSpec.upto crcBurstsSpec)

/-- 'downpourlaw10.CrcParts', WHERE WHAT IT READS IS OF BULK AT MOST 1048576: true; the input reads as it did. -/
def crcPartsUptoRow : OpenClaim := { program := "ythihcdocfcfnkaa", sum := "c8be075c14324e64b03edae8c3460b4154de76109b9daf0519107b70f66513cc", func := "downpour/downpourlaw10.CrcParts", spec := "crcParts", apart := false, narrowed := true }
def CrcPartsUptoSaid : Prop := crcPartsUptoRow.holds Try.pinned (OpenSpec.upto crcPartsSpec)

/-- 'downpourlaw11.DatagramPuts', WHERE WHAT IT READS IS OF BULK AT MOST 1048576: true; the input reads as it did. -/
def datagramPutsUptoRow : OpenClaim := { program := "ythihcdocfcfnkaa", sum := "c8be075c14324e64b03edae8c3460b4154de76109b9daf0519107b70f66513cc", func := "downpour/downpourlaw11.DatagramPuts", spec := "datagramPuts", apart := false, narrowed := true }
def DatagramPutsUptoSaid : Prop := datagramPutsUptoRow.holds Try.pinned (OpenSpec.upto datagramPutsSpec)

/-- 'downpourlaw11.DatagramGets', WHERE WHAT IT READS IS OF BULK AT MOST 1048576: true; the input reads as it did. -/
def datagramGetsUptoRow : OpenClaim := { program := "ythihcdocfcfnkaa", sum := "c8be075c14324e64b03edae8c3460b4154de76109b9daf0519107b70f66513cc", func := "downpour/downpourlaw11.DatagramGets", spec := "datagramGets", unfollowed := true, recurses := true, apart := false, narrowed := true }
def DatagramGetsUptoSaid : Prop := datagramGetsUptoRow.holds Try.pinned (OpenSpec.upto datagramGetsSpec)

/-- 'downpourlaw11.DatagramBack', WHERE WHAT IT READS IS OF BULK AT MOST 1048576: true; the input reads as it did. -/
def datagramBackUptoRow : OpenClaim := { program := "ythihcdocfcfnkaa", sum := "c8be075c14324e64b03edae8c3460b4154de76109b9daf0519107b70f66513cc", func := "downpour/downpourlaw11.DatagramBack", spec := "datagramBack", unfollowed := true, recurses := true, apart := false, narrowed := true }
def DatagramBackUptoSaid : Prop := datagramBackUptoRow.holds Try.pinned (OpenSpec.upto datagramBackSpec)

end Rows
end Go.Proofs.Ythihcdocfcfnkaa
