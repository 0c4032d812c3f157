/- How a datagram (a struct with a struct in it) that came in is opened. -/
import Derived.Test.YthihcdocfcfnkaaDg1
import Derived.ProofKit
import Derived.OpenShut
import Derived.ShutString
import Derived.Lib.SmallJoins
namespace Go.Proofs.Ythihcdocfcfnkaa
open Go.RowKit Go.Joins Go.ChangeShapes Go.WideShapes
theorem cellsDg : Try.prog.cellsOf 39 = 5 := by kernel_rfl
theorem array5 {α : Type} {cs : Array α} (h : cs.size = 5) : ∃ c0 c1 c2 c3 c4, cs = #[c0, c1, c2, c3, c4] := by
  obtain ⟨l⟩ := cs
  match l, h with
  | [c0, c1, c2, c3, c4], _ => exact ⟨c0, c1, c2, c3, c4, rfl⟩
theorem open_dg {H : Type} {enc : TypeId × Value → H} {W : World} {r : Reach} {b0 : Nat} {v : Value} {d : DataW H} {p : List MemPlace}
    (hv : Value.okWide Try.prog W r b0 39 v) (h : DataW.Trod enc Try.prog W 0 (fun _ => true) true 39 v d p) :
    ∃ (o : Int) (k z : Int) (i : Int) (s : ByteArray), v = dgV o k z i s ∧ (Lit.int .u64 o).wf = true ∧ (Lit.int .i64 k).wf = true ∧ (Lit.int .i64 z).wf = true ∧ (Lit.int .u64 i).wf = true ∧ s.size ≤ maxLen := by
  obtain ⟨cs, rfl, hsz⟩ := okWide_struct Try.underlying39 hv
  obtain ⟨c0, c1, c2, c3, c4, rfl⟩ := array5 (hsz.trans cellsDg)
  obtain ⟨fuel, hf⟩ := h
  obtain ⟨y0, y1, y2, y3, n, hx, _, h0, h1, h2, h3⟩ := trod_struct4 Try.underlying39 hf
  have e64 : Try.prog.cellsOf 35 = 1 := by kernel_rfl
  have eint : Try.prog.cellsOf 3 = 1 := by kernel_rfl
  have esym : Try.prog.cellsOf 37 = 2 := by kernel_rfl
  have estr : Try.prog.cellsOf 9 = 1 := by kernel_rfl
  simp [Value.cells, e64, eint, esym] at h0 h1 h2 h3
  obtain ⟨z0, z1, n', hx', _, g0, g1⟩ := trod_struct2 Try.underlying37 h3
  simp [e64, estr] at g0 g1
  obtain ⟨a0, e0, -, w0⟩ := DataW.trod_int Try.underlying35 h0
  obtain ⟨a1, e1, -, w1⟩ := DataW.trod_int Try.underlying3 h1
  obtain ⟨a2, e2, -, w2⟩ := DataW.trod_int Try.underlying3 h2
  obtain ⟨a3, e3, -, w3⟩ := DataW.trod_int Try.underlying35 g0
  obtain ⟨a4, e4, -, w4⟩ := DataW.trod_string Try.underlying9 g1
  simp at e0 e1 e2 e3 e4
  subst e0 e1 e2 e3 e4
  exact ⟨a0, a1, a2, a3, a4, rfl, w0, w1, w2, w3, w4⟩
end Go.Proofs.Ythihcdocfcfnkaa
