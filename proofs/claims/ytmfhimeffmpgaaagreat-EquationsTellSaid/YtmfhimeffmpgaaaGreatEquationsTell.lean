/- any store's matrix, sums, rank, and how many bytes it has, are as the document says, or refused (the statement EquationsTell). No conditions. -/
import Derived.Test.YtmfhimeffmpgaaaGreatZk
import Derived.ProofKit
import Derived.OpenShut
import Derived.ShutString
import Derived.ChangeOld
import Derived.Below
namespace Go.Proofs.YtmfhimeffmpgaaaGreat.equationsTell
set_option linter.unusedVariables false
set_option linter.unusedSimpArgs false
open Go.ChangeShapes Go.WideShapes Go.ChangeAt Go.RowKit
open Go.ChangeMaps (open_string shut_string)
set_option linter.unusedVariables false
theorem own : ownKnob Tryz.prog.godebug = none := by kernel_rfl
theorem laidOut : laidOutB Tryz.prog = true := by kernel_rfl
theorem walk (k1 s1 c1 : Int) (A1 : Option Addr) (l1 d1 : Nat) (xs1 : List SymR) {W' : World}
    (z1 : SliceOk A1 l1 d1) (h1 : Syms W' A1 l1 xs1) (hid : ∀ j, (xs1.getD j default).1 < 18446744073709551616) (_ : (Lit.int .i64 k1).wf = true) (_ : (Lit.int .i64 s1).wf = true) (_ : (Lit.int .i64 c1).wf = true) (W : World) (hW : W = W' := by rfl) :
    Calls Tryz.prog 3 #[.agg #[.int .i64 k1, .int .i64 s1, .int .i64 c1, .slice A1 l1 d1]] W fun e w' => e = .returned (.bool true) ∧ Below W.heap.size W w' := by
  subst hW
  exact eqtell_walk k1 s1 c1 A1 l1 d1 xs1 W z1 h1 hid

set_option maxRecDepth 100000 in
theorem lifted (os : Os) (started : os.Started) (H : Type) (enc : TypeId × Value → H) :
    ReturnsInHanded {} Tryz.checked os 3 .any (Rows.equationsTellSpec.pre6 enc Tryz.prog Tryz.f3 Rows.equationsTellRow.domain false) (Rows.equationsTellSpec.post enc Tryz.prog Tryz.f3 false true false false) := by
  refine returnsInHanded_of_change (C := Tryz.checked) own started (by kernel_rfl) Tryz.func3
    (ChangeSpec.witness6 (enc := enc) (C := Tryz.checked) false ⟨#[], #[.agg #[.int .i64 0, .int .i64 0, .int .i64 0, .slice none 0 0]], []⟩ 8 (by kernel_rfl) (by kernel_rfl) (by kernel_rfl) (by kernel_rfl)) ?_
  intro W base args ds gs before hval0 hW hcnd _
  have hval : ∀ (j : Nat) t v, Tryz.f3.params[j]? = some t → args[j]? = some v → Value.okWide Tryz.prog W .any base t v := hval0
  have hW' := hW
  obtain ⟨p, q, hA0, hV, rfl, hfz, hnd⟩ := hW
  have hA : DataW.TrodAll enc Tryz.prog W 0 (fun _ => true) true Tryz.f3.params.toList args.toList ds p := hA0
  rw [Tryz.params3] at hA hval
  obtain ⟨v0, vs0, d0, ds0, p0, q0, hargs, rfl, rfl, h0, r0⟩ := trodAll_cons hA
  obtain ⟨rfl, rfl, rfl⟩ := trodAll_nil r0
  obtain rfl : args = #[v0] := by cases args; simp_all
  obtain ⟨rfl, rfl⟩ := trodVars_none hV
  have k0 := h0
  have lt0 : ∀ x ∈ p0, x.block < W.heap.size := by obtain ⟨m, hm⟩ := k0; exact DataW.trod_lt m _ _ _ hm
  obtain ⟨sk0, ss0, sc0, A0, l0, n0, xs0, rfl, wk0, ws0, wc0, so0, hx0, hb0⟩ := open_store (hval 0 24 v0 rfl rfl) h0
  clear hA0 hval0
  refine (walk sk0 ss0 sc0 A0 l0 n0 xs0 so0 hx0 hb0 wk0 ws0 wc0 W).mono fun e W' ⟨he, bel⟩ => ?_
  subst he
  exact ⟨_, rfl, _, _, _, [], _, [], hW', trodAll_mk1 (shut_bool Tryz.underlying4 _), (trodAll_cons_mk (Below.trod laidOut (by kernel_rfl) (of_decide_eq_true (by kernel_rfl)) k0 bel lt0) trodAll_mk0), rfl, bel.frame _, fun h => by cases h⟩

theorem over : Rows.equationsTellRow.holds Tryz.pinned (OpenSpec.ofChange Rows.equationsTellSpec) :=
  OpenClaim.holds_of_wide 3 Tryz.f3 rfl rfl rfl rfl rfl rfl rfl ⟨rfl, rfl, rfl, rfl, rfl⟩ rfl rfl rfl rfl rfl (by kernel_rfl) Tryz.func3 (by kernel_rfl)
    (of_decide_eq_true (by kernel_rfl)) (by unfold Func.isWrapper; first | (rw [if_pos (by decide +kernel)]; kernel_rfl) | (rw [if_neg (by decide +kernel)]; exact ⟨rfl, rfl⟩))
    (fun os started H enc _ => lifted os started H enc)

theorem proved : Rows.EquationsTellSaid := over
#print axioms proved
end Go.Proofs.YtmfhimeffmpgaaaGreat.equationsTell
