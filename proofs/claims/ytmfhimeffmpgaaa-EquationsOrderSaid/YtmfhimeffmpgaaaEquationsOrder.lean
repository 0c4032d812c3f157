/- two symbols that come in either order make stores of the same rank and bytes; the rank is not more than how many symbols there are (the statement EquationsOrder). No conditions. -/
import Derived.Test.YtmfhimeffmpgaaaZl
import Derived.Test.YtmfhimeffmpgaaaEoX
import Derived.ProofKit
import Derived.OpenShut
import Derived.ShutString
import Derived.ChangeOld
import Derived.Below
namespace Go.Proofs.Ytmfhimeffmpgaaa.equationsOrder
set_option linter.unusedVariables false
set_option linter.unusedSimpArgs false
open Go.ChangeShapes Go.WideShapes Go.ChangeAt Go.RowKit
open Go.ChangeMaps (open_string shut_string)
set_option linter.unusedVariables false
theorem own : ownKnob Try.prog.godebug = none := by kernel_rfl
theorem laidOut : laidOutB Try.prog = true := by kernel_rfl
theorem walk (k1 s1 c1 : Int) (A1 : Option Addr) (l1 d1 : Nat) (xs1 : List SymR) (id : Nat) (dt : ByteArray) (id2 : Nat) (dy : ByteArray) {W' : World}
    (z1 : SliceOk A1 l1 d1) (h1 : Syms W' A1 l1 xs1) (hid : ∀ j, (xs1.getD j default).1 < 18446744073709551616) (_ : (Lit.int .i64 k1).wf = true) (_ : (Lit.int .i64 s1).wf = true) (_ : (Lit.int .i64 c1).wf = true)
    (hi2 : id < 18446744073709551616) (_ : dt.size ≤ maxLen) (hi3 : id2 < 18446744073709551616) (_ : dy.size ≤ maxLen) (W : World) (hW : W = W' := by rfl) :
    Calls Try.prog 5 #[.agg #[.int .i64 k1, .int .i64 s1, .int .i64 c1, .slice A1 l1 d1], .agg #[.int .u64 (id : Int), .string dt], .agg #[.int .u64 (id2 : Int), .string dy]] W fun e w' => e = .returned (.bool true) ∧ Below W.heap.size W w' := by
  subst hW
  exact eqord_walk k1 s1 c1 A1 l1 d1 xs1 id dt id2 dy W z1 h1 hid hi2 hi3

set_option maxRecDepth 100000 in
theorem lifted (os : Os) (started : os.Started) (H : Type) (enc : TypeId × Value → H) :
    ReturnsInHanded {} Try.checked os 5 .any (Rows.equationsOrderSpec.pre6 enc Try.prog Try.f5 Rows.equationsOrderRow.domain false) (Rows.equationsOrderSpec.post enc Try.prog Try.f5 false true false false) := by
  refine returnsInHanded_of_change (C := Try.checked) own started (by kernel_rfl) Try.func5
    (ChangeSpec.witness6 (enc := enc) (C := Try.checked) false ⟨#[], #[.agg #[.int .i64 0, .int .i64 0, .int .i64 0, .slice none 0 0], .agg #[.int .u64 0, .string ByteArray.empty], .agg #[.int .u64 0, .string ByteArray.empty]], []⟩ 8 (by kernel_rfl) (by kernel_rfl) (by kernel_rfl) (by kernel_rfl)) ?_
  intro W base args ds gs before hval0 hW hcnd _
  have hval : ∀ (j : Nat) t v, Try.f5.params[j]? = some t → args[j]? = some v → Value.okWide Try.prog W .any base t v := hval0
  have hW' := hW
  obtain ⟨p, q, hA0, hV, rfl, hfz, hnd⟩ := hW
  have hA : DataW.TrodAll enc Try.prog W 0 (fun _ => true) true Try.f5.params.toList args.toList ds p := hA0
  rw [Try.params5] at hA hval
  obtain ⟨v0, vs0, d0, ds0, p0, q0, hargs, rfl, rfl, h0, r0⟩ := trodAll_cons hA
  obtain ⟨v1, vs1, d1, ds1, p1, q1, rfl, rfl, rfl, h1, r1⟩ := trodAll_cons r0
  obtain ⟨v2, vs2, d2, ds2, p2, q2, rfl, rfl, rfl, h2, r2⟩ := trodAll_cons r1
  obtain ⟨rfl, rfl, rfl⟩ := trodAll_nil r2
  obtain rfl : args = #[v0, v1, v2] := by cases args; simp_all
  obtain ⟨rfl, rfl⟩ := trodVars_none hV
  have k0 := h0
  have lt0 : ∀ x ∈ p0, x.block < W.heap.size := by obtain ⟨m, hm⟩ := k0; exact DataW.trod_lt m _ _ _ hm
  obtain ⟨sk0, ss0, sc0, A0, l0, n0, xs0, rfl, wk0, ws0, wc0, so0, hx0, hb0⟩ := open_store (hval 0 24 v0 rfl rfl) h0
  have k1 := h1
  have lt1 : ∀ x ∈ p1, x.block < W.heap.size := by obtain ⟨m, hm⟩ := k1; exact DataW.trod_lt m _ _ _ hm
  obtain ⟨y1, t1, rfl, yb1, tb1⟩ := open_sym (hval 1 27 v1 rfl rfl) h1
  have k2 := h2
  have lt2 : ∀ x ∈ p2, x.block < W.heap.size := by obtain ⟨m, hm⟩ := k2; exact DataW.trod_lt m _ _ _ hm
  obtain ⟨y2, t2, rfl, yb2, tb2⟩ := open_sym (hval 2 27 v2 rfl rfl) h2
  clear hA0 hval0
  refine (walk sk0 ss0 sc0 A0 l0 n0 xs0 y1 t1 y2 t2 so0 hx0 hb0 wk0 ws0 wc0 yb1 tb1 yb2 tb2 W).mono fun e W' ⟨he, bel⟩ => ?_
  subst he
  exact ⟨_, rfl, _, _, _, [], _, [], hW', trodAll_mk1 (shut_bool Try.underlying4 _), (trodAll_cons_mk (Below.trod laidOut (by kernel_rfl) (of_decide_eq_true (by kernel_rfl)) k0 bel lt0) (trodAll_cons_mk (Below.trod laidOut (by kernel_rfl) (of_decide_eq_true (by kernel_rfl)) k1 bel lt1) (trodAll_cons_mk (Below.trod laidOut (by kernel_rfl) (of_decide_eq_true (by kernel_rfl)) k2 bel lt2) trodAll_mk0))), rfl, bel.frame _, fun h => by cases h⟩

theorem over : Rows.equationsOrderRow.holds Try.pinned (OpenSpec.ofChange Rows.equationsOrderSpec) :=
  OpenClaim.holds_of_wide 5 Try.f5 rfl rfl rfl rfl rfl rfl rfl ⟨rfl, rfl, rfl, rfl, rfl⟩ rfl rfl rfl rfl rfl (by kernel_rfl) Try.func5 (by kernel_rfl)
    (of_decide_eq_true (by kernel_rfl)) (by unfold Func.isWrapper; first | (rw [if_pos (by decide +kernel)]; kernel_rfl) | (rw [if_neg (by decide +kernel)]; exact ⟨rfl, rfl⟩))
    (fun os started H enc _ => lifted os started H enc)

theorem proved : Rows.EquationsOrderSaid := over
#print axioms proved
end Go.Proofs.Ytmfhimeffmpgaaa.equationsOrder
