/- For every number of blocks and every row of symbols: their rows are the reference's, or refused by name (the statement NeighboursRows). No conditions. -/
import Derived.Test.YtbgikkeiapbghaaRows
import Derived.Test.YtbgikkeiapbghaaOpenV
import Derived.Test.YtbgikkeiapbghaaNrX
import Derived.ProofKit
import Derived.OpenShut
import Derived.ShutString
import Derived.ChangeOld
import Derived.Below
namespace Go.Proofs.Ytbgikkeiapbghaa.neighboursRows
open Go.ChangeShapes Go.WideShapes Go.ChangeAt Go.RowKit
open Go.ChangeMaps (open_string shut_string)
set_option linter.unusedVariables false
theorem own : ownKnob Try.prog.godebug = none := by kernel_rfl
theorem laidOut : laidOutB Try.prog = true := by kernel_rfl
theorem walk (k : Int) (B0 : Option Addr) (m0 d0 : Nat) (us0 : List Nat) {W' : World} (w0 : (Lit.int .i64 k).wf = true) (s0 : SliceOk B0 m0 d0) (ws0 : Words W' B0 m0 us0) (W : World) (hW : W = W' := by rfl) :
    Calls Try.prog 4 #[.int .i64 k, .slice B0 m0 d0] W fun e w' => e = .returned (.bool true) ∧ Below W.heap.size W w' := by
  subst hW
  by_cases hl : 64 < m0
  · exact nrows_long k B0 m0 d0 hl W
  · obtain ⟨hlc, hc, hn⟩ := s0
    by_cases hk : 1 ≤ k ∧ k ≤ 64
    · obtain ⟨m, rfl⟩ := Int.eq_ofNat_of_zero_le (show 0 ≤ k by omega)
      cases B0 with
      | none =>
        obtain ⟨rfl, rfl⟩ := hn rfl
        exact nrows_good0 m us0 (by omega) (by omega) W ws0
      | some ad =>
        by_cases h12 : m0 ≤ 12
        · exact nrows_good1 m ad m0 d0 h12 hlc hc us0 (by omega) (by omega) W ws0
        · exact nrows_good2 m ad m0 d0 (by omega) (by omega) hlc hc (us0.take 12) (by omega) (by omega) W (ws0.take 12 (by omega))
    · cases B0 with
      | none =>
        obtain ⟨rfl, rfl⟩ := hn rfl
        exact nrows_bad0 k hk W
      | some ad =>
        by_cases h12 : m0 ≤ 12
        · exact nrows_bad1 k ad m0 d0 h12 hlc hc hk W
        · exact nrows_bad2 k ad m0 d0 (by omega) (by omega) hlc hc hk W

set_option maxRecDepth 100000 in
theorem lifted (os : Os) (started : os.Started) (H : Type) (enc : TypeId × Value → H) :
    ReturnsInHanded {} Try.checked os 4 .any (Rows.neighboursRowsSpec.pre6 enc Try.prog Try.f4 Rows.neighboursRowsRow.domain false) (Rows.neighboursRowsSpec.post enc Try.prog Try.f4 false true false false) := by
  refine returnsInHanded_of_change (C := Try.checked) own started (by kernel_rfl) Try.func4
    (ChangeSpec.witness6 (enc := enc) (C := Try.checked) false ⟨#[], #[.int .i64 0, .slice none 0 0], []⟩ 8 (by kernel_rfl) (by kernel_rfl) (by kernel_rfl) (by kernel_rfl)) ?_
  intro W base args ds gs before hval0 hW hcnd _
  have hval : ∀ (j : Nat) t v, Try.f4.params[j]? = some t → args[j]? = some v → Value.okWide Try.prog W .any base t v := hval0
  have hW' := hW
  obtain ⟨p, q, hA0, hV, rfl, hfz, hnd⟩ := hW
  have hA : DataW.TrodAll enc Try.prog W 0 (fun _ => true) true Try.f4.params.toList args.toList ds p := hA0
  rw [Try.params4] at hA hval
  obtain ⟨v0, vs0, d0, ds0, p0, q0, hargs, rfl, rfl, h0, r0⟩ := trodAll_cons hA
  obtain ⟨v1, vs1, d1, ds1, p1, q1, rfl, rfl, rfl, h1, r1⟩ := trodAll_cons r0
  obtain ⟨rfl, rfl, rfl⟩ := trodAll_nil r1
  obtain rfl : args = #[v0, v1] := by cases args; simp_all
  obtain ⟨rfl, rfl⟩ := trodVars_none hV
  obtain ⟨a0, rfl, rfl, rfl, w0⟩ := open_int Try.underlying3 (hval 0 3 v0 rfl rfl) h0
  have k1 := h1
  have lt1 : ∀ x ∈ p1, x.block < W.heap.size := by obtain ⟨m, hm⟩ := k1; exact DataW.trod_lt m _ _ _ hm
  obtain ⟨fu1, hf1⟩ := h1
  obtain ⟨A1, l1, c1, us1, e1, s1, ws1⟩ := open_words hf1
  obtain ⟨B1, m1, d1, rfl⟩ := okWide_slice Try.underlying27 (hval 1 27 v1 rfl rfl)
  simp [Value.cells] at e1
  obtain ⟨rfl, rfl, rfl⟩ := e1
  clear hA0 hval0
  refine (walk a0 B1 m1 d1 us1 w0 s1 ws1 W).mono fun e W' ⟨he, bel⟩ => ?_
  subst he
  exact ⟨_, rfl, _, _, _, [], _, [], hW', trodAll_mk1 (shut_bool Try.underlying4 _), (trodAll_cons_mk (shut_int Try.underlying3 w0) (trodAll_cons_mk (Below.trod laidOut (by kernel_rfl) (of_decide_eq_true (by kernel_rfl)) k1 bel lt1) trodAll_mk0)), rfl, bel.frame _, fun h => by cases h⟩

theorem over : Rows.neighboursRowsRow.holds Try.pinned (OpenSpec.ofChange Rows.neighboursRowsSpec) :=
  OpenClaim.holds_of_wide 4 Try.f4 rfl rfl rfl rfl rfl rfl rfl ⟨rfl, rfl, rfl, rfl, rfl⟩ rfl rfl rfl rfl rfl (by kernel_rfl) Try.func4 (by kernel_rfl)
    (of_decide_eq_true (by kernel_rfl)) (by unfold Func.isWrapper; first | (rw [if_pos (by decide +kernel)]; kernel_rfl) | (rw [if_neg (by decide +kernel)]; exact ⟨rfl, rfl⟩))
    (fun os started H enc _ => lifted os started H enc)

theorem proved : Rows.NeighboursRowsSaid := over
#print axioms proved
end Go.Proofs.Ytbgikkeiapbghaa.neighboursRows
