/- Layer 20: the reference's Step, whole. -/
import Derived.Test.YtcamoigcfiemhaaScT
import Derived.Test.YtcamoigcfiemhaaScU
namespace Go.Proofs.Ytcamoigcfiemhaa
set_option linter.unusedVariables false
set_option linter.unusedSimpArgs false
open Go.RowKit Go.Lib
set_option maxRecDepth 100000
set_option maxHeartbeats 16000000 in
theorem refStepF_any (M : Nat → Prop) (w0 w : World) (s : Sys) (A0 : Option Addr) (l0 c0 : Nat) (A1 : Option Addr) (l1 c1 : Nat) (A2 : Option Addr) (l2 c2 : Nat) (A3 : Option Addr) (l3 c3 : Nat) (A4 : Option Addr) (l4 c4 : Nat) (A5 : Option Addr) (l5 c5 : Nat) (h : PF M w0 w s A0 l0 c0 A1 l1 c1 A2 l2 c2 A3 l3 c3 A4 l4 c4 A5 l5 c5) (hB0 : Below w0.heap.size w0 w) (hM : ∀ g, M g → g < w.heap.size) (k : Nat) (hwr : WR k s) (hk : k ≤ 900) (t : Nat) (ht : t < s.th.length) (hc : canS s t = true) : Calls Try.prog 24 #[.agg #[.slice A0 l0 c0, .slice A1 l1 c1, .slice A2 l2 c2, .slice A3 l3 c3, .slice A4 l4 c4, .slice A5 l5 c5], .int .i64 (t : Int)] w (StepF M w0 w (stepS s t) A0 l0 c0) := by
  have hE : endS s t = false := by cases e : endS s t with | false => rfl | true => simp [canS, e] at hc
  obtain ⟨hlt, hin⟩ := hwr.next ht hE
  obtain ⟨i0, i1, -⟩ := inB_parts hin
  by_cases q : (insAt s t).1 ≤ 2
  · exact refStep3_any M w0 w s A0 l0 c0 A1 l1 c1 A2 l2 c2 A3 l3 c3 A4 l4 c4 A5 l5 c5 h hB0 hM k hwr hk t ht hc q
  · by_cases q3 : (insAt s t).1 = 3
    · exact refStep3x_any M w0 w s A0 l0 c0 A1 l1 c1 A2 l2 c2 A3 l3 c3 A4 l4 c4 A5 l5 c5 h hB0 hM k hwr hk t ht hc q3
    · exact refStep4_any M w0 w s A0 l0 c0 A1 l1 c1 A2 l2 c2 A3 l3 c3 A4 l4 c4 A5 l5 c5 h hB0 hM k hwr hk t ht hc (by omega)
theorem PF.none {w : World} {v : Value} {s : Sys} (h : SysAt w v s) (M : Nat → Prop) (hM : ∀ g, M g → w.heap.size ≤ g) : ∃ A0 l0 c0 A1 l1 c1 A2 l2 c2 A3 l3 c3 A4 l4 c4 A5 l5 c5, v = .agg #[.slice A0 l0 c0, .slice A1 l1 c1, .slice A2 l2 c2, .slice A3 l3 c3, .slice A4 l4 c4, .slice A5 l5 c5] ∧ PF M w w s A0 l0 c0 A1 l1 c1 A2 l2 c2 A3 l3 c3 A4 l4 c4 A5 l5 c5 := by
  obtain ⟨A0, l0, c0, A1, l1, c1, A2, l2, c2, A3, l3, c3, A4, l4, c4, A5, l5, c5, rfl, s0, s1, s2, s3, s4, s5, h0, h1, h2, h3, h4, h5⟩ := h
  exact ⟨A0, l0, c0, A1, l1, c1, A2, l2, c2, A3, l3, c3, A4, l4, c4, A5, l5, c5, rfl, ⟨s0, s1, s2, s3, s4, s5⟩, h0, IntsF.of h1 hM, IntsF.of h2 hM, IntsF.of h3 hM, IntsF.of h4 hM, ChsF.of h5 hM⟩
theorem refStep_any (v : Value) (s : Sys) (w : World) (h : SysAt w v s) (k : Nat) (hwr : WR k s) (hk : k ≤ 900) (t : Nat) (ht : t < s.th.length) (hc : canS s t = true) : Calls Try.prog 24 #[v, .int .i64 (t : Int)] w fun e w' => ∃ v', e = .returned v' ∧ SysAt w' v' (stepS s t) ∧ Below w.heap.size w w' := by
  obtain ⟨A0, l0, c0, A1, l1, c1, A2, l2, c2, A3, l3, c3, A4, l4, c4, A5, l5, c5, rfl, hp⟩ := PF.none h (fun _ => False) (fun _ h => h.elim)
  refine (refStepF_any (fun _ => False) w w s A0 l0 c0 A1 l1 c1 A2 l2 c2 A3 l3 c3 A4 l4 c4 A5 l5 c5 hp (Below.refl _ _) (fun _ h => h.elim) k hwr hk t ht hc).mono ?_
  rintro e w' ⟨A1, l1, c1, A2, l2, c2, A3, l3, c3, A4, l4, c4, A5, l5, c5, rfl, hq, hb⟩
  exact ⟨_, rfl, hq.sys hb, hb⟩
end Go.Proofs.Ytcamoigcfiemhaa
