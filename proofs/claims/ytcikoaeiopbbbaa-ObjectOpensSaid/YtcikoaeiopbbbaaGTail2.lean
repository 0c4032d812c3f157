/- GTail, where number k waits for number i through number j. No program. -/
import Derived.Test.YtcikoaeiopbbbaaGTail
namespace Go.Proofs.Ytcikoaeiopbbbaa
set_option linter.unusedVariables false
set_option linter.unusedSimpArgs false
section
variable {P : Program} {ops : Array Oper} {Q : Exit → Act → World → Prop} {md : Region.Mode} {Sa Sb : World → Prop} {k : Nat}
theorem headG_takeT {m i : Nat} {oi : Oper} {v : Value} {f : Nat} {listed : Array Bool} {a : Act} {w : World} {L : Array Bool → Act → World → Prop} (j : Nat) (hi : ops[i]? = some oi)
    (hall : (Region.noSelect ops && barB md ops m && decide (i < m) && headB md ops m listed && Region.free md ops listed i && (Region.ready md ops listed).contains i && decide (i ≠ k) && (Region.waitsFor md ops k j && Region.waitsFor md ops j i)) = true)
    (hQ : ∀ c a w, Q (.panic c) (a.put oi.dst v) w → Q (.panic c) a w) (hdone : ∀ listed a w, L listed a w → ∀ j ∈ Region.ready md ops listed, m ≤ j)
    (hy : YieldsIf P ops (fun w => Sb w ∧ (true = true → Sa w)) oi v a) (hS : heldG Sa Sb k listed w) (h : headG P md ops Q Sa Sb k m L f (listed.setIfInBounds i true) (a.put oi.dst v) w) : headG P md ops Q Sa Sb k m L (f + 1) listed a w := by
  simp only [Bool.and_eq_true, decide_eq_true_eq] at hall
  obtain ⟨⟨⟨⟨⟨⟨⟨h1, h2⟩, h5⟩, h6⟩, h7⟩, h8⟩, h9⟩, h10, h11⟩ := hall
  refine headG_first hi (Region.noSelect_spec h1) h9 (fun listed inv hun w hw => ⟨hw.1, fun _ => hw.2 ?_⟩) (fun listed _ i him hun t ht => bar_waits h2 listed i him hun t ht) h5 hQ hdone f listed a w (headB_inv h6) (Region.free_spec hi h7) (by simpa using h8) hy hS h
  obtain ⟨ok, hok, e, he, hbd, hon⟩ := Region.waitsFor_spec h10
  obtain ⟨oj, hoj, e', he', hbd', hon'⟩ := Region.waitsFor_spec h11
  cases hl : listed.getD k false with
  | false => rfl
  | true =>
    have h12 := inv.closed k ok hok hl e he hbd
    rw [hon] at h12
    have h13 := inv.closed j oj hoj h12 e' he' hbd'
    rw [hon', getD_both hun] at h13
    cases h13
end
end Go.Proofs.Ytcikoaeiopbbbaa
