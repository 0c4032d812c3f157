/- A law of one's own for a region that draws its order: a condition on what has come up, the frame and the world, that every operation that may come up keeps. No program. -/
import Derived.RegionTactic
namespace Go.Proofs.Ytcamoigcfiemhaa
set_option linter.unusedVariables false
set_option linter.unusedSimpArgs false
section
variable {P : Program} {ops : Array Oper} {Q : Exit → Act → World → Prop} {md : Region.Mode}
theorem countP_lt {α : Type} {p q : α → Bool} : ∀ {l : List α}, (∀ x ∈ l, q x = true → p x = true) → (∃ x ∈ l, p x = true ∧ q x = false) → l.countP q < l.countP p
  | [], _, ⟨_, h, _⟩ => by cases h
  | y :: l, hi, ⟨x, hx, hp, hq⟩ => by
    have hle : l.countP q ≤ l.countP p := List.countP_mono_left (fun z hz => hi z (List.mem_cons_of_mem _ hz))
    rcases List.mem_cons.1 hx with rfl | hx
    · rw [List.countP_cons_of_neg (by simp [hq]), List.countP_cons_of_pos hp]; omega
    · have ih := countP_lt (fun z hz => hi z (List.mem_cons_of_mem _ hz)) ⟨x, hx, hp, hq⟩
      rw [List.countP_cons, List.countP_cons]
      have := hi y (List.mem_cons_self ..)
      cases hqy : q y with
      | false => simp; split <;> omega
      | true => simp [this hqy]; exact ih
def unl (n : Nat) (listed : Array Bool) : Nat := (List.range n).countP fun i => !listed.getD i true
/-- All edges go back. -/
def edgesB (ops : Array Oper) : Bool := (List.range ops.size).all fun j => match ops[j]? with | some o => o.after.all fun e => decide (e.on < j) | none => true
theorem edgesB_spec (h : edgesB ops = true) {j : Nat} {o : Oper} (ho : ops[j]? = some o) : ∀ e ∈ o.after, e.on < j := by
  have hj : j < ops.size := (Array.getElem?_eq_some_iff.1 ho).1
  have := List.all_eq_true.1 h j (List.mem_range.2 hj)
  simp only [ho, Array.all_eq_true', decide_eq_true_eq] at this
  exact this
theorem all_listed (hb : edgesB ops = true) {listed : Array Bool} (hs : listed.size = ops.size) (hr : Region.ready md ops listed = []) : ∀ i, i < ops.size → listed.getD i false = true := by
  intro i
  induction i using Nat.strongRecOn with
  | _ i ih =>
    intro hi
    cases hl : listed.getD i false with
    | true => rfl
    | false =>
      have hl2 : listed.getD i true = false := by
        rw [Array.getD_eq_getD_getElem?, Array.getElem?_eq_getElem (by omega)] at *
        simpa using hl
      have ho : ops[i]? = some ops[i] := Array.getElem?_eq_getElem hi
      have hm : i ∈ Region.ready md ops listed := mem_ready.2 ⟨hl2, ops[i], ho, fun e he _ => by
        have := edgesB_spec hb ho e he
        exact ih e.on this (by omega)⟩
      rw [hr] at hm
      cases hm
/-- THE LAW. -/
theorem wpAny_inv {J : Array Bool → Act → World → Prop} (hb : edgesB ops = true)
    (step : ∀ listed a w i o, J listed a w → listed.getD i true = false → ops[i]? = some o → (∀ e ∈ o.after, Region.binds md e = true → listed.getD e.on false = true) → wpOp P ops Q i (J (listed.setIfInBounds i true)) a w)
    (done : ∀ listed a w, J listed a w → (∀ i, i < ops.size → listed.getD i false = true) → Q .normal a w) :
    ∀ (f : Nat) (listed : Array Bool) (a : Act) (w : World), listed.size = ops.size → unl ops.size listed ≤ f → J listed a w → wpAny P md ops Q f listed a w
  | 0, listed, a, w, hs, hu, h => by
    have hr : Region.ready md ops listed = [] := by
      apply List.eq_nil_iff_forall_not_mem.2
      intro i hi
      obtain ⟨h1, o, ho, -⟩ := mem_ready.1 hi
      have hlt : i < ops.size := (Array.getElem?_eq_some_iff.1 ho).1
      have : 0 < unl ops.size listed := List.countP_pos_iff.2 ⟨i, List.mem_range.2 hlt, by simp [h1]⟩
      omega
    exact ⟨hr, done _ _ _ h (all_listed hb hs hr)⟩
  | f + 1, listed, a, w, hs, hu, h => by
    refine ⟨fun hr => done _ _ _ h (all_listed hb hs hr), fun i hi => ?_⟩
    obtain ⟨h1, o, ho, h2⟩ := mem_ready.1 hi
    have hlt : i < ops.size := (Array.getElem?_eq_some_iff.1 ho).1
    refine wpOp_mono (fun a' w' h' => wpAny_inv hb step done f _ a' w' (by simpa using hs) ?_ h') (step listed a w i o h h1 ho h2)
    have : unl ops.size (listed.setIfInBounds i true) < unl ops.size listed := by
      refine countP_lt (fun x _ hx => ?_) ⟨i, List.mem_range.2 hlt, by simp [h1], ?_⟩
      · by_cases e : i = x
        · subst e; simp [h1]
        · rw [getD_set_ne true e] at hx; exact hx
      · simp [Array.getD_eq_getD_getElem?, Array.getElem?_setIfInBounds, hs, hlt]
    omega
theorem unl_start (n : Nat) : unl n (Array.replicate n false) ≤ n := by
  unfold unl
  have := List.countP_le_length (p := fun i => !(Array.replicate n false).getD i true) (l := List.range n)
  simpa using this
/-- THE BEGINNING. -/
theorem wp_inv {id : Nat} {a : Act} {w : World} {J : Array Bool → Act → World → Prop} (hmx : P.follows .mixedOrders = true) (hb : edgesB ops = true)
    (start : J (Array.replicate ops.size false) a w.drew)
    (step : ∀ listed a w i o, J listed a w → listed.getD i true = false → ops[i]? = some o → (∀ e ∈ o.after, Region.binds .any e = true → listed.getD e.on false = true) → wpOp P ops Q i (J (listed.setIfInBounds i true)) a w)
    (done : ∀ listed a w, J listed a w → (∀ i, i < ops.size → listed.getD i false = true) → Q .normal a w) : (Code.region id ops true).wp P Q a w :=
  wp_region_any hmx (wpAny_inv hb step done _ _ _ _ (by simp) (unl_start _) start)
end
end Go.Proofs.Ytcamoigcfiemhaa
