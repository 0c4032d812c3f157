/- Layer 22: how the spans of a history that may be stand to each other. -/
import Derived.Test.YtmbmmfdobkbbfaaHi9
namespace Go.Proofs.Ytmbmmfdobkbbfaa
set_option linter.unusedVariables false
set_option linter.unusedSimpArgs false
open Go.RowKit Go.Shelf
set_option maxRecDepth 100000
theorem begins_sorted (h : List EvR) (m i j : Nat) (hij : i < j) (hj : j < (begins h m).length) : (begins h m).getD i 0 < (begins h m).getD j 0 := by
  have hp : (begins h m).Pairwise (· < ·) := List.Pairwise.filter _ List.pairwise_lt_range
  have := List.pairwise_iff_getElem.1 hp i j (by omega) hj hij
  simpa [List.getD, hj, show i < (begins h m).length by omega] using this
theorem spans_fr_lt (h : List EvR) (m i j : Nat) (hij : i < j) (hj : j < (spansL h m).length) : (spG (spansL h m) i).fr < (spG (spansL h m) j).fr := by
  obtain ⟨e1, -, -⟩ := spansL_at h m i (by omega)
  obtain ⟨e2, -, -⟩ := spansL_at h m j hj
  have hj2 : j < (begins h m).length := by unfold spansL at hj; rwa [List.length_map] at hj
  have := begins_sorted h m i j hij hj2
  rw [e1, e2, spanOf_fr, spanOf_fr]; omega
theorem spanOf_to (h : List EvR) (x : Nat) : (spanOf h x).to = -1 ∨ (x : Int) < (spanOf h x).to := by
  unfold spanOf
  cases hh : ixs h (evAt h x).c (x + 1) h.length with
  | nil => left; rfl
  | cons y ys =>
    right
    have := (ixs_lt h (evAt h x).c (x + 1) h.length (x := y) (by rw [hh]; simp)).1
    show (x : Int) < (y : Int)
    omega
/-- The step of an event of a history that may be. -/
theorem right_step {h : List EvR} (hr : rightH h = true) (x : Nat) (hx : x < h.length) : ∃ c : Nat, c < 4 ∧ (evAt h x).c = (c : Int) ∧ stepOk h (ixs h (c : Int) 0 x) x = true := by
  obtain ⟨-, h2, h3⟩ := rightH_parts hr
  unfold clientsB at h2
  rw [List.all_eq_true] at h2
  have hm : evAt h x ∈ h := by simp [List.getD, hx]
  have := h2 _ hm
  simp only [Bool.and_eq_true, decide_eq_true_eq] at this
  obtain ⟨c, hc⟩ : ∃ c : Nat, (evAt h x).c = (c : Int) := ⟨(evAt h x).c.toNat, by omega⟩
  have hc4 : c < 4 := by omega
  refine ⟨c, hc4, hc, ?_⟩
  have hk := okL_cut h (ixs_prefix h (c : Int) 0 (show x + 1 ≤ h.length from hx)) (h3 c hc4)
  rw [ixs_yes h (c : Int) 0 x (Nat.zero_le _) hc, okL_snoc] at hk
  simp only [Bool.and_eq_true] at hk
  exact hk.2
theorem stepOk_parts {h : List EvR} {pre : List Nat} {x : Nat} (hs : stepOk h pre x = true) : (evAt h x).b = ((pre.length % 2 : Nat) : Int) ∧ (evAt h x).n = ((pre.length / 2 : Nat) : Int) := by
  unfold stepOk at hs
  simp only [Bool.and_eq_true, beq_iff_eq] at hs
  exact ⟨hs.1.1, hs.1.2⟩
theorem head_le (h : List EvR) (c : Int) (a m y : Nat) (hy : y ∈ ixs h c a m) : ∃ z, (ixs h c a m).head? = some z ∧ a ≤ z ∧ z ≤ y := by
  obtain ⟨h1, h2, h3⟩ := ixs_lt h c a m hy
  obtain ⟨d, hd⟩ := Nat.le.dest (show y + 1 ≤ m from h2)
  obtain ⟨R, hR, -⟩ := ixs_split h c a (y + 1) d
  rw [hd] at hR
  have hne := ixs_yes h c a y h1 h3
  cases hz : ixs h c a (y + 1) with
  | nil => rw [hz] at hne; simp at hne
  | cons z zs =>
    have := ixs_lt h c a (y + 1) (x := z) (by rw [hz]; simp)
    exact ⟨z, by rw [hR, hz]; rfl, this.1, by omega⟩
/-- Two calls of one client. -/
theorem same_client {h : List EvR} (hr : rightH h = true) {x y : Nat} (hxy : x < y) (hy : y < h.length) (bx : (evAt h x).b = 0) (by_ : (evAt h y).b = 0) (hc : (evAt h x).c = (evAt h y).c) :
    0 ≤ (spanOf h x).to ∧ (spanOf h x).to < (y : Int) ∧ (evAt h x).n < (evAt h y).n := by
  obtain ⟨c, -, c1, s1⟩ := right_step hr x (by omega)
  obtain ⟨c', -, c2, s2⟩ := right_step hr y hy
  obtain rfl : c = c' := by omega
  obtain ⟨b1, n1⟩ := stepOk_parts s1
  obtain ⟨b2, n2⟩ := stepOk_parts s2
  obtain ⟨d, hd⟩ := Nat.le.dest (show x + 1 ≤ y from hxy)
  obtain ⟨R, hR, hRk⟩ := ixs_split h (c : Int) 0 (x + 1) d
  rw [hd, ixs_yes h (c : Int) 0 x (Nat.zero_le _) c1] at hR
  have hlen : (ixs h (c : Int) 0 y).length = (ixs h (c : Int) 0 x).length + 1 + R.length := by rw [hR]; simp; omega
  have hR1 : 1 ≤ R.length := by omega
  obtain ⟨z, hz⟩ : ∃ z, z ∈ R := by
    cases R with
    | nil => simp at hR1
    | cons z R => exact ⟨z, by simp⟩
  have hzx := hRk z hz
  have hzm : z ∈ ixs h (c : Int) 0 y := by rw [hR]; simp [hz]
  obtain ⟨-, hzy, hzc⟩ := ixs_lt h (c : Int) 0 y hzm
  have hzi : z ∈ ixs h (c : Int) (x + 1) h.length := by
    unfold ixs
    rw [List.mem_filter]
    refine ⟨List.mem_range.2 (by omega), ?_⟩
    simp only [Bool.and_eq_true, decide_eq_true_eq, beq_iff_eq]
    exact ⟨hzx, hzc⟩
  obtain ⟨q, hq, hq1, hq2⟩ := head_le h (c : Int) (x + 1) h.length z hzi
  refine ⟨?_, ?_, by omega⟩
  · unfold spanOf; rw [c1, hq]; show (0 : Int) ≤ (q : Int); omega
  · unfold spanOf; rw [c1, hq]; show (q : Int) < (y : Int); omega
theorem spanOf_c (h : List EvR) (x : Nat) : (spanOf h x).c = (evAt h x).c ∧ (spanOf h x).n = (evAt h x).n := by
  unfold spanOf; cases (ixs h (evAt h x).c (x + 1) h.length).head? <;> exact ⟨rfl, rfl⟩
/-- What the law asks of two spans, the first of which stands ahead of the other one in the row. -/
structure OrdS (ss : List SpR) (al : Bool) : Prop where
  fr : ∀ i j, i < j → j < ss.length → (spG ss i).fr < (spG ss j).fr
  to : ∀ i, i < ss.length → (spG ss i).to = -1 ∨ (spG ss i).fr < (spG ss i).to
  one : ∀ i j, i < j → j < ss.length → (spG ss i).c = (spG ss j).c → 0 ≤ (spG ss i).to ∧ (spG ss i).to < (spG ss j).fr ∧ (spG ss i).n < (spG ss j).n
  alone : al = true → ∀ i j, i < j → j < ss.length → beforeB (spG ss i) (spG ss j) = true
  cl : ∀ i, i < ss.length → 0 ≤ (spG ss i).c ∧ (spG ss i).c ≤ 3
  nn : ∀ i, i < ss.length → 0 ≤ (spG ss i).fr
theorem ordS {h : List EvR} (hr : rightH h = true) : OrdS (spansL h h.length) (aloneB h.length (spansL h h.length)) := by
  have one : ∀ i j, i < j → j < (spansL h h.length).length → (spG (spansL h h.length) i).c = (spG (spansL h h.length) j).c → 0 ≤ (spG (spansL h h.length) i).to ∧ (spG (spansL h h.length) i).to < (spG (spansL h h.length) j).fr ∧ (spG (spansL h h.length) i).n < (spG (spansL h h.length) j).n := by
    intro i j hij hj hc
    obtain ⟨e1, x1, b1⟩ := spansL_at h h.length i (by omega)
    obtain ⟨e2, x2, b2⟩ := spansL_at h h.length j hj
    have hj2 : j < (begins h h.length).length := by unfold spansL at hj; rwa [List.length_map] at hj
    have hlt := begins_sorted h h.length i j hij hj2
    rw [e1, e2, (spanOf_c h _).1, (spanOf_c h _).1] at hc
    rw [e1, e2, spanOf_fr, (spanOf_c h _).2, (spanOf_c h _).2]
    exact same_client hr hlt x2 b1 b2 hc
  refine ⟨fun i j hij hj => spans_fr_lt h h.length i j hij hj, fun i hi => ?_, one, fun hal i j hij hj => ?_, fun i hi => ?_, fun i hi => (spansL_fr h h.length i hi).1⟩
  · obtain ⟨e1, -, -⟩ := spansL_at h h.length i hi
    rw [e1, spanOf_fr]; exact spanOf_to h _
  · unfold aloneB at hal
    rw [List.all_eq_true] at hal
    have hs := hal (spG (spansL h h.length) i) (by simp [List.getD, show i < (spansL h h.length).length by omega])
    have f1 := spans_fr_lt h h.length i j hij hj
    have f2 := (spansL_fr h h.length j hj).2
    unfold sideB at hs
    have hto : (spG (spansL h h.length) i).to = (spG (spansL h h.length) i).fr + 1 := by
      have h1 : decide ((spG (spansL h h.length) i).fr < (h.length : Int) - 1) = true := decide_eq_true (by omega)
      rw [h1] at hs
      simpa using hs
    have f0 := (spansL_fr h h.length i (by omega)).1
    unfold beforeB
    simp only [Bool.and_eq_true, decide_eq_true_eq]
    refine ⟨by omega, ?_⟩
    rcases Int.lt_or_eq_of_le (show (spG (spansL h h.length) i).to ≤ (spG (spansL h h.length) j).fr by omega) with h1 | h1
    · exact h1
    · exfalso
      obtain ⟨e1, x1, b1⟩ := spansL_at h h.length i (by omega)
      obtain ⟨e2, x2, b2⟩ := spansL_at h h.length j hj
      have hc : (spG (spansL h h.length) i).c = (spG (spansL h h.length) j).c := by
        rw [e1, e2, (spanOf_c h _).1, (spanOf_c h _).1]
        rw [e1, e2, spanOf_fr] at h1
        generalize (begins h h.length).getD i 0 = x at *
        generalize (begins h h.length).getD j 0 = y at *
        unfold spanOf at h1
        cases hh : ixs h (evAt h x).c (x + 1) h.length with
        | nil => rw [hh] at h1; exact absurd (show (-1 : Int) = (y : Int) from h1) (by omega)
        | cons z zs =>
          rw [hh] at h1
          have h1 : (z : Int) = (y : Int) := h1
          obtain rfl : z = y := by omega
          exact ((ixs_lt h (evAt h x).c (x + 1) h.length (x := z) (by rw [hh]; simp)).2.2).symm
      have := one i j hij hj hc
      omega
  · obtain ⟨e1, x1, -⟩ := spansL_at h h.length i hi
    obtain ⟨c, h4, hc, -⟩ := right_step hr _ x1
    rw [e1, (spanOf_c h _).1, hc]; omega
/-- How many of the first k spans are open, and one client's. -/
def cntO (ss : List SpR) (k : Nat) (c : Int) : Nat := ((openL ss k).filter fun i => (spG ss i).c == c).length
theorem cnt_le {ss : List SpR} {al : Bool} (ho : OrdS ss al) (k : Nat) (hk : k ≤ ss.length) (c : Int) : cntO ss k c ≤ 1 := by
  unfold cntO
  rcases Nat.lt_or_ge 1 ((openL ss k).filter fun i => (spG ss i).c == c).length with h | h
  · exfalso
    have hp : ((openL ss k).filter fun i => (spG ss i).c == c).Pairwise (· < ·) := List.Pairwise.filter _ (List.Pairwise.filter _ List.pairwise_lt_range)
    have hlt := List.pairwise_iff_getElem.1 hp 0 1 (by omega) h (by omega)
    have m0 := List.mem_filter.1 (List.getElem_mem (show 0 < ((openL ss k).filter fun i => (spG ss i).c == c).length by omega))
    have m1 := List.mem_filter.1 (List.getElem_mem h)
    have o0 := List.mem_filter.1 m0.1
    have l1 := List.mem_range.1 (List.mem_filter.1 m1.1).1
    have c0 := beq_iff_eq.1 m0.2
    have c1 := beq_iff_eq.1 m1.2
    have t0 := beq_iff_eq.1 o0.2
    have := ho.one _ _ hlt (Nat.lt_of_lt_of_le l1 hk) (c0.trans c1.symm)
    omega
  · exact h
end Go.Proofs.Ytmbmmfdobkbbfaa
