/- Layer 22: what a history cut has; few, alive, Before. -/
import Derived.Test.YtmbmmfdobkbbfaaHi7
namespace Go.Proofs.Ytmbmmfdobkbbfaa
set_option linter.unusedVariables false
set_option linter.unusedSimpArgs false
open Go.RowKit Go.Shelf
set_option maxRecDepth 100000
theorem evAt_take (h : List EvR) (k j : Nat) (hj : j < k) : evAt (h.take k) j = evAt h j := by simp [List.getD, List.getElem?_take_of_lt hj]
theorem ixs_split (h : List EvR) (c : Int) (a k d : Nat) : ∃ R, ixs h c a (k + d) = ixs h c a k ++ R ∧ ∀ x ∈ R, k ≤ x := by
  unfold ixs
  rw [List.range_add, List.filter_append]
  refine ⟨_, rfl, fun x hx => ?_⟩
  have := (List.mem_filter.1 hx).1
  obtain ⟨y, -, rfl⟩ := List.mem_map.1 this
  omega
theorem begins_split (h : List EvR) (k d : Nat) : ∃ R, begins h (k + d) = begins h k ++ R ∧ ∀ x ∈ R, k ≤ x := by
  unfold begins
  rw [List.range_add, List.filter_append]
  refine ⟨_, rfl, fun x hx => ?_⟩
  have := (List.mem_filter.1 hx).1
  obtain ⟨y, -, rfl⟩ := List.mem_map.1 this
  omega
theorem ixs_lt (h : List EvR) (c : Int) (a m : Nat) {x : Nat} (hx : x ∈ ixs h c a m) : a ≤ x ∧ x < m ∧ (evAt h x).c = c := by
  obtain ⟨h1, h2⟩ := List.mem_filter.1 hx
  simp only [Bool.and_eq_true, decide_eq_true_eq, beq_iff_eq] at h2
  exact ⟨h2.1, List.mem_range.1 h1, h2.2⟩
theorem ixs_take (h : List EvR) (c : Int) (a k : Nat) : ixs (h.take k) c a k = ixs h c a k := by
  unfold ixs
  apply List.filter_congr
  intro j hj
  rw [show (h.take k).getD j default = h.getD j default from evAt_take h k j (List.mem_range.1 hj)]
theorem begins_take (h : List EvR) (k : Nat) : begins (h.take k) k = begins h k := by
  unfold begins
  apply List.filter_congr
  intro j hj
  rw [evAt_take h k j (List.mem_range.1 hj)]
theorem begins_lt (h : List EvR) (m : Nat) {x : Nat} (hx : x ∈ begins h m) : x < m := List.mem_range.1 (List.mem_filter.1 hx).1
theorem okL_take (h : List EvR) (k : Nat) (ys : List Nat) (hy : ∀ x ∈ ys, x < k) : okL (h.take k) ys = okL h ys := by
  unfold okL
  rw [Bool.eq_iff_iff]
  simp only [List.all_eq_true, List.mem_range]
  have e : ∀ i, i < ys.length → stepOk (h.take k) (ys.take i) (ys.getD i 0) = stepOk h (ys.take i) (ys.getD i 0) := by
    intro i hi
    have h1 : evAt (h.take k) (ys.getD i 0) = evAt h (ys.getD i 0) := evAt_take h k _ (hy _ (by simp [List.getD, hi]))
    have h2 : callOf (h.take k) (ys.take i) = callOf h (ys.take i) := by
      unfold callOf
      cases hl : (ys.take i).getLast? with
      | none => rfl
      | some j =>
        show (evAt (h.take k) j).call = (evAt h j).call
        rw [evAt_take h k j (hy j (List.mem_of_mem_take (List.mem_of_getLast? hl)))]
    unfold stepOk
    rw [h1, h2]
  exact ⟨fun hh i hi => by rw [← e i hi]; exact hh i hi, fun hh i hi => by rw [e i hi]; exact hh i hi⟩
theorem okL_cut (h : List EvR) {pre ys : List Nat} (hp : pre <+: ys) (ht : okL h ys = true) : okL h pre = true := by
  cases hh : okL h pre with
  | true => rfl
  | false => rw [okL_prefix h hp hh] at ht; cases ht
theorem rightH_parts {h : List EvR} (hr : rightH h = true) : h.length ≤ 48 ∧ clientsB h = true ∧ ∀ c : Nat, c < 4 → okL h (ixs h (c : Int) 0 h.length) = true := by
  unfold rightH at hr
  simp only [Bool.and_eq_true, decide_eq_true_eq] at hr
  refine ⟨hr.1.1, hr.1.2, fun c hc => ?_⟩
  have := hr.2
  unfold allC at this
  rw [List.all_eq_true] at this
  exact this c (List.mem_range.2 hc)
theorem rightH_take {h : List EvR} (hr : rightH h = true) (k : Nat) (hk : k ≤ h.length) : rightH (h.take k) = true := by
  obtain ⟨h1, h2, h3⟩ := rightH_parts hr
  have hl : (h.take k).length = k := by rw [List.length_take]; omega
  unfold rightH
  simp only [Bool.and_eq_true, decide_eq_true_eq]
  refine ⟨⟨by omega, ?_⟩, ?_⟩
  · unfold clientsB at *
    rw [List.all_eq_true] at *
    exact fun e he => h2 e (List.mem_of_mem_take he)
  · unfold allC
    rw [List.all_eq_true]
    intro c hc
    unfold clientB
    rw [hl, ixs_take, okL_take h k _ (fun x hx => (ixs_lt h c 0 k hx).2.1)]
    exact okL_cut h (ixs_prefix h c 0 hk) (h3 c (List.mem_range.1 hc))
/-- The spans of a history cut are the first ones of the whole. -/
theorem spans_cut (h : List EvR) (k : Nat) (hk : k ≤ h.length) : (spansL (h.take k) k).length ≤ (spansL h h.length).length ∧
    (∀ i, i < (spansL (h.take k) k).length → (spG (spansL (h.take k) k) i).c = (spG (spansL h h.length) i).c ∧ (spG (spansL (h.take k) k) i).n = (spG (spansL h h.length) i).n ∧ (spG (spansL (h.take k) k) i).fr = (spG (spansL h h.length) i).fr ∧ (spG (spansL (h.take k) k) i).call = (spG (spansL h h.length) i).call ∧
      ((spG (spansL (h.take k) k) i).to = (spG (spansL h h.length) i).to ∨ ((spG (spansL (h.take k) k) i).to = -1 ∧ (k : Int) ≤ (spG (spansL h h.length) i).to))) ∧
    ((spansL (h.take k) k).length = (spansL h h.length).length ∨ (k : Int) ≤ (spG (spansL h h.length) (spansL (h.take k) k).length).fr) := by
  obtain ⟨d, hd⟩ := Nat.le.dest hk
  obtain ⟨R, hR, hRk⟩ := begins_split h k d
  rw [hd] at hR
  have hl : (h.take k).length = k := by rw [List.length_take]; omega
  have e1 : (spansL (h.take k) k).length = (begins h k).length := by unfold spansL; rw [List.length_map, begins_take]
  have e2 : (spansL h h.length).length = (begins h k).length + R.length := by unfold spansL; rw [List.length_map, hR, List.length_append]
  refine ⟨by omega, fun i hi => ?_, ?_⟩
  · obtain ⟨s1, s2, -⟩ := spansL_at (h.take k) k i hi
    obtain ⟨t1, t2, -⟩ := spansL_at h h.length i (by omega)
    rw [begins_take] at s1 s2
    have eb : (begins h h.length).getD i 0 = (begins h k).getD i 0 := by
      rw [hR]; simp [List.getD, List.getElem?_append_left (show i < (begins h k).length by omega)]
    rw [eb] at t1
    rw [s1, t1]
    generalize (begins h k).getD i 0 = x at *
    have he := evAt_take h k x s2
    obtain ⟨Q, hQ, hQk⟩ := ixs_split h (evAt h x).c (x + 1) k d
    rw [hd] at hQ
    unfold spanOf
    rw [he, hl, ixs_take, hQ]
    cases hh : ixs h (evAt h x).c (x + 1) k with
    | nil =>
      rw [List.nil_append]
      cases Q with
      | nil => exact ⟨by show (evAt (h.take k) x).c = (evAt h x).c; rw [he], by show (evAt (h.take k) x).n = (evAt h x).n; rw [he], rfl, by show (evAt (h.take k) x).call = (evAt h x).call; rw [he], Or.inl rfl⟩
      | cons y Q => exact ⟨by show (evAt (h.take k) x).c = (evAt h x).c; rw [he], by show (evAt (h.take k) x).n = (evAt h x).n; rw [he], rfl, by show (evAt (h.take k) x).call = (evAt h x).call; rw [he], Or.inr ⟨rfl, by have := hQk y (by simp); show (k : Int) ≤ (y : Int); omega⟩⟩
    | cons y P => exact ⟨by show (evAt (h.take k) x).c = (evAt h x).c; rw [he], by show (evAt (h.take k) x).n = (evAt h x).n; rw [he], rfl, by show (evAt (h.take k) x).call = (evAt h x).call; rw [he], Or.inl rfl⟩
  · by_cases hz : R.length = 0
    · exact Or.inl (by omega)
    · right
      obtain ⟨t1, t2, -⟩ := spansL_at h h.length (spansL (h.take k) k).length (by omega)
      rw [t1, spanOf_fr, e1]
      have : (begins h h.length).getD (begins h k).length 0 ∈ R := by
        rw [hR]
        cases R with
        | nil => exact absurd rfl hz
        | cons y R => simp [List.getD]
      have := hRk _ this
      omega
/-- Did a call end ahead of another one's beginning? -/
def beforeB (a b : SpR) : Bool := decide (0 ≤ a.to) && decide (a.to < b.fr)
theorem hbefore_any (a b : SpR) (w : World) : Calls Try.prog 16 #[.agg (spA a), .agg (spA b)] w fun e w' => e = .returned (.bool (beforeB a b)) ∧ Below w.heap.size w w' := by
  have hb : Below w.heap.size w ((w.alloc (.cells (spA a) 41)).alloc (.cells (spA b) 41)) := ((Below.refl _ _).alloc (Nat.le_refl _) _).alloc (by simp) _
  have q0 := ((Box.new w 41 (spA a)).alloc (.cells (spA b) 41)).sp
  have q1 := Box.new (w.alloc (.cells (spA a) 41)) 41 (spA b)
  simp only [World.size_alloc] at q1
  have q1 := q1.sp
  have HB := Lib.hid hb
  obtain ⟨-, -, -, -, -, -, -, -, -, -, -, -, a12, a13⟩ := q0
  obtain ⟨-, -, -, -, -, -, -, -, -, -, -, -, b12, b13⟩ := q1
  clear hb
  go_enter Try.func16, Try.ntmps16
  by_cases h1 : 0 ≤ a.to
  · by_cases h2 : a.to < b.fr
    · have HE := Lib.hid (show beforeB a b = true by unfold beforeB; simp [h1, h2])
      go_wp2_with fail
      go_ret
      exact ⟨by rw [HE.out]; rfl, HB.out⟩
    · have HE := Lib.hid (show beforeB a b = false by unfold beforeB; simp [h2])
      go_wp2_with fail
      go_ret
      exact ⟨by rw [HE.out]; rfl, HB.out⟩
  · have HE := Lib.hid (show beforeB a b = false by unfold beforeB; simp [h1])
    go_wp2_with fail
    go_ret
    exact ⟨by rw [HE.out]; rfl, HB.out⟩
theorem few22_any (A : Option Addr) (l cp : Nat) (hs : SliceOk A l cp) (w : World) : Calls Try.prog 7 #[.slice A l cp] w fun e w' => e = .returned (.slice A (min l 50) cp) ∧ w = w' := by
  obtain ⟨hl, hc, hn⟩ := hs
  unfold maxLen at hc
  cases A with
  | none =>
    obtain ⟨rfl, rfl⟩ := hn rfl
    go_enter Try.func7, Try.ntmps7
    go_wp2_with fail
    go_ret
    exact ⟨rfl, rfl⟩
  | some ad =>
    clear hn
    by_cases h : l ≤ 50
    · have g1 : (l : Int) ≤ 50 := by omega
      have g2 : ¬ (50 : Int) < l := by omega
      have g3 : (l : Int) ≤ cp := by omega
      have HE := Lib.hid (show min l 50 = l by omega)
      go_enter Try.func7, Try.ntmps7
      go_wp2_with fail
      go_ret
      first
        | exact ⟨rfl, rfl⟩
        | exact ⟨by rw [HE.out]; rfl, rfl⟩
    · have g1 : (50 : Int) < l := by omega
      have g2 : (50 : Int) ≤ cp := by omega
      have HE := Lib.hid (show min l 50 = 50 by omega)
      go_enter Try.func7, Try.ntmps7
      go_wp2_with fail
      go_ret
      first
        | exact ⟨rfl, rfl⟩
        | exact ⟨by rw [HE.out]; rfl, rfl⟩
end Go.Proofs.Ytmbmmfdobkbbfaa
