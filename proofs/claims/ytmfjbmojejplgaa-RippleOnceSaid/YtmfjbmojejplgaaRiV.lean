/- Layer 14: what deeds push, how many take; what is taken and left. -/
import Derived.Test.YtmfjbmojejplgaaRiU
namespace Go.Proofs.Ytmfjbmojejplgaa
set_option linter.unusedVariables false
set_option linter.unusedSimpArgs false
open Go.RowKit Go.Sort
/-- What deeds push. -/
def pushL (l : List DeR) : List DrR := l.filterMap fun x => if x.1 = true then none else some x.2
/-- How many deeds take. -/
def takeL (l : List DeR) : Nat := (l.filter fun x => x.1).length
theorem pushL_le (l : List DeR) : (pushL l).length ≤ l.length := List.length_filterMap_le _ _
theorem takeL_le (l : List DeR) : takeL l ≤ l.length := List.length_filter_le _ _
theorem pushL_snoc (xs : List DeR) (i : Nat) (hi : i < xs.length) : pushL (xs.take (i + 1)) = if (deAt xs i).1 = true then pushL (xs.take i) else pushL (xs.take i) ++ [(deAt xs i).2] := by
  rw [take_de xs i hi]; unfold pushL; rw [List.filterMap_append]
  obtain ⟨b, d⟩ := deAt xs i
  cases b <;> simp
theorem takeL_snoc (xs : List DeR) (i : Nat) (hi : i < xs.length) : takeL (xs.take (i + 1)) = if (deAt xs i).1 = true then takeL (xs.take i) + 1 else takeL (xs.take i) := by
  rw [take_de xs i hi]; unfold takeL; rw [List.filter_append]
  obtain ⟨b, d⟩ := deAt xs i
  cases b <;> simp
theorem runL_perm (l : List DeR) : ((runL l).tk ++ (runL l).lf).Perm (pushL l) ∧ (runL l).tk.length + (runL l).vn = takeL l := by
  have h : ∀ (l : List DeR) (s : RunS), ((l.foldl stepR s).tk ++ (l.foldl stepR s).lf).Perm (s.tk ++ s.lf ++ pushL l) ∧ (l.foldl stepR s).tk.length + (l.foldl stepR s).vn = s.tk.length + s.vn + takeL l := by
    intro l
    induction l with
    | nil => intro s; exact ⟨by simp [pushL], by simp [takeL]⟩
    | cons x xs ih =>
      intro s
      obtain ⟨h1, h2⟩ := ih (stepR s x)
      obtain ⟨b, d⟩ := x
      cases b with
      | false =>
        have e : stepR s (false, d) = ⟨s.tk, withD s.lf d, s.vn⟩ := rfl
        rw [e] at h1 h2
        have ep : pushL ((false, d) :: xs) = d :: pushL xs := rfl
        have et : takeL ((false, d) :: xs) = takeL xs := rfl
        refine ⟨?_, ?_⟩
        · rw [ep]
          refine h1.trans (((withD_perm s.lf d).append_left s.tk).append_right _ |>.trans ?_)
          show (s.tk ++ d :: s.lf ++ pushL xs).Perm _
          simp only [List.append_assoc, List.cons_append]
          refine List.Perm.append_left s.tk ?_
          rw [← List.cons_append]
          exact List.perm_middle.symm
        · rw [et]; exact h2
      | true =>
        have ep : pushL ((true, d) :: xs) = pushL xs := rfl
        have et : takeL ((true, d) :: xs) = takeL xs + 1 := by simp [takeL]
        rw [ep, et]
        cases hl : s.lf with
        | nil =>
          have e : stepR s (true, d) = ⟨s.tk, [], s.vn + 1⟩ := by unfold stepR; rw [if_pos rfl, hl]
          rw [e] at h1 h2
          refine ⟨?_, ?_⟩
          · simp only [List.foldl_cons, e]
            exact h1
          · simp only [List.foldl_cons, e]
            simp at h2
            omega
        | cons y r =>
          have e : stepR s (true, d) = ⟨s.tk ++ [y], r, s.vn⟩ := by unfold stepR; rw [if_pos rfl, hl]
          rw [e] at h1 h2
          refine ⟨?_, ?_⟩
          · simp only [List.foldl_cons, e]
            simpa using h1
          · simp only [List.foldl_cons, e]
            simp at h2
            omega
  have := h l ⟨[], [], 0⟩
  simpa [runL] using this
theorem runL_all (l : List DeR) : srtD ((runL l).tk ++ (runL l).lf) = srtD (pushL l) := by
  refine srtD_one (srtD_ord _) ((srtD_perm _).trans ((runL_perm l).1))
theorem runL_count (l : List DeR) : (runL l).tk.length + (runL l).lf.length = (pushL l).length := by
  have := (runL_perm l).1.length_eq; rwa [List.length_append] at this
theorem fold_tk (l : List DeR) (s : RunS) : ∃ r, (l.foldl stepR s).tk = s.tk ++ r := by
  induction l generalizing s with
  | nil => exact ⟨[], by simp⟩
  | cons x xs ih =>
    obtain ⟨r, hr⟩ := ih (stepR s x)
    rw [List.foldl_cons, hr]
    unfold stepR
    split
    · split
      · exact ⟨r, rfl⟩
      · rename_i y r' _; exact ⟨y :: r, by simp⟩
    · exact ⟨r, rfl⟩
theorem runL_pre (l : List DeR) (i : Nat) : ∃ r, (runL l).tk = (runL (l.take i)).tk ++ r := by
  obtain ⟨r, hr⟩ := fold_tk (l.drop i) (runL (l.take i))
  refine ⟨r, ?_⟩
  rw [← hr]
  unfold runL
  rw [← List.foldl_append, List.take_append_drop]
theorem at_pre {a b r : List DrR} (h : b = a ++ r) (j : Nat) (hj : j < a.length) : drAt b j = drAt a j := by
  subst h; simp only [List.getD]; rw [List.getElem?_append_left hj]
theorem at_last (a : List DrR) (y : DrR) : drAt (a ++ [y]) a.length = y := by simp [List.getD]
/-- Which one was taken last, without a push behind it: it is ahead of none that waits. -/
def LastI (s : RunS) (last : Int) : Prop := last = -1 ∨ ∃ m : Nat, last = (m : Int) ∧ s.tk.length = m + 1 ∧ ∀ y ∈ s.lf, leD (drAt s.tk m) y = true
theorem last_vain {s s' : RunS} {last : Int} (h : LastI s last) (h1 : s'.tk = s.tk) (h2 : s'.lf = []) : LastI s' last := by
  rcases h with h | ⟨m, rfl, hm, -⟩
  · exact .inl h
  · exact .inr ⟨m, rfl, by rw [h1]; exact hm, fun y hy => by rw [h2] at hy; cases hy⟩
theorem last_take {s s' : RunS} {y : DrR} {r : List DrR} (ho : OrdD (y :: r)) (h1 : s'.tk = s.tk ++ [y]) (h2 : s'.lf = r) : LastI s' (s.tk.length : Int) := by
  refine .inr ⟨s.tk.length, rfl, by rw [h1]; simp, fun z hz => ?_⟩
  rw [h1, at_last]
  rw [h2] at hz
  exact (List.pairwise_cons.1 ho).1 z hz
/-- One more taken: it stands where the code looks, and is not ahead of the last one. -/
theorem taken_next (l : List DeR) (i : Nat) (hi : i < l.length) (d : DrR) (y : DrR) (r : List DrR) (hd : deAt l i = (true, d)) (hl : (runL (l.take i)).lf = y :: r) :
    (runL (l.take i)).tk.length < (runL l).tk.length ∧ drAt (runL l).tk (runL (l.take i)).tk.length = y ∧ runL (l.take (i + 1)) = ⟨(runL (l.take i)).tk ++ [y], r, (runL (l.take i)).vn⟩ ∧
    ∀ m : Nat, (runL (l.take i)).tk.length = m + 1 → (∀ y ∈ (runL (l.take i)).lf, leD (drAt (runL (l.take i)).tk m) y = true) → befD y (drAt (runL l).tk m) = false := by
  have e : runL (l.take (i + 1)) = ⟨(runL (l.take i)).tk ++ [y], r, (runL (l.take i)).vn⟩ := by
    rw [runL_snoc l i hi, hd]; unfold stepR; rw [if_pos rfl, hl]
  obtain ⟨q, hq⟩ := runL_pre l (i + 1)
  rw [e] at hq
  refine ⟨by rw [hq]; simp, ?_, e, fun m hm h => ?_⟩
  · rw [at_pre hq _ (by simp), at_last]
  · have h1 : drAt (runL l).tk m = drAt (runL (l.take i)).tk m := by
      rw [at_pre hq m (by simp; omega)]
      simp only [List.getD]; rw [List.getElem?_append_left (by omega)]
    rw [h1]
    have := h y (by rw [hl]; exact List.mem_cons_self)
    unfold leD at this
    simpa using this
/-- As many pushes as there are drops, then as many takes. -/
def ptL (l : List DrR) (k : Nat) : List DeR := l.map (fun d => (false, d)) ++ List.replicate k (true, ((0, 0) : DrR))
theorem ptL_len (l : List DrR) (k : Nat) : (ptL l k).length = l.length + k := by simp [ptL]
theorem fold_push (l : List DrR) : ∀ s : RunS, (l.map (fun d => ((false, d) : DeR))).foldl stepR s = ⟨s.tk, l.foldl withD s.lf, s.vn⟩ := by
  induction l with
  | nil => intro s; rfl
  | cons x xs ih => intro s; rw [List.map_cons, List.foldl_cons, ih]; rfl
theorem fold_take : ∀ (l tk : List DrR) (vn : Nat) (z : DrR), (List.replicate l.length ((true, z) : DeR)).foldl stepR ⟨tk, l, vn⟩ = ⟨tk ++ l, [], vn⟩ := by
  intro l
  induction l with
  | nil => intro tk vn z; simp
  | cons x xs ih =>
    intro tk vn z
    rw [List.length_cons, List.replicate_succ, List.foldl_cons]
    have e : stepR ⟨tk, x :: xs, vn⟩ (true, z) = ⟨tk ++ [x], xs, vn⟩ := rfl
    rw [e, ih]
    simp
theorem runL_ptL (l : List DrR) : runL (ptL l l.length) = ⟨srtD l, [], 0⟩ := by
  unfold runL ptL
  rw [List.foldl_append, fold_push]
  show List.foldl stepR ⟨[], l.foldl withD [], 0⟩ _ = _
  rw [fold_srt]
  have := fold_take (srtD l) [] 0 (0, 0)
  rw [srtD_len] at this
  simpa using this
theorem ptL_snoc (l : List DrR) (k : Nat) : ptL l (k + 1) = ptL l k ++ [(true, ((0, 0) : DrR))] := by
  unfold ptL; rw [List.replicate_succ', List.append_assoc]
theorem ptL_push (l : List DrR) (i : Nat) (hi : i < l.length) : ptL (l.take (i + 1)) 0 = ptL (l.take i) 0 ++ [(false, drAt l i)] := by
  unfold ptL; rw [take_snocD l i hi]; simp
end Go.Proofs.Ytmfjbmojejplgaa
