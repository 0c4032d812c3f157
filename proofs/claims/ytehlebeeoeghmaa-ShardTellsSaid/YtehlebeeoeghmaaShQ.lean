/- Layer 13: in stripes that may be no number stands twice; sorted, they are what the reference tells. -/
import Derived.Test.YtehlebeeoeghmaaShP
namespace Go.Proofs.Ytehlebeeoeghmaa
set_option linter.unusedVariables false
set_option linter.unusedSimpArgs false
open Go.RowKit Go.Lib
set_option maxRecDepth 100000
def neS (a b : SymR) : Prop := a.1 ≠ b.1
theorem withS_perm (xs : List SymR) (x : SymR) (h : ∀ y ∈ xs, y.1 ≠ x.1) : (withS xs x).Perm (x :: xs) := by
  unfold withS
  have e : xs.filter (fun y => decide (x.1 < y.1)) = xs.filter (fun y => !decide (y.1 < x.1)) := by
    apply List.filter_congr
    intro y hy
    have := h y hy
    by_cases q : y.1 < x.1
    · have q2 : ¬ x.1 < y.1 := by omega
      simp [q, q2]
    · have q2 : x.1 < y.1 := by omega
      simp [q, q2]
  rw [e]
  exact List.perm_middle.trans ((List.filter_append_perm (fun y : SymR => decide (y.1 < x.1)) xs).cons x)
theorem withS_pw (xs : List SymR) (x : SymR) (h : xs.Pairwise ltS) : (withS xs x).Pairwise ltS := by
  unfold withS
  rw [List.pairwise_append]
  refine ⟨h.filter _, ?_, ?_⟩
  · rw [List.pairwise_cons]
    exact ⟨fun y hy => show x.1 < y.1 by simpa using (List.mem_filter.1 hy).2, h.filter _⟩
  · intro a ha b hb
    have h1 : a.1 < x.1 := by simpa using (List.mem_filter.1 ha).2
    rcases List.mem_cons.1 hb with rfl | hb
    · exact h1
    · have h2 : x.1 < b.1 := by simpa using (List.mem_filter.1 hb).2
      exact Nat.lt_trans h1 h2
theorem fold_pw : ∀ (l acc : List SymR), acc.Pairwise ltS → (l.foldl withS acc).Pairwise ltS
  | [], acc, h => h
  | x :: l, acc, h => fold_pw l _ (withS_pw acc x h)
theorem neS_symm {a b : SymR} (h : neS a b) : neS b a := fun e => h e.symm
theorem fold_perm : ∀ (l acc : List SymR), (l ++ acc).Pairwise neS → (l.foldl withS acc).Perm (l ++ acc)
  | [], acc, _ => List.Perm.refl _
  | x :: l, acc, h => by
    have hx : ∀ y ∈ acc, y.1 ≠ x.1 := fun y hy => by
      have := (List.pairwise_cons.1 h).1 y (List.mem_append.2 (.inr hy))
      exact fun e => this e.symm
    have hp := withS_perm acc x hx
    have hp2 : (l ++ withS acc x).Perm (x :: l ++ acc) := (hp.append_left l).trans List.perm_middle
    have h2 : (l ++ withS acc x).Pairwise neS := (hp2.pairwise_iff neS_symm).2 h
    exact (fold_perm l _ h2).trans hp2
theorem right_ne {q z : Int} {ls : List (List SymR)} (h : rightSh (q, z, ls) = true) : ls.flatten.Pairwise neS := by
  have h9 : (inK (ls.length : Int) 1 16 && (inK z 0 64 && inK q 1 64) && decide ((cntS ls : Int) ≤ q) && rowsB ls.length z ls ls.length) = true := h
  simp only [Bool.and_eq_true] at h9
  have hrow := h9.2
  unfold rowsB at hrow
  rw [List.all_eq_true] at hrow
  have hk : ∀ k (hk : k < ls.length), ls[k].Pairwise ltS ∧ ∀ y ∈ ls[k], y.1 % ls.length = k := fun k hk => by
    have h1 := hrow k (List.mem_range.2 hk)
    have e1 : ls.getD k [] = ls[k] := by simp [List.getD, hk]
    rw [e1] at h1
    refine ⟨strB_pw h1, fun y hy => ?_⟩
    unfold strB at h1
    rw [Bool.and_eq_true, List.all_eq_true] at h1
    have h2 := h1.1 y hy
    unfold elB at h2
    rw [Bool.and_eq_true] at h2
    have h3 : ((y.1 % ls.length : Nat) : Int) = (k : Int) := by simpa using h2.2
    omega
  rw [List.pairwise_flatten]
  constructor
  · intro l hl
    obtain ⟨k, hk2, rfl⟩ := List.mem_iff_getElem.1 hl
    exact (hk k hk2).1.imp fun {a b} (h : a.1 < b.1) (e : a.1 = b.1) => by omega
  · rw [List.pairwise_iff_getElem]
    intro i j hi hj hij x hx y hy e
    have h1 := (hk i hi).2 x hx
    have h2 := (hk j hj).2 y hy
    rw [e] at h1
    omega
theorem sorted_all {q z : Int} {ls : List (List SymR)} (h : rightSh (q, z, ls) = true) {zs : List SymR} (hp : zs.Perm ls.flatten) (hs : zs.Pairwise fun a b => ¬ b.1 < a.1) : zs = allS ls := by
  have hne := right_ne h
  have hne2 : zs.Pairwise neS := (hp.pairwise_iff neS_symm).2 hne
  have hlt : zs.Pairwise ltS := (List.pairwise_and_iff.2 ⟨hs, hne2⟩).imp fun {a b} h => by
    have h1 : ¬ b.1 < a.1 := h.1
    have h2 : a.1 ≠ b.1 := h.2
    show a.1 < b.1
    omega
  have ha : (allS ls).Pairwise ltS := fold_pw _ _ List.Pairwise.nil
  have hap : (allS ls).Perm ls.flatten := by
    have := fold_perm ls.flatten [] (by rw [List.append_nil]; exact hne)
    rwa [List.append_nil] at this
  exact List.Perm.eq_of_pairwise (le := ltS) (fun a b _ _ (h1 : a.1 < b.1) (h2 : b.1 < a.1) => by omega) hlt ha (hp.trans hap.symm)
end Go.Proofs.Ytehlebeeoeghmaa
