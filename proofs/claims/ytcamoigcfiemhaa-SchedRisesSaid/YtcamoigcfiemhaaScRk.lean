/- Layer 20: threads that lock in rising order: all picks lead to the same end. -/
import Derived.Test.YtcamoigcfiemhaaScRj
import Derived.Test.YtcamoigcfiemhaaScY
namespace Go.Proofs.Ytcamoigcfiemhaa
set_option linter.unusedVariables false
set_option linter.unusedSimpArgs false
open Go.RowKit Go.Lib
set_option maxRecDepth 100000
theorem sumN_none (n : Nat) : sumN (fun _ => 0) n = 0 := by
  induction n with
  | zero => rfl
  | succ n ih => unfold sumN; rw [ih]; rfl
theorem RI.init (ths : List Th) : RI ths (newS (ths.map Th.ins)) (fun _ => 0) := by
  have hh : ∀ t, (thAt ths t).held 0 = [] := fun t => by simp [Th.held]
  refine ⟨rfl, by simp [newS], fun t ht => by simp [newS, List.getD, List.getElem?_replicate, ht], fun t ht => Nat.zero_le _, rfl, fun a ha => .inl ⟨?_, fun t ht => by rw [hh]; simp⟩, by simp [newS], rfl, by simp [newS], fun c hc => ?_⟩
  · have : a = 0 ∨ a = 1 ∨ a = 2 ∨ a = 3 := by omega
    rcases this with rfl | rfl | rfl | rfl <;> rfl
  · have h1 : (newS (ths.map Th.ins)).ce.getD c 0 = 0 := by
      have : c = 0 ∨ c = 1 ∨ c = 2 ∨ c = 3 := by omega
      rcases this with rfl | rfl | rfl | rfl <;> rfl
    rw [h1]
    symm
    exact (sumN_congr (g := fun _ => 0) _ (fun t ht => by rw [if_neg (by omega)])).trans (sumN_none _)
def remN (ths : List Th) (P : Nat → Nat) : Int := sumN (fun t => ((2 * (thAt ths t).k + 1 - P t : Nat) : Int)) ths.length
theorem remN_step {ths : List Th} {P : Nat → Nat} {t : Nat} (ht : t < ths.length) (hp : P t < 2 * (thAt ths t).k + 1) : remN ths (upd P t) = remN ths P - 1 := by
  unfold remN
  rw [sumN_upd (f := fun t => ((2 * (thAt ths t).k + 1 - P t : Nat) : Int)) (t := t) (fun u hu => by simp only [upd_ne _ hu]), if_pos ht]
  simp only [upd_self]
  omega
theorem remN_nonneg (ths : List Th) (P : Nat → Nat) : 0 ≤ remN ths P := sumN_le (fun u => by omega) _
theorem fold_rises {ths : List Th} (hok : ∀ x ∈ ths, x.ok) : ∀ (ps : List Int) (s : Sys) (P : Nat → Nat) (ws : List Int), RI ths s P → remN ths P ≤ (ps.length : Int) →
    ∃ P', RI ths (ps.foldl pickP (s, ws)).1 P' ∧ (∀ t, t < ths.length → P' t = 2 * (thAt ths t).k + 1) ∧ ((ps.foldl pickP (s, ws)).2.length : Int) = ws.length + remN ths P
  | [], s, P, ws, h, hr => by
    have h0 : remN ths P = 0 := by have := remN_nonneg ths P; simp at hr; omega
    refine ⟨P, h, fun t ht => ?_, by rw [h0]; simp⟩
    have := sumN_zero (f := fun t => ((2 * (thAt ths t).k + 1 - P t : Nat) : Int)) (fun u => by omega) _ h0 t ht
    have := h.le t ht
    omega
  | p :: ps, s, P, ws, h, hr => by
    rw [List.foldl_cons]
    by_cases hn : enN s s.th.length = []
    · have e1 : pickP (s, ws) p = (s, ws) := by unfold pickP; rw [if_pos hn]
      have hend : ∀ t, t < ths.length → P t = 2 * (thAt ths t).k + 1 := fun t ht => by
        refine Classical.byContradiction fun hne => ?_
        have h1 := h.le t ht
        obtain ⟨u, hu, hc⟩ := h.goes hok ht (by omega)
        have : u ∈ enN s s.th.length := List.mem_filter.2 ⟨List.mem_range.2 (by rw [h.thl]; exact hu), hc⟩
        rw [hn] at this
        cases this
      have h0 : remN ths P = 0 := by
        unfold remN
        rw [← sumN_none ths.length]
        exact sumN_congr _ (fun t ht => by rw [hend t ht]; omega)
      rw [e1]
      have hst := pickP_stuck (st := (s, ws)) hn ps
      rw [hst]
      exact ⟨P, h, hend, by rw [h0]; simp⟩
    · obtain ⟨m1, m2⟩ := mem_enN (pickT_mem p hn)
      rw [h.thl] at m1
      have e1 : pickP (s, ws) p = (stepS s (pickT s p), ws ++ [((pickT s p : Nat) : Int)]) := by unfold pickP; rw [if_neg hn]
      obtain ⟨hp, h2⟩ := h.step hok m1 m2
      have hrs := remN_step m1 hp
      rw [e1]
      obtain ⟨P', g1, g2, g3⟩ := fold_rises hok ps _ _ (ws ++ [((pickT s p : Nat) : Int)]) h2 (by rw [hrs]; simp at hr; omega)
      refine ⟨P', g1, g2, ?_⟩
      rw [g3, hrs, List.length_append]
      simp
      omega
theorem list4 {l : List Int} (h : l.length = 4) : l = [l.getD 0 0, l.getD 1 0, l.getD 2 0, l.getD 3 0] := by
  match l, h with
  | [a, b, c, d], _ => rfl
theorem sum_range {f : Nat → Int} {b : Int} (h : ∀ t, 0 ≤ f t ∧ f t ≤ b) : ∀ n : Nat, 0 ≤ sumN f n ∧ sumN f n ≤ b * (n : Int)
  | 0 => by simp [sumN]
  | n + 1 => by
    unfold sumN
    have h1 := sum_range h n
    have h2 := h n
    rw [show b * ((n + 1 : Nat) : Int) = b * (n : Int) + b by rw [Int.natCast_add, Int.mul_add]; simp]
    omega
theorem Th.len_le (x : Th) (hx : x.ok) : x.k ≤ 4 := by
  have h1 : x.ls.Nodup := hx.1.imp (fun h => Nat.ne_of_lt h)
  have h2 : x.ls ⊆ List.range 4 := fun a ha => List.mem_range.2 (hx.2.1 a ha)
  have := h1.length_le_of_subset h2
  simpa [Th.k] using this
theorem Th.ins_ok (x : Th) (hx : x.ok) (hn : 0 ≤ x.n ∧ x.n ≤ 999) : x.ins.all inB = true := by
  rw [List.all_eq_true]
  intro y hy
  unfold Th.ins at hy
  rcases List.mem_append.1 hy with h | h
  · obtain ⟨a, ha, rfl⟩ := List.mem_map.1 h
    have := hx.2.1 a ha
    simp [inB]; omega
  · rcases List.mem_cons.1 h with rfl | h
    · have := hx.2.2
      simp [inB]; omega
    · obtain ⟨a, ha, rfl⟩ := List.mem_map.1 h
      have := hx.2.1 a ha
      simp [inB]; omega
theorem RI.right {ths : List Th} {s : Sys} {P : Nat → Nat} (h : RI ths s P) (hok : ∀ x ∈ ths, x.ok) (h8 : ths.length ≤ 8) (hn : ∀ t, 0 ≤ (thAt ths t).n ∧ (thAt ths t).n ≤ 999) : rightS s = true := by
  have hth := h.thl
  simp only [rightS, Bool.and_eq_true]
  refine ⟨⟨?_, ?_⟩, ⟨⟨?_, ?_⟩, ?_⟩, ?_⟩
  · simp only [shapeB, Bool.and_eq_true, decide_eq_true_eq]
    refine ⟨⟨⟨⟨⟨by omega, by rw [h.pcl, hth]⟩, by rw [h.su, hth]; simp⟩, h.lol⟩, h.cel⟩, by rw [h.ch]; rfl⟩
  · unfold thrB
    rw [List.all_eq_true]
    intro t ht
    have ht' : t < ths.length := by have := List.mem_range.1 ht; omega
    have hx := okAtT hok ht'
    rw [h.row ht', h.pc t ht']
    have hk := (thAt ths t).len_le hx
    have hl := (thAt ths t).len
    have hle := h.le t ht'
    simp only [thr1B, Bool.and_eq_true, decide_eq_true_eq]
    exact ⟨⟨by omega, by omega, by omega⟩, (thAt ths t).ins_ok hx (hn t)⟩
  · unfold loB
    rw [list4 h.lol, hth]
    have hv : ∀ a, a < 4 → -1 ≤ s.lo.getD a 0 ∧ s.lo.getD a 0 ≤ (ths.length : Int) - 1 := fun a ha => by
      rcases h.lo a ha with ⟨h1, -⟩ | ⟨v, h1, h2, -, -⟩
      · rw [h1]; omega
      · rw [h2]; omega
    have v0 := hv 0 (by decide)
    have v1 := hv 1 (by decide)
    have v2 := hv 2 (by decide)
    have v3 := hv 3 (by decide)
    simp only [List.all_cons, List.all_nil, Bool.and_true, Bool.and_eq_true, decide_eq_true_eq]
    exact ⟨v0, v1, v2, v3⟩
  · rw [h.ch]; rfl
  · rw [h.su]
    unfold smL
    rw [List.all_eq_true]
    intro x hx
    rw [List.eq_of_mem_replicate hx]; rfl
  · rw [list4 h.cel]
    have hv : ∀ c, c < 4 → -1073741824 < s.ce.getD c 0 ∧ s.ce.getD c 0 < 1073741824 := fun c hc => by
      rw [h.ce c hc]
      have := sum_range (f := fun t => if (thAt ths t).c = c ∧ (thAt ths t).k < P t then (thAt ths t).n else 0) (b := 999) (fun t => by
        have := hn t
        split <;> omega) ths.length
      omega
    have v0 := hv 0 (by decide)
    have v1 := hv 1 (by decide)
    have v2 := hv 2 (by decide)
    have v3 := hv 3 (by decide)
    unfold smL smB
    simp only [List.all_cons, List.all_nil, Bool.and_true, Bool.and_eq_true, decide_eq_true_eq]
    exact ⟨v0, v1, v2, v3⟩
/-- What the cells come to. -/
def totC (ths : List Th) (c : Nat) : Int := sumN (fun t => if (thAt ths t).c = c then (thAt ths t).n else 0) ths.length
theorem rises_end {ths : List Th} (hok : ∀ x ∈ ths, x.ok) (ps : List Int) (hl : (ps.length : Int) = remN ths (fun _ => 0)) :
    ∃ P', RI ths (runS (newS (ths.map Th.ins)) ps).1 P' ∧ (∀ t, t < ths.length → P' t = 2 * (thAt ths t).k + 1) ∧ (runS (newS (ths.map Th.ins)) ps).2.length = ps.length ∧
      (runS (newS (ths.map Th.ins)) ps).1.ce = [totC ths 0, totC ths 1, totC ths 2, totC ths 3] ∧ (runS (newS (ths.map Th.ins)) ps).1.lo = [-1, -1, -1, -1] := by
  obtain ⟨P', g1, g2, g3⟩ := fold_rises hok ps (newS (ths.map Th.ins)) (fun _ => 0) [] (RI.init ths) (by omega)
  replace g1 : RI ths (runS (newS (ths.map Th.ins)) ps).1 P' := g1
  refine ⟨P', g1, g2, ?_, ?_, ?_⟩
  · have h9 : ((runS (newS (ths.map Th.ins)) ps).2.length : Int) = (([] : List Int).length : Int) + remN ths (fun _ => 0) := g3
    rw [← hl] at h9
    simp at h9
    omega
  · have hc : ∀ c, c < 4 → (runS (newS (ths.map Th.ins)) ps).1.ce.getD c 0 = totC ths c := fun c hc => by
      have := g1.ce c hc
      refine this.trans (sumN_congr _ (fun t ht => ?_))
      rw [g2 t ht]
      by_cases e : (thAt ths t).c = c
      · rw [if_pos ⟨e, by omega⟩, if_pos e]
      · rw [if_neg (fun h => e h.1), if_neg e]
    rw [list4 g1.cel]
    show [(runS (newS (ths.map Th.ins)) ps).1.ce.getD 0 0, _, _, _] = _
    rw [hc 0 (by decide), hc 1 (by decide), hc 2 (by decide), hc 3 (by decide)]
  · have hc : ∀ a, a < 4 → (runS (newS (ths.map Th.ins)) ps).1.lo.getD a 0 = -1 := fun a ha => by
      rcases g1.lo a ha with ⟨h1, -⟩ | ⟨v, h1, -, h3, -⟩
      · exact h1
      · rw [g2 v h1, Th.held_end] at h3; cases h3
    rw [list4 g1.lol]
    show [(runS (newS (ths.map Th.ins)) ps).1.lo.getD 0 0, _, _, _] = _
    rw [hc 0 (by decide), hc 1 (by decide), hc 2 (by decide), hc 3 (by decide)]
end Go.Proofs.Ytcamoigcfiemhaa
