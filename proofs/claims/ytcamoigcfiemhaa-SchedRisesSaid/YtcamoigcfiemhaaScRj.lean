/- Layer 20: what holds while threads that lock in rising order go on; they never stand still. -/
import Derived.Test.YtcamoigcfiemhaaScRi
namespace Go.Proofs.Ytcamoigcfiemhaa
set_option linter.unusedVariables false
set_option linter.unusedSimpArgs false
open Go.RowKit Go.Lib
set_option maxRecDepth 100000
def thAt (ths : List Th) (t : Nat) : Th := ths.getD t ⟨[], 0, 0⟩
structure RI (ths : List Th) (s : Sys) (P : Nat → Nat) : Prop where
  th : s.th = ths.map Th.ins
  pcl : s.pc.length = ths.length
  pc : ∀ t, t < ths.length → s.pc.getD t 0 = (P t : Int)
  le : ∀ t, t < ths.length → P t ≤ 2 * (thAt ths t).k + 1
  lol : s.lo.length = 4
  lo : ∀ a, a < 4 → (s.lo.getD a 0 = -1 ∧ ∀ t, t < ths.length → a ∉ (thAt ths t).held (P t)) ∨ ∃ t, t < ths.length ∧ s.lo.getD a 0 = (t : Int) ∧ a ∈ (thAt ths t).held (P t) ∧ ∀ u, u < ths.length → a ∈ (thAt ths u).held (P u) → u = t
  su : s.su = List.replicate ths.length 0
  ch : s.ch = [[], [], [], []]
  cel : s.ce.length = 4
  ce : ∀ c, c < 4 → s.ce.getD c 0 = sumN (fun t => if (thAt ths t).c = c ∧ (thAt ths t).k < P t then (thAt ths t).n else 0) ths.length
def upd (P : Nat → Nat) (t : Nat) : Nat → Nat := fun u => if u = t then P t + 1 else P u
theorem upd_self (P : Nat → Nat) (t : Nat) : upd P t t = P t + 1 := by simp [upd]
theorem upd_ne (P : Nat → Nat) {t u : Nat} (h : u ≠ t) : upd P t u = P u := by simp [upd, h]
section
variable {ths : List Th} {s : Sys} {P : Nat → Nat}
theorem RI.row (h : RI ths s P) {t : Nat} (ht : t < ths.length) : s.th.getD t [] = (thAt ths t).ins := by
  rw [h.th]; simp [thAt, List.getD, ht]
theorem RI.ins (h : RI ths s P) {t : Nat} (ht : t < ths.length) : insAt s t = (thAt ths t).ins.getD (P t) default := by
  unfold insAt; rw [h.row ht, h.pc t ht, Int.toNat_natCast]
theorem RI.ended (h : RI ths s P) {t : Nat} (ht : t < ths.length) : endS s t = decide (P t = 2 * (thAt ths t).k + 1) := by
  unfold endS
  rw [h.row ht, h.pc t ht, Th.len]
  rw [Bool.eq_iff_iff, beq_iff_eq, decide_eq_true_eq]
  omega
theorem RI.thl (h : RI ths s P) : s.th.length = ths.length := by rw [h.th, List.length_map]
theorem okAtT (hok : ∀ x ∈ ths, x.ok) {t : Nat} (ht : t < ths.length) : (thAt ths t).ok := by
  have : thAt ths t = ths[t] := by simp [thAt, List.getD, ht]
  rw [this]; exact hok _ (List.getElem_mem ht)
theorem RI.waits (h : RI ths s P) (hok : ∀ x ∈ ths, x.ok) {t : Nat} (ht : t < ths.length) (hp : P t < 2 * (thAt ths t).k + 1) (hn : canS s t = false) :
    P t < (thAt ths t).k ∧ ∃ u, u < ths.length ∧ (thAt ths t).ls.getD (P t) 0 ∈ (thAt ths u).held (P u) := by
  have he : endS s t = false := by rw [h.ended ht]; exact decide_eq_false (by omega)
  have hc : canI s (insAt s t) = false := by simpa [canS, he] using hn
  rw [h.ins ht] at hc
  rcases Nat.lt_trichotomy (P t) (thAt ths t).k with q | q | q
  · refine ⟨q, ?_⟩
    rw [Th.at_lock _ _ q] at hc
    have ha : (thAt ths t).ls.getD (P t) 0 < 4 := by
      rw [getD_nat _ _ q]; exact (okAtT hok ht).2.1 _ (List.getElem_mem q)
    obtain ⟨a, hae⟩ : ∃ a, a = (thAt ths t).ls.getD (P t) 0 := ⟨_, rfl⟩
    rw [← hae] at hc ha ⊢
    unfold canI at hc
    rw [if_pos rfl] at hc
    have hl : ¬ s.lo.getD a 0 = -1 := by
      intro e
      have : (s.lo.getD ((0 : Int), (a : Int), (0 : Int)).2.1.toNat 0 == -1) = true := by
        show (s.lo.getD (a : Int).toNat 0 == -1) = true
        rw [Int.toNat_natCast, e]; rfl
      rw [this] at hc; cases hc
    rcases h.lo a ha with ⟨h1, -⟩ | ⟨u, h1, h2, h3, h4⟩
    · exact absurd h1 hl
    · exact ⟨u, h1, h3⟩
  · rw [q, Th.at_add] at hc
    simp [canI] at hc
  · obtain ⟨i, hi⟩ : ∃ i, P t = (thAt ths t).k + 1 + i := ⟨P t - ((thAt ths t).k + 1), by omega⟩
    rw [hi, Th.at_unlock _ i (by omega)] at hc
    simp [canI] at hc
theorem RI.goes (h : RI ths s P) (hok : ∀ x ∈ ths, x.ok) {t : Nat} (ht : t < ths.length) (hp : P t < 2 * (thAt ths t).k + 1) : ∃ u, u < ths.length ∧ canS s u = true := by
  refine Classical.byContradiction fun hno => ?_
  have hn : ∀ u, u < ths.length → canS s u = false := fun u hu => by
    cases e : canS s u with
    | false => rfl
    | true => exact absurd ⟨u, hu, e⟩ hno
  have key : ∀ m t, t < ths.length → P t < 2 * (thAt ths t).k + 1 → 4 - (thAt ths t).ls.getD (P t) 0 ≤ m → False := by
    intro m
    induction m with
    | zero =>
      intro t ht hp hm
      obtain ⟨h1, -⟩ := h.waits hok ht hp (hn t ht)
      have ha : (thAt ths t).ls.getD (P t) 0 < 4 := by rw [getD_nat _ _ h1]; exact (okAtT hok ht).2.1 _ (List.getElem_mem h1)
      omega
    | succ m ih =>
      intro t ht hp hm
      obtain ⟨h1, u, hu, hmem⟩ := h.waits hok ht hp (hn t ht)
      have hpu : P u < 2 * (thAt ths u).k + 1 := by
        have := h.le u hu
        rcases Nat.lt_or_ge (P u) (2 * (thAt ths u).k + 1) with q | q
        · exact q
        · rw [show P u = 2 * (thAt ths u).k + 1 by omega, Th.held_end] at hmem; cases hmem
      obtain ⟨h2, -⟩ := h.waits hok hu hpu (hn u hu)
      have hlt := (thAt ths u).held_below (okAtT hok hu) (P u) h2 _ hmem
      have ha : (thAt ths u).ls.getD (P u) 0 < 4 := by rw [getD_nat _ _ h2]; exact (okAtT hok hu).2.1 _ (List.getElem_mem h2)
      exact ih u hu hpu (by omega)
  exact key _ t ht hp (Nat.le_refl _)
theorem getD_setI (l : List Int) (i j : Nat) (x : Int) (h : j < l.length) : (l.set i x).getD j 0 = if i = j then x else l.getD j 0 := by
  simp only [List.getD, List.getElem?_set]
  by_cases e : i = j
  · subst e; simp [h]
  · simp [e]
/-- The common part of a step. -/
theorem RI.mk' (h : RI ths s P) {t : Nat} (ht : t < ths.length) (hp : P t < 2 * (thAt ths t).k + 1) {s' : Sys} (e1 : s'.th = s.th) (e2 : s'.pc = s.pc.set t (s.pc.getD t 0 + 1)) (e3 : s'.lo.length = 4) (e4 : s'.ce.length = 4) (e5 : s'.su = s.su) (e6 : s'.ch = s.ch)
    (h1 : ∀ a, a < 4 → (s'.lo.getD a 0 = -1 ∧ ∀ u, u < ths.length → a ∉ (thAt ths u).held (upd P t u)) ∨ ∃ v, v < ths.length ∧ s'.lo.getD a 0 = (v : Int) ∧ a ∈ (thAt ths v).held (upd P t v) ∧ ∀ u, u < ths.length → a ∈ (thAt ths u).held (upd P t u) → u = v)
    (h2 : ∀ c, c < 4 → s'.ce.getD c 0 = sumN (fun u => if (thAt ths u).c = c ∧ (thAt ths u).k < upd P t u then (thAt ths u).n else 0) ths.length) : RI ths s' (upd P t) := by
  refine ⟨e1.trans h.th, by rw [e2, List.length_set]; exact h.pcl, fun u hu => ?_, fun u hu => ?_, e3, h1, e5.trans h.su, e6.trans h.ch, e4, h2⟩
  · rw [e2, getD_setI _ _ _ _ (by rw [h.pcl]; exact hu)]
    by_cases q : t = u
    · subst q; rw [if_pos rfl, h.pc t hu, upd_self]; omega
    · rw [if_neg q, upd_ne _ (Ne.symm q)]; exact h.pc u hu
  · by_cases q : u = t
    · subst q; rw [upd_self]; omega
    · rw [upd_ne _ q]; exact h.le u hu
theorem RI.step (h : RI ths s P) (hok : ∀ x ∈ ths, x.ok) {t : Nat} (ht : t < ths.length) (hc : canS s t = true) : P t < 2 * (thAt ths t).k + 1 ∧ RI ths (stepS s t) (upd P t) := by
  have hc' : endS s t = false ∧ canI s (insAt s t) = true := by simpa [canS] using hc
  have hp : P t < 2 * (thAt ths t).k + 1 := by
    have h1 := hc'.1
    rw [h.ended ht] at h1
    have := of_decide_eq_false h1
    have := h.le t ht
    omega
  refine ⟨hp, ?_⟩
  have hx := okAtT hok ht
  have hci := hc'.2
  rw [h.ins ht] at hci
  -- a lock that none but t may touch
  have keepLo : ∀ b, b < 4 → (∀ u, u < ths.length → (b ∈ (thAt ths u).held (upd P t u) ↔ b ∈ (thAt ths u).held (P u))) → ∀ lo' : List Int, lo'.getD b 0 = s.lo.getD b 0 →
      ((lo'.getD b 0 = -1 ∧ ∀ u, u < ths.length → b ∉ (thAt ths u).held (upd P t u)) ∨ ∃ v, v < ths.length ∧ lo'.getD b 0 = (v : Int) ∧ b ∈ (thAt ths v).held (upd P t v) ∧ ∀ u, u < ths.length → b ∈ (thAt ths u).held (upd P t u) → u = v) := by
    intro b hb hiff lo' he
    rw [he]
    rcases h.lo b hb with ⟨h1, h2⟩ | ⟨v, h1, h2, h3, h4⟩
    · exact .inl ⟨h1, fun u hu hm => h2 u hu ((hiff u hu).1 hm)⟩
    · exact .inr ⟨v, h1, h2, (hiff v h1).2 h3, fun u hu hm => h4 u hu ((hiff u hu).1 hm)⟩
  have keepCe : ((thAt ths t).k < P t + 1 ↔ (thAt ths t).k < P t) → ∀ c, c < 4 → s.ce.getD c 0 = sumN (fun u => if (thAt ths u).c = c ∧ (thAt ths u).k < upd P t u then (thAt ths u).n else 0) ths.length := by
    intro hiff c hcc
    rw [h.ce c hcc]
    refine sumN_congr _ (fun u hu => ?_)
    by_cases q : u = t
    · subst q; rw [upd_self]; simp only [hiff]
    · rw [upd_ne _ q]
  rcases Nat.lt_trichotomy (P t) (thAt ths t).k with q | q | q
  · have ha : (thAt ths t).ls.getD (P t) 0 < 4 := by rw [getD_nat _ _ q]; exact hx.2.1 _ (List.getElem_mem q)
    have hl := (thAt ths t).held_lock (P t) q
    have hins : insAt s t = (0, (((thAt ths t).ls.getD (P t) 0 : Nat) : Int), 0) := by rw [h.ins ht, Th.at_lock _ _ q]
    rw [Th.at_lock _ _ q] at hci
    obtain ⟨a, hae⟩ : ∃ a, a = (thAt ths t).ls.getD (P t) 0 := ⟨_, rfl⟩
    rw [← hae] at hci ha hl hins
    have hst : stepS s t = { bumpS s t with lo := s.lo.set a (t : Int) } := by
      unfold stepS; rw [hins]; unfold doI; rw [if_pos rfl]; rfl
    have hfree : s.lo.getD a 0 = -1 := by
      unfold canI at hci
      rw [if_pos rfl] at hci
      have h9 : (s.lo.getD (a : Int).toNat 0 == -1) = true := hci
      rw [Int.toNat_natCast] at h9
      exact eq_of_beq h9
    have hnone : ∀ u, u < ths.length → a ∉ (thAt ths u).held (P u) := by
      rcases h.lo a ha with ⟨-, h2⟩ | ⟨v, -, h2, -, -⟩
      · exact h2
      · rw [hfree] at h2; omega
    rw [hst]
    refine h.mk' ht hp rfl rfl (by show (s.lo.set a (t : Int)).length = 4; rw [List.length_set]; exact h.lol) h.cel rfl rfl (fun b hb => ?_) (keepCe (by omega))
    by_cases e : a = b
    · subst e
      refine .inr ⟨t, ht, ?_, by rw [upd_self, hl]; simp, fun u hu hm => ?_⟩
      · show (s.lo.set a (t : Int)).getD a 0 = t
        rw [getD_setI _ _ _ _ (by rw [h.lol]; exact hb), if_pos rfl]
      · refine Classical.byContradiction fun hne => ?_
        rw [upd_ne _ hne] at hm
        exact hnone u hu hm
    · refine keepLo b hb (fun u hu => ?_) _ (by show (s.lo.set a (t : Int)).getD b 0 = _; rw [getD_setI _ _ _ _ (by rw [h.lol]; exact hb), if_neg e])
      by_cases qu : u = t
      · subst qu; rw [upd_self, hl]; simp [Ne.symm e]
      · rw [upd_ne _ qu]
  · have hins : insAt s t = (2, ((thAt ths t).c : Int), (thAt ths t).n) := by rw [h.ins ht, q, Th.at_add]
    have hl := (thAt ths t).held_add
    have hst : stepS s t = { bumpS s t with ce := s.ce.set (thAt ths t).c (s.ce.getD (thAt ths t).c 0 + (thAt ths t).n) } := by
      unfold stepS; rw [hins]; unfold doI; rw [if_neg (show ¬ (2 : Int) = 0 by decide), if_neg (show ¬ (2 : Int) = 1 by decide), if_pos rfl]; rfl
    rw [hst]
    refine h.mk' ht hp rfl rfl h.lol (by show (s.ce.set _ _).length = 4; rw [List.length_set]; exact h.cel) rfl rfl (fun b hb => ?_) (fun c hcc => ?_)
    · refine keepLo b hb (fun u hu => ?_) _ rfl
      by_cases qu : u = t
      · subst qu; rw [upd_self, q, hl]
      · rw [upd_ne _ qu]
    · show (s.ce.set (thAt ths t).c (s.ce.getD (thAt ths t).c 0 + (thAt ths t).n)).getD c 0 = _
      rw [getD_setI _ _ _ _ (by rw [h.cel]; exact hcc)]
      have hs := sumN_upd (f := fun u => if (thAt ths u).c = c ∧ (thAt ths u).k < P u then (thAt ths u).n else 0) (g := fun u => if (thAt ths u).c = c ∧ (thAt ths u).k < upd P t u then (thAt ths u).n else 0) (t := t) (fun u hu => by simp only [upd_ne _ hu]) ths.length
      rw [hs, if_pos ht, ← h.ce c hcc]
      simp only [upd_self]
      by_cases e : (thAt ths t).c = c
      · rw [if_pos e, if_pos ⟨e, by omega⟩, if_neg (by omega), e]; omega
      · rw [if_neg e, if_neg (fun h => e h.1), if_neg (fun h => e h.1)]; omega
  · obtain ⟨i, hi⟩ : ∃ i, P t = (thAt ths t).k + 1 + i := ⟨P t - ((thAt ths t).k + 1), by omega⟩
    have hik : i < (thAt ths t).k := by omega
    have hins : insAt s t = (1, (((thAt ths t).ls.getD i 0 : Nat) : Int), 0) := by rw [h.ins ht, hi, Th.at_unlock _ i hik]
    have ha : (thAt ths t).ls.getD i 0 < 4 := by rw [getD_nat _ _ hik]; exact hx.2.1 _ (List.getElem_mem hik)
    have hl := (thAt ths t).held_unlock i hik
    have hnd := (thAt ths t).held_nodup hx ((thAt ths t).k + 1 + i)
    rw [hl] at hnd
    obtain ⟨a, hae⟩ : ∃ a, a = (thAt ths t).ls.getD i 0 := ⟨_, rfl⟩
    rw [← hae] at hins ha hl hnd
    have hmem : a ∈ (thAt ths t).held (P t) := by rw [hi, hl]; exact List.mem_cons_self ..
    have hlo : s.lo.getD a 0 = (t : Int) ∧ ∀ u, u < ths.length → a ∈ (thAt ths u).held (P u) → u = t := by
      rcases h.lo a ha with ⟨-, h2⟩ | ⟨v, h1, h2, h3, h4⟩
      · exact absurd hmem (h2 t ht)
      · have := h4 t ht hmem
        subst this
        exact ⟨h2, h4⟩
    have hup : upd P t t = (thAt ths t).k + 1 + (i + 1) := by rw [upd_self]; omega
    have hst : stepS s t = { bumpS s t with lo := s.lo.set a (-1) } := by
      unfold stepS; rw [hins]; unfold doI; rw [if_neg (show ¬ (1 : Int) = 0 by decide), if_pos rfl, if_pos (show (bumpS s t).lo.getD ((1, (a : Int), 0) : InR).2.1.toNat 0 = (t : Int) from hlo.1)]; rfl
    rw [hst]
    refine h.mk' ht hp rfl rfl (by show (s.lo.set a (-1)).length = 4; rw [List.length_set]; exact h.lol) h.cel rfl rfl (fun b hb => ?_) (keepCe (by omega))
    by_cases e : a = b
    · subst e
      refine .inl ⟨?_, fun u hu hm => ?_⟩
      · show (s.lo.set a (-1)).getD a 0 = -1
        rw [getD_setI _ _ _ _ (by rw [h.lol]; exact hb), if_pos rfl]
      · by_cases qu : u = t
        · subst qu
          rw [hup] at hm
          exact (List.nodup_cons.1 hnd).1 hm
        · rw [upd_ne _ qu] at hm
          exact qu (hlo.2 u hu hm)
    · refine keepLo b hb (fun u hu => ?_) _ (by show (s.lo.set a (-1)).getD b 0 = _; rw [getD_setI _ _ _ _ (by rw [h.lol]; exact hb), if_neg e])
      by_cases qu : u = t
      · subst qu; rw [hup, hi, hl]; simp [Ne.symm e]
      · rw [upd_ne _ qu]
end
end Go.Proofs.Ytcamoigcfiemhaa
