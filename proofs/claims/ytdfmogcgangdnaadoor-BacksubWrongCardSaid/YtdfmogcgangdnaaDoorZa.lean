/- Parts: RdM, RdA, RdB, BsM, Words, Bitrow1, Block1. -/
import Derived.BigQuiet
import Derived.Deep.Draws
import Derived.Deep.QuietTactic
import Derived.Laws.IdiomStrings
import Derived.Lib.Hide
import Derived.Outline
import Derived.Test.YtdfmogcgangdnaaDoorRows
import Derived.WalkKit
namespace Go.Proofs.YtdfmogcgangdnaaDoor
section
/- Rows that are numbers: what some of them span, by xor; reduced rows, and that they are one. No program. -/
set_option linter.unusedVariables false
set_option linter.unusedSimpArgs false
/-- The xor of a list of numbers. -/
def xs (S : List Nat) : Nat := S.foldr (· ^^^ ·) 0
theorem xs_cons (a : Nat) (S : List Nat) : xs (a :: S) = a ^^^ xs S := rfl
theorem xs_append (S T : List Nat) : xs (S ++ T) = xs S ^^^ xs T := by
  induction S with
  | nil => simp [xs]
  | cons a S ih => rw [List.cons_append, xs_cons, xs_cons, ih, Nat.xor_assoc]
/-- v is the xor of some of L. -/
def Sp (L : List Nat) (v : Nat) : Prop := ∃ S : List Nat, (∀ x ∈ S, x ∈ L) ∧ v = xs S
theorem sp_zero (L : List Nat) : Sp L 0 := ⟨[], (fun _ h => by cases h), rfl⟩
theorem sp_mem {L : List Nat} {r : Nat} (h : r ∈ L) : Sp L r := ⟨[r], fun x hx => by simp at hx; subst hx; exact h, by simp [xs]⟩
theorem sp_xor {L : List Nat} {v u : Nat} (hv : Sp L v) (hu : Sp L u) : Sp L (v ^^^ u) := by
  obtain ⟨S, h1, rfl⟩ := hv
  obtain ⟨T, h2, rfl⟩ := hu
  exact ⟨S ++ T, fun x hx => by rcases List.mem_append.1 hx with h | h; exact h1 x h; exact h2 x h, (xs_append S T).symm⟩
theorem sp_ind {L : List Nat} {P : Nat → Prop} (h0 : P 0) (hs : ∀ r u, r ∈ L → P u → P (r ^^^ u)) {v : Nat} (h : Sp L v) : P v := by
  obtain ⟨S, h1, rfl⟩ := h
  induction S with
  | nil => exact h0
  | cons a S ih => exact hs a _ (h1 a (by simp)) (ih (fun x hx => h1 x (by simp [hx])))
theorem sp_sub {L M : List Nat} (h : ∀ r ∈ L, Sp M r) {v : Nat} (hv : Sp L v) : Sp M v :=
  sp_ind (sp_zero M) (fun r u hr hu => sp_xor (h r hr) hu) hv
/-- Two lists that span the same. -/
def SameSp (L M : List Nat) : Prop := ∀ v, Sp L v ↔ Sp M v
theorem SameSp.of {L M : List Nat} (h1 : ∀ r ∈ L, Sp M r) (h2 : ∀ r ∈ M, Sp L r) : SameSp L M := fun _ => ⟨sp_sub h1, sp_sub h2⟩
theorem SameSp.refl (L : List Nat) : SameSp L L := fun _ => Iff.rfl
theorem SameSp.trans {L M K : List Nat} (h : SameSp L M) (k : SameSp M K) : SameSp L K := fun v => (h v).trans (k v)
theorem SameSp.symm {L M : List Nat} (h : SameSp L M) : SameSp M L := fun v => (h v).symm
theorem xor_cancel {a b : Nat} (h : a ^^^ b = 0) : a = b := by
  apply Nat.eq_of_testBit_eq
  intro i
  have := congrArg (fun x => x.testBit i) h
  simp only [Nat.testBit_xor, Nat.zero_testBit] at this
  revert this
  cases a.testBit i <;> cases b.testBit i <;> simp
theorem xor_back (a b : Nat) : a ^^^ b ^^^ b = a := by rw [Nat.xor_assoc, Nat.xor_self, Nat.xor_zero]
/-- p is the lowest place of v. -/
def IsLow (v p : Nat) : Prop := v.testBit p = true ∧ ∀ q, q < p → v.testBit q = false
theorem IsLow.uniq {v p q : Nat} (h : IsLow v p) (k : IsLow v q) : p = q := by
  rcases Nat.lt_trichotomy p q with hl | hl | hl
  · have := k.2 p hl; rw [h.1] at this; cases this
  · exact hl
  · have := h.2 q hl; rw [k.1] at this; cases this
theorem low_exists {v : Nat} (h : v ≠ 0) : ∃ p, IsLow v p := by
  have ex : ∃ p, v.testBit p = true := by
    by_cases hn : ∃ p, v.testBit p = true
    · exact hn
    · exact absurd (Nat.eq_of_testBit_eq (fun i => by
        rw [Nat.zero_testBit]
        cases hb : v.testBit i with
        | false => rfl
        | true => exact absurd ⟨i, hb⟩ hn)) h
  obtain ⟨p, hp⟩ := ex
  induction p using Nat.strongRecOn with
  | _ p ih =>
    by_cases hq : ∃ q, q < p ∧ v.testBit q = true
    · obtain ⟨q, hl, hb⟩ := hq; exact ih q hl hb
    · exact ⟨p, hp, fun q hl => by
        cases hb : v.testBit q with
        | false => rfl
        | true => exact absurd ⟨q, hl, hb⟩ hq⟩
/-- Reduced rows, and their places. -/
structure Rref (L P : List Nat) : Prop where
  len : L.length = P.length
  low : ∀ i, i < L.length → IsLow (L.getD i 0) (P.getD i 0)
  one : ∀ i j, i < L.length → j < L.length → (L.getD i 0).testBit (P.getD j 0) = decide (i = j)
  rise : ∀ i j, i < j → j < L.length → P.getD i 0 < P.getD j 0
/-- Those of the first k rows whose place has a bit in v. -/
def comb (L P : List Nat) (v : Nat) : Nat → Nat
  | 0 => 0
  | k + 1 => comb L P v k ^^^ (if v.testBit (P.getD k 0) then L.getD k 0 else 0)
theorem comb_xor (L P : List Nat) (v u k : Nat) : comb L P (v ^^^ u) k = comb L P v k ^^^ comb L P u k := by
  induction k with
  | zero => simp [comb]
  | succ k ih =>
    simp only [comb, ih, Nat.testBit_xor]
    generalize comb L P v k = a
    generalize comb L P u k = b
    generalize L.getD k 0 = c
    cases v.testBit (P.getD k 0) <;> cases u.testBit (P.getD k 0) <;> simp
    · rw [Nat.xor_assoc]
    · rw [Nat.xor_assoc, Nat.xor_assoc, Nat.xor_comm c b]
    · rw [Nat.xor_assoc, Nat.xor_comm c, Nat.xor_assoc, Nat.xor_self, Nat.xor_zero]
theorem comb_zero (L P : List Nat) (v k : Nat) (h : ∀ j, j < k → v.testBit (P.getD j 0) = false) : comb L P v k = 0 := by
  induction k with
  | zero => rfl
  | succ k ih => rw [comb, ih (fun j hj => h j (by omega)), h k (by omega)]; simp
theorem comb_row {L P : List Nat} (h : Rref L P) (i : Nat) (hi : i < L.length) : ∀ k, k ≤ L.length → comb L P (L.getD i 0) k = if i < k then L.getD i 0 else 0
  | 0, _ => by simp [comb]
  | k + 1, hk => by
    rw [comb, comb_row h i hi k (by omega), h.one i k hi (by omega)]
    by_cases e : i = k
    · subst e; simp
    · by_cases hl : i < k
      · simp [e, hl, show i < k + 1 by omega]
      · simp [e, hl, show ¬ i < k + 1 by omega]
theorem mem_getD {L : List Nat} {r : Nat} (h : r ∈ L) : ∃ i, i < L.length ∧ L.getD i 0 = r := by
  obtain ⟨i, hi, rfl⟩ := List.getElem_of_mem h
  exact ⟨i, hi, by simp [List.getD, hi]⟩
theorem getD_mem {L : List Nat} {i : Nat} (h : i < L.length) : L.getD i 0 ∈ L := by
  have : L.getD i 0 = L[i] := by simp [List.getD, h]
  rw [this]; exact List.getElem_mem _
/-- What reduced rows span is told by its bits at their places. -/
theorem Rref.comb {L P : List Nat} (h : Rref L P) {v : Nat} (hv : Sp L v) : v = comb L P v L.length := by
  refine sp_ind (P := fun v => v = YtdfmogcgangdnaaDoor.comb L P v L.length) ?_ ?_ hv
  · exact (comb_zero L P 0 _ (fun _ _ => by simp)).symm
  · intro r u hr hu
    obtain ⟨i, hi, rfl⟩ := mem_getD hr
    rw [comb_xor, ← hu, comb_row h i hi _ (Nat.le_refl _), if_pos hi]
theorem Rref.zero {L P : List Nat} (h : Rref L P) {v : Nat} (hv : Sp L v) (hz : ∀ j, j < L.length → v.testBit (P.getD j 0) = false) : v = 0 := by
  rw [h.comb hv]; exact comb_zero L P v _ hz
theorem comb_below {L P : List Nat} (h : Rref L P) (v q i : Nat) (hi : ∀ j, j < i → v.testBit (P.getD j 0) = false) (hq : i < L.length → q < P.getD i 0) : ∀ k, k ≤ L.length → (YtdfmogcgangdnaaDoor.comb L P v k).testBit q = false
  | 0, _ => by simp [YtdfmogcgangdnaaDoor.comb]
  | k + 1, hk => by
    rw [YtdfmogcgangdnaaDoor.comb, Nat.testBit_xor, comb_below h v q i hi hq k (by omega)]
    by_cases hl : k < i
    · rw [hi k hl]; simp
    · cases v.testBit (P.getD k 0) with
      | false => simp
      | true =>
        have hr : P.getD i 0 ≤ P.getD k 0 := by
          rcases Nat.lt_or_ge i k with h1 | h1
          · exact Nat.le_of_lt (h.rise i k h1 (by omega))
          · obtain rfl : i = k := by omega
            exact Nat.le_refl _
        have := (h.low k (by omega)).2 q (by have := hq (by omega); omega)
        rw [if_pos rfl, this]; rfl
/-- The places are the lowest ones of what is spanned. -/
theorem Rref.place {L P : List Nat} (h : Rref L P) (p : Nat) : (p ∈ P) ↔ ∃ v, Sp L v ∧ IsLow v p := by
  constructor
  · intro hp
    obtain ⟨i, hi, rfl⟩ := mem_getD hp
    have hi' : i < L.length := by rw [h.len]; exact hi
    exact ⟨_, sp_mem (getD_mem hi'), h.low i hi'⟩
  · rintro ⟨v, hv, hl⟩
    have ex : ∃ i, i < L.length ∧ v.testBit (P.getD i 0) = true := by
      by_cases hn : ∃ i, i < L.length ∧ v.testBit (P.getD i 0) = true
      · exact hn
      · have := h.zero hv (fun j hj => by
          cases hb : v.testBit (P.getD j 0) with
          | false => rfl
          | true => exact absurd ⟨j, hj, hb⟩ hn)
        rw [this] at hl
        have h1 := hl.1
        simp at h1
    obtain ⟨i, hi, hb, hmin⟩ : ∃ i, i < L.length ∧ v.testBit (P.getD i 0) = true ∧ ∀ j, j < i → v.testBit (P.getD j 0) = false := by
      obtain ⟨i, hi, hb⟩ := ex
      induction i using Nat.strongRecOn with
      | _ i ih =>
        by_cases hq : ∃ q, q < i ∧ v.testBit (P.getD q 0) = true
        · obtain ⟨q, hl, hb⟩ := hq; exact ih q hl (by omega) hb
        · exact ⟨i, hi, hb, fun q hl => by
            cases hb : v.testBit (P.getD q 0) with
            | false => rfl
            | true => exact absurd ⟨q, hl, hb⟩ hq⟩
    have hlow : IsLow v (P.getD i 0) := ⟨hb, fun q hq => by rw [h.comb hv]; exact comb_below h v q i hmin (fun _ => hq) _ (Nat.le_refl _)⟩
    rw [hl.uniq hlow]
    exact getD_mem (by rw [← h.len]; exact hi)
theorem rising_uniq : ∀ (P Q : List Nat), P.Pairwise (· < ·) → Q.Pairwise (· < ·) → (∀ x, x ∈ P ↔ x ∈ Q) → P = Q
  | [], [], _, _, _ => rfl
  | [], q :: Q, _, _, h => by have := (h q).2 (by simp); cases this
  | p :: P, [], _, _, h => by have := (h p).1 (by simp); cases this
  | p :: P, q :: Q, hp, hq, h => by
    have hp' := List.pairwise_cons.1 hp
    have hq' := List.pairwise_cons.1 hq
    have e : p = q := by
      have h1 := (h p).1 (by simp)
      have h2 := (h q).2 (by simp)
      rcases List.mem_cons.1 h1 with h1 | h1
      · exact h1
      · rcases List.mem_cons.1 h2 with h2 | h2
        · exact h2.symm
        · have := hp'.1 q h2; have := hq'.1 p h1; omega
    subst e
    congr 1
    refine rising_uniq P Q hp'.2 hq'.2 fun x => ⟨fun hx => ?_, fun hx => ?_⟩
    · rcases List.mem_cons.1 ((h x).1 (by simp [hx])) with h1 | h1
      · have := hp'.1 x hx; omega
      · exact h1
    · rcases List.mem_cons.1 ((h x).2 (by simp [hx])) with h1 | h1
      · have := hq'.1 x hx; omega
      · exact h1
theorem Rref.pairwise {L P : List Nat} (h : Rref L P) : P.Pairwise (· < ·) := by
  rw [List.pairwise_iff_getElem]
  intro i j hi hj hij
  have := h.rise i j hij (by rw [h.len]; exact hj)
  simpa [List.getD, hi, hj] using this
/-- Reduced rows that span the same are the same. -/
theorem rref_uniq {L P M Q : List Nat} (h : Rref L P) (k : Rref M Q) (hs : SameSp L M) : L = M ∧ P = Q := by
  have hP : P = Q := rising_uniq P Q h.pairwise k.pairwise fun x => by
    rw [h.place, k.place]
    exact ⟨fun ⟨v, a, b⟩ => ⟨v, (hs v).1 a, b⟩, fun ⟨v, a, b⟩ => ⟨v, (hs v).2 a, b⟩⟩
  subst hP
  have hl : L.length = M.length := h.len.trans k.len.symm
  refine ⟨List.ext_getElem hl fun i h1 h2 => ?_, rfl⟩
  have hz : L.getD i 0 ^^^ M.getD i 0 = 0 := h.zero (sp_xor (sp_mem (getD_mem h1)) ((hs _).2 (sp_mem (getD_mem h2)))) fun j hj => by
    rw [Nat.testBit_xor, h.one i j h1 hj, k.one i j h2 (by omega)]; simp
  have := xor_cancel hz
  simpa [List.getD, h1, h2] using this
end
section
/- Rows reduced column by column. No program. -/
set_option linter.unusedVariables false
set_option linter.unusedSimpArgs false
def swapL (L : List Nat) (d i : Nat) : List Nat := (L.set d (L.getD i 0)).set i (L.getD d 0)
def clearL (L : List Nat) (d c : Nat) : List Nat := (List.range L.length).map fun j => if j ≠ d ∧ (L.getD j 0).testBit c = true then L.getD j 0 ^^^ L.getD d 0 else L.getD j 0
theorem swapL_len (L : List Nat) (d i : Nat) : (swapL L d i).length = L.length := by simp [swapL]
theorem clearL_len (L : List Nat) (d c : Nat) : (clearL L d c).length = L.length := by simp [clearL]
theorem swapL_at (L : List Nat) (d i j : Nat) (hd : d < L.length) (hi : i < L.length) : (swapL L d i).getD j 0 = if j = i then L.getD d 0 else if j = d then L.getD i 0 else L.getD j 0 := by
  unfold swapL
  simp only [List.getD, List.getElem?_set, List.length_set]
  by_cases h1 : j = i
  · subst h1; simp [hi]
  · by_cases h2 : j = d
    · subst h2; simp [h1, Ne.symm h1, hd]
    · simp [h1, h2, Ne.symm h1, Ne.symm h2]
theorem clearL_at (L : List Nat) (d c j : Nat) (hj : j < L.length) : (clearL L d c).getD j 0 = if j ≠ d ∧ (L.getD j 0).testBit c = true then L.getD j 0 ^^^ L.getD d 0 else L.getD j 0 := by
  simp [clearL, List.getD, hj]
structure Work (orig L : List Nat) (d c : Nat) (P : List Nat) : Prop where
  span : SameSp orig L
  size : L.length = orig.length
  dp : P.length = d
  dl : d ≤ L.length
  low : ∀ i, i < d → IsLow (L.getD i 0) (P.getD i 0)
  lt : ∀ i, i < d → P.getD i 0 < c
  rise : ∀ i j, i < j → j < d → P.getD i 0 < P.getD j 0
  one : ∀ i j, i < L.length → j < d → (L.getD i 0).testBit (P.getD j 0) = decide (i = j)
  zero : ∀ i, d ≤ i → i < L.length → ∀ q, q < c → (L.getD i 0).testBit q = false
theorem work_start (orig : List Nat) : Work orig orig 0 0 [] :=
  ⟨SameSp.refl _, rfl, rfl, Nat.zero_le _, fun _ h => absurd h (Nat.not_lt_zero _), fun _ h => absurd h (Nat.not_lt_zero _), fun _ _ _ h => absurd h (Nat.not_lt_zero _), fun _ _ _ h => absurd h (Nat.not_lt_zero _), fun _ _ _ _ h => absurd h (Nat.not_lt_zero _)⟩
theorem work_none {orig L P : List Nat} {d c : Nat} (h : Work orig L d c P) (hn : ∀ i, d ≤ i → i < L.length → (L.getD i 0).testBit c = false) : Work orig L d (c + 1) P :=
  ⟨h.span, h.size, h.dp, h.dl, h.low, fun i hi => by have := h.lt i hi; omega, h.rise, h.one, fun i h1 h2 q hq => by
    by_cases e : q = c
    · subst e; exact hn i h1 h2
    · exact h.zero i h1 h2 q (by omega)⟩
theorem swap_span (L : List Nat) (d i : Nat) (hd : d < L.length) (hi : i < L.length) : SameSp L (swapL L d i) := by
  refine SameSp.of (fun r hr => ?_) (fun r hr => ?_)
  · obtain ⟨j, hj, rfl⟩ := mem_getD hr
    by_cases h1 : j = i
    · subst h1
      have e := swapL_at L d j d hd hi
      by_cases h2 : d = j
      · subst h2; rw [if_pos rfl] at e; rw [← e]; exact sp_mem (getD_mem (by rw [swapL_len]; exact hd))
      · rw [if_neg h2, if_pos rfl] at e; rw [← e]; exact sp_mem (getD_mem (by rw [swapL_len]; exact hd))
    · by_cases h2 : j = d
      · subst h2
        have e := swapL_at L j i i hd hi
        rw [if_pos rfl] at e; rw [← e]; exact sp_mem (getD_mem (by rw [swapL_len]; exact hi))
      · have e := swapL_at L d i j hd hi
        rw [if_neg h1, if_neg h2] at e; rw [← e]; exact sp_mem (getD_mem (by rw [swapL_len]; exact hj))
  · obtain ⟨j, hj, rfl⟩ := mem_getD hr
    rw [swapL_len] at hj
    rw [swapL_at L d i j hd hi]
    split
    · exact sp_mem (getD_mem hd)
    · split
      · exact sp_mem (getD_mem hi)
      · exact sp_mem (getD_mem hj)
theorem clear_span (L : List Nat) (d c : Nat) (hd : d < L.length) : SameSp L (clearL L d c) := by
  have own : Sp (clearL L d c) (L.getD d 0) := by
    have e := clearL_at L d c d hd
    simp only [ne_eq, not_true_eq_false, false_and, if_false] at e
    rw [← e]; exact sp_mem (getD_mem (by rw [clearL_len]; exact hd))
  refine SameSp.of (fun r hr => ?_) (fun r hr => ?_)
  · obtain ⟨j, hj, rfl⟩ := mem_getD hr
    have m : Sp (clearL L d c) ((clearL L d c).getD j 0) := sp_mem (getD_mem (by rw [clearL_len]; exact hj))
    rw [clearL_at L d c j hj] at m
    split at m
    · have := sp_xor m own
      rw [xor_back] at this; exact this
    · exact m
  · obtain ⟨j, hj, rfl⟩ := mem_getD hr
    rw [clearL_len] at hj
    rw [clearL_at L d c j hj]
    split
    · exact sp_xor (sp_mem (getD_mem hj)) (sp_mem (getD_mem hd))
    · exact sp_mem (getD_mem hj)
theorem getD_snoc (P : List Nat) (c j : Nat) : (P ++ [c]).getD j 0 = if j < P.length then P.getD j 0 else if j = P.length then c else 0 := by
  by_cases h : j < P.length
  · rw [if_pos h]; simp only [List.getD, List.getElem?_append_left h]
  · by_cases e : j = P.length
    · subst e; simp [List.getD]
    · rw [if_neg h, if_neg e]
      have : (P ++ [c])[j]? = none := List.getElem?_eq_none (by simp; omega)
      simp [List.getD, this]
theorem work_swap {orig L P : List Nat} {d c i : Nat} (h : Work orig L d c P) (h1 : d ≤ i) (h2 : i < L.length) : Work orig (swapL L d i) d c P := by
  have hd : d < L.length := by omega
  refine ⟨h.span.trans (swap_span L d i hd h2), (swapL_len _ _ _).trans h.size, h.dp, by rw [swapL_len]; exact h.dl, fun j hj => ?_, h.lt, h.rise, fun j k hj hk => ?_, fun j hj1 hj2 q hq => ?_⟩
  · rw [swapL_at L d i j hd h2, if_neg (by omega), if_neg (by omega)]; exact h.low j hj
  · rw [swapL_len] at hj
    rw [swapL_at L d i j hd h2]
    split
    · rename_i e; subst e; rw [h.one d k hd hk]; simp; omega
    · split
      · rename_i e; subst e; rw [h.one i k h2 hk]; simp; omega
      · exact h.one j k hj hk
  · rw [swapL_len] at hj2
    rw [swapL_at L d i j hd h2]
    split
    · exact h.zero d (Nat.le_refl _) hd q hq
    · split
      · exact h.zero i h1 h2 q hq
      · exact h.zero j hj1 hj2 q hq
theorem work_clear {orig L P : List Nat} {d c : Nat} (h : Work orig L d c P) (hd : d < L.length) (hb : (L.getD d 0).testBit c = true) : Work orig (clearL L d c) (d + 1) (c + 1) (P ++ [c]) := by
  have hz := h.zero d (Nat.le_refl _) hd
  have low0 : ∀ j, j < L.length → ∀ q, q < c → ((clearL L d c).getD j 0).testBit q = (L.getD j 0).testBit q := fun j hj q hq => by
    rw [clearL_at L d c j hj]
    split
    · rw [Nat.testBit_xor, hz q hq]; simp
    · rfl
  have atc : ∀ j, j < L.length → ((clearL L d c).getD j 0).testBit c = decide (j = d) := fun j hj => by
    rw [clearL_at L d c j hj]
    by_cases e : j = d
    · subst e; rw [if_neg (fun k => k.1 rfl), hb]; simp
    · by_cases b : (L.getD j 0).testBit c = true
      · rw [if_pos ⟨e, b⟩, Nat.testBit_xor, b, hb]; simp [e]
      · rw [if_neg (fun k => b k.2), Bool.eq_false_iff.2 b]; simp [e]
  refine ⟨h.span.trans (clear_span L d c hd), (clearL_len _ _ _).trans h.size, by rw [List.length_append, h.dp]; rfl, by rw [clearL_len]; omega, fun j hj => ?_, fun j hj => ?_, fun j k hjk hk => ?_, fun j k hj hk => ?_, fun j h1 h2 q hq => ?_⟩
  · rw [getD_snoc, h.dp]
    by_cases hjd : j < d
    · rw [if_pos hjd]
      have hp := h.lt j hjd
      have hl := h.low j hjd
      exact ⟨by rw [low0 j (by omega) _ hp]; exact hl.1, fun q hq => by rw [low0 j (by omega) q (by omega)]; exact hl.2 q hq⟩
    · obtain rfl : j = d := by omega
      rw [if_neg (by omega), if_pos rfl]
      exact ⟨by rw [atc j hd]; simp, fun q hq => by rw [low0 j hd q hq]; exact hz q hq⟩
  · rw [getD_snoc, h.dp]
    by_cases hjd : j < d
    · rw [if_pos hjd]; have := h.lt j hjd; omega
    · rw [if_neg hjd, if_pos (by omega)]; omega
  · rw [getD_snoc, getD_snoc, h.dp]
    rw [if_pos (show j < d by omega)]
    by_cases hkd : k < d
    · rw [if_pos hkd]; exact h.rise j k hjk hkd
    · rw [if_neg hkd, if_pos (by omega)]; exact h.lt j (by omega)
  · rw [clearL_len] at hj
    rw [getD_snoc, h.dp]
    by_cases hkd : k < d
    · rw [if_pos hkd, low0 j hj _ (h.lt k hkd)]; exact h.one j k hj hkd
    · obtain rfl : k = d := by omega
      rw [if_neg (by omega), if_pos rfl]; exact atc j hj
  · rw [clearL_len] at h2
    by_cases e : q = c
    · subst e; rw [atc j h2]; simp; omega
    · rw [low0 j h2 q (by omega)]; exact h.zero j (by omega) h2 q (by omega)
theorem sp_lt {L : List Nat} {n : Nat} (h : ∀ r ∈ L, r < 2 ^ n) {v : Nat} (hv : Sp L v) : v < 2 ^ n :=
  sp_ind (P := fun v => v < 2 ^ n) (Nat.two_pow_pos n) (fun r u hr hu => Nat.xor_lt_two_pow (h r hr) hu) hv
theorem getD_take (L : List Nat) (d i : Nat) (h : i < d) : (L.take d).getD i 0 = L.getD i 0 := by simp [List.getD, List.getElem?_take, h]
theorem work_end {orig L P : List Nat} {d n : Nat} (h : Work orig L d n P) (hl : ∀ r ∈ orig, r < 2 ^ n) : Rref (L.take d) P ∧ SameSp orig (L.take d) := by
  have hlen : (L.take d).length = d := by rw [List.length_take]; have := h.dl; omega
  have hzero : ∀ i, d ≤ i → i < L.length → L.getD i 0 = 0 := fun i h1 h2 => by
    apply Nat.eq_of_testBit_eq
    intro q
    rw [Nat.zero_testBit]
    by_cases hq : q < n
    · exact h.zero i h1 h2 q hq
    · have hlt : L.getD i 0 < 2 ^ n := sp_lt hl ((h.span _).2 (sp_mem (getD_mem h2)))
      exact Nat.testBit_lt_two_pow (Nat.lt_of_lt_of_le hlt (Nat.pow_le_pow_right (by omega) (by omega)))
  refine ⟨⟨by rw [hlen, h.dp], fun i hi => ?_, fun i j hi hj => ?_, fun i j hij hj => ?_⟩, h.span.trans (SameSp.of (fun r hr => ?_) (fun r hr => ?_))⟩
  · rw [hlen] at hi; rw [getD_take L d i hi]; exact h.low i hi
  · rw [hlen] at hi hj; rw [getD_take L d i hi]; exact h.one i j (by have := h.dl; omega) hj
  · rw [hlen] at hj; exact h.rise i j hij hj
  · obtain ⟨i, hi, rfl⟩ := mem_getD hr
    by_cases hd : i < d
    · rw [← getD_take L d i hd]; exact sp_mem (getD_mem (by rw [hlen]; exact hd))
    · rw [hzero i (by omega) hi]; exact sp_zero _
  · obtain ⟨i, hi, rfl⟩ := mem_getD hr
    rw [hlen] at hi
    rw [getD_take L d i hi]; exact sp_mem (getD_mem (by have := h.dl; omega))
end
section
/- Rows reduced one behind the other: what is left of a row, and where it is put. No program. -/
set_option linter.unusedVariables false
set_option linter.unusedSimpArgs false
def leftN (L P : List Nat) (r : Nat) : Nat → Nat
  | 0 => r
  | k + 1 => if (leftN L P r k).testBit (P.getD k 0) then leftN L P r k ^^^ L.getD k 0 else leftN L P r k
theorem leftN_bits {L P : List Nat} (h : Rref L P) (r : Nat) : ∀ k, k ≤ L.length → ∀ j, j < L.length → (leftN L P r k).testBit (P.getD j 0) = if j < k then false else r.testBit (P.getD j 0)
  | 0, _, j, _ => by simp [leftN]
  | k + 1, hk, j, hj => by
    have ih := leftN_bits h r k (by omega)
    rw [leftN]
    have hkk := ih k (by omega)
    rw [if_neg (by omega)] at hkk
    by_cases hb : (leftN L P r k).testBit (P.getD k 0) = true
    · rw [if_pos hb, Nat.testBit_xor, h.one k j (by omega) hj, ih j hj]
      by_cases e : k = j
      · subst e
        rw [if_neg (by omega), ← hkk, hb]; simp
      · by_cases hl : j < k
        · simp [e, hl, show j < k + 1 by omega]
        · simp [e, hl, show ¬ j < k + 1 by omega]
    · rw [if_neg hb, ih j hj]
      by_cases e : k = j
      · subst e
        rw [if_neg (by omega), if_pos (by omega), ← hkk]
        simpa using hb
      · by_cases hl : j < k
        · simp [hl, show j < k + 1 by omega]
        · simp [hl, show ¬ j < k + 1 by omega]
theorem leftN_span (L P : List Nat) (r : Nat) : ∀ k, k ≤ L.length → Sp L (r ^^^ leftN L P r k)
  | 0, _ => by simp only [leftN, Nat.xor_self]; exact sp_zero L
  | k + 1, hk => by
    have ih := leftN_span L P r k (by omega)
    rw [leftN]
    split
    · rw [← Nat.xor_assoc]; exact sp_xor ih (sp_mem (getD_mem (by omega)))
    · exact ih
/-- What is left is 0 just if the row was spanned. -/
theorem left_zero {L P : List Nat} (h : Rref L P) (r : Nat) : leftN L P r L.length = 0 ↔ Sp L r := by
  have hs := leftN_span L P r L.length (Nat.le_refl _)
  constructor
  · intro h0
    rw [h0, Nat.xor_zero] at hs; exact hs
  · intro hr
    refine h.zero ?_ fun j hj => ?_
    · have := sp_xor hr hs
      rw [← Nat.xor_assoc, Nat.xor_self, Nat.zero_xor] at this; exact this
    · rw [leftN_bits h r _ (Nat.le_refl _) j hj, if_pos hj]
/-- Where a place comes among rising ones. -/
theorem cut_place {L P : List Nat} (h : Rref L P) (a : Nat) (hn : a ∉ P) : ∃ m, m ≤ L.length ∧ (∀ i, i < m → P.getD i 0 < a) ∧ (∀ i, m ≤ i → i < L.length → a < P.getD i 0) := by
  have step : ∀ k, k ≤ L.length → ∃ m, m ≤ k ∧ (∀ i, i < m → P.getD i 0 < a) ∧ (∀ i, m ≤ i → i < k → a < P.getD i 0) := by
    intro k
    induction k with
    | zero => exact fun _ => ⟨0, Nat.le_refl _, fun i hi => absurd hi (Nat.not_lt_zero _), fun i _ hi => absurd hi (Nat.not_lt_zero _)⟩
    | succ k ih =>
      intro hk
      obtain ⟨m, h1, h2, h3⟩ := ih (by omega)
      have hne : P.getD k 0 ≠ a := fun e => hn (e ▸ getD_mem (by rw [← h.len]; omega))
      by_cases hlt : P.getD k 0 < a
      · refine ⟨k + 1, Nat.le_refl _, fun i hi => ?_, fun i h4 h5 => by omega⟩
        by_cases e : i = k
        · subst e; exact hlt
        · have := h.rise i k (by omega) (by omega); omega
      · refine ⟨m, by omega, h2, fun i h4 h5 => ?_⟩
        by_cases e : i = k
        · subst e; omega
        · exact h3 i h4 (by omega)
  exact step L.length (Nat.le_refl _)
def putW (L : List Nat) (r a m : Nat) : List Nat := (L.take m).map (fun x => if x.testBit a then x ^^^ r else x) ++ r :: L.drop m
def putP (P : List Nat) (a m : Nat) : List Nat := P.take m ++ a :: P.drop m
theorem putW_at (L : List Nat) (r a m i : Nat) (hm : m ≤ L.length) (hi : i < L.length + 1) : (putW L r a m).getD i 0 = if i < m then (if (L.getD i 0).testBit a then L.getD i 0 ^^^ r else L.getD i 0) else if i = m then r else L.getD (i - 1) 0 := by
  unfold putW
  by_cases h1 : i < m
  · have hl : i < L.length := by omega
    rw [if_pos h1]
    simp only [List.getD]
    rw [List.getElem?_append_left (by simp; omega)]
    simp [List.getElem?_take, h1, hl]
  · rw [if_neg h1]
    simp only [List.getD]
    rw [List.getElem?_append_right (by simp; omega)]
    have e : i - ((L.take m).map (fun x => if x.testBit a then x ^^^ r else x)).length = i - m := by simp; omega
    rw [e]
    by_cases h2 : i = m
    · subst h2; simp
    · rw [if_neg h2]
      obtain ⟨d, hd⟩ : ∃ d, i - m = d + 1 := ⟨i - m - 1, by omega⟩
      rw [hd, List.getElem?_cons_succ, List.getElem?_drop]
      congr 2; omega
theorem putP_at (P : List Nat) (a m i : Nat) (hm : m ≤ P.length) (hi : i < P.length + 1) : (putP P a m).getD i 0 = if i < m then P.getD i 0 else if i = m then a else P.getD (i - 1) 0 := by
  unfold putP
  by_cases h1 : i < m
  · rw [if_pos h1]
    simp only [List.getD]
    rw [List.getElem?_append_left (by simp; omega), List.getElem?_take, if_pos h1]
  · rw [if_neg h1]
    simp only [List.getD]
    rw [List.getElem?_append_right (by simp; omega)]
    have e : i - (P.take m).length = i - m := by simp; omega
    rw [e]
    by_cases h2 : i = m
    · subst h2; simp
    · rw [if_neg h2]
      obtain ⟨d, hd⟩ : ∃ d, i - m = d + 1 := ⟨i - m - 1, by omega⟩
      rw [hd, List.getElem?_cons_succ, List.getElem?_drop]
      congr 2; omega
theorem putW_len (L : List Nat) (r a m : Nat) (hm : m ≤ L.length) : (putW L r a m).length = L.length + 1 := by simp [putW]; omega
theorem putP_len (P : List Nat) (a m : Nat) (hm : m ≤ P.length) : (putP P a m).length = P.length + 1 := by simp [putP]; omega
/-- A row with a place of its own is put to reduced ones. -/
theorem put_rref {L P : List Nat} (h : Rref L P) (r a m : Nat) (hl : IsLow r a) (hz : ∀ j, j < L.length → r.testBit (P.getD j 0) = false) (hm : m ≤ L.length)
    (h1 : ∀ i, i < m → P.getD i 0 < a) (h2 : ∀ i, m ≤ i → i < L.length → a < P.getD i 0) : Rref (putW L r a m) (putP P a m) := by
  have hmP : m ≤ P.length := by rw [← h.len]; exact hm
  have hLP := h.len
  have lw := putW_len L r a m hm
  have row : ∀ i, i < L.length + 1 → ∀ q, (∀ j, j < L.length → q = P.getD j 0 → ((putW L r a m).getD i 0).testBit q = (if i < m then L.getD i 0 else if i = m then r else L.getD (i - 1) 0).testBit q) := fun i hi q j hj e => by
    rw [putW_at L r a m i hm hi]
    split
    · split
      · rw [Nat.testBit_xor, e, hz j hj]; simp
      · rfl
    · rfl
  have rowa : ∀ i, i < L.length + 1 → ((putW L r a m).getD i 0).testBit a = decide (i = m) := fun i hi => by
    rw [putW_at L r a m i hm hi]
    by_cases e1 : i < m
    · rw [if_pos e1]
      by_cases hb : (L.getD i 0).testBit a = true
      · rw [if_pos hb, Nat.testBit_xor, hb, hl.1]; simp; omega
      · rw [if_neg hb, Bool.eq_false_iff.2 hb]; simp; omega
    · rw [if_neg e1]
      by_cases e2 : i = m
      · rw [if_pos e2, hl.1]; simp [e2]
      · rw [if_neg e2, (h.low (i - 1) (by omega)).2 a (h2 (i - 1) (by omega) (by omega))]; simp [e2]
  refine ⟨by rw [lw, putP_len P a m hmP, h.len], fun i hi => ?_, fun i j hi hj => ?_, fun i j hij hj => ?_⟩
  · rw [lw] at hi
    rw [putP_at P a m i hmP (by omega)]
    by_cases e1 : i < m
    · rw [if_pos e1, putW_at L r a m i hm hi, if_pos e1]
      have hlo := h.low i (by omega)
      have hlt := h1 i e1
      split
      · exact ⟨by rw [Nat.testBit_xor, hlo.1, hl.2 _ hlt]; rfl, fun q hq => by rw [Nat.testBit_xor, hlo.2 q hq, hl.2 q (by omega)]; rfl⟩
      · exact hlo
    · rw [if_neg e1, putW_at L r a m i hm hi, if_neg e1]
      split
      · exact hl
      · exact h.low (i - 1) (by omega)
  · rw [lw] at hi hj
    rw [putP_at P a m j hmP (by omega)]
    by_cases e1 : j < m
    · rw [if_pos e1, row i hi _ j (by omega) rfl]
      by_cases f1 : i < m
      · rw [if_pos f1]; exact h.one i j (by omega) (by omega)
      · rw [if_neg f1]
        by_cases f2 : i = m
        · rw [if_pos f2, hz j (by omega)]; simp; omega
        · rw [if_neg f2, h.one (i - 1) j (by omega) (by omega)]; congr 1; apply propext; omega
    · rw [if_neg e1]
      by_cases e2 : j = m
      · rw [if_pos e2, rowa i hi, e2]
      · rw [if_neg e2, row i hi _ (j - 1) (by omega) rfl]
        by_cases f1 : i < m
        · rw [if_pos f1, h.one i (j - 1) (by omega) (by omega)]; congr 1; apply propext; omega
        · rw [if_neg f1]
          by_cases f2 : i = m
          · rw [if_pos f2, hz (j - 1) (by omega)]; simp; omega
          · rw [if_neg f2, h.one (i - 1) (j - 1) (by omega) (by omega)]; congr 1; apply propext; omega
  · rw [lw] at hj
    rw [putP_at P a m i hmP (by omega), putP_at P a m j hmP (by omega)]
    by_cases e1 : j < m
    · rw [if_pos (by omega), if_pos e1]; exact h.rise i j hij (by omega)
    · rw [if_neg e1]
      by_cases e2 : j = m
      · rw [if_pos e2, if_pos (by omega)]; exact h1 i (by omega)
      · rw [if_neg e2]
        by_cases f1 : i < m
        · rw [if_pos f1]; have := h1 i f1; have := h2 (j - 1) (by omega) (by omega); omega
        · rw [if_neg f1]
          by_cases f2 : i = m
          · rw [if_pos f2]; exact h2 (j - 1) (by omega) (by omega)
          · rw [if_neg f2]; exact h.rise (i - 1) (j - 1) (by omega) (by omega)
theorem put_span {L : List Nat} (r a m : Nat) (hm : m ≤ L.length) : SameSp (L ++ [r]) (putW L r a m) := by
  have own : Sp (putW L r a m) r := by
    have e := putW_at L r a m m hm (by omega)
    rw [if_neg (by omega), if_pos rfl] at e
    have := sp_mem (getD_mem (L := putW L r a m) (i := m) (by rw [putW_len L r a m hm]; omega))
    rw [e] at this; exact this
  have ownL : Sp (L ++ [r]) r := sp_mem (by simp)
  have mem : ∀ i, i < L.length → Sp (L ++ [r]) (L.getD i 0) := fun i hi => sp_mem (List.mem_append.2 (.inl (getD_mem hi)))
  refine SameSp.of (fun x hx => ?_) (fun x hx => ?_)
  · rcases List.mem_append.1 hx with hx | hx
    · obtain ⟨i, hi, rfl⟩ := mem_getD hx
      by_cases h1 : i < m
      · have e := putW_at L r a m i hm (by omega)
        rw [if_pos h1] at e
        have := sp_mem (getD_mem (L := putW L r a m) (i := i) (by rw [putW_len L r a m hm]; omega))
        rw [e] at this
        split at this
        · have := sp_xor this own; rw [xor_back] at this; exact this
        · exact this
      · have e := putW_at L r a m (i + 1) hm (by omega)
        rw [if_neg (by omega), if_neg (by omega), Nat.add_sub_cancel] at e
        have := sp_mem (getD_mem (L := putW L r a m) (i := i + 1) (by rw [putW_len L r a m hm]; omega))
        rw [e] at this; exact this
    · simp at hx; subst hx; exact own
  · obtain ⟨i, hi, rfl⟩ := mem_getD hx
    rw [putW_len L r a m hm] at hi
    rw [putW_at L r a m i hm hi]
    split
    · split
      · exact sp_xor (mem i (by omega)) ownL
      · exact mem i (by omega)
    · split
      · exact ownL
      · exact mem (i - 1) (by omega)
/-- One row more: the same rows span it, or there is one reduced row more. -/
theorem rref_more {L P : List Nat} (h : Rref L P) (r : Nat) : ∃ M Q, Rref M Q ∧ SameSp (L ++ [r]) M ∧ (Sp L r → M = L) ∧ (¬ Sp L r → M.length = L.length + 1) := by
  by_cases hs : Sp L r
  · refine ⟨L, P, h, SameSp.of (fun x hx => ?_) (fun x hx => sp_mem (List.mem_append.2 (.inl hx))), fun _ => rfl, fun k => absurd hs k⟩
    rcases List.mem_append.1 hx with hx | hx
    · exact sp_mem hx
    · simp at hx; subst hx; exact hs
  · have hne : leftN L P r L.length ≠ 0 := fun e => hs ((left_zero h r).1 e)
    have hsp := leftN_span L P r L.length (Nat.le_refl _)
    have hz : ∀ j, j < L.length → (leftN L P r L.length).testBit (P.getD j 0) = false := fun j hj => by rw [leftN_bits h r _ (Nat.le_refl _) j hj, if_pos hj]
    generalize leftN L P r L.length = x at *
    obtain ⟨a, ha⟩ := low_exists hne
    have hn : a ∉ P := fun hp => by
      obtain ⟨j, hj, rfl⟩ := mem_getD hp
      have := hz j (by rw [h.len]; exact hj)
      rw [ha.1] at this; cases this
    obtain ⟨m, hm, h1, h2⟩ := cut_place h a hn
    refine ⟨putW L x a m, putP P a m, put_rref h x a m ha hz hm h1 h2, SameSp.trans ?_ (put_span x a m hm), fun k => absurd k hs, fun _ => putW_len L x a m hm⟩
    have liftL : ∀ y, ∀ v, Sp L v → Sp (L ++ [y]) v := fun y v hv => sp_sub (fun r hr => sp_mem (List.mem_append.2 (.inl hr))) hv
    refine SameSp.of (fun y hy => ?_) (fun y hy => ?_)
    · rcases List.mem_append.1 hy with hy | hy
      · exact sp_mem (List.mem_append.2 (.inl hy))
      · simp at hy; subst hy
        have := sp_xor (liftL x _ hsp) (sp_mem (show x ∈ L ++ [x] by simp))
        rw [xor_back] at this; exact this
    · rcases List.mem_append.1 hy with hy | hy
      · exact sp_mem (List.mem_append.2 (.inl hy))
      · simp at hy; subst hy
        have := sp_xor (sp_mem (show r ∈ L ++ [r] by simp)) (liftL r _ hsp)
        rw [← Nat.xor_assoc, Nat.xor_self, Nat.zero_xor] at this; exact this
/-- Whatever rows: reduced ones that span the same, not more than these. -/
theorem rref_exists (ms : List Nat) : ∃ L P, Rref L P ∧ SameSp ms L ∧ L.length ≤ ms.length := by
  have key : ∀ k, k ≤ ms.length → ∃ L P, Rref L P ∧ SameSp (ms.take k) L ∧ L.length ≤ k := by
    intro k
    induction k with
    | zero => exact fun _ => ⟨[], [], ⟨rfl, fun _ h => absurd h (Nat.not_lt_zero _), fun _ _ h => absurd h (Nat.not_lt_zero _), fun _ _ _ h => absurd h (Nat.not_lt_zero _)⟩, by simpa using SameSp.refl [], Nat.le_refl _⟩
    | succ k ih =>
      intro hk
      obtain ⟨L, P, h, hs, hl⟩ := ih (by omega)
      obtain ⟨M, Q, g, gs, g1, g2⟩ := rref_more h (ms.getD k 0)
      refine ⟨M, Q, g, SameSp.trans ?_ gs, ?_⟩
      · have e : ms.take (k + 1) = ms.take k ++ [ms.getD k 0] := by
          rw [List.take_succ_eq_append_getElem (by omega)]; simp [List.getD, show k < ms.length by omega]
        rw [e]
        refine SameSp.of (fun y hy => ?_) (fun y hy => ?_)
        · rcases List.mem_append.1 hy with hy | hy
          · exact sp_sub (fun r hr => sp_mem (List.mem_append.2 (.inl hr))) ((hs _).1 (sp_mem hy))
          · simp at hy; subst hy; exact sp_mem (by simp)
        · rcases List.mem_append.1 hy with hy | hy
          · exact sp_sub (fun r hr => sp_mem (List.mem_append.2 (.inl hr))) ((hs _).2 (sp_mem hy))
          · simp at hy; subst hy; exact sp_mem (by simp)
      · by_cases hsp : Sp L (ms.getD k 0)
        · rw [g1 hsp]; omega
        · rw [g2 hsp]; omega
  have := key ms.length (Nat.le_refl _)
  rwa [List.take_length] at this
end
section
/- Equations with their blocks as numbers: what is owned, what is free, what is told. No program. -/
set_option linter.unusedVariables false
set_option linter.unusedSimpArgs false
theorem xs_map (f : Nat → Nat) (h0 : f 0 = 0) (hx : ∀ a b, f (a ^^^ b) = f a ^^^ f b) (S : List Nat) : xs (S.map f) = f (xs S) := by
  induction S with
  | nil => exact h0.symm
  | cons a S ih => rw [List.map_cons, xs_cons, ih, xs_cons, hx]
/-- What a linear image spans. -/
theorem sp_map (f : Nat → Nat) (h0 : f 0 = 0) (hx : ∀ a b, f (a ^^^ b) = f a ^^^ f b) (L : List Nat) (v : Nat) : Sp (L.map f) v ↔ ∃ u, Sp L u ∧ v = f u := by
  constructor
  · intro h
    refine sp_ind (P := fun v => ∃ u, Sp L u ∧ v = f u) ⟨0, sp_zero L, h0.symm⟩ ?_ h
    rintro r u hr ⟨t, ht, rfl⟩
    obtain ⟨a, ha, rfl⟩ := List.mem_map.1 hr
    exact ⟨a ^^^ t, sp_xor (sp_mem ha) ht, (hx a t).symm⟩
  · rintro ⟨u, hu, rfl⟩
    refine sp_ind (P := fun u => Sp (L.map f) (f u)) (by rw [h0]; exact sp_zero _) ?_ hu
    intro r u hr hu
    rw [hx]
    exact sp_xor (sp_mem (List.mem_map.2 ⟨r, hr, rfl⟩)) hu
theorem sp_app {O F : List Nat} {v : Nat} (h : Sp (O ++ F) v) : ∃ a u, Sp O a ∧ Sp F u ∧ v = a ^^^ u := by
  refine sp_ind (P := fun v => ∃ a u, Sp O a ∧ Sp F u ∧ v = a ^^^ u) ⟨0, 0, sp_zero _, sp_zero _, by simp⟩ ?_ h
  rintro r w hr ⟨a, u, ha, hu, rfl⟩
  rcases List.mem_append.1 hr with hr | hr
  · exact ⟨r ^^^ a, u, sp_xor (sp_mem hr) ha, hu, (Nat.xor_assoc _ _ _).symm⟩
  · refine ⟨a, r ^^^ u, ha, sp_xor (sp_mem hr) hu, ?_⟩
    rw [← Nat.xor_assoc, ← Nat.xor_assoc, Nat.xor_comm r a]
theorem sp_left {O F : List Nat} {v : Nat} (h : Sp O v) : Sp (O ++ F) v := sp_sub (fun r hr => sp_mem (List.mem_append.2 (.inl hr))) h
theorem sp_right {O F : List Nat} {v : Nat} (h : Sp F v) : Sp (O ++ F) v := sp_sub (fun r hr => sp_mem (List.mem_append.2 (.inr hr))) h
theorem sp_bit {F : List Nat} {p : Nat} (hF : ∀ f, f ∈ F → f.testBit p = false) {u : Nat} (h : Sp F u) : u.testBit p = false :=
  sp_ind (P := fun u => u.testBit p = false) (by simp) (fun r u hr hu => by rw [Nat.testBit_xor, hF r hr, hu]; rfl) h
theorem sp_nought {F : List Nat} (hF : ∀ f, f ∈ F → f = 0) {u : Nat} (h : Sp F u) : u = 0 :=
  sp_ind (P := fun u => u = 0) rfl (fun r u hr hu => by rw [hF r hr, hu]; rfl) h
/-- Owned and free, after k columns. -/
structure Elim (Z P : List Nat) (k : Nat) (O F : List Nat) : Prop where
  span : SameSp (O ++ F) Z
  len : O.length = k
  one : ∀ i j, i < k → j < k → (O.getD i 0).testBit (P.getD j 0) = decide (i = j)
  no : ∀ f, f ∈ F → ∀ j, j < k → f.testBit (P.getD j 0) = false
theorem elim_start (Z P : List Nat) : Elim Z P 0 [] Z := ⟨SameSp.refl _, rfl, fun _ _ h => absurd h (Nat.not_lt_zero _), fun _ _ _ h => absurd h (Nat.not_lt_zero _)⟩
/-- A column put out of all. -/
def clr (c f : Nat) (L : List Nat) : List Nat := L.map fun x => if x.testBit c then x ^^^ f else x
theorem clr_at (c f : Nat) (L : List Nat) (i : Nat) (h : i < L.length) : (clr c f L).getD i 0 = if (L.getD i 0).testBit c then L.getD i 0 ^^^ f else L.getD i 0 := by
  simp [clr, List.getD, h]
theorem comb_row' {L P : List Nat} (k0 : Nat) (one : ∀ i j, i < k0 → j < k0 → (L.getD i 0).testBit (P.getD j 0) = decide (i = j)) (i : Nat) (hi : i < k0) : ∀ k, k ≤ k0 → comb L P (L.getD i 0) k = if i < k then L.getD i 0 else 0
  | 0, _ => by simp [comb]
  | k + 1, hk => by
    rw [comb, comb_row' k0 one i hi k (by omega), one i k hi (by omega)]
    by_cases e : i = k
    · subst e; simp
    · by_cases hl : i < k
      · simp [e, hl, show i < k + 1 by omega]
      · simp [e, hl, show ¬ i < k + 1 by omega]
/-- What owned ones span is told by its bits at their columns. -/
theorem own_comb {O P : List Nat} {k : Nat} (hlen : O.length = k) (one : ∀ i j, i < k → j < k → (O.getD i 0).testBit (P.getD j 0) = decide (i = j)) {v : Nat} (hv : Sp O v) : v = comb O P v k := by
  refine sp_ind (P := fun v => v = comb O P v k) ?_ ?_ hv
  · exact (comb_zero O P 0 _ (fun _ _ => by simp)).symm
  · intro r u hr hu
    obtain ⟨i, hi, rfl⟩ := mem_getD hr
    rw [comb_xor, ← hu, comb_row' k one i (by omega) _ (Nat.le_refl _), if_pos (by omega)]
theorem mem_erase {F : List Nat} {i x : Nat} (h : x ∈ F.eraseIdx i) : x ∈ F := List.mem_of_mem_eraseIdx h
theorem mem_keep {F : List Nat} {i x : Nat} (h : x ∈ F) : x ∈ F.eraseIdx i ∨ x = F.getD i 0 := by
  obtain ⟨j, hj, rfl⟩ := List.getElem_of_mem h
  by_cases e : j = i
  · subst e; right; simp [List.getD, hj]
  · left; rw [List.mem_eraseIdx_iff_getElem]; exact ⟨j, hj, e, rfl⟩
theorem Elim.step {Z P : List Nat} {k : Nat} {O F : List Nat} (h : Elim Z P k O F) (i : Nat) (hi : i < F.length) (hb : (F.getD i 0).testBit (P.getD k 0) = true) :
    Elim Z P (k + 1) (clr (P.getD k 0) (F.getD i 0) O ++ [F.getD i 0]) (clr (P.getD k 0) (F.getD i 0) (F.eraseIdx i)) := by
  have hlen := h.len
  have hf : ∀ j, j < k → (F.getD i 0).testBit (P.getD j 0) = false := h.no _ (getD_mem hi)
  have hcl : (clr (P.getD k 0) (F.getD i 0) O).length = k := by simp [clr, hlen]
  have own : Sp ((clr (P.getD k 0) (F.getD i 0) O ++ [F.getD i 0]) ++ clr (P.getD k 0) (F.getD i 0) (F.eraseIdx i)) (F.getD i 0) := sp_mem (by simp)
  have keep : ∀ x, ((if x.testBit (P.getD k 0) then x ^^^ F.getD i 0 else x) ∈ (clr (P.getD k 0) (F.getD i 0) O ++ [F.getD i 0]) ++ clr (P.getD k 0) (F.getD i 0) (F.eraseIdx i)) → Sp ((clr (P.getD k 0) (F.getD i 0) O ++ [F.getD i 0]) ++ clr (P.getD k 0) (F.getD i 0) (F.eraseIdx i)) x := fun x hx => by
    have m := sp_mem hx
    split at m
    · have := sp_xor m own
      rw [xor_back] at this; exact this
    · exact m
  have back : ∀ x, Sp (O ++ F) x → Sp (O ++ F) (if x.testBit (P.getD k 0) then x ^^^ F.getD i 0 else x) := fun x hx => by
    split
    · exact sp_xor hx (sp_mem (List.mem_append.2 (.inr (getD_mem hi))))
    · exact hx
  refine ⟨SameSp.trans (SameSp.of (fun r hr => ?_) (fun r hr => ?_)) h.span, by rw [List.length_append, hcl]; rfl, fun a b ha hb' => ?_, fun f hf' j hj => ?_⟩
  · rcases List.mem_append.1 hr with hr | hr
    · rcases List.mem_append.1 hr with hr | hr
      · obtain ⟨x, hx, rfl⟩ := List.mem_map.1 hr
        exact back x (sp_mem (List.mem_append.2 (.inl hx)))
      · simp only [List.mem_singleton] at hr; subst hr
        exact sp_mem (List.mem_append.2 (.inr (getD_mem hi)))
    · obtain ⟨x, hx, rfl⟩ := List.mem_map.1 hr
      exact back x (sp_mem (List.mem_append.2 (.inr (mem_erase hx))))
  · rcases List.mem_append.1 hr with hr | hr
    · exact keep r (List.mem_append.2 (.inl (List.mem_append.2 (.inl (List.mem_map.2 ⟨r, hr, rfl⟩)))))
    · rcases mem_keep (i := i) hr with hr | hr
      · exact keep r (List.mem_append.2 (.inr (List.mem_map.2 ⟨r, hr, rfl⟩)))
      · subst hr; exact own
  · have at_ : ∀ a, (clr (P.getD k 0) (F.getD i 0) O ++ [F.getD i 0]).getD a 0 = if a < k then (clr (P.getD k 0) (F.getD i 0) O).getD a 0 else if a = k then F.getD i 0 else 0 := fun a => by rw [getD_snoc, hcl]
    rw [at_]
    by_cases ea : a < k
    · rw [if_pos ea, clr_at _ _ _ _ (by omega)]
      by_cases eb : b < k
      · have := h.one a b ea eb
        split
        · rw [Nat.testBit_xor, this, hf b eb]; simp
        · exact this
      · obtain rfl : b = k := by omega
        split
        · rename_i e; rw [Nat.testBit_xor, e, hb]; simp; omega
        · rename_i e; rw [Bool.eq_false_iff.2 e]; simp; omega
    · obtain rfl : a = k := by omega
      rw [if_neg ea, if_pos rfl]
      by_cases eb : b < a
      · rw [hf b eb]; simp; omega
      · obtain rfl : b = a := by omega
        rw [hb]; simp
  · obtain ⟨x, hx, rfl⟩ := List.mem_map.1 hf'
    by_cases ej : j < k
    · have := h.no x (mem_erase hx) j ej
      split
      · rw [Nat.testBit_xor, this, hf j ej]; rfl
      · exact this
    · obtain rfl : j = k := by omega
      split
      · rename_i e; rw [Nat.testBit_xor, e, hb]; rfl
      · rename_i e; exact Bool.eq_false_iff.2 e
/-- What is spanned and has no bit at an owned column is spanned by the free ones. -/
theorem Elim.free {Z P : List Nat} {k : Nat} {O F : List Nat} (h : Elim Z P k O F) {v : Nat} (hv : Sp Z v) (hz : ∀ j, j < k → v.testBit (P.getD j 0) = false) : Sp F v := by
  obtain ⟨a, u, ha, hu, rfl⟩ := sp_app ((h.span _).2 hv)
  have hub : ∀ j, j < k → u.testBit (P.getD j 0) = false := fun j hj => sp_bit (fun f hf => h.no f hf j hj) hu
  have ha0 : a = 0 := by
    rw [own_comb h.len h.one ha]
    refine comb_zero _ _ _ _ fun j hj => ?_
    have := hz j hj
    rw [Nat.testBit_xor, hub j hj] at this
    simpa using this
  rw [ha0, Nat.zero_xor]; exact hu
/-- The row part of a number. -/
def lowN (N z : Nat) : Nat := z % 2 ^ N
theorem lowN_zero (N : Nat) : lowN N 0 = 0 := by simp [lowN]
theorem lowN_xor (N a b : Nat) : lowN N (a ^^^ b) = lowN N a ^^^ lowN N b := Nat.xor_mod_two_pow
theorem lowN_lt (N z : Nat) : lowN N z < 2 ^ N := Nat.mod_lt _ (Nat.two_pow_pos N)
theorem lowN_bit {N z p : Nat} (h : p < N) : (lowN N z).testBit p = z.testBit p := by simp [lowN, Nat.testBit_mod_two_pow, h]
section
variable {N : Nat} {Z M P O F : List Nat}
theorem place_lt (hM : ∀ r, r ∈ M → r < 2 ^ N) (h : Rref M P) (j : Nat) (hj : j < P.length) : P.getD j 0 < N := by
  rcases Nat.lt_or_ge (P.getD j 0) N with hl | hg
  · exact hl
  · have h1 := (h.low j (by rw [h.len]; exact hj)).1
    rw [Nat.testBit_lt_two_pow (Nat.lt_of_lt_of_le (hM _ (getD_mem (by rw [h.len]; exact hj))) (Nat.pow_le_pow_right (by omega) hg))] at h1
    cases h1
theorem rows_lt (hs : SameSp (Z.map (lowN N)) M) : ∀ r, r ∈ M → r < 2 ^ N := fun r hr => sp_lt (fun x hx => by obtain ⟨z, -, rfl⟩ := List.mem_map.1 hx; exact lowN_lt N z) ((hs r).2 (sp_mem hr))
theorem low_sp (hs : SameSp (Z.map (lowN N)) M) {v : Nat} (h : Sp Z v) : Sp M (lowN N v) := (hs _).1 ((sp_map _ (lowN_zero N) (lowN_xor N) Z _).2 ⟨v, h, rfl⟩)
/-- Some free one has the next column. -/
theorem Elim.some {k : Nat} (h : Elim Z P k O F) (hr : Rref M P) (hs : SameSp (Z.map (lowN N)) M) (hk : k < P.length) : ∃ i, i < F.length ∧ (F.getD i 0).testBit (P.getD k 0) = true := by
  have hkM : k < M.length := by rw [hr.len]; exact hk
  obtain ⟨v, hv, he⟩ := (sp_map _ (lowN_zero N) (lowN_xor N) Z _).1 ((hs _).2 (sp_mem (getD_mem hkM)))
  have hlt := place_lt (rows_lt hs) hr
  have hb : ∀ j, j < P.length → v.testBit (P.getD j 0) = decide (k = j) := fun j hj => by
    rw [← lowN_bit (hlt j hj), ← he, hr.one k j hkM (by rw [hr.len]; exact hj)]
  have hf := h.free hv (fun j hj => by rw [hb j (by omega)]; simp; omega)
  by_cases hn : ∃ i, i < F.length ∧ (F.getD i 0).testBit (P.getD k 0) = true
  · exact hn
  · have := sp_bit (p := P.getD k 0) (fun f hfm => by
      obtain ⟨i, hi, rfl⟩ := mem_getD hfm
      cases hb' : (F.getD i 0).testBit (P.getD k 0) with
      | false => rfl
      | true => exact absurd ⟨i, hi, hb'⟩ hn) hf
    rw [hb k hk] at this; simp at this
/-- At the end free ones have no row part. -/
theorem Elim.free_low (h : Elim Z P P.length O F) (hr : Rref M P) (hs : SameSp (Z.map (lowN N)) M) {f : Nat} (hf : f ∈ F) : lowN N f = 0 :=
  hr.zero (low_sp hs ((h.span f).1 (sp_right (sp_mem hf)))) fun j hj => by
    rw [hr.len] at hj
    rw [lowN_bit (place_lt (rows_lt hs) hr j hj)]; exact h.no f hf j hj
theorem Elim.own_low (h : Elim Z P P.length O F) (hr : Rref M P) (hs : SameSp (Z.map (lowN N)) M) (i : Nat) (hi : i < P.length) : lowN N (O.getD i 0) = M.getD i 0 := by
  have hiO : i < O.length := by rw [h.len]; exact hi
  have hiM : i < M.length := by rw [hr.len]; exact hi
  apply xor_cancel
  refine hr.zero (sp_xor (low_sp hs ((h.span _).1 (sp_left (sp_mem (getD_mem hiO))))) (sp_mem (getD_mem hiM))) fun j hj => ?_
  have hj' := hj
  rw [hr.len] at hj'
  rw [Nat.testBit_xor, lowN_bit (place_lt (rows_lt hs) hr j hj'), h.one i j hi hj', hr.one i j hiM hj]; simp
/-- Can they be so? -/
def FitsP (N : Nat) (Z : List Nat) : Prop := ∀ v, Sp Z v → lowN N v = 0 → v = 0
theorem Elim.fits (h : Elim Z P P.length O F) (hr : Rref M P) (hs : SameSp (Z.map (lowN N)) M) : (∀ f, f ∈ F → f = 0) ↔ FitsP N Z := by
  constructor
  · intro hF v hv h0
    refine sp_nought hF (h.free hv fun j hj => ?_)
    rw [← lowN_bit (place_lt (rows_lt hs) hr j hj), h0]; simp
  · intro hfit f hf
    exact hfit f ((h.span f).1 (sp_right (sp_mem hf))) (h.free_low hr hs hf)
/-- A column is told just if the row that owns it is it alone. -/
theorem told_iff (hr : Rref M P) (c : Nat) : Sp M (2 ^ c) ↔ ∃ j, j < P.length ∧ P.getD j 0 = c ∧ M.getD j 0 = 2 ^ c := by
  constructor
  · intro h
    have hl : IsLow (2 ^ c) c := ⟨by simp [Nat.testBit_two_pow], fun q hq => by simp [Nat.testBit_two_pow]; omega⟩
    obtain ⟨j, hj, hc⟩ := mem_getD ((hr.place c).2 ⟨_, h, hl⟩)
    refine ⟨j, hj, hc, ?_⟩
    have hjM : j < M.length := by rw [hr.len]; exact hj
    apply xor_cancel
    refine hr.zero (sp_xor (sp_mem (getD_mem hjM)) h) fun i hi => ?_
    rw [Nat.testBit_xor, hr.one j i hjM hi]
    by_cases e : j = i
    · subst e; rw [Nat.testBit_two_pow, hc]; simp
    · have hne : P.getD i 0 ≠ c := fun e2 => by
        rw [← hc] at e2
        rcases Nat.lt_or_gt_of_ne e with hl | hl
        · have := hr.rise j i hl hi; omega
        · have := hr.rise i j hl hjM; omega
      rw [Nat.testBit_two_pow]; simp only [e, decide_false, Ne.symm hne, Bool.xor_self]
  · rintro ⟨j, hj, -, hM⟩
    rw [← hM]; exact sp_mem (getD_mem (by rw [hr.len]; exact hj))
end
end
section
/- Rows of 64-bit words in memory: what a slice of words reads, kept while old memory is kept. No program. -/
set_option linter.unusedVariables false
set_option linter.unusedSimpArgs false
open Go.RowKit
/-- The slice at A of len words reads ws, in blocks that are there. -/
def Words (w : World) (A : Option Addr) (len : Nat) (ws : List Nat) : Prop :=
  ws.length = len ∧ (∀ j, ws.getD j 0 < 18446744073709551616) ∧
    (0 < len → ∃ b off, A = some ⟨b, off, none⟩ ∧ b < w.heap.size ∧ ∀ j, j < len → w.cell? ⟨b, off + j, none⟩ = some (.int .u64 (ws.getD j 0 : Nat)))
theorem Words.below {w w' : World} {A : Option Addr} {len : Nat} {ws : List Nat} (h : Words w A len ws) (hb : Below w.heap.size w w') : Words w' A len ws := by
  refine ⟨h.1, h.2.1, fun hp => ?_⟩
  obtain ⟨b, off, rfl, hlt, hc⟩ := h.2.2 hp
  exact ⟨b, off, rfl, Nat.lt_of_lt_of_le hlt hb.size, fun j hj => (hb.cell (p := ⟨b, off + j, none⟩) hlt).trans (hc j hj)⟩
theorem Words.nil (w : World) (A : Option Addr) : Words w A 0 [] := ⟨rfl, by simp, fun h => by omega⟩
theorem Words.take {w : World} {A : Option Addr} {len : Nat} {ws : List Nat} (h : Words w A len ws) (k : Nat) (hk : k ≤ len) : Words w A k (ws.take k) := by
  refine ⟨by simp [h.1]; omega, fun j => ?_, fun hp => ?_⟩
  · by_cases hj : j < k
    · have := h.2.1 j
      simpa [List.getD, List.getElem?_take, hj] using this
    · simp [List.getD, List.getElem?_take, hj]
  · obtain ⟨b, off, rfl, hlt, hc⟩ := h.2.2 (by omega)
    refine ⟨b, off, rfl, hlt, fun j hj => ?_⟩
    rw [hc j (by omega)]
    simp [List.getD, List.getElem?_take, hj]
theorem Words.drew {w : World} {A : Option Addr} {len : Nat} {ws : List Nat} (h : Words w A len ws) : Words w.drew A len ws := h
theorem Words.alloc {w : World} {A : Option Addr} {len : Nat} {ws : List Nat} (h : Words w A len ws) (o : Obj) : Words (w.alloc o) A len ws :=
  h.below ((Below.refl _ _).alloc (Nat.le_refl _) _)
theorem Words.mono {w w' : World} {A : Option Addr} {len : Nat} {ws : List Nat} (h : Words w A len ws) {B : Nat} (hB : w.heap.size ≤ B) (hb : Below B w w') : Words w' A len ws :=
  h.below (hb.mono hB)
theorem bdN {B : Nat} {a w : World} (h : Below B a w) (n : Nat) : Below B a (w.drewN n) := ⟨h.os, h.tape, h.output, h.size, h.block⟩
/-- A chain of worlds that keep all that was there. -/
theorem chain {w w1 w2 : World} (h : Below w.heap.size w w1) (h2 : Below w1.heap.size w1 w2) : Below w.heap.size w w2 := h.trans (h2.mono h.size)
/-- A block that is known whole, and not frozen. -/
def Box (w : World) (g : Nat) (t : TypeId) (cs : Array Value) : Prop := w.heap[g]? = some (.cells cs t (0, 0))
section
variable {w w' : World} {g : Nat} {t : TypeId} {cs : Array Value}
theorem Box.lt (h : Box w g t cs) : g < w.heap.size := by
  rcases Nat.lt_or_ge g w.heap.size with hl | hg
  · exact hl
  · unfold Box at h; rw [Array.getElem?_eq_none hg] at h; cases h
theorem Box.cell (h : Box w g t cs) (i : Nat) : w.cell? ⟨g, i, none⟩ = cs[i]? := cell_of_row w g i cs t (0, 0) h
theorem Box.free (h : Box w g t cs) (i : Nat) : w.frozen? ⟨g, i, none⟩ = false := frozen_of_row w g i cs t h
theorem Box.new (w : World) (t : TypeId) (cs : Array Value) : Box (w.alloc (.cells cs t)) w.heap.size t cs := heap_alloc_new w _
theorem Box.alloc (h : Box w g t cs) (o : Obj) : Box (w.alloc o) g t cs := (Below.heap_alloc w o g h.lt).trans h
theorem Box.drew (h : Box w g t cs) : Box w.drew g t cs := h
theorem Box.drewN (h : Box w g t cs) (n : Nat) : Box (w.drewN n) g t cs := h
theorem Box.below {B : Nat} (h : Box w g t cs) (hb : Below B w w') (hg : g < B) : Box w' g t cs := (hb.block g hg).trans h
theorem Box.keep (h : Box w g t cs) (hb : Below w.heap.size w w') : Box w' g t cs := h.below hb h.lt
theorem Box.far (h : Box w g t cs) {p : Addr} (hp : g ≠ p.block) (u : Value) : Box (w.setCell p u) g t cs := (heap_setCell_other w p g u hp).trans h
theorem Box.put (h : Box w g t cs) (i : Nat) (u : Value) : Box (w.setCell ⟨g, i, none⟩ u) g t (cs.setIfInBounds i u) := heap_setCell_same w g i cs t u h
theorem Box.two {a b : Value} (h : Box w g t #[a, b]) : w.cell? ⟨g, 0, none⟩ = some a ∧ w.cell? ⟨g, 1, none⟩ = some b ∧ w.frozen? ⟨g, 0, none⟩ = false ∧ w.frozen? ⟨g, 1, none⟩ = false :=
  ⟨h.cell 0, h.cell 1, h.free 0, h.free 1⟩
/-- Both cells of a box stored anew. -/
theorem Box.put2 {a b u v : Value} (h : Box w g t #[a, b]) : Box ((w.setCell ⟨g, 0, none⟩ u).setCell ⟨g, 1, none⟩ v) g t #[u, v] := (h.put 0 u).put 1 v
end
/-- Numbers as cells. -/
def numsA (zs : List Nat) : Array Value := (zs.map fun (x : Nat) => Value.int .u64 (x : Int)).toArray
theorem numsA_get (zs : List Nat) (j : Nat) (h : j < zs.length) : (numsA zs)[j]? = some (.int .u64 (zs.getD j 0 : Nat)) := by
  simp [numsA, List.getD, h]
theorem numsA_set (zs : List Nat) (k x : Nat) : (numsA zs).setIfInBounds k (.int .u64 (x : Int)) = numsA (zs.set k x) := by
  simp [numsA, List.map_set]
theorem numsA_zero (n : Nat) : Array.replicate n (Value.int .u64 0) = numsA (List.replicate n 0) := by
  simp [numsA]
theorem Box.words {w : World} {g : Nat} {t : TypeId} {zs : List Nat} (h : Box w g t (numsA zs)) (hz : ∀ j, zs.getD j 0 < 18446744073709551616) : Words w (some ⟨g, 0, none⟩) zs.length zs :=
  ⟨rfl, hz, fun _ => ⟨g, 0, rfl, h.lt, fun j hj => by rw [Nat.zero_add, h.cell j, numsA_get zs j hj]⟩⟩
theorem make_words {P : Program} (t e : TypeId) (i : TypeInfo) (ht : P.underlying t = some (.slice e)) (hi : P.info? e = some i) (hz : i.zero = some (.int .u64 0)) (hs : i.size = 1) (hb : i.bytes = 8) (n : Nat) (hn : n ≤ 1000000) (w : World) :
    (Instr.makeSlice t (.int .i64 (n : Int)) (.int .i64 (n : Int))).run P w = .ok (.slice (some ⟨w.heap.size, 0, none⟩) n n) (w.alloc (.cells (numsA (List.replicate n 0)) e)) := by
  have hr := run_make (P := P) w t e i _ ht hi hz .i64 .i64 n n (by omega) (by omega) (by rw [hb]; omega) (by omega)
  simp only [Int.toNat_natCast, hs, Nat.mul_one] at hr
  rw [hr, ← numsA_zero]
  have : madeCells (Value.int .u64 0).cells n = Array.replicate n (Value.int .u64 0) := by
    apply Array.toList_inj.1
    have := toList_madeCells_one (Value.int .u64 0) n
    simpa [Value.cells] using this
  rw [this]
/-- Words lie in no box of a row. -/
theorem Words.off {w : World} {A : Option Addr} {len : Nat} {ws : List Nat} {g : Nat} {t : TypeId} {x : Int} {S : Option Addr} {p q : Nat} (h : Words w A len ws) (hb : Box w g t #[.int .i64 x, .slice S p q]) (b off : Nat) (hA : A = some ⟨b, off, none⟩) (hl : 0 < len) : b ≠ g := by
  intro e
  obtain ⟨b', off', hA', _, hc⟩ := h.2.2 hl
  rw [hA] at hA'
  injection hA' with hA'
  injection hA' with e1 e2
  subst e1 e2 e
  have c := hc 0 hl
  rw [hb.cell] at c
  match off, c with
  | 0, c => simp at c
  | 1, c => simp at c
  | k + 2, c => simp at c
theorem Words.put2 {w : World} {A : Option Addr} {len : Nat} {ws : List Nat} {g : Nat} {t : TypeId} {x : Int} {S : Option Addr} {p q : Nat} (h : Words w A len ws) (hb : Box w g t #[.int .i64 x, .slice S p q]) (u v : Value) :
    Words ((w.setCell ⟨g, 0, none⟩ u).setCell ⟨g, 1, none⟩ v) A len ws := by
  refine ⟨h.1, h.2.1, fun hp => ?_⟩
  obtain ⟨b, off, rfl, hlt, hc⟩ := h.2.2 hp
  have hne := h.off hb b off rfl hp
  refine ⟨b, off, rfl, by simpa [World.setCell] using hlt, fun j hj => ?_⟩
  rw [World.cell?_setCell_other _ _ _ _ (by intro e; injection e; omega), World.cell?_setCell_other _ _ _ _ (by intro e; injection e; omega)]
  exact hc j hj
/-- A return of a struct in a cell and a plain value. -/
theorem close_cell {P : Program} {fn : Func} {R : Ending → World → Prop} {a : Act} {W : World} {p q : Tmp} {T : TypeId} {g : Nat} {cs : Array Value} {d : TypeDesc} {v : Value} (hr : fn.results = #[.cell p T, .tmp q])
    (hp : a.tmps.getD p undef = .pointer (some ⟨g, 0, none⟩)) (hq : a.tmps.getD q undef = v) (hd : a.defers = []) (hbox : Box W g T cs) (hu : P.underlying T = some d)
    (hk : (match d with | .struct _ | .array _ _ => true | _ => false) = true) (hi : (P.info? T).map (·.size) = some cs.size)
    (hR : R (.returned (.tuple #[.agg cs, v])) W) : bodyPost P fn R .ret a W := by
  subst hq
  refine bodyPost_ret ?_ hd hR
  have hp' : a.tmps[p]?.getD undef = .pointer (some ⟨g, 0, none⟩) := by simpa using hp
  simp [results, hr, hp', asAddr, run_loadVar_row W g T T cs (0, 0) d hbox hu hk hi]
/-- A return of a struct in a cell. -/
theorem close_one {P : Program} {fn : Func} {R : Ending → World → Prop} {a : Act} {W : World} {p : Tmp} {T : TypeId} {g : Nat} {cs : Array Value} {d : TypeDesc} (hr : fn.results = #[.cell p T])
    (hp : a.tmps.getD p undef = .pointer (some ⟨g, 0, none⟩)) (hd : a.defers = []) (hbox : Box W g T cs) (hu : P.underlying T = some d)
    (hk : (match d with | .struct _ | .array _ _ => true | _ => false) = true) (hi : (P.info? T).map (·.size) = some cs.size)
    (hR : R (.returned (.agg cs)) W) : bodyPost P fn R .ret a W :=
  bodyPost_ret (results_cell_row hr _ _ g T cs (0, 0) d hp hbox hu hk hi) hd hR
/-- The slice at A of len ints reads zs. -/
def Ints (w : World) (A : Option Addr) (len : Nat) (zs : List Int) : Prop :=
  zs.length = len ∧ (∀ j, -9223372036854775808 ≤ zs.getD j 0 ∧ zs.getD j 0 ≤ 9223372036854775807) ∧
    (0 < len → ∃ b off, A = some ⟨b, off, none⟩ ∧ b < w.heap.size ∧ ∀ j, j < len → w.cell? ⟨b, off + j, none⟩ = some (.int .i64 (zs.getD j 0)))
theorem Ints.below {w w' : World} {A : Option Addr} {len : Nat} {zs : List Int} (h : Ints w A len zs) (hb : Below w.heap.size w w') : Ints w' A len zs := by
  refine ⟨h.1, h.2.1, fun hp => ?_⟩
  obtain ⟨b, off, rfl, hlt, hc⟩ := h.2.2 hp
  exact ⟨b, off, rfl, Nat.lt_of_lt_of_le hlt hb.size, fun j hj => (hb.cell (p := ⟨b, off + j, none⟩) hlt).trans (hc j hj)⟩
theorem Ints.nil (w : World) (A : Option Addr) : Ints w A 0 [] := ⟨rfl, by simp, fun h => by omega⟩
/-- Three boxes of rows, stored anew one after the other. -/
theorem three_rows {x : World} {g1 g2 g3 : Nat} {t : TypeId} {i1 i2 i3 j1 j2 j3 : Int} {S1 S2 S3 T1 T2 T3 : Option Addr} {p1 q1 p2 q2 p3 q3 l1 c1 l2 c2 l3 c3 : Nat}
    (h1 : Box x g1 t #[.int .i64 i1, .slice S1 p1 q1]) (h2 : Box x g2 t #[.int .i64 i2, .slice S2 p2 q2]) (h3 : Box x g3 t #[.int .i64 i3, .slice S3 p3 q3]) (n12 : g1 ≠ g2) (n13 : g1 ≠ g3) (n23 : g2 ≠ g3)
    {w : World} (hb : Below w.heap.size w x) (b1 : w.heap.size ≤ g1) (b2 : w.heap.size ≤ g2) (b3 : w.heap.size ≤ g3)
    {xa bs cs : List Nat} (u1 : Words x T1 l1 xa) (u2 : Words x T2 l2 bs) (u3 : Words x T3 l3 cs) :
    let y := (((((x.setCell ⟨g1, 0, none⟩ (.int .i64 j1)).setCell ⟨g1, 1, none⟩ (.slice T1 l1 c1)).setCell ⟨g2, 0, none⟩ (.int .i64 j2)).setCell ⟨g2, 1, none⟩ (.slice T2 l2 c2)).setCell ⟨g3, 0, none⟩ (.int .i64 j3)).setCell ⟨g3, 1, none⟩ (.slice T3 l3 c3)
    Box y g1 t #[.int .i64 j1, .slice T1 l1 c1] ∧ Box y g2 t #[.int .i64 j2, .slice T2 l2 c2] ∧ Box y g3 t #[.int .i64 j3, .slice T3 l3 c3] ∧ Words y T1 l1 xa ∧ Words y T2 l2 bs ∧ Words y T3 l3 cs ∧ Below w.heap.size w y := by
  have k1 : Box ((x.setCell ⟨g1, 0, none⟩ (.int .i64 j1)).setCell ⟨g1, 1, none⟩ (.slice T1 l1 c1)) g1 t #[.int .i64 j1, .slice T1 l1 c1] := h1.put2
  have k2 := (h2.far (p := ⟨g1, 0, none⟩) n12.symm (.int .i64 j1)).far (p := ⟨g1, 1, none⟩) n12.symm (.slice T1 l1 c1)
  have k3 := (h3.far (p := ⟨g1, 0, none⟩) n13.symm (.int .i64 j1)).far (p := ⟨g1, 1, none⟩) n13.symm (.slice T1 l1 c1)
  have v1 := u1.put2 h1 (.int .i64 j1) (.slice T1 l1 c1)
  have v2 := u2.put2 h1 (.int .i64 j1) (.slice T1 l1 c1)
  have v3 := u3.put2 h1 (.int .i64 j1) (.slice T1 l1 c1)
  have m1 := (k1.far (p := ⟨g2, 0, none⟩) n12 (.int .i64 j2)).far (p := ⟨g2, 1, none⟩) n12 (.slice T2 l2 c2)
  have m2 : Box _ g2 t #[.int .i64 j2, .slice T2 l2 c2] := k2.put2
  have m3 := (k3.far (p := ⟨g2, 0, none⟩) n23.symm (.int .i64 j2)).far (p := ⟨g2, 1, none⟩) n23.symm (.slice T2 l2 c2)
  have v1' := v1.put2 k2 (.int .i64 j2) (.slice T2 l2 c2)
  have v2' := v2.put2 k2 (.int .i64 j2) (.slice T2 l2 c2)
  have v3' := v3.put2 k2 (.int .i64 j2) (.slice T2 l2 c2)
  exact ⟨(m1.far (p := ⟨g3, 0, none⟩) n13 (.int .i64 j3)).far (p := ⟨g3, 1, none⟩) n13 (.slice T3 l3 c3), (m2.far (p := ⟨g3, 0, none⟩) n23 (.int .i64 j3)).far (p := ⟨g3, 1, none⟩) n23 (.slice T3 l3 c3), m3.put2,
    v1'.put2 m3 _ _, v2'.put2 m3 _ _, v3'.put2 m3 _ _,
    (((((hb.setCell (p := ⟨g1, 0, none⟩) b1 _).setCell (p := ⟨g1, 1, none⟩) b1 _).setCell (p := ⟨g2, 0, none⟩) b2 _).setCell (p := ⟨g2, 1, none⟩) b2 _).setCell (p := ⟨g3, 0, none⟩) b3 _).setCell (p := ⟨g3, 1, none⟩) b3 _⟩
/-- A row of the call's own and a box of another type are two blocks. -/
theorem own_ne {w : World} {base e size n g : Nat} {t : TypeId} {v : Value} {xs : List Value} {cs : Array Value} (h : w.ownsRow base e size v n xs) (hb : Box w g t cs) (hne : e ≠ t) : v.ownBlock ≠ some g := by
  rcases h.2 with ⟨rfl, _⟩ | ⟨g', cap, cur, rfl, _, hh, _⟩
  · simp [Value.ownBlock]
  · intro he
    have : g' = g := by simpa [Value.ownBlock] using he
    subst this
    unfold Box at hb
    rw [hb] at hh
    injection hh with hh
    injection hh with _ ht
    exact hne ht.symm
theorem Box.grown {w w' : World} {g : Nat} {t : TypeId} {cs : Array Value} {row : Option Nat} (h : Box w g t cs) (hg : w.grownBy w' row) (hne : row ≠ some g) : Box w' g t cs := (hg.block g h.lt (Ne.symm hne)).trans h
/-- The slice value of a row of the call's own. -/
theorem own_form {w : World} {base e size n : Nat} {v : Value} {xs : List Value} (h : w.ownsRow base e size v n xs) : ∃ A c, v = .slice A n c ∧ (A = none → n = 0 ∧ c = 0) := by
  rcases h.2 with ⟨rfl, rfl⟩ | ⟨g, cap, cur, rfl, _⟩
  · exact ⟨none, 0, rfl, fun _ => ⟨rfl, rfl⟩⟩
  · exact ⟨_, _, rfl, fun h => by cases h⟩
theorem own_words {w : World} {base e n : Nat} {A : Option Addr} {c : Nat} {zs : List Nat} (h : w.ownsRow base e 1 (.slice A n c) n (zs.map fun (x : Nat) => Value.int .u64 (x : Int))) (hz : ∀ j, zs.getD j 0 < 18446744073709551616) : Words w A n zs := by
  have hl : zs.length = n := by have := h.1; simpa using this
  refine ⟨hl, hz, fun hp => ?_⟩
  rcases h.2 with ⟨_, h0⟩ | ⟨g, cap, cur, hv, hb, hh, hn, hm, hs, hx⟩
  · omega
  · injection hv with hA _ _
    subst hA
    have hbx : Box w g e cur := hh
    refine ⟨g, 0, rfl, hbx.lt, fun j hj => ?_⟩
    rw [Nat.zero_add, hbx.cell j]
    have e1 : (cur.toList.take (n * 1))[j]? = (zs.map fun (x : Nat) => Value.int .u64 (x : Int))[j]? := by rw [hx]
    rw [Nat.mul_one, List.getElem?_take, if_pos hj] at e1
    have hjz : j < zs.length := by omega
    simp only [List.getElem?_map, List.getElem?_eq_getElem hjz, Option.map_some] at e1
    rw [← Array.getElem?_toList, e1]
    simp [List.getD, hjz]
theorem own_ints {w : World} {base e n : Nat} {A : Option Addr} {c : Nat} {zs : List Int} (h : w.ownsRow base e 1 (.slice A n c) n (zs.map (Value.int .i64))) (hz : ∀ j, -9223372036854775808 ≤ zs.getD j 0 ∧ zs.getD j 0 ≤ 9223372036854775807) : Ints w A n zs := by
  have hl : zs.length = n := by have := h.1; simpa using this
  refine ⟨hl, hz, fun hp => ?_⟩
  rcases h.2 with ⟨_, h0⟩ | ⟨g, cap, cur, hv, hb, hh, hn, hm, hs, hx⟩
  · omega
  · injection hv with hA _ _
    subst hA
    have hbx : Box w g e cur := hh
    refine ⟨g, 0, rfl, hbx.lt, fun j hj => ?_⟩
    rw [Nat.zero_add, hbx.cell j]
    have e1 : (cur.toList.take (n * 1))[j]? = (zs.map (Value.int .i64))[j]? := by rw [hx]
    rw [Nat.mul_one, List.getElem?_take, if_pos hj] at e1
    have hjz : j < zs.length := by omega
    simp only [List.getElem?_map, List.getElem?_eq_getElem hjz, Option.map_some] at e1
    rw [← Array.getElem?_toList, e1]
    simp [List.getD, hjz]
/-- A store into a box of another type leaves a row of the call's own. -/
theorem own_far {w : World} {base e size n g : Nat} {t : TypeId} {v : Value} {xs : List Value} {cs : Array Value} (h : w.ownsRow base e size v n xs) (hb : Box w g t cs) (hne : e ≠ t) (i : Nat) (u : Value) : (w.setCell ⟨g, i, none⟩ u).ownsRow base e size v n xs := by
  have hn := own_ne h hb hne
  refine ⟨h.1, ?_⟩
  rcases h.2 with ⟨rfl, rfl⟩ | ⟨g', cap, cur, rfl, h1, hh, h3⟩
  · exact .inl ⟨rfl, rfl⟩
  · refine .inr ⟨g', cap, cur, rfl, h1, ?_, h3⟩
    rw [heap_setCell_other _ _ _ _ (fun e => hn (by rw [← show g' = g from e]; rfl))]
    exact hh
theorem own_empty (W : World) (base e : Nat) (hb : base ≤ W.heap.size) : (W.alloc (.cells #[] e)).ownsRow base e 1 (.slice (some ⟨W.heap.size, 0, none⟩) 0 0) 0 [] :=
  ⟨by simp, .inr ⟨W.heap.size, 0, #[], rfl, hb, heap_alloc_new W _, Nat.le_refl _, Nat.zero_le _, by simp, by simp⟩⟩
theorem own_keep {w w' : World} {base e size n : Nat} {v : Value} {xs : List Value} (h : w.ownsRow base e size v n xs) (hb : Below w.heap.size w w') : w'.ownsRow base e size v n xs := by
  refine ⟨h.1, ?_⟩
  rcases h.2 with ⟨rfl, rfl⟩ | ⟨g', cap, cur, rfl, h1, hh, h3⟩
  · exact .inl ⟨rfl, rfl⟩
  · have hx : Box w g' e cur := hh
    exact .inr ⟨g', cap, cur, rfl, h1, hx.keep hb, h3⟩
end
section
/- Contracts of package bitrow's small functions: lengthMayBe, wordsFor, isPlace, Right. -/
set_option linter.unusedVariables false
set_option linter.unusedSimpArgs false
open Go.RowKit
theorem quiet_w {P : Program} {f : FuncId} {args : Array Value} {w : World} {n : Nat} {v : Value}
    (h : Calls P f args (w.drewN n) fun e w' => e = .returned v ∧ w.drewN n = w') : Calls P f args (w.drewN n) fun e w'' => e = .returned v ∧ ∃ m, w'' = w.drewN m :=
  h.mono fun _ _ ⟨he, hm⟩ => ⟨he, n, hm.symm⟩
def lmb (n : Int) : Bool := decide (0 ≤ n) && decide (n ≤ 512)
theorem lmb_iff (n : Int) : lmb n = true ↔ 0 ≤ n ∧ n ≤ 512 := by simp [lmb]
theorem lmb_no (n : Int) : lmb n = false ↔ ¬ (0 ≤ n ∧ n ≤ 512) := by rw [← lmb_iff]; simp
theorem lengthMayBe_any (n : Int) (w : World) : Calls Tryd.prog 45 #[.int .i64 n] w fun e w' => e = .returned (.bool (lmb n)) ∧ w = w' := by
  by_cases h : 0 ≤ n
  · by_cases h2 : n ≤ 512
    · have e : lmb n = true := (lmb_iff n).2 ⟨h, h2⟩
      rw [e]; clear e
      go_enter Tryd.func45, Tryd.ntmps45
      go_wp2
      go_ret
      exact ⟨rfl, rfl⟩
    · have e : lmb n = false := (lmb_no n).2 (by omega)
      rw [e]; clear e
      have t : decide (n ≤ 512) = false := by simpa using h2
      go_enter Tryd.func45, Tryd.ntmps45
      go_wp2
      go_ret
      exact ⟨by simp, rfl⟩
  · have e : lmb n = false := (lmb_no n).2 (by omega)
    rw [e]; clear e
    have t : decide (0 ≤ n) = false := by simpa using h
    go_enter Tryd.func45, Tryd.ntmps45
    go_wp2
    go_ret
    exact ⟨by simp, rfl⟩
def nw (n : Nat) : Nat := (n + 63) / 64
theorem wordsFor_any (n : Nat) (h : n ≤ 512) (w : World) : Calls Tryd.prog 46 #[.int .i64 n] w fun e w' => e = .returned (.int .i64 (nw n)) ∧ w = w' := by
  go_enter Tryd.func46, Tryd.ntmps46
  go_wp2
  go_ret
  exact ⟨congrArg (fun z => Ending.returned (.int .i64 z)) (by unfold nw; omega), rfl⟩
theorem isPlace_any (n : Int) (A : Option Addr) (l c : Nat) (i : Int) (w : World) : Calls Tryd.prog 62 #[.agg #[.int .i64 n, .slice A l c], .int .i64 i] w fun e w' => e = .returned (.bool (decide (0 ≤ i) && decide (i < n))) ∧ Below w.heap.size w w' := by
  by_cases h : 0 ≤ i
  · have t : decide (0 ≤ i) = true := by simpa using h
    rw [t, Bool.true_and]; clear t
    go_enter Tryd.func62, Tryd.ntmps62
    go_wp2
    all_goals go_ret
    all_goals exact ⟨rfl, (Below.refl _ _).alloc (Nat.le_refl _) _⟩
  · have t : decide (0 ≤ i) = false := by simpa using h
    rw [t, Bool.false_and]
    go_enter Tryd.func62, Tryd.ntmps62
    go_wp2
    all_goals go_ret
    all_goals exact ⟨rfl, (Below.refl _ _).alloc (Nat.le_refl _) _⟩
def rightB (n : Int) (ws : List Nat) : Bool := lmb n && (ws.length == nw n.toNat) && (n.toNat % 64 == 0 || (ws.getD (ws.length - 1) 0) / 2 ^ (n.toNat % 64) == 0)
theorem shr_zero (x k : Nat) : (((x : Int) / 2 ^ k) == 0) = (x / 2 ^ k == 0) := by
  rw [Bool.eq_iff_iff]
  have e : (x : Int) / 2 ^ k = ((x / 2 ^ k : Nat) : Int) := by simp [Int.natCast_ediv]
  rw [e]
  simp only [beq_iff_eq]
  omega
theorem right_out (n : Int) (A : Option Addr) (l c : Nat) (h : lmb n = false) (w : World) :
    Calls Tryd.prog 29 #[.agg #[.int .i64 n, .slice A l c]] w fun e w' => e = .returned (.bool false) ∧ Below w.heap.size w w' := by
  have H := Lib.hid (lengthMayBe_any n)
  go_enter Tryd.func29, Tryd.ntmps29
  go_wp2_with fail
  go_quiet ((go_at_call 45; exact quiet_w (H.out _)))
  go_wp2
  go_ret
  exact ⟨rfl, bdN ((Below.refl _ _).alloc (Nat.le_refl _) _) _⟩
theorem right_len (n : Nat) (A : Option Addr) (l c : Nat) (h : lmb n = true) (hl : l ≠ nw n) (w : World) :
    Calls Tryd.prog 29 #[.agg #[.int .i64 n, .slice A l c]] w fun e w' => e = .returned (.bool false) ∧ Below w.heap.size w w' := by
  have hn := (lmb_iff n).1 h
  have H := Lib.hid (lengthMayBe_any n)
  have H2 := Lib.hid (wordsFor_any n (by omega))
  have t : ((l : Int) != (nw n : Int)) = true := by rw [bne_iff_ne]; omega
  go_enter Tryd.func29, Tryd.ntmps29
  go_wp2_with fail
  go_quiet ((first | (go_at_call 45; exact quiet_w (H.out _)) | (go_at_call 46; exact quiet_w (H2.out _))))
  go_wp2
  go_ret
  exact ⟨rfl, bdN ((Below.refl _ _).alloc (Nat.le_refl _) _) _⟩
theorem right_full (n : Nat) (A : Option Addr) (l c : Nat) (h : lmb n = true) (hl : l = nw n) (hm : n % 64 = 0) (w : World) :
    Calls Tryd.prog 29 #[.agg #[.int .i64 n, .slice A l c]] w fun e w' => e = .returned (.bool true) ∧ Below w.heap.size w w' := by
  have hn := (lmb_iff n).1 h
  have H := Lib.hid (lengthMayBe_any n)
  have H2 := Lib.hid (wordsFor_any n (by omega))
  subst hl
  have t : ((nw n : Int) != (nw n : Int)) = false := by simp
  have t2 : ((n : Int) % 64 == 0) = true := by simp; omega
  clear hm
  go_enter Tryd.func29, Tryd.ntmps29
  go_wp2_with fail
  go_quiet ((first | (go_at_call 45; exact quiet_w (H.out _)) | (go_at_call 46; exact quiet_w (H2.out _))))
  go_wp2
  go_ret
  exact ⟨rfl, bdN ((Below.refl _ _).alloc (Nat.le_refl _) _) _⟩
theorem right_part (n : Nat) (A : Option Addr) (l c : Nat) (ws : List Nat) (h : lmb n = true) (hl : l = nw n) (hm : n % 64 ≠ 0) (w : World) (hw : Words w A l ws) :
    Calls Tryd.prog 29 #[.agg #[.int .i64 n, .slice A l c]] w fun e w' => e = .returned (.bool (ws.getD (l - 1) 0 / 2 ^ (n % 64) == 0)) ∧ Below w.heap.size w w' := by
  have hn := (lmb_iff n).1 h
  have H := Lib.hid (lengthMayBe_any n)
  have H2 := Lib.hid (wordsFor_any n (by omega))
  have hp : 0 < nw n := by unfold nw; omega
  subst hl
  obtain ⟨b, off, rfl, hlt, hc⟩ := hw.2.2 hp
  have hx := hw.2.1 (nw n - 1)
  have c1 := hc (nw n - 1) (by omega)
  generalize ws.getD (nw n - 1) 0 = x at *
  have hnw : nw n ≤ 8 := by unfold nw; omega
  have t : ((nw n : Int) != (nw n : Int)) = false := by simp
  have t2 : ((n : Int) % 64 == 0) = false := by simp; omega
  clear hc hw
  go_enter Tryd.func29, Tryd.ntmps29
  go_wp2_with fail
  go_quiet ((first | (go_at_call 45; exact quiet_w (H.out _)) | (go_at_call 46; exact quiet_w (H2.out _))))
  go_wp2
  go_ret
  refine ⟨congrArg (fun z => Ending.returned (.bool z)) ?_, bdN ((Below.refl _ _).alloc (Nat.le_refl _) _) _⟩
  exact shr_zero x (n % 64)
theorem right_any (n : Int) (A : Option Addr) (l c : Nat) (ws : List Nat) (w : World) (hw : Words w A l ws) :
    Calls Tryd.prog 29 #[.agg #[.int .i64 n, .slice A l c]] w fun e w' => e = .returned (.bool (rightB n ws)) ∧ Below w.heap.size w w' := by
  unfold rightB
  cases h : lmb n with
  | false => simpa using right_out n A l c h w
  | true =>
    have hn := (lmb_iff n).1 h
    obtain ⟨m, rfl⟩ := Int.eq_ofNat_of_zero_le hn.1
    rw [Int.toNat_natCast, hw.1]
    by_cases hl : l = nw m
    · have e1 : (l == nw m) = true := by simpa using hl
      rw [e1]
      by_cases hm : m % 64 = 0
      · have e2 : (m % 64 == 0) = true := by simpa using hm
        rw [e2]
        exact right_full m A l c h hl hm w
      · have e2 : (m % 64 == 0) = false := by simpa using hm
        rw [e2]
        exact right_part m A l c ws h hl hm w hw
    · have e1 : (l == nw m) = false := by simpa using hl
      rw [e1]
      exact right_len m A l c h hl w
end
section
/- Contracts of layer 2: block.sizeMayBe, block.Zero, block.Nought, the reference's Nought, the law's cut. -/
set_option linter.unusedVariables false
set_option linter.unusedSimpArgs false
open Go.RowKit
def smb (n : Int) : Bool := decide (0 ≤ n) && decide (n ≤ 64)
theorem smb_iff (n : Int) : smb n = true ↔ 0 ≤ n ∧ n ≤ 64 := by simp [smb]
theorem smb_no (n : Int) : smb n = false ↔ ¬ (0 ≤ n ∧ n ≤ 64) := by rw [← smb_iff]; simp
theorem sizeMayBe_any (n : Int) (w : World) : Calls Tryd.prog 52 #[.int .i64 n] w fun e w' => e = .returned (.bool (smb n)) ∧ w = w' := by
  by_cases h : 0 ≤ n
  · by_cases h2 : n ≤ 64
    · have e : smb n = true := (smb_iff n).2 ⟨h, h2⟩
      rw [e]; clear e
      go_enter Tryd.func52, Tryd.ntmps52
      go_wp2
      go_ret
      exact ⟨rfl, rfl⟩
    · have e : smb n = false := (smb_no n).2 (by omega)
      rw [e]; clear e
      have t : decide (n ≤ 64) = false := by simpa using h2
      go_enter Tryd.func52, Tryd.ntmps52
      go_wp2
      go_ret
      exact ⟨by simp, rfl⟩
  · have e : smb n = false := (smb_no n).2 (by omega)
    rw [e]; clear e
    have t : decide (0 ≤ n) = false := by simpa using h
    go_enter Tryd.func52, Tryd.ntmps52
    go_wp2
    go_ret
    exact ⟨by simp, rfl⟩
/-- The first 70 bytes of a text. -/
def cutB (s : ByteArray) : ByteArray := s.extract 0 (min s.size 70)
theorem cutB_size (s : ByteArray) : (cutB s).size ≤ 70 := by simp [cutB, ByteArray.size_extract]; omega
theorem cutB_self (s : ByteArray) (h : s.size ≤ 70) : cutB s = s := by
  unfold cutB
  rw [Nat.min_eq_left h]
  apply ByteArray.ext; simp
/-- Are all bytes 0? -/
def noughtL (l : List UInt8) : Bool := l.all fun b => b == 0
theorem take_snoc (s : ByteArray) (k : Nat) (h : k < s.size) : s.data.toList.take (k + 1) = s.data.toList.take k ++ [s[k]] := by
  have hk : k < s.data.toList.length := by simpa using h
  rw [List.take_succ_eq_append_getElem hk]
  rfl
theorem nought_not (s : ByteArray) (k : Nat) (h : k < s.size) (hz : ¬ s[k] = 0) : noughtL s.data.toList = false := by
  rw [Bool.eq_false_iff]
  intro ha
  have := List.all_eq_true.1 ha (s[k]) (by rw [show s[k] = s.data.toList[k]'(by simpa using h) from rfl]; exact List.getElem_mem _)
  exact hz (by simpa using this)
theorem nought_any (s : ByteArray) (hs : s.size ≤ maxLen) (w : World) : Calls Tryd.prog 61 #[.string s] w fun e w' => e = .returned (.bool (noughtL s.data.toList)) ∧ w = w' := by
  unfold maxLen at hs
  go_enter Tryd.func61, Tryd.ntmps61
  go_wp2_with fail
  go_loop [6] (fun i => ∃ k : Nat, k ≤ s.size ∧ i = .int .i64 k ∧ Hid (noughtL (s.data.toList.take k) = true)) (fun i => s.size - (intOf i).toNat)
  case atStart => exact ⟨0, by omega, rfl, Lib.hid (by simp [noughtL])⟩
  case round =>
    obtain ⟨k, hk, rfl, HN⟩ := hrel
    by_cases hlt : k < s.size
    · by_cases hz : s[k] = 0
      · go_wp2
        go_round
        case rel => exact ⟨k + 1, by omega, by go_num, Lib.hid (by have := HN.out; rw [take_snoc s k hlt]; simp [noughtL, List.all_append] at this ⊢; exact ⟨this, hz⟩)⟩
        case measure => simp [intOf]; omega
      · have hz' : s[k].toNat ≠ 0 := fun h => hz (UInt8.toNat_inj.1 (by simpa using h))
        have t : ((s[k].toNat : Int) != 0) = true := by simpa using hz'
        have HE := Lib.hid (nought_not s k hlt hz)
        go_wp2
        go_ret
        exact ⟨by rw [HE.out]; rfl, rfl⟩
    · obtain rfl : k = s.size := by omega
      have HE := Lib.hid (show noughtL s.data.toList = true by have := HN.out; rwa [List.take_of_length_le (by simp)] at this)
      go_wp2
      go_ret
      exact ⟨by rw [HE.out]; rfl, rfl⟩
theorem uint8_info : (Tryd.prog.info? 5).map (fun i => (i.zero, i.size, i.bytes)) = some (some (.int .u8 0), 1, 1) := by kernel_rfl
/-- A row of bytes in memory. -/
def bytesA (l : List UInt8) : Array Value := (l.map fun (x : UInt8) => Value.int .u8 (x.toNat : Int)).toArray
theorem bytesA_get (l : List UInt8) (j : Nat) (h : j < l.length) : (bytesA l)[j]? = some (.int .u8 ((l.getD j 0).toNat : Int)) := by
  simp [bytesA, List.getD, h]
theorem bytesA_set (l : List UInt8) (k : Nat) (x : UInt8) : (bytesA l).setIfInBounds k (.int .u8 (x.toNat : Int)) = bytesA (l.set k x) := by
  simp [bytesA, List.map_set]
theorem makeB_any (n : Nat) (hn : n ≤ 1000000) (w : World) :
    (Instr.makeSlice 54 (.int .i64 (n : Int)) (.int .i64 (n : Int))).run Tryd.prog w = .ok (.slice (some ⟨w.heap.size, 0, none⟩) n n) (w.alloc (.cells (bytesA (List.replicate n 0)) 5)) := by
  obtain ⟨i0, hi, hz0, hz1, hz2⟩ := info_parts uint8_info
  have hr := run_make (P := Tryd.prog) w _ _ i0 _ Tryd.underlying54 hi hz0 .i64 .i64 n n (by omega) (by omega) (by rw [hz2]; omega) (by omega)
  simp only [Int.toNat_natCast, hz1, Nat.mul_one] at hr
  rw [hr]
  have : madeCells (Value.int .u8 0).cells n = bytesA (List.replicate n 0) := by
    apply Array.toList_inj.1
    have := toList_madeCells_one (Value.int .u8 0) n
    simpa [Value.cells, bytesA] using this
  rw [this]
theorem backB {w : World} {g n : Nat} {t : TypeId} {l : List UInt8} (h : Box w g t (bytesA l)) (hn : l.length = n) :
    (convert 54 9 (.slice (some ⟨g, 0, none⟩) n n)).run Tryd.prog w = .ok (.string ⟨l.toArray⟩) w := by
  subst hn
  refine run_convert_bytes_back (P := Tryd.prog) w 54 9 5 ⟨g, 0, none⟩ _ l Tryd.underlying54 Tryd.underlying5 Tryd.underlying9 ?_
  intro j hj
  have hadd : Addr.add { block := g, off := 0 } j = ⟨g, j, none⟩ := by
    by_cases h : j = 0 <;> simp [Addr.add, h]
  rw [hadd, h.cell j, bytesA_get l j hj]
  simp [List.getD, hj]
def zeroB (n : Nat) : ByteArray := ⟨(List.replicate n (0 : UInt8)).toArray⟩
theorem zero_no (n : Int) (h : smb n = false) (w : World) : Calls Tryd.prog 54 #[.int .i64 n] w fun e w' => e = .returned (.tuple #[.string ⟨#[]⟩, .int .i64 2]) ∧ Below w.heap.size w w' := by
  have H := Lib.hid (sizeMayBe_any n)
  go_enter Tryd.func54, Tryd.ntmps54
  go_wp2_with fail
  refine (H.out _).mono ?_
  rintro e w1 ⟨rfl, rfl⟩
  go_wp2_with fail
  go_ret2
  exact ⟨rfl, Below.refl _ _⟩
theorem zero_yes (n : Nat) (h : smb n = true) (w : World) : Calls Tryd.prog 54 #[.int .i64 n] w fun e w' => e = .returned (.tuple #[.string (zeroB n), .int .i64 0]) ∧ Below w.heap.size w w' := by
  have H := Lib.hid (sizeMayBe_any n)
  have hn := (smb_iff n).1 h
  have m := makeB_any n (by omega) w
  have c := backB (Box.new w 5 (bytesA (List.replicate n 0))) (n := n) (by simp)
  go_enter Tryd.func54, Tryd.ntmps54
  go_wp2_with fail
  refine (H.out _).mono ?_
  rintro e w1 ⟨rfl, rfl⟩
  go_wp2_with fail
  go_ret2
  exact ⟨rfl, (Below.refl _ _).alloc (Nat.le_refl _) _⟩
end
end Go.Proofs.YtdfmogcgangdnaaDoor
