/- Slices of records: each record is its cells; read, kept, cut, appended. No program. -/
import Derived.Test.YtcikoaeiopbbbaaWords
import Derived.Test.YtcikoaeiopbbbaaAppO
namespace Go.Proofs.Ytcikoaeiopbbbaa
set_option linter.unusedVariables false
set_option linter.unusedSimpArgs false
open Go.RowKit
theorem addP (b off j : Nat) : (⟨b, off, none⟩ : Addr).add j = ⟨b, off + j, none⟩ := by unfold Addr.add; split <;> simp_all
section
variable {α : Type} {enc : α → List Value} {sz : Nat} {xs : List α}
theorem flat_len (hsz : ∀ x, (enc x).length = sz) : ∀ xs : List α, (xs.flatMap enc).length = xs.length * sz
  | [] => by simp
  | x :: xs => by rw [List.flatMap_cons, List.length_append, hsz, flat_len hsz xs, List.length_cons, Nat.add_mul, Nat.one_mul, Nat.add_comm]
theorem flat_one (h1 : ∀ x, ∀ u ∈ enc x, u.oneCell' = true) : ∀ u ∈ xs.flatMap enc, u.oneCell' = true := by
  intro u hu
  obtain ⟨x, -, hx⟩ := List.mem_flatMap.1 hu
  exact h1 x u hx
theorem flat_snoc (xs : List α) (x : α) : (xs ++ [x]).flatMap enc = xs.flatMap enc ++ enc x := by simp
end
section
variable {α : Type} [Inhabited α] {enc : α → List Value} {sz : Nat} {w w' : World} {A : Option Addr} {len : Nat} {xs : List α}
/-- A slice that reads as records of sz cells each. -/
def Recs (enc : α → List Value) (sz : Nat) (w : World) (A : Option Addr) (len : Nat) (xs : List α) : Prop :=
  xs.length = len ∧ (0 < len → ∃ b off, A = some ⟨b, off, none⟩ ∧ b < w.heap.size ∧ ∀ j, j < len → ∀ k v, (enc (xs.getD j default))[k]? = some v → w.cell? ⟨b, off + j * sz + k, none⟩ = some v)
theorem Recs.nil (w : World) (A : Option Addr) : Recs enc sz w A 0 [] := ⟨rfl, fun h => by omega⟩
theorem Recs.below (h : Recs enc sz w A len xs) (hb : Below w.heap.size w w') : Recs enc sz w' A len xs := by
  refine ⟨h.1, fun hp => ?_⟩
  obtain ⟨b, off, rfl, hlt, hc⟩ := h.2 hp
  exact ⟨b, off, rfl, Nat.lt_of_lt_of_le hlt hb.size, fun j hj k v hv => (hb.cell (p := ⟨b, _, none⟩) hlt).trans (hc j hj k v hv)⟩
theorem Recs.alloc (h : Recs enc sz w A len xs) (o : Obj) : Recs enc sz (w.alloc o) A len xs := h.below ((Below.refl _ _).alloc (Nat.le_refl _) o)
theorem Recs.drew (h : Recs enc sz w A len xs) : Recs enc sz w.drew A len xs := h
theorem Recs.drewN (h : Recs enc sz w A len xs) (n : Nat) : Recs enc sz (w.drewN n) A len xs := h
theorem Recs.mono (h : Recs enc sz w A len xs) {B : Nat} (hB : w.heap.size ≤ B) (hb : Below B w w') : Recs enc sz w' A len xs := h.below (hb.mono hB)
theorem Recs.none_ (h : Recs enc sz w none len xs) : len = 0 ∧ xs = [] := by
  rcases Nat.eq_zero_or_pos len with h0 | h0
  · exact ⟨h0, List.length_eq_zero_iff.1 (h.1.trans h0)⟩
  · obtain ⟨_, _, e, _⟩ := h.2 h0; cases e
theorem Recs.at (h : Recs enc sz w A len xs) (j : Nat) (hj : j < len) : ∃ b off, A = some ⟨b, off, none⟩ ∧ b < w.heap.size ∧ ∀ k v, (enc (xs.getD j default))[k]? = some v → w.cell? ⟨b, off + j * sz + k, none⟩ = some v := by
  obtain ⟨b, off, rfl, hlt, hc⟩ := h.2 (by omega)
  exact ⟨b, off, rfl, hlt, fun k v hv => hc j hj k v hv⟩
theorem Recs.take (h : Recs enc sz w A len xs) (k : Nat) (hk : k ≤ len) : Recs enc sz w A k (xs.take k) := by
  refine ⟨by rw [List.length_take, h.1]; omega, fun hp => ?_⟩
  obtain ⟨b, off, rfl, hlt, hc⟩ := h.2 (by omega)
  refine ⟨b, off, rfl, hlt, fun j hj i v hv => hc j (by omega) i v ?_⟩
  simpa [List.getD, List.getElem?_take_of_lt hj] using hv
theorem Recs.drop (h : Recs enc sz w A len xs) (k : Nat) (hk : k < len) (B : Option Addr) (hB : ∀ b off, A = some ⟨b, off, none⟩ → B = some ⟨b, off + k * sz, none⟩) : Recs enc sz w B (len - k) (xs.drop k) := by
  refine ⟨by rw [List.length_drop, h.1], fun hp => ?_⟩
  obtain ⟨b, off, rfl, hlt, hc⟩ := h.2 (by omega)
  refine ⟨b, off + k * sz, hB b off rfl, hlt, fun j hj i v hv => ?_⟩
  have := hc (k + j) (by omega) i v (by simpa [List.getD, List.getElem?_drop] using hv)
  rwa [Nat.add_mul, ← Nat.add_assoc] at this
/-- A store into a block that is another one. -/
theorem Recs.farB (h : Recs enc sz w A len xs) {g : Nat} (hne : ∀ b off, A = some ⟨b, off, none⟩ → 0 < len → b ≠ g) (i : Nat) (u : Value) : Recs enc sz (w.setCell ⟨g, i, none⟩ u) A len xs := by
  refine ⟨h.1, fun hp => ?_⟩
  obtain ⟨b, off, rfl, hlt, hc⟩ := h.2 hp
  have hn := hne b off rfl hp
  refine ⟨b, off, rfl, by simpa [World.setCell] using hlt, fun j hj k v hv => ?_⟩
  rw [World.cell?_setCell_other _ _ _ _ (by intro e; injection e; omega)]
  exact hc j hj k v hv
theorem flat_at (hsz : ∀ x, (enc x).length = sz) : ∀ (xs : List α) (j k : Nat), j < xs.length → k < sz → (xs.flatMap enc)[j * sz + k]? = (enc (xs.getD j default))[k]?
  | [], j, k, hj, _ => by cases hj
  | x :: xs, 0, k, _, hk => by
    rw [Nat.zero_mul, Nat.zero_add, List.flatMap_cons, List.getElem?_append_left (by rw [hsz]; exact hk)]; rfl
  | x :: xs, j + 1, k, hj, hk => by
    rw [List.flatMap_cons, List.getElem?_append_right (by rw [hsz, Nat.add_mul]; omega), hsz, show (j + 1) * sz + k - sz = j * sz + k by rw [Nat.add_mul]; omega, flat_at hsz xs j k (by simpa using hj) hk]; rfl
/-- The cells of a slice, as the source of an append. -/
theorem Recs.news (h : Recs enc sz w A len xs) (hsz : ∀ x, (enc x).length = sz) (h0 : 0 < sz) : ∀ ad, A = some ad → ∀ j u, (xs.flatMap enc)[j]? = some u → w.cell? (ad.add j) = some u := by
  intro ad hA j u hu
  have hlt : j < (xs.flatMap enc).length := (List.getElem?_eq_some_iff.1 hu).1
  rw [flat_len hsz, h.1] at hlt
  have hq : j / sz < len := (Nat.div_lt_iff_lt_mul h0).2 hlt
  have hr := Nat.mod_lt j h0
  have e := Nat.div_add_mod j sz
  rw [Nat.mul_comm] at e
  obtain ⟨b, off, hA2, -, hc⟩ := h.2 (Nat.lt_of_le_of_lt (Nat.zero_le _) hq)
  rw [hA] at hA2
  injection hA2 with hA2
  subst hA2
  rw [addP]
  have := hc (j / sz) hq (j % sz) u (by rw [← flat_at hsz xs _ _ (by rw [h.1]; exact hq) hr, e]; exact hu)
  rwa [Nat.add_assoc, e] at this
/-- A row of the call's own that is records. -/
theorem own_recs {base : Nat} {e : TypeId} {c : Nat} (hsz : ∀ x, (enc x).length = sz) (h : w.ownsRow base e sz (.slice A len c) len (xs.flatMap enc)) (h0 : 0 < sz) : Recs enc sz w A len xs := by
  have hl : xs.length = len := by have := h.1; rw [flat_len hsz] at this; exact Nat.eq_of_mul_eq_mul_right h0 this
  refine ⟨hl, fun hp => ?_⟩
  rcases h.2 with ⟨_, hz⟩ | ⟨g, cap, cur, hv, hb, hh, hn, hm, hs, hx⟩
  · omega
  · injection hv with hA _ _
    subst hA
    have hbx : Box w g e cur := hh
    refine ⟨g, 0, rfl, hbx.lt, fun j hj k v hv => ?_⟩
    have hk : k < sz := by have := (List.getElem?_eq_some_iff.1 hv).1; rwa [hsz] at this
    rw [Nat.zero_add, hbx.cell]
    have e1 : (cur.toList.take (len * sz))[j * sz + k]? = (xs.flatMap enc)[j * sz + k]? := by rw [hx]
    have hlt : j * sz + k < len * sz := by
      have : (j + 1) * sz ≤ len * sz := Nat.mul_le_mul_right _ hj
      rw [Nat.add_mul] at this; omega
    rw [List.getElem?_take, if_pos hlt, flat_at hsz xs j k (by omega) hk, hv] at e1
    rw [← Array.getElem?_toList, e1]
theorem take_snocD (xs : List α) (k : Nat) (h : k < xs.length) : xs.take (k + 1) = xs.take k ++ [xs.getD k default] := by
  rw [List.take_succ_eq_append_getElem h]; simp [List.getD, h]
end
end Go.Proofs.Ytcikoaeiopbbbaa
