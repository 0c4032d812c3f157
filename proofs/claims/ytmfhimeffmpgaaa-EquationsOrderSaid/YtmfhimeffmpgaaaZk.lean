/- Parts: KeM, NfM, EqR, EqT, GTail, GTail2, EqU. -/
import Derived.Test.YtmfhimeffmpgaaaZj
import Derived.Deep.DeepCutAuto
namespace Go.Proofs.Ytmfhimeffmpgaaa
section
/- The mathematics of ranks: as many rows as columns. No program. -/
set_option linter.unusedVariables false
set_option linter.unusedSimpArgs false
theorem rref_grow {M P : List Nat} (h : Rref M P) : ∀ C : List Nat, ∃ N Q, Rref N Q ∧ SameSp (M ++ C) N ∧ M.length ≤ N.length := by
  intro C
  induction C generalizing M P with
  | nil => exact ⟨M, P, h, by rw [List.append_nil]; exact SameSp.refl _, Nat.le_refl _⟩
  | cons c C ih =>
    obtain ⟨M1, P1, h1, h2, h3, h4⟩ := rref_more h c
    obtain ⟨N, Q, g1, g2, g3⟩ := ih h1
    refine ⟨N, Q, g1, SameSp.trans ?_ g2, ?_⟩
    · rw [show M ++ c :: C = (M ++ [c]) ++ C by simp]
      refine SameSp.of (fun x hx => ?_) (fun x hx => ?_)
      · rcases List.mem_append.1 hx with hx | hx
        · exact sp_sub (fun r hr => sp_mem (List.mem_append.2 (.inl hr))) ((h2 x).1 (sp_mem hx))
        · exact sp_mem (List.mem_append.2 (.inr hx))
      · rcases List.mem_append.1 hx with hx | hx
        · exact sp_sub (fun r hr => sp_mem (List.mem_append.2 (.inl hr))) ((h2 x).2 (sp_mem hx))
        · exact sp_mem (List.mem_append.2 (.inr hx))
    · by_cases hs : Sp M c
      · rw [h3 hs] at g3; exact g3
      · have := h4 hs; omega
theorem rank_sub {M P C : List Nat} (h : Rref M P) (hs : ∀ r ∈ M, Sp C r) : M.length ≤ C.length := by
  obtain ⟨N, Q, g1, g2, g3⟩ := rref_grow h C
  obtain ⟨L1, P1, k1, k2, k3⟩ := rref_exists C
  have hsame : SameSp (M ++ C) C := SameSp.of (fun x hx => by
    rcases List.mem_append.1 hx with hx | hx
    · exact hs x hx
    · exact sp_mem hx) (fun x hx => sp_mem (List.mem_append.2 (.inr hx)))
  have := (rref_uniq g1 k1 ((g2.symm.trans hsame).trans k2)).1
  rw [this] at g3
  omega
/-- Those of the first k of the columns at P whose row of M has a bit at i. -/
def cols (T M P : List Nat) (i : Nat) : Nat → Nat
  | 0 => 0
  | k + 1 => if (M.getD k 0).testBit i then cols T M P i k ^^^ T.getD (P.getD k 0) 0 else cols T M P i k
theorem cols_bit (T M P : List Nat) (v i j : Nat) : ∀ k, (∀ t, t < k → (T.getD (P.getD t 0) 0).testBit j = v.testBit (P.getD t 0)) → (comb M P v k).testBit i = (cols T M P i k).testBit j
  | 0, _ => by simp [comb, cols]
  | k + 1, h => by
    have ih := cols_bit T M P v i j k (fun t ht => h t (by omega))
    have h1 := h k (by omega)
    rw [comb, cols]
    generalize M.getD k 0 = a at *
    generalize P.getD k 0 = b at *
    generalize T.getD b 0 = c at *
    generalize comb M P v k = x at *
    generalize cols T M P i k = y at *
    clear h
    cases hv : v.testBit b <;> cases hm : a.testBit i <;> rw [hv] at h1 <;> simp [Nat.testBit_xor, ih, hm, h1]
theorem cols_span (T M P : List Nat) (i : Nat) : ∀ k, k ≤ P.length → Sp (P.map fun p => T.getD p 0) (cols T M P i k)
  | 0, _ => sp_zero _
  | k + 1, hk => by
    have ih := cols_span T M P i k (by omega)
    rw [cols]
    split
    · refine sp_xor ih (sp_mem (List.mem_map.2 ⟨P.getD k 0, getD_mem (by omega), rfl⟩))
    · exact ih
theorem cols_lt (T M P : List Nat) (i n : Nat) (h : ∀ j, T.getD j 0 < 2 ^ n) : ∀ k, cols T M P i k < 2 ^ n
  | 0 => Nat.two_pow_pos n
  | k + 1 => by
    rw [cols]
    split
    · exact Nat.xor_lt_two_pow (cols_lt T M P i n h k) (h _)
    · exact cols_lt T M P i n h k
theorem rank_cols {L T M P M' P' : List Nat} {n : Nat} (hL : ∀ r ∈ L, r < 2 ^ n) (hTl : T.length = n) (hT : ∀ i j, i < n → j < L.length → (T.getD i 0).testBit j = (L.getD j 0).testBit i) (hTlt : ∀ r ∈ T, r < 2 ^ L.length)
    (h : Rref M P) (hs : SameSp L M) (h' : Rref M' P') (hs' : SameSp T M') : M'.length ≤ M.length := by
  have hpl := h.len
  have hMlt := lt_all (same_lt hL hs)
  have key : ∀ i, i < n → T.getD i 0 = cols T M P i M.length := fun i hi => by
    apply Nat.eq_of_testBit_eq
    intro j
    by_cases hj : j < L.length
    · have e1 := h.comb ((hs _).1 (sp_mem (getD_mem hj)))
      rw [hT i j hi hj, ← cols_bit T M P (L.getD j 0) i j M.length (fun t ht => hT _ j (low_lt (hMlt t) (h.low t ht)) hj), ← e1]
    · have e1 : ∀ x, x < 2 ^ L.length → x.testBit j = false := fun x hx => Nat.testBit_lt_two_pow (Nat.lt_of_lt_of_le hx (Nat.pow_le_pow_right (by omega) (by omega)))
      rw [e1 _ (lt_all hTlt i), e1 _ (cols_lt T M P i _ (lt_all hTlt) _)]
  have := rank_sub (C := P.map fun p => T.getD p 0) h' (fun r hr => by
    refine sp_sub (fun r hr => ?_) ((hs' r).2 (sp_mem hr))
    obtain ⟨i, hi, rfl⟩ := mem_getD hr
    rw [hTl] at hi
    rw [key i hi]
    exact cols_span T M P i _ (by omega))
  rw [List.length_map] at this
  omega
theorem rank_turn {L T M P M' P' : List Nat} {n : Nat} (hL : ∀ r ∈ L, r < 2 ^ n) (hTl : T.length = n) (hT : ∀ i j, i < n → j < L.length → (T.getD i 0).testBit j = (L.getD j 0).testBit i) (hTlt : ∀ r ∈ T, r < 2 ^ L.length)
    (h : Rref M P) (hs : SameSp L M) (h' : Rref M' P') (hs' : SameSp T M') : M'.length = M.length :=
  Nat.le_antisymm (rank_cols hL hTl hT hTlt h hs h' hs') (rank_cols hTlt rfl (fun i j hi hj => (hT j i (by omega) hi).symm) (by rw [hTl]; exact hL) h' hs' h hs)
theorem rank_bound {L M P : List Nat} {n : Nat} (hL : ∀ r ∈ L, r < 2 ^ n) (h : Rref M P) (hs : SameSp L M) : M.length ≤ n := by
  have hMlt := lt_all (same_lt hL hs)
  have hp : ∀ k, k ≤ M.length → k = 0 ∨ k ≤ P.getD (k - 1) 0 + 1 := fun k => by
    induction k with
    | zero => intro _; exact .inl rfl
    | succ k ih =>
      intro hk
      rcases ih (by omega) with rfl | h1
      · right; omega
      · right
        have := h.rise (k - 1) k
        by_cases h0 : k = 0
        · omega
        · have := this (by omega) (by omega)
          rw [Nat.add_sub_cancel]; omega
  rcases hp M.length (Nat.le_refl _) with h0 | h0
  · omega
  · by_cases h1 : M.length = 0
    · omega
    · have := low_lt (hMlt (M.length - 1)) (h.low (M.length - 1) (by omega)); omega
/-- One row more. -/
theorem rank_more {L M P M' P' : List Nat} {r : Nat} (h : Rref M P) (hs : SameSp L M) (h' : Rref M' P') (hs' : SameSp (L ++ [r]) M') : (Sp L r → M'.length = M.length) ∧ (¬ Sp L r → M'.length = M.length + 1) := by
  obtain ⟨M1, P1, h1, h2, h3, h4⟩ := rref_more h r
  have hsame : SameSp (L ++ [r]) (M ++ [r]) := SameSp.of (fun x hx => by
    rcases List.mem_append.1 hx with hx | hx
    · exact sp_sub (fun r hr => sp_mem (List.mem_append.2 (.inl hr))) ((hs x).1 (sp_mem hx))
    · exact sp_mem (List.mem_append.2 (.inr hx))) (fun x hx => by
    rcases List.mem_append.1 hx with hx | hx
    · exact sp_sub (fun r hr => sp_mem (List.mem_append.2 (.inl hr))) ((hs x).2 (sp_mem hx))
    · exact sp_mem (List.mem_append.2 (.inr hx)))
  have e := (rref_uniq h' h1 ((hs'.symm.trans hsame).trans h2)).1
  rw [e]
  exact ⟨fun k => by rw [h3 ((hs r).1 k)], fun k => h4 (fun k2 => k ((hs r).2 k2))⟩
/-- A matrix turned, by numbers. -/
theorem turn_num {n : Nat} {L : List Nat} (hn : n ≤ 64) (hl : L.length ≤ 64) : ∃ T : List Nat, turnM n (mkM n L) = mkM L.length T ∧ T.length = n ∧ (∀ r ∈ T, r < 2 ^ L.length) ∧ ∀ i j, i < n → j < L.length → (T.getD i 0).testBit j = (L.getD j 0).testBit i := by
  have hr := turnM_right n (mkM n L) hn (by rw [mkM_len]; exact hl)
  rw [mkM_len] at hr
  obtain ⟨k, T, hk, -, -, hT, hlt⟩ := mat_num hr (fun i j => turnM_ltM n (mkM n L) i j)
  have hk : k = L.length := by omega
  subst hk
  have hTl : T.length = n := by have := congrArg List.length hT; rw [turnM_lenM, mkM_len] at this; exact this.symm
  refine ⟨T, hT, hTl, hlt, fun i j hi hj => ?_⟩
  have h1 := turnM_at n (mkM n L) i hi
  rw [hT, mkM_at _ T i (by omega), mkM_len] at h1
  have h2 : rowOf L.length (T.getD i 0) = colW (mkM n L) i := (Prod.mk.inj h1).2
  rw [← rowOf_bit L.length _ j hj, h2, colW_bit _ i j (by rw [mkM_len]; exact hj)]
  unfold mbit
  rw [mkM_at n L j hj]
  exact rowOf_bit n _ i hi
end
section
/- The places of a symbol's row are its blocks. -/
set_option linter.unusedVariables false
set_option linter.unusedSimpArgs false
theorem filter_wide (k m : Nat) (c : Nat → Bool) (h : k ≤ m) : ((List.range m).filter fun p => decide (p ∈ (List.range k).filter c)) = (List.range k).filter c := by
  obtain ⟨d, rfl⟩ := Nat.le.dest h
  rw [List.range_add, List.filter_append]
  have e1 : ((List.range k).filter fun p => decide (p ∈ (List.range k).filter c)) = (List.range k).filter c := by
    apply List.filter_congr
    intro x hx
    rw [Bool.eq_iff_iff]
    simp only [List.mem_filter, decide_eq_true_eq]
    exact ⟨fun h => h.2, fun h => ⟨hx, h⟩⟩
  have e2 : (((List.range d).map fun x => k + x).filter fun p => decide (p ∈ (List.range k).filter c)) = [] := by
    rw [List.filter_eq_nil_iff]
    intro x hx
    obtain ⟨y, -, rfl⟩ := List.mem_map.1 hx
    simp only [List.mem_filter, decide_eq_true_eq, List.mem_range]
    omega
  rw [e1, e2, List.append_nil]
theorem bitAt_small (us : List Nat) (p : Nat) (h : p < 64) : (bitAt us p == 1) = (us.getD 0 0).testBit p := by
  rw [Bool.eq_iff_iff, beq_iff_eq, ← bitAt_bit us 0 p h, Nat.mul_zero, Nat.zero_add]
theorem nb_lt (k id x : Nat) (h : x ∈ nbL k id) : x < k := by
  have := (List.mem_filter.1 h).1
  simpa using this
theorem nb_plc (k id : Nat) (h1 : 1 ≤ k) (h2 : k ≤ 64) : plcN (nbRow k id) 64 = nbL k id := by
  have e : plcN (nbRow k id) 64 = (List.range 64).filter fun p => decide (p ∈ nbL k id) := by
    unfold plcN
    apply List.filter_congr
    intro p hp
    have hp : p < 64 := by simpa using hp
    rw [bitAt_small _ p hp, nbRow, ofBits_test k _ 0 p (by unfold nw; omega), Bool.eq_iff_iff]
    simp only [List.any_eq_true, nbZ, castZ, List.mem_map, decide_eq_true_eq, Bool.and_eq_true, beq_iff_eq]
    constructor
    · rintro ⟨z, ⟨y, hy, rfl⟩, h3, h4⟩
      rw [Int.toNat_natCast] at h3 h4
      have : y = p := by omega
      rwa [← this]
    · intro hy
      refine ⟨(p : Int), ⟨p, hy, rfl⟩, ?_, ?_⟩
      · rw [Int.toNat_natCast]; omega
      · rw [Int.toNat_natCast]; omega
  rw [e]
  exact filter_wide k 64 _ h2
theorem nb_facts (k id : Nat) (j : Nat) (hj : j < (nbL k id).length) : (nbL k id).getD j 0 < k ∧ (0 < j → (nbL k id).getD (j - 1) 0 < (nbL k id).getD j 0) := by
  have e : (nbL k id).getD j 0 = (nbL k id)[j] := by simp [List.getD, hj]
  refine ⟨by rw [e]; exact nb_lt k id _ (List.getElem_mem hj), fun h0 => ?_⟩
  have e2 : (nbL k id).getD (j - 1) 0 = (nbL k id)[j - 1] := by simp [List.getD, show j - 1 < (nbL k id).length by omega]
  rw [e, e2]
  have hp : (nbL k id).Pairwise (· < ·) := (List.pairwise_lt_range (n := k)).sublist List.filter_sublist
  exact List.pairwise_iff_getElem.1 hp (j - 1) j (by omega) hj (by omega)
theorem nb_right (k id : Nat) (h1 : 1 ≤ k) (h2 : k ≤ 64) : rightB (k : Int) (nbRow k id) = true := by
  have hlen : (nbRow k id).length = 1 := by rw [nbRow, ofBits_len]; unfold nw; omega
  refine right_of_bits k 1 _ (lmb_k k h1 h2) hlen (by unfold nw; omega) (ofBits_lt k _) fun i h3 h4 => ?_
  have h : plcN (nbRow k id) 64 = nbL k id := nb_plc k id h1 h2
  rcases bitAt_le (nbRow k id) i with h0 | h0
  · exact h0
  · exfalso
    have : i ∈ plcN (nbRow k id) 64 := by
      unfold plcN
      exact List.mem_filter.2 ⟨by simp; omega, by simpa using h0⟩
    rw [h] at this
    have := nb_lt k id i this
    omega
end
section
/- Layer 12: the rank as a number; rows as numbers. -/
set_option linter.unusedVariables false
set_option linter.unusedSimpArgs false
open Go.RowKit
def RkIs (L : List Nat) (n : Nat) : Prop := ∃ M P, Rref M P ∧ SameSp L M ∧ n = M.length
theorem rk_fun {L : List Nat} {n m : Nat} (h : RkIs L n) (h' : RkIs L m) : n = m := by
  obtain ⟨M, P, a, b, rfl⟩ := h
  obtain ⟨M', P', a', b', rfl⟩ := h'
  rw [(rref_uniq a a' (b.symm.trans b')).1]
theorem rk_same {L K : List Nat} {n m : Nat} (hs : SameSp L K) (h : RkIs L n) (h' : RkIs K m) : n = m := by
  obtain ⟨M', P', a', b', e⟩ := h'
  exact rk_fun h ⟨M', P', a', hs.trans b', e⟩
theorem rk_more {L : List Nat} {r n m : Nat} (h : RkIs L n) (h' : RkIs (L ++ [r]) m) : m = n ∨ m = n + 1 := by
  obtain ⟨M, P, a, b, rfl⟩ := h
  obtain ⟨M', P', a', b', rfl⟩ := h'
  obtain ⟨h1, h2⟩ := rank_more a b a' b'
  by_cases hs : Sp L r
  · exact .inl (h1 hs)
  · exact .inr (h2 hs)
theorem rk_bound {L : List Nat} {N n : Nat} (hL : ∀ r ∈ L, r < 2 ^ N) (h : RkIs L n) : n ≤ N := by
  obtain ⟨M, P, a, b, rfl⟩ := h
  exact rank_bound hL a b
theorem rk_le {L : List Nat} {n : Nat} (h : RkIs L n) : n ≤ L.length := by
  obtain ⟨M, P, a, b, rfl⟩ := h
  obtain ⟨M', P', a', b', c⟩ := rref_exists L
  rw [(rref_uniq a a' (b.symm.trans b')).1]; exact c
theorem rk_swap {L : List Nat} {x y n m : Nat} (h : RkIs (L ++ [x] ++ [y]) n) (h' : RkIs (L ++ [y] ++ [x]) m) : n = m :=
  rk_same (SameSp.of (fun r hr => sp_mem (by simp at hr ⊢; rcases hr with h | h | h <;> simp [h])) (fun r hr => sp_mem (by simp at hr ⊢; rcases hr with h | h | h <;> simp [h]))) h h'
/-- A symbol's row as a number. -/
def numR (k id : Nat) : Nat := valW (nbRow k id)
theorem numR_row (k id : Nat) (h1 : 1 ≤ k) (h2 : k ≤ 64) : nbRow k id = rowOf k (numR k id) ∧ numR k id < 2 ^ k := row_of (nb_right k id h1 h2) (nbRow_lt k id)
def rowsN (k : Nat) (xs : List SymR) : List Nat := xs.map fun x => numR k x.1
theorem rowsN_len (k : Nat) (xs : List SymR) : (rowsN k xs).length = xs.length := by simp [rowsN]
theorem rowsN_lt (k : Nat) (xs : List SymR) (h1 : 1 ≤ k) (h2 : k ≤ 64) : ∀ r ∈ rowsN k xs, r < 2 ^ k := fun r hr => by
  obtain ⟨x, -, rfl⟩ := List.mem_map.1 hr
  exact (numR_row k x.1 h1 h2).2
theorem rowsN_snoc (k : Nat) (xs : List SymR) (x : SymR) : rowsN k (xs ++ [x]) = rowsN k xs ++ [numR k x.1] := by simp [rowsN]
theorem rowsN_mk (k : Nat) (xs : List SymR) (h1 : 1 ≤ k) (h2 : k ≤ 64) (j : Nat) (hj : j < xs.length) : (mkM k (rowsN k xs)).getD j (0, []) = ((k : Int), ((xs.map (·.1)).map (nbRow k)).getD j []) := by
  rw [mkM_at k _ j (by rw [rowsN_len]; exact hj)]
  have e : (rowsN k xs).getD j 0 = numR k (xs[j]).1 := by simp [rowsN, List.getD, hj]
  have e2 : ((xs.map (·.1)).map (nbRow k)).getD j [] = nbRow k (xs[j]).1 := by simp [List.getD, hj]
  rw [e, e2, (numR_row k (xs[j]).1 h1 h2).1]
  rfl
theorem MatW.mat {w : World} {base k : Nat} {v : Value} {xs : List SymR} (h1 : 1 ≤ k) (h2 : k ≤ 64) (h : MatW w base k v ((xs.map (·.1)).map (nbRow k))) : ∃ A c, v = .slice A (rowsN k xs).length c ∧ MatAt w base A (rowsN k xs).length (mkM k (rowsN k xs)) := by
  obtain ⟨rs, a, b, c⟩ := h
  rw [List.length_map, List.length_map] at a b c
  have e : flatR k rs = rowCells (rs.map fun r => ((k : Int), r)) := by simp [flatR, rowCells, List.flatMap_map]
  rw [e] at b
  obtain ⟨A, d, hv, -, hm⟩ := own_mat b (by simp [a]) (mkM k (rowsN k xs)) (by rw [mkM_len, rowsN_len]) (fun j hj => by
    have hr : (rs.map fun r => ((k : Int), r)).getD j (0, none, 0, 0) = ((k : Int), rs.getD j (none, 0, 0)) := by
      have : j < rs.length := by omega
      simp [List.getD, this]
    rw [hr, rowsN_mk k xs h1 h2 j hj]
    have := c j hj
    exact ⟨rfl, this.ok, this.words (fun i => rowsRows_lt k (xs.map (·.1)) j i)⟩)
  rw [← rowsN_len k xs] at hv hm
  exact ⟨A, d, hv, hm⟩
end
section
/- Contracts of layer 12: Rows, Rank, Bytes. -/
set_option linter.unusedVariables false
set_option linter.unusedSimpArgs false
open Go.RowKit
set_option maxRecDepth 100000
theorem u64_info12 : (Try.prog.info? 25).map (fun i => (i.zero, i.size, i.bytes)) = some (some (.int .u64 0), 1, 8) := by kernel_rfl
theorem storeB_bd {k s c : Int} {xs : List SymR} (h : storeB k s c xs = true) : (1 ≤ k ∧ k ≤ 64) ∧ (0 ≤ s ∧ s ≤ 64) ∧ (1 ≤ c ∧ c ≤ 64) ∧ (xs.length : Int) ≤ c := by
  unfold storeB kB at h
  simp only [Bool.and_eq_true, decide_eq_true_eq] at h
  exact ⟨h.1.1.1.1.1, h.1.1.1.1.2, h.1.1.1.2, h.1.1.2⟩
def idN (xs : List SymR) : List Nat := xs.map (·.1)
theorem idN_len (xs : List SymR) : (idN xs).length = xs.length := by simp [idN]
theorem idN_at (xs : List SymR) (h : ∀ j, (xs.getD j default).1 < 18446744073709551616) (j : Nat) : (idN xs).getD j 0 < 18446744073709551616 := by
  by_cases hj : j < xs.length
  · have e : (idN xs).getD j 0 = (xs.getD j default).1 := by simp [idN, List.getD, hj]
    rw [e]; exact h j
  · have e : (idN xs).getD j 0 = 0 := by simp [idN, List.getD, List.getElem?_eq_none (Nat.le_of_not_lt hj)]
    rw [e]; decide
theorem idN_snoc (xs : List SymR) (k : Nat) (h : k < xs.length) : (idN (xs.take (k + 1))).map (fun (x : Nat) => Value.int .u64 (x : Int)) = (idN (xs.take k)).map (fun (x : Nat) => Value.int .u64 (x : Int)) ++ [Value.int .u64 ((xs.getD k default).1 : Nat)] := by
  unfold idN
  rw [take_snocD xs k h]; simp
abbrev erW (k s c : Int) (A : Option Addr) (l d : Nat) (w : World) : World :=
  (w.alloc (.cells #[.int .i64 k, .int .i64 s, .int .i64 c, .slice A l d] 24)).alloc (.cells #[.int .i64 0, .slice none 0 0] 53)
theorem erW_two (k s c : Int) (A : Option Addr) (l d : Nat) (w : World) :
    Box (erW k s c A l d w) w.heap.size 24 #[.int .i64 k, .int .i64 s, .int .i64 c, .slice A l d] ∧ Box (erW k s c A l d w) (w.heap.size + 1) 53 #[.int .i64 0, .slice none 0 0] ∧ Below w.heap.size w (erW k s c A l d w) := by
  refine ⟨(Box.new w _ _).alloc _, ?_, ((Below.refl _ _).alloc (Nat.le_refl _) _).alloc (by simp) _⟩
  have q := Box.new (w.alloc (.cells #[.int .i64 k, .int .i64 s, .int .i64 c, .slice A l d] 24)) 53 #[.int .i64 0, .slice none 0 0]
  simpa only [World.size_alloc] using q
set_option maxHeartbeats 1000000 in
theorem erows_no (k s c : Int) (A : Option Addr) (l d : Nat) (xs : List SymR) (w : World) (hx : Syms w A l xs) (hl : l ≤ d) (hd : d ≤ maxLen) (hs : storeB k s c xs = false) :
    Calls Try.prog 38 #[.agg #[.int .i64 k, .int .i64 s, .int .i64 c, .slice A l d]] w fun e w' => e = .returned (.tuple #[.agg #[.int .i64 0, .slice none 0 0], .int .i64 1]) ∧ Below w.heap.size w w' := by
  obtain ⟨q0, q1, b1⟩ := erW_two k s c A l d w
  have Q1 := Lib.hid q1
  have HB := Lib.hid b1
  have HR := Lib.hid (eright_any k s c A l d xs _ (hx.below b1) hl hd)
  rw [hs] at HR
  obtain ⟨r0, r1, r2, r3, -, -, -, -⟩ := q0.four
  clear hx b1 q0 q1 hs
  go_enter Try.func38, Try.ntmps38
  go_wp2_with fail
  refine HR.out.mono ?_
  rintro e w1 ⟨rfl, hb⟩
  replace HB := Lib.hid (chain HB.out hb)
  replace Q1 := Lib.hid (Q1.out.keep hb)
  clear hb r0 r1 r2 r3
  obtain ⟨z0, z1, z2, z3⟩ := Q1.out.two
  go_wp2_with fail
  refine close_cell Try.results38 rfl rfl rfl Q1.out.put2 Try.underlying53 rfl (by kernel_rfl) ⟨rfl, ?_⟩
  exact (HB.out.setCell (p := ⟨w.heap.size + 1, 0, none⟩) (by show w.heap.size ≤ w.heap.size + 1; omega) _).setCell (p := ⟨w.heap.size + 1, 1, none⟩) (by show w.heap.size ≤ w.heap.size + 1; omega) _
/-- A matrix of the symbols' rows. -/
def RowsOut (k : Nat) (xs : List SymR) (w : World) (e : Ending) (w' : World) : Prop :=
  ∃ A c b0, e = .returned (.tuple #[.agg #[.int .i64 k, .slice A xs.length c], .int .i64 0]) ∧ MatW w' b0 k (.slice A xs.length c) ((idN xs).map (nbRow k)) ∧ Below w.heap.size w w'
set_option maxHeartbeats 4000000 in
theorem erows_yes (k : Nat) (s c : Int) (A : Option Addr) (l d : Nat) (xs : List SymR) (w : World) (hx : Syms w A l xs) (hl : l ≤ d) (hd : d ≤ maxLen) (hs : storeB k s c xs = true) (hid : ∀ j, (xs.getD j default).1 < 18446744073709551616) :
    Calls Try.prog 38 #[.agg #[.int .i64 k, .int .i64 s, .int .i64 c, .slice A l d]] w (RowsOut k xs w) := by
  obtain ⟨hk, -, hc, hlc⟩ := storeB_bd hs
  have k1 : 1 ≤ k := by omega
  have k2 : k ≤ 64 := by omega
  obtain ⟨i0, hi, hz0, hz1, hz2⟩ := info_parts u64_info12
  have HI := Lib.hid hi
  have HZ0 := Lib.hid hz0
  have HZ1 := Lib.hid hz1
  have HZ2 := Lib.hid hz2
  obtain ⟨q0, q1, b1⟩ := erW_two k s c A l d w
  have Q0 := Lib.hid q0
  have Q1 := Lib.hid q1
  have HB := Lib.hid b1
  have HXl := Lib.hid hx.1
  have hl64 : l ≤ 64 := by have := hx.1; omega
  have HX := Lib.hid (hx.below b1)
  have HID := Lib.hid (idN_at xs hid)
  have HR := Lib.hid (eright_any k s c A l d xs _ (hx.below b1) hl hd)
  rw [hs] at HR
  have HRW := Lib.hid (fun A' c' w' h => rows_yes k k1 k2 A' l c' (idN xs) w' h hl64)
  obtain ⟨r0, r1, r2, r3, -, -, -, -⟩ := q0.four
  clear hx b1 q0 q1 hs hi hz0 hz1 hz2 hid
  go_enter Try.func38, Try.ntmps38
  go_wp2_with fail
  refine HR.out.mono ?_
  rintro e w1 ⟨rfl, hb⟩
  replace HB := Lib.hid (chain HB.out hb)
  replace Q0 := Lib.hid (Q0.out.keep hb)
  replace Q1 := Lib.hid (Q1.out.keep hb)
  replace HX := Lib.hid (HX.out.below hb)
  clear hb r0 r1 r2 r3 HR
  obtain ⟨r0, r1, r2, r3, -, -, -, -⟩ := Q0.out.four
  go_wp2_with fail
  clear r0 r1 r2 r3
  go_loopw [4, 14] (fun v t wr => ∃ i : Nat, i ≤ l ∧ t = .int .i64 i ∧ wr.ownsRow w1.heap.size 25 1 v i ((idN (xs.take i)).map fun (x : Nat) => Value.int .u64 (x : Int)) ∧ Below w1.heap.size w1 wr) (fun _ t _ => l - (intOf t).toNat)
  case atStart => exact ⟨0, Nat.zero_le _, rfl, World.ownsRow_nil _ _ _ _, Below.refl _ _⟩
  case round =>
    obtain ⟨i, hi, rfl, hown, hbel⟩ := hrel
    have HO := Lib.hid hown
    have HC := Lib.hid hbel
    clear hown hbel
    by_cases hlt : i < l
    · have hlt' : (i : Int) < (l : Int) := Int.ofNat_lt.2 hlt
      obtain ⟨b, off, rfl, hb, x0, x1⟩ := Syms.two HX.out i hlt
      have x0 := (HC.out.cell (p := ⟨b, off + i * 2, none⟩) hb).trans x0
      have x1 := (HC.out.cell (p := ⟨b, off + i * 2 + 1, none⟩) hb).trans x1
      have HS := Lib.hid (idN_snoc xs i (by rw [HXl.out]; exact hlt))
      generalize xs.getD i default = p at *
      obtain ⟨p0, p1⟩ := p
      dsimp only at x0 x1 HS
      have G := Lib.hid (Box.new wr 27 #[.int .u64 (p0 : Nat), .string p1])
      have c1 := Lib.hid (show Below wr.heap.size wr (wr.alloc (.cells #[.int .u64 (p0 : Nat), .string p1] 27)) from (Below.refl _ _).alloc (Nat.le_refl _) _)
      have c2 := Lib.hid (show Below wr.heap.size wr ((wr.alloc (.cells #[.int .u64 (p0 : Nat), .string p1] 27)).alloc (.cells #[.int .u64 (p0 : Nat)] 25)) from c1.out.alloc c1.out.size _)
      have XO := Lib.hid (own_keep HO.out c2.out)
      have XB := Lib.hid (HC.out.trans (c2.out.mono HC.out.size))
      have N2 := Lib.hid (fun g hg => (HO.out.lt g hg).1)
      have NW := Lib.hid (show ∀ j u, ([Value.int .u64 (p0 : Nat)])[j]? = some u → ((wr.alloc (.cells #[.int .u64 (p0 : Nat), .string p1] 27)).alloc (.cells #[.int .u64 (p0 : Nat)] 25)).cell? ((⟨wr.heap.size + 1, 0, none⟩ : Addr).add j) = some u from by
        have := World.news_of_block (Box.new (wr.alloc (.cells #[.int .u64 (p0 : Nat), .string p1] 27)) 25 #[.int .u64 (p0 : Nat)])
        rw [World.size_alloc] at this
        exact this)
      obtain ⟨g0, g1, -, -⟩ := G.out.two
      clear G c1
      go_wp2_with (at_builtin; refine wpList_append_own _ rfl _ _ 60 rfl w1.heap.size 25 i0 (.int .u64 0) 1 8 Try.underlying60 HI.out HZ0.out HZ1.out HZ2.out rfl (by decide) _ _ _ rfl XO.out ⟨wr.heap.size + 1, 0, none⟩ 1 1 [.int .u64 (p0 : Nat)] rfl rfl NW.out (by simp [Value.oneCell']) (by simp [maxLen]; omega) (by omega) XB.out.size ?_; intro v' w2 hown' hgrow _; have HC2 := Lib.hid (XB.out.grown hgrow XB.out.size N2.out); have HO2 := Lib.hid hown'; clear hown' hgrow)
      go_roundw
      case rel =>
        refine ⟨i + 1, hlt, by go_num, ?_, HC2.out⟩
        rw [HS.out]
        exact HO2.out
      case measure => simp [intOf] <;> omega
    · obtain rfl : l = i := by omega
      have hlt' : ¬ (l : Int) < (l : Int) := Int.lt_irrefl _
      have HTK := Lib.hid (show xs.take l = xs from List.take_of_length_le (by rw [HXl.out]; exact Nat.le_refl _))
      rw [HTK.out] at HO
      obtain ⟨A7, c7, hv, -⟩ := own_form HO.out
      subst hv
      have HWd := Lib.hid (own_words HO.out HID.out)
      have Q0 := Lib.hid (Q0.out.keep HC.out)
      have Q1 := Lib.hid (Q1.out.keep HC.out)
      have BB := Lib.hid (chain HB.out HC.out)
      clear HO HTK HC
      obtain ⟨r0, r1, r2, r3, -, -, -, -⟩ := Q0.out.four
      go_wp2_with fail
      refine (HRW.out A7 c7 _ HWd.out).mono ?_
      rintro e w3 ⟨v3, rfl, hm, hb⟩
      obtain ⟨A3, c3, rfl⟩ := MatW.form hm (show ((idN xs).map (nbRow k)).length = l by rw [List.length_map, idN_len, HXl.out])
      have HM := Lib.hid hm
      replace BB := Lib.hid (chain BB.out hb)
      replace Q1 := Lib.hid (Q1.out.keep hb)
      clear hb hm r0 r1 r2 r3
      obtain ⟨z0, z1, z2, z3⟩ := Q1.out.two
      go_wp2_with fail
      refine close_cell Try.results38 rfl rfl rfl Q1.out.put2 Try.underlying53 rfl (by kernel_rfl) ⟨A3, c3, wr.heap.size, by rw [HXl.out]; rfl, ?_, ?_⟩
      · rw [HXl.out]
        exact (HM.out.far Q1.out (by decide) (by decide) 0 _).far (Q1.out.put 0 _) (by decide) (by decide) 1 _
      · exact (BB.out.setCell (p := ⟨w.heap.size + 1, 0, none⟩) (by show w.heap.size ≤ w.heap.size + 1; omega) _).setCell (p := ⟨w.heap.size + 1, 1, none⟩) (by show w.heap.size ≤ w.heap.size + 1; omega) _
theorem erank_no (k s c : Int) (A : Option Addr) (l d : Nat) (xs : List SymR) (w : World) (hx : Syms w A l xs) (hl : l ≤ d) (hd : d ≤ maxLen) (hs : storeB k s c xs = false) :
    Calls Try.prog 17 #[.agg #[.int .i64 k, .int .i64 s, .int .i64 c, .slice A l d]] w fun e w' => e = .returned (.tuple #[.int .i64 0, .int .i64 1]) ∧ Below w.heap.size w w' := by
  have b1 : Below w.heap.size w (w.alloc (.cells #[.int .i64 k, .int .i64 s, .int .i64 c, .slice A l d] 24)) := (Below.refl _ _).alloc (Nat.le_refl _) _
  have HR := Lib.hid (erows_no k s c A l d xs _ (hx.below b1) hl hd hs)
  have HB := Lib.hid b1
  obtain ⟨r0, r1, r2, r3, -, -, -, -⟩ := (Box.new w 24 #[.int .i64 k, .int .i64 s, .int .i64 c, .slice A l d]).four
  clear hx b1 hs
  go_enter Try.func17, Try.ntmps17
  go_wp2_with fail
  refine HR.out.mono ?_
  rintro e w1 ⟨rfl, hb⟩
  replace HB := Lib.hid (chain HB.out hb)
  clear hb r0 r1 r2 r3
  go_wp2_with fail
  go_ret2
  exact ⟨rfl, HB.out.alloc HB.out.size _⟩
theorem erank_yes (k : Nat) (s c : Int) (A : Option Addr) (l d : Nat) (xs : List SymR) (w : World) (hx : Syms w A l xs) (hl : l ≤ d) (hd : d ≤ maxLen) (hs : storeB k s c xs = true) (hid : ∀ j, (xs.getD j default).1 < 18446744073709551616) :
    Calls Try.prog 17 #[.agg #[.int .i64 k, .int .i64 s, .int .i64 c, .slice A l d]] w fun e w' => ∃ n : Nat, e = .returned (.tuple #[.int .i64 n, .int .i64 0]) ∧ RkIs (rowsN k xs) n ∧ Below w.heap.size w w' := by
  obtain ⟨hk, -, hc, hlc⟩ := storeB_bd hs
  have k1 : 1 ≤ k := by omega
  have k2 : k ≤ 64 := by omega
  have b1 : Below w.heap.size w (w.alloc (.cells #[.int .i64 k, .int .i64 s, .int .i64 c, .slice A l d] 24)) := (Below.refl _ _).alloc (Nat.le_refl _) _
  have HR := Lib.hid (erows_yes k s c A l d xs _ (hx.below b1) hl hd hs hid)
  have HB := Lib.hid b1
  have HK := Lib.hid (fun A c lo w hm => rank_yes k k2 (rowsN k xs) (rowsN_lt k xs k1 k2) (by rw [rowsN_len]; omega) A c lo w hm (right_mk k k2 (rowsN k xs) (by rw [rowsN_len]; omega) (rowsN_lt k xs k1 k2)))
  obtain ⟨r0, r1, r2, r3, -, -, -, -⟩ := (Box.new w 24 #[.int .i64 k, .int .i64 s, .int .i64 c, .slice A l d]).four
  clear hx b1 hs hid
  go_enter Try.func17, Try.ntmps17
  go_wp2_with fail
  refine HR.out.mono ?_
  rintro e w1 ⟨A3, c3, b0, rfl, hm, hb⟩
  obtain ⟨A4, c4, hv, hmat⟩ := MatW.mat k1 k2 hm
  rw [rowsN_len] at hv
  injection hv with e1 e2 e3
  subst e1 e3
  have Q := Lib.hid (Box.new w1 53 #[.int .i64 k, .slice A3 xs.length c3])
  have HM := Lib.hid (hmat.below ((Below.refl _ _).alloc (Nat.le_refl _) (.cells #[.int .i64 k, .slice A3 xs.length c3] 53)))
  replace HB := Lib.hid ((chain HB.out hb).alloc (chain HB.out hb).size (.cells #[.int .i64 k, .slice A3 xs.length c3] 53))
  clear hb r0 r1 r2 r3 hm hmat
  obtain ⟨z0, z1, -, -⟩ := Q.out.two
  have HKK := Lib.hid (HK.out A3 c3 _ _ HM.out)
  rw [rowsN_len] at HKK
  go_wp2_with fail
  refine HKK.out.mono ?_
  rintro e w2 ⟨M, P, g1, g2, rfl, hb⟩
  have HG := Lib.hid (show RkIs (rowsN k xs) M.length from ⟨M, P, g1, g2, rfl⟩)
  replace HB := Lib.hid (chain HB.out hb)
  clear hb g1 g2
  go_wp2_with fail
  go_ret2
  exact ⟨M.length, rfl, HG.out, HB.out⟩
theorem ebytes_no (k s c : Int) (A : Option Addr) (l d : Nat) (xs : List SymR) (w : World) (hx : Syms w A l xs) (hl : l ≤ d) (hd : d ≤ maxLen) (hs : storeB k s c xs = false) :
    Calls Try.prog 18 #[.agg #[.int .i64 k, .int .i64 s, .int .i64 c, .slice A l d]] w fun e w' => e = .returned (.tuple #[.int .i64 0, .int .i64 1]) ∧ Below w.heap.size w w' := by
  have b1 : Below w.heap.size w (w.alloc (.cells #[.int .i64 k, .int .i64 s, .int .i64 c, .slice A l d] 24)) := (Below.refl _ _).alloc (Nat.le_refl _) _
  have HR := Lib.hid (eright_any k s c A l d xs _ (hx.below b1) hl hd)
  rw [hs] at HR
  have HB := Lib.hid b1
  obtain ⟨r0, r1, r2, r3, -, -, -, -⟩ := (Box.new w 24 #[.int .i64 k, .int .i64 s, .int .i64 c, .slice A l d]).four
  clear hx b1 hs
  go_enter Try.func18, Try.ntmps18
  go_wp2_with fail
  refine HR.out.mono ?_
  rintro e w1 ⟨rfl, hb⟩
  replace HB := Lib.hid (chain HB.out hb)
  clear hb r0 r1 r2 r3
  go_wp2_with fail
  go_ret2
  exact ⟨rfl, HB.out⟩
def bytesI (l s k : Nat) : Nat := l * (s + (k + 7) / 8)
theorem bytes_wrap (l s k : Nat) (h1 : l ≤ 64) (h2 : s ≤ 64) (h3 : k ≤ 64) : wrap64 ((l : Int) * ((s : Int) + ((k : Int) + 7) / 8)) = ((bytesI l s k : Nat) : Int) := by
  have e : ((l : Int) * ((s : Int) + ((k : Int) + 7) / 8)) = ((bytesI l s k : Nat) : Int) := by unfold bytesI; push_cast; rfl
  have hp : bytesI l s k ≤ 64 * 72 := Nat.mul_le_mul h1 (by omega)
  rw [e]
  unfold wrap64
  omega
theorem ebytes_yes (k s : Nat) (c : Int) (A : Option Addr) (l d : Nat) (xs : List SymR) (w : World) (hx : Syms w A l xs) (hl : l ≤ d) (hd : d ≤ maxLen) (hs : storeB k s c xs = true) :
    Calls Try.prog 18 #[.agg #[.int .i64 k, .int .i64 s, .int .i64 c, .slice A l d]] w fun e w' => e = .returned (.tuple #[.int .i64 (bytesI l s k : Nat), .int .i64 0]) ∧ Below w.heap.size w w' := by
  obtain ⟨hk, hsz, hc, hlc⟩ := storeB_bd hs
  have hl64 : l ≤ 64 := by have := hx.1; omega
  have b1 : Below w.heap.size w (w.alloc (.cells #[.int .i64 k, .int .i64 s, .int .i64 c, .slice A l d] 24)) := (Below.refl _ _).alloc (Nat.le_refl _) _
  have HR := Lib.hid (eright_any k s c A l d xs _ (hx.below b1) hl hd)
  rw [hs] at HR
  have HB := Lib.hid b1
  have Q := Lib.hid (Box.new w 24 #[.int .i64 k, .int .i64 s, .int .i64 c, .slice A l d])
  obtain ⟨r0, r1, r2, r3, -, -, -, -⟩ := Q.out.four
  clear hx b1 hs
  go_enter Try.func18, Try.ntmps18
  go_wp2_with fail
  refine HR.out.mono ?_
  rintro e w1 ⟨rfl, hb⟩
  replace HB := Lib.hid (chain HB.out hb)
  replace Q := Lib.hid (Q.out.keep hb)
  clear hb r0 r1 r2 r3
  obtain ⟨r0, r1, r2, r3, -, -, -, -⟩ := Q.out.four
  have tw := Lib.hid (bytes_wrap l s k hl64 (by omega) (by omega))
  go_wp2_with fail
  go_ret2
  refine ⟨?_, HB.out⟩
  show Ending.returned (.tuple #[.int .i64 (wrap64 ((l : Int) * ((s : Int) + ((k : Int) + 7) / 8))), .int .i64 0]) = _
  rw [tw.out]
end
section
/- The law of HTail where one store of the head (number k) writes what earlier loads have read: some cells are held till it has come, others to the head's end. No program. -/
set_option linter.unusedVariables false
set_option linter.unusedSimpArgs false
section
variable {P : Program} {ops : Array Oper} {Q : Exit → Act → World → Prop} {md : Region.Mode} {Sa Sb : World → Prop} {k : Nat}
/-- What is held: Sb, and, while number k has not come, Sa. -/
def heldG (Sa Sb : World → Prop) (k : Nat) (listed : Array Bool) (w : World) : Prop := Sb w ∧ (listed.getD k false = false → Sa w)
theorem heldG_set {listed : Array Bool} {w : World} {i : Nat} (hik : i ≠ k) : heldG Sa Sb k (listed.setIfInBounds i true) w ↔ heldG Sa Sb k listed w := by
  unfold heldG; rw [getD_set_ne false hik]
def headG (P : Program) (md : Region.Mode) (ops : Array Oper) (Q : Exit → Act → World → Prop) (Sa Sb : World → Prop) (k m : Nat) (L : Array Bool → Act → World → Prop) : Nat → Array Bool → Act → World → Prop
  | 0, listed, a, w => L listed a w
  | f + 1, listed, a, w => Region.ready md ops listed ≠ [] ∧ ∀ i ∈ Region.ready md ops listed, i < m ∧ wpOp P ops Q i (fun a' w' => heldG Sa Sb k (listed.setIfInBounds i true) w' ∧ headG P md ops Q Sa Sb k m L f (listed.setIfInBounds i true) a' w') a w
theorem any_of_headG {m g : Nat} {L : Array Bool → Act → World → Prop} (hL : ∀ listed a w, L listed a w → wpAny P md ops Q g listed a w) :
    ∀ (f : Nat) (listed : Array Bool) (a : Act) (w : World), headG P md ops Q Sa Sb k m L f listed a w → wpAny P md ops Q (f + g) listed a w
  | 0, listed, a, w, h => by rw [Nat.zero_add]; exact hL _ _ _ h
  | f + 1, listed, a, w, h => by
    rw [show f + 1 + g = (f + g) + 1 by omega]
    exact ⟨fun h0 => absurd h0 h.1, fun i hi => wpOp_mono (fun a' w' h' => any_of_headG hL f _ a' w' h'.2) (h.2 i hi).2⟩
theorem headG_first {m i : Nat} {oi : Oper} {v : Value} {L : Array Bool → Act → World → Prop} {T : World → Prop} (hi : ops[i]? = some oi) (hsel : ∀ (j : Nat) (o : Oper) cs b, ops[j]? = some o → o.op ≠ .select cs b)
    (hik : i ≠ k) (hT : ∀ listed, HeadInv md ops m listed → listed.getD i true = false → ∀ w, heldG Sa Sb k listed w → T w)
    (hw : ∀ listed, HeadInv md ops m listed → ∀ i, i < m → listed.getD i true = false → ∀ t, m ≤ t → t ∉ Region.ready md ops listed) (him : i < m)
    (hQ : ∀ c a w, Q (.panic c) (a.put oi.dst v) w → Q (.panic c) a w) (hdone : ∀ listed a w, L listed a w → ∀ j ∈ Region.ready md ops listed, m ≤ j) :
    ∀ (f : Nat) (listed : Array Bool) (a : Act) (w : World), HeadInv md ops m listed →
      (∀ j oj, ops[j]? = some oj → j ≠ i → listed.getD j true = false → (∀ e ∈ oj.after, Region.binds md e = true → e.on ≠ i) → oi.apart ops oj = true) →
      i ∈ Region.ready md ops listed → YieldsIf P ops T oi v a → heldG Sa Sb k listed w →
      headG P md ops Q Sa Sb k m L f (listed.setIfInBounds i true) (a.put oi.dst v) w → headG P md ops Q Sa Sb k m L (f + 1) listed a w := by
  intro f
  induction f with
  | zero =>
    intro listed a w inv _ hr hy hS H
    have hun := (mem_ready.1 hr).1
    refine ⟨fun h => (by rw [h] at hr; cases hr), fun j hj => ?_⟩
    have hjm : j < m := by
      rcases Nat.lt_or_ge j m with h | h
      · exact h
      · exact absurd hj (hw listed inv i him hun j h)
    refine ⟨hjm, ?_⟩
    by_cases hji : j = i
    · subst hji; exact hy.wpOp hi (hT listed inv hun w hS) ⟨(heldG_set hik).2 hS, H⟩
    · have := hdone _ _ _ H j (ready_mono hj hji)
      omega
  | succ f ih =>
    intro listed a w inv hfree hr hy hS H
    have hun := (mem_ready.1 hr).1
    refine ⟨fun h => (by rw [h] at hr; cases hr), fun j hj => ?_⟩
    have hjm : j < m := by
      rcases Nat.lt_or_ge j m with h | h
      · exact h
      · exact absurd hj (hw listed inv i him hun j h)
    refine ⟨hjm, ?_⟩
    by_cases hji : j = i
    · subst hji; exact hy.wpOp hi (hT listed inv hun w hS) ⟨(heldG_set hik).2 hS, H⟩
    · have h1 := (H.2 j (ready_mono hj hji)).2
      obtain ⟨hjun, oj, hoj, hall⟩ := mem_ready.1 hj
      have hnot : ∀ e ∈ oj.after, Region.binds md e = true → e.on ≠ i := fun e he hb heq => by
        have h1 := hall e he hb
        rw [heq, getD_both hun] at h1
        cases h1
      have h2 := wpOp_putIf hoj (hfree j oj hoj hji hjun hnot) (fun cs b => hsel i oi cs b hi) (fun cs b => hsel j oj cs b hoj) hQ hy h1
      have hfree' : ∀ l ol, ops[l]? = some ol → l ≠ i → (listed.setIfInBounds j true).getD l true = false →
          (∀ e ∈ ol.after, Region.binds md e = true → e.on ≠ i) → oi.apart ops ol = true := fun l ol hl hli hun hno => by
        refine hfree l ol hl hli ?_ hno
        by_cases hjl : j = l
        · subst hjl; exact hjun
        · rw [getD_set_ne true hjl] at hun; exact hun
      refine wpOp_mono (fun a' w' h3 => ?_) h2
      have h4 := h3.2.1
      rw [Array.setIfInBounds_comm _ _ (Ne.symm hji)] at h4
      have h5 := (heldG_set hik).1 h4
      refine ⟨h5, ih (listed.setIfInBounds j true) a' w' (inv.set hj hjm) hfree' (ready_mono hr (Ne.symm hji)) h3.1 h5 ?_⟩
      rw [Array.setIfInBounds_comm _ _ hji]
      exact h3.2.2
/-- Take number i first, ahead of a bar; b says that number k waits for it, so that Sa may be used. -/
theorem headG_take {m i : Nat} {oi : Oper} {v : Value} {f : Nat} {listed : Array Bool} {a : Act} {w : World} {L : Array Bool → Act → World → Prop} (b : Bool) (hi : ops[i]? = some oi)
    (hall : (Region.noSelect ops && barB md ops m && decide (i < m) && headB md ops m listed && Region.free md ops listed i && (Region.ready md ops listed).contains i && decide (i ≠ k) && (!b || Region.waitsFor md ops k i)) = true)
    (hQ : ∀ c a w, Q (.panic c) (a.put oi.dst v) w → Q (.panic c) a w) (hdone : ∀ listed a w, L listed a w → ∀ j ∈ Region.ready md ops listed, m ≤ j)
    (hy : YieldsIf P ops (fun w => Sb w ∧ (b = true → Sa w)) oi v a) (hS : heldG Sa Sb k listed w) (h : headG P md ops Q Sa Sb k m L f (listed.setIfInBounds i true) (a.put oi.dst v) w) : headG P md ops Q Sa Sb k m L (f + 1) listed a w := by
  simp only [Bool.and_eq_true, decide_eq_true_eq] at hall
  obtain ⟨⟨⟨⟨⟨⟨⟨h1, h2⟩, h5⟩, h6⟩, h7⟩, h8⟩, h9⟩, h10⟩ := hall
  refine headG_first hi (Region.noSelect_spec h1) h9 (fun listed inv hun w hw => ⟨hw.1, fun hb => hw.2 ?_⟩) (fun listed _ i him hun t ht => bar_waits h2 listed i him hun t ht) h5 hQ hdone f listed a w (headB_inv h6) (Region.free_spec hi h7) (by simpa using h8) hy hS h
  subst hb
  simp only [Bool.not_true, Bool.false_or] at h10
  obtain ⟨ok, hok, e, he, hbd, hon⟩ := Region.waitsFor_spec h10
  cases hl : listed.getD k false with
  | false => rfl
  | true =>
    have := inv.closed k ok hok hl e he hbd
    rw [hon, getD_both hun] at this
    cases this
/-- Only number i may come up: behind it what is held is to be shown anew. -/
theorem headG_one {m i : Nat} {o : Oper} {f : Nat} {listed : Array Bool} {a : Act} {w : World} {L : Array Bool → Act → World → Prop} (hr : (Region.ready md ops listed == [i] && decide (i < m)) = true) (ho : ops[i]? = some o)
    (h : ∀ K' : Act → World → Prop, Shut (∀ a w, heldG Sa Sb k (listed.setIfInBounds i true) w → headG P md ops Q Sa Sb k m L f (listed.setIfInBounds i true) a w → K' a w) → if Region.wanted o (yielded ops a.tmps) = true then Oper.wp P o a w K' Q else K' (a.put o.dst undef) w) : headG P md ops Q Sa Sb k m L (f + 1) listed a w := by
  simp only [Bool.and_eq_true, beq_iff_eq, decide_eq_true_eq] at hr
  refine ⟨by rw [hr.1]; simp, fun j hj => ?_⟩
  rw [hr.1] at hj
  have hji : j = i := by simpa using hj
  subst hji
  exact ⟨hr.2, wpOp_step ho (fun K' hK => h K' (fun a w hS hW => hK a w ⟨hS, hW⟩))⟩
theorem wp_heldG_bar {id : Nat} {a : Act} {w : World} {l : List Oper} (m k : Nat) (hmx : P.follows .mixedOrders = true) (hm : m ≤ l.length)
    (h : headG P .any l.toArray Q Sa Sb k m (fun listed a w => passedB m listed = true ∧ wpAny P .any l.toArray Q (l.length - m) listed a w) m (Array.replicate l.toArray.size false) a w.drew) : (Code.region id l.toArray true).wp P Q a w := by
  refine wp_region_any hmx ?_
  have := any_of_headG (g := l.length - m) (fun listed a' w' hL => hL.2) _ _ _ _ h
  rw [show m + (l.length - m) = l.toArray.size by simp; omega] at this
  exact this
end
end
section
/- GTail, where number k waits for number i through number j. No program. -/
set_option linter.unusedVariables false
set_option linter.unusedSimpArgs false
section
variable {P : Program} {ops : Array Oper} {Q : Exit → Act → World → Prop} {md : Region.Mode} {Sa Sb : World → Prop} {k : Nat}
theorem headG_takeT {m i : Nat} {oi : Oper} {v : Value} {f : Nat} {listed : Array Bool} {a : Act} {w : World} {L : Array Bool → Act → World → Prop} (j : Nat) (hi : ops[i]? = some oi)
    (hall : (Region.noSelect ops && barB md ops m && decide (i < m) && headB md ops m listed && Region.free md ops listed i && (Region.ready md ops listed).contains i && decide (i ≠ k) && (Region.waitsFor md ops k j && Region.waitsFor md ops j i)) = true)
    (hQ : ∀ c a w, Q (.panic c) (a.put oi.dst v) w → Q (.panic c) a w) (hdone : ∀ listed a w, L listed a w → ∀ j ∈ Region.ready md ops listed, m ≤ j)
    (hy : YieldsIf P ops (fun w => Sb w ∧ (true = true → Sa w)) oi v a) (hS : heldG Sa Sb k listed w) (h : headG P md ops Q Sa Sb k m L f (listed.setIfInBounds i true) (a.put oi.dst v) w) : headG P md ops Q Sa Sb k m L (f + 1) listed a w := by
  simp only [Bool.and_eq_true, decide_eq_true_eq] at hall
  obtain ⟨⟨⟨⟨⟨⟨⟨h1, h2⟩, h5⟩, h6⟩, h7⟩, h8⟩, h9⟩, h10, h11⟩ := hall
  refine headG_first hi (Region.noSelect_spec h1) h9 (fun listed inv hun w hw => ⟨hw.1, fun _ => hw.2 ?_⟩) (fun listed _ i him hun t ht => bar_waits h2 listed i him hun t ht) h5 hQ hdone f listed a w (headB_inv h6) (Region.free_spec hi h7) (by simpa using h8) hy hS h
  obtain ⟨ok, hok, e, he, hbd, hon⟩ := Region.waitsFor_spec h10
  obtain ⟨oj, hoj, e', he', hbd', hon'⟩ := Region.waitsFor_spec h11
  cases hl : listed.getD k false with
  | false => rfl
  | true =>
    have h12 := inv.closed k ok hok hl e he hbd
    rw [hon] at h12
    have h13 := inv.closed j oj hoj h12 e' he' hbd'
    rw [hon', getD_both hun] at h13
    cases h13
end
end
section
/- EquationsGrow, EquationsOrder: what they share. -/
set_option linter.unusedVariables false
set_option linter.unusedSimpArgs false
open Go.RowKit
set_option maxRecDepth 100000
theorem Box.farG {w : World} {g g' : Nat} {t : TypeId} {cs : Array Value} (h : Box w g t cs) (hn : g ≠ g') (a b c d : Value) : Box ((((w.setCell ⟨g', 0, none⟩ a).setCell ⟨g', 1, none⟩ b).setCell ⟨g', 2, none⟩ c).setCell ⟨g', 3, none⟩ d) g t cs :=
  (((h.far (p := ⟨g', 0, none⟩) hn a).far (p := ⟨g', 1, none⟩) hn b).far (p := ⟨g', 2, none⟩) hn c).far (p := ⟨g', 3, none⟩) hn d
theorem eadd_bad (er k s c : Int) (A : Option Addr) (l d : Nat) (xs : List SymR) (x : SymR) (w : World) (hx : Syms w A l xs) (hl : l ≤ d) (hd : d ≤ maxLen) (he : addE k s c xs x = er) (h0 : er ≠ 0) :
    Calls Try.prog 8 #[.agg #[.int .i64 k, .int .i64 s, .int .i64 c, .slice A l d], .agg #[.int .u64 (x.1 : Int), .string x.2]] w fun e w' => ∃ A' d', e = .returned (.tuple #[.agg #[.int .i64 0, .int .i64 0, .int .i64 0, .slice A' 0 d'], .int .i64 er]) ∧ Syms w' A' 0 [] ∧ Below w.heap.size w w' := by
  subst he
  refine (eadd_no k s c A l d xs x w hx hl hd h0).mono ?_
  rintro e w' ⟨A', d', rfl, h1, h2, h3, h4, hb⟩
  exact ⟨A', d', rfl, h1, hb⟩
theorem eadd_good (k s c : Int) (A : Option Addr) (l d : Nat) (xs : List SymR) (x : SymR) (w : World) (hx : Syms w A l xs) (hl : l ≤ d) (hd : d ≤ maxLen) (hn : A = none → d = 0) (he : addE k s c xs x = 0) :
    Calls Try.prog 8 #[.agg #[.int .i64 k, .int .i64 s, .int .i64 c, .slice A l d], .agg #[.int .u64 (x.1 : Int), .string x.2]] w fun e w' => ∃ A' d', e = .returned (.tuple #[.agg #[.int .i64 k, .int .i64 s, .int .i64 c, .slice A' (l + 1) d'], .int .i64 0]) ∧ Syms w' A' (l + 1) (xs ++ [x]) ∧ l + 1 ≤ d' ∧ d' ≤ maxLen ∧ (A' = none → d' = 0) ∧ Below w.heap.size w w' := by
  refine (eadd_yes k s c A l d xs x w hx hl hd hn he).mono ?_
  rintro e w' ⟨A', d', rfl, h1, h2, h3, h4, hb⟩
  have e1 : (xs ++ [x]).length = l + 1 := by rw [List.length_append, hx.1]; rfl
  rw [e1] at h1 h2
  exact ⟨A', d', by rw [e1], h1, h2, h3, h4, hb⟩
theorem hasI_last (xs : List SymR) (x : SymR) (i : Nat) : hasI (xs ++ [x]) i = (hasI xs i || x.1 == i) := by simp [hasI]
theorem storeB_grow {k s c : Int} {xs : List SymR} {x : SymR} (h : addE k s c xs x = 0) : storeB k s c (xs ++ [x]) = true := by
  obtain ⟨h1, h2, h3, h4, -⟩ := addE_ok h
  have e1 : allB s (xs ++ [x]) = allB s xs := by simp [allB, h2]
  have e2 : twiceB (xs ++ [x]) = twiceB xs := by
    have h5 : twiceB (xs ++ [x]) = (twiceTo (xs ++ [x]) xs.length || hasI ((xs ++ [x]).take xs.length) ((xs ++ [x]).getD xs.length default).1) := by
      have := twiceTo_snoc (xs ++ [x]) xs.length (by simp)
      have h6 : twiceB (xs ++ [x]) = twiceTo (xs ++ [x]) (xs.length + 1) := by unfold twiceB twiceTo; rw [List.length_append]; rfl
      rw [h6, this]
    have h7 : (xs ++ [x]).take xs.length = xs := by simp
    have h8 : (xs ++ [x]).getD xs.length default = x := by simp [List.getD]
    have h9 : twiceTo (xs ++ [x]) xs.length = twiceB xs := by
      unfold twiceTo twiceB
      rw [Bool.eq_iff_iff]
      simp only [List.any_eq_true, List.mem_range]
      constructor
      · rintro ⟨i, hi, hh⟩
        refine ⟨i, hi, ?_⟩
        rw [List.take_append_of_le_length (by omega)] at hh
        simpa [List.getD, List.getElem?_append_left hi] using hh
      · rintro ⟨i, hi, hh⟩
        refine ⟨i, hi, ?_⟩
        rw [List.take_append_of_le_length (by omega)]
        simpa [List.getD, List.getElem?_append_left hi] using hh
    rw [h5, h7, h8, h9, h3]; simp
  unfold storeB at h1 ⊢
  simp only [Bool.and_eq_true, decide_eq_true_eq] at h1
  simp only [e1, e2, Bool.and_eq_true, decide_eq_true_eq, List.length_append, List.length_cons, List.length_nil]
  exact ⟨⟨⟨h1.1.1.1, by omega⟩, h1.1.2⟩, h1.2⟩
theorem addE_old {k s c : Int} {xs : List SymR} {x : SymR} (h : addE k s c xs x = 0) : addE k s c (xs ++ [x]) x = 8 := by
  obtain ⟨h1, h2, h3, h4, -⟩ := addE_ok h
  unfold addE
  rw [storeB_grow h, if_pos rfl]
  unfold whyI
  rw [hasI_last]
  simp [h2]
theorem idB_grow {xs : List SymR} {x : SymR} (h : ∀ j, (xs.getD j default).1 < 18446744073709551616) (hx : x.1 < 18446744073709551616) : ∀ j, ((xs ++ [x]).getD j default).1 < 18446744073709551616 := fun j => by
  rcases Nat.lt_trichotomy j xs.length with h1 | h1 | h1
  · have e : (xs ++ [x]).getD j default = xs.getD j default := by simp [List.getD, List.getElem?_append_left h1]
    rw [e]; exact h j
  · subst h1
    have e : (xs ++ [x]).getD xs.length default = x := by simp [List.getD]
    rw [e]; exact hx
  · have e : (xs ++ [x]).getD j default = default := by
      simp only [List.getD]
      rw [List.getElem?_eq_none (by simp; omega)]; rfl
    rw [e]; decide
theorem addE_bad {k s c : Int} {xs : List SymR} {x : SymR} (h : storeB k s c xs = false) : addE k s c xs x = 1 := by unfold addE; rw [h]; rfl
theorem bytes_le (l s k c : Nat) (h : l ≤ c) : bytesI l s k ≤ bytesI c s k := Nat.mul_le_mul_right _ h
end
end Go.Proofs.Ytmfhimeffmpgaaa
