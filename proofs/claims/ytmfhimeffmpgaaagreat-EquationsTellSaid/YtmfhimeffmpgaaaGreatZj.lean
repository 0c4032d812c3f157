/- Parts: KeM, NfM, EqR, EqT, EqV, SymE, Eq4, Eq5, Eq3, Eq6. -/
import Derived.Test.YtmfhimeffmpgaaaGreatZi
import Derived.BigQuiet
import Derived.Deep.AppendLies
import Derived.Deep.QuietTactic
import Derived.Deep.RegionLaw
import Derived.Laws.StructEq
import Derived.Test.YtmfhimeffmpgaaaGreatRows
namespace Go.Proofs.YtmfhimeffmpgaaaGreat
section
/- The mathematics of ranks: as many rows as columns. No program. -/
set_option linter.unusedVariables false
set_option linter.unusedSimpArgs false
theorem rref_grow {M P : List Nat} (h : Rref M P) : ∀ C : List Nat, ∃ N Q, Rref N Q ∧ SameSp (M ++ C) N ∧ M.length ≤ N.length := by
  intro C
  induction C generalizing M P with
  | nil => exact ⟨M, P, h, by rw [List.append_nil]; exact SameSp.refl _, Nat.le_refl _⟩
  | cons c C ih =>
    obtain ⟨M1, P1, h1, h2, h3, h4⟩ := rref_more h c
    obtain ⟨N, Q, g1, g2, g3⟩ := ih h1
    refine ⟨N, Q, g1, SameSp.trans ?_ g2, ?_⟩
    · rw [show M ++ c :: C = (M ++ [c]) ++ C by simp]
      refine SameSp.of (fun x hx => ?_) (fun x hx => ?_)
      · rcases List.mem_append.1 hx with hx | hx
        · exact sp_sub (fun r hr => sp_mem (List.mem_append.2 (.inl hr))) ((h2 x).1 (sp_mem hx))
        · exact sp_mem (List.mem_append.2 (.inr hx))
      · rcases List.mem_append.1 hx with hx | hx
        · exact sp_sub (fun r hr => sp_mem (List.mem_append.2 (.inl hr))) ((h2 x).2 (sp_mem hx))
        · exact sp_mem (List.mem_append.2 (.inr hx))
    · by_cases hs : Sp M c
      · rw [h3 hs] at g3; exact g3
      · have := h4 hs; omega
theorem rank_sub {M P C : List Nat} (h : Rref M P) (hs : ∀ r ∈ M, Sp C r) : M.length ≤ C.length := by
  obtain ⟨N, Q, g1, g2, g3⟩ := rref_grow h C
  obtain ⟨L1, P1, k1, k2, k3⟩ := rref_exists C
  have hsame : SameSp (M ++ C) C := SameSp.of (fun x hx => by
    rcases List.mem_append.1 hx with hx | hx
    · exact hs x hx
    · exact sp_mem hx) (fun x hx => sp_mem (List.mem_append.2 (.inr hx)))
  have := (rref_uniq g1 k1 ((g2.symm.trans hsame).trans k2)).1
  rw [this] at g3
  omega
/-- Those of the first k of the columns at P whose row of M has a bit at i. -/
def cols (T M P : List Nat) (i : Nat) : Nat → Nat
  | 0 => 0
  | k + 1 => if (M.getD k 0).testBit i then cols T M P i k ^^^ T.getD (P.getD k 0) 0 else cols T M P i k
theorem cols_bit (T M P : List Nat) (v i j : Nat) : ∀ k, (∀ t, t < k → (T.getD (P.getD t 0) 0).testBit j = v.testBit (P.getD t 0)) → (comb M P v k).testBit i = (cols T M P i k).testBit j
  | 0, _ => by simp [comb, cols]
  | k + 1, h => by
    have ih := cols_bit T M P v i j k (fun t ht => h t (by omega))
    have h1 := h k (by omega)
    rw [comb, cols]
    generalize M.getD k 0 = a at *
    generalize P.getD k 0 = b at *
    generalize T.getD b 0 = c at *
    generalize comb M P v k = x at *
    generalize cols T M P i k = y at *
    clear h
    cases hv : v.testBit b <;> cases hm : a.testBit i <;> rw [hv] at h1 <;> simp [Nat.testBit_xor, ih, hm, h1]
theorem cols_span (T M P : List Nat) (i : Nat) : ∀ k, k ≤ P.length → Sp (P.map fun p => T.getD p 0) (cols T M P i k)
  | 0, _ => sp_zero _
  | k + 1, hk => by
    have ih := cols_span T M P i k (by omega)
    rw [cols]
    split
    · refine sp_xor ih (sp_mem (List.mem_map.2 ⟨P.getD k 0, getD_mem (by omega), rfl⟩))
    · exact ih
theorem cols_lt (T M P : List Nat) (i n : Nat) (h : ∀ j, T.getD j 0 < 2 ^ n) : ∀ k, cols T M P i k < 2 ^ n
  | 0 => Nat.two_pow_pos n
  | k + 1 => by
    rw [cols]
    split
    · exact Nat.xor_lt_two_pow (cols_lt T M P i n h k) (h _)
    · exact cols_lt T M P i n h k
theorem rank_cols {L T M P M' P' : List Nat} {n : Nat} (hL : ∀ r ∈ L, r < 2 ^ n) (hTl : T.length = n) (hT : ∀ i j, i < n → j < L.length → (T.getD i 0).testBit j = (L.getD j 0).testBit i) (hTlt : ∀ r ∈ T, r < 2 ^ L.length)
    (h : Rref M P) (hs : SameSp L M) (h' : Rref M' P') (hs' : SameSp T M') : M'.length ≤ M.length := by
  have hpl := h.len
  have hMlt := lt_all (same_lt hL hs)
  have key : ∀ i, i < n → T.getD i 0 = cols T M P i M.length := fun i hi => by
    apply Nat.eq_of_testBit_eq
    intro j
    by_cases hj : j < L.length
    · have e1 := h.comb ((hs _).1 (sp_mem (getD_mem hj)))
      rw [hT i j hi hj, ← cols_bit T M P (L.getD j 0) i j M.length (fun t ht => hT _ j (low_lt (hMlt t) (h.low t ht)) hj), ← e1]
    · have e1 : ∀ x, x < 2 ^ L.length → x.testBit j = false := fun x hx => Nat.testBit_lt_two_pow (Nat.lt_of_lt_of_le hx (Nat.pow_le_pow_right (by omega) (by omega)))
      rw [e1 _ (lt_all hTlt i), e1 _ (cols_lt T M P i _ (lt_all hTlt) _)]
  have := rank_sub (C := P.map fun p => T.getD p 0) h' (fun r hr => by
    refine sp_sub (fun r hr => ?_) ((hs' r).2 (sp_mem hr))
    obtain ⟨i, hi, rfl⟩ := mem_getD hr
    rw [hTl] at hi
    rw [key i hi]
    exact cols_span T M P i _ (by omega))
  rw [List.length_map] at this
  omega
theorem rank_turn {L T M P M' P' : List Nat} {n : Nat} (hL : ∀ r ∈ L, r < 2 ^ n) (hTl : T.length = n) (hT : ∀ i j, i < n → j < L.length → (T.getD i 0).testBit j = (L.getD j 0).testBit i) (hTlt : ∀ r ∈ T, r < 2 ^ L.length)
    (h : Rref M P) (hs : SameSp L M) (h' : Rref M' P') (hs' : SameSp T M') : M'.length = M.length :=
  Nat.le_antisymm (rank_cols hL hTl hT hTlt h hs h' hs') (rank_cols hTlt rfl (fun i j hi hj => (hT j i (by omega) hi).symm) (by rw [hTl]; exact hL) h' hs' h hs)
theorem rank_bound {L M P : List Nat} {n : Nat} (hL : ∀ r ∈ L, r < 2 ^ n) (h : Rref M P) (hs : SameSp L M) : M.length ≤ n := by
  have hMlt := lt_all (same_lt hL hs)
  have hp : ∀ k, k ≤ M.length → k = 0 ∨ k ≤ P.getD (k - 1) 0 + 1 := fun k => by
    induction k with
    | zero => intro _; exact .inl rfl
    | succ k ih =>
      intro hk
      rcases ih (by omega) with rfl | h1
      · right; omega
      · right
        have := h.rise (k - 1) k
        by_cases h0 : k = 0
        · omega
        · have := this (by omega) (by omega)
          rw [Nat.add_sub_cancel]; omega
  rcases hp M.length (Nat.le_refl _) with h0 | h0
  · omega
  · by_cases h1 : M.length = 0
    · omega
    · have := low_lt (hMlt (M.length - 1)) (h.low (M.length - 1) (by omega)); omega
/-- One row more. -/
theorem rank_more {L M P M' P' : List Nat} {r : Nat} (h : Rref M P) (hs : SameSp L M) (h' : Rref M' P') (hs' : SameSp (L ++ [r]) M') : (Sp L r → M'.length = M.length) ∧ (¬ Sp L r → M'.length = M.length + 1) := by
  obtain ⟨M1, P1, h1, h2, h3, h4⟩ := rref_more h r
  have hsame : SameSp (L ++ [r]) (M ++ [r]) := SameSp.of (fun x hx => by
    rcases List.mem_append.1 hx with hx | hx
    · exact sp_sub (fun r hr => sp_mem (List.mem_append.2 (.inl hr))) ((hs x).1 (sp_mem hx))
    · exact sp_mem (List.mem_append.2 (.inr hx))) (fun x hx => by
    rcases List.mem_append.1 hx with hx | hx
    · exact sp_sub (fun r hr => sp_mem (List.mem_append.2 (.inl hr))) ((hs x).2 (sp_mem hx))
    · exact sp_mem (List.mem_append.2 (.inr hx)))
  have e := (rref_uniq h' h1 ((hs'.symm.trans hsame).trans h2)).1
  rw [e]
  exact ⟨fun k => by rw [h3 ((hs r).1 k)], fun k => h4 (fun k2 => k ((hs r).2 k2))⟩
/-- A matrix turned, by numbers. -/
theorem turn_num {n : Nat} {L : List Nat} (hn : n ≤ 64) (hl : L.length ≤ 64) : ∃ T : List Nat, turnM n (mkM n L) = mkM L.length T ∧ T.length = n ∧ (∀ r ∈ T, r < 2 ^ L.length) ∧ ∀ i j, i < n → j < L.length → (T.getD i 0).testBit j = (L.getD j 0).testBit i := by
  have hr := turnM_right n (mkM n L) hn (by rw [mkM_len]; exact hl)
  rw [mkM_len] at hr
  obtain ⟨k, T, hk, -, -, hT, hlt⟩ := mat_num hr (fun i j => turnM_ltM n (mkM n L) i j)
  have hk : k = L.length := by omega
  subst hk
  have hTl : T.length = n := by have := congrArg List.length hT; rw [turnM_lenM, mkM_len] at this; exact this.symm
  refine ⟨T, hT, hTl, hlt, fun i j hi hj => ?_⟩
  have h1 := turnM_at n (mkM n L) i hi
  rw [hT, mkM_at _ T i (by omega), mkM_len] at h1
  have h2 : rowOf L.length (T.getD i 0) = colW (mkM n L) i := (Prod.mk.inj h1).2
  rw [← rowOf_bit L.length _ j hj, h2, colW_bit _ i j (by rw [mkM_len]; exact hj)]
  unfold mbit
  rw [mkM_at n L j hj]
  exact rowOf_bit n _ i hi
end
section
/- The places of a symbol's row are its blocks. -/
set_option linter.unusedVariables false
set_option linter.unusedSimpArgs false
theorem filter_wide (k m : Nat) (c : Nat → Bool) (h : k ≤ m) : ((List.range m).filter fun p => decide (p ∈ (List.range k).filter c)) = (List.range k).filter c := by
  obtain ⟨d, rfl⟩ := Nat.le.dest h
  rw [List.range_add, List.filter_append]
  have e1 : ((List.range k).filter fun p => decide (p ∈ (List.range k).filter c)) = (List.range k).filter c := by
    apply List.filter_congr
    intro x hx
    rw [Bool.eq_iff_iff]
    simp only [List.mem_filter, decide_eq_true_eq]
    exact ⟨fun h => h.2, fun h => ⟨hx, h⟩⟩
  have e2 : (((List.range d).map fun x => k + x).filter fun p => decide (p ∈ (List.range k).filter c)) = [] := by
    rw [List.filter_eq_nil_iff]
    intro x hx
    obtain ⟨y, -, rfl⟩ := List.mem_map.1 hx
    simp only [List.mem_filter, decide_eq_true_eq, List.mem_range]
    omega
  rw [e1, e2, List.append_nil]
theorem bitAt_small (us : List Nat) (p : Nat) (h : p < 64) : (bitAt us p == 1) = (us.getD 0 0).testBit p := by
  rw [Bool.eq_iff_iff, beq_iff_eq, ← bitAt_bit us 0 p h, Nat.mul_zero, Nat.zero_add]
theorem nb_lt (k id x : Nat) (h : x ∈ nbL k id) : x < k := by
  have := (List.mem_filter.1 h).1
  simpa using this
theorem nb_plc (k id : Nat) (h1 : 1 ≤ k) (h2 : k ≤ 64) : plcN (nbRow k id) 64 = nbL k id := by
  have e : plcN (nbRow k id) 64 = (List.range 64).filter fun p => decide (p ∈ nbL k id) := by
    unfold plcN
    apply List.filter_congr
    intro p hp
    have hp : p < 64 := by simpa using hp
    rw [bitAt_small _ p hp, nbRow, ofBits_test k _ 0 p (by unfold nw; omega), Bool.eq_iff_iff]
    simp only [List.any_eq_true, nbZ, castZ, List.mem_map, decide_eq_true_eq, Bool.and_eq_true, beq_iff_eq]
    constructor
    · rintro ⟨z, ⟨y, hy, rfl⟩, h3, h4⟩
      rw [Int.toNat_natCast] at h3 h4
      have : y = p := by omega
      rwa [← this]
    · intro hy
      refine ⟨(p : Int), ⟨p, hy, rfl⟩, ?_, ?_⟩
      · rw [Int.toNat_natCast]; omega
      · rw [Int.toNat_natCast]; omega
  rw [e]
  exact filter_wide k 64 _ h2
theorem nb_facts (k id : Nat) (j : Nat) (hj : j < (nbL k id).length) : (nbL k id).getD j 0 < k ∧ (0 < j → (nbL k id).getD (j - 1) 0 < (nbL k id).getD j 0) := by
  have e : (nbL k id).getD j 0 = (nbL k id)[j] := by simp [List.getD, hj]
  refine ⟨by rw [e]; exact nb_lt k id _ (List.getElem_mem hj), fun h0 => ?_⟩
  have e2 : (nbL k id).getD (j - 1) 0 = (nbL k id)[j - 1] := by simp [List.getD, show j - 1 < (nbL k id).length by omega]
  rw [e, e2]
  have hp : (nbL k id).Pairwise (· < ·) := (List.pairwise_lt_range (n := k)).sublist List.filter_sublist
  exact List.pairwise_iff_getElem.1 hp (j - 1) j (by omega) hj (by omega)
theorem nb_right (k id : Nat) (h1 : 1 ≤ k) (h2 : k ≤ 64) : rightB (k : Int) (nbRow k id) = true := by
  have hlen : (nbRow k id).length = 1 := by rw [nbRow, ofBits_len]; unfold nw; omega
  refine right_of_bits k 1 _ (lmb_k k h1 h2) hlen (by unfold nw; omega) (ofBits_lt k _) fun i h3 h4 => ?_
  have h : plcN (nbRow k id) 64 = nbL k id := nb_plc k id h1 h2
  rcases bitAt_le (nbRow k id) i with h0 | h0
  · exact h0
  · exfalso
    have : i ∈ plcN (nbRow k id) 64 := by
      unfold plcN
      exact List.mem_filter.2 ⟨by simp; omega, by simpa using h0⟩
    rw [h] at this
    have := nb_lt k id i this
    omega
end
section
/- Layer 12: the rank as a number; rows as numbers. -/
set_option linter.unusedVariables false
set_option linter.unusedSimpArgs false
open Go.RowKit
def RkIs (L : List Nat) (n : Nat) : Prop := ∃ M P, Rref M P ∧ SameSp L M ∧ n = M.length
theorem rk_fun {L : List Nat} {n m : Nat} (h : RkIs L n) (h' : RkIs L m) : n = m := by
  obtain ⟨M, P, a, b, rfl⟩ := h
  obtain ⟨M', P', a', b', rfl⟩ := h'
  rw [(rref_uniq a a' (b.symm.trans b')).1]
theorem rk_same {L K : List Nat} {n m : Nat} (hs : SameSp L K) (h : RkIs L n) (h' : RkIs K m) : n = m := by
  obtain ⟨M', P', a', b', e⟩ := h'
  exact rk_fun h ⟨M', P', a', hs.trans b', e⟩
theorem rk_more {L : List Nat} {r n m : Nat} (h : RkIs L n) (h' : RkIs (L ++ [r]) m) : m = n ∨ m = n + 1 := by
  obtain ⟨M, P, a, b, rfl⟩ := h
  obtain ⟨M', P', a', b', rfl⟩ := h'
  obtain ⟨h1, h2⟩ := rank_more a b a' b'
  by_cases hs : Sp L r
  · exact .inl (h1 hs)
  · exact .inr (h2 hs)
theorem rk_bound {L : List Nat} {N n : Nat} (hL : ∀ r ∈ L, r < 2 ^ N) (h : RkIs L n) : n ≤ N := by
  obtain ⟨M, P, a, b, rfl⟩ := h
  exact rank_bound hL a b
theorem rk_le {L : List Nat} {n : Nat} (h : RkIs L n) : n ≤ L.length := by
  obtain ⟨M, P, a, b, rfl⟩ := h
  obtain ⟨M', P', a', b', c⟩ := rref_exists L
  rw [(rref_uniq a a' (b.symm.trans b')).1]; exact c
theorem rk_swap {L : List Nat} {x y n m : Nat} (h : RkIs (L ++ [x] ++ [y]) n) (h' : RkIs (L ++ [y] ++ [x]) m) : n = m :=
  rk_same (SameSp.of (fun r hr => sp_mem (by simp at hr ⊢; rcases hr with h | h | h <;> simp [h])) (fun r hr => sp_mem (by simp at hr ⊢; rcases hr with h | h | h <;> simp [h]))) h h'
/-- A symbol's row as a number. -/
def numR (k id : Nat) : Nat := valW (nbRow k id)
theorem numR_row (k id : Nat) (h1 : 1 ≤ k) (h2 : k ≤ 64) : nbRow k id = rowOf k (numR k id) ∧ numR k id < 2 ^ k := row_of (nb_right k id h1 h2) (nbRow_lt k id)
def rowsN (k : Nat) (xs : List SymR) : List Nat := xs.map fun x => numR k x.1
theorem rowsN_len (k : Nat) (xs : List SymR) : (rowsN k xs).length = xs.length := by simp [rowsN]
theorem rowsN_lt (k : Nat) (xs : List SymR) (h1 : 1 ≤ k) (h2 : k ≤ 64) : ∀ r ∈ rowsN k xs, r < 2 ^ k := fun r hr => by
  obtain ⟨x, -, rfl⟩ := List.mem_map.1 hr
  exact (numR_row k x.1 h1 h2).2
theorem rowsN_snoc (k : Nat) (xs : List SymR) (x : SymR) : rowsN k (xs ++ [x]) = rowsN k xs ++ [numR k x.1] := by simp [rowsN]
theorem rowsN_mk (k : Nat) (xs : List SymR) (h1 : 1 ≤ k) (h2 : k ≤ 64) (j : Nat) (hj : j < xs.length) : (mkM k (rowsN k xs)).getD j (0, []) = ((k : Int), ((xs.map (·.1)).map (nbRow k)).getD j []) := by
  rw [mkM_at k _ j (by rw [rowsN_len]; exact hj)]
  have e : (rowsN k xs).getD j 0 = numR k (xs[j]).1 := by simp [rowsN, List.getD, hj]
  have e2 : ((xs.map (·.1)).map (nbRow k)).getD j [] = nbRow k (xs[j]).1 := by simp [List.getD, hj]
  rw [e, e2, (numR_row k (xs[j]).1 h1 h2).1]
  rfl
theorem MatW.mat {w : World} {base k : Nat} {v : Value} {xs : List SymR} (h1 : 1 ≤ k) (h2 : k ≤ 64) (h : MatW w base k v ((xs.map (·.1)).map (nbRow k))) : ∃ A c, v = .slice A (rowsN k xs).length c ∧ MatAt w base A (rowsN k xs).length (mkM k (rowsN k xs)) := by
  obtain ⟨rs, a, b, c⟩ := h
  rw [List.length_map, List.length_map] at a b c
  have e : flatR k rs = rowCells (rs.map fun r => ((k : Int), r)) := by simp [flatR, rowCells, List.flatMap_map]
  rw [e] at b
  obtain ⟨A, d, hv, -, hm⟩ := own_mat b (by simp [a]) (mkM k (rowsN k xs)) (by rw [mkM_len, rowsN_len]) (fun j hj => by
    have hr : (rs.map fun r => ((k : Int), r)).getD j (0, none, 0, 0) = ((k : Int), rs.getD j (none, 0, 0)) := by
      have : j < rs.length := by omega
      simp [List.getD, this]
    rw [hr, rowsN_mk k xs h1 h2 j hj]
    have := c j hj
    exact ⟨rfl, this.ok, this.words (fun i => rowsRows_lt k (xs.map (·.1)) j i)⟩)
  rw [← rowsN_len k xs] at hv hm
  exact ⟨A, d, hv, hm⟩
end
section
/- Contracts of layer 12: Rows, Rank, Bytes. -/
set_option linter.unusedVariables false
set_option linter.unusedSimpArgs false
open Go.RowKit
set_option maxRecDepth 100000
theorem u64_info12 : (Tryz.prog.info? 44).map (fun i => (i.zero, i.size, i.bytes)) = some (some (.int .u64 0), 1, 8) := by kernel_rfl
theorem storeB_bd {k s c : Int} {xs : List SymR} (h : storeB k s c xs = true) : (1 ≤ k ∧ k ≤ 64) ∧ (0 ≤ s ∧ s ≤ 64) ∧ (1 ≤ c ∧ c ≤ 64) ∧ (xs.length : Int) ≤ c := by
  unfold storeB kB at h
  simp only [Bool.and_eq_true, decide_eq_true_eq] at h
  exact ⟨h.1.1.1.1.1, h.1.1.1.1.2, h.1.1.1.2, h.1.1.2⟩
def idN (xs : List SymR) : List Nat := xs.map (·.1)
theorem idN_len (xs : List SymR) : (idN xs).length = xs.length := by simp [idN]
theorem idN_at (xs : List SymR) (h : ∀ j, (xs.getD j default).1 < 18446744073709551616) (j : Nat) : (idN xs).getD j 0 < 18446744073709551616 := by
  by_cases hj : j < xs.length
  · have e : (idN xs).getD j 0 = (xs.getD j default).1 := by simp [idN, List.getD, hj]
    rw [e]; exact h j
  · have e : (idN xs).getD j 0 = 0 := by simp [idN, List.getD, List.getElem?_eq_none (Nat.le_of_not_lt hj)]
    rw [e]; decide
theorem idN_snoc (xs : List SymR) (k : Nat) (h : k < xs.length) : (idN (xs.take (k + 1))).map (fun (x : Nat) => Value.int .u64 (x : Int)) = (idN (xs.take k)).map (fun (x : Nat) => Value.int .u64 (x : Int)) ++ [Value.int .u64 ((xs.getD k default).1 : Nat)] := by
  unfold idN
  rw [take_snocD xs k h]; simp
abbrev erW (k s c : Int) (A : Option Addr) (l d : Nat) (w : World) : World :=
  (w.alloc (.cells #[.int .i64 k, .int .i64 s, .int .i64 c, .slice A l d] 24)).alloc (.cells #[.int .i64 0, .slice none 0 0] 28)
theorem erW_two (k s c : Int) (A : Option Addr) (l d : Nat) (w : World) :
    Box (erW k s c A l d w) w.heap.size 24 #[.int .i64 k, .int .i64 s, .int .i64 c, .slice A l d] ∧ Box (erW k s c A l d w) (w.heap.size + 1) 28 #[.int .i64 0, .slice none 0 0] ∧ Below w.heap.size w (erW k s c A l d w) := by
  refine ⟨(Box.new w _ _).alloc _, ?_, ((Below.refl _ _).alloc (Nat.le_refl _) _).alloc (by simp) _⟩
  have q := Box.new (w.alloc (.cells #[.int .i64 k, .int .i64 s, .int .i64 c, .slice A l d] 24)) 28 #[.int .i64 0, .slice none 0 0]
  simpa only [World.size_alloc] using q
set_option maxHeartbeats 1000000 in
theorem erows_no (k s c : Int) (A : Option Addr) (l d : Nat) (xs : List SymR) (w : World) (hx : Syms w A l xs) (hl : l ≤ d) (hd : d ≤ maxLen) (hs : storeB k s c xs = false) :
    Calls Tryz.prog 5 #[.agg #[.int .i64 k, .int .i64 s, .int .i64 c, .slice A l d]] w fun e w' => e = .returned (.tuple #[.agg #[.int .i64 0, .slice none 0 0], .int .i64 1]) ∧ Below w.heap.size w w' := by
  obtain ⟨q0, q1, b1⟩ := erW_two k s c A l d w
  have Q1 := Lib.hid q1
  have HB := Lib.hid b1
  have HR := Lib.hid (eright_any k s c A l d xs _ (hx.below b1) hl hd)
  rw [hs] at HR
  obtain ⟨r0, r1, r2, r3, -, -, -, -⟩ := q0.four
  clear hx b1 q0 q1 hs
  go_enter Tryz.func5, Tryz.ntmps5
  go_wp2_with fail
  refine HR.out.mono ?_
  rintro e w1 ⟨rfl, hb⟩
  replace HB := Lib.hid (chain HB.out hb)
  replace Q1 := Lib.hid (Q1.out.keep hb)
  clear hb r0 r1 r2 r3
  obtain ⟨z0, z1, z2, z3⟩ := Q1.out.two
  go_wp2_with fail
  refine close_cell Tryz.results5 rfl rfl rfl Q1.out.put2 Tryz.underlying28 rfl (by kernel_rfl) ⟨rfl, ?_⟩
  exact (HB.out.setCell (p := ⟨w.heap.size + 1, 0, none⟩) (by show w.heap.size ≤ w.heap.size + 1; omega) _).setCell (p := ⟨w.heap.size + 1, 1, none⟩) (by show w.heap.size ≤ w.heap.size + 1; omega) _
/-- A matrix of the symbols' rows. -/
def RowsOut (k : Nat) (xs : List SymR) (w : World) (e : Ending) (w' : World) : Prop :=
  ∃ A c b0, e = .returned (.tuple #[.agg #[.int .i64 k, .slice A xs.length c], .int .i64 0]) ∧ MatW w' b0 k (.slice A xs.length c) ((idN xs).map (nbRow k)) ∧ Below w.heap.size w w'
set_option maxHeartbeats 4000000 in
theorem erows_yes (k : Nat) (s c : Int) (A : Option Addr) (l d : Nat) (xs : List SymR) (w : World) (hx : Syms w A l xs) (hl : l ≤ d) (hd : d ≤ maxLen) (hs : storeB k s c xs = true) (hid : ∀ j, (xs.getD j default).1 < 18446744073709551616) :
    Calls Tryz.prog 5 #[.agg #[.int .i64 k, .int .i64 s, .int .i64 c, .slice A l d]] w (RowsOut k xs w) := by
  obtain ⟨hk, -, hc, hlc⟩ := storeB_bd hs
  have k1 : 1 ≤ k := by omega
  have k2 : k ≤ 64 := by omega
  obtain ⟨i0, hi, hz0, hz1, hz2⟩ := info_parts u64_info12
  have HI := Lib.hid hi
  have HZ0 := Lib.hid hz0
  have HZ1 := Lib.hid hz1
  have HZ2 := Lib.hid hz2
  obtain ⟨q0, q1, b1⟩ := erW_two k s c A l d w
  have Q0 := Lib.hid q0
  have Q1 := Lib.hid q1
  have HB := Lib.hid b1
  have HXl := Lib.hid hx.1
  have hl64 : l ≤ 64 := by have := hx.1; omega
  have HX := Lib.hid (hx.below b1)
  have HID := Lib.hid (idN_at xs hid)
  have HR := Lib.hid (eright_any k s c A l d xs _ (hx.below b1) hl hd)
  rw [hs] at HR
  have HRW := Lib.hid (fun A' c' w' h => rows_yes k k1 k2 A' l c' (idN xs) w' h hl64)
  obtain ⟨r0, r1, r2, r3, -, -, -, -⟩ := q0.four
  clear hx b1 q0 q1 hs hi hz0 hz1 hz2 hid
  go_enter Tryz.func5, Tryz.ntmps5
  go_wp2_with fail
  refine HR.out.mono ?_
  rintro e w1 ⟨rfl, hb⟩
  replace HB := Lib.hid (chain HB.out hb)
  replace Q0 := Lib.hid (Q0.out.keep hb)
  replace Q1 := Lib.hid (Q1.out.keep hb)
  replace HX := Lib.hid (HX.out.below hb)
  clear hb r0 r1 r2 r3 HR
  obtain ⟨r0, r1, r2, r3, -, -, -, -⟩ := Q0.out.four
  go_wp2_with fail
  clear r0 r1 r2 r3
  go_loopw [4, 14] (fun v t wr => ∃ i : Nat, i ≤ l ∧ t = .int .i64 i ∧ wr.ownsRow w1.heap.size 44 1 v i ((idN (xs.take i)).map fun (x : Nat) => Value.int .u64 (x : Int)) ∧ Below w1.heap.size w1 wr) (fun _ t _ => l - (intOf t).toNat)
  case atStart => exact ⟨0, Nat.zero_le _, rfl, World.ownsRow_nil _ _ _ _, Below.refl _ _⟩
  case round =>
    obtain ⟨i, hi, rfl, hown, hbel⟩ := hrel
    have HO := Lib.hid hown
    have HC := Lib.hid hbel
    clear hown hbel
    by_cases hlt : i < l
    · have hlt' : (i : Int) < (l : Int) := Int.ofNat_lt.2 hlt
      obtain ⟨b, off, rfl, hb, x0, x1⟩ := Syms.two HX.out i hlt
      have x0 := (HC.out.cell (p := ⟨b, off + i * 2, none⟩) hb).trans x0
      have x1 := (HC.out.cell (p := ⟨b, off + i * 2 + 1, none⟩) hb).trans x1
      have HS := Lib.hid (idN_snoc xs i (by rw [HXl.out]; exact hlt))
      generalize xs.getD i default = p at *
      obtain ⟨p0, p1⟩ := p
      dsimp only at x0 x1 HS
      have G := Lib.hid (Box.new wr 46 #[.int .u64 (p0 : Nat), .string p1])
      have c1 := Lib.hid (show Below wr.heap.size wr (wr.alloc (.cells #[.int .u64 (p0 : Nat), .string p1] 46)) from (Below.refl _ _).alloc (Nat.le_refl _) _)
      have c2 := Lib.hid (show Below wr.heap.size wr ((wr.alloc (.cells #[.int .u64 (p0 : Nat), .string p1] 46)).alloc (.cells #[.int .u64 (p0 : Nat)] 44)) from c1.out.alloc c1.out.size _)
      have XO := Lib.hid (own_keep HO.out c2.out)
      have XB := Lib.hid (HC.out.trans (c2.out.mono HC.out.size))
      have N2 := Lib.hid (fun g hg => (HO.out.lt g hg).1)
      have NW := Lib.hid (show ∀ j u, ([Value.int .u64 (p0 : Nat)])[j]? = some u → ((wr.alloc (.cells #[.int .u64 (p0 : Nat), .string p1] 46)).alloc (.cells #[.int .u64 (p0 : Nat)] 44)).cell? ((⟨wr.heap.size + 1, 0, none⟩ : Addr).add j) = some u from by
        have := World.news_of_block (Box.new (wr.alloc (.cells #[.int .u64 (p0 : Nat), .string p1] 46)) 44 #[.int .u64 (p0 : Nat)])
        rw [World.size_alloc] at this
        exact this)
      obtain ⟨g0, g1, -, -⟩ := G.out.two
      clear G c1
      go_wp2_with (at_builtin; refine wpList_append_own _ rfl _ _ 47 rfl w1.heap.size 44 i0 (.int .u64 0) 1 8 Tryz.underlying47 HI.out HZ0.out HZ1.out HZ2.out rfl (by decide) _ _ _ rfl XO.out ⟨wr.heap.size + 1, 0, none⟩ 1 1 [.int .u64 (p0 : Nat)] rfl rfl NW.out (by simp [Value.oneCell']) (by simp [maxLen]; omega) (by omega) XB.out.size ?_; intro v' w2 hown' hgrow _; have HC2 := Lib.hid (XB.out.grown hgrow XB.out.size N2.out); have HO2 := Lib.hid hown'; clear hown' hgrow)
      go_roundw
      case rel =>
        refine ⟨i + 1, hlt, by go_num, ?_, HC2.out⟩
        rw [HS.out]
        exact HO2.out
      case measure => simp [intOf] <;> omega
    · obtain rfl : l = i := by omega
      have hlt' : ¬ (l : Int) < (l : Int) := Int.lt_irrefl _
      have HTK := Lib.hid (show xs.take l = xs from List.take_of_length_le (by rw [HXl.out]; exact Nat.le_refl _))
      rw [HTK.out] at HO
      obtain ⟨A7, c7, hv, -⟩ := own_form HO.out
      subst hv
      have HWd := Lib.hid (own_words HO.out HID.out)
      have Q0 := Lib.hid (Q0.out.keep HC.out)
      have Q1 := Lib.hid (Q1.out.keep HC.out)
      have BB := Lib.hid (chain HB.out HC.out)
      clear HO HTK HC
      obtain ⟨r0, r1, r2, r3, -, -, -, -⟩ := Q0.out.four
      go_wp2_with fail
      refine (HRW.out A7 c7 _ HWd.out).mono ?_
      rintro e w3 ⟨v3, rfl, hm, hb⟩
      obtain ⟨A3, c3, rfl⟩ := MatW.form hm (show ((idN xs).map (nbRow k)).length = l by rw [List.length_map, idN_len, HXl.out])
      have HM := Lib.hid hm
      replace BB := Lib.hid (chain BB.out hb)
      replace Q1 := Lib.hid (Q1.out.keep hb)
      clear hb hm r0 r1 r2 r3
      obtain ⟨z0, z1, z2, z3⟩ := Q1.out.two
      go_wp2_with fail
      refine close_cell Tryz.results5 rfl rfl rfl Q1.out.put2 Tryz.underlying28 rfl (by kernel_rfl) ⟨A3, c3, wr.heap.size, by rw [HXl.out]; rfl, ?_, ?_⟩
      · rw [HXl.out]
        exact (HM.out.far Q1.out (by decide) (by decide) 0 _).far (Q1.out.put 0 _) (by decide) (by decide) 1 _
      · exact (BB.out.setCell (p := ⟨w.heap.size + 1, 0, none⟩) (by show w.heap.size ≤ w.heap.size + 1; omega) _).setCell (p := ⟨w.heap.size + 1, 1, none⟩) (by show w.heap.size ≤ w.heap.size + 1; omega) _
theorem erank_no (k s c : Int) (A : Option Addr) (l d : Nat) (xs : List SymR) (w : World) (hx : Syms w A l xs) (hl : l ≤ d) (hd : d ≤ maxLen) (hs : storeB k s c xs = false) :
    Calls Tryz.prog 7 #[.agg #[.int .i64 k, .int .i64 s, .int .i64 c, .slice A l d]] w fun e w' => e = .returned (.tuple #[.int .i64 0, .int .i64 1]) ∧ Below w.heap.size w w' := by
  have b1 : Below w.heap.size w (w.alloc (.cells #[.int .i64 k, .int .i64 s, .int .i64 c, .slice A l d] 24)) := (Below.refl _ _).alloc (Nat.le_refl _) _
  have HR := Lib.hid (erows_no k s c A l d xs _ (hx.below b1) hl hd hs)
  have HB := Lib.hid b1
  obtain ⟨r0, r1, r2, r3, -, -, -, -⟩ := (Box.new w 24 #[.int .i64 k, .int .i64 s, .int .i64 c, .slice A l d]).four
  clear hx b1 hs
  go_enter Tryz.func7, Tryz.ntmps7
  go_wp2_with fail
  refine HR.out.mono ?_
  rintro e w1 ⟨rfl, hb⟩
  replace HB := Lib.hid (chain HB.out hb)
  clear hb r0 r1 r2 r3
  go_wp2_with fail
  go_ret2
  exact ⟨rfl, HB.out.alloc HB.out.size _⟩
theorem erank_yes (k : Nat) (s c : Int) (A : Option Addr) (l d : Nat) (xs : List SymR) (w : World) (hx : Syms w A l xs) (hl : l ≤ d) (hd : d ≤ maxLen) (hs : storeB k s c xs = true) (hid : ∀ j, (xs.getD j default).1 < 18446744073709551616) :
    Calls Tryz.prog 7 #[.agg #[.int .i64 k, .int .i64 s, .int .i64 c, .slice A l d]] w fun e w' => ∃ n : Nat, e = .returned (.tuple #[.int .i64 n, .int .i64 0]) ∧ RkIs (rowsN k xs) n ∧ Below w.heap.size w w' := by
  obtain ⟨hk, -, hc, hlc⟩ := storeB_bd hs
  have k1 : 1 ≤ k := by omega
  have k2 : k ≤ 64 := by omega
  have b1 : Below w.heap.size w (w.alloc (.cells #[.int .i64 k, .int .i64 s, .int .i64 c, .slice A l d] 24)) := (Below.refl _ _).alloc (Nat.le_refl _) _
  have HR := Lib.hid (erows_yes k s c A l d xs _ (hx.below b1) hl hd hs hid)
  have HB := Lib.hid b1
  have HK := Lib.hid (fun A c lo w hm => rank_yes k k2 (rowsN k xs) (rowsN_lt k xs k1 k2) (by rw [rowsN_len]; omega) A c lo w hm (right_mk k k2 (rowsN k xs) (by rw [rowsN_len]; omega) (rowsN_lt k xs k1 k2)))
  obtain ⟨r0, r1, r2, r3, -, -, -, -⟩ := (Box.new w 24 #[.int .i64 k, .int .i64 s, .int .i64 c, .slice A l d]).four
  clear hx b1 hs hid
  go_enter Tryz.func7, Tryz.ntmps7
  go_wp2_with fail
  refine HR.out.mono ?_
  rintro e w1 ⟨A3, c3, b0, rfl, hm, hb⟩
  obtain ⟨A4, c4, hv, hmat⟩ := MatW.mat k1 k2 hm
  rw [rowsN_len] at hv
  injection hv with e1 e2 e3
  subst e1 e3
  have Q := Lib.hid (Box.new w1 28 #[.int .i64 k, .slice A3 xs.length c3])
  have HM := Lib.hid (hmat.below ((Below.refl _ _).alloc (Nat.le_refl _) (.cells #[.int .i64 k, .slice A3 xs.length c3] 28)))
  replace HB := Lib.hid ((chain HB.out hb).alloc (chain HB.out hb).size (.cells #[.int .i64 k, .slice A3 xs.length c3] 28))
  clear hb r0 r1 r2 r3 hm hmat
  obtain ⟨z0, z1, -, -⟩ := Q.out.two
  have HKK := Lib.hid (HK.out A3 c3 _ _ HM.out)
  rw [rowsN_len] at HKK
  go_wp2_with fail
  refine HKK.out.mono ?_
  rintro e w2 ⟨M, P, g1, g2, rfl, hb⟩
  have HG := Lib.hid (show RkIs (rowsN k xs) M.length from ⟨M, P, g1, g2, rfl⟩)
  replace HB := Lib.hid (chain HB.out hb)
  clear hb g1 g2
  go_wp2_with fail
  go_ret2
  exact ⟨M.length, rfl, HG.out, HB.out⟩
theorem ebytes_no (k s c : Int) (A : Option Addr) (l d : Nat) (xs : List SymR) (w : World) (hx : Syms w A l xs) (hl : l ≤ d) (hd : d ≤ maxLen) (hs : storeB k s c xs = false) :
    Calls Tryz.prog 8 #[.agg #[.int .i64 k, .int .i64 s, .int .i64 c, .slice A l d]] w fun e w' => e = .returned (.tuple #[.int .i64 0, .int .i64 1]) ∧ Below w.heap.size w w' := by
  have b1 : Below w.heap.size w (w.alloc (.cells #[.int .i64 k, .int .i64 s, .int .i64 c, .slice A l d] 24)) := (Below.refl _ _).alloc (Nat.le_refl _) _
  have HR := Lib.hid (eright_any k s c A l d xs _ (hx.below b1) hl hd)
  rw [hs] at HR
  have HB := Lib.hid b1
  obtain ⟨r0, r1, r2, r3, -, -, -, -⟩ := (Box.new w 24 #[.int .i64 k, .int .i64 s, .int .i64 c, .slice A l d]).four
  clear hx b1 hs
  go_enter Tryz.func8, Tryz.ntmps8
  go_wp2_with fail
  refine HR.out.mono ?_
  rintro e w1 ⟨rfl, hb⟩
  replace HB := Lib.hid (chain HB.out hb)
  clear hb r0 r1 r2 r3
  go_wp2_with fail
  go_ret2
  exact ⟨rfl, HB.out⟩
def bytesI (l s k : Nat) : Nat := l * (s + (k + 7) / 8)
theorem bytes_wrap (l s k : Nat) (h1 : l ≤ 64) (h2 : s ≤ 64) (h3 : k ≤ 64) : wrap64 ((l : Int) * ((s : Int) + ((k : Int) + 7) / 8)) = ((bytesI l s k : Nat) : Int) := by
  have e : ((l : Int) * ((s : Int) + ((k : Int) + 7) / 8)) = ((bytesI l s k : Nat) : Int) := by unfold bytesI; push_cast; rfl
  have hp : bytesI l s k ≤ 64 * 72 := Nat.mul_le_mul h1 (by omega)
  rw [e]
  unfold wrap64
  omega
theorem ebytes_yes (k s : Nat) (c : Int) (A : Option Addr) (l d : Nat) (xs : List SymR) (w : World) (hx : Syms w A l xs) (hl : l ≤ d) (hd : d ≤ maxLen) (hs : storeB k s c xs = true) :
    Calls Tryz.prog 8 #[.agg #[.int .i64 k, .int .i64 s, .int .i64 c, .slice A l d]] w fun e w' => e = .returned (.tuple #[.int .i64 (bytesI l s k : Nat), .int .i64 0]) ∧ Below w.heap.size w w' := by
  obtain ⟨hk, hsz, hc, hlc⟩ := storeB_bd hs
  have hl64 : l ≤ 64 := by have := hx.1; omega
  have b1 : Below w.heap.size w (w.alloc (.cells #[.int .i64 k, .int .i64 s, .int .i64 c, .slice A l d] 24)) := (Below.refl _ _).alloc (Nat.le_refl _) _
  have HR := Lib.hid (eright_any k s c A l d xs _ (hx.below b1) hl hd)
  rw [hs] at HR
  have HB := Lib.hid b1
  have Q := Lib.hid (Box.new w 24 #[.int .i64 k, .int .i64 s, .int .i64 c, .slice A l d])
  obtain ⟨r0, r1, r2, r3, -, -, -, -⟩ := Q.out.four
  clear hx b1 hs
  go_enter Tryz.func8, Tryz.ntmps8
  go_wp2_with fail
  refine HR.out.mono ?_
  rintro e w1 ⟨rfl, hb⟩
  replace HB := Lib.hid (chain HB.out hb)
  replace Q := Lib.hid (Q.out.keep hb)
  clear hb r0 r1 r2 r3
  obtain ⟨r0, r1, r2, r3, -, -, -, -⟩ := Q.out.four
  have tw := Lib.hid (bytes_wrap l s k hl64 (by omega) (by omega))
  go_wp2_with fail
  go_ret2
  refine ⟨?_, HB.out⟩
  show Ending.returned (.tuple #[.int .i64 (wrap64 ((l : Int) * ((s : Int) + ((k : Int) + 7) / 8))), .int .i64 0]) = _
  rw [tw.out]
end
section
/- Contracts of layer 12: equations.Sums; the reference's Rows, Sums, Rank and Bytes. -/
set_option linter.unusedVariables false
set_option linter.unusedSimpArgs false
open Go.RowKit
set_option maxRecDepth 100000
theorem row_infoV : (Tryz.prog.info? 56).map (fun i => (i.zero, i.size, i.bytes)) = some (some (.agg #[.int .i64 0, .slice none 0 0]), 2, 32) := by kernel_rfl
def dtL (xs : List SymR) : List ByteArray := xs.map (·.2)
theorem dtL_len (xs : List SymR) : (dtL xs).length = xs.length := by simp [dtL]
theorem dtL_snoc (xs : List SymR) (k : Nat) (h : k < xs.length) : (dtL (xs.take (k + 1))).map Value.string = (dtL (xs.take k)).map Value.string ++ [Value.string (xs.getD k default).2] := by
  unfold dtL
  rw [take_snocD xs k h]; simp
theorem dtL_le {k s c : Int} {xs : List SymR} (h : storeB k s c xs = true) (j : Nat) : ((dtL xs).getD j ByteArray.empty).size ≤ maxLen := by
  by_cases hj : j < xs.length
  · have e : (dtL xs).getD j ByteArray.empty = (xs[j]).2 := by simp [dtL, List.getD, hj]
    rw [e]
    have hb := storeB_bd h
    unfold storeB at h
    simp only [Bool.and_eq_true] at h
    have ha := h.1.2
    unfold allB at ha
    rw [List.all_eq_true] at ha
    have := ha _ (List.getElem_mem hj)
    have : (((xs[j]).2.size : Nat) : Int) = s := by simpa using this
    unfold maxLen
    omega
  · have e : (dtL xs).getD j ByteArray.empty = ByteArray.empty := by simp [dtL, List.getD, List.getElem?_eq_none (Nat.le_of_not_lt hj)]
    rw [e]; exact Nat.zero_le _
theorem own_empty1 (W : World) (base e : Nat) (hb : base ≤ W.heap.size) : (W.alloc (.cells #[] e)).ownsRow base e 1 (.slice (some ⟨W.heap.size, 0, none⟩) 0 0) 0 [] :=
  ⟨by simp, .inr ⟨W.heap.size, 0, #[], rfl, hb, heap_alloc_new W _, Nat.le_refl _, Nat.zero_le _, by simp, by simp⟩⟩
theorem esums_no (k s c : Int) (A : Option Addr) (l d : Nat) (xs : List SymR) (w : World) (hx : Syms w A l xs) (hl : l ≤ d) (hd : d ≤ maxLen) (hs : storeB k s c xs = false) :
    Calls Tryz.prog 6 #[.agg #[.int .i64 k, .int .i64 s, .int .i64 c, .slice A l d]] w fun e w' => e = .returned (.tuple #[.slice none 0 0, .int .i64 1]) ∧ Below w.heap.size w w' := by
  have b1 : Below w.heap.size w (w.alloc (.cells #[.int .i64 k, .int .i64 s, .int .i64 c, .slice A l d] 24)) := (Below.refl _ _).alloc (Nat.le_refl _) _
  have HR := Lib.hid (eright_any k s c A l d xs _ (hx.below b1) hl hd)
  rw [hs] at HR
  have HB := Lib.hid b1
  obtain ⟨r0, r1, r2, r3, -, -, -, -⟩ := (Box.new w 24 #[.int .i64 k, .int .i64 s, .int .i64 c, .slice A l d]).four
  clear hx b1 hs
  go_enter Tryz.func6, Tryz.ntmps6
  go_wp2_with fail
  refine HR.out.mono ?_
  rintro e w1 ⟨rfl, hb⟩
  replace HB := Lib.hid (chain HB.out hb)
  clear hb r0 r1 r2 r3
  go_wp2_with fail
  go_ret2
  exact ⟨rfl, HB.out⟩
theorem esums_yes (k s c : Int) (A : Option Addr) (l d : Nat) (xs : List SymR) (w : World) (hx : Syms w A l xs) (hl : l ≤ d) (hd : d ≤ maxLen) (hs : storeB k s c xs = true) :
    Calls Tryz.prog 6 #[.agg #[.int .i64 k, .int .i64 s, .int .i64 c, .slice A l d]] w fun e w' => ∃ A' c', e = .returned (.tuple #[.slice A' l c', .int .i64 0]) ∧ Texts w' A' l (dtL xs) ∧ Below w.heap.size w w' := by
  obtain ⟨hk, -, hc, hlc⟩ := storeB_bd hs
  obtain ⟨i0, hi, hz0, hz1, hz2⟩ := info_parts string_info
  have HI := Lib.hid hi
  have HZ0 := Lib.hid hz0
  have HZ1 := Lib.hid hz1
  have HZ2 := Lib.hid hz2
  have b1 : Below w.heap.size w (w.alloc (.cells #[.int .i64 k, .int .i64 s, .int .i64 c, .slice A l d] 24)) := (Below.refl _ _).alloc (Nat.le_refl _) _
  have Q := Lib.hid (Box.new w 24 #[.int .i64 k, .int .i64 s, .int .i64 c, .slice A l d])
  have HB := Lib.hid b1
  have HXl := Lib.hid hx.1
  have HLE := Lib.hid (dtL_le hs)
  have hl64 : l ≤ 64 := by have := hx.1; omega
  have HX := Lib.hid (hx.below b1)
  have HR := Lib.hid (eright_any k s c A l d xs _ (hx.below b1) hl hd)
  rw [hs] at HR
  obtain ⟨r0, r1, r2, r3, -, -, -, -⟩ := Q.out.four
  clear hx b1 hs hi hz0 hz1 hz2
  go_enter Tryz.func6, Tryz.ntmps6
  go_wp2_with fail
  refine HR.out.mono ?_
  rintro e w1 ⟨rfl, hb⟩
  replace HB := Lib.hid (chain HB.out hb)
  replace Q := Lib.hid (Q.out.keep hb)
  replace HX := Lib.hid (HX.out.below hb)
  clear hb r0 r1 r2 r3 HR
  obtain ⟨r0, r1, r2, r3, -, -, -, -⟩ := Q.out.four
  go_wp2_with fail
  clear r0 r1 r2 r3
  go_loopw [4, 13] (fun v t wr => ∃ i : Nat, i ≤ l ∧ t = .int .i64 i ∧ wr.ownsRow w1.heap.size 9 1 v i ((dtL (xs.take i)).map Value.string) ∧ Below w1.heap.size w1 wr) (fun _ t _ => l - (intOf t).toNat)
  case atStart => exact ⟨0, Nat.zero_le _, rfl, World.ownsRow_nil _ _ _ _, Below.refl _ _⟩
  case round =>
    obtain ⟨i, hi, rfl, hown, hbel⟩ := hrel
    have HO := Lib.hid hown
    have HC := Lib.hid hbel
    clear hown hbel
    by_cases hlt : i < l
    · have hlt' : (i : Int) < (l : Int) := Int.ofNat_lt.2 hlt
      obtain ⟨b, off, rfl, hb, x0, x1⟩ := Syms.two HX.out i hlt
      have x0 := (HC.out.cell (p := ⟨b, off + i * 2, none⟩) hb).trans x0
      have x1 := (HC.out.cell (p := ⟨b, off + i * 2 + 1, none⟩) hb).trans x1
      have HS := Lib.hid (dtL_snoc xs i (by rw [HXl.out]; exact hlt))
      generalize xs.getD i default = p at *
      obtain ⟨p0, p1⟩ := p
      dsimp only at x0 x1 HS
      have G := Lib.hid (Box.new wr 46 #[.int .u64 (p0 : Nat), .string p1])
      have c1 := Lib.hid (show Below wr.heap.size wr (wr.alloc (.cells #[.int .u64 (p0 : Nat), .string p1] 46)) from (Below.refl _ _).alloc (Nat.le_refl _) _)
      have c2 := Lib.hid (show Below wr.heap.size wr ((wr.alloc (.cells #[.int .u64 (p0 : Nat), .string p1] 46)).alloc (.cells #[.string p1] 9)) from c1.out.alloc c1.out.size _)
      have XO := Lib.hid (own_keep HO.out c2.out)
      have XB := Lib.hid (HC.out.trans (c2.out.mono HC.out.size))
      have N2 := Lib.hid (fun g hg => (HO.out.lt g hg).1)
      have NW := Lib.hid (show ∀ j u, ([Value.string p1])[j]? = some u → ((wr.alloc (.cells #[.int .u64 (p0 : Nat), .string p1] 46)).alloc (.cells #[.string p1] 9)).cell? ((⟨wr.heap.size + 1, 0, none⟩ : Addr).add j) = some u from by
        have := World.news_of_block (Box.new (wr.alloc (.cells #[.int .u64 (p0 : Nat), .string p1] 46)) 9 #[.string p1])
        rw [World.size_alloc] at this
        exact this)
      obtain ⟨g0, g1, -, -⟩ := G.out.two
      clear G c1
      go_wp2_with (at_builtin; refine wpList_append_own _ rfl _ _ 32 rfl w1.heap.size 9 i0 (.string ⟨#[]⟩) 1 16 Tryz.underlying32 HI.out HZ0.out HZ1.out HZ2.out rfl (by decide) _ _ _ rfl XO.out ⟨wr.heap.size + 1, 0, none⟩ 1 1 [.string p1] rfl rfl NW.out (by simp [Value.oneCell']) (by simp [maxLen]; omega) (by omega) (XB.out.size) ?_; intro v' w2 hown' hgrow _; have HC2 := Lib.hid (XB.out.grown hgrow XB.out.size N2.out); have HO2 := Lib.hid hown'; clear hown' hgrow)
      go_roundw
      case rel =>
        refine ⟨i + 1, hlt, by go_num, ?_, HC2.out⟩
        rw [HS.out]
        exact HO2.out
      case measure => simp [intOf] <;> omega
    · obtain rfl : l = i := by omega
      have hlt' : ¬ (l : Int) < (l : Int) := Int.lt_irrefl _
      have HTK := Lib.hid (show xs.take l = xs from List.take_of_length_le (by rw [HXl.out]; exact Nat.le_refl _))
      rw [HTK.out] at HO
      obtain ⟨A7, c7, hv, e1, e2, ht⟩ := own_texts HO.out HLE.out
      subst hv
      have HT := Lib.hid ht
      have BB := Lib.hid (chain HB.out HC.out)
      clear HO HTK HC ht
      go_wp2_with fail
      go_ret2
      exact ⟨A7, ⟨c7, rfl⟩, HT.out, BB.out⟩
theorem refSums12_any (k s c : Int) (A : Option Addr) (l d : Nat) (xs : List SymR) (w : World) (hx : Syms w A l xs) (hl : l ≤ d) (hd : d ≤ maxLen) (hs : storeB k s c xs = true) :
    Calls Tryz.prog 14 #[.agg #[.int .i64 k, .int .i64 s, .int .i64 c, .slice A l d]] w fun e w' => ∃ A' c', e = .returned (.slice A' l c') ∧ Texts w' A' l (dtL xs) ∧ Below w.heap.size w w' := by
  obtain ⟨hk, -, hc, hlc⟩ := storeB_bd hs
  obtain ⟨i0, hi, hz0, hz1, hz2⟩ := info_parts string_info
  have HI := Lib.hid hi
  have HZ0 := Lib.hid hz0
  have HZ1 := Lib.hid hz1
  have HZ2 := Lib.hid hz2
  have b1 : Below w.heap.size w (w.alloc (.cells #[.int .i64 k, .int .i64 s, .int .i64 c, .slice A l d] 24)) := (Below.refl _ _).alloc (Nat.le_refl _) _
  have Q := Lib.hid ((Box.new w 24 #[.int .i64 k, .int .i64 s, .int .i64 c, .slice A l d]).alloc (.cells #[] 9))
  have HO0 := Lib.hid (own_empty1 (w.alloc (.cells #[.int .i64 k, .int .i64 s, .int .i64 c, .slice A l d] 24)) w.heap.size 9 (by simp))
  have HB := Lib.hid (b1.alloc b1.size (.cells #[] 9))
  have HXl := Lib.hid hx.1
  have HLE := Lib.hid (dtL_le hs)
  have hl64 : l ≤ 64 := by have := hx.1; omega
  have HX0 := Lib.hid hx
  have HX := Lib.hid (hx.below (b1.alloc b1.size (.cells #[] 9)))
  simp only [World.size_alloc] at HO0
  obtain ⟨r0, r1, r2, r3, -, -, -, -⟩ := Q.out.four
  clear hx b1 hs hi hz0 hz1 hz2
  go_enter Tryz.func14, Tryz.ntmps14
  go_wp2_with fail
  clear r0 r1 r2 r3
  go_loopw [3, 10] (fun v t wr => ∃ i : Nat, i ≤ l ∧ t = .int .i64 i ∧ wr.ownsRow w.heap.size 9 1 v i ((dtL (xs.take i)).map Value.string) ∧ Below w.heap.size w wr) (fun _ t _ => l - (intOf t).toNat)
  case atStart => exact ⟨0, Nat.zero_le _, rfl, HO0.out, HB.out⟩
  case round =>
    obtain ⟨i, hi, rfl, hown, hbel⟩ := hrel
    have HO := Lib.hid hown
    have HC := Lib.hid hbel
    clear hown hbel
    by_cases hlt : i < l
    · have hlt' : (i : Int) < (l : Int) := Int.ofNat_lt.2 hlt
      obtain ⟨b, off, rfl, hb, x0, x1⟩ := Syms.two HX0.out i hlt
      have x0 := (HC.out.cell (p := ⟨b, off + i * 2, none⟩) hb).trans x0
      have x1 := (HC.out.cell (p := ⟨b, off + i * 2 + 1, none⟩) hb).trans x1
      have HS := Lib.hid (dtL_snoc xs i (by rw [HXl.out]; exact hlt))
      generalize xs.getD i default = p at *
      obtain ⟨p0, p1⟩ := p
      dsimp only at x0 x1 HS
      have G := Lib.hid (Box.new wr 46 #[.int .u64 (p0 : Nat), .string p1])
      have c1 := Lib.hid (show Below wr.heap.size wr (wr.alloc (.cells #[.int .u64 (p0 : Nat), .string p1] 46)) from (Below.refl _ _).alloc (Nat.le_refl _) _)
      have c2 := Lib.hid (show Below wr.heap.size wr ((wr.alloc (.cells #[.int .u64 (p0 : Nat), .string p1] 46)).alloc (.cells #[.string p1] 9)) from c1.out.alloc c1.out.size _)
      have XO := Lib.hid (own_keep HO.out c2.out)
      have XB := Lib.hid (HC.out.trans (c2.out.mono HC.out.size))
      have N2 := Lib.hid (fun g hg => (HO.out.lt g hg).1)
      have NW := Lib.hid (show ∀ j u, ([Value.string p1])[j]? = some u → ((wr.alloc (.cells #[.int .u64 (p0 : Nat), .string p1] 46)).alloc (.cells #[.string p1] 9)).cell? ((⟨wr.heap.size + 1, 0, none⟩ : Addr).add j) = some u from by
        have := World.news_of_block (Box.new (wr.alloc (.cells #[.int .u64 (p0 : Nat), .string p1] 46)) 9 #[.string p1])
        rw [World.size_alloc] at this
        exact this)
      obtain ⟨g0, g1, -, -⟩ := G.out.two
      clear G c1
      go_wp2_with (at_builtin; refine wpList_append_own _ rfl _ _ 32 rfl w.heap.size 9 i0 (.string ⟨#[]⟩) 1 16 Tryz.underlying32 HI.out HZ0.out HZ1.out HZ2.out rfl (by decide) _ _ _ rfl XO.out ⟨wr.heap.size + 1, 0, none⟩ 1 1 [.string p1] rfl rfl NW.out (by simp [Value.oneCell']) (by simp [maxLen]; omega) (by omega) (XB.out.size) ?_; intro v' w2 hown' hgrow _; have HC2 := Lib.hid (XB.out.grown hgrow XB.out.size N2.out); have HO2 := Lib.hid hown'; clear hown' hgrow)
      go_roundw
      case rel =>
        refine ⟨i + 1, hlt, by go_num, ?_, HC2.out⟩
        rw [HS.out]
        exact HO2.out
      case measure => simp [intOf] <;> omega
    · obtain rfl : l = i := by omega
      have hlt' : ¬ (l : Int) < (l : Int) := Int.lt_irrefl _
      have HTK := Lib.hid (show xs.take l = xs from List.take_of_length_le (by rw [HXl.out]; exact Nat.le_refl _))
      rw [HTK.out] at HO
      obtain ⟨A7, c7, hv, e1, e2, ht⟩ := own_texts HO.out HLE.out
      subst hv
      have HT := Lib.hid ht
      have HC9 := HC
      clear HO HTK HC ht
      go_wp2_with fail
      go_ret
      exact ⟨A7, ⟨c7, rfl⟩, HT.out, HC9.out⟩
theorem bytes_step (i s k : Nat) (hi : i ≤ 64) (hs : s ≤ 64) (hk : k ≤ 64) : bytesI (i + 1) s k = bytesI i s k + s + (k + 7) / 8 := by
  unfold bytesI; rw [Nat.add_mul]; omega
theorem refBytes12_any (k s : Nat) (c : Int) (A : Option Addr) (l d : Nat) (xs : List SymR) (w : World) (hx : Syms w A l xs) (hl : l ≤ d) (hd : d ≤ maxLen) (hs : storeB k s c xs = true) :
    Calls Tryz.prog 16 #[.agg #[.int .i64 k, .int .i64 s, .int .i64 c, .slice A l d]] w fun e w' => e = .returned (.int .i64 (bytesI l s k : Nat)) ∧ Below w.heap.size w w' := by
  obtain ⟨hk, hsz, hc, hlc⟩ := storeB_bd hs
  have HB := Lib.hid (show Below w.heap.size w (w.alloc (.cells #[.int .i64 k, .int .i64 s, .int .i64 c, .slice A l d] 24)) from (Below.refl _ _).alloc (Nat.le_refl _) _)
  have Q := Lib.hid (Box.new w 24 #[.int .i64 k, .int .i64 s, .int .i64 c, .slice A l d])
  have hl64 : l ≤ 64 := by have := hx.1; omega
  have k64 : k ≤ 64 := by omega
  have s64 : s ≤ 64 := by omega
  have HP := Lib.hid (fun i hi => bytes_step i s k hi s64 k64)
  have HM := Lib.hid (fun i (hi : i ≤ 64) => show bytesI i s k ≤ 64 * 72 from Nat.mul_le_mul hi (by omega))
  obtain ⟨r0, r1, r2, r3, -, -, -, -⟩ := Q.out.four
  clear hx hs
  go_enter Tryz.func16, Tryz.ntmps16
  go_wp2_with fail
  go_loopw [3, 7] (fun v t wr => ∃ i : Nat, i ≤ l ∧ t = .int .i64 i ∧ v = .int .i64 (bytesI i s k : Nat) ∧ wr = w.alloc (.cells #[.int .i64 k, .int .i64 s, .int .i64 c, .slice A l d] 24)) (fun _ t _ => l - (intOf t).toNat)
  case atStart => exact ⟨0, Nat.zero_le _, rfl, by simp [bytesI], rfl⟩
  case round =>
    obtain ⟨i, hi, rfl, rfl, rfl⟩ := hrel
    by_cases hlt : i < l
    · have hlt' : (i : Int) < (l : Int) := Int.ofNat_lt.2 hlt
      have hp := HP.out i (by omega)
      have hm := HM.out i (by omega)
      have hp' : ((bytesI (i + 1) s k : Nat) : Int) = (bytesI i s k : Nat) + (s : Int) + ((k : Int) + 7) / 8 := by rw [hp]; push_cast; rfl
      have HP9 := Lib.hid hp'
      clear hp hp'
      generalize bytesI i s k = b0 at *
      have q1 : (b0 : Int) ≤ 4608 := by omega
      go_wp2_with fail
      go_roundw
      case rel => exact ⟨i + 1, hlt, by go_num, by rw [HP9.out], trivial⟩
      case measure => simp [intOf] <;> omega
    · obtain rfl : l = i := by omega
      have hlt' : ¬ (l : Int) < (l : Int) := Int.lt_irrefl _
      go_wp2_with fail
      go_ret
      exact ⟨rfl, HB.out⟩
set_option maxHeartbeats 4000000 in
theorem refRows12_any (k : Nat) (s c : Int) (A : Option Addr) (l d : Nat) (xs : List SymR) (w : World) (hx : Syms w A l xs) (hl : l ≤ d) (hd : d ≤ maxLen) (h1 : 1 ≤ k) (h2 : k ≤ 64) (hl64 : l ≤ 64) (hid : ∀ j, (xs.getD j default).1 < 18446744073709551616) :
    Calls Tryz.prog 12 #[.agg #[.int .i64 k, .int .i64 s, .int .i64 c, .slice A l d]] w fun e w' => ∃ A' c', e = .returned (.agg #[.int .i64 k, .slice A' l c']) ∧ MatW w' w.heap.size k (.slice A' l c') ((idN xs).map (nbRow k)) ∧ Below w.heap.size w w' := by
  have HS := Lib.hid (fun id hi w => refRow_own k id h1 h2 hi w)
  have HX := Lib.hid hx
  have HXl := Lib.hid hx.1
  have HID := Lib.hid hid
  obtain ⟨i0, hi, hz0, hz1, hz2⟩ := info_parts row_infoV
  have HI := Lib.hid hi
  have HZ0 := Lib.hid hz0
  have HZ1 := Lib.hid hz1
  have HZ2 := Lib.hid hz2
  clear hi hz0 hz1 hz2 hx hid
  have QS := Lib.hid (((Box.new w 24 #[.int .i64 k, .int .i64 s, .int .i64 c, .slice A l d]).alloc (.cells #[.int .i64 0, .slice none 0 0] 28)).alloc (.cells #[.int .i64 k, .slice none 0 0] 28))
  have q0 := (Box.new (w.alloc (.cells #[.int .i64 k, .int .i64 s, .int .i64 c, .slice A l d] 24)) 28 #[.int .i64 0, .slice none 0 0]).alloc (.cells #[.int .i64 k, .slice none 0 0] 28)
  have q1 := Box.new ((w.alloc (.cells #[.int .i64 k, .int .i64 s, .int .i64 c, .slice A l d] 24)).alloc (.cells #[.int .i64 0, .slice none 0 0] 28)) 28 #[.int .i64 k, .slice none 0 0]
  have HW := Lib.hid (show Below w.heap.size w (((w.alloc (.cells #[.int .i64 k, .int .i64 s, .int .i64 c, .slice A l d] 24)).alloc (.cells #[.int .i64 0, .slice none 0 0] 28)).alloc (.cells #[.int .i64 k, .slice none 0 0] 28)) from (((Below.refl _ _).alloc (Nat.le_refl _) _).alloc (by simp) _).alloc (by simp; omega) _)
  simp only [World.size_alloc] at q0 q1
  have Q0 := Lib.hid q0
  have Q1 := Lib.hid q1
  clear q0 q1
  obtain ⟨r0, r1, r2, r3, -, -, -, -⟩ := QS.out.four
  have QS0 := Lib.hid ((Box.new w 24 #[.int .i64 k, .int .i64 s, .int .i64 c, .slice A l d]).alloc (.cells #[.int .i64 0, .slice none 0 0] 28))
  obtain ⟨u0, u1, u2, u3, -, -, -, -⟩ := QS0.out.four
  go_enter Tryz.func12, Tryz.ntmps12
  go_wp2_with fail
  clear r0 r1 r2 r3 u0 u1 u2 u3 QS0
  go_loopw [12] (fun t wr => ∃ (i : Nat) (v : Value), i ≤ l ∧ t = .int .i64 i ∧ Box wr (w.heap.size + 2) 28 #[.int .i64 k, v] ∧ MatW wr w.heap.size k v ((idN (xs.take i)).map (nbRow k)) ∧ Box wr (w.heap.size + 1) 28 #[.int .i64 0, .slice none 0 0] ∧ Box wr w.heap.size 24 #[.int .i64 k, .int .i64 s, .int .i64 c, .slice A l d] ∧ Below w.heap.size w wr) (fun t _ => l - (intOf t).toNat)
  case atStart => exact ⟨0, _, by omega, rfl, Q1.out, MatW.nil _ _ _, Q0.out, QS.out, HW.out⟩
  case round =>
    obtain ⟨i, v, hi, rfl, B1, hmat, B0, BS, hbel⟩ := hrel
    have R1 := Lib.hid B1
    have R0 := Lib.hid B0
    have RS := Lib.hid BS
    have HMa := Lib.hid hmat
    have HB := Lib.hid hbel
    clear B1 B0 BS hmat hbel Q0 Q1 QS HW
    by_cases hlt : i < l
    · have hlt' : (i : Int) < (l : Int) := by omega
      obtain ⟨b, off, rfl, hb, x0, x1⟩ := Syms.two HX.out i hlt
      have x0 := (HB.out.cell (p := ⟨b, off + i * 2, none⟩) hb).trans x0
      have x1 := (HB.out.cell (p := ⟨b, off + i * 2 + 1, none⟩) hb).trans x1
      have HTK := Lib.hid (show (idN (xs.take (i + 1))).map (nbRow k) = (idN (xs.take i)).map (nbRow k) ++ [nbRow k (xs.getD i default).1] by unfold idN; rw [take_snocD xs i (by rw [HXl.out]; exact hlt)]; simp)
      have HTL := Lib.hid (show ((idN (xs.take i)).map (nbRow k)).length = i by have := HXl.out; simp [idN]; omega)
      have HXi := Lib.hid (HID.out i)
      generalize xs.getD i default = p at *
      obtain ⟨p0, p1⟩ := p
      dsimp only at x0 x1 HTK HXi
      have G := Lib.hid (Box.new wr 46 #[.int .u64 (p0 : Nat), .string p1])
      replace R1 := Lib.hid (R1.out.alloc (.cells #[.int .u64 (p0 : Nat), .string p1] 46))
      replace R0 := Lib.hid (R0.out.alloc (.cells #[.int .u64 (p0 : Nat), .string p1] 46))
      replace RS := Lib.hid (RS.out.alloc (.cells #[.int .u64 (p0 : Nat), .string p1] 46))
      replace HMa := Lib.hid (HMa.out.alloc (.cells #[.int .u64 (p0 : Nat), .string p1] 46))
      replace HB := Lib.hid (HB.out.alloc HB.out.size (.cells #[.int .u64 (p0 : Nat), .string p1] 46))
      obtain ⟨g0, g1, -, -⟩ := G.out.two
      obtain ⟨a0, a1, f0, f1⟩ := R1.out.two
      obtain ⟨r0, r1, r2, r3, -, -, -, -⟩ := RS.out.four
      obtain ⟨rs, hr1, hr2, hr3⟩ := HMa.out
      rw [HTL.out] at hr1 hr2 hr3
      have HOW := Lib.hid hr2
      have HRS := Lib.hid hr3
      clear hr2 hr3
      go_wp2_with fail
      generalize wr.alloc (.cells #[.int .u64 (p0 : Nat), .string p1] 46) = W9 at *
      go_region_law (first
        | (go_simp; go_at_call 24; refine (HS.out p0 HXi.out _).mono ?_; rintro e1 x9 ⟨A1, l1, c1, rfl, hw, hb⟩; have S1 := Lib.hid (R1.out.drew.keep hb); have S0 := Lib.hid (R0.out.drew.keep hb); have SS := Lib.hid (RS.out.drew.keep hb); have SO := Lib.hid (own_keep (own_drew HOW.out) hb); have SR := Lib.hid (fun j hj => (HRS.out j hj).drew.below hb); have SB := Lib.hid (chain HB.out.drew hb); have SW := Lib.hid hw; clear hb hw; have T1 := Lib.hid (S1.out.alloc (.cells #[.int .i64 k, .slice A1 l1 c1] 56)); obtain ⟨s0, s1, sf0, sf1⟩ := S1.out.two; obtain ⟨t0, t1, tf0, tf1⟩ := T1.out.two; have hb0 := SB.out.size; have hn0 := SO.out.lt)
        | (refine step_append_lies _ rfl (.tmp 17) (.tmp 23) 26 rfl w.heap.size 56 i0 (.agg #[.int .i64 0, .slice none 0 0]) 2 32 Tryz.underlying26 HI.out HZ0.out HZ1.out HZ2.out rfl (by decide) v i (flatR k rs) (by simp [Act.eval, Act.put]) (World.ownsRow.alloc SO.out (.cells #[.int .i64 k, .slice A1 l1 c1] 56)) ⟨x9.heap.size, 0, none⟩ 1 1 [.int .i64 k, .slice A1 l1 c1] (by simp [Act.eval, Act.put]) rfl (World.news_of_block (Box.new x9 56 #[.int .i64 k, .slice A1 l1 c1])) (by simp [Value.oneCell']) (by omega) (by simp [maxLen]; omega) (by omega) (by simp; omega) _ rfl ?_; intro g cap w1 hown hgrow _ _; have V1 := Lib.hid (T1.out.grown hgrow (own_ne SO.out S1.out (by decide))); have HO2 := Lib.hid hown; have HG := Lib.hid hgrow; clear hown hgrow; obtain ⟨v0, v1, vf0, vf1⟩ := V1.out.two))
      all_goals
        have W0 := Lib.hid ((S0.out.alloc (.cells #[.int .i64 k, .slice A1 l1 c1] 56)).grown HG.out (own_ne SO.out S0.out (by decide)))
        have WS := Lib.hid ((SS.out.alloc (.cells #[.int .i64 k, .slice A1 l1 c1] 56)).grown HG.out (own_ne SO.out SS.out (by decide)))
        have WB := Lib.hid ((SB.out.alloc SB.out.size (.cells #[.int .i64 k, .slice A1 l1 c1] 56)).grown HG.out (SB.out.alloc SB.out.size (.cells #[.int .i64 k, .slice A1 l1 c1] 56)).size (fun k hk => (SO.out.lt k hk).1))
        have WR := Lib.hid (fun j hj => OwnW.grown ((SR.out j hj).alloc (.cells #[.int .i64 k, .slice A1 l1 c1] 56)) (World.ownsRow.alloc SO.out (.cells #[.int .i64 k, .slice A1 l1 c1] 56)) (by decide) HG.out)
        have WW := Lib.hid (OwnW.grown (SW.out.alloc (.cells #[.int .i64 k, .slice A1 l1 c1] 56)) (World.ownsRow.alloc SO.out (.cells #[.int .i64 k, .slice A1 l1 c1] 56)) (by decide) HG.out)
        have WM := Lib.hid (MatW.snoc (ls := (idN (xs.take i)).map (nbRow k)) (by rw [HTL.out]; exact hr1) (by rw [HTL.out]; exact HO2.out) (by rw [HTL.out]; exact WR.out) WW.out)
        clear HG SO SR SB SW S0 S1 T1 HOW HRS HO2 WR WW HMa R1 R0 RS SS HB
        go_wp2_with fail
        go_roundw
        case rel => exact ⟨i + 1, _, by omega, by go_num, V1.out.put 1 _, by rw [HTK.out]; exact WM.out.far V1.out (by decide) (by decide) 1 _, W0.out.far (p := ⟨w.heap.size + 2, 1, none⟩) (by simp) _, WS.out.far (p := ⟨w.heap.size + 2, 1, none⟩) (by simp) _, WB.out.setCell (p := ⟨w.heap.size + 2, 1, none⟩) (by simp) _⟩
        case measure => simp [intOf] <;> omega
    · obtain rfl : l = i := by omega
      have hlt' : ¬ (l : Int) < (l : Int) := by omega
      have HTK := Lib.hid (show (idN (xs.take l)).map (nbRow k) = (idN xs).map (nbRow k) by rw [show xs.take l = xs from List.take_of_length_le (by rw [HXl.out]; omega)])
      rw [HTK.out] at HMa
      obtain ⟨A', c', hv⟩ := MatW.form HMa.out (show ((idN xs).map (nbRow k)).length = l by rw [List.length_map, idN_len, HXl.out])
      subst hv
      obtain ⟨a0, a1, -, -⟩ := R1.out.two
      obtain ⟨b0, b1, f0, f1⟩ := R0.out.two
      go_wp2_with fail
      refine close_one Tryz.results12 rfl rfl R0.out.put2 Tryz.underlying28 rfl (by kernel_rfl) ⟨A', c', rfl, ?_, ?_⟩
      · exact (HMa.out.far R0.out (by decide) (by decide) 0 _).far (R0.out.put 0 _) (by decide) (by decide) 1 _
      · exact (HB.out.setCell (p := ⟨w.heap.size + 1, 0, none⟩) (by simp) _).setCell (p := ⟨w.heap.size + 1, 1, none⟩) (by simp) _
theorem refRank12_any (k : Nat) (s c : Int) (A : Option Addr) (l d : Nat) (xs : List SymR) (w : World) (hx : Syms w A l xs) (hl : l ≤ d) (hd : d ≤ maxLen) (h1 : 1 ≤ k) (h2 : k ≤ 64) (hl64 : l ≤ 64) (hid : ∀ j, (xs.getD j default).1 < 18446744073709551616) :
    Calls Tryz.prog 15 #[.agg #[.int .i64 k, .int .i64 s, .int .i64 c, .slice A l d]] w fun e w' => ∃ n : Nat, e = .returned (.int .i64 n) ∧ RkIs (rowsN k xs) n ∧ Below w.heap.size w w' := by
  have b1 : Below w.heap.size w (w.alloc (.cells #[.int .i64 k, .int .i64 s, .int .i64 c, .slice A l d] 24)) := (Below.refl _ _).alloc (Nat.le_refl _) _
  have HR := Lib.hid (refRows12_any k s c A l d xs _ (hx.below b1) hl hd h1 h2 hl64 hid)
  have HE := Lib.hid (fun A c lo w hm => refEch_any k (by omega) (rowsN k xs) (rowsN_lt k xs h1 h2) (by rw [rowsN_len, hx.1]; omega) A c lo w hm)
  have HXl := Lib.hid hx.1
  have HB := Lib.hid b1
  obtain ⟨r0, r1, r2, r3, -, -, -, -⟩ := (Box.new w 24 #[.int .i64 k, .int .i64 s, .int .i64 c, .slice A l d]).four
  clear hx b1 hid
  go_enter Tryz.func15, Tryz.ntmps15
  go_wp2_with fail
  refine HR.out.mono ?_
  rintro e w1 ⟨A3, c3, rfl, hm, hb⟩
  obtain ⟨A4, c4, hv, hmat⟩ := MatW.mat h1 h2 hm
  rw [rowsN_len, HXl.out] at hv
  injection hv with e1 e2 e3
  subst e1 e3
  replace HB := Lib.hid (chain HB.out hb)
  have HKK := Lib.hid (HE.out A3 c3 _ _ hmat)
  rw [rowsN_len, HXl.out] at HKK
  clear hb r0 r1 r2 r3 hm hmat
  go_wp2_with fail
  refine HKK.out.mono ?_
  rintro e w2 ⟨M, P, A5, c5, rfl, g1, g2, g3, hb⟩
  have HG := Lib.hid (show RkIs (rowsN k xs) M.length from ⟨M, P, g1, g2, rfl⟩)
  replace HB := Lib.hid (chain HB.out hb)
  clear hb g1 g2 g3
  go_wp2_with fail
  go_ret
  exact ⟨M.length, rfl, HG.out, HB.out⟩
end
section
/- Two symbols compared. -/
set_option linter.unusedVariables false
set_option linter.unusedSimpArgs false
open Go.RowKit
theorem sym_equal (d : Nat) (a b : Int) (s t : ByteArray) (w : World) : (Op.equalIn (d + 2) 46 (.agg #[.int .u64 a, .string s]) (.agg #[.int .u64 b, .string t])).run Tryz.prog w = .ok (a == b && s.toList == t.toList) w := by
  rw [run_equalIn_struct w (d + 1) 46 _ _ (by kernel_rfl) (by kernel_rfl)]
  simp only [Program.fieldsOf, Tryz.underlying46]
  simp [Op.eqFields, Go.part, Go.isAgg, run_underlying Tryz.underlying44, run_underlying Tryz.underlying9]
  rw [run_equalIn_int w d 44 .u64 .u64 a b Tryz.underlying44]
  cases h : (a == b) with
  | false => simp [Result.andThen]
  | true =>
    simp only [Result.andThen_ok]
    rw [run_equalIn_string w d 9 s t Tryz.underlying9]
    cases h2 : (s.toList == t.toList) <;> simp [Result.andThen]
theorem sym_neq (a b : Int) (s t : ByteArray) (w : World) : (binOp .neq 46 (.agg #[.int .u64 a, .string s]) (.agg #[.int .u64 b, .string t])).run Tryz.prog w = .ok (.bool (!(a == b && s.toList == t.toList))) w := by
  rw [run_neq_struct, show (10000 : Nat) = 9998 + 2 from rfl, sym_equal]; rfl
theorem sym_guard (op : BinOp) (a b : Int) (s t : ByteArray) (x y : Operand) (w : World) : (eqGuard op 46 x y (.agg #[.int .u64 a, .string s]) (.agg #[.int .u64 b, .string t])).run Tryz.prog w = .ok () w :=
  run_eqGuard_agg w op _ x y _ _ (by kernel_rfl)
theorem toList_inj (s t : ByteArray) (h : s.toList = t.toList) : s = t := by
  rw [ByteArray.toList_eq, ByteArray.toList_eq] at h
  obtain ⟨⟨x⟩⟩ := s
  obtain ⟨⟨y⟩⟩ := t
  simp at h
  rw [h]
theorem symv_ne (p q : Nat × ByteArray) (h : ¬ p = q) : (((p.1 : Nat) : Int) == ((q.1 : Nat) : Int) && p.2.toList == q.2.toList) = false := by
  obtain ⟨a, s⟩ := p
  obtain ⟨b, t⟩ := q
  by_cases h1 : a = b
  · subst h1
    have h2 : ¬ s.toList = t.toList := fun e => h (by rw [toList_inj s t e])
    simp [h2]
  · have : ¬ ((a : Nat) : Int) = (b : Int) := by omega
    simp [this]
theorem symv_eq (p : Nat × ByteArray) : (((p.1 : Nat) : Int) == ((p.1 : Nat) : Int) && p.2.toList == p.2.toList) = true := by simp
end
section
/- Contracts of layer 12: two lists of symbols, Like, the reference's Same. -/
set_option linter.unusedVariables false
set_option linter.unusedSimpArgs false
open Go.RowKit
set_option maxRecDepth 100000
theorem bdH {B : Nat} {w wr : World} (h : Hid (Below B w wr)) (n : Nat) : Hid (Below B w (wr.drewN n)) := Lib.hid (bdN h.out n)
theorem take_both (xs ys : List SymR) (j : Nat) (h1 : j < xs.length) (h2 : j < ys.length) (h : xs.take j = ys.take j) (he : xs.getD j default = ys.getD j default) : xs.take (j + 1) = ys.take (j + 1) := by
  rw [take_snocD xs j h1, take_snocD ys j h2, h, he]
theorem take_differ (xs ys : List SymR) (j : Nat) (h1 : j < xs.length) (h2 : j < ys.length) (he : ¬ xs.getD j default = ys.getD j default) : xs ≠ ys := fun h => he (by rw [h])
end
section
/- Contracts of layer 12: Like, the reference's Same. -/
set_option linter.unusedVariables false
set_option linter.unusedSimpArgs false
open Go.RowKit
set_option maxRecDepth 100000
def likeB (k s c : Int) (xs : List SymR) (k2 s2 c2 : Int) (ys : List SymR) : Bool := k == k2 && s == s2 && c == c2 && decide (xs = ys)
theorem likeB_self (k s c : Int) (xs : List SymR) : likeB k s c xs k s c xs = true := by simp [likeB]
end
section
/- Contracts of layer 12: New, Add. -/
set_option linter.unusedVariables false
set_option linter.unusedSimpArgs false
open Go.RowKit
set_option maxRecDepth 100000
theorem Box.put4 {w : World} {g : Nat} {t : TypeId} {a b c d a' b' c' d' : Value} (h : Box w g t #[a, b, c, d]) :
    Box ((((w.setCell ⟨g, 0, none⟩ a').setCell ⟨g, 1, none⟩ b').setCell ⟨g, 2, none⟩ c').setCell ⟨g, 3, none⟩ d') g t #[a', b', c', d'] := (((h.put 0 a').put 1 b').put 2 c').put 3 d'
theorem below_set4 {B : Nat} {w x : World} (h : Below B w x) {g : Nat} (hg : B ≤ g) (a b c d : Value) : Below B w ((((x.setCell ⟨g, 0, none⟩ a).setCell ⟨g, 1, none⟩ b).setCell ⟨g, 2, none⟩ c).setCell ⟨g, 3, none⟩ d) :=
  (((h.setCell (p := ⟨g, 0, none⟩) hg a).setCell (p := ⟨g, 1, none⟩) hg b).setCell (p := ⟨g, 2, none⟩) hg c).setCell (p := ⟨g, 3, none⟩) hg d
theorem Recs.far4 {α : Type} [Inhabited α] {enc : α → List Value} {sz : Nat} {w : World} {A : Option Addr} {len : Nat} {xs : List α} (h : Recs enc sz w A len xs) {g : Nat} (hne : ∀ b off, A = some ⟨b, off, none⟩ → 0 < len → b ≠ g) (a b c d : Value) :
    Recs enc sz ((((w.setCell ⟨g, 0, none⟩ a).setCell ⟨g, 1, none⟩ b).setCell ⟨g, 2, none⟩ c).setCell ⟨g, 3, none⟩ d) A len xs := (((h.farB hne 0 a).farB hne 1 b).farB hne 2 c).farB hne 3 d
/-- A store and an error are returned. -/
def StoreOut (k s c : Int) (xs : List SymR) (er : Int) (w : World) (e : Ending) (w' : World) : Prop :=
  ∃ A d, e = .returned (.tuple #[.agg #[.int .i64 k, .int .i64 s, .int .i64 c, .slice A xs.length d], .int .i64 er]) ∧ Syms w' A xs.length xs ∧ xs.length ≤ d ∧ d ≤ maxLen ∧ (A = none → d = 0) ∧ Below w.heap.size w w'
def newK (b : Bool) (x : Int) : Int := if b then x else 0
def newE (b : Bool) : Int := if b then 0 else 2
section
variable (k s c : Int) (A : Option Addr) (l d g gx : Nat) (w : World) (xs : List SymR) (x : SymR)
theorem add1_any (hb : Box w g 24 #[.int .i64 k, .int .i64 s, .int .i64 c, .slice A l d]) (hx : Syms w A l xs) (hl : l ≤ d) (hd : d ≤ maxLen) :
    Calls Tryz.prog 40 #[.pointer (some ⟨g, 0, none⟩)] w fun e w' => e = .returned (.int .i64 (whenI (!storeB k s c xs) 1)) ∧ Below w.heap.size w w' := by
  obtain ⟨h0, h1, h2, h3, -, -, -, -⟩ := hb.four
  have HA := Lib.hid (eright_any k s c A l d xs w hx hl hd)
  generalize storeB k s c xs = b at *
  clear hx
  go_enter Tryz.func40, Tryz.ntmps40
  go_wp2_with fail
  refine HA.out.mono ?_
  rintro e w1 ⟨rfl, hb1⟩
  go_wp2_with fail
  refine (when_any (!b) 1 _).mono ?_
  rintro e w1 ⟨rfl, rfl⟩
  go_wp2_with fail
  go_ret
  exact ⟨rfl, hb1⟩
theorem add2_any (hb : Box w g 24 #[.int .i64 k, .int .i64 s, .int .i64 c, .slice A l d]) (hbx : Box w gx 46 #[.int .u64 (x.1 : Int), .string x.2]) :
    Calls Tryz.prog 41 #[.pointer (some ⟨gx, 0, none⟩), .pointer (some ⟨g, 0, none⟩)] w fun e w' => e = .returned (.int .i64 (whenI ((x.2.size : Int) != s) 2)) ∧ Below w.heap.size w w' := by
  obtain ⟨h0, h1, h2, h3, -, -, -, -⟩ := hb.four
  obtain ⟨z0, z1, -, -⟩ := hbx.two
  have HW := Lib.hid (when_any ((x.2.size : Int) != s) 2 w)
  generalize ht : ((x.2.size : Int) != s) = t at *
  go_enter Tryz.func41, Tryz.ntmps41
  go_wp2_with fail
  refine HW.out.mono ?_
  rintro e w1 ⟨rfl, rfl⟩
  go_wp2_with fail
  go_ret
  exact ⟨rfl, Below.refl _ _⟩
theorem add3_any (hb : Box w g 24 #[.int .i64 k, .int .i64 s, .int .i64 c, .slice A l d]) (hbx : Box w gx 46 #[.int .u64 (x.1 : Int), .string x.2]) (hx : Syms w A l xs) (hl : l ≤ maxLen) :
    Calls Tryz.prog 42 #[.pointer (some ⟨g, 0, none⟩), .pointer (some ⟨gx, 0, none⟩)] w fun e w' => e = .returned (.int .i64 (whenI (hasI xs x.1) 8)) ∧ Below w.heap.size w w' := by
  obtain ⟨h0, h1, h2, h3, -, -, -, -⟩ := hb.four
  obtain ⟨z0, z1, -, -⟩ := hbx.two
  have HA := Lib.hid (ehas_any x.1 A l d xs w hx hl)
  generalize hasI xs x.1 = t at *
  clear hx
  go_enter Tryz.func42, Tryz.ntmps42
  go_wp2_with fail
  refine HA.out.mono ?_
  rintro e w1 ⟨rfl, hb1⟩
  go_wp2_with fail
  refine (when_any t 8 _).mono ?_
  rintro e w1 ⟨rfl, rfl⟩
  go_wp2_with fail
  go_ret
  exact ⟨rfl, hb1⟩
theorem add4_any (hb : Box w g 24 #[.int .i64 k, .int .i64 s, .int .i64 c, .slice A l d]) :
    Calls Tryz.prog 44 #[.pointer (some ⟨g, 0, none⟩)] w fun e w' => e = .returned (.int .i64 (whenI ((l : Int) == c) 7)) ∧ Below w.heap.size w w' := by
  obtain ⟨h0, h1, h2, h3, -, -, -, -⟩ := hb.four
  have HW := Lib.hid (when_any ((l : Int) == c) 7 w)
  generalize ht : ((l : Int) == c) = t at *
  go_enter Tryz.func44, Tryz.ntmps44
  go_wp2_with fail
  refine HW.out.mono ?_
  rintro e w1 ⟨rfl, rfl⟩
  go_wp2_with fail
  go_ret
  exact ⟨rfl, Below.refl _ _⟩
end
end
section
/- Contracts of layer 12's reference: Has, Sizes, Right, Why. -/
set_option linter.unusedVariables false
set_option linter.unusedSimpArgs false
open Go.RowKit
set_option maxRecDepth 100000
theorem refHas_any (id : Nat) (A : Option Addr) (l c : Nat) (xs : List SymR) (w : World) (hx : Syms w A l xs) (hl : l ≤ maxLen) :
    Calls Tryz.prog 20 #[.slice A l c, .int .u64 (id : Int)] w fun e w' => e = .returned (.bool (hasI xs id)) ∧ Below w.heap.size w w' := by
  unfold maxLen at hl
  have HX := Lib.hid hx
  have HXl := Lib.hid hx.1
  clear hx
  go_enter Tryz.func20, Tryz.ntmps20
  go_wp2_with fail
  go_loopw [9] (fun t wr => ∃ i : Nat, i ≤ l ∧ t = .int .i64 (i : Int) ∧ Hid (hasI (xs.take i) id = false) ∧ Hid (Below w.heap.size w wr)) (fun t _ => l - (intOf t).toNat)
  case atStart => exact ⟨0, Nat.zero_le _, rfl, Lib.hid rfl, Lib.hid (Below.refl _ _)⟩
  case round =>
    obtain ⟨i, hi, rfl, HS, HB⟩ := hrel
    by_cases hlt : i < l
    · have hlt' : (i : Int) < (l : Int) := Int.ofNat_lt.2 hlt
      obtain ⟨b, off, rfl, hb, x0, x1⟩ := Syms.two HX.out i hlt
      have x0 := (HB.out.cell (p := ⟨b, off + i * 2, none⟩) hb).trans x0
      have x1 := (HB.out.cell (p := ⟨b, off + i * 2 + 1, none⟩) hb).trans x1
      have HN := Lib.hid (hasI_snoc xs id i (by rw [HXl.out]; exact hlt))
      have HU := Lib.hid (hasI_up xs id (i + 1))
      have G := Lib.hid (Box.new wr 46 #[.int .u64 ((xs.getD i default).1 : Nat), .string (xs.getD i default).2])
      have HB := Lib.hid (HB.out.alloc HB.out.size (.cells #[.int .u64 ((xs.getD i default).1 : Nat), .string (xs.getD i default).2] 46))
      generalize xs.getD i default = p at *
      obtain ⟨p0, p1⟩ := p
      dsimp only at x0 x1 G HB HN
      obtain ⟨g0, g1, -, -⟩ := G.out.two
      have ei : (((p0 : Nat) : Int) == (id : Int)) = (p0 == id) := by rw [Bool.eq_iff_iff]; simp; omega
      cases hs : (p0 == id) with
      | true =>
        rw [hs] at HN ei
        have HE := Lib.hid (show hasI xs id = true from HU.out (by rw [HN.out]; simp))
        clear hs
        go_wp2_with fail
        go_ret
        exact ⟨by rw [HE.out]; rfl, HB.out⟩
      | false =>
        rw [hs] at HN ei
        have HN2 := Lib.hid (show hasI (xs.take (i + 1)) id = false by rw [HN.out, HS.out]; rfl)
        clear hs
        go_wp2_with fail
        go_roundw
        case rel => exact ⟨i + 1, hlt, by go_num, HN2, HB⟩
        case measure => simp [intOf] <;> omega
    · obtain rfl : i = l := Nat.le_antisymm hi (Nat.le_of_not_lt hlt)
      have hlt' : ¬ (i : Int) < (i : Int) := Int.lt_irrefl _
      have HE := Lib.hid (show hasI xs id = false by have := HS.out; rwa [List.take_of_length_le (by rw [HXl.out]; exact Nat.le_refl _)] at this)
      go_wp2_with fail
      go_ret
      exact ⟨by rw [HE.out]; rfl, HB.out⟩
def sizesB (k s c : Int) : Bool := kB k 1 64 && kB s 0 64 && kB c 1 64
theorem storeB_eq (k s c : Int) (xs : List SymR) : storeB k s c xs = (sizesB k s c && decide ((xs.length : Int) ≤ c) && (allB s xs && !twiceB xs)) := by
  unfold storeB sizesB
  cases kB k 1 64 <;> cases kB s 0 64 <;> cases kB c 1 64 <;> cases decide ((xs.length : Int) ≤ c) <;> cases allB s xs <;> cases twiceB xs <;> rfl
theorem refSizes_any (k s c : Int) (w : World) : Calls Tryz.prog 21 #[.int .i64 k, .int .i64 s, .int .i64 c] w fun e w' => e = .returned (.bool (sizesB k s c)) ∧ w = w' := by
  by_cases h0 : 1 ≤ k
  · by_cases h1 : k ≤ 64
    · by_cases h2 : 0 ≤ s
      · by_cases h3 : s ≤ 64
        · by_cases h4 : 1 ≤ c
          · by_cases h5 : c ≤ 64
            · go_enter Tryz.func21, Tryz.ntmps21
              go_wp2_with fail
              go_ret
              exact ⟨by simp [sizesB, kB, h0, h1, h2, h3, h4, h5], rfl⟩
            · have t : decide (c ≤ 64) = false := by simpa using h5
              go_enter Tryz.func21, Tryz.ntmps21
              go_wp2_with fail
              go_ret
              exact ⟨by unfold sizesB kB; rw [t]; simp, rfl⟩
          · have t : decide (1 ≤ c) = false := by simpa using h4
            go_enter Tryz.func21, Tryz.ntmps21
            go_wp2_with fail
            go_ret
            exact ⟨by unfold sizesB kB; rw [t]; simp, rfl⟩
        · have t : decide (s ≤ 64) = false := by simpa using h3
          go_enter Tryz.func21, Tryz.ntmps21
          go_wp2_with fail
          go_ret
          exact ⟨by unfold sizesB kB; rw [t]; simp, rfl⟩
      · have t : decide (0 ≤ s) = false := by simpa using h2
        go_enter Tryz.func21, Tryz.ntmps21
        go_wp2_with fail
        go_ret
        exact ⟨by unfold sizesB kB; rw [t]; simp, rfl⟩
    · have t : decide (k ≤ 64) = false := by simpa using h1
      go_enter Tryz.func21, Tryz.ntmps21
      go_wp2_with fail
      go_ret
      exact ⟨by unfold sizesB kB; rw [t]; simp, rfl⟩
  · have t : decide (1 ≤ k) = false := by simpa using h0
    go_enter Tryz.func21, Tryz.ntmps21
    go_wp2_with fail
    go_ret
    exact ⟨by unfold sizesB kB; rw [t]; simp, rfl⟩
def twiceTo (xs : List SymR) (k : Nat) : Bool := (List.range k).any fun i => hasI (xs.take i) (xs.getD i default).1
theorem twiceTo_snoc (xs : List SymR) (k : Nat) (h : k < xs.length) : twiceTo xs (k + 1) = (twiceTo xs k || hasI (xs.take k) (xs.getD k default).1) := twice_snoc xs k h
set_option maxHeartbeats 2000000 in
theorem refRight12_any (k s c : Int) (A : Option Addr) (l d : Nat) (xs : List SymR) (w : World) (hx : Syms w A l xs) (hl : l ≤ d) (hd : d ≤ maxLen) :
    Calls Tryz.prog 9 #[.agg #[.int .i64 k, .int .i64 s, .int .i64 c, .slice A l d]] w fun e w' => e = .returned (.bool (storeB k s c xs)) ∧ Below w.heap.size w w' := by
  have hd2 := hd
  unfold maxLen at hd
  have b1 : Below w.heap.size w (w.alloc (.cells #[.int .i64 k, .int .i64 s, .int .i64 c, .slice A l d] 24)) := (Below.refl _ _).alloc (Nat.le_refl _) _
  have Q := Lib.hid (Box.new w 24 #[.int .i64 k, .int .i64 s, .int .i64 c, .slice A l d])
  have HX := Lib.hid (hx.below b1)
  have HXl := Lib.hid hx.1
  have HB0 := Lib.hid b1
  have HST := Lib.hid (storeB_eq k s c xs)
  have HSZ := Lib.hid (fun w => refSizes_any k s c w)
  generalize sizesB k s c = sb at *
  obtain ⟨r0, r1, r2, r3, -, -, -, -⟩ := Q.out.four
  clear hx b1
  go_enter Tryz.func9, Tryz.ntmps9
  go_wp2_with fail
  go_loopw [8] (fun t wr => ∃ i : Nat, i ≤ l ∧ t = .int .i64 (i : Int) ∧ Hid (allB s (xs.take i) = true ∧ twiceTo xs i = false) ∧ Hid (Below (w.alloc (.cells #[.int .i64 k, .int .i64 s, .int .i64 c, .slice A l d] 24)).heap.size (w.alloc (.cells #[.int .i64 k, .int .i64 s, .int .i64 c, .slice A l d] 24)) wr)) (fun t _ => l - (intOf t).toNat)
  case atStart => exact ⟨0, Nat.zero_le _, rfl, Lib.hid ⟨rfl, rfl⟩, Lib.hid (Below.refl _ _)⟩
  case round =>
    obtain ⟨i, hi, rfl, HS, HB⟩ := hrel
    by_cases hlt : i < l
    · have hlt' : (i : Int) < (l : Int) := Int.ofNat_lt.2 hlt
      obtain ⟨b, off, rfl, hb, x0, x1⟩ := Syms.two HX.out i hlt
      have x0 := (HB.out.cell (p := ⟨b, off + i * 2, none⟩) hb).trans x0
      have x1 := (HB.out.cell (p := ⟨b, off + i * 2 + 1, none⟩) hb).trans x1
      have HN := Lib.hid (twiceTo_snoc xs i (by rw [HXl.out]; exact hlt))
      have HM := Lib.hid (allB_snoc s xs i (by rw [HXl.out]; exact hlt))
      have HU := Lib.hid (twice_up xs i (by rw [HXl.out]; exact hlt))
      have HV := Lib.hid (allB_up s xs (i + 1))
      have G := Lib.hid (Box.new wr 46 #[.int .u64 ((xs.getD i default).1 : Nat), .string (xs.getD i default).2])
      have Q := Lib.hid ((Q.out.keep HB.out).alloc (.cells #[.int .u64 ((xs.getD i default).1 : Nat), .string (xs.getD i default).2] 46))
      have HB := Lib.hid (HB.out.alloc HB.out.size (.cells #[.int .u64 ((xs.getD i default).1 : Nat), .string (xs.getD i default).2] 46))
      have HT := Lib.hid ((HX.out.take i (by omega)).mono (Nat.le_refl _) HB.out)
      have HH := Lib.hid (refHas_any (xs.getD i default).1 (some ⟨b, off, none⟩) i d (xs.take i) _ HT.out.drew (by unfold maxLen; omega))
      have i1 : (i : Int) ≤ (d : Int) := by omega
      have i2 : (i : Int) ≤ (l : Int) := by omega
      generalize xs.getD i default = p at *
      obtain ⟨p0, p1⟩ := p
      dsimp only at x0 x1 G HB HN HM HU HH Q
      generalize hW2 : wr.alloc (.cells #[.int .u64 (p0 : Nat), .string p1] 46) = W2 at *
      clear r0 r1 r2 r3
      obtain ⟨r0, r1, r2, r3, -, -, -, -⟩ := Q.out.four
      obtain ⟨g0, g1, -, -⟩ := G.out.two
      cases hs : ((p1.size : Int) == s) with
      | false =>
        rw [hs] at HM
        have hs2 : ((p1.size : Int) != s) = true := by simp [bne, hs]
        have HE := Lib.hid (show storeB k s c xs = false by rw [HST.out, HV.out (by rw [HM.out]; simp)]; simp)
        clear hs
        go_wp2_with fail
        clear hW2
        go_quiet (fail)
        go_wp2_with fail
        go_ret
        exact ⟨by rw [HE.out]; rfl, chain HB0.out (bdN HB.out _)⟩
      | true =>
        rw [hs] at HM
        have hs2 : ((p1.size : Int) != s) = false := by simp [bne, hs]
        clear hs
        cases ht : hasI (xs.take i) p0 with
        | true =>
          rw [ht] at HH
          have HE := Lib.hid (show storeB k s c xs = false by rw [HST.out, HU.out ht]; simp)
          clear ht
          go_wp2_with fail
          clear hW2
          go_region_with (go_at_call 20; refine HH.out.mono ?_; rintro e w1 ⟨rfl, hb1⟩; have HB := Lib.hid (chain HB.out.drew hb1); clear hb1)
          all_goals
            go_wp2_with fail
            go_ret
            exact ⟨by rw [HE.out]; rfl, chain HB0.out HB.out⟩
        | false =>
          rw [ht] at HH
          have HN2 := Lib.hid (show allB s (xs.take (i + 1)) = true ∧ twiceTo xs (i + 1) = false from ⟨by rw [HM.out, HS.out.1]; rfl, by rw [HN.out, HS.out.2, ht]; rfl⟩)
          clear ht
          go_wp2_with fail
          clear hW2
          go_region_with (go_at_call 20; refine HH.out.mono ?_; rintro e w1 ⟨rfl, hb1⟩; have HB := Lib.hid (chain HB.out.drew hb1); clear hb1)
          all_goals
            go_wp2_with fail
            go_roundw
            case rel => exact ⟨i + 1, hlt, by go_num, HN2, HB⟩
            case measure => simp [intOf] <;> omega
    · obtain rfl : i = l := Nat.le_antisymm hi (Nat.le_of_not_lt hlt)
      have hlt' : ¬ (i : Int) < (i : Int) := Int.lt_irrefl _
      have HA := Lib.hid (show allB s xs = true by have := HS.out.1; rwa [List.take_of_length_le (by rw [HXl.out]; exact Nat.le_refl _)] at this)
      have HW := Lib.hid (show twiceB xs = false by unfold twiceB; rw [HXl.out]; exact HS.out.2)
      have HS2 := Lib.hid (show storeB k s c xs = (sb && decide ((i : Int) ≤ c)) by rw [HST.out, HA.out, HW.out, HXl.out]; simp)
      have Q := Lib.hid (Q.out.keep HB.out)
      clear r0 r1 r2 r3
      obtain ⟨r0, r1, r2, r3, -, -, -, -⟩ := Q.out.four
      cases sb with
      | false =>
        go_wp2_with fail
        refine (HSZ.out _).mono ?_
        rintro e w1 ⟨rfl, rfl⟩
        go_wp2_with fail
        go_ret
        exact ⟨by rw [HS2.out]; rfl, chain HB0.out HB.out⟩
      | true =>
        by_cases hic : (i : Int) ≤ c
        · have t : decide ((i : Int) ≤ c) = true := decide_eq_true hic
          rw [t] at HS2
          go_wp2_with fail
          refine (HSZ.out _).mono ?_
          rintro e w1 ⟨rfl, rfl⟩
          go_wp2_with fail
          go_ret
          exact ⟨by rw [HS2.out]; rfl, chain HB0.out HB.out⟩
        · have t : decide ((i : Int) ≤ c) = false := decide_eq_false hic
          rw [t] at HS2
          go_wp2_with fail
          refine (HSZ.out _).mono ?_
          rintro e w1 ⟨rfl, rfl⟩
          go_wp2_with fail
          go_ret
          exact ⟨by rw [HS2.out]; rfl, chain HB0.out HB.out⟩
def whyI (s c : Int) (xs : List SymR) (x : SymR) : Int := if (x.2.size : Int) != s then 2 else if hasI xs x.1 then 8 else if (xs.length : Int) == c then 7 else 0
end
end Go.Proofs.YtmfhimeffmpgaaaGreat
