/- Parts: BorderM, MrM, Ms6, MrX0, Mat9, MtH. -/
import Derived.Test.YtljooknodnblbaaDoorZg
namespace Go.Proofs.YtljooknodnblbaaDoor
section
/- Sums of blocks do not hang on order; what stands there twice is out of it; what two rows' Xor picks. No program. -/
set_option linter.unusedVariables false
set_option linter.unusedSimpArgs false
/-- Byte i of a sum. -/
def xorAt (i : Nat) : List ByteArray → UInt8
  | [] => 0
  | s :: L => s.data.toList.getD i 0 ^^^ xorAt i L
theorem xorAt_append (i : Nat) (A B : List ByteArray) : xorAt i (A ++ B) = xorAt i A ^^^ xorAt i B := by
  induction A with
  | nil => simp [xorAt]
  | cons a A ih => simp only [List.cons_append, xorAt, ih, UInt8.xor_assoc]
theorem foldl_at (n i : Nat) (L : List ByteArray) : ∀ acc : List UInt8, acc.length = n → i < n → (L.foldl (fun acc s => bxL acc s.data.toList) acc).getD i 0 = acc.getD i 0 ^^^ xorAt i L := by
  induction L with
  | nil => intro acc _ _; simp [xorAt]
  | cons s L ih =>
    intro acc hl hi
    rw [List.foldl_cons, ih _ (by rw [xorL_length, hl]) hi, bxL_get _ _ _ (by omega), xorAt, UInt8.xor_assoc]
theorem sumL_at (n i : Nat) (L : List ByteArray) (hi : i < n) : (sumL n L).getD i 0 = xorAt i L := by
  unfold sumL
  rw [foldl_at n i L _ (by simp) hi]
  simp [List.getD, hi]
theorem sumL_ext (n : Nat) (A B : List ByteArray) (h : ∀ i, i < n → xorAt i A = xorAt i B) : sumL n A = sumL n B := by
  apply List.ext_getElem (by rw [sumL_length, sumL_length])
  intro i h1 h2
  have hi : i < n := by rwa [sumL_length] at h1
  have e1 := sumL_at n i A hi
  have e2 := sumL_at n i B hi
  simp only [List.getD, List.getElem?_eq_getElem h1, List.getElem?_eq_getElem h2, Option.getD_some] at e1 e2
  rw [e1, e2, h i hi]
theorem sum_turned (n k : Nat) (L : List ByteArray) : sumL n (L.drop k ++ L.take k) = sumL n L := by
  refine sumL_ext n _ _ fun i _ => ?_
  rw [xorAt_append, UInt8.xor_comm, ← xorAt_append, List.take_append_drop]
theorem sum_twice (n : Nat) (s : ByteArray) (L : List ByteArray) : sumL n (s :: s :: L) = sumL n L := by
  refine sumL_ext n _ _ fun i _ => ?_
  simp only [xorAt]
  rw [← UInt8.xor_assoc, UInt8.xor_self, UInt8.zero_xor]
theorem xorAt_picks (i : Nat) (ss : List ByteArray) (us vs : List Nat) (hl : us.length = vs.length) (m : Nat) (hm : m ≤ 64 * us.length) :
    xorAt i (picks ss (plcN (xorL us vs) m)) = xorAt i (picks ss (plcN us m)) ^^^ xorAt i (picks ss (plcN vs m)) := by
  induction m with
  | zero => simp [plcN, picks, xorAt]
  | succ m ih =>
    have ih := ih (by omega)
    have hx : (bitAt (xorL us vs) m == 1) = _ := zip_bit (· ^^^ ·) us vs m (by omega) (by omega)
    rw [Nat.testBit_xor, ← bitAt_test, ← bitAt_test] at hx
    have hp : ∀ (ps : List Nat) (b : List Nat), picks ss (ps ++ b) = picks ss ps ++ picks ss b := fun ps b => by simp [picks]
    rw [plcN_succ, plcN_succ, plcN_succ, hp, hp, hp, xorAt_append, xorAt_append, xorAt_append, ih]
    generalize xorAt i (picks ss (plcN us m)) = x
    generalize xorAt i (picks ss (plcN vs m)) = y
    have e1 : xorAt i (picks ss [m]) = (ss.getD m ByteArray.empty).data.toList.getD i 0 := by simp [picks, xorAt]
    have e0 : xorAt i (picks ss []) = 0 := by simp [picks, xorAt]
    rcases bitAt_le us m with b1 | b1 <;> rcases bitAt_le vs m with b2 | b2 <;> rcases bitAt_le (xorL us vs) m with b3 | b3 <;> simp [b1, b2, b3] at hx
    · simp only [b1, b2, b3, e0, if_false, Nat.zero_ne_one, UInt8.xor_zero]
    · simp only [b1, b2, b3, e0, e1, if_false, if_true, Nat.zero_ne_one, UInt8.xor_zero, UInt8.xor_assoc]
    · simp only [b1, b2, b3, e0, e1, if_false, if_true, Nat.zero_ne_one, UInt8.xor_zero]
      generalize (ss.getD m ByteArray.empty).data.toList.getD i 0 = z
      rw [UInt8.xor_assoc, UInt8.xor_assoc, UInt8.xor_comm y z]
    · simp only [b1, b2, b3, e0, e1, if_false, if_true, Nat.zero_ne_one, UInt8.xor_zero]
      generalize (ss.getD m ByteArray.empty).data.toList.getD i 0 = z
      rw [UInt8.xor_assoc x z, ← UInt8.xor_assoc z y z, UInt8.xor_comm z y, UInt8.xor_assoc y z z, UInt8.xor_self, UInt8.xor_zero]
/-- The xor of two picks is the pick of the rows' Xor. -/
theorem sum_both (n : Nat) (ss : List ByteArray) (us vs : List Nat) (hl : us.length = vs.length) (m : Nat) (hm : m ≤ 64 * us.length) :
    sumL n [⟨(sumL n (picks ss (plcN us m))).toArray⟩, ⟨(sumL n (picks ss (plcN vs m))).toArray⟩] = sumL n (picks ss (plcN (xorL us vs) m)) := by
  refine sumL_ext n _ _ fun i hi => ?_
  rw [xorAt_picks i ss us vs hl m hm]
  simp only [xorAt]
  rw [UInt8.xor_zero]
  have e1 := sumL_at n i (picks ss (plcN us m)) hi
  have e2 := sumL_at n i (picks ss (plcN vs m)) hi
  rw [← e1, ← e2]
end
section
/- Mathematics of matrices turned, multiplied and applied. -/
set_option linter.unusedVariables false
set_option linter.unusedSimpArgs false
theorem ofBits_has (n : Nat) (l : List Nat) (p : Nat) (hp : p / 64 < nw n) : bitAt (ofBits n (castP l)) p = 1 ↔ p ∈ l := by
  have h : (bitAt (ofBits n (castP l)) p == 1) = (castP l).any fun q => q.toNat / 64 == p / 64 && q.toNat % 64 == p % 64 := by
    rw [bitAt_test, ofBits_test n _ _ _ hp]
  rw [← beq_iff_eq, h, List.any_eq_true]
  constructor
  · rintro ⟨q, hq, e⟩
    obtain ⟨r, hr, rfl⟩ := List.mem_map.1 hq
    simp only [Bool.and_eq_true, beq_iff_eq, Int.toNat_natCast] at e
    obtain rfl : r = p := by omega
    exact hr
  · intro hpl
    exact ⟨(p : Int), List.mem_map.2 ⟨p, hpl, rfl⟩, by simp⟩
theorem right_ofBits (n : Nat) (l : List Nat) (hl : ∀ p ∈ l, p < n) (hn : lmb (n : Int) = true) : rightB (n : Int) (ofBits n (castP l)) = true := by
  refine right_of_bits n _ _ hn rfl (ofBits_len n _) (ofBits_lt n _) fun i h1 h2 => ?_
  rw [ofBits_len] at h2
  rcases bitAt_le (ofBits n (castP l)) i with h | h
  · exact h
  · have := hl i ((ofBits_has n l i (by omega)).1 h)
    omega
theorem bit_iff {x y : Nat} (hx : x = 0 ∨ x = 1) (hy : y = 0 ∨ y = 1) (h : x = 1 ↔ y = 1) : x = y := by
  rcases hx with h1 | h1 <;> rcases hy with h2 | h2 <;> simp [h1, h2] at h ⊢
theorem colP_mem (ms : List (Int × List Nat)) (i k p : Nat) : p ∈ colP ms i k ↔ p < k ∧ mbit ms p i = 1 := by simp [colP]
theorem colW_bit (ms : List (Int × List Nat)) (i j : Nat) (hj : j < ms.length) : bitAt (colW ms i) j = mbit ms j i := by
  refine bit_iff (bitAt_le _ _) (mbit_le _ _ _) ?_
  unfold colW
  rw [ofBits_has _ _ _ (by unfold nw; omega), colP_mem]
  exact ⟨fun h => h.2, fun h => ⟨hj, h⟩⟩
theorem colW_right (ms : List (Int × List Nat)) (i : Nat) (h : ms.length ≤ 64) : rightB (ms.length : Int) (colW ms i) = true :=
  right_ofBits _ _ (fun _ hp => colP_lt hp) ((lmb_iff _).2 ⟨by omega, by omega⟩)
theorem turnM_lenM (n : Nat) (ms : List (Int × List Nat)) : (turnM n ms).length = n := by simp [turnM]
theorem turnM_at (n : Nat) (ms : List (Int × List Nat)) (i : Nat) (h : i < n) : (turnM n ms).getD i (0, []) = ((ms.length : Int), colW ms i) := by simp [turnM, List.getD, h]
theorem rightM_of {N : Nat} {ms : List (Int × List Nat)} (hN : N ≤ 64) (hl : ms.length ≤ 64) (h : ∀ i, i < ms.length → (ms.getD i (0, [])).1 = N ∧ rightB N (ms.getD i (0, [])).2 = true) : rightM N ms = true := by
  simp only [rightM, Bool.and_eq_true, decide_eq_true_eq]
  refine ⟨⟨(smb_iff N).2 ⟨by omega, by omega⟩, hl⟩, ?_⟩
  unfold rowsB
  rw [List.all_eq_true]
  intro r hr
  obtain ⟨i, hi, rfl⟩ := List.mem_iff_getElem.1 hr
  have := h i hi
  rw [show ms.getD i (0, []) = ms[i] by simp [List.getD, hi]] at this
  rw [this.1, this.2]; simp
theorem turnM_right (n : Nat) (ms : List (Int × List Nat)) (hn : n ≤ 64) (h : ms.length ≤ 64) : rightM ms.length (turnM n ms) = true := by
  refine rightM_of h (by rw [turnM_lenM]; exact hn) fun i hi => ?_
  rw [turnM_lenM] at hi
  rw [turnM_at n ms i hi]
  exact ⟨rfl, colW_right ms i h⟩
theorem mat_ext {ms ks : List (Int × List Nat)} (hl : ms.length = ks.length) (h : ∀ i, i < ms.length → ms.getD i (0, []) = ks.getD i (0, [])) : ms = ks := by
  apply List.ext_getElem hl
  intro i h1 h2
  have := h i h1
  simpa [List.getD, h1, h2] using this
theorem turnM_ltM (n : Nat) (ms : List (Int × List Nat)) (i j : Nat) : (((turnM n ms).getD i (0, [])).2).getD j 0 < 18446744073709551616 := by
  by_cases h : i < n
  · rw [turnM_at n ms i h]; exact ofBits_lt _ _ j
  · have e : (turnM n ms)[i]? = none := List.getElem?_eq_none (by rw [turnM_lenM]; omega)
    simp [List.getD, e]
theorem turn_turn {n : Nat} {ms : List (Int × List Nat)} (hr : rightM n ms = true) (hz : ∀ i j, ((ms.getD i (0, [])).2).getD j 0 < 18446744073709551616) : turnM ms.length (turnM n ms) = ms := by
  have hbd := rightM_bd hr
  refine mat_ext (turnM_lenM _ _) fun j hj => ?_
  rw [turnM_lenM] at hj
  rw [turnM_at _ _ j hj]
  obtain ⟨h1, h2⟩ := rightM_at hr j hj
  have hlen := turnM_lenM n ms
  have : colW (turnM n ms) j = (ms.getD j (0, [])).2 := by
    have hcr := colW_right (turnM n ms) j (by rw [hlen]; omega)
    rw [hlen] at hcr
    refine right_ext hcr h2 (fun i => ofBits_lt _ _ i) (hz j) fun i hi => ?_
    rw [colW_bit _ _ _ (by rw [hlen]; exact hi)]
    show bitAt ((turnM n ms).getD i (0, [])).2 j = _
    rw [turnM_at n ms i hi]
    exact colW_bit ms i j hj
  rw [this, hlen, ← h1]
theorem oneL_atM (n i : Nat) (h : i < n) : (oneL n).getD i (0, []) = ((n : Int), ofBits n [(i : Int)]) := by simp [oneL, List.getD, h]
theorem one_right (n : Nat) (hn : n ≤ 64) : rightM n (oneL n) = true := by
  refine rightM_of hn (by rw [oneL_len]; exact hn) fun i hi => ?_
  rw [oneL_len] at hi
  rw [oneL_atM n i hi]
  exact ⟨rfl, right_ofBits n [i] (by simp; exact hi) ((lmb_iff n).2 ⟨by omega, by omega⟩)⟩
theorem one_bit (n k i : Nat) (hk : k < n) (hi : i < n) : mbit (oneL n) k i = if k = i then 1 else 0 := by
  have e : mbit (oneL n) k i = bitAt (ofBits n (castP [k])) i := by
    unfold mbit; rw [oneL_atM n k hk]; rfl
  rw [e]
  refine bit_iff (bitAt_le _ _) (by split <;> simp) ?_
  rw [ofBits_has _ _ _ (by unfold nw; omega)]
  by_cases h : k = i
  · simp [h]
  · simp [h]; omega
theorem psum_one (n : Nat) (us : List Nat) (i : Nat) (hi : i < n) : ∀ k, k ≤ n → psum us (oneL n) i k = if i < k then bitAt us i else 0
  | 0, _ => by simp [psum]
  | k + 1, hk => by
    simp only [psum]
    rw [psum_one n us i hi k (by omega), one_bit n k i (by omega) hi]
    by_cases h : k = i
    · subst h
      simp
    · by_cases h2 : i < k
      · simp [h, h2, show i < k + 1 by omega]
      · simp [h, h2, show ¬ i < k + 1 by omega]
theorem mul_one {n : Nat} {ms : List (Int × List Nat)} (hr : rightM n ms = true) (hz : ∀ i j, ((ms.getD i (0, [])).2).getD j 0 < 18446744073709551616) : mulM n (oneL n) ms = ms := by
  have hbd := rightM_bd hr
  refine mat_ext (mulM_len _ _ _) fun j hj => ?_
  rw [mulM_len] at hj
  rw [mulM_at _ _ _ j hj]
  obtain ⟨h1, h2⟩ := rightM_at hr j hj
  have h1r := one_right n (by omega)
  have : mulW n (oneL n) (ms.getD j (0, [])).2 = (ms.getD j (0, [])).2 := by
    refine right_ext (mulW_right h1r _) h2 (mulW_lt n (oneL_lt n) _) (hz j) fun i hi => ?_
    rw [mulW_bit h1r _ i hi, oneL_len, psum_one n _ i hi n (Nat.le_refl _), if_pos hi]
    rcases bitAt_le (ms.getD j (0, [])).2 i with h | h <;> rw [h]
  rw [this, ← h1]
theorem mulM_right {m : Nat} {ks : List (Int × List Nat)} (hr : rightM m ks = true) (ms : List (Int × List Nat)) (hl : ms.length ≤ 64) : rightM m (mulM m ks ms) = true := by
  have hbd := rightM_bd hr
  refine rightM_of (by omega) (by rw [mulM_len]; exact hl) fun i hi => ?_
  rw [mulM_len] at hi
  rw [mulM_at _ _ _ i hi]
  exact ⟨rfl, mulW_right hr _⟩
theorem psum_swap (us vs : List Nat) (ms ks : List (Int × List Nat)) (i j : Nat) (K : Nat) (h : ∀ t, t < K → bitAt us t * mbit ks t j = bitAt vs t * mbit ms t i) : psum us ks j K = psum vs ms i K := by
  induction K with
  | zero => rfl
  | succ K ih =>
    simp only [psum]
    rw [ih fun t ht => h t (by omega), h K (by omega)]
theorem mul_turn {n m : Nat} {ms ks : List (Int × List Nat)} (hr : rightM n ms = true) (hr2 : rightM m ks = true) (hn : n = ks.length) (hz2 : ∀ i j, ((ks.getD i (0, [])).2).getD j 0 < 18446744073709551616) :
    turnM m (mulM m ks ms) = mulM ms.length (turnM n ms) (turnM m ks) := by
  have hbd := rightM_bd hr
  have hbd2 := rightM_bd hr2
  refine mat_ext (by rw [turnM_lenM, mulM_len, turnM_lenM]) fun j hj => ?_
  rw [turnM_lenM] at hj
  rw [turnM_at _ _ j hj, mulM_at _ _ _ j (by rw [turnM_lenM]; exact hj), turnM_at m ks j hj, mulM_len]
  have htr := turnM_right n ms (by omega) hbd.2.2
  have hml := mulM_len m ks ms
  congr 1
  have hcr := colW_right (mulM m ks ms) j (by rw [hml]; exact hbd.2.2)
  rw [hml] at hcr
  refine right_ext hcr (mulW_right htr _) (fun i => ofBits_lt _ _ i) (mulW_lt _ (turnM_ltM n ms) _) fun i hi => ?_
  rw [colW_bit _ _ _ (by rw [hml]; exact hi), mulW_bit htr _ i hi, turnM_lenM]
  show bitAt ((mulM m ks ms).getD i (0, [])).2 j = _
  rw [mulM_at _ _ _ i hi, mulW_bit hr2 _ j hj, ← hn]
  congr 1
  refine psum_swap _ _ _ _ _ _ _ fun t ht => ?_
  rw [colW_bit ks j t (by omega)]
  have : mbit (turnM n ms) t i = bitAt (ms.getD i (0, [])).2 t := by
    show bitAt ((turnM n ms).getD t (0, [])).2 i = _
    rw [turnM_at n ms t ht]
    exact colW_bit ms t i hi
  rw [this, Nat.mul_comm]
theorem plcN_zeros (n m : Nat) : plcN (List.replicate n 0) m = [] := by
  unfold plcN
  rw [List.filter_eq_nil_iff]
  intro p _
  rw [bitAt_zeros]; simp
theorem xorAt_rows {n m b : Nat} {ks : List (Int × List Nat)} {ss x : List ByteArray} (hr : rightM m ks = true) (hx : ∀ p, p < ks.length → (x.getD p ByteArray.empty).data.toList.getD b 0 = xorAt b (picks ss (plcN (ks.getD p (0, [])).2 m))) (ps : List Nat) (hp : ∀ p ∈ ps, p < ks.length) (acc : List Nat) (ha : rightB (m : Int) acc = true) :
    xorAt b (picks ss (plcN (xrowsF ks acc ps) m)) = xorAt b (picks ss (plcN acc m)) ^^^ xorAt b (picks x ps) := by
  induction ps generalizing acc with
  | nil => simp [xrowsF, picks, xorAt]
  | cons p ps ih =>
    have hp0 := (rightM_at hr p (hp p (List.mem_cons_self ..))).2
    have e : xrowsF ks acc (p :: ps) = xrowsF ks (xorL acc (ks.getD p (0, [])).2) ps := rfl
    have l1 := right_len_eq ha
    have l2 := right_len_eq hp0
    have hm : m ≤ 64 * acc.length := by
      rw [l1, Int.toNat_natCast]; unfold nw; omega
    rw [e, ih (fun q hq => hp q (List.mem_cons_of_mem _ hq)) _ (right_xor ha hp0), xorAt_picks b ss acc _ (by rw [l1, l2]) m hm]
    have e2 : picks x (p :: ps) = x.getD p ByteArray.empty :: picks x ps := rfl
    rw [e2, xorAt, hx p (hp p (List.mem_cons_self ..)), UInt8.xor_assoc]
theorem pickS_ok {n m : Nat} {ss : List ByteArray} {us : List Nat} (ho : okS n ss = true) (hl : ss.length = m) (hr : rightB (m : Int) us = true) : pickS n ss m us = ⟨(sumL n (picks ss (plcN us m))).toArray⟩ := by
  have e : ((m : Int) == (ss.length : Int)) = true := by simp [hl]
  have h2 := okS_picks ho us
  rw [hl] at h2
  unfold pickS
  rw [ho, hr, e]
  simp only [Bool.and_self, if_true, Int.toNat_natCast, sumS, h2]
theorem appR_ok {n m : Nat} {ks : List (Int × List Nat)} {ss : List ByteArray} (ho : okS n ss = true) (hl : ss.length = m) (hr : rightM m ks = true) : okS n (appR n m ks ss) = true := by
  have h := ho
  simp only [okS, Bool.and_eq_true, decide_eq_true_eq] at h ⊢
  refine ⟨⟨h.1.1, ?_⟩, by rw [appR_len]; exact (rightM_bd hr).2.2⟩
  unfold allL
  rw [List.all_eq_true]
  intro s hs
  obtain ⟨i, hi, rfl⟩ := List.mem_iff_getElem.1 hs
  have hi2 : i < ks.length := by rw [appR_len] at hi; exact hi
  have e : (appR n m ks ss)[i] = appF n m ks ss i := by
    have := appR_at n m ks ss i hi2
    simpa [List.getD, hi] using this
  rw [e, appF, pickS_ok ho hl (rightM_at hr i hi2).2]
  show (((sumL n _).toArray.size : Nat) : Int) == n
  rw [List.size_toArray, sumL_length]; simp
theorem apply_mul {n k m : Nat} {ms ks : List (Int × List Nat)} {ss : List ByteArray} (hr : rightM k ms = true) (hr2 : rightM m ks = true) (hk : ks.length = k) (ho : okS n ss = true) (hl : ss.length = m) :
    appR n m (mulM m ks ms) ss = appR n k ms (appR n m ks ss) := by
  have hbd := rightM_bd hr
  apply List.ext_getElem
  · rw [appR_len, appR_len, mulM_len]
  · intro i h1 h2
    have hi : i < ms.length := by rw [appR_len, mulM_len] at h1; exact h1
    have e1 := appR_at n m (mulM m ks ms) ss i (by rw [mulM_len]; exact hi)
    have e2 := appR_at n k ms (appR n m ks ss) i hi
    simp only [List.getD, List.getElem?_eq_getElem h1, List.getElem?_eq_getElem h2, Option.getD_some] at e1 e2
    rw [e1, e2, appF, appF, mulM_at _ _ _ i hi, pickS_ok ho hl (mulW_right hr2 _), pickS_ok (appR_ok ho hl hr2) (by rw [appR_len]; exact hk) (rightM_at hr i hi).2]
    congr 2
    refine sumL_ext n _ _ fun b hb => ?_
    unfold mulW xrows
    rw [xorAt_rows (n := n) (x := appR n m ks ss) hr2 (fun p hp => ?_) _ plc_lt _ (right_zeros m (rightM_lmb hr2)), plcN_zeros, hk]
    · simp [picks, xorAt]
    · rw [appR_at n m ks ss p hp, appF, pickS_ok ho hl (rightM_at hr2 p hp).2]
      exact sumL_at n b _ hb
end
section
/- Layer 3's reference: Apply; law 03's blocks. -/
set_option linter.unusedVariables false
set_option linter.unusedSimpArgs false
open Go.RowKit
theorem appF_sum {n k : Nat} {ms : List (Int × List Nat)} {ss : List ByteArray} (hr : rightM k ms = true) (ho : okS n ss = true) (hk : ss.length = k) (i : Nat) (hi : i < ms.length) : appF n k ms ss i = ⟨(bsums ss (bitsL (ms.getD i (0, [])).2 k) k n).toArray⟩ := by
  have h := (rightM_at hr i hi).2
  have e : ((k : Int) == (ss.length : Int)) = true := by simp [hk]
  have h2 := okS_picks ho (ms.getD i (0, [])).2
  rw [hk] at h2
  unfold appF pickS
  rw [ho, h, e, bsums_bits]
  simp only [Bool.and_self, if_true, Int.toNat_natCast, sumS, h2]
set_option maxHeartbeats 2000000 in
theorem refApply_any (n k : Nat) (A : Option Addr) (l c lo : Nat) (ms : List (Int × List Nat)) (L : Option Addr) (d : Nat) (ss : List ByteArray) (w : World) (hm : MatAt w lo A l ms) (hr : rightM k ms = true) (ht : Texts w L k ss) (ho : okS n ss = true) :
    Calls Tryd.prog 15 #[.agg #[.int .i64 k, .slice A l c], .int .i64 n, .slice L k d] w (TextsOut (appR n k ms ss) w) := by
  obtain ⟨i0, hi, hz0, hz1, hz2⟩ := info_parts string_info
  have HI := Lib.hid hi
  have HZ0 := Lib.hid hz0
  have HZ1 := Lib.hid hz1
  have HZ2 := Lib.hid hz2
  clear hi hz0 hz1 hz2
  have hbd := rightM_bd hr
  have hl64 := hbd.2.2
  have hk64 := hbd.2.1
  rw [hm.1] at hl64
  have HM := Lib.hid hm
  have HTx := Lib.hid ht
  have HL := Lib.hid hm.1
  have HK := Lib.hid ht.1
  have HR := Lib.hid hr
  have HO0 := Lib.hid ho
  have hn64 : n ≤ 64 := by
    have h := ho
    simp only [okS, Bool.and_eq_true] at h
    have := (smb_iff n).1 h.1.1
    omega
  have HSz := Lib.hid (fun j (hj : j < k) => okS_at ho j (by rw [ht.1]; exact hj))
  have HRL := Lib.hid (show (appR n k ms ss).length = l by rw [appR_len, hm.1])
  have q0 := (Box.new w 24 #[.int .i64 k, .slice A l c]).alloc (.cells #[] 9)
  have Q0 := Lib.hid q0
  have ho2 := own_empty (w.alloc (.cells #[.int .i64 k, .slice A l c] 24)) w.heap.size 9 (by simp)
  simp only [World.size_alloc] at ho2
  have HOw := Lib.hid ho2
  have HW := Lib.hid (show Below w.heap.size w ((w.alloc (.cells #[.int .i64 k, .slice A l c] 24)).alloc (.cells #[] 9)) from ((Below.refl _ _).alloc (Nat.le_refl _) _).alloc (by simp) _)
  obtain ⟨r0, r1, -, -⟩ := q0.two
  clear q0 ho2 hm hr ht ho hbd
  go_enter Tryd.func15, Tryd.ntmps15
  go_wp2_with fail
  clear r0 r1
  go_loopw [7, 14] (fun v t wr => ∃ i : Nat, i ≤ l ∧ t = .int .i64 i ∧ wr.ownsRow w.heap.size 9 1 v i (((appR n k ms ss).take i).map Value.string) ∧ Below w.heap.size w wr) (fun _ t _ => l - (intOf t).toNat)
  case atStart => exact ⟨0, by omega, rfl, HOw.out, HW.out⟩
  case round =>
    obtain ⟨i, hi, rfl, hown, hbel⟩ := hrel
    have HO := Lib.hid hown
    have HB := Lib.hid hbel
    clear hown hbel Q0 HOw HW
    by_cases hlt : i < l
    · have hlt' : (i : Int) < (l : Int) := by omega
      obtain ⟨g1, o1, B1, k1, e1, rfl, hg1, x1, y1, s1, u1⟩ := (HM.out.mono (Nat.le_refl _) HB.out).at i hlt
      obtain ⟨hN, hrr⟩ := rightM_at HR.out i (by rw [HL.out]; exact hlt)
      rw [hN] at x1
      have hk1 := right_has64 hrr
      rw [u1.1] at hk1
      have hk8 := rightB_len8 hrr u1.1
      have HTK := Lib.hid (show (appR n k ms ss).take (i + 1) = (appR n k ms ss).take i ++ [⟨(bsums ss (bitsL (ms.getD i (0, [])).2 k) k n).toArray⟩] by
        rw [take_one (appR n k ms ss) i ByteArray.empty (by rw [HRL.out]; exact hlt), appR_at n k ms ss i (by rw [HL.out]; exact hlt), appF_sum HR.out HO0.out HK.out i (by rw [HL.out]; exact hlt)])
      have XO := Lib.hid (HO.out.alloc (.cells #[.int .i64 k, .slice B1 k1 e1] 45))
      have XB := Lib.hid (HB.out.alloc HB.out.size (.cells #[.int .i64 k, .slice B1 k1 e1] 45))
      have HBi := Lib.hid (refBits_any k B1 k1 e1 (ms.getD i (0, [])).2 _ hk1 (by omega) (u1.alloc (.cells #[.int .i64 k, .slice B1 k1 e1] 45)))
      obtain ⟨p0, p1, -, -⟩ := (Box.new wr 45 #[.int .i64 k, .slice B1 k1 e1]).two
      clear hN hrr s1 u1
      generalize bitsL (ms.getD i (0, [])).2 k = zs at *
      go_wp2_with fail
      refine HBi.out.mono ?_
      rintro e x2 ⟨A9, c9, rfl, hz, hb⟩
      have XO := Lib.hid (own_keep XO.out hb)
      have XB := Lib.hid (chainN XB.out XB.out.size hb)
      have HS := Lib.hid (refSum_any n hn64 L A9 k d k c9 ss zs x2 (HTx.out.mono (Nat.le_refl _) XB.out) hz (by omega) (Nat.le_refl _) (by omega) (fun j hj => by have := HSz.out j hj; omega))
      clear hb hz p0 p1 HBi
      generalize hse : (⟨(bsums ss zs k n).toArray⟩ : ByteArray) = s at *
      clear hse
      go_wp2_with fail
      refine HS.out.mono ?_
      rintro e x3 ⟨rfl, hb⟩
      have XO := Lib.hid ((own_keep XO.out hb).alloc (.cells #[.string s] 9))
      have XB1 := Lib.hid (chainN XB.out XB.out.size hb)
      have XB := Lib.hid (XB1.out.alloc XB1.out.size (.cells #[.string s] 9))
      have N2 := Lib.hid (fun k hk => (XO.out.lt k hk).1)
      clear hb
      have hi' := HI.out
      have hz0' := HZ0.out
      have hz1' := HZ1.out
      have hz2' := HZ2.out
      go_wp2_with (at_builtin; refine wpList_append_own _ rfl _ _ 25 rfl w.heap.size 9 i0 (.string ⟨#[]⟩) 1 16 Tryd.underlying25 hi' hz0' hz1' hz2' rfl (by decide) _ _ _ rfl XO.out ⟨x3.heap.size, 0, none⟩ 1 1 [.string s] rfl rfl (cell_one_new _ _ _) (by simp [Value.oneCell']) (by simp [maxLen]; omega) (by omega) XB.out.size ?_; intro v' w1 hown' hgrow _; have HC := Lib.hid (XB.out.grown hgrow XB.out.size N2.out); have HO2 := Lib.hid hown'; clear hown' hgrow)
      go_roundw
      case rel =>
        refine ⟨i + 1, by omega, by go_num, ?_, HC.out⟩
        rw [HTK.out, List.map_append]
        exact HO2.out
      case measure => simp [intOf] <;> omega
    · obtain rfl : l = i := by omega
      have hlt' : ¬ (l : Int) < (l : Int) := by omega
      have HTK := Lib.hid (show (appR n k ms ss).take l = appR n k ms ss from List.take_of_length_le (by rw [HRL.out]; omega))
      rw [HTK.out] at HO
      obtain ⟨A', c', rfl, q1, q2, q3⟩ := own_texts HO.out (appR_le n k ms ss)
      go_wp2
      go_ret
      exact ⟨A', c', by rw [HRL.out]; rfl, by rw [HRL.out]; exact q1, q2, by rw [HRL.out]; exact q3, HB.out⟩
/-- The first 66 texts, 70 bytes each. -/
theorem cutB_min (s : ByteArray) (m : Nat) (hm : (m : Int) = if (70 : Int) < (s.size : Int) then 70 else (s.size : Int)) : s.extract 0 m = cutB s := by
  unfold cutB
  congr 1
  split at hm <;> omega
set_option maxHeartbeats 2000000 in
theorem blocks3_some (ad : Addr) (l c kk : Nat) (ss : List ByteArray) (w : World) (ht : Texts w (some ad) l ss) (hk : kk = min l 66) (hlc : l ≤ c) (hcm : c ≤ maxLen) : Calls Tryd.prog 6 #[.slice (some ad) l c] w (TextsOut (cuts ss kk) w) := by
  obtain ⟨i0, hi, hz0, hz1, hz2⟩ := info_parts string_info
  have hlen := Lib.hid ht.1
  have HT := Lib.hid ht
  clear ht
  have HI := Lib.hid hi
  have HZ0 := Lib.hid hz0
  have HZ1 := Lib.hid hz1
  have HZ2 := Lib.hid hz2
  clear hi hz0 hz1 hz2
  unfold maxLen at hcm
  have hkk1 : kk ≤ l := by omega
  have hkk2 : kk ≤ 66 := by omega
  have hkk3 : kk ≤ c := by omega
  have mkk : (if (66 : Int) < (l : Int) then 66 else (l : Int)) = (kk : Int) := by split <;> omega
  clear hk
  go_enter Tryd.func6, Tryd.ntmps6
  go_wp2_with fail
  clear mkk
  go_loopw [3, 12] (fun v t wr => ∃ i : Nat, i ≤ kk ∧ t = .int .i64 i ∧ wr.ownsRow w.heap.size 9 1 v i ((cuts ss i).map Value.string) ∧ Below w.heap.size w wr)
    (fun _ t _ => kk - (intOf t).toNat)
  case atStart => exact ⟨0, by omega, rfl, ⟨by simp [cuts], .inl ⟨rfl, rfl⟩⟩, Below.refl _ _⟩
  case round =>
    obtain ⟨i, hi, rfl, hown, hbel⟩ := hrel
    have HO := Lib.hid hown
    have HB := Lib.hid hbel
    clear hown hbel
    by_cases hlt : i < kk
    · have hlt' : (i : Int) < (kk : Int) := by omega
      obtain ⟨b, off, hA, hb, hc⟩ := HT.out.2.2 (by omega)
      obtain rfl := Option.some.inj hA
      have c1 : wr.cell? ⟨b, off + i, none⟩ = some (.string (ss.getD i ByteArray.empty)) := (HB.out.cell (p := ⟨b, off + i, none⟩) hb).trans (hc i (by omega))
      have hm := HT.out.2.1 i
      have HS := Lib.hid (cuts_succ ss i (by rw [hlen.out]; omega))
      generalize ss.getD i ByteArray.empty = s at *
      unfold maxLen at hm
      obtain ⟨m, em⟩ : ∃ m, m = min s.size 70 := ⟨_, rfl⟩
      have hm1 : m ≤ s.size := by omega
      have hm2 : m ≤ 70 := by omega
      have mm : (if (70 : Int) < (s.size : Int) then 70 else (s.size : Int)) = (m : Int) := by split <;> omega
      have HE := Lib.hid (cutB_min s m mm.symm)
      have hi' := HI.out
      have hz0' := HZ0.out
      have hz1' := HZ1.out
      have hz2' := HZ2.out
      clear hc em
      have XO := Lib.hid (HO.out.alloc (.cells #[.string (s.extract 0 m)] 9))
      have XB := Lib.hid (HB.out.alloc HB.out.size (.cells #[.string (s.extract 0 m)] 9))
      have N2 := Lib.hid (fun k hk => (HO.out.lt k hk).1)
      go_wp2_with (at_builtin; refine wpList_append_own _ rfl _ _ 25 rfl w.heap.size 9 i0 (.string ⟨#[]⟩) 1 16 Tryd.underlying25 hi' hz0' hz1' hz2' rfl (by decide) _ _ _ rfl XO.out ⟨wr.heap.size, 0, none⟩ 1 1 [.string (s.extract 0 m)] rfl rfl (cell_one_new _ _ _) (by simp [Value.oneCell']) (by simp [maxLen]; omega) (by omega) XB.out.size ?_; intro v' w1 hown' hgrow _; have HC := Lib.hid (XB.out.grown hgrow XB.out.size N2.out); have HO2 := Lib.hid hown'; clear hown' hgrow)
      go_roundw
      case rel =>
        refine ⟨i + 1, by omega, by go_num, ?_, HC.out⟩
        rw [HS.out, List.map_append, ← HE.out]
        exact HO2.out
      case measure => simp [intOf] <;> omega
    · obtain rfl : kk = i := by omega
      have hlt' : ¬ (kk : Int) < (kk : Int) := by omega
      have hcl : (cuts ss kk).length = kk := by simp [cuts, hlen.out]; omega
      have HCL := Lib.hid hcl
      clear hcl
      obtain ⟨A', c', rfl, q1, q2, q3⟩ := own_texts HO.out (cuts_le ss _)
      go_wp2
      go_ret
      exact ⟨A', c', by rw [HCL.out]; rfl, by rw [HCL.out]; exact q1, q2, by rw [HCL.out]; exact q3, HB.out⟩
set_option maxHeartbeats 1000000 in
theorem blocks3_none (ss : List ByteArray) (w : World) (ht : Texts w none 0 ss) : Calls Tryd.prog 6 #[.slice none 0 0] w (TextsOut (cuts ss 0) w) := by
  obtain ⟨i0, hi, hz0, hz1, hz2⟩ := info_parts string_info
  go_enter Tryd.func6, Tryd.ntmps6
  go_wp2_with fail
  go_loopw [3, 12] (fun v t wr => v = .slice none 0 0 ∧ t = .int .i64 0 ∧ Below w.heap.size w wr) (fun _ t _ => 0)
  case atStart => exact ⟨rfl, rfl, Below.refl _ _⟩
  case round =>
    obtain ⟨rfl, rfl, hbel⟩ := hrel
    have HB := Lib.hid hbel
    clear hbel
    go_wp2
    go_ret
    have e : cuts ss 0 = [] := by simp [cuts]
    rw [e]
    exact ⟨none, 0, rfl, Nat.le_refl _, Nat.zero_le _, Texts.nil _ _, HB.out⟩
theorem blocks3_any (A : Option Addr) (l c : Nat) (ss : List ByteArray) (w : World) (ht : Texts w A l ss) (hs : SliceOk A l c) : Calls Tryd.prog 6 #[.slice A l c] w (TextsOut (cuts ss 66) w) := by
  cases A with
  | none =>
    obtain ⟨rfl, rfl⟩ := hs.2.2 rfl
    rw [← cuts_all ss 0 ht.1 (by omega)]
    exact blocks3_none ss w ht
  | some ad =>
    have := blocks3_some ad l c (min l 66) ss w ht rfl hs.1 hs.2.1
    by_cases h : l ≤ 66
    · rw [Nat.min_eq_left h] at this
      rw [← cuts_all ss l ht.1 h]; exact this
    · rw [Nat.min_eq_right (by omega)] at this
      exact this
end
section
/- Layer 3's calls where all may be: turned, ones, multiplied, applied. -/
set_option linter.unusedVariables false
set_option linter.unusedSimpArgs false
open Go.RowKit
theorem turn_ok (N : Int) (A : Option Addr) (l c lo : Nat) (ms : List (Int × List Nat)) (w : World) (hm : MatAt w lo A l ms) (hl : l ≤ maxLen) (hr : rightM N ms = true) :
    Calls Tryd.prog 16 #[.agg #[.int .i64 N, .slice A l c]] w (MatRes ms.length (turnM N.toNat ms) 0 w) := by
  have h := turn_any N A l c lo ms w hm hl
  unfold turnN turnL turnE at h
  rw [if_pos hr, if_pos hr, if_pos hr] at h
  exact h
theorem turn_no (N : Int) (A : Option Addr) (l c lo : Nat) (ms : List (Int × List Nat)) (w : World) (hm : MatAt w lo A l ms) (hl : l ≤ maxLen) (hr : rightM N ms = false) :
    Calls Tryd.prog 16 #[.agg #[.int .i64 N, .slice A l c]] w (MatRes 0 [] 1 w) := by
  have h := turn_any N A l c lo ms w hm hl
  unfold turnN turnL turnE at h
  rw [hr] at h
  exact h
theorem toNat_cast {N : Int} (h : 0 ≤ N) : ((N.toNat : Nat) : Int) = N := Int.toNat_of_nonneg h
theorem turnturn_ok (N : Int) (A : Option Addr) (c lo : Nat) (ms : List (Int × List Nat)) (w : World) (hm : MatAt w lo A (turnM N.toNat ms).length (turnM N.toNat ms)) (hr : rightM N ms = true) (hz : ∀ i j, ((ms.getD i (0, [])).2).getD j 0 < 18446744073709551616) :
    Calls Tryd.prog 16 #[.agg #[.int .i64 ms.length, .slice A (turnM N.toNat ms).length c]] w (MatRes N ms 0 w) := by
  have hbd := rightM_bd hr
  obtain ⟨n, rfl⟩ := Int.eq_ofNat_of_zero_le hbd.1
  rw [Int.toNat_natCast] at hm ⊢
  have h := turn_ok ms.length A _ c lo (turnM n ms) w hm (by rw [turnM_lenM]; unfold maxLen; omega) (turnM_right n ms (by omega) hbd.2.2)
  rw [Int.toNat_natCast, turn_turn hr hz, turnM_lenM] at h
  rw [turnM_lenM]
  exact h
theorem one_ok (N : Int) (h0 : 0 ≤ N) (h1 : N ≤ 64) (w : World) : Calls Tryd.prog 17 #[.int .i64 N] w (MatRes N (oneL N.toNat) 0 w) := by
  have h := one_any N w
  have hs : smb N = true := (smb_iff N).2 ⟨h0, h1⟩
  unfold oneN oneM oneE at h
  rw [if_pos hs, if_pos hs, if_pos hs] at h
  exact h
theorem mul_ok (N M : Int) (A : Option Addr) (l c lo : Nat) (ms : List (Int × List Nat)) (B : Option Addr) (k d lo2 : Nat) (ks : List (Int × List Nat)) (w : World) (hm : MatAt w lo A l ms) (hl : l ≤ maxLen) (hm2 : MatAt w lo2 B k ks) (hk : k ≤ maxLen) (hT : TabAt w 0) (hB : mulB N ms M ks = true) :
    Calls Tryd.prog 7 #[.agg #[.int .i64 N, .slice A l c], .agg #[.int .i64 M, .slice B k d]] w (MatRes M (mulM M.toNat ks ms) 0 w) := by
  have h := mul_any N M A l c lo ms B k d lo2 ks w hm hl hm2 hk hT
  have hE : mulE N ms M ks = 0 := by
    have h2 := hB
    simp only [mulB, Bool.and_eq_true] at h2
    simp [mulE, h2.1, h2.2.1, h2.2.2]
  unfold mulN mulL at h
  rw [if_pos hB, if_pos hB, hE] at h
  exact h
theorem mul_no (N M : Int) (A : Option Addr) (l c lo : Nat) (ms : List (Int × List Nat)) (B : Option Addr) (k d lo2 : Nat) (ks : List (Int × List Nat)) (w : World) (hm : MatAt w lo A l ms) (hl : l ≤ maxLen) (hm2 : MatAt w lo2 B k ks) (hk : k ≤ maxLen) (hT : TabAt w 0) (hB : mulB N ms M ks = false) :
    Calls Tryd.prog 7 #[.agg #[.int .i64 N, .slice A l c], .agg #[.int .i64 M, .slice B k d]] w (MatRes 0 [] (mulE N ms M ks) w) := by
  have h := mul_any N M A l c lo ms B k d lo2 ks w hm hl hm2 hk hT
  unfold mulN mulL at h
  rw [hB] at h
  exact h
theorem mulE_ne {N M : Int} {ms ks : List (Int × List Nat)} (hB : mulB N ms M ks = false) : (mulE N ms M ks != 0) = true := by
  unfold mulB at hB
  unfold mulE
  cases h1 : rightM N ms <;> cases h2 : rightM M ks <;> cases h3 : (N == (ks.length : Int)) <;> simp [h1, h2, h3] at hB ⊢
theorem mulone_ok (N : Int) (A : Option Addr) (l c lo : Nat) (ms : List (Int × List Nat)) (A2 : Option Addr) (c2 lo2 : Nat) (w : World) (hm : MatAt w lo A l ms) (hl : l ≤ maxLen) (hm2 : MatAt w lo2 A2 (oneL N.toNat).length (oneL N.toNat)) (hT : TabAt w 0) (hr : rightM N ms = true) (hz : ∀ i j, ((ms.getD i (0, [])).2).getD j 0 < 18446744073709551616) :
    Calls Tryd.prog 7 #[.agg #[.int .i64 N, .slice A l c], .agg #[.int .i64 N, .slice A2 (oneL N.toNat).length c2]] w (MatRes N ms 0 w) := by
  have hbd := rightM_bd hr
  obtain ⟨n, rfl⟩ := Int.eq_ofNat_of_zero_le hbd.1
  rw [Int.toNat_natCast] at hm2 ⊢
  have h := mul_ok n n A l c lo ms A2 _ c2 lo2 (oneL n) w hm hl hm2 (by rw [oneL_len]; unfold maxLen; omega) hT (by simp [mulB, hr, one_right n (by omega), oneL_len])
  rw [Int.toNat_natCast, mul_one hr hz] at h
  exact h
theorem mulB_parts {N M : Int} {ms ks : List (Int × List Nat)} (hB : mulB N ms M ks = true) : rightM N ms = true ∧ rightM M ks = true ∧ N = ks.length := by
  simp only [mulB, Bool.and_eq_true, beq_iff_eq] at hB
  exact hB
theorem mulq_ok (N M : Int) (ms ks : List (Int × List Nat)) (A B : Option Addr) (c d lo lo2 : Nat) (w : World) (hB : mulB N ms M ks = true) (hm : MatAt w lo A (turnM M.toNat ks).length (turnM M.toNat ks)) (hm2 : MatAt w lo2 B (turnM N.toNat ms).length (turnM N.toNat ms)) (hT : TabAt w 0) (hz2 : ∀ i j, ((ks.getD i (0, [])).2).getD j 0 < 18446744073709551616) :
    Calls Tryd.prog 7 #[.agg #[.int .i64 ks.length, .slice A (turnM M.toNat ks).length c], .agg #[.int .i64 ms.length, .slice B (turnM N.toNat ms).length d]] w (MatRes ms.length (turnM M.toNat (mulM M.toNat ks ms)) 0 w) := by
  obtain ⟨hr, hr2, hN⟩ := mulB_parts hB
  have hbd := rightM_bd hr
  have hbd2 := rightM_bd hr2
  obtain ⟨n, rfl⟩ := Int.eq_ofNat_of_zero_le hbd.1
  obtain ⟨m, rfl⟩ := Int.eq_ofNat_of_zero_le hbd2.1
  rw [Int.toNat_natCast] at hm hm2 ⊢
  rw [Int.toNat_natCast]
  have hn : n = ks.length := by omega
  have h := mul_ok ks.length ms.length A _ c lo (turnM m ks) B _ d lo2 (turnM n ms) w hm (by rw [turnM_lenM]; unfold maxLen; omega) hm2 (by rw [turnM_lenM]; unfold maxLen; omega) hT
    (by
      have e1 := turnM_right m ks (by omega) hbd2.2.2
      have e2 := turnM_right n ms (by omega) hbd.2.2
      have e3 : ((ks.length : Int) == ((turnM n ms).length : Int)) = true := by rw [turnM_lenM, hn]; simp
      rw [mulB, e1, e2, e3]; rfl)
  rw [Int.toNat_natCast, ← mul_turn hr hr2 hn hz2] at h
  exact h
theorem turnp_ok (N M : Int) (ms ks : List (Int × List Nat)) (A : Option Addr) (c lo : Nat) (w : World) (hB : mulB N ms M ks = true) (hm : MatAt w lo A (mulM M.toNat ks ms).length (mulM M.toNat ks ms)) :
    Calls Tryd.prog 16 #[.agg #[.int .i64 M, .slice A (mulM M.toNat ks ms).length c]] w (MatRes ms.length (turnM M.toNat (mulM M.toNat ks ms)) 0 w) := by
  obtain ⟨hr, hr2, hN⟩ := mulB_parts hB
  have hbd := rightM_bd hr
  obtain ⟨m, rfl⟩ := Int.eq_ofNat_of_zero_le (rightM_bd hr2).1
  rw [Int.toNat_natCast] at hm ⊢
  have h := turn_ok m A _ c lo (mulM m ks ms) w hm (by rw [mulM_len]; unfold maxLen; omega) (mulM_right hr2 ms hbd.2.2)
  rw [Int.toNat_natCast, mulM_len] at h
  rw [mulM_len]
  exact h
theorem rightp {N M : Int} {ms ks : List (Int × List Nat)} (hB : mulB N ms M ks = true) : rightM M (mulM M.toNat ks ms) = true := by
  obtain ⟨hr, hr2, hN⟩ := mulB_parts hB
  obtain ⟨m, rfl⟩ := Int.eq_ofNat_of_zero_le (rightM_bd hr2).1
  exact mulM_right hr2 ms (rightM_bd hr).2.2
theorem appE_same {n M : Int} {ks ps : List (Int × List Nat)} {ss : List ByteArray} (h1 : rightM M ks = true) (h2 : rightM M ps = true) : appE n M ps ss = appE n M ks ss := by simp [appE, h1, h2]
theorem applyz_ok (n N M : Int) (ms ks : List (Int × List Nat)) (ss : List ByteArray) (A : Option Addr) (l c lo : Nat) (X : Option Addr) (dx : Nat) (w : World) (hB : mulB N ms M ks = true) (ho : okS n ss = true) (hl : (ss.length : Int) = M) (hm : MatAt w lo A l ms) (hlm : l ≤ maxLen) (hx : Texts w X (appR n M ks ss).length (appR n M ks ss)) (hq1 : (appR n M ks ss).length ≤ dx) (hq2 : dx ≤ maxLen) (hT : TabAt w 0) :
    Calls Tryd.prog 8 #[.agg #[.int .i64 N, .slice A l c], .int .i64 n, .slice X (appR n M ks ss).length dx] w (AppOut (appR n M (mulM M.toNat ks ms) ss) 0 w) := by
  obtain ⟨hr, hr2, hN⟩ := mulB_parts hB
  have h := apply_any n N A l c lo ms X _ dx _ w hm hlm hx hq1 hq2 hT
  obtain ⟨nn, rfl⟩ := Int.eq_ofNat_of_zero_le (show 0 ≤ n from by
    have h := ho
    simp only [okS, Bool.and_eq_true] at h
    exact ((smb_iff n).1 h.1.1).1)
  obtain ⟨m, rfl⟩ := Int.eq_ofNat_of_zero_le (rightM_bd hr2).1
  obtain ⟨k, rfl⟩ := Int.eq_ofNat_of_zero_le (rightM_bd hr).1
  have hk : ks.length = k := by omega
  have hlm : ss.length = m := by omega
  have hok := appR_ok ho hlm hr2
  have e1 : appE nn k ms (appR nn m ks ss) = 0 := by simp [appE, hr, hok, appR_len, hk]
  have e2 : appL nn k ms (appR nn m ks ss) = appR nn m (mulM m ks ms) ss := by
    have : appB nn k ms (appR nn m ks ss) = true := by simp [appB, hr, hok, appR_len, hk]
    rw [appL, if_pos this, apply_mul hr hr2 hk ho hlm]
  rw [e1, e2] at h
  exact h
end
section
/- Layer 3's reference: Turn. -/
set_option linter.unusedVariables false
set_option linter.unusedSimpArgs false
open Go.RowKit
theorem turnM_take (n : Nat) (ms : List (Int × List Nat)) (i : Nat) (h : i < n) : (turnM n ms).take (i + 1) = (turnM n ms).take i ++ [((ms.length : Int), colW ms i)] := by
  rw [take_one (turnM n ms) i (0, []) (by rw [turnM_len]; exact h)]
  simp [turnM, List.getD, h]
theorem turnM_lt (n : Nat) (ms : List (Int × List Nat)) (i j : Nat) : (((turnM n ms).getD i (0, [])).2).getD j 0 < 18446744073709551616 := by
  by_cases h : i < n
  · have e : (turnM n ms).getD i (0, []) = ((ms.length : Int), colW ms i) := by simp [turnM, List.getD, h]
    rw [e]; exact colW_lt ms i j
  · have e : (turnM n ms)[i]? = none := List.getElem?_eq_none (by rw [turnM_len]; omega)
    simp [List.getD, e]
theorem right_len64 {N : Nat} {us : List Nat} (h : rightB N us = true) : N ≤ 64 * us.length := by
  have := right_len_eq h
  rw [Int.toNat_natCast] at this
  unfold nw at this; omega
end
section
/- Law 03: alive; two matrices stored anew; how long rows are. -/
set_option linter.unusedVariables false
set_option linter.unusedSimpArgs false
open Go.RowKit
theorem alive3_any (w : World) : Calls Tryd.prog 9 #[] w fun e w' => e = .returned (.bool true) ∧ Below w.heap.size w w' := by
  have HO := Lib.hid (one_any 3)
  have e1 : oneN 3 = 3 := by decide
  have e2 : (oneM 3).length = 3 := by rw [oneM, if_pos (by decide), oneL_len]; rfl
  have e3 : oneE 3 = 0 := by decide
  unfold MatRes at HO
  rw [e1, e2, e3] at HO
  clear e1 e2 e3
  go_enter Tryd.func9, Tryd.ntmps9
  go_wp2_with fail
  refine (HO.out _).mono ?_
  rintro e x1 ⟨A, c, rfl, -, hb⟩
  have Q := Lib.hid (Box.new x1 24 #[.int .i64 3, .slice A 3 c])
  have B := Lib.hid (hb.alloc hb.size (.cells #[.int .i64 3, .slice A 3 c] 24))
  clear hb
  obtain ⟨r0, r1, -, -⟩ := Q.out.two
  go_wp2_with fail
  go_ret
  exact ⟨rfl, B.out⟩
theorem two_mats {x : World} {g1 g2 : Nat} {t : TypeId} {i1 i2 j1 j2 : Int} {S1 S2 T1 T2 : Option Addr} {p1 q1 p2 q2 l1 c1 l2 c2 lo : Nat}
    (h1 : Box x g1 t #[.int .i64 i1, .slice S1 p1 q1]) (h2 : Box x g2 t #[.int .i64 i2, .slice S2 p2 q2]) (n12 : g1 ≠ g2)
    {w : World} (hb : Below w.heap.size w x) (b1 : w.heap.size ≤ g1) (b2 : w.heap.size ≤ g2) (k1 : g1 < lo) (k2 : g2 < lo)
    {ma mb : List (Int × List Nat)} (u1 : MatAt x lo T1 l1 ma) (u2 : MatAt x lo T2 l2 mb) :
    let y := (((x.setCell ⟨g1, 0, none⟩ (.int .i64 j1)).setCell ⟨g1, 1, none⟩ (.slice T1 l1 c1)).setCell ⟨g2, 0, none⟩ (.int .i64 j2)).setCell ⟨g2, 1, none⟩ (.slice T2 l2 c2)
    Box y g1 t #[.int .i64 j1, .slice T1 l1 c1] ∧ Box y g2 t #[.int .i64 j2, .slice T2 l2 c2] ∧ MatAt y lo T1 l1 ma ∧ MatAt y lo T2 l2 mb ∧ Below w.heap.size w y := by
  have r1 : Box ((x.setCell ⟨g1, 0, none⟩ (.int .i64 j1)).setCell ⟨g1, 1, none⟩ (.slice T1 l1 c1)) g1 t #[.int .i64 j1, .slice T1 l1 c1] := h1.put2
  have r2 := (h2.far (p := ⟨g1, 0, none⟩) n12.symm (.int .i64 j1)).far (p := ⟨g1, 1, none⟩) n12.symm (.slice T1 l1 c1)
  have v1 := u1.put2 (y := j1) h1 k1 (.slice T1 l1 c1)
  have v2 := u2.put2 (y := j1) h1 k1 (.slice T1 l1 c1)
  exact ⟨(r1.far (p := ⟨g2, 0, none⟩) n12 (.int .i64 j2)).far (p := ⟨g2, 1, none⟩) n12 (.slice T2 l2 c2), r2.put2, v1.put2 r2 k2 _, v2.put2 r2 k2 _,
    (((hb.setCell (p := ⟨g1, 0, none⟩) b1 _).setCell (p := ⟨g1, 1, none⟩) b1 _).setCell (p := ⟨g2, 0, none⟩) b2 _).setCell (p := ⟨g2, 1, none⟩) b2 _⟩
theorem rowLen_turn (n : Nat) (ms : List (Int × List Nat)) (i : Nat) (hl : ms.length ≤ 64) : ((turnM n ms).getD i (0, [])).2.length ≤ 1000000 := by
  by_cases h : i < n
  · have e : (turnM n ms).getD i (0, []) = ((ms.length : Int), colW ms i) := by simp [turnM, List.getD, h]
    rw [e]; show (colW ms i).length ≤ _; rw [colW, ofBits_len]; unfold nw; omega
  · have e : (turnM n ms)[i]? = none := List.getElem?_eq_none (by rw [turnM_len]; omega)
    simp [List.getD, e]
end
end Go.Proofs.YtljooknodnblbaaDoor
