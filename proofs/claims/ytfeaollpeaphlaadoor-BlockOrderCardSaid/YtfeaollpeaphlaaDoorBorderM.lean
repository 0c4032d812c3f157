/- Sums of blocks do not hang on order; what stands there twice is out of it; what two rows' Xor picks. No program. -/
import Derived.Test.YtfeaollpeaphlaaDoorPkX
import Derived.Test.YtfeaollpeaphlaaDoorBackM
namespace Go.Proofs.YtfeaollpeaphlaaDoor
set_option linter.unusedVariables false
set_option linter.unusedSimpArgs false
/-- Byte i of a sum. -/
def xorAt (i : Nat) : List ByteArray → UInt8
  | [] => 0
  | s :: L => s.data.toList.getD i 0 ^^^ xorAt i L
theorem xorAt_append (i : Nat) (A B : List ByteArray) : xorAt i (A ++ B) = xorAt i A ^^^ xorAt i B := by
  induction A with
  | nil => simp [xorAt]
  | cons a A ih => simp only [List.cons_append, xorAt, ih, UInt8.xor_assoc]
theorem foldl_at (n i : Nat) (L : List ByteArray) : ∀ acc : List UInt8, acc.length = n → i < n → (L.foldl (fun acc s => bxL acc s.data.toList) acc).getD i 0 = acc.getD i 0 ^^^ xorAt i L := by
  induction L with
  | nil => intro acc _ _; simp [xorAt]
  | cons s L ih =>
    intro acc hl hi
    rw [List.foldl_cons, ih _ (by rw [xorL_length, hl]) hi, bxL_get _ _ _ (by omega), xorAt, UInt8.xor_assoc]
theorem sumL_at (n i : Nat) (L : List ByteArray) (hi : i < n) : (sumL n L).getD i 0 = xorAt i L := by
  unfold sumL
  rw [foldl_at n i L _ (by simp) hi]
  simp [List.getD, hi]
theorem sumL_ext (n : Nat) (A B : List ByteArray) (h : ∀ i, i < n → xorAt i A = xorAt i B) : sumL n A = sumL n B := by
  apply List.ext_getElem (by rw [sumL_length, sumL_length])
  intro i h1 h2
  have hi : i < n := by rwa [sumL_length] at h1
  have e1 := sumL_at n i A hi
  have e2 := sumL_at n i B hi
  simp only [List.getD, List.getElem?_eq_getElem h1, List.getElem?_eq_getElem h2, Option.getD_some] at e1 e2
  rw [e1, e2, h i hi]
theorem sum_turned (n k : Nat) (L : List ByteArray) : sumL n (L.drop k ++ L.take k) = sumL n L := by
  refine sumL_ext n _ _ fun i _ => ?_
  rw [xorAt_append, UInt8.xor_comm, ← xorAt_append, List.take_append_drop]
theorem sum_twice (n : Nat) (s : ByteArray) (L : List ByteArray) : sumL n (s :: s :: L) = sumL n L := by
  refine sumL_ext n _ _ fun i _ => ?_
  simp only [xorAt]
  rw [← UInt8.xor_assoc, UInt8.xor_self, UInt8.zero_xor]
theorem xorAt_picks (i : Nat) (ss : List ByteArray) (us vs : List Nat) (hl : us.length = vs.length) (m : Nat) (hm : m ≤ 64 * us.length) :
    xorAt i (picks ss (plcN (xorL us vs) m)) = xorAt i (picks ss (plcN us m)) ^^^ xorAt i (picks ss (plcN vs m)) := by
  induction m with
  | zero => simp [plcN, picks, xorAt]
  | succ m ih =>
    have ih := ih (by omega)
    have hx : (bitAt (xorL us vs) m == 1) = _ := zip_bit (· ^^^ ·) us vs m (by omega) (by omega)
    rw [Nat.testBit_xor, ← bitAt_test, ← bitAt_test] at hx
    have hp : ∀ (ps : List Nat) (b : List Nat), picks ss (ps ++ b) = picks ss ps ++ picks ss b := fun ps b => by simp [picks]
    rw [plcN_succ, plcN_succ, plcN_succ, hp, hp, hp, xorAt_append, xorAt_append, xorAt_append, ih]
    generalize xorAt i (picks ss (plcN us m)) = x
    generalize xorAt i (picks ss (plcN vs m)) = y
    have e1 : xorAt i (picks ss [m]) = (ss.getD m ByteArray.empty).data.toList.getD i 0 := by simp [picks, xorAt]
    have e0 : xorAt i (picks ss []) = 0 := by simp [picks, xorAt]
    rcases bitAt_le us m with b1 | b1 <;> rcases bitAt_le vs m with b2 | b2 <;> rcases bitAt_le (xorL us vs) m with b3 | b3 <;> simp [b1, b2, b3] at hx
    · simp only [b1, b2, b3, e0, if_false, Nat.zero_ne_one, UInt8.xor_zero]
    · simp only [b1, b2, b3, e0, e1, if_false, if_true, Nat.zero_ne_one, UInt8.xor_zero, UInt8.xor_assoc]
    · simp only [b1, b2, b3, e0, e1, if_false, if_true, Nat.zero_ne_one, UInt8.xor_zero]
      generalize (ss.getD m ByteArray.empty).data.toList.getD i 0 = z
      rw [UInt8.xor_assoc, UInt8.xor_assoc, UInt8.xor_comm y z]
    · simp only [b1, b2, b3, e0, e1, if_false, if_true, Nat.zero_ne_one, UInt8.xor_zero]
      generalize (ss.getD m ByteArray.empty).data.toList.getD i 0 = z
      rw [UInt8.xor_assoc x z, ← UInt8.xor_assoc z y z, UInt8.xor_comm z y, UInt8.xor_assoc y z z, UInt8.xor_self, UInt8.xor_zero]
/-- The xor of two picks is the pick of the rows' Xor. -/
theorem sum_both (n : Nat) (ss : List ByteArray) (us vs : List Nat) (hl : us.length = vs.length) (m : Nat) (hm : m ≤ 64 * us.length) :
    sumL n [⟨(sumL n (picks ss (plcN us m))).toArray⟩, ⟨(sumL n (picks ss (plcN vs m))).toArray⟩] = sumL n (picks ss (plcN (xorL us vs) m)) := by
  refine sumL_ext n _ _ fun i hi => ?_
  rw [xorAt_picks i ss us vs hl m hm]
  simp only [xorAt]
  rw [UInt8.xor_zero]
  have e1 := sumL_at n i (picks ss (plcN us m)) hi
  have e2 := sumL_at n i (picks ss (plcN vs m)) hi
  rw [← e1, ← e2]
end Go.Proofs.YtfeaollpeaphlaaDoor
