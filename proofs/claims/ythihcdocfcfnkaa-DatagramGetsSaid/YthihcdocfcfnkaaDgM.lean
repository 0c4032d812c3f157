/- Layer 11: what a datagram's bytes tell, as lists. -/
import Derived.Test.YthihcdocfcfnkaaDg7
import Derived.Test.YthihcdocfcfnkaaCrcBursts
namespace Go.Proofs.Ythihcdocfcfnkaa
open Go.RowKit
open crcBursts (sealB_list sealB_size sealB_back)
theorem u8_self (a : UInt8) : UInt8.ofNat a.toNat = a := by simp
theorem be_numB (A : List UInt8) (h : A.length = 8) : be (numB A) 8 = A := by
  match A, h with
  | [a0, a1, a2, a3, a4, a5, a6, a7], _ =>
    have h0 := a0.toNat_lt; have h1 := a1.toNat_lt; have h2 := a2.toNat_lt; have h3 := a3.toNat_lt
    have h4 := a4.toNat_lt; have h5 := a5.toNat_lt; have h6 := a6.toNat_lt; have h7 := a7.toNat_lt
    have hx : numB [a0, a1, a2, a3, a4, a5, a6, a7] = (((((((a0.toNat * 256 + a1.toNat) * 256 + a2.toNat) * 256 + a3.toNat) * 256 + a4.toNat) * 256 + a5.toNat) * 256 + a6.toNat) * 256 + a7.toNat) := by simp [numB]
    have e0 : numB [a0, a1, a2, a3, a4, a5, a6, a7] / 72057594037927936 % 256 = a0.toNat := by omega
    have e1 : numB [a0, a1, a2, a3, a4, a5, a6, a7] / 281474976710656 % 256 = a1.toNat := by omega
    have e2 : numB [a0, a1, a2, a3, a4, a5, a6, a7] / 1099511627776 % 256 = a2.toNat := by omega
    have e3 : numB [a0, a1, a2, a3, a4, a5, a6, a7] / 4294967296 % 256 = a3.toNat := by omega
    have e4 : numB [a0, a1, a2, a3, a4, a5, a6, a7] / 16777216 % 256 = a4.toNat := by omega
    have e5 : numB [a0, a1, a2, a3, a4, a5, a6, a7] / 65536 % 256 = a5.toNat := by omega
    have e6 : numB [a0, a1, a2, a3, a4, a5, a6, a7] / 256 % 256 = a6.toNat := by omega
    have e7 : numB [a0, a1, a2, a3, a4, a5, a6, a7] % 256 = a7.toNat := by omega
    generalize numB [a0, a1, a2, a3, a4, a5, a6, a7] = x at *
    have r : List.range 8 = [0, 1, 2, 3, 4, 5, 6, 7] := rfl
    simp only [be, r, List.map_cons, List.map_nil, Nat.reduceSub, Nat.reduceMul, Nat.reducePow, Nat.div_one, e0, e1, e2, e3, e4, e5, e6, e7, u8_self]
theorem numB_be_aux (x : Nat) (hx : x < 18446744073709551616) : numB (be x 8) = x := by
  have r : List.range 8 = [0, 1, 2, 3, 4, 5, 6, 7] := rfl
  simp only [be, r, List.map_cons, List.map_nil, Nat.reduceSub, Nat.reduceMul, Nat.reducePow, Nat.div_one, numB, List.foldl_cons, List.foldl_nil, UInt8.toNat_ofNat', Nat.mod_mod]
  have st : ∀ a b : Nat, b = a / 256 → b * 256 + a % 256 = a := fun a b h => by omega
  have d : ∀ k : Nat, x / (k * 256) = x / k / 256 := fun k => (Nat.div_div_eq_div_mul x k 256).symm
  have l0 : x / 72057594037927936 < 256 := by omega
  simp only [Nat.zero_add]
  rw [Nat.mod_eq_of_lt l0, st (x / 281474976710656) _ (d _), st (x / 1099511627776) _ (d _), st (x / 4294967296) _ (d _), st (x / 16777216) _ (d _), st (x / 65536) _ (d _), st (x / 256) _ (d _), st x _ rfl]
/-- What a text's bytes say. -/
def gO (l : List UInt8) : Nat := numB ((l.drop 2).take 8)
def gI (l : List UInt8) : Nat := numB ((l.drop 10).take 8)
def gK (l : List UInt8) : Nat := (l.getD 18 0).toNat
def gZ (l : List UInt8) : Nat := (l.getD 19 0).toNat
theorem ext_list (s : ByteArray) (a b : Nat) : (s.extract a b).data.toList = (s.data.toList.take b).drop a := by
  rw [Lib.extract_data, List.drop_take]
theorem restR_list {s : ByteArray} {m : Nat} (h : m ≤ s.size) : (restR s m).data.toList = s.data.toList.drop m := by
  rw [restR, if_neg (by omega), ext_list, List.take_of_length_le (Nat.le_of_eq (show s.data.toList.length = s.size by simp))]
theorem restR_size' {s : ByteArray} {m : Nat} (h : m ≤ s.size) : (restR s m).size = s.size - m := by
  rw [restR, if_neg (by omega)]; simp
theorem numR_list {s : ByteArray} {m : Nat} (h : m ≤ s.size) : numR s m = numB (s.data.toList.take m) := by
  rw [numR, if_neg (by omega)]
theorem take1 (l : List UInt8) (k : Nat) (h : k < l.length) : numB ((l.drop k).take 1) = (l.getD k 0).toNat := by
  rw [List.drop_eq_getElem_cons h, List.take_succ_cons, List.take_zero]
  simp [numB, List.getD, h]
theorem list_len (t : ByteArray) : t.data.toList.length = t.size := by simp
/-- read, at a text of 20 bytes or more. -/
theorem readD_long (t : ByteArray) (h : 20 ≤ t.size) :
    readD t = if (t.data.toList.getD 0 0).toNat = 68 ∧ (t.data.toList.getD 1 0).toNat = 1 then (dgV (gO t.data.toList : Nat) (gK t.data.toList : Nat) (gZ t.data.toList : Nat) (gI t.data.toList : Nat) (t.extract 20 t.size), true) else (dgV 0 0 0 0 ⟨#[]⟩, false) := by
  have hl := list_len t
  have z1 := restR_size' (s := t) (m := 1) (by omega)
  have z2 := restR_size' (s := restR t 1) (m := 1) (by omega)
  have z3 := restR_size' (s := restR (restR t 1) 1) (m := 8) (by omega)
  have z4 := restR_size' (s := restR (restR (restR t 1) 1) 8) (m := 8) (by omega)
  have z5 := restR_size' (s := restR (restR (restR (restR t 1) 1) 8) 8) (m := 1) (by omega)
  have y1 := restR_list (s := t) (m := 1) (by omega)
  have y2 := restR_list (s := restR t 1) (m := 1) (by omega)
  have y3 := restR_list (s := restR (restR t 1) 1) (m := 8) (by omega)
  have y4 := restR_list (s := restR (restR (restR t 1) 1) 8) (m := 8) (by omega)
  have y5 := restR_list (s := restR (restR (restR (restR t 1) 1) 8) 8) (m := 1) (by omega)
  have y6 := restR_list (s := restR (restR (restR (restR (restR t 1) 1) 8) 8) 1) (m := 1) (by omega)
  rw [y1] at y2
  rw [y2] at y3
  rw [y3] at y4
  rw [y4] at y5
  rw [y5] at y6
  simp only [List.drop_drop, Nat.reduceAdd] at y2 y3 y4 y5 y6
  have x1 : numR t 1 = (t.data.toList.getD 0 0).toNat := by rw [numR_list (by omega)]; have := take1 t.data.toList 0 (by omega); simpa using this
  have x2 : numR (restR t 1) 1 = (t.data.toList.getD 1 0).toNat := by rw [numR_list (by omega), y1, take1 _ _ (by omega)]
  have x3 : numR (restR (restR t 1) 1) 8 = gO t.data.toList := by rw [numR_list (by omega), y2]; rfl
  have x4 : numR (restR (restR (restR t 1) 1) 8) 8 = gI t.data.toList := by rw [numR_list (by omega), y3]; rfl
  have x5 : numR (restR (restR (restR (restR t 1) 1) 8) 8) 1 = gK t.data.toList := by rw [numR_list (by omega), y4, take1 _ _ (by omega)]; rfl
  have x6 : numR (restR (restR (restR (restR (restR t 1) 1) 8) 8) 1) 1 = gZ t.data.toList := by rw [numR_list (by omega), y5, take1 _ _ (by omega)]; rfl
  have e6 : restR (restR (restR (restR (restR (restR t 1) 1) 8) 8) 1) 1 = t.extract 20 t.size := by
    apply ByteArray.ext
    apply Array.toList_inj.1
    rw [y6]
    have := restR_list (s := t) (m := 20) (by omega)
    rw [restR, if_neg (by omega)] at this
    exact this.symm
  by_cases hm : (t.data.toList.getD 0 0).toNat = 68 ∧ (t.data.toList.getD 1 0).toNat = 1
  · rw [if_pos hm, readD_yes t (by rw [x1]; exact hm.1) (by rw [x2]; exact hm.2), x3, x4, x5, x6, e6]
    have n1 : shortR t 1 = false := decide_eq_false (by omega)
    have n2 : shortR (restR t 1) 1 = false := decide_eq_false (by omega)
    have n3 : shortR (restR (restR t 1) 1) 8 = false := decide_eq_false (by omega)
    have n4 : shortR (restR (restR (restR t 1) 1) 8) 8 = false := decide_eq_false (by omega)
    have n5 : shortR (restR (restR (restR (restR t 1) 1) 8) 8) 1 = false := decide_eq_false (by omega)
    have n6 : shortR (restR (restR (restR (restR (restR t 1) 1) 8) 8) 1) 1 = false := decide_eq_false (by omega)
    rw [n1, n2, n3, n4, n5, n6]
    rfl
  · rw [if_neg hm, readD_no t (by rw [x1, x2]; exact hm)]
theorem restR_short {s : ByteArray} {m : Nat} (h : s.size < m) : (restR s m).size = 0 := by rw [restR, if_pos h]; rfl
/-- read, at a shorter text. -/
theorem readD_short (t : ByteArray) (h : t.size < 20) : (readD t).2 = false := by
  by_cases hm : numR t 1 = 68 ∧ numR (restR t 1) 1 = 1
  · rw [readD_yes t hm.1 hm.2]
    have step : ∀ (s : ByteArray) (m : Nat), shortR s m = false → (restR s m).size = s.size - m ∧ m ≤ s.size := fun s m hs => by
      have h0 : ¬ s.size < m := of_decide_eq_false hs
      exact ⟨restR_size' (by omega), by omega⟩
    cases c1 : shortR t 1 with
    | true => simp
    | false =>
    cases c2 : shortR (restR t 1) 1 with
    | true => simp
    | false =>
    cases c3 : shortR (restR (restR t 1) 1) 8 with
    | true => simp
    | false =>
    cases c4 : shortR (restR (restR (restR t 1) 1) 8) 8 with
    | true => simp
    | false =>
    cases c5 : shortR (restR (restR (restR (restR t 1) 1) 8) 8) 1 with
    | true => simp
    | false =>
    cases c6 : shortR (restR (restR (restR (restR (restR t 1) 1) 8) 8) 1) 1 with
    | true => simp
    | false =>
      have s1 := step _ _ c1
      have s2 := step _ _ c2
      have s3 := step _ _ c3
      have s4 := step _ _ c4
      have s5 := step _ _ c5
      have s6 := step _ _ c6
      omega
  · rw [readD_no t hm]
/-- May a text be a datagram's bytes? -/
def getOk (s : ByteArray) : Prop :=
  24 ≤ s.size ∧ sealB (s.extract 0 (s.size - 4)) = s ∧ (s.data.toList.getD 0 0).toNat = 68 ∧ (s.data.toList.getD 1 0).toNat = 1 ∧ dgB (gK s.data.toList : Nat) (gZ s.data.toList : Nat) (s.extract 20 (s.size - 4)) = true
theorem getD_take (l : List UInt8) (n k : Nat) (h : k < n) : (l.take n).getD k 0 = l.getD k 0 := by
  simp [List.getD, List.getElem?_take, h]
theorem slice_take (l : List UInt8) (n k j : Nat) (h : k + j ≤ n) : ((l.take n).drop k).take j = (l.drop k).take j := by
  rw [List.drop_take, List.take_take, Nat.min_eq_left (by omega)]
/-- The bytes of what a text says. -/
theorem dgL_text (s : ByteArray) (h : 24 ≤ s.size) :
    dgL (gO s.data.toList) (gK s.data.toList) (gZ s.data.toList) (gI s.data.toList) (s.extract 20 (s.size - 4)) = [68, 1] ++ (s.data.toList.take (s.size - 4)).drop 2 := by
  have hl := list_len s
  have e1 : be (gO s.data.toList) 8 = (s.data.toList.drop 2).take 8 := be_numB _ (by simp; omega)
  have e2 : be (gI s.data.toList) 8 = (s.data.toList.drop 10).take 8 := be_numB _ (by simp; omega)
  rw [dgL, e1, e2, ext_list, gK, gZ, u8_self, u8_self]
  generalize hn : s.size = n at *
  generalize s.data.toList = l at *
  have hL : (l.take (n - 4)).length = n - 4 := by simp; omega
  have f1 : (l.drop 2).take 8 = ((l.take (n - 4)).drop 2).take 8 := (slice_take l (n - 4) 2 8 (by omega)).symm
  have f2 : (l.drop 10).take 8 = ((l.take (n - 4)).drop 10).take 8 := (slice_take l (n - 4) 10 8 (by omega)).symm
  have f3 : l.getD 18 0 = (l.take (n - 4)).getD 18 0 := (getD_take l _ _ (by omega)).symm
  have f4 : l.getD 19 0 = (l.take (n - 4)).getD 19 0 := (getD_take l _ _ (by omega)).symm
  rw [f1, f2, f3, f4]
  generalize l.take (n - 4) = L at *
  have g1 : L.drop 2 = (L.drop 2).take 8 ++ L.drop 10 := by
    have := (List.take_append_drop 8 (L.drop 2)).symm
    rwa [List.drop_drop] at this
  have g2 : L.drop 10 = (L.drop 10).take 8 ++ L.drop 18 := by
    have := (List.take_append_drop 8 (L.drop 10)).symm
    rwa [List.drop_drop] at this
  have g3 : L.drop 18 = L.getD 18 0 :: L.getD 19 0 :: L.drop 20 := by
    rw [List.drop_eq_getElem_cons (by omega : 18 < L.length), List.drop_eq_getElem_cons (by omega : 18 + 1 < L.length)]
    simp [List.getD, show 18 < L.length by omega, show 19 < L.length by omega]
  conv => rhs; rw [g1, g2, g3]
  simp [List.append_assoc]
theorem bytes_ext {s t : ByteArray} (h : s.data.toList = t.data.toList) : s = t := ByteArray.ext (Array.toList_inj.1 h)
theorem head2 (L : List UInt8) (h : 2 ≤ L.length) (h0 : (L.getD 0 0).toNat = 68) (h1 : (L.getD 1 0).toNat = 1) : [68, 1] ++ L.drop 2 = L := by
  match L, h with
  | a :: b :: m, _ =>
    have ha : a = 68 := UInt8.toNat_inj.1 (by simpa using h0)
    have hb : b = 1 := UInt8.toNat_inj.1 (by simpa using h1)
    rw [ha, hb]; rfl
theorem put_text (s : ByteArray) (h : 24 ≤ s.size) :
    sealB ⟨(dgL (gO s.data.toList) (gK s.data.toList) (gZ s.data.toList) (gI s.data.toList) (s.extract 20 (s.size - 4))).toArray⟩ = s ↔ (sealB (s.extract 0 (s.size - 4)) = s ∧ (s.data.toList.getD 0 0).toNat = 68 ∧ (s.data.toList.getD 1 0).toNat = 1) := by
  have hl := list_len s
  rw [dgL_text s h]
  constructor
  · intro e
    have hb := sealB_back ⟨([68, 1] ++ (s.data.toList.take (s.size - 4)).drop 2).toArray⟩
    rw [e] at hb
    have hL := congrArg (fun t : ByteArray => t.data.toList) hb
    simp only at hL
    rw [ext_list, List.drop_zero] at hL
    refine ⟨by rw [hb]; exact e, ?_, ?_⟩
    · rw [← getD_take s.data.toList (s.size - 4) 0 (by omega), hL]; rfl
    · rw [← getD_take s.data.toList (s.size - 4) 1 (by omega), hL]; rfl
  · rintro ⟨e, h0, h1⟩
    have : (⟨([68, 1] ++ (s.data.toList.take (s.size - 4)).drop 2).toArray⟩ : ByteArray) = s.extract 0 (s.size - 4) := by
      apply bytes_ext
      rw [ext_list, List.drop_zero]
      show [68, 1] ++ (s.data.toList.take (s.size - 4)).drop 2 = _
      exact head2 _ (by simp; omega) (by rw [getD_take _ _ _ (by omega)]; exact h0) (by rw [getD_take _ _ _ (by omega)]; exact h1)
    rw [this]; exact e
end Go.Proofs.Ythihcdocfcfnkaa
