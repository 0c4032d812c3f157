/- Parts: Enc7, EsM, APT, EsX, Open, OpenT, OpenV. -/
import Derived.Test.YtepgjimkhodcfaaDoorZj
import Derived.ArgAppend
import Derived.Deep.DeepCutAuto
import Derived.Deep.RegionHeld3
import Derived.Deep.RegionWith
import Derived.Laws.AppendOwn
import Derived.Lib.SmallJoins
import Derived.OpenShut
import Derived.OwnWalk
import Derived.ProofKit
import Derived.SliceStrings
import Derived.Test.YtepgjimkhodcfaaDoorRows
import Derived.WalkKit
namespace Go.Proofs.YtepgjimkhodcfaaDoor
section
/- Layer 9: the reference's Cut. -/
set_option linter.unusedVariables false
set_option linter.unusedSimpArgs false
open Go.RowKit
set_option maxRecDepth 100000
def bytesZ (s : ByteArray) (a q : Nat) : List UInt8 := (List.range q).map fun q => byteZ s (a + q)
theorem bytesZ_succ (s : ByteArray) (a q : Nat) : bytesZ s a (q + 1) = bytesZ s a q ++ [byteZ s (a + q)] := by simp [bytesZ, List.range_succ]
theorem bytesZ_blk (s : ByteArray) (n a : Nat) (ha : a ≤ s.size) : (⟨(bytesZ s a n).toArray⟩ : ByteArray) = blkN s n a := by
  unfold bytesZ
  rw [← blkN_list s n a ha]
theorem own_not_nil {w : World} {base e size n : Nat} {v : Value} {xs : List Value} (h : w.ownsRow base e size v n xs) (hn : 0 < n) : v ≠ .slice none 0 0 := by
  intro hv
  rcases h.2 with ⟨-, h0⟩ | ⟨g, cap, cur, hv', -⟩
  · omega
  · rw [hv] at hv'; injection hv' with h1; cases h1
set_option maxHeartbeats 4000000 in
theorem refCut9_any (s : ByteArray) (n : Nat) (w : World) (hn : 1 ≤ n) (hn64 : n ≤ 64) (hs : s.size ≤ 64 * n) :
    Calls Tryd.prog 10 #[.string s, .int .i64 (n : Int)] w (TextsOut (blkL s n (cntN s n)) w) := by
  obtain ⟨i0, hi, hz0, hz1, hz2⟩ := info_parts string_info
  obtain ⟨j0, hj, hy0, hy1, hy2⟩ := info_parts uint8_infoB
  have hcnt := cntN_le s n hn hs
  have HW := Lib.hid (show Below w.heap.size w (w.alloc (.cells #[] 9)) from (Below.refl _ _).alloc (Nat.le_refl _) _)
  have HOw := Lib.hid (own_empty w w.heap.size 9 (Nat.le_refl _))
  have HI := Lib.hid hi
  have HZ0 := Lib.hid hz0
  have HZ1 := Lib.hid hz1
  have HZ2 := Lib.hid hz2
  have HJ := Lib.hid hj
  have HY0 := Lib.hid hy0
  have HY1 := Lib.hid hy1
  have HY2 := Lib.hid hy2
  clear hi hz0 hz1 hz2 hj hy0 hy1 hy2
  go_enter Tryd.func10, Tryd.ntmps10
  go_wp2_with fail
  go_loopw [5, 6] (fun v t wr => ∃ i a : Nat, i ≤ cntN s n ∧ Hid (a = i * n) ∧ a ≤ s.size + n ∧ t = .int .i64 (a : Int) ∧ wr.ownsRow w.heap.size 9 1 v i ((blkL s n i).map Value.string) ∧ Below w.heap.size w wr) (fun _ t _ => s.size + n - (intOf t).toNat)
  case atStart => exact ⟨0, 0, Nat.zero_le _, Lib.hid (by omega), by omega, rfl, HOw.out, HW.out⟩
  case round =>
    obtain ⟨i, a, hi, HA, ha, rfl, hown, hbel⟩ := hrel
    have HO := Lib.hid hown
    have HB := Lib.hid hbel
    clear hown hbel HOw HW
    have hif := cntN_iff s n i hn
    rw [← HA.out] at hif
    by_cases hlt : a < s.size
    · have hlt' : (a : Int) < (s.size : Int) := by omega
      have HLT := Lib.hid (hif.2 hlt)
      clear hif
      obtain ⟨wo, rfl⟩ : ∃ wo : World, wo = wr := ⟨_, rfl⟩
      have IO := Lib.hid (own_empty wo wo.heap.size 5 (Nat.le_refl _))
      have IW := Lib.hid (show Below wo.heap.size wo (wo.alloc (.cells #[] 5)) from (Below.refl _ _).alloc (Nat.le_refl _) _)
      go_wp2_with fail
      go_loopw [7, 8] (fun u v wi => ∃ q t : Nat, q ≤ n ∧ Hid (t = a + q) ∧ v = .int .i64 (t : Int) ∧ wi.ownsRow wo.heap.size 5 1 u q ((bytesZ s a q).map byteV) ∧ Below wo.heap.size wo wi) (fun _ v _ => a + n - (intOf v).toNat)
      case atStart => exact ⟨0, a, by omega, Lib.hid rfl, rfl, IO.out, IW.out⟩
      case round =>
        obtain ⟨q, t, hq, HTT, rfl, hown, hbel⟩ := hrel
        have JO := Lib.hid hown
        have JB := Lib.hid hbel
        clear hown hbel IO IW
        by_cases hq2 : t < a + n
        · have HS := Lib.hid (show bytesZ s a (q + 1) = bytesZ s a q ++ [byteZ s t] by rw [bytesZ_succ, ← HTT.out])
          have hq3 : q + 1 ≤ n := by have := HTT.out; omega
          have hq4 := Lib.hid (show t + 1 = a + (q + 1) by have := HTT.out; omega)
          have hq5 : (t : Int) < (a : Int) + (n : Int) := by omega
          have hq6 : t ≤ 4160 := by omega
          have hi' := HJ.out
          have hz0' := HY0.out
          have hz1' := HY1.out
          have hz2' := HY2.out
          have N2 := Lib.hid (fun k hk => (JO.out.lt k hk).1)
          by_cases hin : t < s.size
          · have HV := Lib.hid (show byteZ s t = s[t] by rw [byteZ, if_pos hin]; simp [List.getD, hin]; rfl)
            have hin' : (t : Int) < (s.size : Int) := by omega
            have XO := Lib.hid (JO.out.alloc (.cells #[.int .u8 (s[t].toNat : Int)] 5))
            have XB := Lib.hid (JB.out.alloc JB.out.size (.cells #[.int .u8 (s[t].toNat : Int)] 5))
            go_wp2_with (at_builtin; refine wpList_append_own _ rfl _ _ 55 rfl wo.heap.size 5 j0 (.int .u8 0) 1 1 Tryd.underlying55 hi' hz0' hz1' hz2' rfl (by decide) _ _ _ rfl XO.out ⟨wr.heap.size, 0, none⟩ 1 1 [.int .u8 (s[t].toNat : Int)] rfl rfl (cell_one_new _ _ _) (by simp [Value.oneCell']) (by simp [maxLen]; omega) (by omega) XB.out.size ?_; intro v' w1 hown' hgrow _; have HC := Lib.hid (XB.out.grown hgrow XB.out.size N2.out); have HO2 := Lib.hid hown'; clear hown' hgrow)
            go_roundw
            case rel =>
              refine ⟨q + 1, t + 1, hq3, hq4, by go_num, ?_, HC.out⟩
              rw [HS.out, List.map_append, HV.out]
              exact HO2.out
            case measure => simp [intOf] <;> omega
          · have HV := Lib.hid (show byteZ s t = 0 by rw [byteZ, if_neg hin])
            have hin' : ¬ (t : Int) < (s.size : Int) := by omega
            have XO := Lib.hid (JO.out.alloc (.cells #[.int .u8 0] 5))
            have XB := Lib.hid (JB.out.alloc JB.out.size (.cells #[.int .u8 0] 5))
            go_wp2_with (at_builtin; refine wpList_append_own _ rfl _ _ 55 rfl wo.heap.size 5 j0 (.int .u8 0) 1 1 Tryd.underlying55 hi' hz0' hz1' hz2' rfl (by decide) _ _ _ rfl XO.out ⟨wr.heap.size, 0, none⟩ 1 1 [.int .u8 0] rfl rfl (cell_one_new _ _ _) (by simp [Value.oneCell']) (by simp [maxLen]; omega) (by omega) XB.out.size ?_; intro v' w1 hown' hgrow _; have HC := Lib.hid (XB.out.grown hgrow XB.out.size N2.out); have HO2 := Lib.hid hown'; clear hown' hgrow)
            go_roundw
            case rel =>
              refine ⟨q + 1, t + 1, hq3, hq4, by go_num, ?_, HC.out⟩
              rw [HS.out, List.map_append, HV.out]
              exact HO2.out
            case measure => simp [intOf] <;> omega
        · obtain rfl : q = n := by have := HTT.out; omega
          have hq5 : ¬ (t : Int) < (a : Int) + (q : Int) := by omega
          have cv := own_bytes JO.out (own_not_nil JO.out (by omega))
          rw [bytesZ_blk s q a (by omega)] at cv
          have HS := Lib.hid (show blkL s q (i + 1) = blkL s q i ++ [blkN s q a] by rw [blkL_succ, ← HA.out])
          have hi' := HI.out
          have hz0' := HZ0.out
          have hz1' := HZ1.out
          have hz2' := HZ2.out
          have N2 := Lib.hid (fun k hk => (HO.out.lt k hk).1)
          have KB := Lib.hid (chainN HB.out HB.out.size JB.out)
          have XO := Lib.hid ((own_keep HO.out JB.out).alloc (.cells #[.string (blkN s q a)] 9))
          have XB := Lib.hid (KB.out.alloc KB.out.size (.cells #[.string (blkN s q a)] 9))
          have hcn := hcnt
          go_wp2_with (at_builtin; refine wpList_append_own _ rfl _ _ 22 rfl w.heap.size 9 i0 (.string ⟨#[]⟩) 1 16 Tryd.underlying22 hi' hz0' hz1' hz2' rfl (by decide) _ _ _ rfl XO.out ⟨wr.heap.size, 0, none⟩ 1 1 [.string (blkN s q a)] rfl rfl (cell_one_new _ _ _) (by simp [Value.oneCell']) (by simp [maxLen]; omega) (by omega) XB.out.size ?_; intro v' w1 hown' hgrow _; have HC := Lib.hid (XB.out.grown hgrow XB.out.size N2.out); have HO2 := Lib.hid hown'; clear hown' hgrow)
          go_roundw
          case rel =>
            refine ⟨i + 1, a + q, by have := HLT.out; omega, Lib.hid (by rw [HA.out, Nat.succ_mul]), by omega, by go_num, ?_, HC.out⟩
            rw [HS.out, List.map_append]
            exact HO2.out
          case measure => simp [intOf] <;> omega
    · have hlt' : ¬ (a : Int) < (s.size : Int) := by omega
      obtain rfl : i = cntN s n := by have := mt hif.1 hlt; omega
      have HCL := Lib.hid (blkL_len s n (cntN s n))
      obtain ⟨A', c', rfl, q1, q2, q3⟩ := own_texts HO.out (fun j => blkL_le s n j hn hn64)
      go_wp2
      go_ret
      exact ⟨A', c', by rw [HCL.out]; rfl, by rw [HCL.out]; exact q1, q2, by rw [HCL.out]; exact q3, HB.out⟩
end
section
/- Layer 9: sums of sums; what was cut is joined as it was. -/
set_option linter.unusedVariables false
set_option linter.unusedSimpArgs false
open Go.RowKit
theorem okS_mk9 (n : Nat) (ss : List ByteArray) (hn : n ≤ 64) (h : ∀ j, j < ss.length → (ss.getD j ByteArray.empty).size = n) (hl : ss.length ≤ 64) : okS n ss = true := by
  have h1 : smb n = true := (smb_iff _).2 ⟨by omega, by omega⟩
  have h2 : allL n ss = true := List.all_eq_true.2 fun s hs => by
    obtain ⟨j, hj, rfl⟩ := List.getElem_of_mem hs
    have := h j hj
    rw [show ss.getD j ByteArray.empty = ss[j] by simp [List.getD, hj]] at this
    simp [this]
  simp [okS, h1, h2, hl]
theorem mayS_mk (n : Nat) (ss : List ByteArray) (hn : n ≤ 64) (h : ∀ j, j < ss.length → (ss.getD j ByteArray.empty).size = n) (h1 : 1 ≤ ss.length) (hl : ss.length ≤ 64) : mayS ss = true := by
  rw [mayS, h 0 (by omega), okS_mk9 n ss hn h hl]
  simp; omega
/-- Byte i of block j. -/
def bt (ss : List ByteArray) (j i : Nat) : UInt8 := (ss.getD j ByteArray.empty).data.toList.getD i 0
/-- The xor of two blocks of n bytes. -/
def bx9 (n : Nat) (a b : ByteArray) : ByteArray := ⟨(sumL n [a, b]).toArray⟩
theorem bx9_size (n : Nat) (a b : ByteArray) : (bx9 n a b).size = n := by
  show (sumL n [a, b]).toArray.size = n
  rw [List.size_toArray, sumL_length]
theorem bx9_at (n : Nat) (a b : ByteArray) (i : Nat) (h : i < n) : (bx9 n a b).data.toList.getD i 0 = a.data.toList.getD i 0 ^^^ b.data.toList.getD i 0 := by
  show (sumL n [a, b]).getD i 0 = _
  unfold sumL
  simp only [List.foldl_cons, List.foldl_nil]
  have e : ∀ (l t : List UInt8), i < l.length → (bxL l t).getD i 0 = l.getD i 0 ^^^ t.getD i 0 := fun l t hi => by simp [bxL, List.getD, hi]
  rw [e _ _ (by simp [bxL]; exact h), e _ _ (by simpa using h)]
  simp [List.getD, h]
theorem ext_bytes {a b : ByteArray} (n : Nat) (ha : a.size = n) (hb : b.size = n) (h : ∀ i, i < n → a.data.toList.getD i 0 = b.data.toList.getD i 0) : a = b := by
  have la : a.data.toList.length = n := Array.length_toList.trans ha
  have lb : b.data.toList.length = n := Array.length_toList.trans hb
  apply ByteArray.ext
  apply Array.toList_inj.1
  apply List.ext_getElem (by rw [la, lb])
  intro i h1 h2
  have := h i (by omega)
  simp only [List.getD, List.getElem?_eq_getElem h1, List.getElem?_eq_getElem h2, Option.getD_some] at this
  exact this
theorem bsum_both (a b c : List ByteArray) (zs : List Int) (i l : Nat) (h : ∀ j, j < l → bt c j i = bt a j i ^^^ bt b j i) : bsum c zs i l = bsum a zs i l ^^^ bsum b zs i l := by
  induction l with
  | zero => simp [bsum]
  | succ l ih =>
    have ih := ih (fun j hj => h j (by omega))
    have hl := h l (by omega)
    unfold bt at hl
    unfold bsum
    by_cases hz : zs.getD l 0 = 1
    · rw [if_pos hz, if_pos hz, if_pos hz, ih, hl]
      generalize bsum a zs i l = x
      generalize bsum b zs i l = y
      generalize (a.getD l ByteArray.empty).data.toList.getD i 0 = p
      generalize (b.getD l ByteArray.empty).data.toList.getD i 0 = q
      rw [UInt8.xor_assoc, UInt8.xor_assoc, ← UInt8.xor_assoc y p q, UInt8.xor_comm y p, UInt8.xor_assoc p y q]
    · rw [if_neg hz, if_neg hz, if_neg hz, ih]
theorem bsum_none (c : List ByteArray) (zs : List Int) (i l : Nat) (h : ∀ j, j < l → bt c j i = 0) : bsum c zs i l = 0 := by
  induction l with
  | zero => rfl
  | succ l ih =>
    have ih := ih (fun j hj => h j (by omega))
    have hl := h l (by omega)
    unfold bt at hl
    unfold bsum
    by_cases hz : zs.getD l 0 = 1
    · rw [if_pos hz, ih, hl]; rfl
    · rw [if_neg hz, ih]
theorem symS_size (n : Nat) (ss : List ByteArray) (id : Nat) (hm : mayS ss = true) (h0 : (ss.getD 0 ByteArray.empty).size = n) : (symS ss id).size = n := by
  rw [symS_sum hm id, h0]
  show (bsums _ _ _ _).toArray.size = n
  simp [bsums]
theorem symS_at (n : Nat) (ss : List ByteArray) (id : Nat) (hm : mayS ss = true) (h0 : (ss.getD 0 ByteArray.empty).size = n) (i : Nat) (hi : i < n) : (symS ss id).data.toList.getD i 0 = bsum ss (bitsL (nbRow ss.length id) ss.length) i ss.length := by
  rw [symS_sum hm id, h0]
  show (bsums _ _ _ _).getD i 0 = _
  simp [bsums, List.getD, hi]
/-- Rows of blocks, one xor the other. -/
def zipB (n : Nat) (a b : List ByteArray) (k : Nat) : List ByteArray := (List.range k).map fun i => bx9 n (a.getD i ByteArray.empty) (b.getD i ByteArray.empty)
theorem zipB_succ (n : Nat) (a b : List ByteArray) (k : Nat) : zipB n a b (k + 1) = zipB n a b k ++ [bx9 n (a.getD k ByteArray.empty) (b.getD k ByteArray.empty)] := by simp [zipB, List.range_succ]
theorem zipB_len (n : Nat) (a b : List ByteArray) (k : Nat) : (zipB n a b k).length = k := by simp [zipB]
theorem zipB_at (n : Nat) (a b : List ByteArray) (k i : Nat) (h : i < k) : (zipB n a b k).getD i ByteArray.empty = bx9 n (a.getD i ByteArray.empty) (b.getD i ByteArray.empty) := by simp [zipB, List.getD, h]
theorem zipB_size (n : Nat) (a b : List ByteArray) (k i : Nat) (h : i < k) : ((zipB n a b k).getD i ByteArray.empty).size = n := by rw [zipB_at n a b k i h, bx9_size]
theorem zipB_le (n : Nat) (hn : n ≤ 64) (a b : List ByteArray) (k i : Nat) : ((zipB n a b k).getD i ByteArray.empty).size ≤ maxLen := by
  by_cases h : i < k
  · rw [zipB_size n a b k i h]; unfold maxLen; omega
  · have : (zipB n a b k)[i]? = none := List.getElem?_eq_none (by rw [zipB_len]; omega)
    simp [List.getD, this, maxLen]
/-- A symbol of two rows, one xor the other, is both symbols' xor. -/
theorem sym_both (n k : Nat) (hn : n ≤ 64) (a b : List ByteArray) (id : Nat) (ha : a.length = k) (hb : b.length = k) (h1 : 1 ≤ k) (h64 : k ≤ 64)
    (sa : ∀ j, j < k → (a.getD j ByteArray.empty).size = n) (sb : ∀ j, j < k → (b.getD j ByteArray.empty).size = n) :
    symS (zipB n a b k) id = bx9 n (symS a id) (symS b id) := by
  have ma : mayS a = true := mayS_mk n a hn (fun j hj => sa j (by omega)) (by omega) (by omega)
  have mb : mayS b = true := mayS_mk n b hn (fun j hj => sb j (by omega)) (by omega) (by omega)
  have mc : mayS (zipB n a b k) = true := mayS_mk n _ hn (fun j hj => zipB_size n a b k j (by rw [zipB_len] at hj; exact hj)) (by rw [zipB_len]; exact h1) (by rw [zipB_len]; exact h64)
  refine ext_bytes n (symS_size n _ id mc (zipB_size n a b k 0 (by omega))) (bx9_size _ _ _) fun i hi => ?_
  rw [symS_at n _ id mc (zipB_size n a b k 0 (by omega)) i hi, bx9_at n _ _ i hi, symS_at n a id ma (sa 0 (by omega)) i hi, symS_at n b id mb (sb 0 (by omega)) i hi, zipB_len, ha, hb]
  refine bsum_both a b _ _ i k fun j hj => ?_
  unfold bt
  rw [zipB_at n a b k j hj, bx9_at n _ _ i hi]
/-- A symbol of a row xor itself is bytes 0. -/
theorem sym_none (n k : Nat) (hn : n ≤ 64) (a : List ByteArray) (id : Nat) (h1 : 1 ≤ k) (h64 : k ≤ 64) : noughtL (symS (zipB n a a k) id).data.toList = true ∧ (symS (zipB n a a k) id).size = n := by
  have mc : mayS (zipB n a a k) = true := mayS_mk n _ hn (fun j hj => zipB_size n a a k j (by rw [zipB_len] at hj; exact hj)) (by rw [zipB_len]; exact h1) (by rw [zipB_len]; exact h64)
  have hs := symS_size n _ id mc (zipB_size n a a k 0 (by omega))
  refine ⟨List.all_eq_true.2 fun x hx => ?_, hs⟩
  obtain ⟨i, hi, rfl⟩ := List.getElem_of_mem hx
  have hi' : i < n := by
    have : (symS (zipB n a a k) id).data.toList.length = n := Array.length_toList.trans hs
    omega
  have := symS_at n _ id mc (zipB_size n a a k 0 (by omega)) i hi'
  rw [zipB_len, bsum_none _ _ i k (fun j hj => by unfold bt; rw [zipB_at n a a k j hj, bx9_at n _ _ i hi', UInt8.xor_self])] at this
  simp only [List.getD, List.getElem?_eq_getElem hi, Option.getD_some] at this
  simp [this]
/-- What was cut is joined as it was. -/
theorem catL_blk (s : ByteArray) (n : Nat) (k : Nat) (h : ∀ i, i < k → i * n ≤ s.size) : catL (blkL s n k) = (List.range (k * n)).map (byteZ s) := by
  induction k with
  | zero => simp [catL, blkL]
  | succ k ih =>
    have ih := ih (fun i hi => h i (by omega))
    have e : catL (blkL s n (k + 1)) = catL (blkL s n k) ++ (blkN s n (k * n)).data.toList := by
      rw [blkL_succ]; unfold catL; rw [List.map_append, List.flatten_append]; simp
    rw [e, ih, blkN_list s n (k * n) (h k (by omega)), Nat.succ_mul, List.range_add, List.map_append, List.map_map]
    rfl
theorem cat_back (s : ByteArray) (n : Nat) (hn : 1 ≤ n) : (catS (blkL s n (cntN s n))).extract 0 s.size = s := by
  have hc := catL_blk s n (cntN s n) (fun i hi => Nat.le_of_lt ((cntN_iff s n i hn).1 hi))
  have hge : s.size ≤ cntN s n * n := by
    by_cases h : cntN s n * n < s.size
    · have := (cntN_iff s n (cntN s n) hn).2 h; omega
    · omega
  apply ByteArray.ext
  apply Array.toList_inj.1
  have e1 : ((catS (blkL s n (cntN s n))).extract 0 s.size).data.toList = ((catS (blkL s n (cntN s n))).data.toList).take s.size := by
    rw [← ByteArray.toList_eq]
    have := Lib.extract_toList (catS (blkL s n (cntN s n))) 0 s.size
    simpa using this
  have e2 : (catS (blkL s n (cntN s n))).data.toList = catL (blkL s n (cntN s n)) := by simp [catS]
  have hl : s.data.toList.length = s.size := Array.length_toList
  rw [e1, e2, hc]
  apply List.ext_getElem
  · simp; omega
  · intro i h1 h2
    have hi : i < s.size := by omega
    rw [List.getElem_take, List.getElem_map, List.getElem_range, byteZ, if_pos hi]
    simp only [List.getD, List.getElem?_eq_getElem h2, Option.getD_some]
theorem sumS_bx (n : Nat) (a b : ByteArray) (ha : a.size = n) (hb : b.size = n) (hn : n ≤ 64) : sumS a.size [a, b] = bx9 n a b ∧ sumE a.size [a, b] = 0 := by
  have h : okS (a.size : Nat) [a, b] = true := okS_mk9 a.size [a, b] (by omega) (fun j hj => by
    match j, hj with
    | 0, _ => rfl
    | 1, _ => show b.size = a.size; omega) (by simp)
  refine ⟨?_, sumE_ok h⟩
  rw [sumS, if_pos h, Int.toNat_natCast, ha]
  rfl
end
section
/- A law of one's own: an append to one of two rows of the same element type: it stays in its block, or moves to a new one. No program. -/
set_option linter.unusedVariables false
set_option linter.unusedSimpArgs false
open Go.RowKit
theorem own_lowA {w : World} {base base' e size n : Nat} {v : Value} {xs : List Value} (h : w.ownsRow base e size v n xs) (hb : base' ≤ base) : w.ownsRow base' e size v n xs := by
  refine ⟨h.1, ?_⟩
  rcases h.2 with h0 | ⟨g, cap, cur, rfl, h1, h2⟩
  · exact .inl h0
  · exact .inr ⟨g, cap, cur, rfl, Nat.le_trans hb h1, h2⟩
theorem wpList_append_apart {P : Program} (w : World) {ops : Array Oper} {rest : List Oper} {o : Oper} {a : Act} {Q : Exit → Act → World → Prop}
    (hg : o.guard = none) (s x : Operand) (t : TypeId) (hop : o.op = Op.call { callee := Callee.builtin Builtin.append, args := #[s, x], argTypes := #[t, t] })
    (base : Nat) (e : TypeId) (i : TypeInfo) (z : Value) (size bytes : Nat) (h1 : P.underlying t = some (.slice e)) (h2 : P.info? e = some i) (h3 : i.zero = some z) (h4 : i.size = size) (h5 : i.bytes = bytes) (h6 : z.cells.size = size) (h7 : 0 < size)
    (v : Value) (n : Nat) (xs : List Value) (hs : a.eval s = v) (hown : w.ownsRow base e size v n xs)
    (ad : Addr) (m c : Nat) (news : List Value) (hx : a.eval x = .slice (some ad) m c) (hn : news.length = m * size) (hc : ∀ j u, news[j]? = some u → w.cell? (ad.add j) = some u) (h1c : ∀ u ∈ news, u.oneCell' = true)
    (b1 : n + m ≤ maxLen) (b2 : (n + m) * bytes ≤ 140737488355328) (hbase : base ≤ w.heap.size) (hm : 0 < m)
    (hK : ∀ v' w', w'.ownsRow base e size v' (n + m) (xs ++ news) → w.grownBy w' v.ownBlock → (v'.ownBlock = v.ownBlock ∨ ∀ k, v'.ownBlock = some k → w.heap.size ≤ k) → wpList P ops Q rest (a.put o.dst v') w') :
    wpList P ops Q (o :: rest) a w := by
  have weak : ∀ {w' : World} {row : Option Nat}, w.grownBy w' none → w.grownBy w' row := fun hgr => ⟨hgr.os, hgr.tape, hgr.output, hgr.size, fun k hk _ => hgr.block k hk (fun h => by cases h)⟩
  have far : ∀ {v' : Value} {w' : World}, w'.ownsRow w.heap.size e size v' (n + m) (xs ++ news) → ∀ k, v'.ownBlock = some k → w.heap.size ≤ k := fun ho k hk => (ho.lt k hk).1
  rcases hown.2 with ⟨rfl, h0⟩ | ⟨g, cap, cur, rfl, hbg, hh, hnc, hcm, hcs, htake⟩
  · exact wpList_append_grows w hg s x t hop e i z size bytes h1 h2 h3 h4 h5 h6 h7 none 0 0 xs hs (fun _ => ⟨rfl, rfl⟩) (by rw [hown.1, h0]) (fun _ h => by cases h) ad m c news hx hn hc h1c (by omega) (by omega) (by rw [h0] at b2; exact b2)
      (fun v' w' ho hgr => hK v' w' (own_lowA (by rw [h0]; exact ho) hbase) (weak hgr) (.inr (far (by rw [h0]; exact ho))))
  · by_cases hroom : n + m ≤ cap
    · exact wpList_append_fits w hg s x t hop base e i size h1 h2 h4 g n cap xs hs hown ad m c news hx hn hc h1c hroom (fun w' ho hgr => hK _ w' ho hgr (.inl rfl))
    · exact wpList_append_grows w hg s x t hop e i z size bytes h1 h2 h3 h4 h5 h6 h7 (some ⟨g, 0, none⟩) n cap xs hs (fun h => by cases h) hown.1 (fun b hb => by injection hb with hb; subst hb; exact hown.cells (g := g) rfl) ad m c news hx hn hc h1c (by omega) b1 b2
        (fun v' w' ho hgr => hK v' w' (own_lowA ho hbase) (weak hgr) (.inr (far ho)))
/-- Two rows that share no block. -/
def Apart (u v : Value) : Prop := ∀ k, u.ownBlock = some k → v.ownBlock ≠ some k
theorem Apart.symm {u v : Value} (h : Apart u v) : Apart v u := fun k hk hu => h k hu hk
theorem Apart.keeps {u v : Value} (h : Apart u v) : v.ownBlock = none ∨ v.ownBlock ≠ u.ownBlock := by
  cases hv : v.ownBlock with
  | none => exact .inl rfl
  | some k => exact .inr fun e => h k e.symm hv
theorem Apart.next {w : World} {base e size n : Nat} {u u' v : Value} {xs : List Value} (h : Apart u v) (hv : w.ownsRow base e size v n xs) (hu : u'.ownBlock = u.ownBlock ∨ ∀ k, u'.ownBlock = some k → w.heap.size ≤ k) : Apart u' v := by
  intro k hk hkv
  rcases hu with hu | hu
  · exact h k (hu ▸ hk) hkv
  · have h1 := hu k hk
    have h2 := (hv.lt k hkv).2
    omega
end
section
/- EncodeSums: the walk. -/
set_option linter.unusedVariables false
set_option linter.unusedSimpArgs false
open Go.RowKit
set_option maxRecDepth 100000
def cutK (s : ByteArray) (k : Nat) : ByteArray := s.extract 0 (min s.size (20 * k))
theorem cutK_eq (s : ByteArray) (k m : Nat) (hm : (m : Int) = min (s.size : Int) (20 * (k : Int))) : s.extract 0 m = cutK s k := by
  unfold cutK
  congr 1
  omega
theorem cutK_size (s : ByteArray) (k : Nat) : (cutK s k).size ≤ 20 * k := by simp [cutK, ByteArray.size_extract]; omega
theorem bx_any (n : Nat) (a b : ByteArray) (hn : n ≤ 64) (ha : a.size = n) (hb : b.size = n) (w : World) :
    Calls Tryd.prog 19 #[.string a, .string b] w fun e w' => e = .returned (.tuple #[.string (bx9 n a b), .int .i64 0]) ∧ Below w.heap.size w w' := by
  have h := bxor_any a b (by unfold maxLen; omega) (by unfold maxLen; omega) w
  obtain ⟨e1, e2⟩ := sumS_bx n a b ha hb hn
  rw [e1, e2] at h
  exact h
theorem cnt_bd (s : ByteArray) (k : Nat) (hk : 1 ≤ k) (h1 : 1 ≤ s.size) (h2 : s.size ≤ 20 * k) : 1 ≤ cntN s k ∧ cntN s k ≤ 20 ∧ s.size ≤ cntN s k * k := by
  refine ⟨(cntN_iff s k 0 hk).2 (by omega), ?_, ?_⟩
  · by_cases h : 20 < cntN s k
    · have := (cntN_iff s k 20 hk).1 h; omega
    · omega
  · by_cases h : cntN s k * k < s.size
    · have := (cntN_iff s k (cntN s k) hk).2 h; omega
    · omega
theorem may_blk (s : ByteArray) (k : Nat) (hk : 1 ≤ k) (hk64 : k ≤ 64) (h1 : 1 ≤ s.size) (h2 : s.size ≤ 20 * k) : mayS (blkL s k (cntN s k)) = true := by
  obtain ⟨b1, b2, -⟩ := cnt_bd s k hk h1 h2
  exact mayS_mk k _ hk64 (fun j hj => blkL_size s k j hk (by rw [blkL_len] at hj; exact hj)) (by rw [blkL_len]; exact b1) (by rw [blkL_len]; omega)
theorem str_ne {s : ByteArray} (h : 1 ≤ s.size) : ¬ s.toList = [] ∧ s.toList.isEmpty = false := by
  have hne : ¬ s.toList = [] := fun h' => by
    rw [ByteArray.toList_eq] at h'
    have e : s.data.toList.length = s.size := Array.length_toList
    rw [h'] at e; simp at e; omega
  exact ⟨hne, by simpa using hne⟩
theorem str_eq {s : ByteArray} (h : s.size = 0) : s.toList = [] := by
  rw [ByteArray.toList_eq]
  exact List.length_eq_zero_iff.1 (Array.length_toList.trans h)
set_option maxHeartbeats 16000000 in
theorem esums_walk (s t : ByteArray) (n0 : Int) (id : Nat) (W : World) (hs : s.size ≤ maxLen) (ht : t.size ≤ maxLen) (hn1 : -9223372036854775808 ≤ n0) (hn2 : n0 ≤ 9223372036854775807) (hi : id < 18446744073709551616) (hT0 : TabAt W 1) :
    Calls Tryd.prog 5 #[.string s, .string t, .int .i64 n0, .int .u64 (id : Int)] W fun e w' => e = .returned (.bool true) ∧ Below W.heap.size W w' := by
  have HT := Lib.hid hT0
  have HI := Lib.hid hi
  unfold maxLen at hs ht
  clear hT0 hi
  go_enter Tryd.func5, Tryd.ntmps5
  go_upto_region 1 with (fail)
  go_cut [2] (fun v wx => ∃ k : Nat, 1 ≤ k ∧ k ≤ 64 ∧ v = .int .i64 (k : Int) ∧ W = wx)
  case first =>
    have h1 : -64 < n0.tmod 64 := by have := Int.lt_tmod_of_pos n0 (show (0 : Int) < 64 by omega); omega
    have h2 : n0.tmod 64 < 64 := Int.tmod_lt_of_pos n0 (by omega)
    by_cases hp : 0 ≤ n0
    · have e : n0.tmod 64 = n0 % 64 := Int.tmod_eq_emod_of_nonneg hp
      go_wp2_with fail
      go_meet
      refine ⟨((n0 % 64 + 64) % 64 + 1).toNat, by omega, by omega, ?_, rfl⟩
      congr 1
      omega
    · go_wp2_with fail
      go_meet
      refine ⟨(n0.tmod 64 % 64 + 1).toNat, by omega, by omega, ?_, rfl⟩
      congr 1
      omega
  case rest =>
  obtain ⟨k, hk1, hk2, rfl, rfl⟩ := hcut
  obtain ⟨m1, em1⟩ : ∃ m, m = min s.size (20 * k) := ⟨_, rfl⟩
  obtain ⟨m2, em2⟩ : ∃ m, m = min t.size (20 * k) := ⟨_, rfl⟩
  have mm1 : min (s.size : Int) (20 * (k : Int)) = (m1 : Int) := by omega
  have mm2 : min (t.size : Int) (20 * (k : Int)) = (m2 : Int) := by omega
  have l1 : m1 ≤ s.size := by omega
  have l2 : m2 ≤ t.size := by omega
  have HE1 := Lib.hid (cutK_eq s k m1 mm1.symm)
  have HE2 := Lib.hid (cutK_eq t k m2 mm2.symm)
  clear em1 em2 hn1 hn2
  go_upto_region 2 with (fail)
  go_cut [0, 1] (fun a b wx => a = .string (cutK s k) ∧ b = .string (cutK t k) ∧ TabAt wx 1 ∧ Below wx.heap.size wx wx ∧ Below W.heap.size W wx)
  case first =>
    go_region
    all_goals (go_wp2_with fail; go_meet; exact ⟨by rw [HE1.out], by rw [HE2.out], HT.out, Below.refl _ _, (Below.refl _ _).drew⟩)
  case rest =>
  obtain ⟨rfl, rfl, hT, -, hB⟩ := hcut
  have z1 := cutK_size s k
  have z2 := cutK_size t k
  have HT := Lib.hid hT
  have HB := Lib.hid hB
  clear hT hB HE1 HE2 mm1 mm2 l1 l2 hs ht
  generalize cutK s k = s at *
  generalize cutK t k = t at *
  by_cases hs0 : s.size = 0
  · have e1 := str_eq hs0
    have e2 : s.toList.isEmpty = true := by rw [e1]; rfl
    go_wp2_with fail
    refine (encCut_empty s k _ (by omega) (by omega) hs0).mono ?_
    rintro e x1 ⟨A2, c2, rfl, p1, p2, hy, hb⟩
    have HT := Lib.hid (HT.out.below hb)
    have HB := Lib.hid (HB.out.trans (hb.mono HB.out.size))
    clear hb hy hs0
    go_wp2_with fail
    refine (alive9_any _ HT.out).mono ?_
    rintro e x5 ⟨rfl, hb⟩
    have HB := Lib.hid (HB.out.trans (hb.mono HB.out.size))
    clear hb
    go_wp2_with fail
    go_ret
    exact ⟨by simp [e1], HB.out⟩
  · have hs1 : 1 ≤ s.size := by omega
    obtain ⟨ne1, ne2⟩ := str_ne hs1
    obtain ⟨b1, b2, b3⟩ := cnt_bd s k hk1 hs1 z1
    have HM := Lib.hid (may_blk s k hk1 hk2 hs1 z1)
    have HC := Lib.hid (cat_back s k hk1)
    have HLen := Lib.hid (blkL_len s k (cntN s k))
    have HSz := Lib.hid (fun j (hj : j < cntN s k) => blkL_size s k j hk1 hj)
    have hge : s.size ≤ (blkL s k (cntN s k)).length * ((blkL s k (cntN s k)).getD 0 ByteArray.empty).size := by rw [HLen.out, HSz.out 0 (by omega)]; exact b3
    have HGe := Lib.hid hge
    clear hge
    go_wp2_with fail
    refine (encCut_yes s k _ hk1 hk2 hs1 (by omega)).mono ?_
    rintro e x1 ⟨A1, c1, rfl, p1, p2, hy, hb⟩
    have HT := Lib.hid (HT.out.below hb)
    have HB := Lib.hid (HB.out.trans (hb.mono HB.out.size))
    have HA := Lib.hid hy
    have P1 := Lib.hid p1
    have P2 := Lib.hid p2
    clear hb hy p1 p2
    generalize blkL s k (cntN s k) = a at *
    generalize cntN s k = K at *
    obtain rfl : K = a.length := HLen.out.symm
    clear HLen
    go_wp2_with fail
    refine (encJoin_yes A1 _ c1 a s.size _ HA.out P1.out P2.out HM.out HGe.out).mono ?_
    rw [HC.out]
    rintro e x2 ⟨rfl, hb⟩
    have HT := Lib.hid (HT.out.below hb)
    have HB := Lib.hid (HB.out.trans (hb.mono HB.out.size))
    have HA := Lib.hid (HA.out.below hb)
    clear hb
    go_wp2_with fail
    refine (alive9_any _ HT.out).mono ?_
    rintro e x3 ⟨rfl, hb⟩
    have HT := Lib.hid (HT.out.below hb)
    have HB := Lib.hid (HB.out.trans (hb.mono HB.out.size))
    have HA := Lib.hid (HA.out.below hb)
    clear hb ne1 ne2 HC HGe
    go_wp2_with fail
    by_cases ht0 : t.size = 0
    · have e1 := str_eq ht0
      have e2 : t.toList.isEmpty = true := by rw [e1]; rfl
      refine (encCut_empty t k _ (by omega) (by omega) ht0).mono ?_
      rintro e x4 ⟨A2, c2, rfl, p1, p2, hy, hb⟩
      have HB := Lib.hid (HB.out.trans (hb.mono HB.out.size))
      clear hb hy ht0
      go_wp2_with fail
      go_ret
      exact ⟨by simp [e1], HB.out⟩
    · have ht1 : 1 ≤ t.size := by omega
      have HMb := Lib.hid (may_blk t k hk1 hk2 ht1 z2)
      have HLen := Lib.hid (blkL_len t k (cntN t k))
      have HSzb := Lib.hid (fun j (hj : j < cntN t k) => blkL_size t k j hk1 hj)
      refine (encCut_yes t k _ hk1 hk2 ht1 (by omega)).mono ?_
      rintro e x4 ⟨A2, c2, rfl, p1, p2, hy, hb⟩
      have HT := Lib.hid (HT.out.below hb)
      have HB := Lib.hid (HB.out.trans (hb.mono HB.out.size))
      have HA := Lib.hid (HA.out.below hb)
      have HD := Lib.hid hy
      have R1 := Lib.hid p1
      have R2 := Lib.hid p2
      clear hb hy p1 p2 ht0
      generalize blkL t k (cntN t k) = b at *
      generalize cntN t k = M at *
      obtain rfl : M = b.length := HLen.out.symm
      clear HLen
      by_cases hl : a.length = b.length
      · generalize hKK : a.length = K at *
        have HLA := Lib.hid hKK
        have HLB := Lib.hid hl.symm
        clear hKK
        rw [HLB.out] at HD R1 HSzb
        clear hl
        rw [HLB.out]
        have t1 : ((K : Int) != (K : Int)) = false := by simp
        go_wp2_with fail
        clear t1
        obtain ⟨i0, hi, hz0, hz1, hz2⟩ := info_parts string_info
        have HI0 := Lib.hid hi
        have HZ0 := Lib.hid hz0
        have HZ1 := Lib.hid hz1
        have HZ2 := Lib.hid hz2
        have HK64 := Lib.hid (show K ≤ 20 from b2)
        clear hi hz0 hz1 hz2 b3
        go_loopw [15, 16, 105] (fun u v c wr => ∃ i : Nat, i ≤ K ∧ c = .int .i64 i ∧ wr.ownsRow x4.heap.size 9 1 u i ((zipB k a b i).map Value.string) ∧ wr.ownsRow x4.heap.size 9 1 v i ((zipB k a a i).map Value.string) ∧ Hid (Apart u v) ∧ Hid (Below x4.heap.size x4 wr)) (fun _ _ c _ => K - (intOf c).toNat)
        case atStart => exact ⟨0, by omega, rfl, World.ownsRow_nil _ _ _ _, World.ownsRow_nil _ _ _ _, Lib.hid (fun k h => by cases h), Lib.hid (Below.refl _ _)⟩
        case round =>
          obtain ⟨i, hi, rfl, ho1, ho2, HAP, HBl⟩ := hrel
          have O1 := Lib.hid ho1
          have O2 := Lib.hid ho2
          clear ho1 ho2
          by_cases hlt : i < K
          · have hlt' : (i : Int) < (K : Int) := by omega
            obtain ⟨p, o, hA1, lp, hc1⟩ := HA.out.2.2 (by omega)
            obtain ⟨p2, o2, hA2, lp2, hc2⟩ := HD.out.2.2 (by omega)
            subst hA1 hA2
            have ca : wr.cell? ⟨p, o + i, none⟩ = some (.string (a.getD i ByteArray.empty)) := (HBl.out.cell (p := ⟨p, o + i, none⟩) lp).trans (hc1 i hlt)
            have cb : wr.cell? ⟨p2, o2 + i, none⟩ = some (.string (b.getD i ByteArray.empty)) := (HBl.out.cell (p := ⟨p2, o2 + i, none⟩) lp2).trans (hc2 i hlt)
            have LP := Lib.hid lp
            have LP2 := Lib.hid lp2
            have HS1 := Lib.hid (zipB_succ k a b i)
            have HS2 := Lib.hid (zipB_succ k a a i)
            have HX1 := Lib.hid (bx_any k (a.getD i ByteArray.empty) (b.getD i ByteArray.empty) hk2 (HSz.out i hlt) (HSzb.out i hlt))
            have HX2 := Lib.hid (bx_any k (a.getD i ByteArray.empty) (a.getD i ByteArray.empty) hk2 (HSz.out i hlt) (HSz.out i hlt))
            clear hc1 hc2 lp lp2
            generalize a.getD i ByteArray.empty = ai at *
            generalize b.getD i ByteArray.empty = bi at *
            obtain ⟨wo, rfl⟩ : ∃ wo : World, wo = wr := ⟨_, rfl⟩
            go_wp2_with fail
            go_region_held3 (fun w' => w'.cell? ⟨p, o + i, none⟩ = some (.string ai) ∧ w'.cell? ⟨p2, o2 + i, none⟩ = some (.string bi)) (go_keep)
              (first | (go_at_call 19; refine (HX1.out _).mono ?_; rintro f1 y1 ⟨rfl, hb⟩; have Q1 := Lib.hid (own_keep (World.ownsRow.drew O1.out) hb); have Q2 := Lib.hid (own_keep (World.ownsRow.drew O2.out) hb); have QB := Lib.hid (HBl.out.drew.trans (hb.mono HBl.out.size)); have ca1 := (QB.out.cell (p := ⟨p, o + i, none⟩) LP.out).trans ((HBl.out.cell (p := ⟨p, o + i, none⟩) LP.out).symm.trans ca); have cb1 := (QB.out.cell (p := ⟨p2, o2 + i, none⟩) LP2.out).trans ((HBl.out.cell (p := ⟨p2, o2 + i, none⟩) LP2.out).symm.trans cb); clear hb))
            clear ca cb cb1
            go_wp2_with fail
            go_region_held3 (fun w' => w'.cell? ⟨p, o + i, none⟩ = some (.string ai)) (go_keep)
              (first | (go_at_call 19; refine (HX2.out _).mono ?_; rintro f2 y2 ⟨rfl, hb⟩; have S1 := Lib.hid (own_keep (World.ownsRow.drew Q1.out) hb); have S2 := Lib.hid (own_keep (World.ownsRow.drew Q2.out) hb); have SB := Lib.hid (QB.out.drew.trans (hb.mono QB.out.size)); have ca2 := (SB.out.cell (p := ⟨p, o + i, none⟩) LP.out).trans ((QB.out.cell (p := ⟨p, o + i, none⟩) LP.out).symm.trans ca1); clear hb))
            clear ca1 ca2
            generalize bx9 k ai bi = xb at *
            generalize bx9 k ai ai = xn at *
            have hi' := HI0.out
            have hz0' := HZ0.out
            have hz1' := HZ1.out
            have hz2' := HZ2.out
            have hKK := HK64.out
            have XO := Lib.hid (World.ownsRow.alloc S1.out (.cells #[.string xb] 9))
            have XO2 := Lib.hid (World.ownsRow.alloc S2.out (.cells #[.string xb] 9))
            have XB := Lib.hid (SB.out.alloc SB.out.size (.cells #[.string xb] 9))
            have N1 := Lib.hid (fun k hk => (S1.out.lt k hk).1)
            have N2 := Lib.hid (fun k hk => (S2.out.lt k hk).1)
            go_wp2_with (first
              | (at_builtin; refine wpList_append_apart _ rfl (.tmp 138) (.tmp 140) 22 rfl x4.heap.size 9 i0 (.string ⟨#[]⟩) 1 16 Tryd.underlying22 hi' hz0' hz1' hz2' rfl (by decide) _ _ _ rfl XO.out ⟨y2.heap.size, 0, none⟩ 1 1 [.string xb] rfl rfl (cell_one_new _ _ _) (by simp [Value.oneCell']) (by simp [maxLen]; omega) (by omega) XB.out.size (by omega) ?_; intro u' w5 hown' hgrow hap; have HC := Lib.hid (XB.out.grown hgrow XB.out.size N1.out); have HO2 := Lib.hid hown'; have HKp := Lib.hid (World.ownsRow.kept XO2.out hgrow HAP.out.keeps); have HAP2 := Lib.hid (HAP.out.next XO2.out hap); clear hown' hgrow hap; have YO := Lib.hid (World.ownsRow.alloc HKp.out (.cells #[.string xn] 9)); have YO2 := Lib.hid (World.ownsRow.alloc HO2.out (.cells #[.string xn] 9)); have YB := Lib.hid (HC.out.alloc HC.out.size (.cells #[.string xn] 9)))
              | (at_builtin; refine wpList_append_apart _ rfl (.tmp 142) (.tmp 144) 22 rfl x4.heap.size 9 i0 (.string ⟨#[]⟩) 1 16 Tryd.underlying22 hi' hz0' hz1' hz2' rfl (by decide) _ _ _ rfl YO.out ⟨w5.heap.size, 0, none⟩ 1 1 [.string xn] rfl rfl (cell_one_new _ _ _) (by simp [Value.oneCell']) (by simp [maxLen]; omega) (by omega) YB.out.size (by omega) ?_; intro v' w6 hown' hgrow hap; have ZC := Lib.hid (YB.out.grown hgrow YB.out.size N2.out); have ZO2 := Lib.hid hown'; have ZKp := Lib.hid (World.ownsRow.kept YO2.out hgrow HAP2.out.symm.keeps); have ZAP := Lib.hid (HAP2.out.symm.next YO2.out hap).symm; clear hown' hgrow hap))
            go_roundw
            case rel =>
              refine ⟨i + 1, by omega, by go_num, ?_, ?_, ZAP, ZC⟩
              · rw [HS1.out, List.map_append]; exact ZKp.out
              · rw [HS2.out, List.map_append]; exact ZO2.out
            case measure => simp [intOf] <;> omega
          · obtain rfl : i = K := by omega
            have hlt' : ¬ (i : Int) < (i : Int) := by omega
            obtain ⟨A5, c5, rfl, r1, r2, r3⟩ := own_texts O1.out (zipB_le k hk2 a b i)
            obtain ⟨A6, c6, rfl, v1, v2, v3⟩ := own_texts O2.out (zipB_le k hk2 a a i)
            have HK := Lib.hid hk2
            have HK64b := Lib.hid (show i ≤ 64 by omega)
            have HM5 := Lib.hid (mayS_mk k (zipB k a b i) hk2 (fun j hj => zipB_size k a b i j (by rw [zipB_len] at hj; exact hj)) (by rw [zipB_len]; exact b1) (by rw [zipB_len]; omega))
            have HM6 := Lib.hid (mayS_mk k (zipB k a a i) hk2 (fun j hj => zipB_size k a a i j (by rw [zipB_len] at hj; exact hj)) (by rw [zipB_len]; exact b1) (by rw [zipB_len]; omega))
            have HSB := Lib.hid (sym_both k i hk2 a b id HLA.out HLB.out b1 (by omega) HSz.out HSzb.out)
            have HSN := Lib.hid (sym_none k i hk2 a id b1 (by omega))
            have sz1 := symS_size k a id HM.out (HSz.out 0 (by omega))
            have sz2 := symS_size k b id HMb.out (HSzb.out 0 (by omega))
            have HZ1s := Lib.hid sz1
            have HZ2s := Lib.hid sz2
            have X5 := Lib.hid r3
            have X6 := Lib.hid v3
            have XA := Lib.hid (HA.out.mono (Nat.le_refl _) HBl.out)
            have XD := Lib.hid (HD.out.mono (Nat.le_refl _) HBl.out)
            have XT := Lib.hid (HT.out.below HBl.out)
            have XB := Lib.hid (HB.out.trans (HBl.out.mono HB.out.size))
            clear r3 v3 sz1 sz2 O1 O2 HA HD HT HB HBl HAP HSz HSzb
            go_wp2_with fail
            refine (encMake_yes A1 i c1 a id _ XA.out P1.out P2.out HI.out XT.out HM.out).mono ?_
            rintro e w1 ⟨rfl, hb⟩
            generalize symS a id = sa at *
            have XA := Lib.hid (XA.out.below hb)
            have XD := Lib.hid (XD.out.below hb)
            have X5 := Lib.hid (X5.out.below hb)
            have X6 := Lib.hid (X6.out.below hb)
            have XT := Lib.hid (XT.out.below hb)
            have XB := Lib.hid (XB.out.trans (hb.mono XB.out.size))
            clear hb
            have hal : Below w1.heap.size w1 (w1.alloc (.cells #[.int .u64 (id : Nat), .string sa] 38)) := (Below.refl _ _).alloc (Nat.le_refl _) _
            have XA := Lib.hid (XA.out.below hal)
            have XD := Lib.hid (XD.out.below hal)
            have X5 := Lib.hid (X5.out.below hal)
            have X6 := Lib.hid (X6.out.below hal)
            have XT := Lib.hid (XT.out.below hal)
            have XB := Lib.hid (XB.out.trans (hal.mono XB.out.size))
            have Q1 := Lib.hid (Box.new w1 38 #[.int .u64 (id : Nat), .string sa])
            clear hal
            go_wp2_with fail
            refine (encMake_yes A2 i c2 b id _ XD.out R1.out R2.out HI.out XT.out HMb.out).mono ?_
            rintro e w2 ⟨rfl, hb⟩
            generalize symS b id = sb at *
            have XA := Lib.hid (XA.out.below hb)
            have XD := Lib.hid (XD.out.below hb)
            have X5 := Lib.hid (X5.out.below hb)
            have X6 := Lib.hid (X6.out.below hb)
            have XT := Lib.hid (XT.out.below hb)
            have XB := Lib.hid (XB.out.trans (hb.mono XB.out.size))
            have Q1 := Lib.hid (Q1.out.keep hb)
            clear hb
            have hal : Below w2.heap.size w2 (w2.alloc (.cells #[.int .u64 (id : Nat), .string sb] 38)) := (Below.refl _ _).alloc (Nat.le_refl _) _
            have XA := Lib.hid (XA.out.below hal)
            have XD := Lib.hid (XD.out.below hal)
            have X5 := Lib.hid (X5.out.below hal)
            have X6 := Lib.hid (X6.out.below hal)
            have XT := Lib.hid (XT.out.below hal)
            have XB := Lib.hid (XB.out.trans (hal.mono XB.out.size))
            have Q1 := Lib.hid (Q1.out.keep hal)
            have Q2 := Lib.hid (Box.new w2 38 #[.int .u64 (id : Nat), .string sb])
            clear hal
            go_wp2_with fail
            refine (encMake_yes A5 i c5 (zipB k a b i) id _ X5.out r1 r2 HI.out XT.out HM5.out).mono ?_
            rintro e w3 ⟨rfl, hb⟩
            have XA := Lib.hid (XA.out.below hb)
            have XD := Lib.hid (XD.out.below hb)
            have X5 := Lib.hid (X5.out.below hb)
            have X6 := Lib.hid (X6.out.below hb)
            have XT := Lib.hid (XT.out.below hb)
            have XB := Lib.hid (XB.out.trans (hb.mono XB.out.size))
            have Q1 := Lib.hid (Q1.out.keep hb)
            have Q2 := Lib.hid (Q2.out.keep hb)
            clear hb
            have hal : Below w3.heap.size w3 (w3.alloc (.cells #[.int .u64 (id : Nat), .string (symS (zipB k a b i) id)] 38)) := (Below.refl _ _).alloc (Nat.le_refl _) _
            have XA := Lib.hid (XA.out.below hal)
            have XD := Lib.hid (XD.out.below hal)
            have X5 := Lib.hid (X5.out.below hal)
            have X6 := Lib.hid (X6.out.below hal)
            have XT := Lib.hid (XT.out.below hal)
            have XB := Lib.hid (XB.out.trans (hal.mono XB.out.size))
            have Q1 := Lib.hid (Q1.out.keep hal)
            have Q2 := Lib.hid (Q2.out.keep hal)
            have Q5 := Lib.hid (Box.new w3 38 #[.int .u64 (id : Nat), .string (symS (zipB k a b i) id)])
            clear hal
            go_wp2_with fail
            refine (encMake_yes A6 i c6 (zipB k a a i) id _ X6.out v1 v2 HI.out XT.out HM6.out).mono ?_
            rintro e w4 ⟨rfl, hb⟩
            have XA := Lib.hid (XA.out.below hb)
            have XD := Lib.hid (XD.out.below hb)
            have X5 := Lib.hid (X5.out.below hb)
            have X6 := Lib.hid (X6.out.below hb)
            have XT := Lib.hid (XT.out.below hb)
            have XB := Lib.hid (XB.out.trans (hb.mono XB.out.size))
            have Q1 := Lib.hid (Q1.out.keep hb)
            have Q2 := Lib.hid (Q2.out.keep hb)
            have Q5 := Lib.hid (Q5.out.keep hb)
            clear hb
            have hal : Below w4.heap.size w4 (w4.alloc (.cells #[.int .u64 (id : Nat), .string (symS (zipB k a a i) id)] 38)) := (Below.refl _ _).alloc (Nat.le_refl _) _
            have XA := Lib.hid (XA.out.below hal)
            have XD := Lib.hid (XD.out.below hal)
            have X5 := Lib.hid (X5.out.below hal)
            have X6 := Lib.hid (X6.out.below hal)
            have XT := Lib.hid (XT.out.below hal)
            have XB := Lib.hid (XB.out.trans (hal.mono XB.out.size))
            have Q1 := Lib.hid (Q1.out.keep hal)
            have Q2 := Lib.hid (Q2.out.keep hal)
            have Q5 := Lib.hid (Q5.out.keep hal)
            have Q6 := Lib.hid (Box.new w4 38 #[.int .u64 (id : Nat), .string (symS (zipB k a a i) id)])
            clear hal
            have HN1 := HSN.out.1
            have HN2 := HSN.out.2
            rw [HSB.out] at Q5
            generalize symS (zipB k a a i) id = sn at *
            obtain ⟨g0, g1, -, -⟩ := Q1.out.two
            obtain ⟨g2, g3, -, -⟩ := Q2.out.two
            obtain ⟨g4, g5, -, -⟩ := Q5.out.two
            obtain ⟨g6, g7, -, -⟩ := Q6.out.two
            have hn2 : (sn.size : Int) = (k : Int) := by rw [HN2]
            have hn3 : ((sn.size : Int) == (k : Int)) = true := by rw [hn2]; simp
            have HX := Lib.hid (bx_any k sa sb HK.out HZ1s.out HZ2s.out)
            have HNo := Lib.hid (nought_any sn (by unfold maxLen; rw [HN2]; have := HK.out; omega))
            rw [HN1] at HNo
            clear HN1 HN2 HSN HSB hn2
            have HN3 := Lib.hid hn3
            clear hn3
            go_wp2_with fail
            refine (HX.out _).mono ?_
            rintro e w5 ⟨rfl, hb⟩
            clear g0 g1 g2 g3 g4 g5 g6 g7
            obtain ⟨g0, g1, -, -⟩ := (Q1.out.keep hb).two
            obtain ⟨g4, g5, -, -⟩ := (Q5.out.keep hb).two
            obtain ⟨g6, g7, -, -⟩ := (Q6.out.keep hb).two
            have XB := Lib.hid (XB.out.trans (hb.mono XB.out.size))
            clear hb HX
            generalize bx9 k sa sb = xs at *
            have t1 := HN3.out
            go_wp2_with fail
            refine (HNo.out _).mono ?_
            rintro e w6 ⟨rfl, rfl⟩
            go_wp2_with fail
            go_ret
            exact ⟨by simp, XB.out⟩
      · have t1 : ((a.length : Int) != (b.length : Int)) = true := by simp; omega
        go_wp2_with fail
        go_ret
        exact ⟨by simp, HB.out⟩
end
section
/- How a row (a struct with a slice of words) and a slice of ints that came in are opened. -/
set_option linter.unusedVariables false
set_option linter.unusedSimpArgs false
open Go.RowKit Go.Joins Go.ChangeShapes Go.WideShapes
theorem cellsRow : Tryd.prog.cellsOf 58 = 2 := by kernel_rfl
theorem cellsU64 : Tryd.prog.cellsOf 35 = 1 := by kernel_rfl
theorem cellsInt : Tryd.prog.cellsOf 3 = 1 := by kernel_rfl
theorem addr_at {w : World} {a : Addr} {v : Value} (h : w.cell? (a.add 0) = some v) : ∃ b o, a = ⟨b, o, none⟩ := by
  obtain ⟨b, o, s⟩ := a
  have := World.cell?_spot h
  simp [Addr.add] at this
  subst this
  exact ⟨b, o, rfl⟩
theorem open_words {H : Type} {enc : TypeId × Value → H} {W : World} {fuel : Nat} {cs : List Value} {x : DataW H × List MemPlace}
    (h : DataW.trod enc Tryd.prog W 0 (fun _ => true) true fuel 36 cs = some x) : ∃ A l c us, cs = [.slice A l c] ∧ SliceOk A l c ∧ Words W A l us := by
  rcases open_ints Tryd.underlying36 Tryd.underlying35 cellsU64 h with ⟨hcs, _⟩ | ⟨a, len, cap, zs, hcs, _, hl, hm, hz, _, hcell, hwz⟩
  · exact ⟨none, 0, 0, [], hcs, ⟨Nat.le_refl _, Nat.zero_le _, fun _ => ⟨rfl, rfl⟩⟩, Words.nil _ _⟩
  · have hz' : zs.length = cap := by simpa using hz
    refine ⟨some a, len, cap, (zs.take len).map Int.toNat, hcs, ⟨hl, hm, fun h => by cases h⟩, ?_⟩
    have hget : ∀ j, j < len → ((zs.take len).map Int.toNat).getD j 0 = (zs.getD j 0).toNat := fun j hj => by
      have : j < zs.length := by omega
      simp [List.getD, hj, this]
    have hbd := range_u64 hwz
    refine ⟨by simp; omega, fun j => ?_, fun hp => ?_⟩
    · by_cases hj : j < len
      · rw [hget j hj]
        have := hbd j
        simp only [List.getD]
        omega
      · have hn : ((zs.take len).map Int.toNat)[j]? = none := List.getElem?_eq_none (by simp; omega)
        simp only [List.getD, hn, Option.getD_none]
        omega
    · obtain ⟨b, o, rfl⟩ := addr_at (hcell 0 (by omega))
      have hadd : ∀ j, Addr.add { block := b, off := o } j = ⟨b, o + j, none⟩ := fun j => by
        by_cases h : j = 0 <;> simp [Addr.add, h]
      refine ⟨b, o, rfl, ?_, fun j hj => ?_⟩
      · have := block_lt_of_cell (hcell 0 (by omega))
        rw [hadd] at this
        exact this
      · have := hcell j (by omega)
        rw [hadd] at this
        rw [this, hget j hj]
        have := hbd j
        have e : ((zs.getD j 0).toNat : Int) = zs.getD j 0 := by simp only [List.getD]; omega
        rw [e]
theorem open_nums {H : Type} {enc : TypeId × Value → H} {W : World} {fuel : Nat} {cs : List Value} {x : DataW H × List MemPlace}
    (h : DataW.trod enc Tryd.prog W 0 (fun _ => true) true fuel 62 cs = some x) : ∃ A l c zs, cs = [.slice A l c] ∧ SliceOk A l c ∧ Ints W A l zs := by
  rcases open_ints Tryd.underlying62 Tryd.underlying3 cellsInt h with ⟨hcs, _⟩ | ⟨a, len, cap, zs, hcs, _, hl, hm, hz, _, hcell, hwz⟩
  · exact ⟨none, 0, 0, [], hcs, ⟨Nat.le_refl _, Nat.zero_le _, fun _ => ⟨rfl, rfl⟩⟩, Ints.nil _ _⟩
  · have hz' : zs.length = cap := by simpa using hz
    refine ⟨some a, len, cap, zs.take len, hcs, ⟨hl, hm, fun h => by cases h⟩, ?_⟩
    have hget : ∀ j, j < len → (zs.take len).getD j 0 = zs.getD j 0 := fun j hj => by
      simp [List.getD, hj]
    have hbd := range_i64 hwz
    refine ⟨by simp; omega, fun j => ?_, fun hp => ?_⟩
    · by_cases hj : j < len
      · rw [hget j hj]
        have := hbd j
        simpa only [List.getD] using this
      · have hn : (zs.take len)[j]? = none := List.getElem?_eq_none (by simp; omega)
        simp [List.getD, hn]
    · obtain ⟨b, o, rfl⟩ := addr_at (hcell 0 (by omega))
      have hadd : ∀ j, Addr.add { block := b, off := o } j = ⟨b, o + j, none⟩ := fun j => by
        by_cases h : j = 0 <;> simp [Addr.add, h]
      refine ⟨b, o, rfl, ?_, fun j hj => ?_⟩
      · have := block_lt_of_cell (hcell 0 (by omega))
        rw [hadd] at this
        exact this
      · have := hcell j (by omega)
        rw [hadd] at this
        rw [this, hget j hj]
set_option maxRecDepth 100000 in
theorem open_row {H : Type} {enc : TypeId × Value → H} {W : World} {r : Reach} {b0 : Nat} {v : Value} {d : DataW H} {p : List MemPlace}
    (hv : Value.okWide Tryd.prog W r b0 58 v) (h : DataW.Trod enc Tryd.prog W 0 (fun _ => true) true 58 v d p) :
    ∃ n A l c us, v = .agg #[.int .i64 n, .slice A l c] ∧ (Lit.int .i64 n).wf = true ∧ SliceOk A l c ∧ Words W A l us := by
  obtain ⟨c0, c1, y0, y1, m, rfl, rfl, rfl, hy0, hy1⟩ := open_agg2 Tryd.underlying58 (by kernel_rfl) cellsRow hv h
  obtain ⟨a, e0, -, wa⟩ := DataW.trod_int Tryd.underlying3 hy0
  obtain ⟨A, l, c, us, e1, hs, hw⟩ := open_words hy1
  simp at e0 e1
  subst e0 e1
  exact ⟨a, A, l, c, us, rfl, wa, hs, hw⟩
end
section
/- How a slice of texts that came in is opened. -/
set_option linter.unusedVariables false
set_option linter.unusedSimpArgs false
open Go.RowKit Go.Joins Go.ChangeShapes Go.WideShapes
theorem cellsStr : Tryd.prog.cellsOf 9 = 1 := by kernel_rfl
theorem open_texts {H : Type} {enc : TypeId × Value → H} {W : World} {fuel : Nat} {cs : List Value} {x : DataW H × List MemPlace}
    (h : DataW.trod enc Tryd.prog W 0 (fun _ => true) true fuel 22 cs = some x) : ∃ A l c ss, cs = [.slice A l c] ∧ SliceOk A l c ∧ Texts W A l ss := by
  rcases open_strings Tryd.underlying22 Tryd.underlying9 cellsStr h with ⟨hcs, _⟩ | ⟨a, len, cap, ss, hcs, _, hl, hm, hz, _, hcell, hwz⟩
  · exact ⟨none, 0, 0, [], hcs, ⟨Nat.le_refl _, Nat.zero_le _, fun _ => ⟨rfl, rfl⟩⟩, Texts.nil _ _⟩
  · have hz' : ss.length = cap := by simpa using hz
    refine ⟨some a, len, cap, ss.take len, hcs, ⟨hl, hm, fun h => by cases h⟩, ?_⟩
    have hget : ∀ j, j < len → (ss.take len).getD j ByteArray.empty = ss.getD j ByteArray.empty := fun j hj => by
      simp [List.getD, hj]
    refine ⟨by simp; omega, fun j => ?_, fun hp => ?_⟩
    · by_cases hj : j < len
      · rw [hget j hj]
        have hjs : j < ss.length := by omega
        have := hwz (ss[j]) (List.getElem_mem _)
        simpa [List.getD, hjs] using this
      · have hn : (ss.take len)[j]? = none := List.getElem?_eq_none (by simp; omega)
        simp [List.getD, hn, maxLen]
    · obtain ⟨b, o, rfl⟩ := addr_at (hcell 0 (by omega))
      have hadd : ∀ j, Addr.add { block := b, off := o } j = ⟨b, o + j, none⟩ := fun j => by
        by_cases h : j = 0 <;> simp [Addr.add, h]
      refine ⟨b, o, rfl, ?_, fun j hj => ?_⟩
      · have := block_lt_of_cell (hcell 0 (by omega))
        rw [hadd] at this
        exact this
      · have := hcell j (by omega)
        rw [hadd] at this
        rw [this, hget j hj]
end
section
/- How a slice of words and a slice of ints that came in are opened (without rows). -/
set_option linter.unusedVariables false
set_option linter.unusedSimpArgs false
open Go.RowKit Go.Joins Go.ChangeShapes Go.WideShapes
end
end Go.Proofs.YtepgjimkhodcfaaDoor
