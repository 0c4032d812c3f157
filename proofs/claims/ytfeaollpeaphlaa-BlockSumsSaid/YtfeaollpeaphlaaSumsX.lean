/- BlockSums: the walk. -/
import Derived.Test.YtfeaollpeaphlaaZeroX
import Derived.Test.YtfeaollpeaphlaaFewT
import Derived.Test.YtfeaollpeaphlaaRefSum
namespace Go.Proofs.Ytfeaollpeaphlaa
open Go.RowKit
theorem sum_in {n : Int} {ts : List ByteArray} (h : okS n ts = true) : sumS n ts = ⟨(sumL n.toNat ts).toArray⟩ ∧ sumE n ts = 0 := by rw [sumS, sumE, h]; exact ⟨rfl, rfl⟩
theorem sum_out {n : Int} {ts : List ByteArray} (h : okS n ts = false) : sumS n ts = ⟨#[]⟩ ∧ sumE n ts = 2 := by rw [sumS, sumE, h]; exact ⟨rfl, rfl⟩
theorem okS_pair (a b : ByteArray) : okS a.size [a, b] = (decide (a.size = b.size) && decide (a.size ≤ 64)) := by
  rw [Bool.eq_iff_iff]
  simp only [okS, smb, allL, List.all_cons, List.all_nil, List.length_cons, List.length_nil, Bool.and_eq_true, decide_eq_true_eq, Bool.and_true, beq_iff_eq]
  constructor
  · rintro ⟨⟨⟨h1, h2⟩, h3, h4⟩, h5⟩
    exact ⟨by omega, by omega⟩
  · rintro ⟨h1, h2⟩
    exact ⟨⟨⟨by omega, by omega⟩, trivial, by omega⟩, by omega⟩
theorem okS_sizes {n : Nat} {ts : List ByteArray} (h : okS n ts = true) (j : Nat) (hj : j < ts.length) : (ts.getD j ByteArray.empty).size = n := by
  have h2 : allL n ts = true := by simp only [okS, Bool.and_eq_true] at h; exact h.1.2
  have := allL_at h2 j hj
  omega
theorem okS_len {n : Int} {ts : List ByteArray} (h : okS n ts = true) : ts.length ≤ 64 := by
  simp only [okS, Bool.and_eq_true, decide_eq_true_eq] at h; exact h.2
theorem Texts.alloc {w : World} {A : Option Addr} {len : Nat} {ss : List ByteArray} (h : Texts w A len ss) (o : Obj) : Texts (w.alloc o) A len ss := h.below ((Below.refl _ _).alloc (Nat.le_refl _) _)
theorem pair_sizes {a b : ByteArray} (h : a.size = b.size) (j : Nat) (hj : j < 2) : (([a, b] : List ByteArray).getD j ByteArray.empty).size = a.size := by
  match j, hj with
  | 0, _ => rfl
  | 1, _ => exact h.symm
set_option maxRecDepth 100000 in
set_option maxHeartbeats 8000000 in
theorem sums_in (m : Nat) (a b : ByteArray) (A : Option Addr) (l c : Nat) (ss : List ByteArray) (w : World) (hm : m ≤ 64) (ha : a.size ≤ maxLen) (hb : b.size ≤ maxLen) (s0 : SliceOk A l c) (ht : Texts w A l ss) :
    Calls Try.prog 6 #[.int .i64 m, .string a, .string b, .slice A l c] w fun e w' => e = .returned (.bool true) ∧ Below w.heap.size w w' := by
  have hm' : (m : Int) ≤ 64 := by omega
  have Ha := Lib.hid (cut_any a ha)
  have Hb := Lib.hid (cut_any b hb)
  have HF := Lib.hid (fewT_any A l c ss w ht s0)
  have hsa := cutB_size a
  have hsb := cutB_size b
  clear ht s0
  go_enter Try.func6, Try.ntmps6
  go_wp2_with fail
  refine (Ha.out _).mono ?_
  rintro e w1 ⟨rfl, rfl⟩
  go_wp2_with fail
  refine (Hb.out _).mono ?_
  rintro e w1 ⟨rfl, rfl⟩
  clear Ha Hb
  generalize cutB a = a at *
  generalize cutB b = b at *
  go_wp2_with fail
  refine HF.out.mono ?_
  rintro e x1 ⟨A1, c1, rfl, q1, q2, q3, hbel⟩
  have hl66 : (cuts ss 66).length ≤ 66 := by simp [cuts]; omega
  clear HF
  generalize cuts ss 66 = ts at *
  have HT := Lib.hid q3
  have B1 := Lib.hid hbel
  clear q3 hbel
  generalize hL : ts.length = L at *
  have HL := Lib.hid hL
  clear hL
  go_wp2_with fail
  refine (zero_yes m ((smb_iff _).2 ⟨by omega, by omega⟩) _).mono ?_
  rintro e x2 ⟨rfl, hbel⟩
  have HT := Lib.hid (HT.out.below hbel)
  have B2 := Lib.hid (chain B1.out hbel)
  clear hbel
  go_wp2_with fail
  refine (bxor_any a b (by unfold maxLen; omega) (by unfold maxLen; omega) _).mono ?_
  rintro e x3 ⟨rfl, hbel⟩
  have HT := Lib.hid (HT.out.below hbel)
  have B3 := Lib.hid (chain B2.out hbel)
  clear hbel
  go_wp2_with fail
  refine (sum_any (m : Int) A1 L c1 ts _ HT.out q1 q2).mono ?_
  rintro e x4 ⟨rfl, hbel⟩
  have HT := Lib.hid (HT.out.below hbel)
  have B4 := Lib.hid (chain B3.out hbel)
  clear hbel
  have tN : (noughtL a.data.toList != noughtL a.data.toList) = false := by simp
  go_wp2_with fail
  refine (nought_any a (by unfold maxLen; omega) _).mono ?_
  rintro e x5 ⟨rfl, rfl⟩
  go_wp2_with fail
  refine (refNought_any a (by unfold maxLen; omega) _).mono ?_
  rintro e x5 ⟨rfl, rfl⟩
  go_wp2_with fail
  refine (alive2_any _).mono ?_
  rintro e x5 ⟨rfl, hbel⟩
  have HT := Lib.hid (HT.out.below hbel)
  have B5 := Lib.hid (chain B4.out hbel)
  clear hbel tN
  have HZS := Lib.hid (zeroB_size m)
  have HZN := Lib.hid (nought_zero m)
  have tz : (((zeroB m).size : Int) != (m : Int)) = false := by simp [HZS.out]
  generalize zeroB m = z at *
  cases hok : okS m ts with
  | true =>
    have E3 := Lib.hid (sum_in hok)
    have hl64 : L ≤ 64 := by have := okS_len hok; have := HL.out; omega
    have HOK := Lib.hid hok
    clear hok
    rw [E3.out.1, E3.out.2, Int.toNat_natCast]
    by_cases h1 : a.size = b.size
    · by_cases h2 : a.size ≤ 64
      · skip
        have E := Lib.hid (sum_in (show okS a.size [a, b] = true by rw [okS_pair, decide_eq_true h1, decide_eq_true h2]; rfl))
        rw [E.out.1, E.out.2]
        have HS := Lib.hid h1
        have ta : ((a.size : Int) == (b.size : Int)) = true := beq_iff_eq.2 (by omega)
        have tle : (a.size : Int) ≤ 64 := by omega
        clear h1
        go_wp2_with fail
        refine (refNought_any z (by rw [HZS.out]; unfold maxLen; omega) _).mono ?_
        rintro e x6 ⟨rfl, rfl⟩
        rw [HZN.out]
        go_wp2_with fail
        refine (ones_any 2 (by omega) _).mono ?_
        rintro e x6 ⟨A2, c2, rfl, hz2, hbel⟩
        have HT := Lib.hid ((HT.out.alloc _).below hbel)
        have HP := Lib.hid ((pair_texts x5 9 a b (by unfold maxLen; omega) (by unfold maxLen; omega)).below hbel)
        have B6 := Lib.hid (chain (B5.out.alloc B5.out.size (.cells #[.string a, .string b] 9)) hbel)
        have HZ2 := Lib.hid hz2
        clear hbel hz2
        go_wp2_with fail
        refine (refSum_any a.size h2 _ A2 2 2 2 c2 [a, b] (ones 2) _ HP.out HZ2.out (by omega) (by omega) (by omega) (pair_sizes HS.out)).mono ?_
        rintro e x7 ⟨rfl, hbel⟩
        have HT := Lib.hid (HT.out.below hbel)
        have B7 := Lib.hid (chain B6.out hbel)
        clear hbel
        rw [bsums_ones a.size [a, b] 2 rfl]
        go_wp2_with fail
        refine (why_any m A1 L c1 ts _ HT.out (by omega)).mono ?_
        rintro e x8 ⟨rfl, rfl⟩
        rw [E3.out.2]
        go_wp2_with fail
        refine (ones_any L (by omega) _).mono ?_
        rintro e x9 ⟨A3, c3, rfl, hz3, hbel⟩
        have HT := Lib.hid (HT.out.below hbel)
        have B8 := Lib.hid (chain B7.out hbel)
        have HZ3 := Lib.hid hz3
        clear hbel hz3
        go_wp2_with fail
        refine (refSum_any m hm A1 A3 L c1 L c3 ts (ones L) _ HT.out HZ3.out (by omega) (by omega) (by omega) (fun j hj => okS_sizes HOK.out j (by rw [HL.out]; exact hj))).mono ?_
        rintro e x10 ⟨rfl, hbel⟩
        have B9 := Lib.hid (chain B8.out hbel)
        clear hbel
        rw [bsums_ones m ts L HL.out]
        go_wp2_with fail
        go_ret
        exact ⟨by simp, B9.out⟩
      · skip
        have E := Lib.hid (sum_out (show okS a.size [a, b] = false by rw [okS_pair, decide_eq_false h2]; simp))
        rw [E.out.1, E.out.2]
        have ta : ((a.size : Int) == (b.size : Int)) = true := beq_iff_eq.2 (by omega)
        have tle : ¬ (a.size : Int) ≤ 64 := by omega
        clear h1
        go_wp2_with fail
        refine (refNought_any z (by rw [HZS.out]; unfold maxLen; omega) _).mono ?_
        rintro e x6 ⟨rfl, rfl⟩
        rw [HZN.out]
        go_wp2_with fail
        refine (why_any m A1 L c1 ts _ HT.out (by omega)).mono ?_
        rintro e x8 ⟨rfl, rfl⟩
        rw [E3.out.2]
        go_wp2_with fail
        refine (ones_any L (by omega) _).mono ?_
        rintro e x9 ⟨A3, c3, rfl, hz3, hbel⟩
        have HT := Lib.hid (HT.out.below hbel)
        have B8 := Lib.hid (chain B5.out hbel)
        have HZ3 := Lib.hid hz3
        clear hbel hz3
        go_wp2_with fail
        refine (refSum_any m hm A1 A3 L c1 L c3 ts (ones L) _ HT.out HZ3.out (by omega) (by omega) (by omega) (fun j hj => okS_sizes HOK.out j (by rw [HL.out]; exact hj))).mono ?_
        rintro e x10 ⟨rfl, hbel⟩
        have B9 := Lib.hid (chain B8.out hbel)
        clear hbel
        rw [bsums_ones m ts L HL.out]
        go_wp2_with fail
        go_ret
        exact ⟨by simp, B9.out⟩
    · skip
      have E := Lib.hid (sum_out (show okS a.size [a, b] = false by rw [okS_pair, decide_eq_false h1]; simp))
      rw [E.out.1, E.out.2]
      have ta : ((a.size : Int) == (b.size : Int)) = false := beq_eq_false_iff_ne.2 (by omega)
      go_wp2_with fail
      refine (refNought_any z (by rw [HZS.out]; unfold maxLen; omega) _).mono ?_
      rintro e x6 ⟨rfl, rfl⟩
      rw [HZN.out]
      go_wp2_with fail
      refine (why_any m A1 L c1 ts _ HT.out (by omega)).mono ?_
      rintro e x8 ⟨rfl, rfl⟩
      rw [E3.out.2]
      go_wp2_with fail
      refine (ones_any L (by omega) _).mono ?_
      rintro e x9 ⟨A3, c3, rfl, hz3, hbel⟩
      have HT := Lib.hid (HT.out.below hbel)
      have B8 := Lib.hid (chain B5.out hbel)
      have HZ3 := Lib.hid hz3
      clear hbel hz3
      go_wp2_with fail
      refine (refSum_any m hm A1 A3 L c1 L c3 ts (ones L) _ HT.out HZ3.out (by omega) (by omega) (by omega) (fun j hj => okS_sizes HOK.out j (by rw [HL.out]; exact hj))).mono ?_
      rintro e x10 ⟨rfl, hbel⟩
      have B9 := Lib.hid (chain B8.out hbel)
      clear hbel
      rw [bsums_ones m ts L HL.out]
      go_wp2_with fail
      go_ret
      exact ⟨by simp, B9.out⟩
  | false =>
    have E3 := Lib.hid (sum_out hok)
    clear hok
    rw [E3.out.1, E3.out.2]
    by_cases h1 : a.size = b.size
    · by_cases h2 : a.size ≤ 64
      · skip
        have E := Lib.hid (sum_in (show okS a.size [a, b] = true by rw [okS_pair, decide_eq_true h1, decide_eq_true h2]; rfl))
        rw [E.out.1, E.out.2]
        have HS := Lib.hid h1
        have ta : ((a.size : Int) == (b.size : Int)) = true := beq_iff_eq.2 (by omega)
        have tle : (a.size : Int) ≤ 64 := by omega
        clear h1
        go_wp2_with fail
        refine (refNought_any z (by rw [HZS.out]; unfold maxLen; omega) _).mono ?_
        rintro e x6 ⟨rfl, rfl⟩
        rw [HZN.out]
        go_wp2_with fail
        refine (ones_any 2 (by omega) _).mono ?_
        rintro e x6 ⟨A2, c2, rfl, hz2, hbel⟩
        have HT := Lib.hid ((HT.out.alloc _).below hbel)
        have HP := Lib.hid ((pair_texts x5 9 a b (by unfold maxLen; omega) (by unfold maxLen; omega)).below hbel)
        have B6 := Lib.hid (chain (B5.out.alloc B5.out.size (.cells #[.string a, .string b] 9)) hbel)
        have HZ2 := Lib.hid hz2
        clear hbel hz2
        go_wp2_with fail
        refine (refSum_any a.size h2 _ A2 2 2 2 c2 [a, b] (ones 2) _ HP.out HZ2.out (by omega) (by omega) (by omega) (pair_sizes HS.out)).mono ?_
        rintro e x7 ⟨rfl, hbel⟩
        have HT := Lib.hid (HT.out.below hbel)
        have B7 := Lib.hid (chain B6.out hbel)
        clear hbel
        rw [bsums_ones a.size [a, b] 2 rfl]
        go_wp2_with fail
        refine (why_any m A1 L c1 ts _ HT.out (by omega)).mono ?_
        rintro e x8 ⟨rfl, rfl⟩
        rw [E3.out.2]
        go_wp2_with fail
        go_ret
        exact ⟨by simp, B7.out⟩
      · skip
        have E := Lib.hid (sum_out (show okS a.size [a, b] = false by rw [okS_pair, decide_eq_false h2]; simp))
        rw [E.out.1, E.out.2]
        have ta : ((a.size : Int) == (b.size : Int)) = true := beq_iff_eq.2 (by omega)
        have tle : ¬ (a.size : Int) ≤ 64 := by omega
        clear h1
        go_wp2_with fail
        refine (refNought_any z (by rw [HZS.out]; unfold maxLen; omega) _).mono ?_
        rintro e x6 ⟨rfl, rfl⟩
        rw [HZN.out]
        go_wp2_with fail
        refine (why_any m A1 L c1 ts _ HT.out (by omega)).mono ?_
        rintro e x8 ⟨rfl, rfl⟩
        rw [E3.out.2]
        go_wp2_with fail
        go_ret
        exact ⟨by simp, B5.out⟩
    · skip
      have E := Lib.hid (sum_out (show okS a.size [a, b] = false by rw [okS_pair, decide_eq_false h1]; simp))
      rw [E.out.1, E.out.2]
      have ta : ((a.size : Int) == (b.size : Int)) = false := beq_eq_false_iff_ne.2 (by omega)
      go_wp2_with fail
      refine (refNought_any z (by rw [HZS.out]; unfold maxLen; omega) _).mono ?_
      rintro e x6 ⟨rfl, rfl⟩
      rw [HZN.out]
      go_wp2_with fail
      refine (why_any m A1 L c1 ts _ HT.out (by omega)).mono ?_
      rintro e x8 ⟨rfl, rfl⟩
      rw [E3.out.2]
      go_wp2_with fail
      go_ret
      exact ⟨by simp, B5.out⟩
set_option maxRecDepth 100000 in
set_option maxHeartbeats 8000000 in
theorem sums_out (n : Int) (a b : ByteArray) (A : Option Addr) (l c : Nat) (ss : List ByteArray) (w : World) (hn : n < 0 ∨ 64 < n) (ha : a.size ≤ maxLen) (hb : b.size ≤ maxLen) (s0 : SliceOk A l c) (ht : Texts w A l ss) :
    Calls Try.prog 6 #[.int .i64 n, .string a, .string b, .slice A l c] w fun e w' => e = .returned (.bool true) ∧ Below w.heap.size w w' := by
  have HN := Lib.hid hn
  clear hn
  have Ha := Lib.hid (cut_any a ha)
  have Hb := Lib.hid (cut_any b hb)
  have HF := Lib.hid (fewT_any A l c ss w ht s0)
  have hsa := cutB_size a
  have hsb := cutB_size b
  clear ht s0
  go_enter Try.func6, Try.ntmps6
  go_wp2_with fail
  refine (Ha.out _).mono ?_
  rintro e w1 ⟨rfl, rfl⟩
  go_wp2_with fail
  refine (Hb.out _).mono ?_
  rintro e w1 ⟨rfl, rfl⟩
  clear Ha Hb
  generalize cutB a = a at *
  generalize cutB b = b at *
  go_wp2_with fail
  refine HF.out.mono ?_
  rintro e x1 ⟨A1, c1, rfl, q1, q2, q3, hbel⟩
  have hl66 : (cuts ss 66).length ≤ 66 := by simp [cuts]; omega
  clear HF
  generalize cuts ss 66 = ts at *
  have HT := Lib.hid q3
  have B1 := Lib.hid hbel
  clear q3 hbel
  generalize hL : ts.length = L at *
  have HL := Lib.hid hL
  clear hL
  go_wp2_with fail
  refine (zero_no n ((smb_no _).2 (by have := HN.out; omega)) _).mono ?_
  rintro e x2 ⟨rfl, hbel⟩
  have HT := Lib.hid (HT.out.below hbel)
  have B2 := Lib.hid (chain B1.out hbel)
  clear hbel
  go_wp2_with fail
  refine (bxor_any a b (by unfold maxLen; omega) (by unfold maxLen; omega) _).mono ?_
  rintro e x3 ⟨rfl, hbel⟩
  have HT := Lib.hid (HT.out.below hbel)
  have B3 := Lib.hid (chain B2.out hbel)
  clear hbel
  go_wp2_with fail
  refine (sum_any n A1 L c1 ts _ HT.out q1 q2).mono ?_
  rintro e x4 ⟨rfl, hbel⟩
  have HT := Lib.hid (HT.out.below hbel)
  have B4 := Lib.hid (chain B3.out hbel)
  clear hbel
  have tN : (noughtL a.data.toList != noughtL a.data.toList) = false := by simp
  go_wp2_with fail
  refine (nought_any a (by unfold maxLen; omega) _).mono ?_
  rintro e x5 ⟨rfl, rfl⟩
  go_wp2_with fail
  refine (refNought_any a (by unfold maxLen; omega) _).mono ?_
  rintro e x5 ⟨rfl, rfl⟩
  go_wp2_with fail
  refine (alive2_any _).mono ?_
  rintro e x5 ⟨rfl, hbel⟩
  have HT := Lib.hid (HT.out.below hbel)
  have B5 := Lib.hid (chain B4.out hbel)
  clear hbel tN
  have E3 := Lib.hid (sum_out (show okS n ts = false by have := HN.out; simp [okS, smb]; omega))
  rw [E3.out.1, E3.out.2]
  rcases HN.out with hn | hn
  · have tn : decide (0 ≤ n) = false := by simp; omega
    clear HN
    by_cases h1 : a.size = b.size
    · by_cases h2 : a.size ≤ 64
      · skip
        have E := Lib.hid (sum_in (show okS a.size [a, b] = true by rw [okS_pair, decide_eq_true h1, decide_eq_true h2]; rfl))
        rw [E.out.1, E.out.2]
        have HS := Lib.hid h1
        have ta : ((a.size : Int) == (b.size : Int)) = true := beq_iff_eq.2 (by omega)
        have tle : (a.size : Int) ≤ 64 := by omega
        clear h1
        go_wp2_with fail
        refine (ones_any 2 (by omega) _).mono ?_
        rintro e x6 ⟨A2, c2, rfl, hz2, hbel⟩
        have HT := Lib.hid ((HT.out.alloc _).below hbel)
        have HP := Lib.hid ((pair_texts x5 9 a b (by unfold maxLen; omega) (by unfold maxLen; omega)).below hbel)
        have B6 := Lib.hid (chain (B5.out.alloc B5.out.size (.cells #[.string a, .string b] 9)) hbel)
        have HZ2 := Lib.hid hz2
        clear hbel hz2
        go_wp2_with fail
        refine (refSum_any a.size h2 _ A2 2 2 2 c2 [a, b] (ones 2) _ HP.out HZ2.out (by omega) (by omega) (by omega) (pair_sizes HS.out)).mono ?_
        rintro e x7 ⟨rfl, hbel⟩
        have HT := Lib.hid (HT.out.below hbel)
        have B7 := Lib.hid (chain B6.out hbel)
        clear hbel
        rw [bsums_ones a.size [a, b] 2 rfl]
        go_wp2_with fail
        refine (why_any n A1 L c1 ts _ HT.out (by omega)).mono ?_
        rintro e x8 ⟨rfl, rfl⟩
        rw [E3.out.2]
        go_wp2_with fail
        go_ret
        exact ⟨by simp, B7.out⟩
      · skip
        have E := Lib.hid (sum_out (show okS a.size [a, b] = false by rw [okS_pair, decide_eq_false h2]; simp))
        rw [E.out.1, E.out.2]
        have ta : ((a.size : Int) == (b.size : Int)) = true := beq_iff_eq.2 (by omega)
        have tle : ¬ (a.size : Int) ≤ 64 := by omega
        clear h1
        go_wp2_with fail
        refine (why_any n A1 L c1 ts _ HT.out (by omega)).mono ?_
        rintro e x8 ⟨rfl, rfl⟩
        rw [E3.out.2]
        go_wp2_with fail
        go_ret
        exact ⟨by simp, B5.out⟩
    · skip
      have E := Lib.hid (sum_out (show okS a.size [a, b] = false by rw [okS_pair, decide_eq_false h1]; simp))
      rw [E.out.1, E.out.2]
      have ta : ((a.size : Int) == (b.size : Int)) = false := beq_eq_false_iff_ne.2 (by omega)
      go_wp2_with fail
      refine (why_any n A1 L c1 ts _ HT.out (by omega)).mono ?_
      rintro e x8 ⟨rfl, rfl⟩
      rw [E3.out.2]
      go_wp2_with fail
      go_ret
      exact ⟨by simp, B5.out⟩
  · have tn : 0 ≤ n := by omega
    have tn2 : decide (n ≤ 64) = false := by simp; omega
    clear HN
    by_cases h1 : a.size = b.size
    · by_cases h2 : a.size ≤ 64
      · skip
        have E := Lib.hid (sum_in (show okS a.size [a, b] = true by rw [okS_pair, decide_eq_true h1, decide_eq_true h2]; rfl))
        rw [E.out.1, E.out.2]
        have HS := Lib.hid h1
        have ta : ((a.size : Int) == (b.size : Int)) = true := beq_iff_eq.2 (by omega)
        have tle : (a.size : Int) ≤ 64 := by omega
        clear h1
        go_wp2_with fail
        refine (ones_any 2 (by omega) _).mono ?_
        rintro e x6 ⟨A2, c2, rfl, hz2, hbel⟩
        have HT := Lib.hid ((HT.out.alloc _).below hbel)
        have HP := Lib.hid ((pair_texts x5 9 a b (by unfold maxLen; omega) (by unfold maxLen; omega)).below hbel)
        have B6 := Lib.hid (chain (B5.out.alloc B5.out.size (.cells #[.string a, .string b] 9)) hbel)
        have HZ2 := Lib.hid hz2
        clear hbel hz2
        go_wp2_with fail
        refine (refSum_any a.size h2 _ A2 2 2 2 c2 [a, b] (ones 2) _ HP.out HZ2.out (by omega) (by omega) (by omega) (pair_sizes HS.out)).mono ?_
        rintro e x7 ⟨rfl, hbel⟩
        have HT := Lib.hid (HT.out.below hbel)
        have B7 := Lib.hid (chain B6.out hbel)
        clear hbel
        rw [bsums_ones a.size [a, b] 2 rfl]
        go_wp2_with fail
        refine (why_any n A1 L c1 ts _ HT.out (by omega)).mono ?_
        rintro e x8 ⟨rfl, rfl⟩
        rw [E3.out.2]
        go_wp2_with fail
        go_ret
        exact ⟨by simp, B7.out⟩
      · skip
        have E := Lib.hid (sum_out (show okS a.size [a, b] = false by rw [okS_pair, decide_eq_false h2]; simp))
        rw [E.out.1, E.out.2]
        have ta : ((a.size : Int) == (b.size : Int)) = true := beq_iff_eq.2 (by omega)
        have tle : ¬ (a.size : Int) ≤ 64 := by omega
        clear h1
        go_wp2_with fail
        refine (why_any n A1 L c1 ts _ HT.out (by omega)).mono ?_
        rintro e x8 ⟨rfl, rfl⟩
        rw [E3.out.2]
        go_wp2_with fail
        go_ret
        exact ⟨by simp, B5.out⟩
    · skip
      have E := Lib.hid (sum_out (show okS a.size [a, b] = false by rw [okS_pair, decide_eq_false h1]; simp))
      rw [E.out.1, E.out.2]
      have ta : ((a.size : Int) == (b.size : Int)) = false := beq_eq_false_iff_ne.2 (by omega)
      go_wp2_with fail
      refine (why_any n A1 L c1 ts _ HT.out (by omega)).mono ?_
      rintro e x8 ⟨rfl, rfl⟩
      rw [E3.out.2]
      go_wp2_with fail
      go_ret
      exact ⟨by simp, B5.out⟩
theorem sums_walk (n : Int) (a b : ByteArray) (A : Option Addr) (l c : Nat) (ss : List ByteArray) (w : World) (ha : a.size ≤ maxLen) (hb : b.size ≤ maxLen) (s0 : SliceOk A l c) (ht : Texts w A l ss) :
    Calls Try.prog 6 #[.int .i64 n, .string a, .string b, .slice A l c] w fun e w' => e = .returned (.bool true) ∧ Below w.heap.size w w' := by
  by_cases h : n < 0 ∨ 64 < n
  · exact sums_out n a b A l c ss w h ha hb s0 ht
  · obtain ⟨m, rfl⟩ := Int.eq_ofNat_of_zero_le (show 0 ≤ n by omega)
    exact sums_in m a b A l c ss w (by omega) ha hb s0 ht
end Go.Proofs.Ytfeaollpeaphlaa
