/- BlockZero: the walk. -/
import Derived.Test.YtfeaollpeaphlaaBlock4
namespace Go.Proofs.Ytfeaollpeaphlaa
open Go.RowKit
theorem xorL_self (l : List UInt8) : xorL l l = List.replicate l.length 0 := by
  apply List.ext_getElem
  · simp [xorL]
  · intro i h1 h2; simp [xorL]
theorem xorL_zero_right (l : List UInt8) (n : Nat) : xorL l (List.replicate n 0) = l := by
  apply List.ext_getElem
  · simp [xorL]
  · intro i h1 h2
    have e : (List.replicate n (0 : UInt8))[i]?.getD 0 = 0 := by
      rw [List.getElem?_replicate]; split <;> rfl
    simp [xorL, List.getD, h2, e]
theorem size_list (s : ByteArray) : s.data.toList.length = s.size := by simp
theorem back_list (s : ByteArray) : (⟨s.data.toList.toArray⟩ : ByteArray) = s := by apply ByteArray.ext; simp
theorem zeroB_size (n : Nat) : (zeroB n).size = n := by
  have : (zeroB n).size = (List.replicate n (0 : UInt8)).toArray.size := rfl
  rw [this]; simp
theorem zeroB_list (n : Nat) : (zeroB n).data.toList = List.replicate n 0 := by simp [zeroB]
theorem nought_zero (n : Nat) : noughtL (zeroB n).data.toList = true := by rw [zeroB_list]; simp [noughtL]
theorem str_eq (s t : ByteArray) : (s.toList == t.toList) = decide (s = t) := by
  by_cases h : s = t
  · subst h; simp
  · rw [decide_eq_false h, beq_eq_false_iff_ne]
    intro e
    rw [ByteArray.toList_eq, ByteArray.toList_eq] at e
    exact h (ByteArray.ext (Array.toList_inj.1 e))
theorem nought_iff (s : ByteArray) : noughtL s.data.toList = (s.toList == (zeroB s.size).toList) := by
  rw [str_eq, Bool.eq_iff_iff, decide_eq_true_iff]
  constructor
  · intro h
    apply ByteArray.ext
    apply Array.toList_inj.1
    rw [zeroB_list]
    refine List.eq_replicate_iff.2 ⟨size_list s, fun b hb => ?_⟩
    have := List.all_eq_true.1 h b hb
    simpa using this
  · intro h; rw [h]; exact nought_zero _
theorem okS_of (n : Nat) (ss : List ByteArray) (hn : n ≤ 64) (h : ∀ s ∈ ss, s.size = n) (hl : ss.length ≤ 64) : okS n ss = true := by
  have h1 : smb n = true := (smb_iff _).2 ⟨by omega, by omega⟩
  have h2 : allL n ss = true := List.all_eq_true.2 fun s hs => by simp [h s hs]
  simp [okS, h1, h2, hl]
theorem sum_sz (s : ByteArray) (h : s.size ≤ 64) : sumS s.size [s, zeroB s.size] = s ∧ sumE s.size [s, zeroB s.size] = 0 := by
  have e := okS_of s.size [s, zeroB s.size] h (by intro t ht; simp at ht; rcases ht with rfl | rfl; rfl; exact zeroB_size _) (by simp)
  refine ⟨?_, by rw [sumE, e]; rfl⟩
  rw [sumS, if_pos e]
  simp only [sumL, List.foldl_cons, List.foldl_nil, Int.toNat_natCast]
  rw [xorL_zero _ s rfl, zeroB_list, xorL_zero_right, back_list]
theorem sum_ss (s : ByteArray) (h : s.size ≤ 64) : sumS s.size [s, s] = zeroB s.size ∧ sumE s.size [s, s] = 0 := by
  have e := okS_of s.size [s, s] h (by intro t ht; simp at ht; rw [ht]) (by simp)
  refine ⟨?_, by rw [sumE, e]; rfl⟩
  rw [sumS, if_pos e]
  simp only [sumL, List.foldl_cons, List.foldl_nil, Int.toNat_natCast]
  rw [xorL_zero _ s rfl, xorL_self, size_list]; rfl
theorem sum_s (s : ByteArray) (h : s.size ≤ 64) : sumS s.size [s] = s ∧ sumE s.size [s] = 0 := by
  have e := okS_of s.size [s] h (by intro t ht; simp at ht; rw [ht]) (by simp)
  refine ⟨?_, by rw [sumE, e]; rfl⟩
  rw [sumS, if_pos e]
  simp only [sumL, List.foldl_cons, List.foldl_nil, Int.toNat_natCast]
  rw [xorL_zero _ s rfl, back_list]
theorem sum_0 (n : Nat) (h : n ≤ 64) : sumS n [] = zeroB n ∧ sumE n [] = 0 := by
  have e := okS_of n [] h (by simp) (by simp)
  refine ⟨?_, by rw [sumE, e]; rfl⟩
  rw [sumS, if_pos e]; rfl
set_option maxRecDepth 100000 in
set_option maxHeartbeats 2000000 in
theorem zero_walk (a : ByteArray) (ha : a.size ≤ maxLen) (w : World) :
    Calls Try.prog 7 #[.string a] w fun e w' => e = .returned (.bool true) ∧ Below w.heap.size w w' := by
  have H := Lib.hid (cut_any a ha)
  have hs := cutB_size a
  go_enter Try.func7, Try.ntmps7
  go_wp2_with fail
  refine (H.out _).mono ?_
  rintro e w1 ⟨rfl, rfl⟩
  clear H
  generalize cutB a = s at *
  by_cases h : s.size ≤ 64
  · have E1 := Lib.hid (sum_sz s h)
    have E2 := Lib.hid (sum_ss s h)
    have E3 := Lib.hid (sum_s s h)
    have E4 := Lib.hid (sum_0 s.size h)
    have E5 := Lib.hid (nought_iff s)
    have E6 := Lib.hid (nought_zero s.size)
    have HZ := Lib.hid (zero_yes s.size ((smb_iff _).2 ⟨by omega, by omega⟩))
    have HZS := Lib.hid (zeroB_size s.size)
    generalize zeroB s.size = z at *
    go_wp2_with fail
    refine (HZ.out _).mono ?_
    rintro e x1 ⟨rfl, hb⟩
    have B1 := Lib.hid hb
    clear hb
    go_wp2_with fail
    refine (bxor_any s z (by unfold maxLen; omega) (by rw [HZS.out]; unfold maxLen; omega) _).mono ?_
    rintro e x2 ⟨rfl, hb⟩
    rw [E1.out.1, E1.out.2]
    have B2 := Lib.hid (chain B1.out hb)
    clear hb
    go_wp2_with fail
    refine (bxor_any s s (by unfold maxLen; omega) (by unfold maxLen; omega) _).mono ?_
    rintro e x3 ⟨rfl, hb⟩
    rw [E2.out.1, E2.out.2]
    have B3 := Lib.hid (chain B2.out hb)
    clear hb
    go_wp2_with fail
    refine (sum_any s.size _ 1 1 [s] _ (one_texts x3 9 s (by unfold maxLen; omega)) (Nat.le_refl _) (by unfold maxLen; omega)).mono ?_
    rintro e x4 ⟨rfl, hb⟩
    rw [E3.out.1, E3.out.2]
    have B4 := Lib.hid (chain (B3.out.alloc B3.out.size _) hb)
    clear hb
    go_wp2_with fail
    refine (sum_any s.size none 0 0 [] _ (Texts.nil _ _) (Nat.le_refl _) (Nat.zero_le _)).mono ?_
    rintro e x5 ⟨rfl, hb⟩
    rw [E4.out.1, E4.out.2]
    have B5 := Lib.hid (chain B4.out hb)
    clear hb
    go_wp2_with fail
    refine (alive2_any _).mono ?_
    rintro e x6 ⟨rfl, hb⟩
    have B6 := Lib.hid (chain B5.out hb)
    clear hb
    go_wp2_with fail
    refine (nought_any z (by rw [HZS.out]; unfold maxLen; omega) _).mono ?_
    rintro e x7 ⟨rfl, rfl⟩
    rw [E6.out]
    go_wp2_with fail
    refine (nought_any s (by unfold maxLen; omega) _).mono ?_
    rintro e x7 ⟨rfl, rfl⟩
    rw [E5.out]
    go_wp2_with fail
    go_ret
    exact ⟨by simp, B6.out⟩
  · have HZ := Lib.hid (zero_no s.size ((smb_no _).2 (by omega)))
    have g : (64 : Int) < s.size := by omega
    go_wp2_with fail
    refine (HZ.out _).mono ?_
    rintro e x1 ⟨rfl, hb⟩
    have B1 := Lib.hid hb
    clear hb
    go_wp2_with fail
    refine (alive2_any _).mono ?_
    rintro e x6 ⟨rfl, hb⟩
    have B6 := Lib.hid (chain B1.out hb)
    clear hb
    go_wp2_with fail
    go_ret
    exact ⟨by simp, B6.out⟩
end Go.Proofs.Ytfeaollpeaphlaa
