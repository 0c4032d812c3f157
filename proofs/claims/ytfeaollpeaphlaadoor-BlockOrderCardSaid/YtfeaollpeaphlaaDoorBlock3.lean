/- Contract of block.Sum. -/
import Derived.Test.YtfeaollpeaphlaaDoorBlock2
import Derived.Lib.BufferWrite
import Derived.Laws.CopyOwn
namespace Go.Proofs.YtfeaollpeaphlaaDoor
set_option linter.unusedVariables false
set_option linter.unusedSimpArgs false
open Go.RowKit
/-- The xor of all texts, byte by byte, from n bytes 0 on. -/
def sumL (n : Nat) (ss : List ByteArray) : List UInt8 := ss.foldl (fun acc s => bxL acc s.data.toList) (List.replicate n 0)
theorem foldl_xorL_length (ss : List ByteArray) (l : List UInt8) : (ss.foldl (fun acc s => bxL acc s.data.toList) l).length = l.length := by
  induction ss generalizing l with
  | nil => rfl
  | cons s ss ih => rw [List.foldl_cons, ih, xorL_length]
theorem sumL_length (n : Nat) (ss : List ByteArray) : (sumL n ss).length = n := by simp [sumL, foldl_xorL_length]
theorem xorL_zero (n : Nat) (s : ByteArray) (h : s.size = n) : bxL (List.replicate n 0) s.data.toList = s.data.toList := by
  subst h
  apply List.ext_getElem
  · simp [bxL]
  · intro i h1 h2
    have : i < s.size := by simpa using h2
    simp [bxL, List.getD, this, List.getElem?_replicate]
theorem sumL_one (n : Nat) (ss : List ByteArray) (h : 0 < ss.length) (hs : (ss.getD 0 ByteArray.empty).size = n) : sumL n (ss.take 1) = (ss.getD 0 ByteArray.empty).data.toList := by
  cases ss with
  | nil => simp at h
  | cons s r => simp only [List.take_succ_cons, List.take_zero, sumL, List.foldl_cons, List.foldl_nil]; simp at hs; rw [xorL_zero n s hs]; simp
theorem sumL_snoc (n : Nat) (ss : List ByteArray) (j : Nat) (h : j < ss.length) : bxL (sumL n (ss.take j)) (ss.getD j ByteArray.empty).data.toList = sumL n (ss.take (j + 1)) := by
  unfold sumL
  rw [List.take_succ_eq_append_getElem h, List.foldl_append]
  simp [List.getD, h]
theorem allL_at {n : Int} {ss : List ByteArray} (h : allL n ss = true) (j : Nat) (hj : j < ss.length) : ((ss.getD j ByteArray.empty).size : Int) = n := by
  have := List.all_eq_true.1 h (ss[j]) (List.getElem_mem _)
  simpa [List.getD, hj] using this
theorem sum_size (n : Int) (A : Option Addr) (l c : Nat) (h : smb n = false) (w : World) : Calls Tryd.prog 28 #[.int .i64 n, .slice A l c] w fun e w' => e = .returned (.tuple #[.string ⟨#[]⟩, .int .i64 2]) ∧ Below w.heap.size w w' := by
  have H := Lib.hid (sizeMayBe_any n)
  go_enter Tryd.func28, Tryd.ntmps28
  go_wp2_with fail
  refine (H.out _).mono ?_
  rintro e w1 ⟨rfl, rfl⟩
  go_wp2_with fail
  go_ret2
  exact ⟨rfl, Below.refl _ _⟩
theorem sum_have (n : Int) (A : Option Addr) (l c : Nat) (ss : List ByteArray) (w : World) (ht : Texts w A l ss) (hl : l ≤ maxLen) (h : smb n = true) (h2 : allL n ss = false) : Calls Tryd.prog 28 #[.int .i64 n, .slice A l c] w fun e w' => e = .returned (.tuple #[.string ⟨#[]⟩, .int .i64 2]) ∧ Below w.heap.size w w' := by
  have H := Lib.hid (sizeMayBe_any n)
  have H2 := Lib.hid (allHave_any n A l c ss w ht hl)
  clear ht
  go_enter Tryd.func28, Tryd.ntmps28
  go_wp2_with fail
  refine (H.out _).mono ?_
  rintro e w1 ⟨rfl, rfl⟩
  go_wp2_with fail
  refine H2.out.mono ?_
  rintro e w1 ⟨rfl, rfl⟩
  go_wp2_with fail
  go_ret2
  exact ⟨rfl, Below.refl _ _⟩
theorem sum_many (n : Int) (A : Option Addr) (l c : Nat) (ss : List ByteArray) (w : World) (ht : Texts w A l ss) (hl : l ≤ maxLen) (h : smb n = true) (h2 : allL n ss = true) (h3 : 64 < l) : Calls Tryd.prog 28 #[.int .i64 n, .slice A l c] w fun e w' => e = .returned (.tuple #[.string ⟨#[]⟩, .int .i64 2]) ∧ Below w.heap.size w w' := by
  have H := Lib.hid (sizeMayBe_any n)
  have H2 := Lib.hid (allHave_any n A l c ss w ht hl)
  clear ht
  unfold maxLen at hl
  have g : (64 : Int) < l := by omega
  go_enter Tryd.func28, Tryd.ntmps28
  go_wp2_with fail
  refine (H.out _).mono ?_
  rintro e w1 ⟨rfl, rfl⟩
  go_wp2_with fail
  refine H2.out.mono ?_
  rintro e w1 ⟨rfl, rfl⟩
  go_wp2_with fail
  go_ret2
  exact ⟨rfl, Below.refl _ _⟩
theorem sum_none (n : Nat) (A : Option Addr) (c : Nat) (w : World) (h : smb n = true) : Calls Tryd.prog 28 #[.int .i64 n, .slice A 0 c] w fun e w' => e = .returned (.tuple #[.string ⟨(sumL n []).toArray⟩, .int .i64 0]) ∧ Below w.heap.size w w' := by
  have H := Lib.hid (sizeMayBe_any n)
  have H2 := Lib.hid (allHave_any n A 0 c [] w (Texts.nil w A) (Nat.zero_le _))
  have t : allL n [] = true := rfl
  go_enter Tryd.func28, Tryd.ntmps28
  go_wp2_with fail
  refine (H.out _).mono ?_
  rintro e w1 ⟨rfl, rfl⟩
  go_wp2_with fail
  refine H2.out.mono ?_
  rintro e w1 ⟨rfl, rfl⟩
  go_wp2_with fail
  refine (zero_yes n h _).mono ?_
  rintro e w1 ⟨rfl, hb⟩
  go_wp2_with fail
  go_ret2
  exact ⟨rfl, hb⟩
theorem copyB {w : World} {g n : Nat} {t : TypeId} {l : List UInt8} {s : ByteArray} (h : Box w g t (bytesA l)) (hl : l.length = n) (hs : s.size = n) :
    (Builtin.copy_ #[64, 9] 3 #[.slice (some ⟨g, 0, none⟩) n n, .string s]).run Tryd.prog w = .ok (goInt s.size) (w.setRow g (bytesA s.data.toList)) := by
  have hsz : (bytesA l).size = n := by simp [bytesA, hl]
  have hi : (Tryd.prog.info? 5).map (·.size) = some 1 := by kernel_rfl
  have hcp := Lib.run_copy_row_string (P := Tryd.prog) w 64 9 3 5 g 0 n n s (bytesA l) t Tryd.underlying64 hi h (by omega) (by omega)
  rw [hcp]
  have : ((bytesA l).toList.take 0 ++ Lib.byteCells s.data.toList ++ (bytesA l).toList.drop (0 + s.size)).toArray = bytesA s.data.toList := by
    rw [List.take_zero, List.nil_append, List.drop_of_length_le (by rw [Array.length_toList]; omega), List.append_nil]
    rfl
  rw [this]
set_option maxHeartbeats 1000000 in
theorem sum_some (n : Nat) (A : Option Addr) (l c : Nat) (ss : List ByteArray) (w : World) (ht : Texts w A l ss) (h : smb n = true) (h2 : allL n ss = true) (h3 : l ≤ 64) (h0 : 0 < l) (hlc : l ≤ c) (hcm : c ≤ maxLen) :
    Calls Tryd.prog 28 #[.int .i64 n, .slice A l c] w fun e w' => e = .returned (.tuple #[.string ⟨(sumL n ss).toArray⟩, .int .i64 0]) ∧ Below w.heap.size w w' := by
  have H := Lib.hid (sizeMayBe_any n)
  have H2 := Lib.hid (allHave_any n A l c ss w ht (by unfold maxLen; omega))
  have HL := Lib.hid ht.1
  have HA := Lib.hid h2
  have hn := (smb_iff n).1 h
  obtain ⟨b, off, rfl, hb, hc⟩ := ht.2.2 h0
  have HC := Lib.hid hc
  have hs0 : (ss.getD 0 ByteArray.empty).size = n := by have := allL_at h2 0 (by rw [ht.1]; exact h0); omega
  have c0 : (w.alloc (.cells (bytesA (List.replicate n 0)) 5)).cell? ⟨b, off, none⟩ = some (.string (ss.getD 0 ByteArray.empty)) :=
    (((Below.refl w.heap.size w).alloc (Nat.le_refl _) _).cell (p := ⟨b, off, none⟩) hb).trans (hc 0 h0)
  have m := makeB_any n (by omega) w
  have bx := Box.new w 5 (bytesA (List.replicate n 0))
  have cp := copyB bx (n := n) (s := ss.getD 0 ByteArray.empty) (by simp) hs0
  have HY := Lib.hid (show Box ((w.alloc (.cells (bytesA (List.replicate n 0)) 5)).setRow w.heap.size (bytesA (ss.getD 0 ByteArray.empty).data.toList)) w.heap.size 5 (bytesA (sumL n (ss.take 1))) from by
    rw [sumL_one n ss (by rw [ht.1]; exact h0) hs0]; exact setRow_heap _ _ _ _ _ _ bx)
  have HB := Lib.hid (below_setRow ((Below.refl w.heap.size w).alloc (Nat.le_refl _) (.cells (bytesA (List.replicate n 0)) 5)) (Nat.le_refl _) (bytesA (ss.getD 0 ByteArray.empty).data.toList))
  generalize ss.getD 0 ByteArray.empty = s0 at *
  clear ht hc hs0 bx
  unfold maxLen at hcm
  have g1 : ¬ (64 : Int) < l := by omega
  have g2 : ¬ (l : Int) = 0 := by omega
  have g3 : ((l : Int) == 0) = false := by simpa using (show ¬ l = 0 by omega)
  have g4 : (1 : Int) ≤ l := by omega
  have g5 : (0 : Int) < l := by omega
  have g6 : (l : Int) ≤ c := by omega
  by_cases hc1 : c = 1
  · subst hc1
    obtain rfl : l = 1 := by omega
    go_enter Tryd.func28, Tryd.ntmps28
    go_wp2_with fail
    refine (H.out _).mono ?_
    rintro e w1 ⟨rfl, rfl⟩
    go_wp2_with fail
    refine H2.out.mono ?_
    rintro e w1 ⟨rfl, rfl⟩
    go_wp2_with fail
    generalize (w.alloc (.cells (bytesA (List.replicate n 0)) 5)).setRow w.heap.size (bytesA s0.data.toList) = W at *
    clear c0 m cp H H2
    go_loopw [40] (fun i wr => ∃ j : Nat, j ≤ 0 ∧ i = .int .i64 j ∧ Box wr w.heap.size 5 (bytesA (sumL n (ss.take (j + 1)))) ∧ Below w.heap.size w wr)
      (fun i _ => 0 - (intOf i).toNat)
    case atStart => exact ⟨0, by omega, rfl, HY.out, HB.out⟩
    case round =>
      obtain ⟨j, hj, rfl, R, HB⟩ := hrel
      have R := Lib.hid R
      have HB := Lib.hid HB
      obtain rfl : j = 0 := by omega
      have cv := backB R.out (n := n) (sumL_length _ _)
      have HF := Lib.hid (show ss.take (0 + 1) = ss from List.take_of_length_le (by rw [HL.out]; omega))
      go_wp2_with fail
      go_ret2
      exact ⟨by rw [HF.out]; rfl, HB.out⟩
  · have g7 : ¬ c = 1 := hc1
    go_enter Tryd.func28, Tryd.ntmps28
    go_wp2_with fail
    refine (H.out _).mono ?_
    rintro e w1 ⟨rfl, rfl⟩
    go_wp2_with fail
    refine H2.out.mono ?_
    rintro e w1 ⟨rfl, rfl⟩
    go_wp2_with fail
    generalize (w.alloc (.cells (bytesA (List.replicate n 0)) 5)).setRow w.heap.size (bytesA s0.data.toList) = W at *
    clear c0 m cp H H2
    go_loopw [40] (fun i wr => ∃ j : Nat, j ≤ l - 1 ∧ i = .int .i64 j ∧ Box wr w.heap.size 5 (bytesA (sumL n (ss.take (j + 1)))) ∧ Below w.heap.size w wr)
      (fun i _ => l - 1 - (intOf i).toNat)
    case atStart => exact ⟨0, by omega, rfl, HY.out, HB.out⟩
    case round =>
      obtain ⟨j, hj, rfl, R, HB⟩ := hrel
      have R := Lib.hid R
      have HB := Lib.hid HB
      by_cases hlt : j < l - 1
      · have c1 : wr.cell? ⟨b, off + 1 + j, none⟩ = some (.string (ss.getD (j + 1) ByteArray.empty)) :=
          (HB.out.cell (p := ⟨b, off + 1 + j, none⟩) hb).trans (by have := HC.out (j + 1) (by omega); rwa [show off + (j + 1) = off + 1 + j by omega] at this)
        have hz : (ss.getD (j + 1) ByteArray.empty).size = n := by have := allL_at HA.out (j + 1) (by rw [HL.out]; omega); omega
        have HZ := Lib.hid hz
        have HS := Lib.hid (sumL_snoc n ss (j + 1) (by rw [HL.out]; omega))
        clear hz
        generalize ss.getD (j + 1) ByteArray.empty = s at *
        have q1 : (j : Int) < ((l - 1 : Nat) : Int) := by omega
        go_wp2_with fail
        refine (put_any w.heap.size n _ s _ R.out (sumL_length _ _) HZ.out (by omega)).mono ?_
        rintro e w2 ⟨rfl, R2, hb2⟩
        have R2 := Lib.hid R2
        have HB2 := Lib.hid (HB.out.trans hb2)
        clear hb2
        go_wp2_with fail
        go_roundw
        case rel => exact ⟨j + 1, by omega, by go_num, by have := R2.out; rw [HS.out] at this; exact this, HB2.out⟩
        case measure => simp [intOf]; omega
      · obtain rfl : j = l - 1 := by omega
        have cv := backB R.out (n := n) (sumL_length _ _)
        have HF := Lib.hid (show ss.take (l - 1 + 1) = ss from List.take_of_length_le (by rw [HL.out]; omega))
        go_wp2_with fail
        go_ret2
        exact ⟨by rw [HF.out]; rfl, HB.out⟩
end Go.Proofs.YtfeaollpeaphlaaDoor
