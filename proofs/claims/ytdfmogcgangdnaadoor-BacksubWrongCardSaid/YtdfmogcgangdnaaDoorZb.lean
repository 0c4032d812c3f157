/- Parts: Block2, Block3, Block4, ZeroX, BsN, OwnU, Bitrow2, Of, Few, OwnR, Bitrow3, Order1. -/
import Derived.Test.YtdfmogcgangdnaaDoorZa
import Derived.Deep.DeepCutAuto
import Derived.Deep.RegionHeld3
import Derived.Laws.BitsAllLaws
import Derived.Laws.CopyOwn
import Derived.Lib.BufferWrite
import Derived.StillTailTactics
namespace Go.Proofs.YtdfmogcgangdnaaDoor
section
/- Contracts of layer 2: block.allHave, block.put. -/
set_option linter.unusedVariables false
set_option linter.unusedSimpArgs false
open Go.RowKit
/-- Texts in memory: a slice of strings. -/
def Texts (w : World) (A : Option Addr) (len : Nat) (ss : List ByteArray) : Prop :=
  ss.length = len ∧ (∀ j, (ss.getD j ByteArray.empty).size ≤ maxLen) ∧
    (0 < len → ∃ b off, A = some ⟨b, off, none⟩ ∧ b < w.heap.size ∧ ∀ j, j < len → w.cell? ⟨b, off + j, none⟩ = some (.string (ss.getD j ByteArray.empty)))
theorem Texts.mono {w w' : World} {A : Option Addr} {len : Nat} {ss : List ByteArray} (h : Texts w A len ss) {B : Nat} (hB : w.heap.size ≤ B) (hb : Below B w w') : Texts w' A len ss := by
  refine ⟨h.1, h.2.1, fun hp => ?_⟩
  obtain ⟨b, off, rfl, hlt, hc⟩ := h.2.2 hp
  exact ⟨b, off, rfl, Nat.lt_of_lt_of_le hlt hb.size, fun j hj => (hb.cell (p := ⟨b, off + j, none⟩) (Nat.lt_of_lt_of_le hlt hB)).trans (hc j hj)⟩
theorem Texts.below {w w' : World} {A : Option Addr} {len : Nat} {ss : List ByteArray} (h : Texts w A len ss) (hb : Below w.heap.size w w') : Texts w' A len ss := h.mono (Nat.le_refl _) hb
theorem Texts.nil (w : World) (A : Option Addr) : Texts w A 0 [] := ⟨rfl, by simp [maxLen], fun h => by omega⟩
/-- Have all texts n bytes? -/
def allL (n : Int) (ss : List ByteArray) : Bool := ss.all fun s => (s.size : Int) == n
theorem allL_snoc (n : Int) (ss : List ByteArray) (j : Nat) (h : j < ss.length) : allL n (ss.take (j + 1)) = (allL n (ss.take j) && (((ss.getD j ByteArray.empty).size : Int) == n)) := by
  unfold allL
  rw [List.take_succ_eq_append_getElem h, List.all_append]
  simp [List.getD, h]
theorem allL_not (n : Int) (ss : List ByteArray) (j : Nat) (h : j < ss.length) (hz : ¬ ((ss.getD j ByteArray.empty).size : Int) = n) : allL n ss = false := by
  rw [Bool.eq_false_iff]
  intro ha
  have := List.all_eq_true.1 ha (ss[j]) (List.getElem_mem _)
  exact hz (by simpa [List.getD, h] using this)
theorem allHave_any (n : Int) (A : Option Addr) (l c : Nat) (ss : List ByteArray) (w : World) (ht : Texts w A l ss) (hl : l ≤ maxLen) :
    Calls Tryd.prog 53 #[.int .i64 n, .slice A l c] w fun e w' => e = .returned (.bool (allL n ss)) ∧ w = w' := by
  unfold maxLen at hl
  have hlen := Lib.hid ht.1
  have HT := Lib.hid ht
  clear ht
  go_enter Tryd.func53, Tryd.ntmps53
  go_wp2_with fail
  go_loop [9] (fun i => ∃ k : Nat, k ≤ l ∧ i = .int .i64 k ∧ Hid (allL n (ss.take k) = true)) (fun i => l - (intOf i).toNat)
  case atStart => exact ⟨0, by omega, rfl, Lib.hid (by simp [allL])⟩
  case round =>
    obtain ⟨k, hk, rfl, HN⟩ := hrel
    by_cases hlt : k < l
    · obtain ⟨b, off, rfl, hb, hc⟩ := HT.out.2.2 (by omega)
      have c1 := hc k hlt
      have hm := HT.out.2.1 k
      have HS := Lib.hid (allL_snoc n ss k (by rw [hlen.out]; exact hlt))
      have HNO := Lib.hid (allL_not n ss k (by rw [hlen.out]; exact hlt))
      generalize ss.getD k ByteArray.empty = s at *
      unfold maxLen at hm
      clear hc
      by_cases hz : (s.size : Int) = n
      · have t : ((s.size : Int) != n) = false := by simpa using hz
        have HZ := Lib.hid hz
        clear hz
        go_wp2
        go_round
        case rel => exact ⟨k + 1, by omega, by go_num, Lib.hid (by rw [HS.out, HN.out, HZ.out]; simp)⟩
        case measure => simp [intOf]; omega
      · have t : ((s.size : Int) != n) = true := by simpa using hz
        go_wp2
        go_ret
        exact ⟨by rw [HNO.out hz]; rfl, rfl⟩
    · obtain rfl : k = l := by omega
      have HE := Lib.hid (show allL n ss = true by have := HN.out; rwa [List.take_of_length_le (by rw [hlen.out]; omega)] at this)
      go_wp2
      go_ret
      exact ⟨by rw [HE.out]; rfl, rfl⟩
def mixL (l t : List UInt8) (j : Nat) : List UInt8 := (List.range l.length).map fun i => if i < j then l.getD i 0 ^^^ t.getD i 0 else l.getD i 0
def bxL (l t : List UInt8) : List UInt8 := (List.range l.length).map fun i => l.getD i 0 ^^^ t.getD i 0
theorem mixL_length (l t : List UInt8) (j : Nat) : (mixL l t j).length = l.length := by simp [mixL]
theorem xorL_length (l t : List UInt8) : (bxL l t).length = l.length := by simp [bxL]
theorem mixL_zero (l t : List UInt8) : mixL l t 0 = l := by
  apply List.ext_getElem
  · simp [mixL]
  · intro i h1 h2; simp [mixL, List.getD, h2]
theorem mixL_full (l t : List UInt8) (n : Nat) (h : l.length = n) : mixL l t n = bxL l t := by
  subst h
  apply List.ext_getElem
  · simp [mixL, bxL]
  · intro i h1 h2
    have : i < l.length := by simpa [bxL] using h2
    simp [mixL, bxL, this]
theorem mixL_get (l t : List UInt8) (j : Nat) (h : j < l.length) : (mixL l t j).getD j 0 = l.getD j 0 := by
  simp [mixL, List.getD, h]
theorem mixL_set (l t : List UInt8) (j : Nat) (h : j < l.length) : (mixL l t j).set j (l.getD j 0 ^^^ t.getD j 0) = mixL l t (j + 1) := by
  apply List.ext_getElem
  · simp [mixL]
  · intro i h1 h2
    have hi : i < l.length := by simpa [mixL] using h2
    rw [List.getElem_set]
    by_cases e : j = i
    · subst e; simp [mixL, List.getD, h]
    · rw [if_neg e]
      have e2 : (i < j + 1) = (i < j) := by apply propext; omega
      simp [mixL, e2]
theorem xor_u8 (a b : UInt8) : bits BinOp.xor IntKind.u8 (a.toNat : Int) (b.toNat : Int) = ((a ^^^ b).toNat : Int) := by
  have ha := a.toNat_lt
  have hb := b.toNat_lt
  rw [u8_xor_nat _ _ (by omega) (by omega), UInt8.toNat_xor]
theorem put_any (g n : Nat) (l : List UInt8) (s : ByteArray) (w : World) (hg : Box w g 5 (bytesA l)) (hl : l.length = n) (hs : s.size = n) (hn : n ≤ 1000000) :
    Calls Tryd.prog 55 #[.slice (some ⟨g, 0, none⟩) n n, .string s] w fun e w' => e = .returned (.tuple #[]) ∧ Box w' g 5 (bytesA (bxL l s.data.toList)) ∧ Below g w w' := by
  have HL := Lib.hid hl
  have HS := Lib.hid hs
  have HG := Lib.hid hg
  clear hl hs hg
  go_enter Tryd.func55, Tryd.ntmps55
  go_wp2_with fail
  go_loopw [7] (fun i wr => ∃ j : Nat, j ≤ n ∧ i = .int .i64 j ∧ Box wr g 5 (bytesA (mixL l s.data.toList j)) ∧ Below g w wr)
    (fun i _ => n - (intOf i).toNat)
  case atStart => exact ⟨0, by omega, rfl, by rw [mixL_zero]; exact HG.out, Below.refl _ _⟩
  case round =>
    obtain ⟨j, hj, rfl, R, HB⟩ := hrel
    have R := Lib.hid R
    have HB := Lib.hid HB
    by_cases hlt : j < n
    · have hlj : j < l.length := by rw [HL.out]; exact hlt
      have hsj : j < s.size := by rw [HS.out]; exact hlt
      have cg : wr.cell? ⟨g, j, none⟩ = some (.int .u8 ((l.getD j 0).toNat : Int)) := by
        rw [R.out.cell j, bytesA_get _ j (by rw [mixL_length]; exact hlj), mixL_get l _ j hlj]
      have fg := R.out.free j
      have HE := Lib.hid (show s.data.toList.getD j 0 = s[j] by simp [List.getD, hsj]; rfl)
      have HX := Lib.hid (xor_u8 (l.getD j 0) s[j])
      have HLJ := Lib.hid hlj
      clear hlj
      obtain ⟨a, ha⟩ : ∃ a, a = l.getD j 0 := ⟨_, rfl⟩
      obtain ⟨b, hb⟩ : ∃ b, b = s[j] := ⟨_, rfl⟩
      rw [← ha] at cg HX
      have HA := Lib.hid ha
      have t := xor_u8 a s[j]
      clear ha hb b
      go_wp2
      go_region
      all_goals (
        have P1 := Lib.hid ((R.out.put j (.int .u8 ((a ^^^ s[j]).toNat : Int))).drew)
        have e : (bytesA (mixL l s.data.toList j)).setIfInBounds j (.int .u8 ((a ^^^ s[j]).toNat : Int)) = bytesA (mixL l s.data.toList (j + 1)) := by
          rw [bytesA_set, HA.out, ← HE.out, mixL_set l _ j HLJ.out]
        have E1 := Lib.hid e
        clear e
        have P2 := Lib.hid ((HB.out.setCell (p := ⟨g, j, none⟩) (Nat.le_refl _) (.int .u8 ((a ^^^ s[j]).toNat : Int))).drew)
        go_wp2
        go_roundw
        case rel => exact ⟨j + 1, by omega, by go_num, by have := P1.out; rw [E1.out] at this; simpa only [UInt8.toNat_xor] using this, by simpa only [UInt8.toNat_xor] using P2.out⟩
        case measure => simp [intOf]; omega)
    · obtain rfl : j = n := by omega
      go_wp2
      go_end0
      exact ⟨rfl, by have := R.out; rwa [mixL_full l _ _ HL.out] at this, HB.out⟩
end
section
/- Contract of block.Sum. -/
set_option linter.unusedVariables false
set_option linter.unusedSimpArgs false
open Go.RowKit
/-- The xor of all texts, byte by byte, from n bytes 0 on. -/
def sumL (n : Nat) (ss : List ByteArray) : List UInt8 := ss.foldl (fun acc s => bxL acc s.data.toList) (List.replicate n 0)
theorem foldl_xorL_length (ss : List ByteArray) (l : List UInt8) : (ss.foldl (fun acc s => bxL acc s.data.toList) l).length = l.length := by
  induction ss generalizing l with
  | nil => rfl
  | cons s ss ih => rw [List.foldl_cons, ih, xorL_length]
theorem sumL_length (n : Nat) (ss : List ByteArray) : (sumL n ss).length = n := by simp [sumL, foldl_xorL_length]
theorem xorL_zero (n : Nat) (s : ByteArray) (h : s.size = n) : bxL (List.replicate n 0) s.data.toList = s.data.toList := by
  subst h
  apply List.ext_getElem
  · simp [bxL]
  · intro i h1 h2
    have : i < s.size := by simpa using h2
    simp [bxL, List.getD, this, List.getElem?_replicate]
theorem sumL_one (n : Nat) (ss : List ByteArray) (h : 0 < ss.length) (hs : (ss.getD 0 ByteArray.empty).size = n) : sumL n (ss.take 1) = (ss.getD 0 ByteArray.empty).data.toList := by
  cases ss with
  | nil => simp at h
  | cons s r => simp only [List.take_succ_cons, List.take_zero, sumL, List.foldl_cons, List.foldl_nil]; simp at hs; rw [xorL_zero n s hs]; simp
theorem sumL_snoc (n : Nat) (ss : List ByteArray) (j : Nat) (h : j < ss.length) : bxL (sumL n (ss.take j)) (ss.getD j ByteArray.empty).data.toList = sumL n (ss.take (j + 1)) := by
  unfold sumL
  rw [List.take_succ_eq_append_getElem h, List.foldl_append]
  simp [List.getD, h]
theorem allL_at {n : Int} {ss : List ByteArray} (h : allL n ss = true) (j : Nat) (hj : j < ss.length) : ((ss.getD j ByteArray.empty).size : Int) = n := by
  have := List.all_eq_true.1 h (ss[j]) (List.getElem_mem _)
  simpa [List.getD, hj] using this
theorem sum_size (n : Int) (A : Option Addr) (l c : Nat) (h : smb n = false) (w : World) : Calls Tryd.prog 34 #[.int .i64 n, .slice A l c] w fun e w' => e = .returned (.tuple #[.string ⟨#[]⟩, .int .i64 2]) ∧ Below w.heap.size w w' := by
  have H := Lib.hid (sizeMayBe_any n)
  go_enter Tryd.func34, Tryd.ntmps34
  go_wp2_with fail
  refine (H.out _).mono ?_
  rintro e w1 ⟨rfl, rfl⟩
  go_wp2_with fail
  go_ret2
  exact ⟨rfl, Below.refl _ _⟩
theorem sum_have (n : Int) (A : Option Addr) (l c : Nat) (ss : List ByteArray) (w : World) (ht : Texts w A l ss) (hl : l ≤ maxLen) (h : smb n = true) (h2 : allL n ss = false) : Calls Tryd.prog 34 #[.int .i64 n, .slice A l c] w fun e w' => e = .returned (.tuple #[.string ⟨#[]⟩, .int .i64 2]) ∧ Below w.heap.size w w' := by
  have H := Lib.hid (sizeMayBe_any n)
  have H2 := Lib.hid (allHave_any n A l c ss w ht hl)
  clear ht
  go_enter Tryd.func34, Tryd.ntmps34
  go_wp2_with fail
  refine (H.out _).mono ?_
  rintro e w1 ⟨rfl, rfl⟩
  go_wp2_with fail
  refine H2.out.mono ?_
  rintro e w1 ⟨rfl, rfl⟩
  go_wp2_with fail
  go_ret2
  exact ⟨rfl, Below.refl _ _⟩
theorem sum_many (n : Int) (A : Option Addr) (l c : Nat) (ss : List ByteArray) (w : World) (ht : Texts w A l ss) (hl : l ≤ maxLen) (h : smb n = true) (h2 : allL n ss = true) (h3 : 64 < l) : Calls Tryd.prog 34 #[.int .i64 n, .slice A l c] w fun e w' => e = .returned (.tuple #[.string ⟨#[]⟩, .int .i64 2]) ∧ Below w.heap.size w w' := by
  have H := Lib.hid (sizeMayBe_any n)
  have H2 := Lib.hid (allHave_any n A l c ss w ht hl)
  clear ht
  unfold maxLen at hl
  have g : (64 : Int) < l := by omega
  go_enter Tryd.func34, Tryd.ntmps34
  go_wp2_with fail
  refine (H.out _).mono ?_
  rintro e w1 ⟨rfl, rfl⟩
  go_wp2_with fail
  refine H2.out.mono ?_
  rintro e w1 ⟨rfl, rfl⟩
  go_wp2_with fail
  go_ret2
  exact ⟨rfl, Below.refl _ _⟩
theorem sum_none (n : Nat) (A : Option Addr) (c : Nat) (w : World) (h : smb n = true) : Calls Tryd.prog 34 #[.int .i64 n, .slice A 0 c] w fun e w' => e = .returned (.tuple #[.string ⟨(sumL n []).toArray⟩, .int .i64 0]) ∧ Below w.heap.size w w' := by
  have H := Lib.hid (sizeMayBe_any n)
  have H2 := Lib.hid (allHave_any n A 0 c [] w (Texts.nil w A) (Nat.zero_le _))
  have t : allL n [] = true := rfl
  go_enter Tryd.func34, Tryd.ntmps34
  go_wp2_with fail
  refine (H.out _).mono ?_
  rintro e w1 ⟨rfl, rfl⟩
  go_wp2_with fail
  refine H2.out.mono ?_
  rintro e w1 ⟨rfl, rfl⟩
  go_wp2_with fail
  refine (zero_yes n h _).mono ?_
  rintro e w1 ⟨rfl, hb⟩
  go_wp2_with fail
  go_ret2
  exact ⟨rfl, hb⟩
theorem copyB {w : World} {g n : Nat} {t : TypeId} {l : List UInt8} {s : ByteArray} (h : Box w g t (bytesA l)) (hl : l.length = n) (hs : s.size = n) :
    (Builtin.copy_ #[54, 9] 3 #[.slice (some ⟨g, 0, none⟩) n n, .string s]).run Tryd.prog w = .ok (goInt s.size) (w.setRow g (bytesA s.data.toList)) := by
  have hsz : (bytesA l).size = n := by simp [bytesA, hl]
  have hi : (Tryd.prog.info? 5).map (·.size) = some 1 := by kernel_rfl
  have hcp := Lib.run_copy_row_string (P := Tryd.prog) w 54 9 3 5 g 0 n n s (bytesA l) t Tryd.underlying54 hi h (by omega) (by omega)
  rw [hcp]
  have : ((bytesA l).toList.take 0 ++ Lib.byteCells s.data.toList ++ (bytesA l).toList.drop (0 + s.size)).toArray = bytesA s.data.toList := by
    rw [List.take_zero, List.nil_append, List.drop_of_length_le (by rw [Array.length_toList]; omega), List.append_nil]
    rfl
  rw [this]
set_option maxRecDepth 100000 in
set_option maxHeartbeats 1000000 in
theorem sum_some (n : Nat) (A : Option Addr) (l c : Nat) (ss : List ByteArray) (w : World) (ht : Texts w A l ss) (h : smb n = true) (h2 : allL n ss = true) (h3 : l ≤ 64) (h0 : 0 < l) (hlc : l ≤ c) (hcm : c ≤ maxLen) :
    Calls Tryd.prog 34 #[.int .i64 n, .slice A l c] w fun e w' => e = .returned (.tuple #[.string ⟨(sumL n ss).toArray⟩, .int .i64 0]) ∧ Below w.heap.size w w' := by
  have H := Lib.hid (sizeMayBe_any n)
  have H2 := Lib.hid (allHave_any n A l c ss w ht (by unfold maxLen; omega))
  have HL := Lib.hid ht.1
  have HA := Lib.hid h2
  have hn := (smb_iff n).1 h
  obtain ⟨b, off, rfl, hb, hc⟩ := ht.2.2 h0
  have HC := Lib.hid hc
  have hs0 : (ss.getD 0 ByteArray.empty).size = n := by have := allL_at h2 0 (by rw [ht.1]; exact h0); omega
  have c0 : (w.alloc (.cells (bytesA (List.replicate n 0)) 5)).cell? ⟨b, off, none⟩ = some (.string (ss.getD 0 ByteArray.empty)) :=
    (((Below.refl w.heap.size w).alloc (Nat.le_refl _) _).cell (p := ⟨b, off, none⟩) hb).trans (hc 0 h0)
  have m := makeB_any n (by omega) w
  have bx := Box.new w 5 (bytesA (List.replicate n 0))
  have cp := copyB bx (n := n) (s := ss.getD 0 ByteArray.empty) (by simp) hs0
  have HY := Lib.hid (show Box ((w.alloc (.cells (bytesA (List.replicate n 0)) 5)).setRow w.heap.size (bytesA (ss.getD 0 ByteArray.empty).data.toList)) w.heap.size 5 (bytesA (sumL n (ss.take 1))) from by
    rw [sumL_one n ss (by rw [ht.1]; exact h0) hs0]; exact setRow_heap _ _ _ _ _ _ bx)
  have HB := Lib.hid (below_setRow ((Below.refl w.heap.size w).alloc (Nat.le_refl _) (.cells (bytesA (List.replicate n 0)) 5)) (Nat.le_refl _) (bytesA (ss.getD 0 ByteArray.empty).data.toList))
  generalize ss.getD 0 ByteArray.empty = s0 at *
  clear ht hc hs0 bx
  unfold maxLen at hcm
  have g1 : ¬ (64 : Int) < l := by omega
  have g2 : ¬ (l : Int) = 0 := by omega
  have g3 : ((l : Int) == 0) = false := by simpa using (show ¬ l = 0 by omega)
  have g4 : (1 : Int) ≤ l := by omega
  have g5 : (0 : Int) < l := by omega
  have g6 : (l : Int) ≤ c := by omega
  by_cases hc1 : c = 1
  · subst hc1
    obtain rfl : l = 1 := by omega
    go_enter Tryd.func34, Tryd.ntmps34
    go_wp2_with fail
    refine (H.out _).mono ?_
    rintro e w1 ⟨rfl, rfl⟩
    go_wp2_with fail
    refine H2.out.mono ?_
    rintro e w1 ⟨rfl, rfl⟩
    go_wp2_with fail
    generalize (w.alloc (.cells (bytesA (List.replicate n 0)) 5)).setRow w.heap.size (bytesA s0.data.toList) = W at *
    clear c0 m cp H H2
    go_loopw [40] (fun i wr => ∃ j : Nat, j ≤ 0 ∧ i = .int .i64 j ∧ Box wr w.heap.size 5 (bytesA (sumL n (ss.take (j + 1)))) ∧ Below w.heap.size w wr)
      (fun i _ => 0 - (intOf i).toNat)
    case atStart => exact ⟨0, by omega, rfl, HY.out, HB.out⟩
    case round =>
      obtain ⟨j, hj, rfl, R, HB⟩ := hrel
      have R := Lib.hid R
      have HB := Lib.hid HB
      obtain rfl : j = 0 := by omega
      have cv := backB R.out (n := n) (sumL_length _ _)
      have HF := Lib.hid (show ss.take (0 + 1) = ss from List.take_of_length_le (by rw [HL.out]; omega))
      go_wp2_with fail
      go_ret2
      exact ⟨by rw [HF.out]; rfl, HB.out⟩
  · have g7 : ¬ c = 1 := hc1
    go_enter Tryd.func34, Tryd.ntmps34
    go_wp2_with fail
    refine (H.out _).mono ?_
    rintro e w1 ⟨rfl, rfl⟩
    go_wp2_with fail
    refine H2.out.mono ?_
    rintro e w1 ⟨rfl, rfl⟩
    go_wp2_with fail
    generalize (w.alloc (.cells (bytesA (List.replicate n 0)) 5)).setRow w.heap.size (bytesA s0.data.toList) = W at *
    clear c0 m cp H H2
    go_loopw [40] (fun i wr => ∃ j : Nat, j ≤ l - 1 ∧ i = .int .i64 j ∧ Box wr w.heap.size 5 (bytesA (sumL n (ss.take (j + 1)))) ∧ Below w.heap.size w wr)
      (fun i _ => l - 1 - (intOf i).toNat)
    case atStart => exact ⟨0, by omega, rfl, HY.out, HB.out⟩
    case round =>
      obtain ⟨j, hj, rfl, R, HB⟩ := hrel
      have R := Lib.hid R
      have HB := Lib.hid HB
      by_cases hlt : j < l - 1
      · have c1 : wr.cell? ⟨b, off + 1 + j, none⟩ = some (.string (ss.getD (j + 1) ByteArray.empty)) :=
          (HB.out.cell (p := ⟨b, off + 1 + j, none⟩) hb).trans (by have := HC.out (j + 1) (by omega); rwa [show off + (j + 1) = off + 1 + j by omega] at this)
        have hz : (ss.getD (j + 1) ByteArray.empty).size = n := by have := allL_at HA.out (j + 1) (by rw [HL.out]; omega); omega
        have HZ := Lib.hid hz
        have HS := Lib.hid (sumL_snoc n ss (j + 1) (by rw [HL.out]; omega))
        clear hz
        generalize ss.getD (j + 1) ByteArray.empty = s at *
        have q1 : (j : Int) < ((l - 1 : Nat) : Int) := by omega
        go_wp2_with fail
        refine (put_any w.heap.size n _ s _ R.out (sumL_length _ _) HZ.out (by omega)).mono ?_
        rintro e w2 ⟨rfl, R2, hb2⟩
        have R2 := Lib.hid R2
        have HB2 := Lib.hid (HB.out.trans hb2)
        clear hb2
        go_wp2_with fail
        go_roundw
        case rel => exact ⟨j + 1, by omega, by go_num, by have := R2.out; rw [HS.out] at this; exact this, HB2.out⟩
        case measure => simp [intOf]; omega
      · obtain rfl : j = l - 1 := by omega
        have cv := backB R.out (n := n) (sumL_length _ _)
        have HF := Lib.hid (show ss.take (l - 1 + 1) = ss from List.take_of_length_le (by rw [HL.out]; omega))
        go_wp2_with fail
        go_ret2
        exact ⟨by rw [HF.out]; rfl, HB.out⟩
end
section
/- Contracts of block.Sum (all cases), block.Xor, the law's alive. -/
set_option linter.unusedVariables false
set_option linter.unusedSimpArgs false
open Go.RowKit
/-- May texts be summed? -/
def okS (n : Int) (ss : List ByteArray) : Bool := smb n && allL n ss && decide (ss.length ≤ 64)
def sumS (n : Int) (ss : List ByteArray) : ByteArray := if okS n ss then ⟨(sumL n.toNat ss).toArray⟩ else ⟨#[]⟩
def sumE (n : Int) (ss : List ByteArray) : Int := if okS n ss then 0 else 2
theorem sum_any (n : Int) (A : Option Addr) (l c : Nat) (ss : List ByteArray) (w : World) (ht : Texts w A l ss) (hlc : l ≤ c) (hcm : c ≤ maxLen) :
    Calls Tryd.prog 34 #[.int .i64 n, .slice A l c] w fun e w' => e = .returned (.tuple #[.string (sumS n ss), .int .i64 (sumE n ss)]) ∧ Below w.heap.size w w' := by
  have hlen := ht.1
  cases h : smb n with
  | false =>
    have e : okS n ss = false := by simp [okS, h]
    unfold sumS sumE; rw [e]
    exact sum_size n A l c h w
  | true =>
    cases h2 : allL n ss with
    | false =>
      have e : okS n ss = false := by simp [okS, h2]
      unfold sumS sumE; rw [e]
      exact sum_have n A l c ss w ht (by omega) h h2
    | true =>
      by_cases h3 : l ≤ 64
      · have e : okS n ss = true := by simp [okS, h, h2, hlen, h3]
        unfold sumS sumE; rw [e]
        obtain ⟨k, rfl⟩ := Int.eq_ofNat_of_zero_le ((smb_iff n).1 h).1
        by_cases h0 : l = 0
        · subst h0
          obtain rfl : ss = [] := List.length_eq_zero_iff.1 hlen
          exact sum_none k A c w h
        · exact sum_some k A l c ss w ht h h2 h3 (by omega) hlc hcm
      · have e : okS n ss = false := by simp [okS, hlen, h3]
        unfold sumS sumE; rw [e]
        exact sum_many n A l c ss w ht (by omega) h h2 (by omega)
theorem pair_texts (w : World) (t : TypeId) (a b : ByteArray) (ha : a.size ≤ maxLen) (hb : b.size ≤ maxLen) : Texts (w.alloc (.cells #[.string a, .string b] t)) (some ⟨w.heap.size, 0, none⟩) 2 [a, b] := by
  have bx := Box.new w t #[.string a, .string b]
  refine ⟨rfl, fun j => ?_, fun _ => ⟨w.heap.size, 0, rfl, by simp, fun j hj => ?_⟩⟩
  · match j with
    | 0 => exact ha
    | 1 => exact hb
    | j + 2 => simp [List.getD, maxLen]
  · rw [Nat.zero_add, bx.cell j]
    match j, hj with
    | 0, _ => rfl
    | 1, _ => rfl
theorem one_texts (w : World) (t : TypeId) (a : ByteArray) (ha : a.size ≤ maxLen) : Texts (w.alloc (.cells #[.string a] t)) (some ⟨w.heap.size, 0, none⟩) 1 [a] := by
  have bx := Box.new w t #[.string a]
  refine ⟨rfl, fun j => ?_, fun _ => ⟨w.heap.size, 0, rfl, by simp, fun j hj => ?_⟩⟩
  · match j with
    | 0 => exact ha
    | j + 1 => simp [List.getD, maxLen]
  · rw [Nat.zero_add, bx.cell j]
    match j, hj with
    | 0, _ => rfl
theorem bxor_any (a b : ByteArray) (ha : a.size ≤ maxLen) (hb : b.size ≤ maxLen) (w : World) :
    Calls Tryd.prog 63 #[.string a, .string b] w fun e w' => e = .returned (.tuple #[.string (sumS a.size [a, b]), .int .i64 (sumE a.size [a, b])]) ∧ Below w.heap.size w w' := by
  have HT := Lib.hid (pair_texts w 9 a b ha hb)
  unfold maxLen at ha hb
  go_enter Tryd.func63, Tryd.ntmps63
  go_wp2_with fail
  refine (sum_any a.size _ 2 2 [a, b] _ HT.out (Nat.le_refl _) (by unfold maxLen; omega)).mono ?_
  rintro e w1 ⟨rfl, hb⟩
  have HB := Lib.hid (chain ((Below.refl w.heap.size w).alloc (Nat.le_refl _) (.cells #[.string a, .string b] 9)) hb)
  clear hb
  go_wp2_with fail
  go_ret2
  exact ⟨rfl, HB.out⟩
end
section
/- BlockZero: the walk. -/
set_option linter.unusedVariables false
set_option linter.unusedSimpArgs false
open Go.RowKit
theorem xorL_self (l : List UInt8) : bxL l l = List.replicate l.length 0 := by
  apply List.ext_getElem
  · simp [bxL]
  · intro i h1 h2; simp [bxL]
theorem xorL_zero_right (l : List UInt8) (n : Nat) : bxL l (List.replicate n 0) = l := by
  apply List.ext_getElem
  · simp [bxL]
  · intro i h1 h2
    have e : (List.replicate n (0 : UInt8))[i]?.getD 0 = 0 := by
      rw [List.getElem?_replicate]; split <;> rfl
    simp [bxL, List.getD, h2, e]
theorem size_list (s : ByteArray) : s.data.toList.length = s.size := by simp
theorem back_list (s : ByteArray) : (⟨s.data.toList.toArray⟩ : ByteArray) = s := by apply ByteArray.ext; simp
theorem zeroB_size (n : Nat) : (zeroB n).size = n := by
  have : (zeroB n).size = (List.replicate n (0 : UInt8)).toArray.size := rfl
  rw [this]; simp
theorem zeroB_list (n : Nat) : (zeroB n).data.toList = List.replicate n 0 := by simp [zeroB]
theorem nought_zero (n : Nat) : noughtL (zeroB n).data.toList = true := by rw [zeroB_list]; simp [noughtL]
theorem str_eq (s t : ByteArray) : (s.toList == t.toList) = decide (s = t) := by
  by_cases h : s = t
  · subst h; simp
  · rw [decide_eq_false h, beq_eq_false_iff_ne]
    intro e
    rw [ByteArray.toList_eq, ByteArray.toList_eq] at e
    exact h (ByteArray.ext (Array.toList_inj.1 e))
theorem nought_iff (s : ByteArray) : noughtL s.data.toList = (s.toList == (zeroB s.size).toList) := by
  rw [str_eq, Bool.eq_iff_iff, decide_eq_true_iff]
  constructor
  · intro h
    apply ByteArray.ext
    apply Array.toList_inj.1
    rw [zeroB_list]
    refine List.eq_replicate_iff.2 ⟨size_list s, fun b hb => ?_⟩
    have := List.all_eq_true.1 h b hb
    simpa using this
  · intro h; rw [h]; exact nought_zero _
theorem okS_of (n : Nat) (ss : List ByteArray) (hn : n ≤ 64) (h : ∀ s ∈ ss, s.size = n) (hl : ss.length ≤ 64) : okS n ss = true := by
  have h1 : smb n = true := (smb_iff _).2 ⟨by omega, by omega⟩
  have h2 : allL n ss = true := List.all_eq_true.2 fun s hs => by simp [h s hs]
  simp [okS, h1, h2, hl]
theorem sum_sz (s : ByteArray) (h : s.size ≤ 64) : sumS s.size [s, zeroB s.size] = s ∧ sumE s.size [s, zeroB s.size] = 0 := by
  have e := okS_of s.size [s, zeroB s.size] h (by intro t ht; simp at ht; rcases ht with rfl | rfl; rfl; exact zeroB_size _) (by simp)
  refine ⟨?_, by rw [sumE, e]; rfl⟩
  rw [sumS, if_pos e]
  simp only [sumL, List.foldl_cons, List.foldl_nil, Int.toNat_natCast]
  rw [xorL_zero _ s rfl, zeroB_list, xorL_zero_right, back_list]
theorem sum_ss (s : ByteArray) (h : s.size ≤ 64) : sumS s.size [s, s] = zeroB s.size ∧ sumE s.size [s, s] = 0 := by
  have e := okS_of s.size [s, s] h (by intro t ht; simp at ht; rw [ht]) (by simp)
  refine ⟨?_, by rw [sumE, e]; rfl⟩
  rw [sumS, if_pos e]
  simp only [sumL, List.foldl_cons, List.foldl_nil, Int.toNat_natCast]
  rw [xorL_zero _ s rfl, xorL_self, size_list]; rfl
theorem sum_s (s : ByteArray) (h : s.size ≤ 64) : sumS s.size [s] = s ∧ sumE s.size [s] = 0 := by
  have e := okS_of s.size [s] h (by intro t ht; simp at ht; rw [ht]) (by simp)
  refine ⟨?_, by rw [sumE, e]; rfl⟩
  rw [sumS, if_pos e]
  simp only [sumL, List.foldl_cons, List.foldl_nil, Int.toNat_natCast]
  rw [xorL_zero _ s rfl, back_list]
theorem sum_0 (n : Nat) (h : n ≤ 64) : sumS n [] = zeroB n ∧ sumE n [] = 0 := by
  have e := okS_of n [] h (by simp) (by simp)
  refine ⟨?_, by rw [sumE, e]; rfl⟩
  rw [sumS, if_pos e]; rfl
end
section
/- Blocks as numbers; rows with their blocks. No program. -/
set_option linter.unusedVariables false
set_option linter.unusedSimpArgs false
/-- Bytes as a number, the first one lowest. -/
def bn : List UInt8 → Nat
  | [] => 0
  | b :: bs => b.toNat + 256 * bn bs
theorem bn_bit (b : UInt8) (bs : List UInt8) (p : Nat) : (bn (b :: bs)).testBit p = if p < 8 then b.toNat.testBit p else (bn bs).testBit (p - 8) := by
  have hb : b.toNat < 2 ^ 8 := b.toNat_lt
  rw [bn, Nat.add_comm, show (256 : Nat) = 2 ^ 8 by rfl, Nat.testBit_two_pow_mul_add _ hb]
theorem bxL_cons (x y : UInt8) (a b : List UInt8) : bxL (x :: a) (y :: b) = (x ^^^ y) :: bxL a b := by
  unfold bxL
  rw [List.length_cons, List.range_succ_eq_map, List.map_cons, List.map_map]
  simp [Function.comp_def]
theorem bn_xor : ∀ (a b : List UInt8), a.length = b.length → bn (bxL a b) = bn a ^^^ bn b
  | [], [], _ => rfl
  | x :: a, y :: b, h => by
    rw [bxL_cons]
    apply Nat.eq_of_testBit_eq
    intro p
    rw [Nat.testBit_xor, bn_bit, bn_bit, bn_bit, bn_xor a b (by simpa using h)]
    split
    · rw [UInt8.toNat_xor, Nat.testBit_xor]
    · rw [Nat.testBit_xor]
theorem bn_byte : ∀ (l : List UInt8) (i k : Nat), k < 8 → (bn l).testBit (8 * i + k) = (l.getD i 0).toNat.testBit k
  | [], i, k, _ => by simp [bn]
  | b :: bs, 0, k, hk => by rw [bn_bit, if_pos (by omega)]; simp
  | b :: bs, i + 1, k, hk => by rw [bn_bit, if_neg (by omega), show 8 * (i + 1) + k - 8 = 8 * i + k by omega, bn_byte bs i k hk, List.getD_cons_succ]
theorem bn_zero : ∀ (l : List UInt8), bn l = 0 ↔ noughtL l = true
  | [] => by simp [bn, noughtL]
  | b :: bs => by
    have ih := bn_zero bs
    simp only [noughtL, List.all_cons, Bool.and_eq_true, beq_iff_eq] at ih ⊢
    rw [← ih, bn]
    have : b = 0 ↔ b.toNat = 0 := ⟨fun h => by rw [h]; rfl, fun h => UInt8.toNat_inj.1 (by rw [h]; rfl)⟩
    rw [this]; omega
theorem bn_inj : ∀ (a b : List UInt8), a.length = b.length → bn a = bn b → a = b
  | [], [], _, _ => rfl
  | x :: a, y :: b, h, he => by
    have h1 : x.toNat < 256 := x.toNat_lt
    have h2 : y.toNat < 256 := y.toNat_lt
    rw [bn, bn] at he
    have e1 : x.toNat = y.toNat := by omega
    have e2 : bn a = bn b := by omega
    rw [UInt8.toNat_inj.1 e1, bn_inj a b (by simpa using h) e2]
/-- A row and its block. -/
abbrev PV := Nat × ByteArray
def pv0 : PV := (0, ⟨#[]⟩)
def plusP (p q : PV) : PV := (p.1 ^^^ q.1, ⟨(bxL p.2.data.toList q.2.data.toList).toArray⟩)
def GoodP (N n : Nat) (p : PV) : Prop := p.1 < 2 ^ N ∧ p.2.size = n
def zOf (N : Nat) (p : PV) : Nat := p.1 + 2 ^ N * bn p.2.data.toList
theorem plus_good {N n : Nat} {p q : PV} (hp : GoodP N n p) (hq : GoodP N n q) : GoodP N n (plusP p q) :=
  ⟨Nat.xor_lt_two_pow hp.1 hq.1, by
    have h1 := hp.2
    have h2 := hq.2
    show (bxL p.2.data.toList q.2.data.toList).toArray.size = n
    rw [List.size_toArray, xorL_length, size_list]; exact h1⟩
theorem z_bit {N n : Nat} {p : PV} (h : GoodP N n p) (i : Nat) : (zOf N p).testBit i = if i < N then p.1.testBit i else (bn p.2.data.toList).testBit (i - N) := by
  rw [zOf, Nat.add_comm, Nat.testBit_two_pow_mul_add _ h.1]
theorem z_low {N n : Nat} {p : PV} (h : GoodP N n p) : lowN N (zOf N p) = p.1 := by
  rw [lowN, zOf, Nat.add_mul_mod_self_left]; exact Nat.mod_eq_of_lt h.1
theorem z_high {N n : Nat} {p : PV} (h : GoodP N n p) : zOf N p >>> N = bn p.2.data.toList := by
  apply Nat.eq_of_testBit_eq
  intro i
  rw [Nat.testBit_shiftRight, z_bit h, if_neg (by omega), show N + i - N = i by omega]
theorem z_plus {N n : Nat} {p q : PV} (hp : GoodP N n p) (hq : GoodP N n q) : zOf N (plusP p q) = zOf N p ^^^ zOf N q := by
  apply Nat.eq_of_testBit_eq
  intro i
  have hl : p.2.data.toList.length = q.2.data.toList.length := by
    rw [size_list, size_list, hp.2, hq.2]
  have hx := bn_xor _ _ hl
  rw [Nat.testBit_xor, z_bit (plus_good hp hq), z_bit hp, z_bit hq]
  split
  · rw [plusP, Nat.testBit_xor]
  · rw [← Nat.testBit_xor, ← hx]; simp [plusP]
theorem z_nought {N n : Nat} {p : PV} (h : GoodP N n p) : zOf N p = 0 ↔ p.1 = 0 ∧ noughtL p.2.data.toList = true := by
  rw [← bn_zero, zOf]
  have hp := Nat.two_pow_pos N
  constructor
  · intro he
    have h1 : p.1 = 0 := by omega
    refine ⟨h1, ?_⟩
    have h2 : 2 ^ N * bn p.2.data.toList = 0 := by omega
    rcases Nat.mul_eq_zero.1 h2 with h3 | h3
    · omega
    · exact h3
  · rintro ⟨h1, h2⟩; rw [h1, h2]; rfl
/-- A column put out of rows with their blocks. -/
def clrP (c : Nat) (f : PV) (L : List PV) : List PV := L.map fun x => if x.1.testBit c then plusP x f else x
theorem clrP_len (c : Nat) (f : PV) (L : List PV) : (clrP c f L).length = L.length := by simp [clrP]
theorem clrP_good {N n c : Nat} {f : PV} {L : List PV} (hf : GoodP N n f) (hL : ∀ p ∈ L, GoodP N n p) : ∀ p ∈ clrP c f L, GoodP N n p := fun p hp => by
  obtain ⟨x, hx, rfl⟩ := List.mem_map.1 hp
  split
  · exact plus_good (hL x hx) hf
  · exact hL x hx
theorem clrP_z {N n c : Nat} {f : PV} {L : List PV} (hc : c < N) (hf : GoodP N n f) (hL : ∀ p ∈ L, GoodP N n p) : (clrP c f L).map (zOf N) = clr c (zOf N f) (L.map (zOf N)) := by
  unfold clrP clr
  rw [List.map_map, List.map_map]
  apply List.map_congr_left
  intro x hx
  have hb : (zOf N x).testBit c = x.1.testBit c := by rw [z_bit (hL x hx), if_pos hc]
  simp only [Function.comp_apply, hb]
  split
  · exact z_plus (hL x hx) hf
  · rfl
theorem mapz_at (N : Nat) (L : List PV) (i : Nat) (h : i < L.length) : (L.map (zOf N)).getD i 0 = zOf N (L.getD i pv0) := by simp [List.getD, h]
theorem getD_memP {L : List PV} {i : Nat} (h : i < L.length) : L.getD i pv0 ∈ L := by
  have : L.getD i pv0 = L[i] := by simp [List.getD, h]
  rw [this]; exact List.getElem_mem _
theorem erase_z (N : Nat) (L : List PV) (i : Nat) : (L.eraseIdx i).map (zOf N) = (L.map (zOf N)).eraseIdx i := by
  induction L generalizing i with
  | nil => rfl
  | cons a L ih => cases i with
    | zero => rfl
    | succ i => simp [ih]
theorem plus_sum {n : Nat} {a b : ByteArray} (ha : a.size = n) (hb : b.size = n) (hn : n ≤ 64) : sumS a.size [a, b] = ⟨(bxL a.data.toList b.data.toList).toArray⟩ := by
  have ho := okS_of n [a, b] hn (by intro s hs; simp at hs; rcases hs with rfl | rfl <;> assumption) (by simp)
  rw [ha, sumS, if_pos ho]
  simp only [sumL, Int.toNat_natCast, List.foldl_cons, List.foldl_nil]
  rw [xorL_zero n a ha]
end
section
/- Words as values; rows of the call's own, from a lower base. No program. -/
set_option linter.unusedVariables false
set_option linter.unusedSimpArgs false
open Go.RowKit
def u64V (x : Nat) : Value := .int .u64 (x : Int)
theorem own_low {w : World} {base base' e size n : Nat} {v : Value} {xs : List Value} (h : w.ownsRow base e size v n xs) (hb : base' ≤ base) : w.ownsRow base' e size v n xs := by
  refine ⟨h.1, ?_⟩
  rcases h.2 with h0 | ⟨g, cap, cur, rfl, h1, h2⟩
  · exact .inl h0
  · exact .inr ⟨g, cap, cur, rfl, Nat.le_trans hb h1, h2⟩
end
section
/- Contracts of bitrow.joined, Xor, And. -/
set_option linter.unusedVariables false
set_option linter.unusedSimpArgs false
open Go.RowKit
def zrow : Value := .agg #[.int .i64 0, .slice none 0 0]
set_option maxHeartbeats 400000 in
/-- What a call that answers a row and an error leaves. -/
def RowOut (n : Int) (zs : List Nat) (er : Int) (w : World) (e : Ending) (w' : World) : Prop :=
  ∃ A l c, e = .returned (.tuple #[.agg #[.int .i64 n, .slice A l c], .int .i64 er]) ∧ Words w' A l zs ∧ Below w.heap.size w w'
theorem rightB_len8 {n : Int} {us : List Nat} (h : rightB n us = true) {l : Nat} (e : us.length = l) : l ≤ 8 := by
  simp only [rightB, Bool.and_eq_true, beq_iff_eq] at h
  have hn := (lmb_iff n).1 h.1.1
  have := h.1.2
  unfold nw at this
  omega
theorem rightB_len {n : Int} {us vs : List Nat} (h : rightB n us = true) (h2 : rightB n vs = true) {l k : Nat} (e : us.length = l) (e2 : vs.length = k) : k = l := by
  simp only [rightB, Bool.and_eq_true, beq_iff_eq] at h h2
  have := h.1.2
  have := h2.1.2
  omega
theorem joined_arg (f : Nat) (n m : Int) (A B : Option Addr) (l c k d : Nat) (us vs : List Nat) (w : World) (hu : Words w A l us) (hv : Words w B k vs) (h : rightB n us = false ∨ rightB m vs = false) :
    Calls Tryd.prog 47 #[.agg #[.int .i64 n, .slice A l c], .agg #[.int .i64 m, .slice B k d], .func (.func f) #[] #[]] w (RowOut 0 [] 1 w) := by
  have q0 := ((Box.new w 27 #[.int .i64 n, .slice A l c]).alloc (.cells #[.int .i64 m, .slice B k d] 27)).alloc (.cells #[.int .i64 0, .slice none 0 0] 27)
  have q1 := (Box.new (w.alloc (.cells #[.int .i64 n, .slice A l c] 27)) 27 #[.int .i64 m, .slice B k d]).alloc (.cells #[.int .i64 0, .slice none 0 0] 27)
  have q2 := Box.new ((w.alloc (.cells #[.int .i64 n, .slice A l c] 27)).alloc (.cells #[.int .i64 m, .slice B k d] 27)) 27 #[.int .i64 0, .slice none 0 0]
  have hW : Below w.heap.size w (((w.alloc (.cells #[.int .i64 n, .slice A l c] 27)).alloc (.cells #[.int .i64 m, .slice B k d] 27)).alloc (.cells #[.int .i64 0, .slice none 0 0] 27)) := (((Below.refl _ _).alloc (Nat.le_refl _) _).alloc (by simp) _).alloc (by simp; omega) _
  simp only [World.size_alloc] at q1 q2
  have hu1 := hu.below hW
  have hv1 := hv.below hW
  have Q0 := Lib.hid q0
  have Q1 := Lib.hid q1
  have Q2 := Lib.hid q2
  have HW := Lib.hid hW
  have HU := Lib.hid hu1
  have HV := Lib.hid hv1
  clear q0 q1 q2 hW hu1 hv1 hu hv
  go_enter Tryd.func47, Tryd.ntmps47
  go_wp2_with fail
  refine (right_any n A l c us _ HU.out).mono ?_
  rintro e x1 ⟨rfl, hb⟩
  have Q0 := Lib.hid (Q0.out.keep hb)
  have Q1 := Lib.hid (Q1.out.keep hb)
  have Q2 := Lib.hid (Q2.out.keep hb)
  have HV := Lib.hid (HV.out.below hb)
  have HW := Lib.hid (chain HW.out hb)
  clear HU hb
  obtain ⟨c0, c1, -, -⟩ := Q1.out.two
  obtain ⟨r0, r1, r2, r3⟩ := Q2.out.two
  cases h1 : rightB n us with
  | false =>
    clear h1 h
    go_wp2
    refine close_cell Tryd.results47 rfl rfl rfl Q2.out.put2 Tryd.underlying27 rfl (by kernel_rfl) ⟨_, _, _, rfl, Words.nil _ _, ?_⟩
    exact (HW.out.setCell (p := ⟨w.heap.size + 1 + 1, 0, none⟩) (by simp; omega) _).setCell (p := ⟨w.heap.size + 1 + 1, 1, none⟩) (by simp; omega) _
  | true =>
    have h2 : rightB m vs = false := by simpa [h1] using h
    go_wp2_with fail
    refine (right_any m B k d vs _ HV.out).mono ?_
    rintro e x2 ⟨rfl, hb⟩
    have Q2 := Lib.hid (Q2.out.keep hb)
    have HW := Lib.hid (chain HW.out hb)
    clear hb c0 c1 r0 r1 r2 r3
    obtain ⟨r0, r1, r2, r3⟩ := Q2.out.two
    go_wp2
    refine close_cell Tryd.results47 rfl rfl rfl Q2.out.put2 Tryd.underlying27 rfl (by kernel_rfl) ⟨_, _, _, rfl, Words.nil _ _, ?_⟩
    exact (HW.out.setCell (p := ⟨w.heap.size + 1 + 1, 0, none⟩) (by simp; omega) _).setCell (p := ⟨w.heap.size + 1 + 1, 1, none⟩) (by simp; omega) _
set_option maxHeartbeats 400000 in
theorem joined_size (f : Nat) (n m : Int) (A B : Option Addr) (l c k d : Nat) (us vs : List Nat) (w : World) (hu : Words w A l us) (hv : Words w B k vs) (h1 : rightB n us = true) (h2 : rightB m vs = true) (hnm : n ≠ m) :
    Calls Tryd.prog 47 #[.agg #[.int .i64 n, .slice A l c], .agg #[.int .i64 m, .slice B k d], .func (.func f) #[] #[]] w (RowOut 0 [] 2 w) := by
  have q0 := ((Box.new w 27 #[.int .i64 n, .slice A l c]).alloc (.cells #[.int .i64 m, .slice B k d] 27)).alloc (.cells #[.int .i64 0, .slice none 0 0] 27)
  have q1 := (Box.new (w.alloc (.cells #[.int .i64 n, .slice A l c] 27)) 27 #[.int .i64 m, .slice B k d]).alloc (.cells #[.int .i64 0, .slice none 0 0] 27)
  have q2 := Box.new ((w.alloc (.cells #[.int .i64 n, .slice A l c] 27)).alloc (.cells #[.int .i64 m, .slice B k d] 27)) 27 #[.int .i64 0, .slice none 0 0]
  have hW : Below w.heap.size w (((w.alloc (.cells #[.int .i64 n, .slice A l c] 27)).alloc (.cells #[.int .i64 m, .slice B k d] 27)).alloc (.cells #[.int .i64 0, .slice none 0 0] 27)) := (((Below.refl _ _).alloc (Nat.le_refl _) _).alloc (by simp) _).alloc (by simp; omega) _
  simp only [World.size_alloc] at q1 q2
  have hu1 := hu.below hW
  have hv1 := hv.below hW
  have Q0 := Lib.hid q0
  have Q1 := Lib.hid q1
  have Q2 := Lib.hid q2
  have HW := Lib.hid hW
  have HU := Lib.hid hu1
  have HV := Lib.hid hv1
  have HU0 := Lib.hid hu
  have HV0 := Lib.hid hv
  clear q0 q1 q2 hW hu1 hv1 hu hv
  go_enter Tryd.func47, Tryd.ntmps47
  go_wp2_with fail
  refine (right_any n A l c us _ HU.out).mono ?_
  rintro e x1 ⟨rfl, hb⟩
  have Q0 := Lib.hid (Q0.out.keep hb)
  have Q1 := Lib.hid (Q1.out.keep hb)
  have Q2 := Lib.hid (Q2.out.keep hb)
  have HV := Lib.hid (HV.out.below hb)
  have HW := Lib.hid (chain HW.out hb)
  clear HU hb
  obtain ⟨c0, c1, -, -⟩ := Q1.out.two
  go_wp2_with fail
  refine (right_any m B k d vs _ HV.out).mono ?_
  rintro e x2 ⟨rfl, hb⟩
  have Q0 := Lib.hid (Q0.out.keep hb)
  have Q1 := Lib.hid (Q1.out.keep hb)
  have Q2 := Lib.hid (Q2.out.keep hb)
  have HW := Lib.hid (chain HW.out hb)
  clear hb c0 c1 HV
  obtain ⟨r0, r1, r2, r3⟩ := Q2.out.two
  obtain ⟨a0, a1, -, -⟩ := Q0.out.two
  obtain ⟨b0, b1, -, -⟩ := Q1.out.two
  have t : (n != m) = true := by simpa using hnm
  go_wp2
  refine close_cell Tryd.results47 rfl rfl rfl Q2.out.put2 Tryd.underlying27 rfl (by kernel_rfl) ⟨_, _, _, rfl, Words.nil _ _, ?_⟩
  exact (HW.out.setCell (p := ⟨w.heap.size + 1 + 1, 0, none⟩) (by simp; omega) _).setCell (p := ⟨w.heap.size + 1 + 1, 1, none⟩) (by simp; omega) _
theorem uint64_info : (Tryd.prog.info? 63).map (fun i => (i.zero, i.size, i.bytes)) = some (some (.int .u64 0), 1, 8) := by kernel_rfl
theorem make_any (n : Nat) (hn : n ≤ 1000000) (w : World) :
    (Instr.makeSlice 25 (.int .i64 (n : Int)) (.int .i64 (n : Int))).run Tryd.prog w = .ok (.slice (some ⟨w.heap.size, 0, none⟩) n n) (w.alloc (.cells (numsA (List.replicate n 0)) 63)) := by
  obtain ⟨i0, hi, hz0, hz1, hz2⟩ := info_parts uint64_info
  exact make_words _ _ i0 Tryd.underlying25 hi hz0 hz1 hz2 n hn w
def part (g : Nat → Nat → Nat) (us vs : List Nat) (k : Nat) : List Nat := (List.zipWith g us vs).take k ++ List.replicate (us.length - k) 0
theorem part_zero (g : Nat → Nat → Nat) (us vs : List Nat) : part g us vs 0 = List.replicate us.length 0 := by simp [part]
theorem part_len (g : Nat → Nat → Nat) (us vs : List Nat) (j k : Nat) (hu : us.length = k) (hv : vs.length = k) : (part g us vs j).length = k := by
  simp [part]; omega
theorem part_get (g : Nat → Nat → Nat) (us vs : List Nat) (j i k : Nat) (hu : us.length = k) (hv : vs.length = k) (hi : i < k) (hj : j ≤ k) : (part g us vs j).getD i 0 = if i < j then g (us.getD i 0) (vs.getD i 0) else 0 := by
  unfold part
  have hl : ((List.zipWith g us vs).take j).length = j := by simp; omega
  by_cases h : i < j
  · rw [if_pos h]
    have h1 : i < us.length := by omega
    have h2 : i < vs.length := by omega
    simp only [List.getD, List.getElem?_append]
    rw [if_pos (by omega)]
    simp [h, h1, h2, List.getElem?_zipWith]
  · rw [if_neg h]
    simp only [List.getD, List.getElem?_append]
    rw [if_neg (by omega), List.getElem?_replicate]
    split <;> rfl
theorem part_fresh (g : Nat → Nat → Nat) (us vs : List Nat) (j k : Nat) (hu : us.length = k) (hv : vs.length = k) (hj : j < k) : (numsA (part g us vs j))[j]? = some (.int .u64 0) := by
  rw [numsA_get _ _ (by rw [part_len g us vs j k hu hv]; exact hj), part_get g us vs j j k hu hv hj (by omega)]
  simp
theorem part_set (g : Nat → Nat → Nat) (us vs : List Nat) (j k : Nat) (hu : us.length = k) (hv : vs.length = k) (hj : j < k) : (part g us vs j).set j (g (us.getD j 0) (vs.getD j 0)) = part g us vs (j + 1) := by
  apply List.ext_getElem
  · rw [List.length_set, part_len g us vs j k hu hv, part_len g us vs (j + 1) k hu hv]
  · intro i h1 h2
    have hi : i < k := by rw [part_len g us vs (j + 1) k hu hv] at h2; exact h2
    have e1 := part_get g us vs j i k hu hv hi (by omega)
    have e2 := part_get g us vs (j + 1) i k hu hv hi (by omega)
    have l1 : i < (part g us vs j).length := by rw [part_len g us vs j k hu hv]; exact hi
    simp only [List.getD, List.getElem?_eq_getElem l1, Option.getD_some] at e1
    simp only [List.getD, List.getElem?_eq_getElem h2, Option.getD_some] at e2
    rw [List.getElem_set, e2]
    by_cases e : j = i
    · subst e; simp [List.getD]
    · rw [if_neg e, e1]
      have : (i < j) ↔ (i < j + 1) := by omega
      simp only [this, List.getD]
theorem part_full (g : Nat → Nat → Nat) (us vs : List Nat) (k : Nat) (hu : us.length = k) (hv : vs.length = k) : part g us vs k = List.zipWith g us vs := by
  unfold part
  rw [List.take_of_length_le (by simp; omega), hu]
  simp
theorem part_lt (us vs : List Nat) (j i : Nat) (hu : ∀ j, us.getD j 0 < 18446744073709551616) (hv : ∀ j, vs.getD j 0 < 18446744073709551616) : (part (· ^^^ ·) us vs j).getD i 0 < 18446744073709551616 := by
  unfold part
  simp only [List.getD, List.getElem?_append]
  split
  · rw [List.getElem?_take]
    split
    · rw [List.getElem?_zipWith]
      have h1 := hu i
      have h2 := hv i
      simp only [List.getD] at h1 h2
      cases e1 : us[i]? <;> cases e2 : vs[i]? <;> simp [e1, e2] at h1 h2 ⊢
      exact Nat.xor_lt_two_pow (n := 64) h1 h2
    · simp
  · rw [List.getElem?_replicate]
    split <;> simp
theorem xor1_any (x y : Nat) (hx : x < 18446744073709551616) (hy : y < 18446744073709551616) (w : World) : Calls Tryd.prog 48 #[.int .u64 x, .int .u64 y] w fun e w' => e = .returned (.int .u64 ((x ^^^ y : Nat) : Int)) ∧ w = w' := by
  go_enter Tryd.func48, Tryd.ntmps48
  go_wp2
  go_ret
  exact ⟨congrArg (fun z => Ending.returned (.int .u64 z)) (u64_xor_nat x y hx hy), rfl⟩
set_option maxHeartbeats 400000 in
theorem joined_xor (n : Int) (A B : Option Addr) (l c k d : Nat) (us vs : List Nat) (w : World) (hu : Words w A l us) (hv : Words w B k vs) (h1 : rightB n us = true) (h2 : rightB n vs = true) :
    Calls Tryd.prog 47 #[.agg #[.int .i64 n, .slice A l c], .agg #[.int .i64 n, .slice B k d], .func (.func 48) #[] #[]] w (RowOut n (List.zipWith (· ^^^ ·) us vs) 0 w) := by
  have hl : l ≤ 8 := rightB_len8 h1 hu.1
  have hkl : k = l := rightB_len h1 h2 hu.1 hv.1
  subst hkl
  have q0 := ((Box.new w 27 #[.int .i64 n, .slice A k c]).alloc (.cells #[.int .i64 n, .slice B k d] 27)).alloc (.cells #[.int .i64 0, .slice none 0 0] 27)
  have q1 := (Box.new (w.alloc (.cells #[.int .i64 n, .slice A k c] 27)) 27 #[.int .i64 n, .slice B k d]).alloc (.cells #[.int .i64 0, .slice none 0 0] 27)
  have q2 := Box.new ((w.alloc (.cells #[.int .i64 n, .slice A k c] 27)).alloc (.cells #[.int .i64 n, .slice B k d] 27)) 27 #[.int .i64 0, .slice none 0 0]
  have hW : Below w.heap.size w (((w.alloc (.cells #[.int .i64 n, .slice A k c] 27)).alloc (.cells #[.int .i64 n, .slice B k d] 27)).alloc (.cells #[.int .i64 0, .slice none 0 0] 27)) := (((Below.refl _ _).alloc (Nat.le_refl _) _).alloc (by simp) _).alloc (by simp; omega) _
  simp only [World.size_alloc] at q1 q2
  have hu1 := hu.below hW
  have hv1 := hv.below hW
  have Q0 := Lib.hid q0
  have Q1 := Lib.hid q1
  have Q2 := Lib.hid q2
  have HW := Lib.hid hW
  have HU := Lib.hid hu1
  have HV := Lib.hid hv1
  have HU0 := Lib.hid hu
  have HV0 := Lib.hid hv
  clear q0 q1 q2 hW hu1 hv1 hu hv
  go_enter Tryd.func47, Tryd.ntmps47
  go_wp2_with fail
  refine (right_any n A k c us _ HU.out).mono ?_
  rintro e x1 ⟨rfl, hb⟩
  have Q0 := Lib.hid (Q0.out.keep hb)
  have Q1 := Lib.hid (Q1.out.keep hb)
  have Q2 := Lib.hid (Q2.out.keep hb)
  have HV := Lib.hid (HV.out.below hb)
  have HW := Lib.hid (chain HW.out hb)
  clear HU hb
  obtain ⟨c0, c1, -, -⟩ := Q1.out.two
  go_wp2_with fail
  refine (right_any n B k d vs _ HV.out).mono ?_
  rintro e x2 ⟨rfl, hb⟩
  have Q0 := Lib.hid (Q0.out.keep hb)
  have Q1 := Lib.hid (Q1.out.keep hb)
  have Q2 := Lib.hid (Q2.out.keep hb)
  have HW := Lib.hid (chain HW.out hb)
  clear hb c0 c1 HV
  obtain ⟨r0, r1, r2, r3⟩ := Q2.out.two
  obtain ⟨a0, a1, -, -⟩ := Q0.out.two
  obtain ⟨b0, b1, -, -⟩ := Q1.out.two
  have t : (n != n) = false := by simp
  have hmk := make_any k (by omega) x2
  have HX2 := Lib.hid Q2.out.lt
  have Q3 := Lib.hid (Box.new x2 63 (numsA (List.replicate k 0)))
  have Q0 := Lib.hid (Q0.out.alloc (.cells (numsA (List.replicate k 0)) 63))
  have Q1 := Lib.hid (Q1.out.alloc (.cells (numsA (List.replicate k 0)) 63))
  have Q2 := Lib.hid (Q2.out.alloc (.cells (numsA (List.replicate k 0)) 63))
  have HW := Lib.hid (HW.out.alloc HW.out.size (.cells (numsA (List.replicate k 0)) 63))
  go_wp2
  clear hmk t h1 h2 a0 a1 b0 b1 r0 r1 r2 r3
  go_loopw [31] (fun i wr => ∃ j : Nat, j ≤ k ∧ i = .int .i64 j ∧ Box wr x2.heap.size 63 (numsA (part (· ^^^ ·) us vs j)) ∧ Box wr w.heap.size 27 #[.int .i64 n, .slice A k c] ∧ Box wr (w.heap.size + 1) 27 #[.int .i64 n, .slice B k d] ∧ Box wr (w.heap.size + 1 + 1) 27 #[.int .i64 0, .slice none 0 0] ∧ Below w.heap.size w wr)
    (fun i _ => k - (intOf i).toNat)
  case atStart => exact ⟨0, by omega, rfl, by rw [part_zero, HU0.out.1]; exact Q3.out, Q0.out, Q1.out, Q2.out, HW.out⟩
  case round =>
    obtain ⟨j, hj, rfl, B3, B0, B1, B2, hbel⟩ := hrel
    have R3 := Lib.hid B3
    have R0 := Lib.hid B0
    have R1 := Lib.hid B1
    have R2 := Lib.hid B2
    have HB := Lib.hid hbel
    clear B3 B0 B1 B2 hbel Q0 Q1 Q2 Q3 HW
    obtain ⟨a0, a1, -, -⟩ := R0.out.two
    obtain ⟨b0, b1, -, -⟩ := R1.out.two
    by_cases hlt : j < k
    · obtain ⟨p, o, rfl, lt1, hc1⟩ := HU0.out.2.2 (by omega)
      obtain ⟨p2, o2, rfl, lt2, hc2⟩ := HV0.out.2.2 (by omega)
      have cu := (HB.out.cell (p := ⟨p, o + j, none⟩) lt1).trans (hc1 j hlt)
      have cv := (HB.out.cell (p := ⟨p2, o2 + j, none⟩) lt2).trans (hc2 j hlt)
      have hx := HU0.out.2.1 j
      have hy := HV0.out.2.1 j
      obtain ⟨x, ex⟩ : ∃ x, x = us.getD j 0 := ⟨_, rfl⟩
      obtain ⟨y, ey⟩ : ∃ y, y = vs.getD j 0 := ⟨_, rfl⟩
      rw [← ex] at cu hx
      rw [← ey] at cv hy
      have hxy := Lib.hid (And.intro ex ey)
      clear ex ey
      have cg : wr.cell? ⟨x2.heap.size, j, none⟩ = some (.int .u64 0) := by rw [R3.out.cell j]; exact part_fresh _ us vs j k HU0.out.1 HV0.out.1 hlt
      have fg := R3.out.free j
      clear hc1 hc2
      have hz := HX2.out
      have n1 : ¬ x2.heap.size = w.heap.size := by omega
      have n2 : ¬ x2.heap.size = w.heap.size + 1 := by omega
      have n3 : ¬ x2.heap.size = p := by omega
      have n4 : ¬ x2.heap.size = p2 := by omega
      have n1' : ¬ w.heap.size = x2.heap.size := by omega
      have n2' : ¬ w.heap.size + 1 = x2.heap.size := by omega
      have n3' : ¬ p = x2.heap.size := by omega
      have n4' : ¬ p2 = x2.heap.size := by omega
      have n5' : ¬ w.heap.size + 1 + 1 = x2.heap.size := by omega
      go_wp2
      go_region_held3 (fun w' => w'.cell? ⟨w.heap.size, 1, none⟩ = some (.slice (some ⟨p, o, none⟩) k c) ∧ w'.cell? ⟨w.heap.size + 1, 1, none⟩ = some (.slice (some ⟨p2, o2, none⟩) k d) ∧ w'.cell? ⟨p, o + j, none⟩ = some (.int .u64 x) ∧ w'.cell? ⟨p2, o2 + j, none⟩ = some (.int .u64 y)) (go_keep) (first | (go_at_call 48; refine (xor1_any x y hx hy _).mono ?_; rintro e w' ⟨rfl, rfl⟩))
      have P1 := Lib.hid ((R3.out.put j (.int .u64 ((x ^^^ y : Nat) : Int))).drew)
      have P0 := Lib.hid ((R0.out.far (p := ⟨x2.heap.size, j, none⟩) n1' (.int .u64 ((x ^^^ y : Nat) : Int))).drew)
      have P2 := Lib.hid ((R1.out.far (p := ⟨x2.heap.size, j, none⟩) n2' (.int .u64 ((x ^^^ y : Nat) : Int))).drew)
      have P3 := Lib.hid ((R2.out.far (p := ⟨x2.heap.size, j, none⟩) n5' (.int .u64 ((x ^^^ y : Nat) : Int))).drew)
      have P4 := Lib.hid ((HB.out.setCell (p := ⟨x2.heap.size, j, none⟩) (by simp; omega) (.int .u64 ((x ^^^ y : Nat) : Int))).drew)
      clear cg fg cu cv n1 n2 n3 n4 n1' n2' n3' n4' a0 a1 b0 b1
      generalize (wr.setCell ⟨x2.heap.size, j, none⟩ (.int .u64 ((x ^^^ y : Nat) : Int))).drew = wn at *
      go_wp2
      go_roundw
      case rel => exact ⟨j + 1, by omega, by go_num, by have := P1.out; rw [numsA_set, hxy.out.1, hxy.out.2, part_set _ us vs j k HU0.out.1 HV0.out.1 hlt] at this; exact this, P0.out, P2.out, P3.out, P4.out⟩
      case measure => simp [intOf]; omega
    · obtain ⟨r0, r1, r2, r3⟩ := R2.out.two
      have hz := HX2.out
      have n5' : ¬ w.heap.size + 1 + 1 = x2.heap.size := by omega
      obtain rfl : j = k := by omega
      go_wp2
      refine close_cell Tryd.results47 rfl rfl rfl R2.out.put2 Tryd.underlying27 rfl (by kernel_rfl) ?_
      have hp : part (· ^^^ ·) us vs j = List.zipWith (· ^^^ ·) us vs := part_full _ us vs j HU0.out.1 HV0.out.1
      have hw := (((R3.out.far (p := ⟨w.heap.size + 1 + 1, 0, none⟩) (by simp; omega) (.int .i64 n)).far (p := ⟨w.heap.size + 1 + 1, 1, none⟩) (by simp; omega) (.slice (some ⟨x2.heap.size, 0, none⟩) j j))).words (fun i => part_lt us vs j i HU0.out.2.1 HV0.out.2.1)
      rw [part_len _ us vs j j HU0.out.1 HV0.out.1, hp] at hw
      exact ⟨_, _, _, rfl, hw, (HB.out.setCell (p := ⟨w.heap.size + 1 + 1, 0, none⟩) (by simp; omega) _).setCell (p := ⟨w.heap.size + 1 + 1, 1, none⟩) (by simp; omega) _⟩
end
section
/- Contracts of bitrow.New and bitrow.Of. -/
set_option linter.unusedVariables false
set_option linter.unusedSimpArgs false
open Go.RowKit
/-- A new row of words of the call's own. -/
def NewOut (n : Int) (zs : List Nat) (w : World) (e : Ending) (w' : World) : Prop :=
  ∃ g, e = .returned (.tuple #[.agg #[.int .i64 n, .slice (some ⟨g, 0, none⟩) zs.length zs.length], .int .i64 0]) ∧ Box w' g 63 (numsA zs) ∧ w.heap.size ≤ g ∧ Below w.heap.size w w'
theorem new_no (n : Int) (h : lmb n = false) (w : World) : Calls Tryd.prog 41 #[.int .i64 n] w (RowOut 0 [] 2 w) := by
  have q := Box.new w 27 #[.int .i64 0, .slice none 0 0]
  have Q := Lib.hid q
  clear q
  go_enter Tryd.func41, Tryd.ntmps41
  go_wp2_with fail
  refine (lengthMayBe_any n _).mono ?_
  rintro e w' ⟨rfl, rfl⟩
  go_wp2
  refine close_cell Tryd.results41 rfl rfl rfl Q.out Tryd.underlying27 rfl (by kernel_rfl) ⟨_, _, _, rfl, Words.nil _ _, (Below.refl _ _).alloc (Nat.le_refl _) _⟩
theorem new_yes (n : Nat) (h : lmb n = true) (w : World) : Calls Tryd.prog 41 #[.int .i64 n] w (NewOut n (List.replicate (nw n) 0) w) := by
  have hn := (lmb_iff n).1 h
  have hnw : nw n ≤ 8 := by unfold nw; omega
  have q := Box.new w 27 #[.int .i64 0, .slice none 0 0]
  have Q := Lib.hid q
  clear q
  have hmk := make_any (nw n) (by omega)
  go_enter Tryd.func41, Tryd.ntmps41
  go_wp2_with fail
  refine (lengthMayBe_any n _).mono ?_
  rintro e w' ⟨rfl, rfl⟩
  go_wp2_with fail
  refine (wordsFor_any n (by omega) _).mono ?_
  rintro e w' ⟨rfl, rfl⟩
  go_wp2
  have q := (Box.new w 27 #[.int .i64 n, .slice (some ⟨w.heap.size + 1, 0, none⟩) (nw n) (nw n)]).alloc (.cells (numsA (List.replicate (nw n) 0)) 63)
  have q2 := Box.new (w.alloc (.cells #[.int .i64 n, .slice (some ⟨w.heap.size + 1, 0, none⟩) (nw n) (nw n)] 27)) 63 (numsA (List.replicate (nw n) 0))
  simp only [World.size_alloc] at q2
  refine close_cell Tryd.results41 rfl rfl rfl q Tryd.underlying27 rfl (by kernel_rfl) ⟨w.heap.size + 1, by rw [List.length_replicate]; rfl, q2, by omega, ((Below.refl _ _).alloc (Nat.le_refl _) _).alloc (by simp) _⟩
def orBit (ws : List Nat) (p : Nat) : List Nat := ws.set (p / 64) (ws.getD (p / 64) 0 ||| 2 ^ (p % 64))
def ofBits (n : Nat) (ps : List Int) : List Nat := ps.foldl (fun ws p => orBit ws p.toNat) (List.replicate (nw n) 0)
def there (n : Int) (ps : List Int) : Bool := ps.all fun p => decide (0 ≤ p) && decide (p < n)
theorem orBit_length (ws : List Nat) (p : Nat) : (orBit ws p).length = ws.length := by simp [orBit]
theorem orBit_lt (ws : List Nat) (p : Nat) (h : ∀ j, ws.getD j 0 < 18446744073709551616) (j : Nat) : (orBit ws p).getD j 0 < 18446744073709551616 := by
  unfold orBit
  simp only [List.getD, List.getElem?_set]
  split
  · split
    · simp only [Option.getD_some]
      have := h (p / 64)
      exact Nat.or_lt_two_pow (n := 64) this (Nat.pow_lt_pow_right (by omega) (by omega))
    · simp
  · exact h j
theorem foldl_bits (ps : List Int) (ws : List Nat) (h : ∀ j, ws.getD j 0 < 18446744073709551616) : (ps.foldl (fun ws p => orBit ws p.toNat) ws).length = ws.length ∧ ∀ j, (ps.foldl (fun ws p => orBit ws p.toNat) ws).getD j 0 < 18446744073709551616 := by
  induction ps generalizing ws with
  | nil => exact ⟨rfl, h⟩
  | cons p ps ih =>
    have := ih (orBit ws p.toNat) (orBit_lt ws _ h)
    rw [orBit_length] at this
    exact this
theorem zeros_lt (n j : Nat) : (List.replicate n 0).getD j 0 < 18446744073709551616 := by
  simp [List.getD, List.getElem?_replicate]
  split <;> simp
theorem ofBits_len (n : Nat) (ps : List Int) : (ofBits n ps).length = nw n := by
  have := (foldl_bits ps (List.replicate (nw n) 0) (zeros_lt _)).1
  rw [List.length_replicate] at this
  exact this
theorem ofBits_lt (n : Nat) (ps : List Int) (j : Nat) : (ofBits n ps).getD j 0 < 18446744073709551616 := (foldl_bits ps _ (zeros_lt _)).2 j
theorem ofBits_snoc (n : Nat) (ps : List Int) (p : Int) : ofBits n (ps ++ [p]) = orBit (ofBits n ps) p.toNat := by simp [ofBits]
theorem take_one {α : Type} (l : List α) (k : Nat) (d : α) (h : k < l.length) : l.take (k + 1) = l.take k ++ [l.getD k d] := by
  rw [List.take_succ_eq_append_getElem h]; simp [List.getD, h]
set_option maxHeartbeats 400000 in
theorem of_no (n : Int) (A : Option Addr) (l c : Nat) (h : lmb n = false) (w : World) : Calls Tryd.prog 44 #[.int .i64 n, .slice A l c] w (RowOut 0 [] 2 w) := by
  have Q := Lib.hid (Box.new w 27 #[.int .i64 0, .slice none 0 0])
  go_enter Tryd.func44, Tryd.ntmps44
  go_wp2_with fail
  refine (new_no n h _).mono ?_
  rintro e x1 ⟨A1, l1, c1, rfl, hw, hb⟩
  have Q := Lib.hid (Q.out.keep hb)
  have HB := Lib.hid (chain ((Below.refl _ _).alloc (Nat.le_refl _) _) hb)
  have hz := Q.out.lt
  clear hb hw
  obtain ⟨r0, r1, r2, r3⟩ := Q.out.two
  go_wp2
  refine close_cell Tryd.results44 rfl rfl rfl (Q.out.put2.alloc _) Tryd.underlying27 rfl (by kernel_rfl) ⟨_, _, _, rfl, Words.nil _ _, ?_⟩
  exact (((HB.out.setCell (p := ⟨w.heap.size, 0, none⟩) (Nat.le_refl _) _).setCell (p := ⟨w.heap.size, 1, none⟩) (Nat.le_refl _) _)).alloc (by simp; omega) _
def ofN (n : Int) (ps : List Int) : Int := if lmb n && there n ps then n else 0
def ofW (n : Int) (ps : List Int) : List Nat := if lmb n && there n ps then ofBits n.toNat ps else []
def ofE (n : Int) (ps : List Int) : Int := if lmb n then if there n ps then 0 else 3 else 2
theorem or_val (x r : Nat) (hx : x < 18446744073709551616) (hr : r < 64) : bits BinOp.or IntKind.u64 (x : Int) (IntKind.u64.wrap (2 ^ r)) = ((x ||| 2 ^ r : Nat) : Int) := by
  have hp : 2 ^ r < 2 ^ 64 := Nat.pow_lt_pow_right (by omega) hr
  have e : (2 : Int) ^ r % 18446744073709551616 = ((2 ^ r : Nat) : Int) := by
    have : (2 : Int) ^ r = ((2 ^ r : Nat) : Int) := by simp
    rw [this]
    generalize 2 ^ r = p at *
    omega
  rw [IntKind.wrap_u64, e, u64_or_nat _ _ hx hp]
set_option maxHeartbeats 1000000 in
theorem of_yes (n : Nat) (A : Option Addr) (l c : Nat) (ps : List Int) (h : lmb n = true) (w : World) (hp : Ints w A l ps) (hl : l ≤ 9223372036854775807) : Calls Tryd.prog 44 #[.int .i64 n, .slice A l c] w (RowOut (ofN n ps) (ofW n ps) (ofE n ps) w) := by
  have Q := Lib.hid (Box.new w 27 #[.int .i64 0, .slice none 0 0])
  have HP := Lib.hid hp
  have HL := Lib.hid h
  have hn := (lmb_iff n).1 h
  have hnw : nw n ≤ 8 := by unfold nw; omega
  clear hp
  go_enter Tryd.func44, Tryd.ntmps44
  go_wp2_with fail
  refine (new_yes n h _).mono ?_
  clear h
  rintro e x1 ⟨g, rfl, hg, hgs, hb⟩
  have Q := Lib.hid (Q.out.keep hb)
  have HB := Lib.hid (chain ((Below.refl _ _).alloc (Nat.le_refl _) _) hb)
  have hz := Q.out.lt
  have hg1 := hg.lt
  have HG := Lib.hid hg
  rw [List.length_replicate]
  simp at hgs
  clear hb hg
  go_wp2
  have P0 := Lib.hid (Q.out.alloc (.cells #[.int .i64 n, .slice (some ⟨g, 0, none⟩) (nw n) (nw n)] 27))
  have P1 := Lib.hid (Box.new x1 27 #[.int .i64 n, .slice (some ⟨g, 0, none⟩) (nw n) (nw n)])
  have P2 := Lib.hid (HG.out.alloc (.cells #[.int .i64 n, .slice (some ⟨g, 0, none⟩) (nw n) (nw n)] 27))
  have P3 := Lib.hid (HB.out.alloc HB.out.size (.cells #[.int .i64 n, .slice (some ⟨g, 0, none⟩) (nw n) (nw n)] 27))
  clear Q HB HG
  go_loopw [21] (fun i wr => ∃ j : Nat, j ≤ l ∧ i = .int .i64 j ∧ there n (ps.take j) = true ∧ Box wr g 63 (numsA (ofBits n (ps.take j))) ∧ Box wr w.heap.size 27 #[.int .i64 0, .slice none 0 0] ∧ Box wr x1.heap.size 27 #[.int .i64 n, .slice (some ⟨g, 0, none⟩) (nw n) (nw n)] ∧ Below w.heap.size w wr)
    (fun i _ => l - (intOf i).toNat)
  case atStart => exact ⟨0, by omega, rfl, rfl, P2.out, P0.out, P1.out, P3.out⟩
  case round =>
    obtain ⟨j, hj, rfl, hth, B2, B0, B1, hbel⟩ := hrel
    have R0 := Lib.hid B0
    have R1 := Lib.hid B1
    have R2 := Lib.hid B2
    have HB := Lib.hid hbel
    have HT := Lib.hid hth
    clear B0 B1 B2 hbel hth P0 P1 P2 P3
    obtain ⟨a0, a1, f0, f1⟩ := R0.out.two
    obtain ⟨b0, b1, -, -⟩ := R1.out.two
    by_cases hlt : j < l
    · obtain ⟨q, o, rfl, lt1, hc1⟩ := HP.out.2.2 (by omega)
      have cu := (HB.out.cell (p := ⟨q, o + j, none⟩) lt1).trans (hc1 j hlt)
      obtain ⟨x, ex⟩ : ∃ x, x = ps.getD j 0 := ⟨_, rfl⟩
      rw [← ex] at cu
      have EX := Lib.hid ex
      clear ex hc1
      go_wp2_with fail
      refine (isPlace_any _ _ _ _ x _).mono ?_
      rintro e w2 ⟨rfl, hb⟩
      have S0 := Lib.hid (R0.out.keep hb)
      have S1 := Lib.hid (R1.out.keep hb)
      have S2 := Lib.hid (R2.out.keep hb)
      have HC := Lib.hid (chain HB.out hb)
      clear hb a0 a1 f0 f1 b0 b1 cu
      obtain ⟨a0, a1, f0, f1⟩ := S0.out.two
      obtain ⟨b0, b1, -, -⟩ := S1.out.two
      have htk : ps.take (j + 1) = ps.take j ++ [x] := by rw [EX.out]; exact take_one ps j 0 (by rw [HP.out.1]; exact hlt)
      have HTk := Lib.hid htk
      clear htk
      by_cases hx : 0 ≤ x ∧ x < n
      · obtain ⟨y, rfl⟩ := Int.eq_ofNat_of_zero_le hx.1
        have t0 : (decide (0 ≤ (y : Int)) && decide ((y : Int) < n)) = true := by simp; omega
        rw [t0]
        clear t0
        have hlen : (ofBits n (ps.take j)).length = nw n := ofBits_len n _
        have hy8 : y / 64 < nw n := by unfold nw; omega
        have hv := ofBits_lt n (ps.take j) (y / 64)
        have cg : w2.cell? ⟨g, y / 64, none⟩ = some (.int .u64 ((ofBits n (ps.take j)).getD (y / 64) 0 : Nat)) := by rw [S2.out.cell, numsA_get _ _ (by omega)]
        have fg := S2.out.free (y / 64)
        have P2 := Lib.hid ((S2.out.put (y / 64) (.int .u64 (((ofBits n (ps.take j)).getD (y / 64) 0 ||| 2 ^ (y % 64) : Nat) : Int))).drew)
        have HV := Lib.hid (or_val ((ofBits n (ps.take j)).getD (y / 64) 0) (y % 64) hv (by omega))
        have n1 : w.heap.size ≠ g := by omega
        have n2 : x1.heap.size ≠ g := by omega
        have P0 := Lib.hid ((S0.out.far (p := ⟨g, y / 64, none⟩) n1 (.int .u64 (((ofBits n (ps.take j)).getD (y / 64) 0 ||| 2 ^ (y % 64) : Nat) : Int))).drew)
        have P1 := Lib.hid ((S1.out.far (p := ⟨g, y / 64, none⟩) n2 (.int .u64 (((ofBits n (ps.take j)).getD (y / 64) 0 ||| 2 ^ (y % 64) : Nat) : Int))).drew)
        have P3 := Lib.hid ((HC.out.setCell (p := ⟨g, y / 64, none⟩) (by simp; omega) (.int .u64 (((ofBits n (ps.take j)).getD (y / 64) 0 ||| 2 ^ (y % 64) : Nat) : Int))).drew)
        have H4 : Hid (there n (ps.take (j + 1)) = true) := by
          show there n (ps.take (j + 1)) = true
          rw [HTk.out]
          have := HT.out
          simp only [there, List.all_append, Bool.and_eq_true] at this ⊢
          exact ⟨this, by simp; omega⟩
        have H5 : Hid ((numsA (ofBits n (ps.take j))).setIfInBounds (y / 64) (.int .u64 (((ofBits n (ps.take j)).getD (y / 64) 0 ||| 2 ^ (y % 64) : Nat) : Int)) = numsA (ofBits n (ps.take (j + 1)))) := by
          show _ = _
          rw [numsA_set, HTk.out, ofBits_snoc]; rfl
        generalize (ofBits n (ps.take j)).getD (y / 64) 0 = v at *
        go_wp2
        have g1 : (y : Int).tdiv 64 = ((y / 64 : Nat) : Int) := by rw [Int.tdiv_eq_ediv_of_nonneg (by omega)]; omega
        have g2 : (y : Int).tmod 64 = ((y % 64 : Nat) : Int) := by rw [Int.tmod_eq_emod_of_nonneg (by omega)]; omega
        have g3 : IntKind.i64.wrap ((y / 64 : Nat) : Int) = ((y / 64 : Nat) : Int) := IntWalk.i64_in _ (by omega)
        have g4 : (0 : Int) ≤ ((y / 64 : Nat) : Int) := by omega
        have g5 : ((y / 64 : Nat) : Int) < (nw n : Int) := by omega
        go_region
        rw [HV.out]
        clear g1 g2 g3 g4 g5 a0 a1 f0 f1 b0 b1 cg fg
        generalize (w2.setCell ⟨g, y / 64, none⟩ (.int .u64 ((v ||| 2 ^ (y % 64) : Nat) : Int))).drew = wn at *
        go_wp2
        go_roundw
        case rel => exact ⟨j + 1, by omega, by go_num, H4.out, by have := P2.out; rw [H5.out] at this; exact this, P0.out, P1.out, P3.out⟩
        case measure => simp [intOf]; omega
      · have t0 : (decide (0 ≤ x) && decide (x < n)) = false := by simp; omega
        rw [t0]
        clear t0
        have H4 : Hid (there n ps = false) := by
          show there n ps = false
          rw [← List.take_append_drop (j + 1) ps, HTk.out]
          have : (decide (0 ≤ x) && decide (x < n)) = false := by simp; omega
          simp [there, List.all_append, this]
        go_wp2
        refine close_cell Tryd.results44 rfl rfl rfl S0.out.put2 Tryd.underlying27 rfl (by kernel_rfl) ?_
        unfold ofN ofW ofE
        rw [HL.out, H4.out]
        exact ⟨_, _, _, rfl, Words.nil _ _, (HC.out.setCell (p := ⟨w.heap.size, 0, none⟩) (Nat.le_refl _) _).setCell (p := ⟨w.heap.size, 1, none⟩) (Nat.le_refl _) _⟩
    · obtain rfl : j = l := by omega
      have H4 : Hid (ps.take j = ps) := by
        show ps.take j = ps
        exact List.take_of_length_le (by rw [HP.out.1]; omega)
      go_wp2
      refine close_cell Tryd.results44 rfl rfl rfl R0.out.put2 Tryd.underlying27 rfl (by kernel_rfl) ?_
      have h5 := HT.out
      have h6 := R2.out
      rw [H4.out] at h5 h6
      unfold ofN ofW ofE
      rw [HL.out, h5]
      have n1 : g ≠ w.heap.size := by omega
      have hw := ((h6.far (p := ⟨w.heap.size, 0, none⟩) n1 (.int .i64 n)).far (p := ⟨w.heap.size, 1, none⟩) n1 (.slice (some ⟨g, 0, none⟩) (nw n) (nw n))).words (ofBits_lt n ps)
      rw [ofBits_len] at hw
      exact ⟨_, _, _, rfl, hw, (HB.out.setCell (p := ⟨w.heap.size, 0, none⟩) (Nat.le_refl _) _).setCell (p := ⟨w.heap.size, 1, none⟩) (Nat.le_refl _) _⟩
theorem of_any (n : Int) (A : Option Addr) (l c : Nat) (ps : List Int) (w : World) (hp : Ints w A l ps) (hl : l ≤ 9223372036854775807) : Calls Tryd.prog 44 #[.int .i64 n, .slice A l c] w (RowOut (ofN n ps) (ofW n ps) (ofE n ps) w) := by
  cases h : lmb n with
  | false =>
    unfold ofN ofW ofE
    rw [h]
    exact of_no n A l c h w
  | true =>
    obtain ⟨m, rfl⟩ := Int.eq_ofNat_of_zero_le ((lmb_iff n).1 h).1
    exact of_yes m A l c ps h w hp hl
end
section
/- Contract of the statements' few: a row with at most ten words. -/
set_option linter.unusedVariables false
set_option linter.unusedSimpArgs false
open Go.RowKit
/-- What a call that answers a row leaves. -/
def OneRow (n : Int) (zs : List Nat) (w : World) (e : Ending) (w' : World) : Prop :=
  ∃ A l c, e = .returned (.agg #[.int .i64 n, .slice A l c]) ∧ Words w' A l zs ∧ Below w.heap.size w w'
/-- A slice value as Go has it: nil is empty, without capacity. -/
def SliceOk (A : Option Addr) (l c : Nat) : Prop := l ≤ c ∧ c ≤ maxLen ∧ (A = none → l = 0 ∧ c = 0)
end
section
/- Rows of words that are a call's own: bitrow.Of so. -/
set_option linter.unusedVariables false
set_option linter.unusedSimpArgs false
open Go.RowKit
/-- A row of words in a block of words. -/
def OwnW (w : World) (A : Option Addr) (l c : Nat) (zs : List Nat) : Prop := w.ownsRow 0 63 1 (.slice A l c) l (zs.map u64V)
section
variable {w w' : World} {A : Option Addr} {l c : Nat} {zs : List Nat}
theorem OwnW.words (h : OwnW w A l c zs) (hz : ∀ j, zs.getD j 0 < 18446744073709551616) : Words w A l zs := own_words h hz
theorem OwnW.below (h : OwnW w A l c zs) (hb : Below w.heap.size w w') : OwnW w' A l c zs := own_keep h hb
theorem OwnW.alloc (h : OwnW w A l c zs) (o : Obj) : OwnW (w.alloc o) A l c zs := World.ownsRow.alloc h o
theorem OwnW.drew (h : OwnW w A l c zs) : OwnW w.drew A l c zs := h
theorem OwnW.far (h : OwnW w A l c zs) {g : Nat} {t : TypeId} {cs : Array Value} (hb : Box w g t cs) (hne : 63 ≠ t) (i : Nat) (u : Value) : OwnW (w.setCell ⟨g, i, none⟩ u) A l c zs := own_far h hb hne i u
theorem OwnW.put2 (h : OwnW w A l c zs) {g : Nat} {a b : Value} (hb : Box w g 27 #[a, b]) (u v : Value) : OwnW ((w.setCell ⟨g, 0, none⟩ u).setCell ⟨g, 1, none⟩ v) A l c zs :=
  (h.far hb (by decide) 0 u).far (hb.put 0 u) (by decide) 1 v
theorem OwnW.grown {v : Value} {base e size n : Nat} {xs : List Value} (h : OwnW w A l c zs) (ho : w.ownsRow base e size v n xs) (hne : e ≠ 63) (hg : w.grownBy w' v.ownBlock) : OwnW w' A l c zs := by
  refine World.ownsRow.kept h hg ?_
  rcases h.2 with ⟨h0, _⟩ | ⟨g, cap, cur, h0, _, hh, _⟩
  · left; rw [h0]; rfl
  · right
    rw [h0]
    exact fun e => own_ne ho hh hne e.symm
theorem Box.ownW {g n : Nat} (h : Box w g 63 (numsA zs)) (hl : zs.length = n) (hm : n ≤ maxLen) : OwnW w (some ⟨g, 0, none⟩) n n zs := by
  refine ⟨by simp [hl], .inr ⟨g, n, numsA zs, rfl, Nat.zero_le _, h, Nat.le_refl _, hm, by simp [numsA, hl], ?_⟩⟩
  have e1 : (numsA zs).toList = zs.map u64V := rfl
  rw [e1, List.take_of_length_le (by simp [hl])]
end
/-- What Of hands back, where each place is there. -/
def OwnOut (n : Int) (zs : List Nat) (w : World) (e : Ending) (w' : World) : Prop :=
  ∃ A l c, e = .returned (.tuple #[.agg #[.int .i64 n, .slice A l c], .int .i64 0]) ∧ OwnW w' A l c zs ∧ Below w.heap.size w w'
/-- What a function of one row hands back. -/
def OneOwn (n : Int) (zs : List Nat) (w : World) (e : Ending) (w' : World) : Prop :=
  ∃ A l c, e = .returned (.agg #[.int .i64 n, .slice A l c]) ∧ OwnW w' A l c zs ∧ Below w.heap.size w w'
set_option maxHeartbeats 1000000 in
theorem of_own (n : Nat) (A : Option Addr) (l c : Nat) (ps : List Int) (h : lmb n = true) (w : World) (hp : Ints w A l ps) (hl : l ≤ 9223372036854775807) (hth0 : there n ps = true) : Calls Tryd.prog 44 #[.int .i64 n, .slice A l c] w (OwnOut n (ofBits n ps) w) := by
  have Q := Lib.hid (Box.new w 27 #[.int .i64 0, .slice none 0 0])
  have HP := Lib.hid hp
  have HTH := Lib.hid hth0
  clear hth0
  have hn := (lmb_iff n).1 h
  have hnw : nw n ≤ 8 := by unfold nw; omega
  clear hp
  go_enter Tryd.func44, Tryd.ntmps44
  go_wp2_with fail
  refine (new_yes n h _).mono ?_
  clear h
  rintro e x1 ⟨g, rfl, hg, hgs, hb⟩
  have Q := Lib.hid (Q.out.keep hb)
  have HB := Lib.hid (chain ((Below.refl _ _).alloc (Nat.le_refl _) _) hb)
  have hz := Q.out.lt
  have hg1 := hg.lt
  have HG := Lib.hid hg
  rw [List.length_replicate]
  simp at hgs
  clear hb hg
  go_wp2
  have P0 := Lib.hid (Q.out.alloc (.cells #[.int .i64 n, .slice (some ⟨g, 0, none⟩) (nw n) (nw n)] 27))
  have P1 := Lib.hid (Box.new x1 27 #[.int .i64 n, .slice (some ⟨g, 0, none⟩) (nw n) (nw n)])
  have P2 := Lib.hid (HG.out.alloc (.cells #[.int .i64 n, .slice (some ⟨g, 0, none⟩) (nw n) (nw n)] 27))
  have P3 := Lib.hid (HB.out.alloc HB.out.size (.cells #[.int .i64 n, .slice (some ⟨g, 0, none⟩) (nw n) (nw n)] 27))
  clear Q HB HG
  go_loopw [21] (fun i wr => ∃ j : Nat, j ≤ l ∧ i = .int .i64 j ∧ there n (ps.take j) = true ∧ Box wr g 63 (numsA (ofBits n (ps.take j))) ∧ Box wr w.heap.size 27 #[.int .i64 0, .slice none 0 0] ∧ Box wr x1.heap.size 27 #[.int .i64 n, .slice (some ⟨g, 0, none⟩) (nw n) (nw n)] ∧ Below w.heap.size w wr)
    (fun i _ => l - (intOf i).toNat)
  case atStart => exact ⟨0, by omega, rfl, rfl, P2.out, P0.out, P1.out, P3.out⟩
  case round =>
    obtain ⟨j, hj, rfl, hth, B2, B0, B1, hbel⟩ := hrel
    have R0 := Lib.hid B0
    have R1 := Lib.hid B1
    have R2 := Lib.hid B2
    have HB := Lib.hid hbel
    have HT := Lib.hid hth
    clear B0 B1 B2 hbel hth P0 P1 P2 P3
    obtain ⟨a0, a1, f0, f1⟩ := R0.out.two
    obtain ⟨b0, b1, -, -⟩ := R1.out.two
    by_cases hlt : j < l
    · obtain ⟨q, o, rfl, lt1, hc1⟩ := HP.out.2.2 (by omega)
      have cu := (HB.out.cell (p := ⟨q, o + j, none⟩) lt1).trans (hc1 j hlt)
      obtain ⟨x, ex⟩ : ∃ x, x = ps.getD j 0 := ⟨_, rfl⟩
      rw [← ex] at cu
      have EX := Lib.hid ex
      clear ex hc1
      go_wp2_with fail
      refine (isPlace_any _ _ _ _ x _).mono ?_
      rintro e w2 ⟨rfl, hb⟩
      have S0 := Lib.hid (R0.out.keep hb)
      have S1 := Lib.hid (R1.out.keep hb)
      have S2 := Lib.hid (R2.out.keep hb)
      have HC := Lib.hid (chain HB.out hb)
      clear hb a0 a1 f0 f1 b0 b1 cu
      obtain ⟨a0, a1, f0, f1⟩ := S0.out.two
      obtain ⟨b0, b1, -, -⟩ := S1.out.two
      have htk : ps.take (j + 1) = ps.take j ++ [x] := by rw [EX.out]; exact take_one ps j 0 (by rw [HP.out.1]; exact hlt)
      have HTk := Lib.hid htk
      clear htk
      by_cases hx : 0 ≤ x ∧ x < n
      · obtain ⟨y, rfl⟩ := Int.eq_ofNat_of_zero_le hx.1
        have t0 : (decide (0 ≤ (y : Int)) && decide ((y : Int) < n)) = true := by simp; omega
        rw [t0]
        clear t0
        have hlen : (ofBits n (ps.take j)).length = nw n := ofBits_len n _
        have hy8 : y / 64 < nw n := by unfold nw; omega
        have hv := ofBits_lt n (ps.take j) (y / 64)
        have cg : w2.cell? ⟨g, y / 64, none⟩ = some (.int .u64 ((ofBits n (ps.take j)).getD (y / 64) 0 : Nat)) := by rw [S2.out.cell, numsA_get _ _ (by omega)]
        have fg := S2.out.free (y / 64)
        have P2 := Lib.hid ((S2.out.put (y / 64) (.int .u64 (((ofBits n (ps.take j)).getD (y / 64) 0 ||| 2 ^ (y % 64) : Nat) : Int))).drew)
        have HV := Lib.hid (or_val ((ofBits n (ps.take j)).getD (y / 64) 0) (y % 64) hv (by omega))
        have n1 : w.heap.size ≠ g := by omega
        have n2 : x1.heap.size ≠ g := by omega
        have P0 := Lib.hid ((S0.out.far (p := ⟨g, y / 64, none⟩) n1 (.int .u64 (((ofBits n (ps.take j)).getD (y / 64) 0 ||| 2 ^ (y % 64) : Nat) : Int))).drew)
        have P1 := Lib.hid ((S1.out.far (p := ⟨g, y / 64, none⟩) n2 (.int .u64 (((ofBits n (ps.take j)).getD (y / 64) 0 ||| 2 ^ (y % 64) : Nat) : Int))).drew)
        have P3 := Lib.hid ((HC.out.setCell (p := ⟨g, y / 64, none⟩) (by simp; omega) (.int .u64 (((ofBits n (ps.take j)).getD (y / 64) 0 ||| 2 ^ (y % 64) : Nat) : Int))).drew)
        have H4 : Hid (there n (ps.take (j + 1)) = true) := by
          show there n (ps.take (j + 1)) = true
          rw [HTk.out]
          have := HT.out
          simp only [there, List.all_append, Bool.and_eq_true] at this ⊢
          exact ⟨this, by simp; omega⟩
        have H5 : Hid ((numsA (ofBits n (ps.take j))).setIfInBounds (y / 64) (.int .u64 (((ofBits n (ps.take j)).getD (y / 64) 0 ||| 2 ^ (y % 64) : Nat) : Int)) = numsA (ofBits n (ps.take (j + 1)))) := by
          show _ = _
          rw [numsA_set, HTk.out, ofBits_snoc]; rfl
        generalize (ofBits n (ps.take j)).getD (y / 64) 0 = v at *
        go_wp2
        have g1 : (y : Int).tdiv 64 = ((y / 64 : Nat) : Int) := by rw [Int.tdiv_eq_ediv_of_nonneg (by omega)]; omega
        have g2 : (y : Int).tmod 64 = ((y % 64 : Nat) : Int) := by rw [Int.tmod_eq_emod_of_nonneg (by omega)]; omega
        have g3 : IntKind.i64.wrap ((y / 64 : Nat) : Int) = ((y / 64 : Nat) : Int) := IntWalk.i64_in _ (by omega)
        have g4 : (0 : Int) ≤ ((y / 64 : Nat) : Int) := by omega
        have g5 : ((y / 64 : Nat) : Int) < (nw n : Int) := by omega
        go_region
        rw [HV.out]
        clear g1 g2 g3 g4 g5 a0 a1 f0 f1 b0 b1 cg fg
        generalize (w2.setCell ⟨g, y / 64, none⟩ (.int .u64 ((v ||| 2 ^ (y % 64) : Nat) : Int))).drew = wn at *
        go_wp2
        go_roundw
        case rel => exact ⟨j + 1, by omega, by go_num, H4.out, by have := P2.out; rw [H5.out] at this; exact this, P0.out, P1.out, P3.out⟩
        case measure => simp [intOf]; omega
      · have t0 : (decide (0 ≤ x) && decide (x < n)) = false := by simp; omega
        rw [t0]
        clear t0
        have H4 : Hid (there n ps = false) := by
          show there n ps = false
          rw [← List.take_append_drop (j + 1) ps, HTk.out]
          have : (decide (0 ≤ x) && decide (x < n)) = false := by simp; omega
          simp [there, List.all_append, this]
        exact absurd HTH.out (by rw [H4.out]; decide)
    · obtain rfl : j = l := by omega
      have H4 : Hid (ps.take j = ps) := by
        show ps.take j = ps
        exact List.take_of_length_le (by rw [HP.out.1]; omega)
      go_wp2
      refine close_cell Tryd.results44 rfl rfl rfl R0.out.put2 Tryd.underlying27 rfl (by kernel_rfl) ?_
      have h6 := R2.out
      rw [H4.out] at h6
      have n1 : g ≠ w.heap.size := by omega
      have hw := (h6.far (p := ⟨w.heap.size, 0, none⟩) n1 (.int .i64 n)).far (p := ⟨w.heap.size, 1, none⟩) n1 (.slice (some ⟨g, 0, none⟩) (nw n) (nw n))
      exact ⟨_, _, _, rfl, hw.ownW (ofBits_len n ps) (by unfold maxLen; omega), (HB.out.setCell (p := ⟨w.heap.size, 0, none⟩) (Nat.le_refl _) _).setCell (p := ⟨w.heap.size, 1, none⟩) (Nat.le_refl _) _⟩
end
section
/- Contracts of bitrow.And's join, and of bitrow.Xor and And. -/
set_option linter.unusedVariables false
set_option linter.unusedSimpArgs false
open Go.RowKit
theorem part_lt_and (us vs : List Nat) (j i : Nat) (hu : ∀ j, us.getD j 0 < 18446744073709551616) (hv : ∀ j, vs.getD j 0 < 18446744073709551616) : (part (· &&& ·) us vs j).getD i 0 < 18446744073709551616 := by
  unfold part
  simp only [List.getD, List.getElem?_append]
  split
  · rw [List.getElem?_take]
    split
    · rw [List.getElem?_zipWith]
      have h1 := hu i
      have h2 := hv i
      simp only [List.getD] at h1 h2
      cases e1 : us[i]? <;> cases e2 : vs[i]? <;> simp [e1, e2] at h1 h2 ⊢
      exact Nat.and_lt_two_pow (n := 64) _ h2
    · simp
  · rw [List.getElem?_replicate]
    split <;> simp
def joinN (n : Int) (us : List Nat) (m : Int) (vs : List Nat) : Int := if rightB n us && rightB m vs && n == m then n else 0
def joinW (g : Nat → Nat → Nat) (n : Int) (us : List Nat) (m : Int) (vs : List Nat) : List Nat := if rightB n us && rightB m vs && n == m then List.zipWith g us vs else []
def joinE (n : Int) (us : List Nat) (m : Int) (vs : List Nat) : Int := if rightB n us && rightB m vs then if n == m then 0 else 2 else 1
theorem joined_x (n m : Int) (A B : Option Addr) (l c k d : Nat) (us vs : List Nat) (w : World) (hu : Words w A l us) (hv : Words w B k vs) :
    Calls Tryd.prog 47 #[.agg #[.int .i64 n, .slice A l c], .agg #[.int .i64 m, .slice B k d], .func (.func 48) #[] #[]] w (RowOut (joinN n us m vs) (joinW (· ^^^ ·) n us m vs) (joinE n us m vs) w) := by
  unfold joinN joinW joinE
  cases h1 : rightB n us with
  | false => exact joined_arg _ n m A B l c k d us vs w hu hv (.inl h1)
  | true =>
    cases h2 : rightB m vs with
    | false => exact joined_arg _ n m A B l c k d us vs w hu hv (.inr h2)
    | true =>
      by_cases h : n = m
      · subst h
        have : (n == n) = true := by simp
        rw [this]
        exact joined_xor n A B l c k d us vs w hu hv h1 h2
      · have : (n == m) = false := by simpa using h
        rw [this]
        exact joined_size _ n m A B l c k d us vs w hu hv h1 h2 h
set_option maxHeartbeats 400000 in
theorem xor_any (n m : Int) (A B : Option Addr) (l c k d : Nat) (us vs : List Nat) (w : World) (hu : Words w A l us) (hv : Words w B k vs) :
    Calls Tryd.prog 31 #[.agg #[.int .i64 n, .slice A l c], .agg #[.int .i64 m, .slice B k d]] w (RowOut (joinN n us m vs) (joinW (· ^^^ ·) n us m vs) (joinE n us m vs) w) := by
  have q2 := Box.new ((w.alloc (.cells #[.int .i64 n, .slice A l c] 27)).alloc (.cells #[.int .i64 m, .slice B k d] 27)) 27 #[.int .i64 0, .slice none 0 0]
  have hW : Below w.heap.size w (((w.alloc (.cells #[.int .i64 n, .slice A l c] 27)).alloc (.cells #[.int .i64 m, .slice B k d] 27)).alloc (.cells #[.int .i64 0, .slice none 0 0] 27)) := (((Below.refl _ _).alloc (Nat.le_refl _) _).alloc (by simp) _).alloc (by simp; omega) _
  simp only [World.size_alloc] at q2
  have Q2 := Lib.hid q2
  have HW := Lib.hid hW
  have HU := Lib.hid (hu.below hW)
  have HV := Lib.hid (hv.below hW)
  clear q2 hW hu hv
  go_enter Tryd.func31, Tryd.ntmps31
  go_wp2_with fail
  refine (joined_x n m A B l c k d us vs _ HU.out HV.out).mono ?_
  rintro e x1 ⟨A1, l1, c1, rfl, hw, hb⟩
  have P2 := Lib.hid (Q2.out.keep hb)
  have HB := Lib.hid (chain HW.out hb)
  have HWo := Lib.hid hw
  clear hb hw
  obtain ⟨r0, r1, r2, r3⟩ := P2.out.two
  go_wp2
  refine close_cell Tryd.results31 rfl rfl rfl P2.out.put2 Tryd.underlying27 rfl (by kernel_rfl) ⟨_, _, _, rfl, ?_, ?_⟩
  · exact HWo.out.put2 P2.out _ _
  · exact (HB.out.setCell (p := ⟨w.heap.size + 1 + 1, 0, none⟩) (by simp; omega) _).setCell (p := ⟨w.heap.size + 1 + 1, 1, none⟩) (by simp; omega) _
end
section
/- Rows of one size that may be: what Xor and And of them are; the plain laws of both. -/
set_option linter.unusedVariables false
set_option linter.unusedSimpArgs false
open Go.RowKit
theorem right_len_eq {n : Int} {us : List Nat} (h : rightB n us = true) : us.length = nw n.toNat := by
  simp only [rightB, Bool.and_eq_true, beq_iff_eq] at h
  exact h.1.2
theorem right_lmb {n : Int} {us : List Nat} (h : rightB n us = true) : lmb n = true := by
  simp only [rightB, Bool.and_eq_true] at h
  exact h.1.1
theorem zip_last (g : Nat → Nat → Nat) (us vs : List Nat) (i : Nat) (hu : i < us.length) (hv : i < vs.length) : (List.zipWith g us vs).getD i 0 = g (us.getD i 0) (vs.getD i 0) := by
  simp [List.getD, List.getElem?_zipWith, hu, hv]
theorem right_zip (g : Nat → Nat → Nat) (hg : ∀ x y k, x / 2 ^ k = 0 → y / 2 ^ k = 0 → g x y / 2 ^ k = 0) {n : Int} {us vs : List Nat} (h1 : rightB n us = true) (h2 : rightB n vs = true) : rightB n (List.zipWith g us vs) = true := by
  have l1 := right_len_eq h1
  have l2 := right_len_eq h2
  have hl : (List.zipWith g us vs).length = us.length := by simp; omega
  simp only [rightB, Bool.and_eq_true, Bool.or_eq_true, beq_iff_eq] at h1 h2 ⊢
  refine ⟨⟨h1.1.1, by rw [hl]; exact h1.1.2⟩, ?_⟩
  rcases h1.2 with h | h
  · exact .inl h
  · rcases h2.2 with h' | h'
    · exact .inl h'
    · by_cases h0 : us.length = 0
      · left
        rw [l1] at h0
        unfold nw at h0
        omega
      · right
        rw [hl, zip_last g us vs _ (by omega) (by omega)]
        exact hg _ _ _ h (by rw [l2, ← l1] at h'; exact h')
theorem xor_div (x y k : Nat) (h : x / 2 ^ k = 0) (h' : y / 2 ^ k = 0) : (x ^^^ y) / 2 ^ k = 0 := by
  have p : 0 < 2 ^ k := Nat.two_pow_pos k
  rw [Nat.div_eq_zero_iff] at h h' ⊢
  right
  exact Nat.xor_lt_two_pow (by omega) (by omega)
theorem and_div (x y k : Nat) (h : x / 2 ^ k = 0) (_ : y / 2 ^ k = 0) : (x &&& y) / 2 ^ k = 0 := by
  have p : 0 < 2 ^ k := Nat.two_pow_pos k
  rw [Nat.div_eq_zero_iff] at h ⊢
  right
  have := Nat.and_le_left (n := x) (m := y)
  omega
def xorL (us vs : List Nat) : List Nat := List.zipWith (· ^^^ ·) us vs
def andL (us vs : List Nat) : List Nat := List.zipWith (· &&& ·) us vs
theorem right_xor {n : Int} {us vs : List Nat} (h1 : rightB n us = true) (h2 : rightB n vs = true) : rightB n (xorL us vs) = true := right_zip _ xor_div h1 h2
theorem right_and {n : Int} {us vs : List Nat} (h1 : rightB n us = true) (h2 : rightB n vs = true) : rightB n (andL us vs) = true := right_zip _ and_div h1 h2
theorem xor_ok (n : Int) (A B : Option Addr) (l c k d : Nat) (us vs : List Nat) (w : World) (hu : Words w A l us) (hv : Words w B k vs) (h1 : rightB n us = true) (h2 : rightB n vs = true) :
    Calls Tryd.prog 31 #[.agg #[.int .i64 n, .slice A l c], .agg #[.int .i64 n, .slice B k d]] w (RowOut n (xorL us vs) 0 w) := by
  have h := xor_any n n A B l c k d us vs w hu hv
  unfold joinN joinW joinE at h
  rw [h1, h2] at h
  simpa [xorL] using h
theorem joinE_ok {n m : Int} {us vs : List Nat} (h : joinE n us m vs = 0) : rightB n us = true ∧ rightB m vs = true ∧ n = m := by
  unfold joinE at h
  split at h
  · rename_i h1
    rw [Bool.and_eq_true] at h1
    split at h
    · rename_i h2
      exact ⟨h1.1, h1.2, by simpa using h2⟩
    · omega
  · omega
theorem joinE_no {n m : Int} {us vs : List Nat} (g : Nat → Nat → Nat) (h : joinE n us m vs ≠ 0) : joinN n us m vs = 0 ∧ joinW g n us m vs = [] := by
  unfold joinE at h
  unfold joinN joinW
  by_cases h1 : (rightB n us && rightB m vs) = true
  · rw [if_pos h1] at h
    by_cases h2 : (n == m) = true
    · rw [if_pos h2] at h; omega
    · rw [if_neg (by simp [h2]), if_neg (by simp [h2])]; exact ⟨rfl, rfl⟩
  · rw [if_neg (by simp [h1]), if_neg (by simp [h1])]; exact ⟨rfl, rfl⟩
theorem xorL_comm (us vs : List Nat) : xorL us vs = xorL vs us := by
  unfold xorL
  rw [List.zipWith_comm]
  congr 1
  funext x y
  exact Nat.xor_comm _ _
theorem andL_comm (us vs : List Nat) : andL us vs = andL vs us := by
  unfold andL
  rw [List.zipWith_comm]
  congr 1
  funext x y
  exact Nat.and_comm _ _
theorem xorL_assoc (us vs zs : List Nat) : xorL (xorL us vs) zs = xorL us (xorL vs zs) := by
  induction us generalizing vs zs with
  | nil => simp [xorL]
  | cons x us ih =>
    cases vs with
    | nil => simp [xorL]
    | cons y vs =>
      cases zs with
      | nil => simp [xorL]
      | cons z zs =>
        have := ih vs zs
        simp only [xorL, List.zipWith_cons_cons] at this ⊢
        rw [this, Nat.xor_assoc]
theorem andL_xor (us vs zs : List Nat) : andL us (xorL vs zs) = xorL (andL us vs) (andL us zs) := by
  induction us generalizing vs zs with
  | nil => simp [xorL, andL]
  | cons x us ih =>
    cases vs with
    | nil => simp [xorL, andL]
    | cons y vs =>
      cases zs with
      | nil => simp [xorL, andL]
      | cons z zs =>
        have := ih vs zs
        simp only [xorL, andL, List.zipWith_cons_cons] at this ⊢
        rw [this, Nat.and_xor_distrib_left]
end
end Go.Proofs.YtdfmogcgangdnaaDoor
