/- The contract of crc.More: the sum by half bytes is the one bit by bit. -/
import Derived.Test.YthihcdocfcfnkaaCrc
namespace Go.Proofs.Ythihcdocfcfnkaa
open Go.RowKit
theorem take_snoc (s : ByteArray) (k : Nat) (h : k < s.size) : s.data.toList.take (k + 1) = s.data.toList.take k ++ [s[k]] := by
  rw [List.take_succ_eq_append_getElem (by simpa using h)]; rfl
theorem lsl (X : Nat) (b : UInt8) (h : X < 4294967296) : ∃ Y : Nat, bits BinOp.xor IntKind.u32 (X : Int) ((b.toNat : Int) % 4294967296) = (Y : Int) ∧ Y < 4294967296 ∧ Hid (Y = X ^^^ b.toNat) := by
  have hb := b.toNat_lt
  refine ⟨X ^^^ b.toNat, ?_, Crc.byte_lt X b h, rfl⟩
  have e : (b.toNat : Int) % 4294967296 = (b.toNat : Int) := by omega
  rw [e, u32_xor_nat _ _ h (by omega)]
theorem nib (Y : Nat) (h : Y < 4294967296) : ∃ I : Nat, bits BinOp.and IntKind.u32 (Y : Int) 15 = (I : Int) ∧ I < 16 ∧ Hid (I = Y % 16) := by
  refine ⟨Y % 16, ?_, by omega, rfl⟩
  have := u32_and_nat Y 15 h (by omega)
  rw [nat_mask4] at this
  exact this
theorem stp (Y I H : Nat) (h : Y < 4294967296) (hI : Hid (I = Y % 16)) (hH : H = Crc.hsN 4 I) : ∃ Z : Nat, bits BinOp.xor IntKind.u32 ((Y : Int) / 16) (H : Int) = (Z : Int) ∧ Z < 4294967296 ∧ Hid (Z = Crc.hsN 4 Y) := by
  refine ⟨Crc.hsN 4 Y, ?_, Crc.hsN_lt _ _ h, rfl⟩
  have hI' : I = Y % 16 := hI
  have e : (Y : Int) / 16 = ((Y / 16 : Nat) : Int) := by omega
  have hl := Crc.hsN_lt 4 I (by omega)
  rw [e, u32_xor_nat _ _ (by omega) (by omega), Crc.hsN4 Y, hH, hI']
theorem not_u32 (c : Int) (h0 : 0 ≤ c) (h1 : c < 4294967296) : bits BinOp.xor IntKind.u32 IntKind.u32.max c = ((4294967295 - c.toNat : Nat) : Int) := by
  have hm : IntKind.u32.max = ((4294967295 : Nat) : Int) := by decide
  obtain ⟨n, rfl⟩ := Int.eq_ofNat_of_zero_le h0
  rw [hm, u32_xor_nat _ _ (by omega) (by omega)]
  have := Nat.xor_comm 4294967295 n
  have h2 : n ^^^ 4294967295 = 4294967295 - n := by
    apply Nat.eq_of_testBit_eq
    intro i
    have e : 4294967295 - n = 2 ^ 32 - (n + 1) := by omega
    have e2 : (4294967295 : Nat) = 2 ^ 32 - 1 := by omega
    rw [e, Nat.testBit_two_pow_sub_succ (by omega), e2, Nat.testBit_xor, Nat.testBit_two_pow_sub_one]
    by_cases hi : i < 32
    · simp [hi]
    · have : n.testBit i = false := Nat.testBit_lt_two_pow (Nat.lt_of_lt_of_le (show n < 2 ^ 32 by omega) (Nat.pow_le_pow_right (by omega) (by omega)))
      simp [hi, this]
  rw [this, h2]
  simp
set_option maxHeartbeats 400000 in
theorem more_any (c : Int) (h0 : 0 ≤ c) (h1 : c < 4294967296) (s : ByteArray) (hs : s.size ≤ maxLen) (w : World) :
    Calls Try.prog 14 #[.int .u32 c, .string s] w fun e w' => e = .returned (.int .u32 (Crc.more c.toNat s.data.toList : Nat)) ∧ Below w.heap.size w w' := by
  unfold maxLen at hs
  go_enter Try.func14, Try.ntmps14
  go_wp2_with fail
  refine (half_any _).mono ?_
  rintro e w1 ⟨rfl, hb⟩
  go_wp2_with (refine wpList_store_row rfl 49 _ _ rfl w1.heap.size (tabAt 16) rfl rfl 49 _ (heap_alloc_new _ _) (by rw [tabAt_size]; kernel_rfl) (by rw [tabAt_size]; rfl) (tabAt_one _) ?_)
  have hB := below_setRow ((Below.refl w1.heap.size w1).alloc (Nat.le_refl _) (.cells (tabAt 0) 49)) (Nat.le_refl _) (tabAt 16)
  have hR := setRow_heap (w1.alloc (.cells (tabAt 0) 49)) _ _ (tabAt 16) _ _ (heap_alloc_new w1 (.cells (tabAt 0) 49))
  generalize hW : (w1.alloc (.cells (tabAt 0) 49)).setRow w1.heap.size (tabAt 16) = W at *
  change (w1.alloc (.cells _ 49)).setRow w1.heap.size (tabAt 16) = W at hW
  have hcell : ∀ i, i < 16 → W.cell? ⟨w1.heap.size, i, none⟩ = some (.int .u32 (Crc.hsN 4 i : Nat)) := fun i hi => by
    rw [cell_of_row W _ i _ _ _ hR, tabAt_full i hi]
  have HB := Lib.hid (hb.trans (hB.mono hb.size))
  clear hB hR hb
  erw [hW]
  have HW := Lib.hid hW
  clear hW
  have HC := Lib.hid hcell
  clear hcell
  go_loop [13, 6] (fun i x => ∃ k : Nat, k ≤ s.size ∧ i = .int .i64 k ∧ x = .int .u32 (Crc.fold (s.data.toList.take k) (4294967295 - c.toNat) : Nat)) (fun i _ => s.size - (intOf i).toNat)
  case atStart => exact ⟨0, by omega, rfl, by rw [not_u32 c h0 h1]; rfl⟩
  case round =>
    obtain ⟨k, hk, rfl, rfl⟩ := hrel
    by_cases hlt : k < s.size
    · have hX := Crc.fold_lt (s.data.toList.take k) (4294967295 - c.toNat) (by omega)
      generalize eX : Crc.fold (s.data.toList.take k) (4294967295 - c.toNat) = X at *
      have HX := Lib.hid eX
      clear eX
      obtain ⟨Y, e1, hY, HY⟩ := lsl X s[k] hX
      obtain ⟨I, e2, hI, HI⟩ := nib Y hY
      have c1 := HC.out I hI
      obtain ⟨H, eH⟩ : ∃ H, H = Crc.hsN 4 I := ⟨_, rfl⟩
      rw [← eH] at c1
      obtain ⟨Z, e3, hZ, HZ⟩ := stp Y I H hY HI eH
      obtain ⟨J, e4, hJ, HJ⟩ := nib Z hZ
      have c2 := HC.out J hJ
      obtain ⟨H2, eH2⟩ : ∃ H, H = Crc.hsN 4 J := ⟨_, rfl⟩
      rw [← eH2] at c2
      obtain ⟨V, e5, hV, HV⟩ := stp Z J H2 hZ HJ eH2
      clear eH eH2
      go_wp2
      go_round
      case rel =>
        refine ⟨k + 1, by omega, by go_num, ?_⟩
        rw [take_snoc s k hlt, Crc.fold_snoc, HX.out, Crc.hsN8, ← HY.out, ← HZ.out, ← HV.out]
      case measure => simp [intOf]; omega
    · obtain rfl : k = s.size := by omega
      have hX := Crc.fold_lt (s.data.toList.take s.size) (4294967295 - c.toNat) (by omega)
      have hF : bits BinOp.xor IntKind.u32 IntKind.u32.max (Crc.fold (s.data.toList.take s.size) (4294967295 - c.toNat) : Nat) = (Crc.more c.toNat s.data.toList : Nat) := by
        have e : s.data.toList.take s.size = s.data.toList := List.take_of_length_le (by simp)
        rw [e] at hX ⊢
        have := not_u32 (Crc.fold s.data.toList (4294967295 - c.toNat) : Nat) (by omega) (by omega)
        rw [this]; simp [Crc.more]
      have HF := Lib.hid hF
      clear hF
      generalize Crc.fold (s.data.toList.take s.size) (4294967295 - c.toNat) = X at *
      go_wp2
      go_ret
      exact ⟨by rw [HF.out]; rfl, HB.out⟩
end Go.Proofs.Ythihcdocfcfnkaa
