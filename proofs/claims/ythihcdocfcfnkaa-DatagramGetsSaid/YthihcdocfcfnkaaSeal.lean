/- Contracts: crc.bytesOf, crc.Seal, the reference's More and Seal. -/
import Derived.Test.YthihcdocfcfnkaaSum
import Derived.Laws.IdiomStrings
namespace Go.Proofs.Ythihcdocfcfnkaa
open Go.RowKit
def tail4 (c : Nat) : List UInt8 := [UInt8.ofNat (c % 256), UInt8.ofNat (c / 256 % 256), UInt8.ofNat (c / 65536 % 256), UInt8.ofNat (c / 16777216 % 256)]
theorem four (P : Program) (w : World) (src dst e : TypeId) (c : Int) (h0 : 0 ≤ c) (h1 : c < 4294967296) (hs : P.underlying src = some (.slice e)) (he : P.underlying e = some (.int .u8)) (hd : P.underlying dst = some .string)
    (a b d f : Int) (ea : a = c % 256) (eb : b = c / 256 % 256) (ed : d = c / 65536 % 256) (ef : f = c / 16777216) :
    Sem.run P (convert src dst (Value.slice (some { block := w.heap.size, off := 0 }) 4 4)) (w.alloc (Obj.cells #[Value.int IntKind.u8 a, Value.int IntKind.u8 b, Value.int IntKind.u8 d, Value.int IntKind.u8 f] e)) =
      .ok (.string ⟨(tail4 c.toNat).toArray⟩) (w.alloc (Obj.cells #[Value.int IntKind.u8 a, Value.int IntKind.u8 b, Value.int IntKind.u8 d, Value.int IntKind.u8 f] e)) := by
  obtain ⟨n, rfl⟩ := Int.eq_ofNat_of_zero_le h0
  subst ea eb ed ef
  refine run_convert_bytes_back (l := tail4 n) _ src dst e _ 4 hs he hd ?_
  intro j hj
  have hj4 : j < 4 := hj
  have hadd : Addr.add { block := w.heap.size, off := 0 } j = ⟨w.heap.size, j, none⟩ := by
    by_cases h : j = 0 <;> simp [Addr.add, h]
  rw [hadd, cell_of_row _ _ j _ _ _ (heap_alloc_new w _)]
  match j, hj4 with
  | 0, _ => simp [tail4]
  | 1, _ => simp [tail4]
  | 2, _ => simp [tail4]
  | 3, _ => simp [tail4]; omega
set_option maxHeartbeats 400000 in
theorem bytesOf_any (c : Int) (h0 : 0 ≤ c) (h1 : c < 4294967296) (w : World) :
    Calls Try.prog 27 #[.int .u32 c] w fun e w' => e = .returned (.string ⟨(tail4 c.toNat).toArray⟩) ∧ Below w.heap.size w w' := by
  have hf := four Try.prog w 32 9 5 c h0 h1 Try.underlying32 Try.underlying5 Try.underlying9 _ _ _ _ rfl rfl rfl rfl
  go_enter Try.func27, Try.ntmps27
  go_wp2
  go_ret
  exact ⟨rfl, (Below.refl _ _).alloc (Nat.le_refl _) _⟩
set_option maxHeartbeats 400000 in
theorem refMore_any (c : Int) (h0 : 0 ≤ c) (h1 : c < 4294967296) (s : ByteArray) (hs : s.size ≤ maxLen) (w : World) :
    Calls Try.prog 13 #[.int .u32 c, .string s] w fun e w' => e = .returned (.int .u32 (Crc.more c.toNat s.data.toList : Nat)) ∧ w = w' := by
  unfold maxLen at hs
  go_enter Try.func13, Try.ntmps13
  go_wp2_with fail
  go_loop [6, 5] (fun i x => ∃ k : Nat, k ≤ s.size ∧ i = .int .i64 k ∧ x = .int .u32 (Crc.fold (s.data.toList.take k) (4294967295 - c.toNat) : Nat)) (fun i _ => s.size - (intOf i).toNat)
  case atStart => exact ⟨0, by omega, rfl, congrArg (Value.int .u32) (by simp only [List.take_zero, Crc.fold]; omega)⟩
  case round =>
    obtain ⟨k, hk, rfl, rfl⟩ := hrel
    by_cases hlt : k < s.size
    · have hX := Crc.fold_lt (s.data.toList.take k) (4294967295 - c.toNat) (by omega)
      generalize eX : Crc.fold (s.data.toList.take k) (4294967295 - c.toNat) = X at *
      have HX := Lib.hid eX
      clear eX
      obtain ⟨Y, e1, hY, HY⟩ := lsl X s[k] hX
      go_wp2
      clear e1
      go_loop [7, 5] (fun j x => ∃ m : Nat, m ≤ 8 ∧ j = .int .i64 m ∧ x = .int .u32 (Crc.hsN m Y : Nat)) (fun j _ => 8 - (intOf j).toNat)
      case atStart => exact ⟨0, by omega, rfl, rfl⟩
      case round =>
        obtain ⟨m, hm, rfl, rfl⟩ := hrel
        have hx := Crc.hsN_lt m Y (by omega)
        generalize eV : Crc.hsN m Y = V at *
        have HV := Lib.hid eV
        clear eV
        by_cases hm8 : m < 8
        · by_cases hodd : V % 2 = 1
          · have t1 : ((V : Int) % 2 == 1) = true := by simp; omega
            have hs1 : bits BinOp.xor IntKind.u32 (V / 2 : Int) 2197175160 = (Crc.hs V : Nat) := by
              have := u32_xor_nat (V / 2) 2197175160 (by omega) (by omega)
              simp only [Int.natCast_ediv] at this
              rw [show Crc.hs V = V / 2 ^^^ 2197175160 by unfold Crc.hs Crc.poly; rw [hodd]]
              exact this
            have HS := Lib.hid hs1
            clear hs1 hodd
            go_wp2
            go_round
            case rel => exact ⟨m + 1, by omega, by go_num, by rw [HS.out, ← HV.out]; rfl⟩
            case measure => simp [intOf]; omega
          · have t1 : ((V : Int) % 2 == 1) = false := by simp; omega
            have hs1 : ((V : Int) / 2) = (Crc.hs V : Nat) := by
              rw [show Crc.hs V = V / 2 by unfold Crc.hs Crc.poly; rw [show V % 2 = 0 by omega]; simp]
              omega
            have HS := Lib.hid hs1
            clear hs1 hodd
            go_wp2
            go_round
            case rel => exact ⟨m + 1, by omega, by go_num, by rw [HS.out, ← HV.out]; rfl⟩
            case measure => simp [intOf]; omega
        · obtain rfl : m = 8 := by omega
          go_wp2
          go_round
          case rel => exact ⟨k + 1, by omega, by go_num, by rw [take_snoc s k hlt, Crc.fold_snoc, HX.out, ← HY.out, HV.out]⟩
          case measure => simp [intOf]; omega
    · obtain rfl : k = s.size := by omega
      have hX := Crc.fold_lt (s.data.toList.take s.size) (4294967295 - c.toNat) (by omega)
      have hF : (4294967295 : Int) - (Crc.fold (s.data.toList.take s.size) (4294967295 - c.toNat) : Nat) = (Crc.more c.toNat s.data.toList : Nat) := by
        have e : s.data.toList.take s.size = s.data.toList := List.take_of_length_le (by simp)
        rw [e] at hX ⊢
        unfold Crc.more
        omega
      have HF := Lib.hid hF
      clear hF
      generalize Crc.fold (s.data.toList.take s.size) (4294967295 - c.toNat) = X at *
      go_wp2
      go_ret
      exact ⟨by rw [HF.out]; rfl, rfl⟩

def sealB (s : ByteArray) : ByteArray := s ++ ⟨(tail4 (Crc.more 0 s.data.toList)).toArray⟩
theorem seal_any (s : ByteArray) (hs : s.size ≤ 1000000) (w : World) :
    Calls Try.prog 15 #[.string s] w fun e w' => e = .returned (.string (sealB s)) ∧ Below w.heap.size w w' := by
  go_enter Try.func15, Try.ntmps15
  go_wp2_with fail
  refine (sum_any _ (by simp [maxLen]; omega) _).mono ?_
  rintro e w1 ⟨rfl, hb⟩
  have HB := Lib.hid hb
  clear hb
  go_wp2_with fail
  refine (bytesOf_any _ (by omega) (Int.ofNat_lt.2 (Crc.more_lt _ _)) _).mono ?_
  rintro e w2 ⟨rfl, hb⟩
  have HB := Lib.hid (HB.out.trans (hb.mono HB.out.size))
  clear hb
  rw [Int.toNat_natCast]
  have hz : (⟨(tail4 (Crc.more 0 s.data.toList)).toArray⟩ : ByteArray).size ≤ 4 := Nat.le_refl 4
  have HT : Hid (sealB s = s ++ ⟨(tail4 (Crc.more 0 s.data.toList)).toArray⟩) := rfl
  generalize (⟨(tail4 (Crc.more 0 s.data.toList)).toArray⟩ : ByteArray) = T at *
  go_wp2
  go_ret
  exact ⟨by rw [HT.out]; rfl, HB.out⟩
theorem refSeal_any (s : ByteArray) (hs : s.size ≤ 1000000) (w : World) :
    Calls Try.prog 16 #[.string s] w fun e w' => e = .returned (.string (sealB s)) ∧ Below w.heap.size w w' := by
  go_enter Try.func16, Try.ntmps16
  go_wp2_with fail
  refine (refMore_any _ (by omega) (by omega) _ (by simp [maxLen]; omega) _).mono ?_
  rintro e w1 ⟨rfl, rfl⟩
  have hm := Crc.more_lt 0 s.data.toList
  have hf := four Try.prog w 32 9 5 (Crc.more 0 s.data.toList : Nat) (by omega) (by omega) Try.underlying32 Try.underlying5 Try.underlying9 _ _ _ _ rfl rfl rfl rfl
  rw [Int.toNat_natCast] at hf
  have hz : (⟨(tail4 (Crc.more 0 s.data.toList)).toArray⟩ : ByteArray).size ≤ 4 := Nat.le_refl 4
  have HT : Hid (sealB s = s ++ ⟨(tail4 (Crc.more 0 s.data.toList)).toArray⟩) := rfl
  generalize (⟨(tail4 (Crc.more 0 s.data.toList)).toArray⟩ : ByteArray) = T at *
  go_wp2
  go_ret
  exact ⟨by rw [HT.out]; rfl, (Below.refl _ _).alloc (Nat.le_refl _) _⟩
end Go.Proofs.Ythihcdocfcfnkaa
