/- Contracts of layer 11's reference: long, Put. -/
import Derived.Test.YthihcdocfcfnkaaDg2
namespace Go.Proofs.Ythihcdocfcfnkaa
open Go.RowKit Go.Lib
/-- The lowest j bytes of a number, the highest first. -/
def loB (n : Nat) : Nat → List UInt8
  | 0 => []
  | j + 1 => UInt8.ofNat (n / 256 ^ j % 256) :: loB n j
theorem loB_len (n j : Nat) : (loB n j).length = j := by induction j with
  | zero => rfl
  | succ j ih => simp [loB, ih]
theorem loB_be (n : Nat) : loB n 8 = be n 8 := by
  simp [loB, be, List.range_succ]
theorem bytes_size (l : List UInt8) : (⟨l.toArray⟩ : ByteArray).size = l.length := by simp [ByteArray.size]
theorem bytes_app (l m : List UInt8) : (⟨l.toArray⟩ : ByteArray) ++ ⟨m.toArray⟩ = ⟨(l ++ m).toArray⟩ := by
  apply ByteArray.ext; simp
theorem conv_cells (w : World) (l : List UInt8) (n : Nat) (cs : Array Value) (hn : l.length = n) (hc : cs.toList = l.map byteV) :
    (convert 32 9 (.slice (some ⟨w.heap.size, 0, none⟩) n n)).run Try.prog (w.alloc (.cells cs 5)) = .ok (.string ⟨l.toArray⟩) (w.alloc (.cells cs 5)) := by
  subst hn
  refine run_convert_bytes_back (P := Try.prog) _ 32 9 5 ⟨w.heap.size, 0, none⟩ _ l Try.underlying32 Try.underlying5 Try.underlying9 ?_
  intro j hj
  have hadd : Addr.add { block := w.heap.size, off := 0 } j = ⟨w.heap.size, j, none⟩ := by
    by_cases h : j = 0 <;> simp [Addr.add, h]
  rw [hadd, (Box.new w 5 cs).cell j, ← Array.getElem?_toList, hc]
  simp [List.getElem?_eq_getElem hj, byteV]
set_option maxHeartbeats 1000000 in
theorem long_any (n : Nat) (hn : n < 18446744073709551616) (w : World) :
    Calls Try.prog 29 #[.int .u64 n] w fun e w' => e = .returned (.string ⟨(be n 8).toArray⟩) ∧ Below w.heap.size w w' := by
  go_enter Try.func29, Try.ntmps29
  go_wp2
  go_loopw [0, 3, 4] (fun m t c wr => ∃ j : Nat, j ≤ 8 ∧ c = .int .i64 j ∧ m = .int .u64 ((n / 256 ^ j : Nat) : Int) ∧ t = .string ⟨(loB n j).toArray⟩ ∧ Below w.heap.size w wr) (fun _ _ c _ => 8 - (intOf c).toNat)
  case atStart => exact ⟨0, by omega, rfl, by simp, rfl, Below.refl _ _⟩
  case round =>
    obtain ⟨j, hj, rfl, rfl, rfl, hbel⟩ := hrel
    have HB := Lib.hid hbel
    clear hbel
    by_cases hlt : j < 8
    · have hlt' : (j : Int) < 8 := by omega
      have hm : n / 256 ^ j < 18446744073709551616 := Nat.lt_of_le_of_lt (Nat.div_le_self _ _) hn
      have HS := Lib.hid (show (⟨(loB n (j + 1)).toArray⟩ : ByteArray) = ⟨[UInt8.ofNat (n / 256 ^ j % 256)].toArray⟩ ++ ⟨(loB n j).toArray⟩ by rw [bytes_app]; rfl)
      have HD := Lib.hid (show n / 256 ^ (j + 1) = n / 256 ^ j / 256 by rw [Nat.pow_succ, Nat.div_div_eq_div_mul])
      have hsz : (⟨(loB n j).toArray⟩ : ByteArray).size ≤ 8 := by rw [bytes_size, loB_len]; omega
      generalize n / 256 ^ j = m at *
      have cv := conv_cells wr [UInt8.ofNat (m % 256)] 1 #[.int .u8 ((m : Int) % 256)] rfl (by simp [byteV])
      have hs1 : (⟨[UInt8.ofNat (m % 256)].toArray⟩ : ByteArray).size ≤ 1 := by rw [bytes_size]; simp
      generalize (⟨(loB n j).toArray⟩ : ByteArray) = T at *
      generalize (⟨[UInt8.ofNat (m % 256)].toArray⟩ : ByteArray) = S at *
      have XB := Lib.hid (HB.out.alloc HB.out.size (.cells #[.int .u8 ((m : Int) % 256)] 5))
      go_wp2
      go_roundw
      case rel => exact ⟨j + 1, by omega, by go_num, by rw [HD.out]; simp, by rw [HS.out], XB.out⟩
      case measure => simp [intOf] <;> omega
    · obtain rfl : j = 8 := by omega
      have HS := Lib.hid (loB_be n)
      go_wp2
      go_ret
      exact ⟨by rw [← HS.out]; rfl, HB.out⟩
end Go.Proofs.Ythihcdocfcfnkaa
