/- Contracts of layer 11: the reader's number. -/
import Derived.Test.YthihcdocfcfnkaaDg2
namespace Go.Proofs.Ythihcdocfcfnkaa
open Go.RowKit
/-- The number of some bytes, the highest first. -/
def numB (l : List UInt8) : Nat := l.foldl (fun x b => x * 256 + b.toNat) 0
theorem numB_snoc (l : List UInt8) (b : UInt8) : numB (l ++ [b]) = numB l * 256 + b.toNat := by simp [numB]
theorem numB_lt : ∀ (n : Nat) (l : List UInt8), l.length = n → numB l < 256 ^ n
  | 0, l, h => by
    obtain rfl : l = [] := List.eq_nil_of_length_eq_zero h
    simp [numB]
  | n + 1, l, h => by
    rcases List.eq_nil_or_concat l with rfl | ⟨m, b, rfl⟩
    · simp at h
    · rw [List.concat_eq_append] at h ⊢
      have ih := numB_lt n m (by simpa using h)
      have hb := b.toNat_lt
      rw [numB_snoc, Nat.pow_succ]
      omega
theorem number_short (g m : Nat) (s : ByteArray) (sh : Bool) (w : World) (bx : Box w g 60 #[.string s, .bool sh]) (hm : s.size < m) (hm2 : m ≤ 8) :
    Calls Try.prog 32 #[.pointer (some ⟨g, 0, none⟩), .int .i64 m] w fun e w' => e = .returned (.int .u64 0) ∧ w' = (w.setCell ⟨g, 0, none⟩ (.string ⟨#[]⟩)).setCell ⟨g, 1, none⟩ (.bool true) := by
  obtain ⟨c0, c1, f0, f1⟩ := bx.two
  have hlt : (s.size : Int) < m := by omega
  go_enter Try.func32, Try.ntmps32
  go_wp2
  go_ret
  exact ⟨rfl, rfl⟩
theorem takeB_snoc (s : ByteArray) (k : Nat) (h : k < s.size) : s.data.toList.take (k + 1) = s.data.toList.take k ++ [s[k]] := by
  have hk : k < s.data.toList.length := by simpa using h
  rw [List.take_succ_eq_append_getElem hk]
  rfl
theorem or_byte (x : Nat) (b : UInt8) (hx : x < 256 ^ 7) : bits BinOp.or IntKind.u64 ((x : Int) * 256) (IntKind.u64.wrap (b.toNat : Int)) = ((x * 256 + b.toNat : Nat) : Int) := by
  have hb := b.toNat_lt
  have e : ((b.toNat : Nat) : Int) % 18446744073709551616 = ((b.toNat : Nat) : Int) := by omega
  have e2 : (x : Int) * 256 = ((x * 256 : Nat) : Int) := by simp
  rw [IntKind.wrap_u64, e, e2, u64_or_nat _ _ (by omega) (by omega)]
  have h := Nat.shiftLeft_add_eq_or_of_lt (b := b.toNat) (i := 8) (by omega) x
  rw [Nat.shiftLeft_eq] at h
  rw [← h]
set_option maxHeartbeats 1000000 in
theorem number_yes (g m : Nat) (s : ByteArray) (sh : Bool) (w : World) (bx : Box w g 60 #[.string s, .bool sh]) (hm : m ≤ s.size) (hm2 : m ≤ 8) (hs : s.size ≤ 1000000) :
    Calls Try.prog 32 #[.pointer (some ⟨g, 0, none⟩), .int .i64 m] w fun e w' => e = .returned (.int .u64 (numB (s.data.toList.take m) : Nat)) ∧ w' = w.setCell ⟨g, 0, none⟩ (.string (s.extract m s.size)) := by
  obtain ⟨c0, c1, f0, f1⟩ := bx.two
  have hlt : ¬ (s.size : Int) < m := by omega
  go_enter Try.func32, Try.ntmps32
  go_wp2
  go_loop [5, 21] (fun x i => ∃ j : Nat, j ≤ m ∧ i = .int .i64 j ∧ x = .int .u64 (numB (s.data.toList.take j) : Nat)) (fun _ i => m - (intOf i).toNat)
  case atStart => exact ⟨0, by omega, rfl, rfl⟩
  case round =>
    obtain ⟨j, hj, rfl, rfl⟩ := hrel
    by_cases hjl : j < m
    · have hj' : (j : Int) < m := by omega
      have HS := Lib.hid (show numB (s.data.toList.take (j + 1)) = numB (s.data.toList.take j) * 256 + (s[j]'(by omega)).toNat by rw [takeB_snoc s j (by omega), numB_snoc])
      have hx := numB_lt j (s.data.toList.take j) (by simp; omega)
      have hx2 : numB (s.data.toList.take j) < 256 ^ 7 := Nat.lt_of_lt_of_le hx (Nat.pow_le_pow_right (by omega) (by omega))
      clear hx
      generalize numB (s.data.toList.take j) = x at *
      have HO := Lib.hid (or_byte x (s[j]'(by omega)) hx2)
      go_wp2
      go_round
      case rel => exact ⟨j + 1, by omega, by go_num, by rw [HS.out, ← HO.out]⟩
      case measure => simp [intOf] <;> omega
    · obtain rfl : m = j := by omega
      have hj' : ¬ (m : Int) < m := by omega
      have hme : (m : Int) ≤ s.size := by omega
      go_wp2
      go_ret
      exact ⟨rfl, rfl⟩
end Go.Proofs.Ythihcdocfcfnkaa
