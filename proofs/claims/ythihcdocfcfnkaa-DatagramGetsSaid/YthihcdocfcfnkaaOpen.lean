/- Contracts of crc.Open. -/
import Derived.Test.YthihcdocfcfnkaaSeal
namespace Go.Proofs.Ythihcdocfcfnkaa
open Go.RowKit
theorem str_ne {s t : ByteArray} (h : s ≠ t) : (s.toList == t.toList) = false := by
  rw [beq_eq_false_iff_ne]
  intro e
  rw [ByteArray.toList_eq, ByteArray.toList_eq] at e
  exact h (ByteArray.ext (Array.toList_inj.1 e))
theorem open_short (s : ByteArray) (h : s.size < 4) (w : World) :
    Calls Try.prog 17 #[.string s] w fun e w' => e = .returned (.tuple #[.string ⟨#[]⟩, .int .i64 5]) ∧ Below w.heap.size w w' := by
  have h1 : (s.size : Int) < 4 := by omega
  go_enter Try.func17, Try.ntmps17
  go_wp2
  go_ret2
  exact ⟨rfl, Below.refl _ _⟩
set_option maxHeartbeats 400000 in
theorem open_yes (s : ByteArray) (h : 4 ≤ s.size) (hs : s.size ≤ 1000) (he : sealB (s.extract 0 (s.size - 4)) = s) (w : World) :
    Calls Try.prog 17 #[.string s] w fun e w' => e = .returned (.tuple #[.string (s.extract 0 (s.size - 4)), .int .i64 0]) ∧ Below w.heap.size w w' := by
  have HE := Lib.hid he
  clear he
  go_enter Try.func17, Try.ntmps17
  go_wp2_with fail
  refine (seal_any _ (by simp; omega) _).mono ?_
  rintro e x1 ⟨rfl, hb⟩
  have HB := Lib.hid hb
  clear hb
  rw [HE.out]
  go_wp2
  go_ret2
  exact ⟨rfl, HB.out⟩
set_option maxHeartbeats 400000 in
theorem open_no (s : ByteArray) (h : 4 ≤ s.size) (hs : s.size ≤ 1000) (he : sealB (s.extract 0 (s.size - 4)) ≠ s) (w : World) :
    Calls Try.prog 17 #[.string s] w fun e w' => e = .returned (.tuple #[.string ⟨#[]⟩, .int .i64 5]) ∧ Below w.heap.size w w' := by
  have HE := Lib.hid he
  clear he
  go_enter Try.func17, Try.ntmps17
  go_wp2_with fail
  refine (seal_any _ (by simp; omega) _).mono ?_
  rintro e x1 ⟨rfl, hb⟩
  have HB := Lib.hid hb
  clear hb
  generalize sealB (s.extract 0 (s.size - 4)) = t at *
  have hne := str_ne HE.out
  go_wp2
  go_ret2
  exact ⟨rfl, HB.out⟩
end Go.Proofs.Ythihcdocfcfnkaa
