/- Contracts of layer 11: Right, withWord; the reference's Right; the law's cut. -/
import Derived.Test.YthihcdocfcfnkaaOpen
import Derived.Test.YthihcdocfcfnkaaWords
import Derived.Lib.AppendStr
import Derived.Maps.AppendAt
namespace Go.Proofs.Ythihcdocfcfnkaa
open Go.RowKit
/-- The first 100 bytes of a text. -/
def cutD (s : ByteArray) : ByteArray := s.extract 0 (min s.size 100)
theorem cutD_size (s : ByteArray) : (cutD s).size ≤ 100 := by simp [cutD, ByteArray.size_extract]; omega
theorem cutD_any (s : ByteArray) (hs : s.size ≤ maxLen) (w : World) : Calls Try.prog 18 #[.string s] w fun e w' => e = .returned (.string (cutD s)) ∧ w = w' := by
  unfold maxLen at hs
  by_cases h : s.size ≤ 100
  · have e : cutD s = s.extract 0 s.size := by unfold cutD; rw [Nat.min_eq_left h]
    rw [e]; clear e
    have g1 : (s.size : Int) ≤ 100 := by omega
    have g2 : ¬ (100 : Int) < s.size := by omega
    go_enter Try.func18, Try.ntmps18
    go_wp2
    go_ret
    exact ⟨by simp, rfl⟩
  · have e : cutD s = s.extract 0 100 := by unfold cutD; rw [Nat.min_eq_right (by omega)]
    rw [e]; clear e
    have g1 : (100 : Int) < s.size := by omega
    have g2 : ¬ (s.size : Int) ≤ 100 := by omega
    go_enter Try.func18, Try.ntmps18
    go_wp2
    go_ret
    exact ⟨by simp, rfl⟩
/-- A datagram's value. -/
abbrev dgV (o k z i : Int) (s : ByteArray) : Value := .agg #[.int .u64 o, .int .i64 k, .int .i64 z, .int .u64 i, .string s]
def dgB (k z : Int) (s : ByteArray) : Bool := decide (1 ≤ k ∧ k ≤ 64 ∧ 0 ≤ z ∧ z ≤ 64 ∧ (s.size : Int) = z)
theorem dgB_yes {k z : Int} {s : ByteArray} (h1 : 1 ≤ k) (h2 : k ≤ 64) (h3 : 0 ≤ z) (h4 : z ≤ 64) (h5 : (s.size : Int) = z) : dgB k z s = true := decide_eq_true ⟨h1, h2, h3, h4, h5⟩
theorem dgB_no {k z : Int} {s : ByteArray} (h : ¬ (1 ≤ k ∧ k ≤ 64 ∧ 0 ≤ z ∧ z ≤ 64 ∧ (s.size : Int) = z)) : dgB k z s = false := decide_eq_false h
theorem dgRight_any (o k z i : Int) (s : ByteArray) (hs : s.size ≤ maxLen) (w : World) : Calls Try.prog 20 #[dgV o k z i s] w fun e w' => e = .returned (.bool (dgB k z s)) ∧ Below w.heap.size w w' := by
  unfold maxLen at hs
  go_enter Try.func20, Try.ntmps20
  go_wp2
  all_goals go_ret
  · by_cases h : (s.size : Int) = z
    · exact ⟨by rw [dgB_yes ‹_› ‹_› ‹_› ‹_› h, beq_iff_eq.2 h]; rfl, (Below.refl _ _).alloc (Nat.le_refl _) _⟩
    · exact ⟨by rw [dgB_no (fun x => h x.2.2.2.2), beq_eq_false_iff_ne.2 h]; rfl, (Below.refl _ _).alloc (Nat.le_refl _) _⟩
  all_goals exact ⟨by rw [dgB_no (by omega)]; rfl, (Below.refl _ _).alloc (Nat.le_refl _) _⟩
theorem refRightD_any (o k z i : Int) (s : ByteArray) (hs : s.size ≤ maxLen) (w : World) : Calls Try.prog 21 #[dgV o k z i s] w fun e w' => e = .returned (.bool (dgB k z s)) ∧ Below w.heap.size w w' := by
  unfold maxLen at hs
  go_enter Try.func21, Try.ntmps21
  go_wp2
  all_goals go_ret
  · by_cases h : (s.size : Int) = z
    · exact ⟨by rw [dgB_yes ‹_› ‹_› ‹_› ‹_› h, beq_iff_eq.2 h]; rfl, (Below.refl _ _).alloc (Nat.le_refl _) _⟩
    · exact ⟨by rw [dgB_no (fun x => h x.2.2.2.2), beq_eq_false_iff_ne.2 h]; rfl, (Below.refl _ _).alloc (Nat.le_refl _) _⟩
  all_goals exact ⟨by rw [dgB_no (by omega)]; rfl, (Below.refl _ _).alloc (Nat.le_refl _) _⟩
/-- The first j of a number's 8 bytes, the highest first. -/
def be (x j : Nat) : List UInt8 := (List.range j).map fun i => UInt8.ofNat (x / 2 ^ (8 * (7 - i)) % 256)
theorem be_succ (x j : Nat) : be x (j + 1) = be x j ++ [UInt8.ofNat (x / 2 ^ (8 * (7 - j)) % 256)] := by simp [be, List.range_succ]
theorem be_len (x j : Nat) : (be x j).length = j := by simp [be]
def byteV (b : UInt8) : Value := .int .u8 (b.toNat : Int)
theorem uint8_info : (Try.prog.info? 5).map (fun i => (i.zero, i.size, i.bytes)) = some (some (.int .u8 0), 1, 1) := by kernel_rfl
/-- A row of bytes of the call's own is returned, which is not nil. -/
def OwnOut (base : Nat) (l : List UInt8) (w : World) (e : Ending) (w' : World) : Prop :=
  ∃ v, e = .returned v ∧ w'.ownsRow base 5 1 v l.length (l.map byteV) ∧ v ≠ .slice none 0 0 ∧ Below base w w'
set_option maxHeartbeats 1000000 in
theorem withWord_any (base : Nat) (v : Value) (l : List UInt8) (x : Nat) (w : World) (hx : x < 18446744073709551616) (hl : l.length ≤ 1000) (ho : w.ownsRow base 5 1 v l.length (l.map byteV)) (hnil : v ≠ .slice none 0 0) (hb : base ≤ w.heap.size) :
    Calls Try.prog 28 #[v, .int .u64 x] w (OwnOut base (l ++ be x 8) w) := by
  obtain ⟨i0, hi, hz0, hz1, hz2⟩ := info_parts uint8_info
  obtain ⟨A, c, rfl, _⟩ := own_form ho
  have HI := Lib.hid hi
  have HZ0 := Lib.hid hz0
  have HZ1 := Lib.hid hz1
  have HZ2 := Lib.hid hz2
  have HO := Lib.hid ho
  have HN := Lib.hid hnil
  clear hi hz0 hz1 hz2 ho hnil
  go_enter Try.func28, Try.ntmps28
  go_wp2
  go_loopw [0, 6] (fun v t wr => ∃ i : Nat, i ≤ 8 ∧ t = .int .i64 i ∧ wr.ownsRow base 5 1 v (l.length + i) ((l ++ be x i).map byteV) ∧ Hid (v ≠ .slice none 0 0) ∧ Below base w wr)
    (fun _ t _ => 8 - (intOf t).toNat)
  case atStart => exact ⟨0, by omega, rfl, by simpa [be] using HO.out, HN, Below.refl _ _⟩
  case round =>
    obtain ⟨i, hi8, rfl, hown, HNE, hbel⟩ := hrel
    have HO := Lib.hid hown
    have HB := Lib.hid hbel
    clear hown hbel
    by_cases hlt : i < 8
    · have hlt' : (i : Int) < 8 := by omega
      obtain ⟨A', c', rfl, _⟩ := own_form HO.out
      have hi' := HI.out
      have hz0' := HZ0.out
      have hz1' := HZ1.out
      have hz2' := HZ2.out
      have HS := Lib.hid (be_succ x i)
      have HV := Lib.hid (show ((x : Int) / 2 ^ (8 * (7 - i)) % 256) = ((UInt8.ofNat (x / 2 ^ (8 * (7 - i)) % 256)).toNat : Int) by simp)
      have XO := Lib.hid (HO.out.alloc (.cells #[.int .u8 ((x : Int) / 2 ^ (8 * (7 - i)) % 256)] 5))
      have XB := Lib.hid (HB.out.alloc (Nat.le_trans hb HB.out.size) (.cells #[.int .u8 ((x : Int) / 2 ^ (8 * (7 - i)) % 256)] 5))
      have N2 := Lib.hid (fun k hk => (HO.out.lt k hk).1)
      have HBS := Lib.hid (Nat.le_trans hb XB.out.size)
      go_wp2_with (at_builtin; refine wpList_append_own _ rfl _ _ 32 rfl base 5 i0 (.int .u8 0) 1 1 Try.underlying32 hi' hz0' hz1' hz2' rfl (by decide) _ _ _ rfl XO.out ⟨wr.heap.size, 0, none⟩ 1 1 [.int .u8 ((x : Int) / 2 ^ (8 * (7 - i)) % 256)] rfl rfl (cell_one_new _ _ _) (by simp [Value.oneCell']) (by simp [maxLen]; omega) (by omega) HBS.out ?_; intro v' w1 hown' hgrow hnil; have HC := Lib.hid (XB.out.grown hgrow HBS.out N2.out); have HO2 := Lib.hid hown'; have HNI := Lib.hid hnil; clear hown' hgrow hnil)
      go_roundw
      case rel =>
        refine ⟨i + 1, by omega, by go_num, ?_, Lib.hid (fun e => HNE.out (HNI.out.1 e).1), HC.out⟩
        rw [HS.out, ← List.append_assoc, List.map_append]
        have := HO2.out
        rw [HV.out] at this
        exact this
      case measure => simp [intOf] <;> omega
    · obtain rfl : i = 8 := by omega
      have HL := Lib.hid (show (l ++ be x 8).length = l.length + 8 by simp [be_len])
      obtain ⟨A', c', rfl, _⟩ := own_form HO.out
      go_wp2
      go_ret
      exact ⟨_, rfl, by rw [HL.out]; exact HO.out, HNE.out, HB.out⟩
end Go.Proofs.Ythihcdocfcfnkaa
