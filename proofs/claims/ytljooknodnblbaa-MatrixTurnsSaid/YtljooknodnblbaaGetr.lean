/- bitrow.Get. -/
import Derived.Test.YtljooknodnblbaaFrom
import Derived.Test.YtljooknodnblbaaRefXor
namespace Go.Proofs.Ytljooknodnblbaa
set_option linter.unusedVariables false
set_option linter.unusedSimpArgs false
open Go.RowKit
/-- What Get tells. -/
def getV (N : Int) (us : List Nat) (i : Int) : Int := if rightB N us && (decide (0 ≤ i) && decide (i < N)) then (bitAt us i.toNat : Nat) else 0
def getE (N : Int) (us : List Nat) (i : Int) : Int := if rightB N us then if decide (0 ≤ i) && decide (i < N) then 0 else 3 else 1
theorem get_bad (N i : Int) (A : Option Addr) (len c : Nat) (us : List Nat) (w : World) (hr : rightB N us = false) (hW : Words w A len us) :
    Calls Try.prog 26 #[.agg #[.int .i64 N, .slice A len c], .int .i64 i] w fun e w' => e = .returned (.tuple #[.int .i64 0, .int .i64 1]) ∧ Below w.heap.size w w' := by
  have Q := Lib.hid (Box.new w 37 #[.int .i64 N, .slice A len c])
  have HB := Lib.hid (show Below w.heap.size w (w.alloc (.cells #[.int .i64 N, .slice A len c] 37)) from (Below.refl _ _).alloc (Nat.le_refl _) _)
  have HR := Lib.hid (right_any N A len c us _ (hW.alloc (.cells #[.int .i64 N, .slice A len c] 37)))
  rw [hr] at HR
  obtain ⟨r0, r1, -, -⟩ := Q.out.two
  clear hW hr
  go_enter Try.func26, Try.ntmps26
  go_wp2_with fail
  refine HR.out.mono ?_
  rintro e w1 ⟨rfl, hb⟩
  have B := Lib.hid (chain HB.out hb)
  clear hb
  go_wp2
  go_ret2
  exact ⟨rfl, B.out⟩
theorem get_far (N i : Int) (A : Option Addr) (len c : Nat) (us : List Nat) (w : World) (hr : rightB N us = true) (hi : (decide (0 ≤ i) && decide (i < N)) = false) (hW : Words w A len us) :
    Calls Try.prog 26 #[.agg #[.int .i64 N, .slice A len c], .int .i64 i] w fun e w' => e = .returned (.tuple #[.int .i64 0, .int .i64 3]) ∧ Below w.heap.size w w' := by
  have Q := Lib.hid (Box.new w 37 #[.int .i64 N, .slice A len c])
  have HB := Lib.hid (show Below w.heap.size w (w.alloc (.cells #[.int .i64 N, .slice A len c] 37)) from (Below.refl _ _).alloc (Nat.le_refl _) _)
  have HR := Lib.hid (right_any N A len c us _ (hW.alloc (.cells #[.int .i64 N, .slice A len c] 37)))
  rw [hr] at HR
  have HI := Lib.hid (isPlace_any N A len c i)
  rw [hi] at HI
  obtain ⟨r0, r1, -, -⟩ := Q.out.two
  clear hW hr hi
  go_enter Try.func26, Try.ntmps26
  go_wp2_with fail
  refine HR.out.mono ?_
  rintro e w1 ⟨rfl, hb⟩
  have B := Lib.hid (chain HB.out hb)
  have Q := Lib.hid (Q.out.keep hb)
  clear hb r0 r1
  obtain ⟨r0, r1, -, -⟩ := Q.out.two
  go_wp2_with fail
  refine (HI.out _).mono ?_
  rintro e w2 ⟨rfl, hb⟩
  have B := Lib.hid (chain B.out hb)
  clear hb
  go_wp2
  go_ret2
  exact ⟨rfl, B.out⟩
set_option maxHeartbeats 1000000 in
theorem get_yes (N i : Nat) (A : Option Addr) (len c : Nat) (us : List Nat) (w : World) (hr : rightB N us = true) (hi : i < N) (hW : Words w A len us) :
    Calls Try.prog 26 #[.agg #[.int .i64 N, .slice A len c], .int .i64 i] w fun e w' => e = .returned (.tuple #[.int .i64 (bitAt us i : Nat), .int .i64 0]) ∧ Below w.heap.size w w' := by
  have hl8 := rightB_len8 hr hW.1
  have hnw : i < 64 * len := by
    have h := hr
    simp only [rightB, Bool.and_eq_true, beq_iff_eq, Int.toNat_natCast] at h
    have h1 := h.1.2
    rw [hW.1] at h1
    unfold nw at h1
    omega
  have Q := Lib.hid (Box.new w 37 #[.int .i64 N, .slice A len c])
  have HB := Lib.hid (show Below w.heap.size w (w.alloc (.cells #[.int .i64 N, .slice A len c] 37)) from (Below.refl _ _).alloc (Nat.le_refl _) _)
  have HW := Lib.hid (hW.alloc (.cells #[.int .i64 N, .slice A len c] 37))
  have HR := Lib.hid (right_any N A len c us _ HW.out)
  rw [hr] at HR
  have HI := Lib.hid (isPlace_any N A len c i)
  rw [show (decide ((0 : Int) ≤ i) && decide ((i : Int) < N)) = true by simp; omega] at HI
  obtain ⟨r0, r1, -, -⟩ := Q.out.two
  clear hW hr
  go_enter Try.func26, Try.ntmps26
  go_wp2_with fail
  refine HR.out.mono ?_
  rintro e w1 ⟨rfl, hb⟩
  have B := Lib.hid (chain HB.out hb)
  have Q := Lib.hid (Q.out.keep hb)
  have HW := Lib.hid (HW.out.below hb)
  clear hb r0 r1
  obtain ⟨r0, r1, -, -⟩ := Q.out.two
  go_wp2_with fail
  refine (HI.out _).mono ?_
  rintro e w2 ⟨rfl, hb⟩
  have B := Lib.hid (chain B.out hb)
  have Q := Lib.hid (Q.out.keep hb)
  have HW := Lib.hid (HW.out.below hb)
  clear hb r0 r1 HI HR HB
  obtain ⟨r0, r1, -, -⟩ := Q.out.two
  obtain ⟨b, off, rfl, hlb, hc⟩ := HW.out.2.2 (by omega)
  have c1 := hc (i / 64) (by omega)
  have hx := HW.out.2.1 (i / 64)
  have hv : bits BinOp.and IntKind.u64 (((us.getD (i / 64) 0 : Nat) : Int) / 2 ^ (i % 64)) 1 = ((bitAt us i : Nat) : Int) := by
    have h1 := Nat.div_le_self (us.getD (i / 64) 0) (2 ^ (i % 64))
    have := u64_and_nat (us.getD (i / 64) 0 / 2 ^ (i % 64)) 1 (by omega) (by omega)
    rw [show us.getD (i / 64) 0 / 2 ^ (i % 64) &&& 1 = bitAt us i from Nat.and_one_is_mod _, Int.natCast_ediv] at this
    simpa using this
  have hb1 : bitAt us i ≤ 1 := by rcases bitAt_le us i with h | h <;> omega
  clear hc
  generalize hme : bitAt us i = v at *
  have HE := Lib.hid hme
  clear hme
  generalize us.getD (i / 64) 0 = x at *
  have g1 : (i : Int).tdiv 64 = ((i / 64 : Nat) : Int) := by rw [Int.tdiv_eq_ediv_of_nonneg (by omega)]; omega
  have g2 : (i : Int).tmod 64 = ((i % 64 : Nat) : Int) := by rw [Int.tmod_eq_emod_of_nonneg (by omega)]; omega
  have g3 : ((i / 64 : Nat) : Int) < (len : Int) := by omega
  go_wp2
  go_ret2
  exact ⟨by rw [HE.out]; rfl, B.out⟩
end Go.Proofs.Ytljooknodnblbaa
