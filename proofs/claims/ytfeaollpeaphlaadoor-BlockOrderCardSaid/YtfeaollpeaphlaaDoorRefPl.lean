/- The reference's Places: where a row's bits are 1. -/
import Derived.Test.YtfeaollpeaphlaaDoorFrom
import Derived.Test.YtfeaollpeaphlaaDoorOnesP
namespace Go.Proofs.YtfeaollpeaphlaaDoor
set_option linter.unusedVariables false
set_option linter.unusedSimpArgs false
open Go.RowKit
/-- A slice of numbers of its own is returned. -/
def PlcRet (ys : List Nat) (w : World) (e : Ending) (w' : World) : Prop := ∃ v, e = .returned v ∧ w'.ownsRow w.heap.size 3 1 v ys.length (ys.map plcV) ∧ Below w.heap.size w w'
set_option maxHeartbeats 1000000 in
theorem refPlc_any (N : Nat) (A : Option Addr) (len c : Nat) (us : List Nat) (w : World) (hN : N ≤ 64 * len) (hl : len ≤ 1000) (hu : Words w A len us) :
    Calls Tryd.prog 14 #[.agg #[.int .i64 N, .slice A len c]] w (PlcRet (plcN us N) w) := by
  obtain ⟨i0, hi, hz0, hz1, hz2⟩ := info_parts int_infoP
  have hB := Below.refl w.heap.size w
  have HI := Lib.hid hi
  have HZ0 := Lib.hid hz0
  have HZ1 := Lib.hid hz1
  have HZ2 := Lib.hid hz2
  have Q0 := Lib.hid ((Box.new w 24 #[.int .i64 N, .slice A len c]).alloc (.cells #[] 3))
  have HW := Lib.hid ((hB.alloc (Nat.le_refl _) (.cells #[.int .i64 N, .slice A len c] 24)).alloc (by simp) (.cells #[] 3))
  have ho := own_empty (w.alloc (.cells #[.int .i64 N, .slice A len c] 24)) w.heap.size 3 (by simp)
  rw [World.size_alloc] at ho
  have HOw := Lib.hid ho
  have HU := Lib.hid hu
  clear hi hz0 hz1 hz2 hu ho hB
  go_enter Tryd.func14, Tryd.ntmps14
  go_wp2
  go_loopw [3, 4] (fun v t wr => ∃ i : Nat, i ≤ N ∧ t = .int .i64 i ∧ wr.ownsRow w.heap.size 3 1 v (plcN us i).length ((plcN us i).map plcV) ∧ Box wr w.heap.size 24 #[.int .i64 N, .slice A len c] ∧ Below w.heap.size w wr)
    (fun _ t _ => N - (intOf t).toNat)
  case atStart => exact ⟨0, by omega, rfl, HOw.out, Q0.out, HW.out⟩
  case round =>
    obtain ⟨i, hi, rfl, hown, hbox, hbel⟩ := hrel
    have HO := Lib.hid hown
    have HB := Lib.hid hbel
    have Q := Lib.hid hbox
    clear hown hbel hbox HW HOw Q0
    obtain ⟨r0, r1, -, -⟩ := Q.out.two
    have hpl := plcN_len us i
    have HS := Lib.hid (plcN_succ us i)
    by_cases hlt : i < N
    · have hlt' : (i : Int) < (N : Int) := by omega
      go_wp2_with fail
      refine (bit_any N A len c i us _ (HU.out.below HB.out) (by omega) (by omega)).mono ?_
      rintro e w1 ⟨rfl, hb⟩
      have Q := Lib.hid (Q.out.keep hb)
      have HB := Lib.hid (chain HB.out hb)
      have HO := Lib.hid (own_keep HO.out hb)
      clear hb r0 r1
      rcases bitAt_le us i with hbt | hbt
      · have HBt := Lib.hid hbt
        rw [hbt]
        clear hbt
        go_wp2
        go_roundw
        case rel => exact ⟨i + 1, by omega, by go_num, by rw [HS.out, HBt.out]; simpa using HO.out, Q.out, HB.out⟩
        case measure => simp [intOf] <;> omega
      · have HBt := Lib.hid hbt
        rw [hbt]
        clear hbt
        generalize plcN us i = pre at *
        have hi' := HI.out
        have hz0' := HZ0.out
        have hz1' := HZ1.out
        have hz2' := HZ2.out
        have XO := Lib.hid (HO.out.alloc (.cells #[.int .i64 (i : Int)] 3))
        have XQ := Lib.hid (Q.out.alloc (.cells #[.int .i64 (i : Int)] 3))
        have XB := Lib.hid (HB.out.alloc HB.out.size (.cells #[.int .i64 (i : Int)] 3))
        have N2 := Lib.hid (fun k hk => (HO.out.lt k hk).1)
        have N1 := Lib.hid (own_ne XO.out XQ.out (by decide))
        go_wp2_with (at_builtin; refine wpList_append_own _ rfl _ _ 26 rfl w.heap.size 3 i0 (.int .i64 0) 1 8 Tryd.underlying26 hi' hz0' hz1' hz2' rfl (by decide) _ _ _ rfl XO.out ⟨w1.heap.size, 0, none⟩ 1 1 [.int .i64 (i : Int)] rfl rfl (cell_one_new _ _ _) (by simp [Value.oneCell']) (by simp [maxLen]; omega) (by omega) XB.out.size ?_; intro v' w2 hown' hgrow _; have HC := Lib.hid (XB.out.grown hgrow XB.out.size N2.out); have S1 := Lib.hid (XQ.out.grown hgrow N1.out); have HO2 := Lib.hid hown'; clear hown' hgrow)
        go_roundw
        case rel =>
          refine ⟨i + 1, by omega, by go_num, ?_, S1.out, HC.out⟩
          rw [HS.out, HBt.out, if_pos rfl, List.length_append, List.map_append]
          exact HO2.out
        case measure => simp [intOf] <;> omega
    · obtain rfl : i = N := by omega
      have hlt' : ¬ (i : Int) < (i : Int) := by omega
      go_wp2
      go_ret
      exact ⟨_, rfl, HO.out, HB.out⟩
end Go.Proofs.YtfeaollpeaphlaaDoor
