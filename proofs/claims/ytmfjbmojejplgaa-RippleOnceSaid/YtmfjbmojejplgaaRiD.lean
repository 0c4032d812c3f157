/- Layer 14: the reference's Sorted, Same. -/
import Derived.Test.YtmfjbmojejplgaaRiC
import Derived.BigQuiet
namespace Go.Proofs.Ytmfjbmojejplgaa
set_option linter.unusedVariables false
set_option linter.unusedSimpArgs false
open Go.RowKit Go.Sort
set_option maxRecDepth 100000
theorem srt_take (xs : List DrR) (i : Nat) (hi : i < xs.length) : withD (srtD (xs.take i)) (drAt xs i) = srtD (xs.take (i + 1)) := by rw [srtD_snoc, take_dr xs i hi]
set_option maxHeartbeats 4000000 in
theorem refSorted_any (A : Option Addr) (l cp : Nat) (xs : List DrR) (w : World) (hH : Drs w A l xs) (hlm : l ≤ 10000) :
    Calls Try.prog 9 #[.slice A l cp] w (DropsOne (srtD xs) w) := by
  have HH := Lib.hid hH
  have HLen := Lib.hid hH.1
  have HT := Lib.hid (List.take_of_length_le (Nat.le_of_eq hH.1))
  have hb1 : Below w.heap.size w (w.alloc (.cells #[] 24)) := (Below.refl _ _).alloc (Nat.le_refl _) _
  have HB1 := Lib.hid hb1
  have HZ := Lib.hid (show srtD ([] : List DrR) = [] from List.eq_nil_of_length_eq_zero (srtD_len []))
  clear hH hb1
  go_enter Try.func9, Try.ntmps9
  go_wp2_with fail
  go_loopw [3, 9] (fun v t wr => ∃ i : Nat, i ≤ l ∧ t = .int .i64 i ∧ ∃ A2 c2, v = .slice A2 i c2 ∧ Hid (SliceOk A2 i c2) ∧ Hid (Drs wr A2 i (srtD (xs.take i))) ∧ Hid (Below w.heap.size w wr)) (fun _ t _ => l - (intOf t).toNat)
  case atStart => exact ⟨0, Nat.zero_le _, rfl, _, 0, rfl, Lib.hid ⟨Nat.le_refl _, Nat.zero_le _, fun _ => ⟨rfl, rfl⟩⟩, Lib.hid (by rw [List.take_zero, HZ.out]; exact Recs.nil _ _), HB1⟩
  case round =>
    clear HB1 HZ
    obtain ⟨i, hi, rfl, A2, c2, rfl, HSO, HS, HC⟩ := hrel
    by_cases hlt : i < l
    · have hlt' : (i : Int) < (l : Int) := Int.ofNat_lt.2 hlt
      have hi5 : (i : Int) < 1000000 := by omega
      obtain ⟨b, off, rfl, hlb, d0, d1⟩ := HH.out.cells HC.out i hlt
      obtain ⟨w5, rfl⟩ : ∃ w5 : World, w5 = wr := ⟨_, rfl⟩
      have HTk := Lib.hid (srt_take xs i (by rw [HLen.out]; exact hlt))
      have hwl := withD_len (srtD (xs.take i)) (drAt xs i)
      have hsl : (srtD (xs.take i)).length = i := by rw [srtD_len, List.length_take, HLen.out]; omega
      have GX := Lib.hid (Box.new w5 24 (drA (drAt xs i)))
      have c1 : Below w5.heap.size w5 (w5.alloc (.cells (drA (drAt xs i)) 24)) := (Below.refl _ _).alloc (Nat.le_refl _) _
      have HW := Lib.hid (refWith_any A2 i c2 (srtD (xs.take i)) (drAt xs i) _ (Recs.below HS.out c1) (by omega))
      have HC1 := Lib.hid (HC.out.trans (c1.mono HC.out.size))
      rw [HTk.out] at HW hwl
      have hsl2 : (srtD (xs.take (i + 1))).length = i + 1 := by omega
      generalize drAt xs i = x at *
      have g0 := GX.out.cell 0
      have g1 := GX.out.cell 1
      simp only [List.getElem?_toArray, List.getElem?_cons_zero, List.getElem?_cons_succ] at g0 g1
      clear c1 HTk hwl hsl HS HC GX
      go_wp2_with fail
      refine HW.out.mono ?_
      rintro e x2 ⟨A3, c3, rfl, h1, h3, hb⟩
      have HS3 := Lib.hid h3
      have HC3 := Lib.hid (chain HC1.out hb)
      clear h3 hb HW HC1
      rw [hsl2] at h1 HS3
      have HSO3 := Lib.hid h1
      clear h1 HSO
      rw [hsl2]
      clear hsl2 d0 d1 g0 g1
      go_wp2_with fail
      go_roundw
      case rel => exact ⟨i + 1, hlt, by go_num, A3, c3, by go_num, HSO3, HS3, HC3⟩
      case measure => simp [intOf] <;> omega
    · obtain rfl : l = i := by omega
      have hlt' : ¬ (l : Int) < (l : Int) := Int.lt_irrefl _
      have HX := Lib.hid (show Drs wr A2 l (srtD xs) by have := HS.out; rwa [HT.out] at this)
      have HE := Lib.hid (show (srtD xs).length = l by rw [srtD_len, HLen.out])
      go_wp2_with fail
      go_ret
      exact ⟨A2, c2, by rw [HE.out]; rfl, by rw [HE.out]; exact HSO.out, by rw [HE.out]; exact HX.out, HC.out⟩
theorem drop_equal (d : Nat) (a b : DrR) (w : World) : (Op.equalIn (d + 2) 24 (.agg (drA a)) (.agg (drA b))).run Try.prog w = .ok (a.1 == b.1 && (a.2 : Int) == (b.2 : Int)) w := by
  rw [run_equalIn_struct w (d + 1) 24 _ _ (by kernel_rfl) (by kernel_rfl)]
  simp only [Program.fieldsOf, Try.underlying24]
  simp [Op.eqFields, Go.part, Go.isAgg, run_underlying Try.underlying22, run_underlying Try.underlying3]
  have f1 := fun (w : World) => run_equalIn_int w d 3 .i64 .i64 a.1 b.1 Try.underlying3
  have f2 := fun (w : World) => run_equalIn_int w d 22 .u64 .u64 (a.2 : Int) (b.2 : Int) Try.underlying22
  rw [f1]
  cases h : (a.1 == b.1) with
  | false => simp [Result.andThen]
  | true =>
    simp only [Result.andThen_ok]
    rw [f2]
    cases h2 : ((a.2 : Int) == (b.2 : Int)) <;> simp [Result.andThen] <;> simpa using h2
theorem drop_neq (a : DrR) (w : World) : (binOp .neq 24 (.agg (drA a)) (.agg (drA a))).run Try.prog w = .ok (.bool false) w := by
  rw [run_neq_struct, show (10000 : Nat) = 9998 + 2 from rfl, drop_equal]
  simp [Result.andThen]
theorem drop_guard (op : BinOp) (a : DrR) (x y : Operand) (w : World) : (eqGuard op 24 x y (.agg (drA a)) (.agg (drA a))).run Try.prog w = .ok () w :=
  run_eqGuard_agg w op _ x y _ _ (by kernel_rfl)
set_option maxHeartbeats 1000000 in
theorem refSame14_same (A B : Option Addr) (l c d : Nat) (xs : List DrR) (w : World) (hu : Drs w A l xs) (hv : Drs w B l xs) (hl : l ≤ 1000000) :
    Calls Try.prog 12 #[.slice A l c, .slice B l d] w fun e w' => e = .returned (.bool true) ∧ Below w.heap.size w w' := by
  have HU := Lib.hid hu
  have HV := Lib.hid hv
  clear hu hv
  have t2 : ((l : Int) != (l : Int)) = false := by simp
  go_enter Try.func12, Try.ntmps12
  go_wp2_with fail
  clear t2
  go_loopw [13] (fun i wr => ∃ j : Nat, j ≤ l ∧ i = .int .i64 j ∧ Below w.heap.size w wr) (fun i _ => l - (intOf i).toNat)
  case atStart => exact ⟨0, by omega, rfl, Below.refl _ _⟩
  case round =>
    obtain ⟨j, hj, rfl, hbel⟩ := hrel
    have HB := Lib.hid hbel
    clear hbel
    by_cases hlt : j < l
    · obtain ⟨p, o, rfl, lt1, d0, d1⟩ := Drs.cells HU.out HB.out j hlt
      obtain ⟨p2, o2, rfl, lt2, e0, e1⟩ := Drs.cells HV.out HB.out j hlt
      have hlt' : (j : Int) < (l : Int) := by omega
      have hj0 : (0 : Int) ≤ (j : Int) := by omega
      have hj5 : (j : Int) < 1000000 := by omega
      generalize drAt xs j = s at *
      have hne : ∀ w, (binOp .neq 24 (.agg #[.int .i64 s.1, .int .u64 (s.2 : Int)]) (.agg #[.int .i64 s.1, .int .u64 (s.2 : Int)])).run Try.prog w = .ok (.bool false) w := fun w => drop_neq s w
      have hgd := fun x y w => drop_guard .neq s x y w
      go_wp2
      go_quiet (fail)
      go_wp2_with fail
      go_roundw
      case rel => exact ⟨j + 1, by omega, by go_num, bdN HB.out _⟩
      case measure => simp [intOf]; omega
    · obtain rfl : j = l := by omega
      go_wp2
      go_ret
      exact ⟨rfl, HB.out⟩
end Go.Proofs.Ytmfjbmojejplgaa
