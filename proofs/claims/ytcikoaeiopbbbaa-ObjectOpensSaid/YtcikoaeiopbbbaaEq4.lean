/- Contracts of layer 12: two lists of symbols, Like, the reference's Same. -/
import Derived.Test.YtcikoaeiopbbbaaEq2
import Derived.Test.YtcikoaeiopbbbaaSymE
import Derived.Deep.QuietTactic
import Derived.BigQuiet
namespace Go.Proofs.Ytcikoaeiopbbbaa
set_option linter.unusedVariables false
set_option linter.unusedSimpArgs false
open Go.RowKit
set_option maxRecDepth 100000
theorem bdH {B : Nat} {w wr : World} (h : Hid (Below B w wr)) (n : Nat) : Hid (Below B w (wr.drewN n)) := Lib.hid (bdN h.out n)
theorem take_both (xs ys : List SymR) (j : Nat) (h1 : j < xs.length) (h2 : j < ys.length) (h : xs.take j = ys.take j) (he : xs.getD j default = ys.getD j default) : xs.take (j + 1) = ys.take (j + 1) := by
  rw [take_snocD xs j h1, take_snocD ys j h2, h, he]
theorem take_differ (xs ys : List SymR) (j : Nat) (h1 : j < xs.length) (h2 : j < ys.length) (he : ¬ xs.getD j default = ys.getD j default) : xs ≠ ys := fun h => he (by rw [h])
set_option maxHeartbeats 1000000 in
theorem slEq_any (A B : Option Addr) (l m c d : Nat) (xs ys : List SymR) (w : World) (hu : Syms w A l xs) (hv : Syms w B m ys) (hl : l ≤ maxLen) (hm : m ≤ maxLen) :
    Calls Try.prog 33 #[.slice A l c, .slice B m d] w fun e w' => e = .returned (.bool (decide (xs = ys))) ∧ Below w.heap.size w w' := by
  unfold maxLen at hl hm
  have HU := Lib.hid hu
  have HV := Lib.hid hv
  have HL1 := Lib.hid hu.1
  have HL2 := Lib.hid hv.1
  clear hu hv
  by_cases hlm : l = m
  · subst hlm
    have t2 : ((l : Int) != (l : Int)) = false := by simp
    go_enter Try.func33, Try.ntmps33
    go_wp2_with fail
    clear t2
    go_loopw [13] (fun i wr => ∃ j : Nat, j ≤ l ∧ i = .int .i64 j ∧ Hid (xs.take j = ys.take j) ∧ Hid (Below w.heap.size w wr)) (fun i _ => l - (intOf i).toNat)
    case atStart => exact ⟨0, Nat.zero_le _, rfl, Lib.hid rfl, Lib.hid (Below.refl _ _)⟩
    case round =>
      obtain ⟨j, hj, rfl, HS, HB⟩ := hrel
      by_cases hlt : j < l
      · have hlt' : (j : Int) < (l : Int) := Int.ofNat_lt.2 hlt
        have hj0 : (0 : Int) ≤ (j : Int) := Int.natCast_nonneg _
        obtain ⟨b, o, rfl, lt1, cu, cu1⟩ := HU.out.two j hlt
        obtain ⟨b2, o2, rfl, lt2, cv, cv1⟩ := HV.out.two j hlt
        have cu := (HB.out.cell (p := ⟨b, o + j * 2, none⟩) lt1).trans cu
        have cu1 := (HB.out.cell (p := ⟨b, o + j * 2 + 1, none⟩) lt1).trans cu1
        have cv := (HB.out.cell (p := ⟨b2, o2 + j * 2, none⟩) lt2).trans cv
        have cv1 := (HB.out.cell (p := ⟨b2, o2 + j * 2 + 1, none⟩) lt2).trans cv1
        have HN := Lib.hid (take_both xs ys j (by rw [HL1.out]; exact hlt) (by rw [HL2.out]; exact hlt) HS.out)
        have HM := Lib.hid (take_differ xs ys j (by rw [HL1.out]; exact hlt) (by rw [HL2.out]; exact hlt))
        generalize xs.getD j default = p at *
        generalize ys.getD j default = q at *
        by_cases hpq : p = q
        · have HN2 := Lib.hid (HN.out hpq)
          subst hpq
          clear HN HM
          go_wp2_with fail
          go_quiet (fail)
          go_wp2_with fail
          go_roundw
          case rel => exact ⟨j + 1, hlt, by go_num, HN2, bdH HB _⟩
          case measure => simp [intOf] <;> omega
        · have HE := Lib.hid (decide_eq_false (HM.out hpq))
          clear HN HM
          have hne : ∀ w, (binOp .neq 29 (.agg #[.int .u64 (p.1 : Nat), .string p.2]) (.agg #[.int .u64 (q.1 : Nat), .string q.2])).run Try.prog w = .ok (.bool true) w := fun w => by rw [sym_neq, symv_ne p q hpq]; rfl
          have hgd := fun op x y w => sym_guard op (p.1 : Nat) (q.1 : Nat) p.2 q.2 x y w
          clear hpq
          go_wp2_with fail
          go_quiet (fail)
          go_wp2_with fail
          go_ret
          exact ⟨by rw [HE.out]; rfl, (bdH HB _).out⟩
      · obtain rfl : j = l := Nat.le_antisymm hj (Nat.le_of_not_lt hlt)
        have hlt' : ¬ (j : Int) < (j : Int) := Int.lt_irrefl _
        have HE := Lib.hid (decide_eq_true (show xs = ys by have := HS.out; rwa [List.take_of_length_le (by rw [HL1.out]; exact Nat.le_refl _), List.take_of_length_le (by rw [HL2.out]; exact Nat.le_refl _)] at this))
        go_wp2_with fail
        go_ret
        exact ⟨by rw [HE.out]; rfl, HB.out⟩
  · have t2 : ((l : Int) != (m : Int)) = true := by simp; omega
    have HE := Lib.hid (decide_eq_false (show xs ≠ ys by intro h; rw [h] at HL1; exact hlm (HL1.out.symm.trans HL2.out)))
    go_enter Try.func33, Try.ntmps33
    go_wp2_with fail
    go_ret
    exact ⟨by rw [HE.out]; rfl, Below.refl _ _⟩
set_option maxHeartbeats 1000000 in
theorem refSameL_any (A B : Option Addr) (l m c d : Nat) (xs ys : List SymR) (w : World) (hu : Syms w A l xs) (hv : Syms w B m ys) (hl : l ≤ maxLen) (hm : m ≤ maxLen) :
    Calls Try.prog 20 #[.slice A l c, .slice B m d] w fun e w' => e = .returned (.bool (decide (xs = ys))) ∧ Below w.heap.size w w' := by
  unfold maxLen at hl hm
  have HU := Lib.hid hu
  have HV := Lib.hid hv
  have HL1 := Lib.hid hu.1
  have HL2 := Lib.hid hv.1
  clear hu hv
  by_cases hlm : l = m
  · subst hlm
    have t2 : ((l : Int) != (l : Int)) = false := by simp
    go_enter Try.func20, Try.ntmps20
    go_wp2_with fail
    clear t2
    go_loopw [13] (fun i wr => ∃ j : Nat, j ≤ l ∧ i = .int .i64 j ∧ Hid (xs.take j = ys.take j) ∧ Hid (Below w.heap.size w wr)) (fun i _ => l - (intOf i).toNat)
    case atStart => exact ⟨0, Nat.zero_le _, rfl, Lib.hid rfl, Lib.hid (Below.refl _ _)⟩
    case round =>
      obtain ⟨j, hj, rfl, HS, HB⟩ := hrel
      by_cases hlt : j < l
      · have hlt' : (j : Int) < (l : Int) := Int.ofNat_lt.2 hlt
        have hj0 : (0 : Int) ≤ (j : Int) := Int.natCast_nonneg _
        obtain ⟨b, o, rfl, lt1, cu, cu1⟩ := HU.out.two j hlt
        obtain ⟨b2, o2, rfl, lt2, cv, cv1⟩ := HV.out.two j hlt
        have cu := (HB.out.cell (p := ⟨b, o + j * 2, none⟩) lt1).trans cu
        have cu1 := (HB.out.cell (p := ⟨b, o + j * 2 + 1, none⟩) lt1).trans cu1
        have cv := (HB.out.cell (p := ⟨b2, o2 + j * 2, none⟩) lt2).trans cv
        have cv1 := (HB.out.cell (p := ⟨b2, o2 + j * 2 + 1, none⟩) lt2).trans cv1
        have HN := Lib.hid (take_both xs ys j (by rw [HL1.out]; exact hlt) (by rw [HL2.out]; exact hlt) HS.out)
        have HM := Lib.hid (take_differ xs ys j (by rw [HL1.out]; exact hlt) (by rw [HL2.out]; exact hlt))
        generalize xs.getD j default = p at *
        generalize ys.getD j default = q at *
        by_cases hpq : p = q
        · have HN2 := Lib.hid (HN.out hpq)
          subst hpq
          clear HN HM
          go_wp2_with fail
          go_quiet (fail)
          go_wp2_with fail
          go_roundw
          case rel => exact ⟨j + 1, hlt, by go_num, HN2, bdH HB _⟩
          case measure => simp [intOf] <;> omega
        · have HE := Lib.hid (decide_eq_false (HM.out hpq))
          clear HN HM
          have hne : ∀ w, (binOp .neq 29 (.agg #[.int .u64 (p.1 : Nat), .string p.2]) (.agg #[.int .u64 (q.1 : Nat), .string q.2])).run Try.prog w = .ok (.bool true) w := fun w => by rw [sym_neq, symv_ne p q hpq]; rfl
          have hgd := fun op x y w => sym_guard op (p.1 : Nat) (q.1 : Nat) p.2 q.2 x y w
          clear hpq
          go_wp2_with fail
          go_quiet (fail)
          go_wp2_with fail
          go_ret
          exact ⟨by rw [HE.out]; rfl, (bdH HB _).out⟩
      · obtain rfl : j = l := Nat.le_antisymm hj (Nat.le_of_not_lt hlt)
        have hlt' : ¬ (j : Int) < (j : Int) := Int.lt_irrefl _
        have HE := Lib.hid (decide_eq_true (show xs = ys by have := HS.out; rwa [List.take_of_length_le (by rw [HL1.out]; exact Nat.le_refl _), List.take_of_length_le (by rw [HL2.out]; exact Nat.le_refl _)] at this))
        go_wp2_with fail
        go_ret
        exact ⟨by rw [HE.out]; rfl, HB.out⟩
  · have t2 : ((l : Int) != (m : Int)) = true := by simp; omega
    have HE := Lib.hid (decide_eq_false (show xs ≠ ys by intro h; rw [h] at HL1; exact hlm (HL1.out.symm.trans HL2.out)))
    go_enter Try.func20, Try.ntmps20
    go_wp2_with fail
    go_ret
    exact ⟨by rw [HE.out]; rfl, Below.refl _ _⟩
end Go.Proofs.Ytcikoaeiopbbbaa
