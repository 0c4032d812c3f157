/- Parts: OnesF, RefPl, RefNums, TellsX, Ms1, Ms2, Ms3, Ms4, Block2, Block3, Block4, Words2, RefBlock, FewT, RefOnes, Pick. -/
import Derived.Test.YtdfmogcgangdnaaDoorZg
import Derived.BigRegion
import Derived.IntWalk
import Derived.Laws.BitsAllLaws
import Derived.Laws.CopyOwn
import Derived.Lib.BufferWrite
import Derived.OpenShut
import Derived.RegionTactic
import Derived.Test.YtdfmogcgangdnaaDoorChecked
namespace Go.Proofs.YtdfmogcgangdnaaDoor
section
/- bitrow.First: the first place of a bit 1. -/
set_option linter.unusedVariables false
set_option linter.unusedSimpArgs false
open Go.RowKit Go.Shelf
attribute [local go_sem] Oper.semAt_some
/-- What First tells of the places. -/
def firstV : List Nat → Int
  | [] => 0
  | p :: _ => (p : Int)
def firstE : List Nat → Int
  | [] => 4
  | _ :: _ => 0
theorem boxed_putObj {W : World} {B D : Nat} {t : TypeId} {v : Value} {o : Obj} (hD : D ≠ B) (h : Boxed W B t v) : Boxed (W.putObj D o) B t v := (World.putObj_heap_other (Ne.symm hD)).trans h
theorem first_no (N : Int) (A : Option Addr) (len c : Nat) (us : List Nat) (w : World) (hr : rightB N us = false) (hW : Words w A len us) :
    Calls Tryd.prog 14 #[.agg #[.int .i64 N, .slice A len c]] w fun e w' => e = .returned (.tuple #[.int .i64 0, .int .i64 1]) ∧ Below w.heap.size w w' := by
  have HW := Lib.hid (((hW.alloc (.cells #[.int .i64 N, .slice A len c] 27)).alloc (.cells #[.int .i64 0] 3)).alloc (.cells #[.int .i64 0] 30))
  have HR := Lib.hid (right_any N A len c us _ HW.out)
  rw [hr] at HR
  have Q := Lib.hid (((Box.new w 27 #[.int .i64 N, .slice A len c]).alloc (.cells #[.int .i64 0] 3)).alloc (.cells #[.int .i64 0] 30))
  have q1 := (Box.new (w.alloc (.cells #[.int .i64 N, .slice A len c] 27)) 3 #[.int .i64 0]).alloc (.cells #[.int .i64 0] 30)
  have q2 := Box.new ((w.alloc (.cells #[.int .i64 N, .slice A len c] 27)).alloc (.cells #[.int .i64 0] 3)) 30 #[.int .i64 0]
  simp only [World.size_alloc] at q1 q2
  have Q1 := Lib.hid q1
  have Q2 := Lib.hid q2
  have HB := Lib.hid (show Below w.heap.size w (((w.alloc (.cells #[.int .i64 N, .slice A len c] 27)).alloc (.cells #[.int .i64 0] 3)).alloc (.cells #[.int .i64 0] 30)) from (((Below.refl _ _).alloc (Nat.le_refl _) _).alloc (by simp) _).alloc (by simp; omega) _)
  obtain ⟨r0, r1, -, -⟩ := Q.out.two
  clear q1 q2 hW hr
  go_enter Tryd.func14, Tryd.ntmps14
  go_wp2_with fail
  refine HR.out.mono ?_
  rintro e w1 ⟨rfl, hb⟩
  have B := Lib.hid (chain HB.out hb)
  have Q1 := Lib.hid (Q1.out.keep hb)
  have Q2 := Lib.hid (Q2.out.keep hb)
  clear hb r0 r1 HR HB
  have c1 := Q1.out.cell 0
  have c2 := Q2.out.cell 0
  have f1 := Q1.out.free 0
  have f2 := Q2.out.free 0
  simp at c1 c2
  have s1 := (Q1.out.put 0 (.int .i64 0)).cell 0
  go_wp2
  have P1 := ((Q1.out.put 0 (.int .i64 0)).far (p := ⟨w.heap.size + 1 + 1, 0, none⟩) (by simp) (.int .i64 1)).cell 0
  have P2 := ((Q2.out.far (p := ⟨w.heap.size + 1, 0, none⟩) (by simp) (.int .i64 0)).put 0 (.int .i64 1)).cell 0
  simp at P1 P2
  refine bodyPost_ret (v := .tuple #[.int .i64 0, .int .i64 1]) (by simp [results, Tryd.results14, go_sem, P1, P2]) rfl ⟨rfl, ?_⟩
  exact (B.out.setCell (p := ⟨w.heap.size + 1, 0, none⟩) (by simp) _).setCell (p := ⟨w.heap.size + 1 + 1, 0, none⟩) (by simp; omega) _
set_option maxRecDepth 100000 in
set_option maxHeartbeats 2000000 in
theorem first_in (N : Int) (A : Option Addr) (len c : Nat) (us : List Nat) (w : World) (hr : rightB N us = true) (hW : Words w A len us) (hT : TabAt w 0) :
    CallsIn Fence.wide 5 Tryd.prog 14 #[.agg #[.int .i64 N, .slice A len c]] w fun e w' => e = .returned (.tuple #[.int .i64 (firstV (plcN us (64 * len))), .int .i64 (firstE (plcN us (64 * len)))]) ∧ Below w.heap.size w w' := by
  have hl8 := rightB_len8 hr hW.1
  have hal : Below w.heap.size w (((w.alloc (.cells #[.int .i64 N, .slice A len c] 27)).alloc (.cells #[.int .i64 0] 3)).alloc (.cells #[.int .i64 0] 30)) := (((Below.refl _ _).alloc (Nat.le_refl _) _).alloc (by simp) _).alloc (by simp; omega) _
  have HW := Lib.hid (hW.below hal)
  have HT := Lib.hid (hT.below hal)
  have HB := Lib.hid hal
  have HR := Lib.hid (right_any N A len c us _ HW.out)
  rw [hr] at HR
  have Q := Lib.hid (((Box.new w 27 #[.int .i64 N, .slice A len c]).alloc (.cells #[.int .i64 0] 3)).alloc (.cells #[.int .i64 0] 30))
  have q1 := (Box.new (w.alloc (.cells #[.int .i64 N, .slice A len c] 27)) 3 #[.int .i64 0]).alloc (.cells #[.int .i64 0] 30)
  have q2 := Box.new ((w.alloc (.cells #[.int .i64 N, .slice A len c] 27)).alloc (.cells #[.int .i64 0] 3)) 30 #[.int .i64 0]
  simp only [World.size_alloc] at q1 q2
  have Q1 := Lib.hid q1
  have Q2 := Lib.hid q2
  have hT0 := hT.1
  have HLt := Lib.hid (show ∀ b off, 0 < len → A = some ⟨b, off, none⟩ → b < w.heap.size from fun b off h e => by
    obtain ⟨b', off', e', hlt, _⟩ := hW.2.2 h
    rw [e] at e'; injection e' with e'; injection e' with e1 _; omega)
  obtain ⟨r0, r1, -, -⟩ := Q.out.two
  clear q1 q2 hW hr hT hal
  refine callsIn_of_wp_marks Tryd.func14 rfl trivial ?_ rfl
  simp only [Tryd.ntmps14, List.size_toArray, List.length_cons, List.length_nil, Nat.reduceAdd, Nat.reduceSub, Array.replicate_succ, Array.replicate_zero, List.push_toArray, List.append_toArray, List.nil_append, List.cons_append]
  gi_wp2
  refine ⟨trivial, (callsIn_wide.2 HR.out).mono ?_⟩
  rintro e x1 ⟨rfl, hb⟩
  have B := Lib.hid (chain HB.out hb)
  have Q1 := Lib.hid (Q1.out.keep hb)
  have Q2 := Lib.hid (Q2.out.keep hb)
  have Q := Lib.hid (Q.out.keep hb)
  have HW1 := Lib.hid (HW.out.below hb)
  have HT1 := Lib.hid (HT.out.below hb)
  clear hb r0 r1 HR HB
  obtain ⟨r0, r1, -, -⟩ := Q.out.two
  gi_wp2
  refine ⟨trivial, (callsIn_wide.2 (onesIt_any N A len c _)).mono ?_⟩
  rintro e w1 ⟨B0, rfl, bB, hge, hb⟩
  have hB0 := chain B.out hb
  have b1 : Boxed w1 (w.heap.size + 1) 3 (.int .i64 0) := Q1.out.keep hb
  have b2 : Boxed w1 (w.heap.size + 1 + 1) 30 (.int .i64 0) := Q2.out.keep hb
  have hw1 := HW1.out.below hb
  have ht1 := HT1.out.below hb
  have l1 := b1.lt
  have l2 := b2.lt
  have hx2 : w.heap.size + 1 + 1 < x1.heap.size := Q2.out.lt
  have lB := bB.lt
  have hsz1 := hB0.size
  clear hb r0 r1 Q Q1 Q2 HW HT
  gi_wp2
  refine wpIn_rangeFunc_ownG rfl (by omega) (gf := 50) (lb := #[.pointer (some ⟨B0, 0, none⟩)]) rfl trivial (enters_of Tryd.func50 (by kernel_rfl) rfl)
    (ones_stops (5 - 1) (by omega) B0 N A len c us (by omega) (fun b => b < w1.heap.size ∧ b ≠ w.heap.size + 1 ∧ b ≠ w.heap.size + 1 + 1) ⟨by omega, by omega, by omega⟩ ⟨lB, by omega, by omega⟩ (fun b off h e => by have := HLt.out b off h e; omega) w1 bB hw1 ht1) KpS.trans (kpS_put (fun b h => h.1)) (Below.refl _ _) (fun _ => rfl)
    (fun pre W => (pre = [] ∧ Boxed W (w.heap.size + 1) 3 (.int .i64 0) ∧ Boxed W (w.heap.size + 1 + 1) 30 (.int .i64 0)) ∧ Below w.heap.size w W ∧ w1.heap.size ≤ W.heap.size)
    (fun cd pre W => (cd = .ret ∧ Boxed W (w.heap.size + 1) 3 (.int .i64 (firstV pre)) ∧ Boxed W (w.heap.size + 1 + 1) 30 (.int .i64 0)) ∧ Below w.heap.size w W ∧ w1.heap.size ≤ W.heap.size)
    ?hI ?hIx ⟨⟨rfl, b1, b2⟩, hB0, Nat.le_refl _⟩
    (fun x => { tmps := #[.agg #[.int .i64 N, .slice A len c], .pointer (some ⟨w.heap.size, 0, none⟩), .pointer (some ⟨w.heap.size + 1, 0, none⟩), .pointer (some ⟨w.heap.size + 1 + 1, 0, none⟩), .int .i64 (x : Int), .agg #[.int .i64 N, .slice A len c], .bool true, .bool false, .agg #[.int .i64 N, .slice A len c], .func (.func 50) #[] #[.pointer (some ⟨B0, 0, none⟩)], .int .i64 (x : Int), undef], defers := [] }) ?assign ?body ?done ?stop
  case hI =>
    refine OwnFrom.and ?_ (OwnFrom.and (ownFrom_below (Nat.le_refl _) (by omega)) (fun _ _ _ _ hs hg _ => Nat.le_trans hs hg.size))
    exact OwnFrom.and (fun _ _ _ _ hs _ _ => hs) (OwnFrom.and (Own.from (boxed_own (w.heap.size + 1) 3 (fun _ : List Nat => .int .i64 0)) _) (Own.from (boxed_own (w.heap.size + 1 + 1) 30 (fun _ : List Nat => .int .i64 0)) _))
  case hIx =>
    intro cd
    refine OwnFrom.and ?_ (OwnFrom.and (ownFrom_below (Nat.le_refl _) (by omega)) (fun _ _ _ _ hs hg _ => Nat.le_trans hs hg.size))
    exact OwnFrom.and (fun _ _ _ _ hs _ _ => hs) (OwnFrom.and (Own.from (boxed_own (w.heap.size + 1) 3 (fun pre : List Nat => .int .i64 (firstV pre))) _) (Own.from (boxed_own (w.heap.size + 1 + 1) 30 (fun _ : List Nat => .int .i64 0)) _))
  case assign =>
    intro l x W K hK
    gi_wp2
    exact hK
  case body =>
    rintro l pre x W ⟨⟨rfl, h1, h2⟩, hB, hsz⟩ hlt
    have c1 := h1.cell
    have c2 := h2.cell
    have f1 := h1.frozen
    have f2 := h2.frozen
    have P1 : Boxed ((W.setCell ⟨w.heap.size + 1, 0, none⟩ (.int .i64 (x : Int))).setCell ⟨w.heap.size + 1 + 1, 0, none⟩ (.int .i64 0)) (w.heap.size + 1) 3 (.int .i64 (x : Int)) := (h1.set _).other (B' := w.heap.size + 1 + 1) (by omega) _
    have P2 : Boxed ((W.setCell ⟨w.heap.size + 1, 0, none⟩ (.int .i64 (x : Int))).setCell ⟨w.heap.size + 1 + 1, 0, none⟩ (.int .i64 0)) (w.heap.size + 1 + 1) 30 (.int .i64 0) := (h2.other (B' := w.heap.size + 1) (by omega) _).set _
    have hko : KeepsOthers W ((W.setCell ⟨w.heap.size + 1, 0, none⟩ (.int .i64 (x : Int))).setCell ⟨w.heap.size + 1 + 1, 0, none⟩ (.int .i64 0)) := (KeepsOthers.setCell _ _ _).trans (KeepsOthers.setCell _ _ _)
    have PB := (hB.setCell (p := ⟨w.heap.size + 1, 0, none⟩) (by simp) (.int .i64 (x : Int))).setCell (p := ⟨w.heap.size + 1 + 1, 0, none⟩) (by simp; omega) (.int .i64 0)
    have HP := Lib.hid (And.intro P1 (And.intro P2 (And.intro hko PB)))
    clear P1 P2 hko PB
    gi_wp2
    exact ⟨HP.out.2.2.1.from _, ⟨rfl, HP.out.1, HP.out.2.1⟩, HP.out.2.2.2, Nat.le_trans hsz HP.out.2.2.1.size⟩
  case done =>
    rintro D ys W hD rfl ⟨⟨hys, h1, h2⟩, hB, hsz⟩ hK
    have c1 := h1.cell
    have c2 := h2.cell
    have f1 := h1.frozen
    have f2 := h2.frozen
    have hD1 : D ≠ w.heap.size + 1 := by omega
    have hD2 : D ≠ w.heap.size + 1 + 1 := by omega
    have HK := Lib.hid hK
    have HYS := Lib.hid hys
    clear hK hys
    gi_wp2
    have hK2 : ((W.setCell ⟨w.heap.size + 1, 0, none⟩ (.int .i64 0)).setCell ⟨w.heap.size + 1 + 1, 0, none⟩ (.int .i64 4)).heap[D]? = some (.deferred (some [])) := by
      rw [heap_setCell_other _ ⟨w.heap.size + 1 + 1, 0, none⟩ D _ hD2, heap_setCell_other _ ⟨w.heap.size + 1, 0, none⟩ D _ hD1]; exact HK.out
    refine ⟨by simp, .inl ⟨_, _, rfl, run_takeDeferred hK2, ?_⟩⟩
    have P1 : Boxed _ (w.heap.size + 1) 3 (.int .i64 0) := boxed_putObj (o := .deferred none) (show D ≠ _ from hD1) ((h1.set (.int .i64 0)).other (B' := w.heap.size + 1 + 1) (by omega) (.int .i64 4))
    have P2 : Boxed _ (w.heap.size + 1 + 1) 30 (.int .i64 4) := boxed_putObj (o := .deferred none) (show D ≠ _ from hD2) ((h2.other (B' := w.heap.size + 1) (by omega) (.int .i64 0)).set (.int .i64 4))
    have d1 := P1.cell
    have d2 := P2.cell
    refine ⟨.tuple #[.int .i64 0, .int .i64 4], by simp [results, Tryd.results14, go_sem, d1, d2], by rw [HYS.out]; rfl, ?_⟩
    have PB := (hB.setCell (p := ⟨w.heap.size + 1, 0, none⟩) (by simp) (.int .i64 0)).setCell (p := ⟨w.heap.size + 1 + 1, 0, none⟩) (by simp; omega) (.int .i64 4)
    exact PB.trans (belowK_b (w := w) (Nat.le_refl _) _ D _ _ (by omega) hK2 rfl rfl)
  case stop =>
    rintro D cd pre W hD hpre ⟨⟨rfl, h1, h2⟩, hB, hsz⟩ hK
    have HPre := Lib.hid hpre
    clear hpre
    gi_wp2
    refine ⟨by simp, .inl ⟨_, _, rfl, run_takeDeferred hK, ?_⟩⟩
    have P1 : Boxed _ (w.heap.size + 1) 3 (.int .i64 (firstV pre)) := boxed_putObj (o := .deferred none) (show D ≠ _ by omega) h1
    have P2 : Boxed _ (w.heap.size + 1 + 1) 30 (.int .i64 0) := boxed_putObj (o := .deferred none) (show D ≠ _ by omega) h2
    have d1 := P1.cell
    have d2 := P2.cell
    obtain ⟨⟨t, ht⟩, hne⟩ := HPre.out
    refine ⟨.tuple #[.int .i64 (firstV pre), .int .i64 0], by simp [results, Tryd.results14, go_sem, d1, d2], ?_, hB.trans (belowK_b (w := w) (Nat.le_refl _) _ D _ _ (by omega) hK rfl rfl)⟩
    rw [← ht]
    cases pre with
    | nil => exact absurd rfl hne
    | cons x r => rfl
theorem first_yes (N : Int) (A : Option Addr) (len c : Nat) (us : List Nat) (w : World) (hr : rightB N us = true) (hW : Words w A len us) (hT : TabAt w 0) :
    Calls Tryd.prog 14 #[.agg #[.int .i64 N, .slice A len c]] w fun e w' => e = .returned (.tuple #[.int .i64 (firstV (plcN us (64 * len))), .int .i64 (firstE (plcN us (64 * len)))]) ∧ Below w.heap.size w w' := callsIn_wide.1 (first_in N A len c us w hr hW hT)
end
section
/- The reference's Places: where a row's bits are 1. -/
set_option linter.unusedVariables false
set_option linter.unusedSimpArgs false
open Go.RowKit
/-- A slice of numbers of its own is returned. -/
def PlcRet (ys : List Nat) (w : World) (e : Ending) (w' : World) : Prop := ∃ v, e = .returned v ∧ w'.ownsRow w.heap.size 3 1 v ys.length (ys.map plcV) ∧ Below w.heap.size w w'
end
section
/- Contract of the reference's Numbers: are two rows the same? -/
set_option linter.unusedVariables false
set_option linter.unusedSimpArgs false
open Go.RowKit
theorem take_eq_succ {xs ys : List Int} {i : Nat} (ha : i < xs.length) (hb : i < ys.length) (h : xs.take i = ys.take i) (e : xs.getD i 0 = ys.getD i 0) : xs.take (i + 1) = ys.take (i + 1) := by
  rw [List.take_succ_eq_append_getElem ha, List.take_succ_eq_append_getElem hb, h]
  have h1 : xs.getD i 0 = xs[i] := by simp [List.getD, ha]
  have h2 : ys.getD i 0 = ys[i] := by simp [List.getD, hb]
  rw [h1, h2] at e
  rw [e]
/-- Are two rows of numbers the same? -/
def sameZ (xs ys : List Int) : Bool := decide (xs = ys)
set_option maxHeartbeats 1000000 in
theorem refNumbers_any (A B : Option Addr) (la ca lb cb : Nat) (xs ys : List Int) (w : World) (ha : Ints w A la xs) (hb : Ints w B lb ys) (h1 : la ≤ 100000) (h2 : lb ≤ 100000) :
    Calls Tryd.prog 12 #[.slice A la ca, .slice B lb cb] w fun e w' => e = .returned (.bool (sameZ xs ys)) ∧ Below w.heap.size w w' := by
  have HA := Lib.hid ha
  have HB := Lib.hid hb
  clear ha hb
  by_cases hl : la = lb
  · subst hl
    have t0 : (((la : Nat) : Int) != ((la : Nat) : Int)) = false := by simp
    rcases Nat.eq_zero_or_pos la with h0 | hp
    · subst h0
      have HS := Lib.hid (show sameZ xs ys = true from by
        have e1 := List.eq_nil_of_length_eq_zero HA.out.1
        have e2 := List.eq_nil_of_length_eq_zero HB.out.1
        rw [e1, e2]; rfl)
      have hlt : ¬ (0 : Int) < 0 := by omega
      go_enter Tryd.func12, Tryd.ntmps12
      go_wp2_with fail
      go_loop [13] (fun i => i = .int .i64 0) (fun i => 0)
      case atStart => rfl
      case round =>
        subst hrel
        go_wp2
        go_ret
        exact ⟨by rw [HS.out]; rfl, Below.refl _ _⟩
    · obtain ⟨ba, oa, rfl, hba, hca⟩ := HA.out.2.2 hp
      obtain ⟨bb, ob, rfl, hbb, hcb⟩ := HB.out.2.2 hp
      have HCA := Lib.hid hca
      have HCB := Lib.hid hcb
      have HLA := Lib.hid HA.out.1
      have HLB := Lib.hid HB.out.1
      clear hca hcb HA HB
      go_enter Tryd.func12, Tryd.ntmps12
      go_wp2_with fail
      go_loopw [13] (fun i wr => ∃ j : Nat, j ≤ la ∧ i = .int .i64 j ∧ Hid (xs.take j = ys.take j) ∧ Hid (Below w.heap.size w wr)) (fun i _ => la - (intOf i).toNat)
      case atStart => exact ⟨0, by omega, rfl, Lib.hid rfl, Lib.hid (Below.refl _ _)⟩
      case round =>
        obtain ⟨j, hj, rfl, HE, HBL⟩ := hrel
        by_cases hjl : j < la
        · have hjl' : (j : Int) < la := by omega
          have c1 := (HBL.out.cell (p := ⟨ba, oa + j, none⟩) hba).trans (HCA.out j hjl)
          have c2 := (HBL.out.cell (p := ⟨bb, ob + j, none⟩) hbb).trans (HCB.out j hjl)
          have HST := Lib.hid (fun e => take_eq_succ (xs := xs) (ys := ys) (i := j) (by rw [HLA.out]; exact hjl) (by rw [HLB.out]; exact hjl) HE.out e)
          have HNE := Lib.hid (show xs.getD j 0 ≠ ys.getD j 0 → sameZ xs ys = false from fun h => decide_eq_false (fun e => h (by rw [e])))
          generalize xs.getD j 0 = x at *
          generalize ys.getD j 0 = y at *
          by_cases hxy : x = y
          · have t1 : (x != y) = false := by simp [hxy]
            have HS2 := Lib.hid (HST.out hxy)
            clear hxy
            go_wp2
            go_region
            go_wp2
            go_roundw
            case rel => exact ⟨j + 1, by omega, by go_num, HS2, Lib.hid HBL.out.drew⟩
            case measure => simp [intOf] <;> omega
          · have t1 : (x != y) = true := by simp [hxy]
            have HR := Lib.hid (HNE.out hxy)
            clear hxy
            go_wp2
            go_region
            go_wp2
            go_ret
            exact ⟨by rw [HR.out]; rfl, HBL.out.drew⟩
        · obtain rfl : j = la := by omega
          have hjl' : ¬ (j : Int) < j := by omega
          have HR := Lib.hid (show sameZ xs ys = true from decide_eq_true (by
            have := HE.out
            rw [List.take_of_length_le (Nat.le_of_eq HLA.out), List.take_of_length_le (Nat.le_of_eq HLB.out)] at this
            exact this))
          go_wp2
          go_ret
          exact ⟨by rw [HR.out]; rfl, HBL.out⟩
  · have t0 : (((la : Nat) : Int) != ((lb : Nat) : Int)) = true := by rw [bne_iff_ne]; omega
    have HS := Lib.hid (show sameZ xs ys = false from decide_eq_false (fun e => hl (by rw [← HA.out.1, ← HB.out.1, e])))
    go_enter Tryd.func12, Tryd.ntmps12
    go_wp2_with fail
    go_ret
    exact ⟨by rw [HS.out]; rfl, Below.refl _ _⟩
end
section
/- BitrowTells: the walk. -/
set_option linter.unusedVariables false
set_option linter.unusedSimpArgs false
open Go.RowKit
theorem plc_right (N : Nat) (us : List Nat) (h : rightB (N : Int) us = true) : plcN us (64 * us.length) = plcN us N := by
  have hl := h
  simp only [rightB, Bool.and_eq_true, beq_iff_eq, Int.toNat_natCast] at hl
  have h1 := hl.1.2
  have hlm := hl.1.1
  have hle : N ≤ 64 * us.length := by rw [h1]; unfold nw; omega
  obtain ⟨d, hd⟩ := Nat.le.dest hle
  unfold plcN
  rw [← hd, List.range_add, List.filter_append]
  have : ((List.range d).map fun x => N + x).filter (fun p => bitAt us p == 1) = [] := by
    rw [List.filter_eq_nil_iff]
    intro x hx
    obtain ⟨y, hy, rfl⟩ := List.mem_map.1 hx
    have hy : y < d := by simpa using hy
    intro hb
    have hb : bitAt us (N + y) = 1 := by simpa using hb
    have := not_right_of_bit N us.length (N + y) us hlm rfl h1 (by omega) (by omega) hb
    rw [this] at h; cases h
  rw [this, List.append_nil]
theorem plc_no (N : Int) (A : Option Addr) (len c : Nat) (us : List Nat) (w : World) (hr : rightB N us = false) (hW : Words w A len us) :
    Calls Tryd.prog 56 #[.agg #[.int .i64 N, .slice A len c]] w fun e w' => e = .returned (.tuple #[.slice none 0 0, .int .i64 1]) ∧ Below w.heap.size w w' := by
  have Q := Lib.hid (Box.new w 27 #[.int .i64 N, .slice A len c])
  have HB := Lib.hid (show Below w.heap.size w (w.alloc (.cells #[.int .i64 N, .slice A len c] 27)) from (Below.refl _ _).alloc (Nat.le_refl _) _)
  have HR := Lib.hid (right_any N A len c us _ (hW.alloc (.cells #[.int .i64 N, .slice A len c] 27)))
  rw [hr] at HR
  obtain ⟨r0, r1, -, -⟩ := Q.out.two
  clear hW hr
  go_enter Tryd.func56, Tryd.ntmps56
  go_wp2_with fail
  refine HR.out.mono ?_
  rintro e w1 ⟨rfl, hb⟩
  have B := Lib.hid (chain HB.out hb)
  clear hb
  go_wp2
  go_ret2
  exact ⟨rfl, B.out⟩
theorem get_any (n i : Int) (A : Option Addr) (len c : Nat) (us : List Nat) (w : World) (hW : Words w A len us) :
    Calls Tryd.prog 43 #[.agg #[.int .i64 n, .slice A len c], .int .i64 i] w fun e w' => e = .returned (.tuple #[.int .i64 (getV n us i), .int .i64 (getE n us i)]) ∧ Below w.heap.size w w' := by
  unfold getV getE
  cases hr : rightB n us with
  | false => simpa using get_bad n i A len c us w hr hW
  | true =>
    cases hi : (decide (0 ≤ i) && decide (i < n)) with
    | false => simpa using get_far n i A len c us w hr hi hW
    | true =>
      simp only [Bool.and_eq_true, decide_eq_true_eq] at hi
      obtain ⟨m, rfl⟩ := Int.eq_ofNat_of_zero_le hi.1
      obtain ⟨N, rfl⟩ := Int.eq_ofNat_of_zero_le (show 0 ≤ n by omega)
      simpa using get_yes N m A len c us w hr (by omega) hW
end
section
/- Contracts of layer 3: table.sum. -/
set_option linter.unusedVariables false
set_option linter.unusedSimpArgs false
open Go.RowKit
theorem OwnW.put2o {w : World} {A : Option Addr} {l c : Nat} {zs : List Nat} (h : OwnW w A l c zs) {g : Nat} {t : TypeId} {a b : Value} (hb : Box w g t #[a, b]) (hne : 63 ≠ t) (u v : Value) : OwnW ((w.setCell ⟨g, 0, none⟩ u).setCell ⟨g, 1, none⟩ v) A l c zs :=
  (h.far hb hne 0 u).far (hb.put 0 u) hne 1 v
theorem Ints.far2 {w : World} {A : Option Addr} {len : Nat} {zs : List Int} (h : Ints w A len zs) {g : Nat} (hne : ∀ b off, 0 < len → A = some ⟨b, off, none⟩ → b ≠ g) (u v : Value) : Ints ((w.setCell ⟨g, 0, none⟩ u).setCell ⟨g, 1, none⟩ v) A len zs := by
  refine ⟨h.1, h.2.1, fun hp => ?_⟩
  obtain ⟨b, off, rfl, hlt, hc⟩ := h.2.2 hp
  have hn := hne b off hp rfl
  refine ⟨b, off, rfl, by simpa [World.setCell] using hlt, fun j hj => ?_⟩
  rw [World.cell?_setCell_other _ _ _ _ (by intro e; injection e; omega), World.cell?_setCell_other _ _ _ _ (by intro e; injection e; omega)]
  exact hc j hj
end
section
/- Contracts of layer 3: rowsOf, Mul. -/
set_option linter.unusedVariables false
set_option linter.unusedSimpArgs false
open Go.RowKit
theorem Box.one {w : World} {g : Nat} {t : TypeId} {a : Value} (h : Box w g t #[a]) : w.cell? ⟨g, 0, none⟩ = some a := h.cell 0
end
section
/- Contracts of layer 3: Mul; the reference's bit. -/
set_option linter.unusedVariables false
set_option linter.unusedSimpArgs false
open Go.RowKit
theorem right_has64 {N : Nat} {us : List Nat} (h : rightB N us = true) : N ≤ 64 * us.length := by
  have := right_len_eq h
  rw [Int.toNat_natCast] at this
  unfold nw at this; omega
def mulB (N : Int) (ms : List (Int × List Nat)) (M : Int) (ks : List (Int × List Nat)) : Bool := rightM N ms && (rightM M ks && N == (ks.length : Int))
def mulN (N : Int) (ms : List (Int × List Nat)) (M : Int) (ks : List (Int × List Nat)) : Int := if mulB N ms M ks then M else 0
def mulL (N : Int) (ms : List (Int × List Nat)) (M : Int) (ks : List (Int × List Nat)) : List (Int × List Nat) := if mulB N ms M ks then mulM M.toNat ks ms else []
def mulE (N : Int) (ms : List (Int × List Nat)) (M : Int) (ks : List (Int × List Nat)) : Int := if rightM N ms && rightM M ks then if N == (ks.length : Int) then 0 else 2 else 1
end
section
/- Layer 3's reference: Mul. -/
set_option linter.unusedVariables false
set_option linter.unusedSimpArgs false
open Go.RowKit
end
section
/- Contracts of layer 2: block.allHave, block.put. -/
set_option linter.unusedVariables false
set_option linter.unusedSimpArgs false
open Go.RowKit
/-- Texts in memory: a slice of strings. -/
def Texts (w : World) (A : Option Addr) (len : Nat) (ss : List ByteArray) : Prop :=
  ss.length = len ∧ (∀ j, (ss.getD j ByteArray.empty).size ≤ maxLen) ∧
    (0 < len → ∃ b off, A = some ⟨b, off, none⟩ ∧ b < w.heap.size ∧ ∀ j, j < len → w.cell? ⟨b, off + j, none⟩ = some (.string (ss.getD j ByteArray.empty)))
theorem Texts.mono {w w' : World} {A : Option Addr} {len : Nat} {ss : List ByteArray} (h : Texts w A len ss) {B : Nat} (hB : w.heap.size ≤ B) (hb : Below B w w') : Texts w' A len ss := by
  refine ⟨h.1, h.2.1, fun hp => ?_⟩
  obtain ⟨b, off, rfl, hlt, hc⟩ := h.2.2 hp
  exact ⟨b, off, rfl, Nat.lt_of_lt_of_le hlt hb.size, fun j hj => (hb.cell (p := ⟨b, off + j, none⟩) (Nat.lt_of_lt_of_le hlt hB)).trans (hc j hj)⟩
theorem Texts.below {w w' : World} {A : Option Addr} {len : Nat} {ss : List ByteArray} (h : Texts w A len ss) (hb : Below w.heap.size w w') : Texts w' A len ss := h.mono (Nat.le_refl _) hb
theorem Texts.nil (w : World) (A : Option Addr) : Texts w A 0 [] := ⟨rfl, by simp [maxLen], fun h => by omega⟩
/-- Have all texts n bytes? -/
def allL (n : Int) (ss : List ByteArray) : Bool := ss.all fun s => (s.size : Int) == n
theorem allL_snoc (n : Int) (ss : List ByteArray) (j : Nat) (h : j < ss.length) : allL n (ss.take (j + 1)) = (allL n (ss.take j) && (((ss.getD j ByteArray.empty).size : Int) == n)) := by
  unfold allL
  rw [List.take_succ_eq_append_getElem h, List.all_append]
  simp [List.getD, h]
theorem allL_not (n : Int) (ss : List ByteArray) (j : Nat) (h : j < ss.length) (hz : ¬ ((ss.getD j ByteArray.empty).size : Int) = n) : allL n ss = false := by
  rw [Bool.eq_false_iff]
  intro ha
  have := List.all_eq_true.1 ha (ss[j]) (List.getElem_mem _)
  exact hz (by simpa [List.getD, h] using this)
theorem allHave_any (n : Int) (A : Option Addr) (l c : Nat) (ss : List ByteArray) (w : World) (ht : Texts w A l ss) (hl : l ≤ maxLen) :
    Calls Tryd.prog 53 #[.int .i64 n, .slice A l c] w fun e w' => e = .returned (.bool (allL n ss)) ∧ w = w' := by
  unfold maxLen at hl
  have hlen := Lib.hid ht.1
  have HT := Lib.hid ht
  clear ht
  go_enter Tryd.func53, Tryd.ntmps53
  go_wp2_with fail
  go_loop [9] (fun i => ∃ k : Nat, k ≤ l ∧ i = .int .i64 k ∧ Hid (allL n (ss.take k) = true)) (fun i => l - (intOf i).toNat)
  case atStart => exact ⟨0, by omega, rfl, Lib.hid (by simp [allL])⟩
  case round =>
    obtain ⟨k, hk, rfl, HN⟩ := hrel
    by_cases hlt : k < l
    · obtain ⟨b, off, rfl, hb, hc⟩ := HT.out.2.2 (by omega)
      have c1 := hc k hlt
      have hm := HT.out.2.1 k
      have HS := Lib.hid (allL_snoc n ss k (by rw [hlen.out]; exact hlt))
      have HNO := Lib.hid (allL_not n ss k (by rw [hlen.out]; exact hlt))
      generalize ss.getD k ByteArray.empty = s at *
      unfold maxLen at hm
      clear hc
      by_cases hz : (s.size : Int) = n
      · have t : ((s.size : Int) != n) = false := by simpa using hz
        have HZ := Lib.hid hz
        clear hz
        go_wp2
        go_round
        case rel => exact ⟨k + 1, by omega, by go_num, Lib.hid (by rw [HS.out, HN.out, HZ.out]; simp)⟩
        case measure => simp [intOf]; omega
      · have t : ((s.size : Int) != n) = true := by simpa using hz
        go_wp2
        go_ret
        exact ⟨by rw [HNO.out hz]; rfl, rfl⟩
    · obtain rfl : k = l := by omega
      have HE := Lib.hid (show allL n ss = true by have := HN.out; rwa [List.take_of_length_le (by rw [hlen.out]; omega)] at this)
      go_wp2
      go_ret
      exact ⟨by rw [HE.out]; rfl, rfl⟩
def mixL (l t : List UInt8) (j : Nat) : List UInt8 := (List.range l.length).map fun i => if i < j then l.getD i 0 ^^^ t.getD i 0 else l.getD i 0
def bxL (l t : List UInt8) : List UInt8 := (List.range l.length).map fun i => l.getD i 0 ^^^ t.getD i 0
theorem mixL_length (l t : List UInt8) (j : Nat) : (mixL l t j).length = l.length := by simp [mixL]
theorem xorL_length (l t : List UInt8) : (bxL l t).length = l.length := by simp [bxL]
theorem mixL_zero (l t : List UInt8) : mixL l t 0 = l := by
  apply List.ext_getElem
  · simp [mixL]
  · intro i h1 h2; simp [mixL, List.getD, h2]
theorem mixL_full (l t : List UInt8) (n : Nat) (h : l.length = n) : mixL l t n = bxL l t := by
  subst h
  apply List.ext_getElem
  · simp [mixL, bxL]
  · intro i h1 h2
    have : i < l.length := by simpa [bxL] using h2
    simp [mixL, bxL, this]
theorem mixL_get (l t : List UInt8) (j : Nat) (h : j < l.length) : (mixL l t j).getD j 0 = l.getD j 0 := by
  simp [mixL, List.getD, h]
theorem mixL_set (l t : List UInt8) (j : Nat) (h : j < l.length) : (mixL l t j).set j (l.getD j 0 ^^^ t.getD j 0) = mixL l t (j + 1) := by
  apply List.ext_getElem
  · simp [mixL]
  · intro i h1 h2
    have hi : i < l.length := by simpa [mixL] using h2
    rw [List.getElem_set]
    by_cases e : j = i
    · subst e; simp [mixL, List.getD, h]
    · rw [if_neg e]
      have e2 : (i < j + 1) = (i < j) := by apply propext; omega
      simp [mixL, e2]
theorem xor_u8 (a b : UInt8) : bits BinOp.xor IntKind.u8 (a.toNat : Int) (b.toNat : Int) = ((a ^^^ b).toNat : Int) := by
  have ha := a.toNat_lt
  have hb := b.toNat_lt
  rw [u8_xor_nat _ _ (by omega) (by omega), UInt8.toNat_xor]
theorem put_any (g n : Nat) (l : List UInt8) (s : ByteArray) (w : World) (hg : Box w g 5 (bytesA l)) (hl : l.length = n) (hs : s.size = n) (hn : n ≤ 1000000) :
    Calls Tryd.prog 55 #[.slice (some ⟨g, 0, none⟩) n n, .string s] w fun e w' => e = .returned (.tuple #[]) ∧ Box w' g 5 (bytesA (bxL l s.data.toList)) ∧ Below g w w' := by
  have HL := Lib.hid hl
  have HS := Lib.hid hs
  have HG := Lib.hid hg
  clear hl hs hg
  go_enter Tryd.func55, Tryd.ntmps55
  go_wp2_with fail
  go_loopw [7] (fun i wr => ∃ j : Nat, j ≤ n ∧ i = .int .i64 j ∧ Box wr g 5 (bytesA (mixL l s.data.toList j)) ∧ Below g w wr)
    (fun i _ => n - (intOf i).toNat)
  case atStart => exact ⟨0, by omega, rfl, by rw [mixL_zero]; exact HG.out, Below.refl _ _⟩
  case round =>
    obtain ⟨j, hj, rfl, R, HB⟩ := hrel
    have R := Lib.hid R
    have HB := Lib.hid HB
    by_cases hlt : j < n
    · have hlj : j < l.length := by rw [HL.out]; exact hlt
      have hsj : j < s.size := by rw [HS.out]; exact hlt
      have cg : wr.cell? ⟨g, j, none⟩ = some (.int .u8 ((l.getD j 0).toNat : Int)) := by
        rw [R.out.cell j, bytesA_get _ j (by rw [mixL_length]; exact hlj), mixL_get l _ j hlj]
      have fg := R.out.free j
      have HE := Lib.hid (show s.data.toList.getD j 0 = s[j] by simp [List.getD, hsj]; rfl)
      have HX := Lib.hid (xor_u8 (l.getD j 0) s[j])
      have HLJ := Lib.hid hlj
      clear hlj
      obtain ⟨a, ha⟩ : ∃ a, a = l.getD j 0 := ⟨_, rfl⟩
      obtain ⟨b, hb⟩ : ∃ b, b = s[j] := ⟨_, rfl⟩
      rw [← ha] at cg HX
      have HA := Lib.hid ha
      have t := xor_u8 a s[j]
      clear ha hb b
      go_wp2
      go_region
      all_goals (
        have P1 := Lib.hid ((R.out.put j (.int .u8 ((a ^^^ s[j]).toNat : Int))).drew)
        have e : (bytesA (mixL l s.data.toList j)).setIfInBounds j (.int .u8 ((a ^^^ s[j]).toNat : Int)) = bytesA (mixL l s.data.toList (j + 1)) := by
          rw [bytesA_set, HA.out, ← HE.out, mixL_set l _ j HLJ.out]
        have E1 := Lib.hid e
        clear e
        have P2 := Lib.hid ((HB.out.setCell (p := ⟨g, j, none⟩) (Nat.le_refl _) (.int .u8 ((a ^^^ s[j]).toNat : Int))).drew)
        go_wp2
        go_roundw
        case rel => exact ⟨j + 1, by omega, by go_num, by have := P1.out; rw [E1.out] at this; simpa only [UInt8.toNat_xor] using this, by simpa only [UInt8.toNat_xor] using P2.out⟩
        case measure => simp [intOf]; omega)
    · obtain rfl : j = n := by omega
      go_wp2
      go_end0
      exact ⟨rfl, by have := R.out; rwa [mixL_full l _ _ HL.out] at this, HB.out⟩
end
section
/- Contract of block.Sum. -/
set_option linter.unusedVariables false
set_option linter.unusedSimpArgs false
open Go.RowKit
/-- The xor of all texts, byte by byte, from n bytes 0 on. -/
def sumL (n : Nat) (ss : List ByteArray) : List UInt8 := ss.foldl (fun acc s => bxL acc s.data.toList) (List.replicate n 0)
theorem foldl_xorL_length (ss : List ByteArray) (l : List UInt8) : (ss.foldl (fun acc s => bxL acc s.data.toList) l).length = l.length := by
  induction ss generalizing l with
  | nil => rfl
  | cons s ss ih => rw [List.foldl_cons, ih, xorL_length]
theorem sumL_length (n : Nat) (ss : List ByteArray) : (sumL n ss).length = n := by simp [sumL, foldl_xorL_length]
theorem xorL_zero (n : Nat) (s : ByteArray) (h : s.size = n) : bxL (List.replicate n 0) s.data.toList = s.data.toList := by
  subst h
  apply List.ext_getElem
  · simp [bxL]
  · intro i h1 h2
    have : i < s.size := by simpa using h2
    simp [bxL, List.getD, this, List.getElem?_replicate]
theorem sumL_one (n : Nat) (ss : List ByteArray) (h : 0 < ss.length) (hs : (ss.getD 0 ByteArray.empty).size = n) : sumL n (ss.take 1) = (ss.getD 0 ByteArray.empty).data.toList := by
  cases ss with
  | nil => simp at h
  | cons s r => simp only [List.take_succ_cons, List.take_zero, sumL, List.foldl_cons, List.foldl_nil]; simp at hs; rw [xorL_zero n s hs]; simp
theorem sumL_snoc (n : Nat) (ss : List ByteArray) (j : Nat) (h : j < ss.length) : bxL (sumL n (ss.take j)) (ss.getD j ByteArray.empty).data.toList = sumL n (ss.take (j + 1)) := by
  unfold sumL
  rw [List.take_succ_eq_append_getElem h, List.foldl_append]
  simp [List.getD, h]
theorem allL_at {n : Int} {ss : List ByteArray} (h : allL n ss = true) (j : Nat) (hj : j < ss.length) : ((ss.getD j ByteArray.empty).size : Int) = n := by
  have := List.all_eq_true.1 h (ss[j]) (List.getElem_mem _)
  simpa [List.getD, hj] using this
theorem sum_size (n : Int) (A : Option Addr) (l c : Nat) (h : smb n = false) (w : World) : Calls Tryd.prog 34 #[.int .i64 n, .slice A l c] w fun e w' => e = .returned (.tuple #[.string ⟨#[]⟩, .int .i64 2]) ∧ Below w.heap.size w w' := by
  have H := Lib.hid (sizeMayBe_any n)
  go_enter Tryd.func34, Tryd.ntmps34
  go_wp2_with fail
  refine (H.out _).mono ?_
  rintro e w1 ⟨rfl, rfl⟩
  go_wp2_with fail
  go_ret2
  exact ⟨rfl, Below.refl _ _⟩
theorem sum_have (n : Int) (A : Option Addr) (l c : Nat) (ss : List ByteArray) (w : World) (ht : Texts w A l ss) (hl : l ≤ maxLen) (h : smb n = true) (h2 : allL n ss = false) : Calls Tryd.prog 34 #[.int .i64 n, .slice A l c] w fun e w' => e = .returned (.tuple #[.string ⟨#[]⟩, .int .i64 2]) ∧ Below w.heap.size w w' := by
  have H := Lib.hid (sizeMayBe_any n)
  have H2 := Lib.hid (allHave_any n A l c ss w ht hl)
  clear ht
  go_enter Tryd.func34, Tryd.ntmps34
  go_wp2_with fail
  refine (H.out _).mono ?_
  rintro e w1 ⟨rfl, rfl⟩
  go_wp2_with fail
  refine H2.out.mono ?_
  rintro e w1 ⟨rfl, rfl⟩
  go_wp2_with fail
  go_ret2
  exact ⟨rfl, Below.refl _ _⟩
theorem sum_many (n : Int) (A : Option Addr) (l c : Nat) (ss : List ByteArray) (w : World) (ht : Texts w A l ss) (hl : l ≤ maxLen) (h : smb n = true) (h2 : allL n ss = true) (h3 : 64 < l) : Calls Tryd.prog 34 #[.int .i64 n, .slice A l c] w fun e w' => e = .returned (.tuple #[.string ⟨#[]⟩, .int .i64 2]) ∧ Below w.heap.size w w' := by
  have H := Lib.hid (sizeMayBe_any n)
  have H2 := Lib.hid (allHave_any n A l c ss w ht hl)
  clear ht
  unfold maxLen at hl
  have g : (64 : Int) < l := by omega
  go_enter Tryd.func34, Tryd.ntmps34
  go_wp2_with fail
  refine (H.out _).mono ?_
  rintro e w1 ⟨rfl, rfl⟩
  go_wp2_with fail
  refine H2.out.mono ?_
  rintro e w1 ⟨rfl, rfl⟩
  go_wp2_with fail
  go_ret2
  exact ⟨rfl, Below.refl _ _⟩
theorem sum_none (n : Nat) (A : Option Addr) (c : Nat) (w : World) (h : smb n = true) : Calls Tryd.prog 34 #[.int .i64 n, .slice A 0 c] w fun e w' => e = .returned (.tuple #[.string ⟨(sumL n []).toArray⟩, .int .i64 0]) ∧ Below w.heap.size w w' := by
  have H := Lib.hid (sizeMayBe_any n)
  have H2 := Lib.hid (allHave_any n A 0 c [] w (Texts.nil w A) (Nat.zero_le _))
  have t : allL n [] = true := rfl
  go_enter Tryd.func34, Tryd.ntmps34
  go_wp2_with fail
  refine (H.out _).mono ?_
  rintro e w1 ⟨rfl, rfl⟩
  go_wp2_with fail
  refine H2.out.mono ?_
  rintro e w1 ⟨rfl, rfl⟩
  go_wp2_with fail
  refine (zero_yes n h _).mono ?_
  rintro e w1 ⟨rfl, hb⟩
  go_wp2_with fail
  go_ret2
  exact ⟨rfl, hb⟩
theorem copyB {w : World} {g n : Nat} {t : TypeId} {l : List UInt8} {s : ByteArray} (h : Box w g t (bytesA l)) (hl : l.length = n) (hs : s.size = n) :
    (Builtin.copy_ #[54, 9] 3 #[.slice (some ⟨g, 0, none⟩) n n, .string s]).run Tryd.prog w = .ok (goInt s.size) (w.setRow g (bytesA s.data.toList)) := by
  have hsz : (bytesA l).size = n := by simp [bytesA, hl]
  have hi : (Tryd.prog.info? 5).map (·.size) = some 1 := by kernel_rfl
  have hcp := Lib.run_copy_row_string (P := Tryd.prog) w 54 9 3 5 g 0 n n s (bytesA l) t Tryd.underlying54 hi h (by omega) (by omega)
  rw [hcp]
  have : ((bytesA l).toList.take 0 ++ Lib.byteCells s.data.toList ++ (bytesA l).toList.drop (0 + s.size)).toArray = bytesA s.data.toList := by
    rw [List.take_zero, List.nil_append, List.drop_of_length_le (by rw [Array.length_toList]; omega), List.append_nil]
    rfl
  rw [this]
set_option maxRecDepth 100000 in
set_option maxHeartbeats 1000000 in
theorem sum_some (n : Nat) (A : Option Addr) (l c : Nat) (ss : List ByteArray) (w : World) (ht : Texts w A l ss) (h : smb n = true) (h2 : allL n ss = true) (h3 : l ≤ 64) (h0 : 0 < l) (hlc : l ≤ c) (hcm : c ≤ maxLen) :
    Calls Tryd.prog 34 #[.int .i64 n, .slice A l c] w fun e w' => e = .returned (.tuple #[.string ⟨(sumL n ss).toArray⟩, .int .i64 0]) ∧ Below w.heap.size w w' := by
  have H := Lib.hid (sizeMayBe_any n)
  have H2 := Lib.hid (allHave_any n A l c ss w ht (by unfold maxLen; omega))
  have HL := Lib.hid ht.1
  have HA := Lib.hid h2
  have hn := (smb_iff n).1 h
  obtain ⟨b, off, rfl, hb, hc⟩ := ht.2.2 h0
  have HC := Lib.hid hc
  have hs0 : (ss.getD 0 ByteArray.empty).size = n := by have := allL_at h2 0 (by rw [ht.1]; exact h0); omega
  have c0 : (w.alloc (.cells (bytesA (List.replicate n 0)) 5)).cell? ⟨b, off, none⟩ = some (.string (ss.getD 0 ByteArray.empty)) :=
    (((Below.refl w.heap.size w).alloc (Nat.le_refl _) _).cell (p := ⟨b, off, none⟩) hb).trans (hc 0 h0)
  have m := makeB_any n (by omega) w
  have bx := Box.new w 5 (bytesA (List.replicate n 0))
  have cp := copyB bx (n := n) (s := ss.getD 0 ByteArray.empty) (by simp) hs0
  have HY := Lib.hid (show Box ((w.alloc (.cells (bytesA (List.replicate n 0)) 5)).setRow w.heap.size (bytesA (ss.getD 0 ByteArray.empty).data.toList)) w.heap.size 5 (bytesA (sumL n (ss.take 1))) from by
    rw [sumL_one n ss (by rw [ht.1]; exact h0) hs0]; exact setRow_heap _ _ _ _ _ _ bx)
  have HB := Lib.hid (below_setRow ((Below.refl w.heap.size w).alloc (Nat.le_refl _) (.cells (bytesA (List.replicate n 0)) 5)) (Nat.le_refl _) (bytesA (ss.getD 0 ByteArray.empty).data.toList))
  generalize ss.getD 0 ByteArray.empty = s0 at *
  clear ht hc hs0 bx
  unfold maxLen at hcm
  have g1 : ¬ (64 : Int) < l := by omega
  have g2 : ¬ (l : Int) = 0 := by omega
  have g3 : ((l : Int) == 0) = false := by simpa using (show ¬ l = 0 by omega)
  have g4 : (1 : Int) ≤ l := by omega
  have g5 : (0 : Int) < l := by omega
  have g6 : (l : Int) ≤ c := by omega
  by_cases hc1 : c = 1
  · subst hc1
    obtain rfl : l = 1 := by omega
    go_enter Tryd.func34, Tryd.ntmps34
    go_wp2_with fail
    refine (H.out _).mono ?_
    rintro e w1 ⟨rfl, rfl⟩
    go_wp2_with fail
    refine H2.out.mono ?_
    rintro e w1 ⟨rfl, rfl⟩
    go_wp2_with fail
    generalize (w.alloc (.cells (bytesA (List.replicate n 0)) 5)).setRow w.heap.size (bytesA s0.data.toList) = W at *
    clear c0 m cp H H2
    go_loopw [40] (fun i wr => ∃ j : Nat, j ≤ 0 ∧ i = .int .i64 j ∧ Box wr w.heap.size 5 (bytesA (sumL n (ss.take (j + 1)))) ∧ Below w.heap.size w wr)
      (fun i _ => 0 - (intOf i).toNat)
    case atStart => exact ⟨0, by omega, rfl, HY.out, HB.out⟩
    case round =>
      obtain ⟨j, hj, rfl, R, HB⟩ := hrel
      have R := Lib.hid R
      have HB := Lib.hid HB
      obtain rfl : j = 0 := by omega
      have cv := backB R.out (n := n) (sumL_length _ _)
      have HF := Lib.hid (show ss.take (0 + 1) = ss from List.take_of_length_le (by rw [HL.out]; omega))
      go_wp2_with fail
      go_ret2
      exact ⟨by rw [HF.out]; rfl, HB.out⟩
  · have g7 : ¬ c = 1 := hc1
    go_enter Tryd.func34, Tryd.ntmps34
    go_wp2_with fail
    refine (H.out _).mono ?_
    rintro e w1 ⟨rfl, rfl⟩
    go_wp2_with fail
    refine H2.out.mono ?_
    rintro e w1 ⟨rfl, rfl⟩
    go_wp2_with fail
    generalize (w.alloc (.cells (bytesA (List.replicate n 0)) 5)).setRow w.heap.size (bytesA s0.data.toList) = W at *
    clear c0 m cp H H2
    go_loopw [40] (fun i wr => ∃ j : Nat, j ≤ l - 1 ∧ i = .int .i64 j ∧ Box wr w.heap.size 5 (bytesA (sumL n (ss.take (j + 1)))) ∧ Below w.heap.size w wr)
      (fun i _ => l - 1 - (intOf i).toNat)
    case atStart => exact ⟨0, by omega, rfl, HY.out, HB.out⟩
    case round =>
      obtain ⟨j, hj, rfl, R, HB⟩ := hrel
      have R := Lib.hid R
      have HB := Lib.hid HB
      by_cases hlt : j < l - 1
      · have c1 : wr.cell? ⟨b, off + 1 + j, none⟩ = some (.string (ss.getD (j + 1) ByteArray.empty)) :=
          (HB.out.cell (p := ⟨b, off + 1 + j, none⟩) hb).trans (by have := HC.out (j + 1) (by omega); rwa [show off + (j + 1) = off + 1 + j by omega] at this)
        have hz : (ss.getD (j + 1) ByteArray.empty).size = n := by have := allL_at HA.out (j + 1) (by rw [HL.out]; omega); omega
        have HZ := Lib.hid hz
        have HS := Lib.hid (sumL_snoc n ss (j + 1) (by rw [HL.out]; omega))
        clear hz
        generalize ss.getD (j + 1) ByteArray.empty = s at *
        have q1 : (j : Int) < ((l - 1 : Nat) : Int) := by omega
        go_wp2_with fail
        refine (put_any w.heap.size n _ s _ R.out (sumL_length _ _) HZ.out (by omega)).mono ?_
        rintro e w2 ⟨rfl, R2, hb2⟩
        have R2 := Lib.hid R2
        have HB2 := Lib.hid (HB.out.trans hb2)
        clear hb2
        go_wp2_with fail
        go_roundw
        case rel => exact ⟨j + 1, by omega, by go_num, by have := R2.out; rw [HS.out] at this; exact this, HB2.out⟩
        case measure => simp [intOf]; omega
      · obtain rfl : j = l - 1 := by omega
        have cv := backB R.out (n := n) (sumL_length _ _)
        have HF := Lib.hid (show ss.take (l - 1 + 1) = ss from List.take_of_length_le (by rw [HL.out]; omega))
        go_wp2_with fail
        go_ret2
        exact ⟨by rw [HF.out]; rfl, HB.out⟩
end
section
/- Contracts of block.Sum (all cases), block.Xor, the law's alive. -/
set_option linter.unusedVariables false
set_option linter.unusedSimpArgs false
open Go.RowKit
/-- May texts be summed? -/
def okS (n : Int) (ss : List ByteArray) : Bool := smb n && allL n ss && decide (ss.length ≤ 64)
def sumS (n : Int) (ss : List ByteArray) : ByteArray := if okS n ss then ⟨(sumL n.toNat ss).toArray⟩ else ⟨#[]⟩
def sumE (n : Int) (ss : List ByteArray) : Int := if okS n ss then 0 else 2
theorem sum_any (n : Int) (A : Option Addr) (l c : Nat) (ss : List ByteArray) (w : World) (ht : Texts w A l ss) (hlc : l ≤ c) (hcm : c ≤ maxLen) :
    Calls Tryd.prog 34 #[.int .i64 n, .slice A l c] w fun e w' => e = .returned (.tuple #[.string (sumS n ss), .int .i64 (sumE n ss)]) ∧ Below w.heap.size w w' := by
  have hlen := ht.1
  cases h : smb n with
  | false =>
    have e : okS n ss = false := by simp [okS, h]
    unfold sumS sumE; rw [e]
    exact sum_size n A l c h w
  | true =>
    cases h2 : allL n ss with
    | false =>
      have e : okS n ss = false := by simp [okS, h2]
      unfold sumS sumE; rw [e]
      exact sum_have n A l c ss w ht (by omega) h h2
    | true =>
      by_cases h3 : l ≤ 64
      · have e : okS n ss = true := by simp [okS, h, h2, hlen, h3]
        unfold sumS sumE; rw [e]
        obtain ⟨k, rfl⟩ := Int.eq_ofNat_of_zero_le ((smb_iff n).1 h).1
        by_cases h0 : l = 0
        · subst h0
          obtain rfl : ss = [] := List.length_eq_zero_iff.1 hlen
          exact sum_none k A c w h
        · exact sum_some k A l c ss w ht h h2 h3 (by omega) hlc hcm
      · have e : okS n ss = false := by simp [okS, hlen, h3]
        unfold sumS sumE; rw [e]
        exact sum_many n A l c ss w ht (by omega) h h2 (by omega)
theorem pair_texts (w : World) (t : TypeId) (a b : ByteArray) (ha : a.size ≤ maxLen) (hb : b.size ≤ maxLen) : Texts (w.alloc (.cells #[.string a, .string b] t)) (some ⟨w.heap.size, 0, none⟩) 2 [a, b] := by
  have bx := Box.new w t #[.string a, .string b]
  refine ⟨rfl, fun j => ?_, fun _ => ⟨w.heap.size, 0, rfl, by simp, fun j hj => ?_⟩⟩
  · match j with
    | 0 => exact ha
    | 1 => exact hb
    | j + 2 => simp [List.getD, maxLen]
  · rw [Nat.zero_add, bx.cell j]
    match j, hj with
    | 0, _ => rfl
    | 1, _ => rfl
theorem one_texts (w : World) (t : TypeId) (a : ByteArray) (ha : a.size ≤ maxLen) : Texts (w.alloc (.cells #[.string a] t)) (some ⟨w.heap.size, 0, none⟩) 1 [a] := by
  have bx := Box.new w t #[.string a]
  refine ⟨rfl, fun j => ?_, fun _ => ⟨w.heap.size, 0, rfl, by simp, fun j hj => ?_⟩⟩
  · match j with
    | 0 => exact ha
    | j + 1 => simp [List.getD, maxLen]
  · rw [Nat.zero_add, bx.cell j]
    match j, hj with
    | 0, _ => rfl
theorem bxor_any (a b : ByteArray) (ha : a.size ≤ maxLen) (hb : b.size ≤ maxLen) (w : World) :
    Calls Tryd.prog 63 #[.string a, .string b] w fun e w' => e = .returned (.tuple #[.string (sumS a.size [a, b]), .int .i64 (sumE a.size [a, b])]) ∧ Below w.heap.size w w' := by
  have HT := Lib.hid (pair_texts w 9 a b ha hb)
  unfold maxLen at ha hb
  go_enter Tryd.func63, Tryd.ntmps63
  go_wp2_with fail
  refine (sum_any a.size _ 2 2 [a, b] _ HT.out (Nat.le_refl _) (by unfold maxLen; omega)).mono ?_
  rintro e w1 ⟨rfl, hb⟩
  have HB := Lib.hid (chain ((Below.refl w.heap.size w).alloc (Nat.le_refl _) (.cells #[.string a, .string b] 9)) hb)
  clear hb
  go_wp2_with fail
  go_ret2
  exact ⟨rfl, HB.out⟩
end
section
/- Two boxes of rows, stored anew one after the other. No program. -/
set_option linter.unusedVariables false
set_option linter.unusedSimpArgs false
open Go.RowKit
theorem two_rows {x : World} {g1 g2 : Nat} {t : TypeId} {i1 i2 j1 j2 : Int} {S1 S2 T1 T2 : Option Addr} {p1 q1 p2 q2 l1 c1 l2 c2 : Nat}
    (h1 : Box x g1 t #[.int .i64 i1, .slice S1 p1 q1]) (h2 : Box x g2 t #[.int .i64 i2, .slice S2 p2 q2]) (n12 : g1 ≠ g2)
    {w : World} (hb : Below w.heap.size w x) (b1 : w.heap.size ≤ g1) (b2 : w.heap.size ≤ g2)
    {xa bs : List Nat} (u1 : Words x T1 l1 xa) (u2 : Words x T2 l2 bs) :
    let y := (((x.setCell ⟨g1, 0, none⟩ (.int .i64 j1)).setCell ⟨g1, 1, none⟩ (.slice T1 l1 c1)).setCell ⟨g2, 0, none⟩ (.int .i64 j2)).setCell ⟨g2, 1, none⟩ (.slice T2 l2 c2)
    Box y g1 t #[.int .i64 j1, .slice T1 l1 c1] ∧ Box y g2 t #[.int .i64 j2, .slice T2 l2 c2] ∧ Words y T1 l1 xa ∧ Words y T2 l2 bs ∧ Below w.heap.size w y := by
  have k1 : Box ((x.setCell ⟨g1, 0, none⟩ (.int .i64 j1)).setCell ⟨g1, 1, none⟩ (.slice T1 l1 c1)) g1 t #[.int .i64 j1, .slice T1 l1 c1] := h1.put2
  have k2 := (h2.far (p := ⟨g1, 0, none⟩) n12.symm (.int .i64 j1)).far (p := ⟨g1, 1, none⟩) n12.symm (.slice T1 l1 c1)
  have v1 := u1.put2 h1 (.int .i64 j1) (.slice T1 l1 c1)
  have v2 := u2.put2 h1 (.int .i64 j1) (.slice T1 l1 c1)
  exact ⟨(k1.far (p := ⟨g2, 0, none⟩) n12 (.int .i64 j2)).far (p := ⟨g2, 1, none⟩) n12 (.slice T2 l2 c2), k2.put2, v1.put2 k2 _ _, v2.put2 k2 _ _,
    (((hb.setCell (p := ⟨g1, 0, none⟩) b1 _).setCell (p := ⟨g1, 1, none⟩) b1 _).setCell (p := ⟨g2, 0, none⟩) b2 _).setCell (p := ⟨g2, 1, none⟩) b2 _⟩
theorem Ints.drew {w : World} {A : Option Addr} {len : Nat} {zs : List Int} (h : Ints w A len zs) : Ints w.drew A len zs := h
theorem Ints.take {w : World} {A : Option Addr} {len : Nat} {zs : List Int} (h : Ints w A len zs) (k : Nat) (hk : k ≤ len) : Ints w A k (zs.take k) := by
  refine ⟨by simp [h.1]; omega, fun j => ?_, fun hp => ?_⟩
  · by_cases hj : j < k
    · have := h.2.1 j
      simpa [List.getD, List.getElem?_take, hj] using this
    · simp [List.getD, List.getElem?_take, hj]
  · obtain ⟨b, off, rfl, hlt, hc⟩ := h.2.2 (by omega)
    refine ⟨b, off, rfl, hlt, fun j hj => ?_⟩
    rw [hc j (by omega)]
    simp [List.getD, List.getElem?_take, hj]
/-- Ints of a block below keep off boxes above. -/
theorem Ints.put2r {w x : World} {A : Option Addr} {len : Nat} {zs : List Int} {g1 g2 : Nat} {a b c d : Value} (h : Ints x A len zs) (h1 : w.heap.size ≤ g1) (h2 : w.heap.size ≤ g2) (hlow : 0 < len → ∀ p o, A = some ⟨p, o, none⟩ → p < w.heap.size) :
    Ints ((((x.setCell ⟨g1, 0, none⟩ a).setCell ⟨g1, 1, none⟩ b).setCell ⟨g2, 0, none⟩ c).setCell ⟨g2, 1, none⟩ d) A len zs := by
  refine ⟨h.1, h.2.1, fun hp => ?_⟩
  obtain ⟨p, o, rfl, hlt, hc⟩ := h.2.2 hp
  have hl := hlow hp p o rfl
  refine ⟨p, o, rfl, by simpa [World.setCell] using hlt, fun j hj => ?_⟩
  rw [World.cell?_setCell_other _ _ _ _ (by intro e; injection e; omega), World.cell?_setCell_other _ _ _ _ (by intro e; injection e; omega), World.cell?_setCell_other _ _ _ _ (by intro e; injection e; omega), World.cell?_setCell_other _ _ _ _ (by intro e; injection e; omega)]
  exact hc j hj
theorem Ints.low {w : World} {A : Option Addr} {len : Nat} {zs : List Int} (h : Ints w A len zs) : 0 < len → ∀ p o, A = some ⟨p, o, none⟩ → p < w.heap.size := by
  intro hp p o hA
  obtain ⟨p', o', hA', hlt, _⟩ := h.2.2 hp
  rw [hA] at hA'
  injection hA' with hA'
  injection hA' with e1 e2
  omega
end
section
/- Contracts of layer 2's reference: Why, Ones. -/
set_option linter.unusedVariables false
set_option linter.unusedSimpArgs false
open Go.RowKit
def whyE (b : Bool) : Int := if b then 0 else 2
end
section
/- Contract of law 02's few: the first 66 texts, each cut. -/
set_option linter.unusedVariables false
set_option linter.unusedSimpArgs false
open Go.RowKit
theorem string_info : (Tryd.prog.info? 9).map (fun i => (i.zero, i.size, i.bytes)) = some (some (.string ⟨#[]⟩), 1, 16) := by kernel_rfl
theorem own_texts {w : World} {base e n : Nat} {v : Value} {ss : List ByteArray} (h : w.ownsRow base e 1 v n (ss.map Value.string)) (hz : ∀ j, (ss.getD j ByteArray.empty).size ≤ maxLen) : ∃ A c, v = .slice A n c ∧ n ≤ c ∧ c ≤ maxLen ∧ Texts w A n ss := by
  have hl : ss.length = n := by have := h.1; simpa using this
  rcases h.2 with ⟨rfl, h0⟩ | ⟨g, cap, cur, rfl, hb, hh, hn, hm, hs, hx⟩
  · subst h0
    obtain rfl : ss = [] := List.length_eq_zero_iff.1 hl
    exact ⟨none, 0, rfl, Nat.le_refl _, Nat.zero_le _, Texts.nil _ _⟩
  · refine ⟨_, _, rfl, hn, hm, hl, hz, fun hp => ?_⟩
    have hbx : Box w g e cur := hh
    refine ⟨g, 0, rfl, hbx.lt, fun j hj => ?_⟩
    rw [Nat.zero_add, hbx.cell j]
    have e1 : (cur.toList.take (n * 1))[j]? = (ss.map Value.string)[j]? := by rw [hx]
    rw [Nat.mul_one, List.getElem?_take, if_pos hj] at e1
    have hjz : j < ss.length := by omega
    simp only [List.getElem?_map, List.getElem?_eq_getElem hjz, Option.map_some] at e1
    rw [← Array.getElem?_toList, e1]
    simp [List.getD, hjz]
def cuts (ss : List ByteArray) (k : Nat) : List ByteArray := (ss.take k).map cutB
theorem cuts_succ (ss : List ByteArray) (k : Nat) (h : k < ss.length) : cuts ss (k + 1) = cuts ss k ++ [cutB (ss.getD k ByteArray.empty)] := by
  unfold cuts
  rw [List.take_succ_eq_append_getElem h, List.map_append]
  simp [List.getD, h]
theorem cuts_le (ss : List ByteArray) (k j : Nat) : ((cuts ss k).getD j ByteArray.empty).size ≤ maxLen := by
  unfold cuts
  simp only [List.getD, List.getElem?_map]
  cases (ss.take k)[j]? with
  | none => simp [maxLen]
  | some s => have := cutB_size s; simp [maxLen]; omega
/-- A slice of texts is returned. -/
def TextsOut (ss : List ByteArray) (w : World) (e : Ending) (w' : World) : Prop :=
  ∃ A c, e = .returned (.slice A ss.length c) ∧ ss.length ≤ c ∧ c ≤ maxLen ∧ Texts w' A ss.length ss ∧ Below w.heap.size w w'
theorem cuts_all (ss : List ByteArray) (k : Nat) (h : ss.length = k) (h2 : k ≤ 66) : cuts ss k = cuts ss 66 := by
  unfold cuts
  rw [List.take_of_length_le (by omega), List.take_of_length_le (by omega)]
end
section
/- Contract of layer 2's reference: Ones. -/
set_option linter.unusedVariables false
set_option linter.unusedSimpArgs false
open Go.RowKit
theorem int_infoB : (Tryd.prog.info? 3).map (fun i => (i.zero, i.size, i.bytes)) = some (some (.int .i64 0), 1, 8) := by kernel_rfl
def ones (k : Nat) : List Int := List.replicate k 1
theorem ones_succ (k : Nat) : ones (k + 1) = ones k ++ [1] := List.replicate_succ'
theorem ones_lt (k j : Nat) : -9223372036854775808 ≤ (ones k).getD j 0 ∧ (ones k).getD j 0 ≤ 9223372036854775807 := by
  simp only [ones, List.getD, List.getElem?_replicate]
  split <;> simp
/-- A slice of whole numbers is returned. -/
def IntsOut (n : Nat) (zs : List Int) (w : World) (e : Ending) (w' : World) : Prop := ∃ A c, e = .returned (.slice A n c) ∧ Ints w' A n zs ∧ Below w.heap.size w w'
end
section
/- block.Pick: the sum of those blocks that a row names; the reference's Bits. -/
set_option linter.unusedVariables false
set_option linter.unusedSimpArgs false
open Go.RowKit
/-- The texts at some places. -/
def picks (ss : List ByteArray) (ps : List Nat) : List ByteArray := ps.map fun p => ss.getD p ByteArray.empty
theorem picks_snoc (ss : List ByteArray) (ps : List Nat) (i : Nat) (h : i < ps.length) : picks ss (ps.take (i + 1)) = picks ss (ps.take i) ++ [ss.getD (ps.getD i 0) ByteArray.empty] := by
  unfold picks
  rw [List.take_succ_eq_append_getElem h, List.map_append]
  simp [List.getD, h]
theorem picks_le (ss : List ByteArray) (ps : List Nat) (hs : ∀ j, (ss.getD j ByteArray.empty).size ≤ maxLen) (j : Nat) : ((picks ss ps).getD j ByteArray.empty).size ≤ maxLen := by
  by_cases h : j < ps.length
  · have e : (picks ss ps).getD j ByteArray.empty = ss.getD ps[j] ByteArray.empty := by simp [picks, List.getD, h]
    rw [e]; exact hs _
  · have e : (picks ss ps).getD j ByteArray.empty = ByteArray.empty := by simp [picks, List.getD, List.getElem?_eq_none (Nat.le_of_not_lt h)]
    rw [e]; simp [maxLen]
theorem sumE_ok {n : Int} {ss : List ByteArray} (h : okS n ss = true) : sumE n ss = 0 := by simp [sumE, h]
theorem sumE_no {n : Int} {ss : List ByteArray} (h : okS n ss = false) : sumE n ss = 2 := by simp [sumE, h]
theorem okS_at {n : Int} {ss : List ByteArray} (h : okS n ss = true) (j : Nat) (hj : j < ss.length) : ((ss.getD j ByteArray.empty).size : Int) = n := by
  simp only [okS, Bool.and_eq_true] at h
  exact allL_at h.1.2 j hj
theorem okS_picks {n : Int} {ss : List ByteArray} (h : okS n ss = true) (us : List Nat) : okS n (picks ss (plcN us ss.length)) = true := by
  have h' := h
  simp only [okS, Bool.and_eq_true, decide_eq_true_eq] at h' ⊢
  refine ⟨⟨h'.1.1, ?_⟩, ?_⟩
  · unfold allL picks
    rw [List.all_map, List.all_eq_true]
    intro p hp
    have := okS_at h p (plcN_lt us _ hp)
    simpa using this
  · have := plcN_len us ss.length
    simp [picks]; omega
/-- What Pick tells. -/
def PickOut (s : ByteArray) (er : Int) (w : World) (e : Ending) (w' : World) : Prop := e = .returned (.tuple #[.string s, .int .i64 er]) ∧ Below w.heap.size w w'
set_option maxHeartbeats 1000000 in
theorem pick_sum (n : Int) (A : Option Addr) (l c : Nat) (ss : List ByteArray) (N : Int) (B : Option Addr) (k d : Nat) (w : World) (ht : Texts w A l ss) (hlc : l ≤ c) (hcm : c ≤ maxLen) (h : okS n ss = false) :
    Calls Tryd.prog 35 #[.int .i64 n, .slice A l c, .agg #[.int .i64 N, .slice B k d]] w (PickOut ⟨#[]⟩ 2 w) := by
  have HB := Lib.hid (show Below w.heap.size w (w.alloc (.cells #[.int .i64 N, .slice B k d] 27)) from (Below.refl _ _).alloc (Nat.le_refl _) _)
  have HS := Lib.hid (sum_any n A l c ss _ (ht.below HB.out) hlc hcm)
  rw [sumE_no h] at HS
  clear ht h
  go_enter Tryd.func35, Tryd.ntmps35
  go_wp2_with fail
  refine HS.out.mono ?_
  rintro e w1 ⟨rfl, hb⟩
  have B := Lib.hid (chain HB.out hb)
  clear hb
  go_wp2
  go_ret2
  exact ⟨rfl, B.out⟩
set_option maxHeartbeats 1000000 in
theorem pick_row (n : Int) (A : Option Addr) (l c : Nat) (ss : List ByteArray) (N : Int) (B : Option Addr) (k d : Nat) (us : List Nat) (w : World) (ht : Texts w A l ss) (hlc : l ≤ c) (hcm : c ≤ maxLen) (hu : Words w B k us) (h : okS n ss = true) (hr : rightB N us = false) :
    Calls Tryd.prog 35 #[.int .i64 n, .slice A l c, .agg #[.int .i64 N, .slice B k d]] w (PickOut ⟨#[]⟩ 1 w) := by
  have HB := Lib.hid (show Below w.heap.size w (w.alloc (.cells #[.int .i64 N, .slice B k d] 27)) from (Below.refl _ _).alloc (Nat.le_refl _) _)
  have Q := Lib.hid (Box.new w 27 #[.int .i64 N, .slice B k d])
  have HU := Lib.hid (hu.below HB.out)
  have HS := Lib.hid (sum_any n A l c ss _ (ht.below HB.out) hlc hcm)
  rw [sumE_ok h] at HS
  have HR := Lib.hid hr
  clear ht h hu hr
  go_enter Tryd.func35, Tryd.ntmps35
  go_wp2_with fail
  refine HS.out.mono ?_
  rintro e w1 ⟨rfl, hb⟩
  have Bv := Lib.hid (chain HB.out hb)
  have Q := Lib.hid (Q.out.keep hb)
  have HU := Lib.hid (HU.out.below hb)
  clear hb
  obtain ⟨r0, r1, -, -⟩ := Q.out.two
  go_wp2_with fail
  refine (plc_no N B k d us _ HR.out HU.out).mono ?_
  rintro e w2 ⟨rfl, hb⟩
  have Bv := Lib.hid (chain Bv.out hb)
  clear hb
  go_wp2
  go_ret2
  exact ⟨rfl, Bv.out⟩
set_option maxRecDepth 100000 in
set_option maxHeartbeats 2000000 in
theorem pick_good (n : Int) (A : Option Addr) (l c : Nat) (ss : List ByteArray) (N : Nat) (B : Option Addr) (k d : Nat) (us : List Nat) (w : World) (ht : Texts w A l ss) (hlc : l ≤ c) (hcm : c ≤ maxLen) (hu : Words w B k us) (h : okS n ss = true) (hr : rightB N us = true) (hT : TabAt w 0) (hNl : N = l) :
    Calls Tryd.prog 35 #[.int .i64 n, .slice A l c, .agg #[.int .i64 N, .slice B k d]] w (PickOut (sumS n (picks ss (plcN us N))) 0 w) := by
  obtain ⟨i0, hi, hz0, hz1, hz2⟩ := info_parts string_info
  have HB := Lib.hid (show Below w.heap.size w (w.alloc (.cells #[.int .i64 N, .slice B k d] 27)) from (Below.refl _ _).alloc (Nat.le_refl _) _)
  have Q := Lib.hid (Box.new w 27 #[.int .i64 N, .slice B k d])
  have HU := Lib.hid (hu.below HB.out)
  have HT := Lib.hid (hT.below HB.out)
  have HX := Lib.hid (ht.below HB.out)
  have HS := Lib.hid (sum_any n A l c ss _ HX.out hlc hcm)
  rw [sumE_ok h] at HS
  have HR := Lib.hid hr
  have hpl := plc_right N us hr
  rw [hu.1] at hpl
  have HPl := Lib.hid hpl
  have HLt := Lib.hid (fun x (hx : x ∈ plcN us N) => plcN_lt us N hx)
  have hpn := plcN_len us N
  have hlen := ht.1
  have HL := Lib.hid hlen
  have hl64 : l ≤ 64 := by simp only [okS, Bool.and_eq_true, decide_eq_true_eq] at h; omega
  have HOK := Lib.hid (show sumE n (picks ss (plcN us N)) = 0 by rw [hNl, ← hlen]; exact sumE_ok (okS_picks h us))
  have HI := Lib.hid hi
  have HZ0 := Lib.hid hz0
  have HZ1 := Lib.hid hz1
  have HZ2 := Lib.hid hz2
  have tne : ((N : Int) != (l : Int)) = false := by simp; omega
  have hle1 : N ≤ l := by omega
  clear ht h hu hr hT hpl hlen hi hz0 hz1 hz2 hNl
  go_enter Tryd.func35, Tryd.ntmps35
  go_wp2_with fail
  refine HS.out.mono ?_
  rintro e w1 ⟨rfl, hb⟩
  have Bv := Lib.hid (chain HB.out hb)
  have Q := Lib.hid (Q.out.keep hb)
  have HU := Lib.hid (HU.out.below hb)
  have HT := Lib.hid (HT.out.below hb)
  have HX := Lib.hid (HX.out.below hb)
  clear hb
  obtain ⟨r0, r1, -, -⟩ := Q.out.two
  go_wp2_with fail
  have HP := Lib.hid (plc_yes N B k d us w1 HR.out HU.out HT.out)
  rw [HPl.out] at HP
  refine HP.out.mono ?_
  rintro e w2 ⟨v2, rfl, hown, hb⟩
  obtain ⟨A2, c2, rfl, -⟩ := own_form hown
  have HP2 := Lib.hid (own_plcInts hown (fun x hx => by have := HLt.out x hx; omega))
  have Bv := Lib.hid (chain Bv.out hb)
  have Q := Lib.hid (Q.out.keep hb)
  have HX := Lib.hid (HX.out.below hb)
  have hw2 : w.heap.size ≤ w2.heap.size := Bv.out.size
  clear hb hown HP r0 r1
  obtain ⟨r0, r1, -, -⟩ := Q.out.two
  generalize plcN us N = P at *
  obtain ⟨w3, hmk, hown3, hgrow⟩ := run_make_own (P := Tryd.prog) w2 w2.heap.size 44 9 i0 (.string ⟨#[]⟩) 1 Tryd.underlying44 HI.out HZ0.out HZ1.out .i64 .i64 P.length (by rw [HZ2.out]; omega) (by unfold maxLen; omega) (Nat.le_refl _)
  have hb3 : Below w2.heap.size w2 w3 := (Below.refl _ _).grown hgrow (Nat.le_refl _) (fun k e => by cases e)
  have HO := Lib.hid hown3
  have HB3 := Lib.hid hb3
  clear hown3 hgrow hb3
  go_wp2
  clear hmk r0 r1 tne
  go_loopw [43, 12, 14] (fun t v _ wr => ∃ i : Nat, i ≤ P.length ∧ t = .int .i64 i ∧ wr.ownsRow w2.heap.size 9 1 v i ((picks ss (P.take i)).map Value.string) ∧ Below w2.heap.size w2 wr)
    (fun t _ _ _ => P.length - (intOf t).toNat)
  case atStart => exact ⟨0, by omega, rfl, HO.out, HB3.out⟩
  case round =>
    obtain ⟨i, hi, rfl, hown, hbel⟩ := hrel
    have HO := Lib.hid hown
    have HBr := Lib.hid hbel
    clear hown hbel HB3
    by_cases hlt : i < P.length
    · obtain ⟨b2, o2, rfl, hb2, hc2⟩ := HP2.out.2.2 (by omega)
      have hp : P.getD i 0 < N := by
        have e : P.getD i 0 = P[i] := by simp [List.getD, hlt]
        rw [e]; exact HLt.out _ (List.getElem_mem hlt)
      obtain ⟨b1, o1, rfl, hb1, hc1⟩ := HX.out.2.2 (by omega)
      have c2' := (HBr.out.cell (p := ⟨b2, o2 + i, none⟩) hb2).trans (hc2 i hlt)
      rw [plcZ_getD] at c2'
      have c1' := (HBr.out.cell (p := ⟨b1, o1 + P.getD i 0, none⟩) hb1).trans (hc1 (P.getD i 0) (by omega))
      have HSn := Lib.hid (picks_snoc ss P i hlt)
      have hm := HX.out.2.1 (P.getD i 0)
      clear hc1 hc2
      generalize P.getD i 0 = p at *
      generalize ss.getD p ByteArray.empty = s at *
      have hi' := HI.out
      have hz0' := HZ0.out
      have hz1' := HZ1.out
      have hz2' := HZ2.out
      have XO := Lib.hid (HO.out.alloc (.cells #[.string s] 9))
      have XB := Lib.hid (HBr.out.alloc HBr.out.size (.cells #[.string s] 9))
      have N2 := Lib.hid (fun k hk => (HO.out.lt k hk).1)
      have hpl : (p : Int) < (l : Int) := by omega
      go_wp2_with (at_builtin; refine wpList_append_own _ rfl _ _ 44 rfl w2.heap.size 9 i0 (.string ⟨#[]⟩) 1 16 Tryd.underlying44 hi' hz0' hz1' hz2' rfl (by decide) _ _ _ rfl XO.out ⟨wr.heap.size, 0, none⟩ 1 1 [.string s] rfl rfl (cell_one_new _ _ _) (by simp [Value.oneCell']) (by simp [maxLen]; omega) (by omega) XB.out.size ?_; intro v' w4 hown' hgrow _; have HC := Lib.hid (XB.out.grown hgrow XB.out.size N2.out); have HO2 := Lib.hid hown'; clear hown' hgrow)
      go_roundw
      case rel =>
        refine ⟨i + 1, by omega, by go_num, ?_, HC.out⟩
        rw [HSn.out, List.map_append]
        exact HO2.out
      case measure => simp [intOf]; omega
    · obtain rfl : i = P.length := by omega
      have ho := HO.out
      rw [List.take_length] at ho
      have hpl : (picks ss P).length = P.length := by simp [picks]
      rw [← hpl] at ho
      obtain ⟨A', c', rfl, q1, q2, q3⟩ := own_texts ho (picks_le ss P HX.out.2.1)
      rw [hpl] at q1 q3
      have HQ := Lib.hid q3
      have Bv := Lib.hid (chain Bv.out HBr.out)
      rw [hpl]
      clear ho hpl q3 HO
      go_wp2_with fail
      refine (sum_any n A' P.length c' (picks ss P) _ HQ.out q1 q2).mono ?_
      rintro e w5 ⟨rfl, hb⟩
      rw [HOK.out]
      have Bv := Lib.hid (chain Bv.out hb)
      clear hb
      go_wp2_with fail
      go_ret2
      exact ⟨rfl, Bv.out⟩
set_option maxHeartbeats 1000000 in
theorem pick_size (n : Int) (A : Option Addr) (l c : Nat) (ss : List ByteArray) (N : Nat) (B : Option Addr) (k d : Nat) (us : List Nat) (w : World) (ht : Texts w A l ss) (hlc : l ≤ c) (hcm : c ≤ maxLen) (hu : Words w B k us) (h : okS n ss = true) (hr : rightB N us = true) (hT : TabAt w 0) (hNl : N ≠ l) :
    Calls Tryd.prog 35 #[.int .i64 n, .slice A l c, .agg #[.int .i64 N, .slice B k d]] w (PickOut ⟨#[]⟩ 1 w) := by
  have HB := Lib.hid (show Below w.heap.size w (w.alloc (.cells #[.int .i64 N, .slice B k d] 27)) from (Below.refl _ _).alloc (Nat.le_refl _) _)
  have Q := Lib.hid (Box.new w 27 #[.int .i64 N, .slice B k d])
  have HU := Lib.hid (hu.below HB.out)
  have HT := Lib.hid (hT.below HB.out)
  have HS := Lib.hid (sum_any n A l c ss _ (ht.below HB.out) hlc hcm)
  rw [sumE_ok h] at HS
  have HR := Lib.hid hr
  have tne : ((N : Int) != (l : Int)) = true := by rw [bne_iff_ne]; omega
  clear ht h hu hr hT hNl
  go_enter Tryd.func35, Tryd.ntmps35
  go_wp2_with fail
  refine HS.out.mono ?_
  rintro e w1 ⟨rfl, hb⟩
  have Bv := Lib.hid (chain HB.out hb)
  have Q := Lib.hid (Q.out.keep hb)
  have HU := Lib.hid (HU.out.below hb)
  have HT := Lib.hid (HT.out.below hb)
  clear hb
  obtain ⟨r0, r1, -, -⟩ := Q.out.two
  go_wp2_with fail
  refine (plc_yes N B k d us _ HR.out HU.out HT.out).mono ?_
  rintro e w2 ⟨v2, rfl, hown, hb⟩
  have Bv := Lib.hid (chain Bv.out hb)
  have Q := Lib.hid (Q.out.keep hb)
  clear hb hown r0 r1
  obtain ⟨r0, r1, -, -⟩ := Q.out.two
  go_wp2
  go_ret2
  exact ⟨rfl, Bv.out⟩
/-- What Pick tells, whatever comes in. -/
def pickE (n : Int) (ss : List ByteArray) (N : Int) (us : List Nat) : Int := if okS n ss then if rightB N us && N == (ss.length : Int) then 0 else 1 else 2
def pickS (n : Int) (ss : List ByteArray) (N : Int) (us : List Nat) : ByteArray := if okS n ss && (rightB N us && N == (ss.length : Int)) then sumS n (picks ss (plcN us N.toNat)) else ⟨#[]⟩
theorem pick_any (n : Int) (A : Option Addr) (l c : Nat) (ss : List ByteArray) (N : Int) (B : Option Addr) (k d : Nat) (us : List Nat) (w : World) (ht : Texts w A l ss) (hlc : l ≤ c) (hcm : c ≤ maxLen) (hu : Words w B k us) (hT : TabAt w 0) :
    Calls Tryd.prog 35 #[.int .i64 n, .slice A l c, .agg #[.int .i64 N, .slice B k d]] w (PickOut (pickS n ss N us) (pickE n ss N us) w) := by
  unfold pickS pickE
  cases h : okS n ss with
  | false => simpa using pick_sum n A l c ss N B k d w ht hlc hcm h
  | true =>
    cases hr : rightB N us with
    | false => simpa using pick_row n A l c ss N B k d us w ht hlc hcm hu h hr
    | true =>
      obtain ⟨M, rfl⟩ := Int.eq_ofNat_of_zero_le ((lmb_iff N).1 (right_lmb hr)).1
      rw [ht.1, Int.toNat_natCast]
      by_cases hN : M = l
      · have e : ((M : Int) == (l : Int)) = true := by simp [hN]
        rw [e]
        exact pick_good n A l c ss M B k d us w ht hlc hcm hu h hr hT hN
      · have e : ((M : Int) == (l : Int)) = false := by simp; omega
        rw [e]
        exact pick_size n A l c ss M B k d us w ht hlc hcm hu h hr hT hN
/-- A row's bits as numbers. -/
def bitsL (us : List Nat) (m : Nat) : List Int := (List.range m).map fun p => ((bitAt us p : Nat) : Int)
theorem bitsL_succ (us : List Nat) (m : Nat) : bitsL us (m + 1) = bitsL us m ++ [((bitAt us m : Nat) : Int)] := by simp [bitsL, List.range_succ]
theorem bitsL_len (us : List Nat) (m : Nat) : (bitsL us m).length = m := by simp [bitsL]
theorem bitsL_get (us : List Nat) (m j : Nat) (h : j < m) : (bitsL us m).getD j 0 = ((bitAt us j : Nat) : Int) := by simp [bitsL, List.getD, h]
theorem bitsL_lt (us : List Nat) (m j : Nat) : -9223372036854775808 ≤ (bitsL us m).getD j 0 ∧ (bitsL us m).getD j 0 ≤ 9223372036854775807 := by
  by_cases h : j < m
  · rw [bitsL_get us m j h]
    rcases bitAt_le us j with e | e <;> rw [e] <;> simp
  · have : (bitsL us m).getD j 0 = 0 := by simp [List.getD, List.getElem?_eq_none (show (bitsL us m).length ≤ j by rw [bitsL_len]; omega)]
    rw [this]; simp
end
end Go.Proofs.YtdfmogcgangdnaaDoor
