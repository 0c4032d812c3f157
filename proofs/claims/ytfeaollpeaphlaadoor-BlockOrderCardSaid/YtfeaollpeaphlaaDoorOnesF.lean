/- bitrow.First: the first place of a bit 1. -/
import Derived.Test.YtfeaollpeaphlaaDoorOnesP
namespace Go.Proofs.YtfeaollpeaphlaaDoor
set_option linter.unusedVariables false
set_option linter.unusedSimpArgs false
open Go.RowKit Go.Shelf
attribute [local go_sem] Oper.semAt_some
/-- What First tells of the places. -/
def firstV : List Nat → Int
  | [] => 0
  | p :: _ => (p : Int)
def firstE : List Nat → Int
  | [] => 4
  | _ :: _ => 0
theorem boxed_putObj {W : World} {B D : Nat} {t : TypeId} {v : Value} {o : Obj} (hD : D ≠ B) (h : Boxed W B t v) : Boxed (W.putObj D o) B t v := (World.putObj_heap_other (Ne.symm hD)).trans h
theorem first_no (N : Int) (A : Option Addr) (len c : Nat) (us : List Nat) (w : World) (hr : rightB N us = false) (hW : Words w A len us) :
    Calls Tryd.prog 9 #[.agg #[.int .i64 N, .slice A len c]] w fun e w' => e = .returned (.tuple #[.int .i64 0, .int .i64 1]) ∧ Below w.heap.size w w' := by
  have HW := Lib.hid (((hW.alloc (.cells #[.int .i64 N, .slice A len c] 24)).alloc (.cells #[.int .i64 0] 3)).alloc (.cells #[.int .i64 0] 27))
  have HR := Lib.hid (right_any N A len c us _ HW.out)
  rw [hr] at HR
  have Q := Lib.hid (((Box.new w 24 #[.int .i64 N, .slice A len c]).alloc (.cells #[.int .i64 0] 3)).alloc (.cells #[.int .i64 0] 27))
  have q1 := (Box.new (w.alloc (.cells #[.int .i64 N, .slice A len c] 24)) 3 #[.int .i64 0]).alloc (.cells #[.int .i64 0] 27)
  have q2 := Box.new ((w.alloc (.cells #[.int .i64 N, .slice A len c] 24)).alloc (.cells #[.int .i64 0] 3)) 27 #[.int .i64 0]
  simp only [World.size_alloc] at q1 q2
  have Q1 := Lib.hid q1
  have Q2 := Lib.hid q2
  have HB := Lib.hid (show Below w.heap.size w (((w.alloc (.cells #[.int .i64 N, .slice A len c] 24)).alloc (.cells #[.int .i64 0] 3)).alloc (.cells #[.int .i64 0] 27)) from (((Below.refl _ _).alloc (Nat.le_refl _) _).alloc (by simp) _).alloc (by simp; omega) _)
  obtain ⟨r0, r1, -, -⟩ := Q.out.two
  clear q1 q2 hW hr
  go_enter Tryd.func9, Tryd.ntmps9
  go_wp2_with fail
  refine HR.out.mono ?_
  rintro e w1 ⟨rfl, hb⟩
  have B := Lib.hid (chain HB.out hb)
  have Q1 := Lib.hid (Q1.out.keep hb)
  have Q2 := Lib.hid (Q2.out.keep hb)
  clear hb r0 r1 HR HB
  have c1 := Q1.out.cell 0
  have c2 := Q2.out.cell 0
  have f1 := Q1.out.free 0
  have f2 := Q2.out.free 0
  simp at c1 c2
  have s1 := (Q1.out.put 0 (.int .i64 0)).cell 0
  go_wp2
  have P1 := ((Q1.out.put 0 (.int .i64 0)).far (p := ⟨w.heap.size + 1 + 1, 0, none⟩) (by simp) (.int .i64 1)).cell 0
  have P2 := ((Q2.out.far (p := ⟨w.heap.size + 1, 0, none⟩) (by simp) (.int .i64 0)).put 0 (.int .i64 1)).cell 0
  simp at P1 P2
  refine bodyPost_ret (v := .tuple #[.int .i64 0, .int .i64 1]) (by simp [results, Tryd.results9, go_sem, P1, P2]) rfl ⟨rfl, ?_⟩
  exact (B.out.setCell (p := ⟨w.heap.size + 1, 0, none⟩) (by simp) _).setCell (p := ⟨w.heap.size + 1 + 1, 0, none⟩) (by simp; omega) _
set_option maxRecDepth 100000 in
set_option maxHeartbeats 2000000 in
theorem first_in (N : Int) (A : Option Addr) (len c : Nat) (us : List Nat) (w : World) (hr : rightB N us = true) (hW : Words w A len us) (hT : TabAt w 0) :
    CallsIn Fence.wide 5 Tryd.prog 9 #[.agg #[.int .i64 N, .slice A len c]] w fun e w' => e = .returned (.tuple #[.int .i64 (firstV (plcN us (64 * len))), .int .i64 (firstE (plcN us (64 * len)))]) ∧ Below w.heap.size w w' := by
  have hl8 := rightB_len8 hr hW.1
  have hal : Below w.heap.size w (((w.alloc (.cells #[.int .i64 N, .slice A len c] 24)).alloc (.cells #[.int .i64 0] 3)).alloc (.cells #[.int .i64 0] 27)) := (((Below.refl _ _).alloc (Nat.le_refl _) _).alloc (by simp) _).alloc (by simp; omega) _
  have HW := Lib.hid (hW.below hal)
  have HT := Lib.hid (hT.below hal)
  have HB := Lib.hid hal
  have HR := Lib.hid (right_any N A len c us _ HW.out)
  rw [hr] at HR
  have Q := Lib.hid (((Box.new w 24 #[.int .i64 N, .slice A len c]).alloc (.cells #[.int .i64 0] 3)).alloc (.cells #[.int .i64 0] 27))
  have q1 := (Box.new (w.alloc (.cells #[.int .i64 N, .slice A len c] 24)) 3 #[.int .i64 0]).alloc (.cells #[.int .i64 0] 27)
  have q2 := Box.new ((w.alloc (.cells #[.int .i64 N, .slice A len c] 24)).alloc (.cells #[.int .i64 0] 3)) 27 #[.int .i64 0]
  simp only [World.size_alloc] at q1 q2
  have Q1 := Lib.hid q1
  have Q2 := Lib.hid q2
  have hT0 := hT.1
  have HLt := Lib.hid (show ∀ b off, 0 < len → A = some ⟨b, off, none⟩ → b < w.heap.size from fun b off h e => by
    obtain ⟨b', off', e', hlt, _⟩ := hW.2.2 h
    rw [e] at e'; injection e' with e'; injection e' with e1 _; omega)
  obtain ⟨r0, r1, -, -⟩ := Q.out.two
  clear q1 q2 hW hr hT hal
  refine callsIn_of_wp_marks Tryd.func9 rfl trivial ?_ rfl
  simp only [Tryd.ntmps9, List.size_toArray, List.length_cons, List.length_nil, Nat.reduceAdd, Nat.reduceSub, Array.replicate_succ, Array.replicate_zero, List.push_toArray, List.append_toArray, List.nil_append, List.cons_append]
  gi_wp2
  refine ⟨trivial, (callsIn_wide.2 HR.out).mono ?_⟩
  rintro e x1 ⟨rfl, hb⟩
  have B := Lib.hid (chain HB.out hb)
  have Q1 := Lib.hid (Q1.out.keep hb)
  have Q2 := Lib.hid (Q2.out.keep hb)
  have Q := Lib.hid (Q.out.keep hb)
  have HW1 := Lib.hid (HW.out.below hb)
  have HT1 := Lib.hid (HT.out.below hb)
  clear hb r0 r1 HR HB
  obtain ⟨r0, r1, -, -⟩ := Q.out.two
  gi_wp2
  refine ⟨trivial, (callsIn_wide.2 (onesIt_any N A len c _)).mono ?_⟩
  rintro e w1 ⟨B0, rfl, bB, hge, hb⟩
  have hB0 := chain B.out hb
  have b1 : Boxed w1 (w.heap.size + 1) 3 (.int .i64 0) := Q1.out.keep hb
  have b2 : Boxed w1 (w.heap.size + 1 + 1) 27 (.int .i64 0) := Q2.out.keep hb
  have hw1 := HW1.out.below hb
  have ht1 := HT1.out.below hb
  have l1 := b1.lt
  have l2 := b2.lt
  have hx2 : w.heap.size + 1 + 1 < x1.heap.size := Q2.out.lt
  have lB := bB.lt
  have hsz1 := hB0.size
  clear hb r0 r1 Q Q1 Q2 HW HT
  gi_wp2
  refine wpIn_rangeFunc_ownG rfl (by omega) (gf := 45) (lb := #[.pointer (some ⟨B0, 0, none⟩)]) rfl trivial (enters_of Tryd.func45 (by kernel_rfl) rfl)
    (ones_stops (5 - 1) (by omega) B0 N A len c us (by omega) (fun b => b < w1.heap.size ∧ b ≠ w.heap.size + 1 ∧ b ≠ w.heap.size + 1 + 1) ⟨by omega, by omega, by omega⟩ ⟨lB, by omega, by omega⟩ (fun b off h e => by have := HLt.out b off h e; omega) w1 bB hw1 ht1) KpS.trans (kpS_put (fun b h => h.1)) (Below.refl _ _) (fun _ => rfl)
    (fun pre W => (pre = [] ∧ Boxed W (w.heap.size + 1) 3 (.int .i64 0) ∧ Boxed W (w.heap.size + 1 + 1) 27 (.int .i64 0)) ∧ Below w.heap.size w W ∧ w1.heap.size ≤ W.heap.size)
    (fun cd pre W => (cd = .ret ∧ Boxed W (w.heap.size + 1) 3 (.int .i64 (firstV pre)) ∧ Boxed W (w.heap.size + 1 + 1) 27 (.int .i64 0)) ∧ Below w.heap.size w W ∧ w1.heap.size ≤ W.heap.size)
    ?hI ?hIx ⟨⟨rfl, b1, b2⟩, hB0, Nat.le_refl _⟩
    (fun x => { tmps := #[.agg #[.int .i64 N, .slice A len c], .pointer (some ⟨w.heap.size, 0, none⟩), .pointer (some ⟨w.heap.size + 1, 0, none⟩), .pointer (some ⟨w.heap.size + 1 + 1, 0, none⟩), .int .i64 (x : Int), .agg #[.int .i64 N, .slice A len c], .bool true, .bool false, .agg #[.int .i64 N, .slice A len c], .func (.func 45) #[] #[.pointer (some ⟨B0, 0, none⟩)], .int .i64 (x : Int), undef], defers := [] }) ?assign ?body ?done ?stop
  case hI =>
    refine OwnFrom.and ?_ (OwnFrom.and (ownFrom_below (Nat.le_refl _) (by omega)) (fun _ _ _ _ hs hg _ => Nat.le_trans hs hg.size))
    exact OwnFrom.and (fun _ _ _ _ hs _ _ => hs) (OwnFrom.and (Own.from (boxed_own (w.heap.size + 1) 3 (fun _ : List Nat => .int .i64 0)) _) (Own.from (boxed_own (w.heap.size + 1 + 1) 27 (fun _ : List Nat => .int .i64 0)) _))
  case hIx =>
    intro cd
    refine OwnFrom.and ?_ (OwnFrom.and (ownFrom_below (Nat.le_refl _) (by omega)) (fun _ _ _ _ hs hg _ => Nat.le_trans hs hg.size))
    exact OwnFrom.and (fun _ _ _ _ hs _ _ => hs) (OwnFrom.and (Own.from (boxed_own (w.heap.size + 1) 3 (fun pre : List Nat => .int .i64 (firstV pre))) _) (Own.from (boxed_own (w.heap.size + 1 + 1) 27 (fun _ : List Nat => .int .i64 0)) _))
  case assign =>
    intro l x W K hK
    gi_wp2
    exact hK
  case body =>
    rintro l pre x W ⟨⟨rfl, h1, h2⟩, hB, hsz⟩ hlt
    have c1 := h1.cell
    have c2 := h2.cell
    have f1 := h1.frozen
    have f2 := h2.frozen
    have P1 : Boxed ((W.setCell ⟨w.heap.size + 1, 0, none⟩ (.int .i64 (x : Int))).setCell ⟨w.heap.size + 1 + 1, 0, none⟩ (.int .i64 0)) (w.heap.size + 1) 3 (.int .i64 (x : Int)) := (h1.set _).other (B' := w.heap.size + 1 + 1) (by omega) _
    have P2 : Boxed ((W.setCell ⟨w.heap.size + 1, 0, none⟩ (.int .i64 (x : Int))).setCell ⟨w.heap.size + 1 + 1, 0, none⟩ (.int .i64 0)) (w.heap.size + 1 + 1) 27 (.int .i64 0) := (h2.other (B' := w.heap.size + 1) (by omega) _).set _
    have hko : KeepsOthers W ((W.setCell ⟨w.heap.size + 1, 0, none⟩ (.int .i64 (x : Int))).setCell ⟨w.heap.size + 1 + 1, 0, none⟩ (.int .i64 0)) := (KeepsOthers.setCell _ _ _).trans (KeepsOthers.setCell _ _ _)
    have PB := (hB.setCell (p := ⟨w.heap.size + 1, 0, none⟩) (by simp) (.int .i64 (x : Int))).setCell (p := ⟨w.heap.size + 1 + 1, 0, none⟩) (by simp; omega) (.int .i64 0)
    have HP := Lib.hid (And.intro P1 (And.intro P2 (And.intro hko PB)))
    clear P1 P2 hko PB
    gi_wp2
    exact ⟨HP.out.2.2.1.from _, ⟨rfl, HP.out.1, HP.out.2.1⟩, HP.out.2.2.2, Nat.le_trans hsz HP.out.2.2.1.size⟩
  case done =>
    rintro D ys W hD rfl ⟨⟨hys, h1, h2⟩, hB, hsz⟩ hK
    have c1 := h1.cell
    have c2 := h2.cell
    have f1 := h1.frozen
    have f2 := h2.frozen
    have hD1 : D ≠ w.heap.size + 1 := by omega
    have hD2 : D ≠ w.heap.size + 1 + 1 := by omega
    have HK := Lib.hid hK
    have HYS := Lib.hid hys
    clear hK hys
    gi_wp2
    have hK2 : ((W.setCell ⟨w.heap.size + 1, 0, none⟩ (.int .i64 0)).setCell ⟨w.heap.size + 1 + 1, 0, none⟩ (.int .i64 4)).heap[D]? = some (.deferred (some [])) := by
      rw [heap_setCell_other _ ⟨w.heap.size + 1 + 1, 0, none⟩ D _ hD2, heap_setCell_other _ ⟨w.heap.size + 1, 0, none⟩ D _ hD1]; exact HK.out
    refine ⟨by simp, .inl ⟨_, _, rfl, run_takeDeferred hK2, ?_⟩⟩
    have P1 : Boxed _ (w.heap.size + 1) 3 (.int .i64 0) := boxed_putObj (o := .deferred none) (show D ≠ _ from hD1) ((h1.set (.int .i64 0)).other (B' := w.heap.size + 1 + 1) (by omega) (.int .i64 4))
    have P2 : Boxed _ (w.heap.size + 1 + 1) 27 (.int .i64 4) := boxed_putObj (o := .deferred none) (show D ≠ _ from hD2) ((h2.other (B' := w.heap.size + 1) (by omega) (.int .i64 0)).set (.int .i64 4))
    have d1 := P1.cell
    have d2 := P2.cell
    refine ⟨.tuple #[.int .i64 0, .int .i64 4], by simp [results, Tryd.results9, go_sem, d1, d2], by rw [HYS.out]; rfl, ?_⟩
    have PB := (hB.setCell (p := ⟨w.heap.size + 1, 0, none⟩) (by simp) (.int .i64 0)).setCell (p := ⟨w.heap.size + 1 + 1, 0, none⟩) (by simp; omega) (.int .i64 4)
    exact PB.trans (belowK_b (w := w) (Nat.le_refl _) _ D _ _ (by omega) hK2 rfl rfl)
  case stop =>
    rintro D cd pre W hD hpre ⟨⟨rfl, h1, h2⟩, hB, hsz⟩ hK
    have HPre := Lib.hid hpre
    clear hpre
    gi_wp2
    refine ⟨by simp, .inl ⟨_, _, rfl, run_takeDeferred hK, ?_⟩⟩
    have P1 : Boxed _ (w.heap.size + 1) 3 (.int .i64 (firstV pre)) := boxed_putObj (o := .deferred none) (show D ≠ _ by omega) h1
    have P2 : Boxed _ (w.heap.size + 1 + 1) 27 (.int .i64 0) := boxed_putObj (o := .deferred none) (show D ≠ _ by omega) h2
    have d1 := P1.cell
    have d2 := P2.cell
    obtain ⟨⟨t, ht⟩, hne⟩ := HPre.out
    refine ⟨.tuple #[.int .i64 (firstV pre), .int .i64 0], by simp [results, Tryd.results9, go_sem, d1, d2], ?_, hB.trans (belowK_b (w := w) (Nat.le_refl _) _ D _ _ (by omega) hK rfl rfl)⟩
    rw [← ht]
    cases pre with
    | nil => exact absurd rfl hne
    | cons x r => rfl
theorem first_yes (N : Int) (A : Option Addr) (len c : Nat) (us : List Nat) (w : World) (hr : rightB N us = true) (hW : Words w A len us) (hT : TabAt w 0) :
    Calls Tryd.prog 9 #[.agg #[.int .i64 N, .slice A len c]] w fun e w' => e = .returned (.tuple #[.int .i64 (firstV (plcN us (64 * len))), .int .i64 (firstE (plcN us (64 * len)))]) ∧ Below w.heap.size w w' := callsIn_wide.1 (first_in N A len c us w hr hW hT)
end Go.Proofs.YtfeaollpeaphlaaDoor
