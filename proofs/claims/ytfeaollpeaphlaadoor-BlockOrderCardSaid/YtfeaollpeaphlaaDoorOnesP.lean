/- bitrow.ones, and bitrow.Places: the places of the bits 1. -/
import Derived.Test.YtfeaollpeaphlaaDoorOnes
import Derived.Test.YtfeaollpeaphlaaDoorBitrow2
namespace Go.Proofs.YtfeaollpeaphlaaDoor
set_option linter.unusedVariables false
set_option linter.unusedSimpArgs false
open Go.RowKit Go.Shelf
attribute [local go_sem] Oper.semAt_some
theorem ownP_low {w : World} {base base' e size n : Nat} {v : Value} {xs : List Value} (h : w.ownsRow base e size v n xs) (hb : base' ≤ base) : w.ownsRow base' e size v n xs := by
  refine ⟨h.1, ?_⟩
  rcases h.2 with h0 | ⟨g, cap, cur, rfl, h1, h2⟩
  · exact .inl h0
  · exact .inr ⟨g, cap, cur, rfl, Nat.le_trans hb h1, h2⟩
def plcV (x : Nat) : Value := .int .i64 (x : Int)
theorem int_infoP : (Tryd.prog.info? 3).map (fun i => (i.zero, i.size, i.bytes)) = some (some (.int .i64 0), 1, 8) := by kernel_rfl
theorem keepS {W w1 : World} {B n1 : Nat} {S : Nat → Prop} {v v' : Value} {e k : Nat} {xs : List Value} {tmp : Obj} (hrow : W.ownsRow n1 e 1 v k xs) (hgrow : (W.alloc tmp).grownBy w1 v.ownBlock) (hs : n1 ≤ W.heap.size)
    (hS : ∀ b, S b → b < n1 ∧ b ≠ B) : KpS S W (w1.setCell ⟨B, 0, none⟩ v') := by
  intro b hb
  have hbn := hS b hb
  have hne : some b ≠ v.ownBlock := fun e => by have := (hrow.lt b e.symm).1; omega
  rw [heap_setCell_other w1 ⟨B, 0, none⟩ b v' hbn.2, hgrow.block b (by simp; omega) hne, Below.heap_alloc W tmp b (by omega)]
theorem kpS_put {S : Nat → Prop} {w : World} (hS : ∀ b, S b → b < w.heap.size) (W : World) (l : Nat) (o o' : Obj) (hl : w.heap.size ≤ l) (_ : W.heap[l]? = some o) (_ : o.isCells = false) (_ : o.isWalk = false) : KpS S W (W.putObj l o') := by
  intro b hb
  exact World.putObj_heap_other (by have := hS b hb; omega)
theorem TabAt.put2 {w : World} {g : Nat} {t : TypeId} {a b : Value} (h : TabAt w 0) (hb : Box w g t #[a, b]) (hg : g ≠ 0) (u v : Value) : TabAt ((w.setCell ⟨g, 0, none⟩ u).setCell ⟨g, 1, none⟩ v) 0 := by
  refine h.same ?_
  rw [heap_setCell_other _ ⟨g, 1, none⟩ 0 v (Ne.symm hg), heap_setCell_other _ ⟨g, 0, none⟩ 0 u (Ne.symm hg)]
/-- What ones hands back: an iterator over a box of the row. -/
def OnesOut (N : Int) (A : Option Addr) (len c : Nat) (w : World) (e : Ending) (w' : World) : Prop :=
  ∃ B, e = .returned (.func (.func 45) #[] #[.pointer (some ⟨B, 0, none⟩)]) ∧ Box w' B 24 #[.int .i64 N, .slice A len c] ∧ w.heap.size ≤ B ∧ Below w.heap.size w w'
theorem onesIt_any (N : Int) (A : Option Addr) (len c : Nat) (w : World) : Calls Tryd.prog 30 #[.agg #[.int .i64 N, .slice A len c]] w (OnesOut N A len c w) := by
  go_enter Tryd.func30, Tryd.ntmps30
  go_wp2
  go_ret
  exact ⟨_, rfl, Box.new _ _ _, Nat.le_refl _, (Below.refl _ _).alloc (Nat.le_refl _) _⟩
theorem ones_stops (n : Nat) (hn : 1 ≤ n) (B : Nat) (N : Int) (A : Option Addr) (len c : Nat) (us : List Nat) (hl : len ≤ 100000) (S : Nat → Prop) (hS0 : S 0) (hSB : S B) (hSA : ∀ b off, 0 < len → A = some ⟨b, off, none⟩ → S b) (w : World)
    (hB : Box w B 24 #[.int .i64 N, .slice A len c]) (hW : Words w A len us) (hT : TabAt w 0) :
    SeqStopsK Fence.wide n Tryd.prog 45 #[.pointer (some ⟨B, 0, none⟩)] (fun x : Nat => #[Value.int .i64 (x : Int)]) (KpS S) (fun ys => ys = plcN us (64 * len)) (fun pre => pre <+: plcN us (64 * len) ∧ pre ≠ []) (64 * len) w := fun l J Jx W hw hJ _ hY h0 =>
  ones1_in n hn l B N A len c us hl S hS0 hSB hSA J Jx (fun pre x W hj hlt _ => hY pre x W hj hlt) W (hB.keep hw) (hW.below hw) (hT.below hw) h0
def plcZ (ys : List Nat) : List Int := ys.map fun x : Nat => (x : Int)
theorem plcZ_getD (ys : List Nat) (j : Nat) : (plcZ ys).getD j 0 = (ys.getD j 0 : Nat) := by
  simp only [plcZ, List.getD, List.getElem?_map]
  cases ys[j]? <;> simp
theorem own_plcInts {w : World} {base n : Nat} {A : Option Addr} {c : Nat} {ys : List Nat} (h : w.ownsRow base 3 1 (.slice A n c) n (ys.map plcV)) (hb : ∀ x ∈ ys, x ≤ 1000000) : Ints w A n (plcZ ys) := by
  have e : (plcZ ys).map (Value.int .i64) = ys.map plcV := by simp [plcZ, plcV, Function.comp_def]
  rw [← e] at h
  refine own_ints h fun j => ?_
  rw [plcZ_getD]
  have : ys.getD j 0 ≤ 1000000 := by
    simp only [List.getD]
    cases hx : ys[j]? with
    | none => simp
    | some y => simpa using hb y (List.mem_of_getElem? hx)
  omega
/-- A slice of numbers of its own, and no error, is returned. -/
def PlcOut (ys : List Nat) (w : World) (e : Ending) (w' : World) : Prop := ∃ v, e = .returned (.tuple #[v, .int .i64 0]) ∧ w'.ownsRow w.heap.size 3 1 v ys.length (ys.map plcV) ∧ Below w.heap.size w w'
set_option maxRecDepth 100000 in
set_option maxHeartbeats 2000000 in
theorem plc_in (N : Int) (A : Option Addr) (len c : Nat) (us : List Nat) (w : World) (hr : rightB N us = true) (hW : Words w A len us) (hT : TabAt w 0) : CallsIn Fence.wide 5 Tryd.prog 8 #[.agg #[.int .i64 N, .slice A len c]] w (PlcOut (plcN us (64 * len)) w) := by
  obtain ⟨i0, hi, hz0, hz1, hz2⟩ := info_parts int_infoP
  have hl8 := rightB_len8 hr hW.1
  have HW := Lib.hid (hW.alloc (.cells #[.int .i64 N, .slice A len c] 24))
  have HT := Lib.hid (hT.below ((Below.refl _ _).alloc (Nat.le_refl _) (.cells #[.int .i64 N, .slice A len c] 24)))
  have Q0 := Lib.hid (Box.new w 24 #[.int .i64 N, .slice A len c])
  have HB := Lib.hid (show Below w.heap.size w (w.alloc (.cells #[.int .i64 N, .slice A len c] 24)) from (Below.refl _ _).alloc (Nat.le_refl _) _)
  have hT0 := hT.1
  have HLt := Lib.hid (show ∀ b off, 0 < len → A = some ⟨b, off, none⟩ → b < w.heap.size from fun b off h e => by
    obtain ⟨b', off', e', hlt, _⟩ := hW.2.2 h
    rw [e] at e'; injection e' with e'; injection e' with e1 _; omega)
  have HR := Lib.hid (right_any N A len c us _ HW.out)
  rw [hr] at HR
  clear hW hT
  refine callsIn_of_wp_marks Tryd.func8 rfl trivial ?_ rfl
  simp only [Tryd.ntmps8, List.size_toArray, List.length_cons, List.length_nil, Nat.reduceAdd, Nat.reduceSub, Array.replicate_succ, Array.replicate_zero, List.push_toArray, List.append_toArray, List.nil_append, List.cons_append]
  gi_wp2
  refine ⟨trivial, (callsIn_wide.2 HR.out).mono ?_⟩
  rintro e x1 ⟨rfl, hb⟩
  have Q1 := Lib.hid ((Q0.out.keep hb).alloc (.cells #[.slice none 0 0] 26))
  have HW1 := Lib.hid ((HW.out.below hb).alloc (.cells #[.slice none 0 0] 26))
  have HT1 := Lib.hid ((HT.out.below hb).below ((Below.refl _ _).alloc (Nat.le_refl _) (.cells #[.slice none 0 0] 26)))
  have HB1 := Lib.hid ((chain HB.out hb).alloc (chain HB.out hb).size (.cells #[.slice none 0 0] 26))
  have hs0 : w.heap.size < x1.heap.size := (Q0.out.keep hb).lt
  obtain ⟨r0, r1, -, -⟩ := Q1.out.two
  have hld := run_loadVar_row (P := Tryd.prog) (x1.alloc (.cells #[.slice none 0 0] 26)) w.heap.size 24 24 #[.int .i64 N, .slice A len c] (0, 0) _ Q1.out Tryd.underlying24 rfl (by kernel_rfl)
  clear hb Q0 HW HT HB HR
  gi_wp2
  refine ⟨trivial, (callsIn_wide.2 (onesIt_any N A len c _)).mono ?_⟩
  rintro e w1 ⟨B, rfl, bB, hge, hb⟩
  have bO : Boxed w1 x1.heap.size 26 (.slice none 0 0) := (Box.new x1 26 #[.slice none 0 0]).keep hb
  have hB0 : Below w.heap.size w w1 := chain HB1.out hb
  have hw1 := HW1.out.below hb
  have ht1 := HT1.out.below hb
  have lB := bB.lt
  have lO := bO.lt
  have hsz1 := hB0.size
  simp only [World.size_alloc] at hge
  clear hb r0 r1 hld Q1
  gi_wp2
  have hS : ∀ b, (b < w1.heap.size ∧ b ≠ x1.heap.size) → b < w1.heap.size ∧ b ≠ x1.heap.size := fun b h => h
  refine wpIn_rangeFunc_ownG rfl (by omega) (gf := 45) (lb := #[.pointer (some ⟨B, 0, none⟩)]) rfl trivial (enters_of Tryd.func45 (by kernel_rfl) rfl)
    (ones_stops (5 - 1) (by omega) B N A len c us (by omega) (fun b => b < w1.heap.size ∧ b ≠ x1.heap.size) ⟨by omega, by omega⟩ ⟨lB, by omega⟩ (fun b off h e => by have := HLt.out b off h e; omega) w1 bB hw1 ht1) KpS.trans (kpS_put (fun b h => h.1)) (Below.refl _ _) (fun _ => rfl)
    (fun pre W => (∃ v, Boxed W x1.heap.size 26 v ∧ W.ownsRow w1.heap.size 3 1 v pre.length (pre.map plcV) ∧ True) ∧ Below w.heap.size w W ∧ w1.heap.size ≤ W.heap.size)
    (fun _ _ _ => False)
    (OwnFrom.and (Own.from (holdsRow_own w1.heap.size x1.heap.size 26 3 1 (fun pre : List Nat => pre.length) (fun pre : List Nat => pre.map plcV) (fun _ _ => True)) _) (OwnFrom.and (ownFrom_below (Nat.le_refl _) (by omega)) (fun _ _ _ _ hs hg _ => Nat.le_trans hs hg.size)))
    (fun _ _ _ _ _ hs _ _ => hs)
    ⟨⟨_, bO, World.ownsRow_nil _ _ _ _, trivial⟩, hB0, Nat.le_refl _⟩
    (fun x => { tmps := #[.agg #[.int .i64 N, .slice A len c], .pointer (some ⟨w.heap.size, 0, none⟩), .slice none 0 0, .int .i64 0, .pointer (some ⟨x1.heap.size, 0, none⟩), .int .i64 (x : Int), .agg #[.int .i64 N, .slice A len c], .bool true, .bool false, .agg #[.int .i64 N, .slice A len c], .func (.func 45) #[] #[.pointer (some ⟨B, 0, none⟩)], .int .i64 (x : Int), undef, undef, undef, undef, undef], defers := [] }) ?assign ?body ?done ?stop
  case assign =>
    intro l x W K hK
    gi_wp2
    exact hK
  case body =>
    rintro l pre x W ⟨⟨v, hv, hrow, _⟩, hB, hsz⟩ hlt
    have hc := hv.cell
    have hlo : x1.heap.size < w1.heap.size := lO
    gi_wp2_with (gi_at_builtin; refine wpListIn_append_own _ rfl _ _ 26 rfl w1.heap.size 3 i0 (.int .i64 0) 1 8 Tryd.underlying26 hi hz0 hz1 hz2 rfl (by decide) _ _ _ rfl (hrow.alloc _) ⟨W.heap.size, 0, none⟩ 1 1 [.int .i64 (x : Int)] rfl rfl (cell_one_new _ _ _) (by simp [Value.oneCell']) (by simp [maxLen]; omega) (by omega) (by simp; omega) ?_; intro v' w2 hown' hgrow _; obtain ⟨g', cap', rfl⟩ := ownsRow_succ hown'; obtain ⟨hv1, hv2, hr2, hk2, hb2⟩ := hv.appended (by decide) (ownP_low hrow (by omega)) hB.size (by omega) (ownP_low hown' (by omega)) hgrow; have hr3 := hown'.kept (grownBy_setCell' w2 x1.heap.size (.slice (some ⟨g', 0, none⟩) (pre.length + 1) cap')) (.inr (hv1.not_row (by decide) hown').symm); have hkp := keepS (B := x1.heap.size) (v' := .slice (some ⟨g', 0, none⟩) (pre.length + 1) cap') hrow hgrow hsz hS; have hc1 := hv1.cell; have hf1 := hv1.frozen)
    exact ⟨hk2.from _, hkp, ⟨_, hv2, by simpa [plcV] using hr3, trivial⟩, hB.trans hb2, Nat.le_trans hsz hk2.size⟩
  case done =>
    rintro D ys W hD rfl ⟨⟨v, hv, hrow, _⟩, hB, hsz⟩ hK
    have hc := hv.cell
    gi_wp2
    refine ⟨by simp, .inl ⟨_, _, rfl, run_takeDeferred hK, ?_⟩⟩
    exact ⟨_, results_tmp2 rfl _ _ _, v, rfl, ownP_low (ownsRow_putObj hrow _ hK rfl) (by omega), hB.trans (belowK_b (w := w) (Nat.le_refl _) W D _ _ (by omega) hK rfl rfl)⟩
  case stop =>
    rintro D c pre W _ _ h _
    exact h.elim
theorem plc_yes (N : Int) (A : Option Addr) (len c : Nat) (us : List Nat) (w : World) (hr : rightB N us = true) (hW : Words w A len us) (hT : TabAt w 0) : Calls Tryd.prog 8 #[.agg #[.int .i64 N, .slice A len c]] w (PlcOut (plcN us (64 * len)) w) := callsIn_wide.1 (plc_in N A len c us w hr hW hT)
end Go.Proofs.YtfeaollpeaphlaaDoor
