/- Layer 14: the pool's take. -/
import Derived.Test.YtmfjbmojejplgaaRiP
namespace Go.Proofs.Ytmfjbmojejplgaa
set_option linter.unusedVariables false
set_option linter.unusedSimpArgs false
open Go.RowKit Go.Sort
set_option maxRecDepth 100000
theorem close_cellR {P : Program} {fn : Func} {R : Ending → World → Prop} {a : Act} {W : World} {p q : Tmp} {T : TypeId} {g : Nat} {cs : Array Value} {d : TypeDesc} {v : Value} (hr : fn.results = #[.cell p T, .tmp q])
    (hp : a.tmps.getD p undef = .pointer (some ⟨g, 0, none⟩)) (hq : a.tmps.getD q undef = v) (hd : a.defers = []) (hbox : Box W g T cs) (hu : P.underlying T = some d)
    (hk : (match d with | .struct _ | .array _ _ => true | _ => false) = true) (hi : (P.info? T).map (·.size) = some cs.size)
    (hR : R (.returned (.tuple #[.agg cs, v])) W) : bodyPost P fn R .ret a W := close_cell hr hp hq hd hbox hu hk hi hR
theorem PoolS.more {w : World} {gp n : Nat} {v : Value} {xs : List DrR} (h : PoolS w gp v xs) (hn : xs.length = n + 1) : ∃ g c, v = .slice (some ⟨g, 0, none⟩) (n + 1) c := by
  rcases h.own.2 with ⟨-, h0⟩ | ⟨g, cap, cur, hv, h1⟩
  · omega
  · exact ⟨g, cap, by rw [hv, hn]⟩
set_option maxHeartbeats 4000000 in
theorem take_none (gp : Nat) (v : Value) (w : World) (hP : PoolS w gp v []) :
    Calls Try.prog 61 #[.pointer (some ⟨gp, 0, none⟩)] w fun e w' => e = .returned (.tuple #[.agg #[.int .i64 0, .int .u64 0], .bool false]) ∧ Below w.heap.size w w' := by
  have hb1 : Below w.heap.size w (w.alloc (.cells #[.int .i64 0, .int .u64 0] 24)) := (Below.refl _ _).alloc (Nat.le_refl _) _
  obtain ⟨A, c, rfl⟩ := hP.slice
  have b0 := (hP.box.keep hb1).cell 0
  have Z := Lib.hid (Box.new w 24 #[.int .i64 0, .int .u64 0])
  have z0 := Z.out.cell 0
  have z1 := Z.out.cell 1
  have f0 := Z.out.free 0
  have f1 := Z.out.free 1
  simp only [List.getElem?_toArray, List.getElem?_cons_zero, List.getElem?_cons_succ] at b0 z0 z1
  have HB := Lib.hid hb1
  clear hP hb1
  go_enter Try.func61, Try.ntmps61
  go_wp2_with fail
  refine (len_any _ _ _ _).mono ?_
  rintro e w2 ⟨rfl, hw⟩
  obtain rfl := hw.symm
  go_wp2_with fail
  refine close_cellR Try.results61 rfl rfl rfl Z.out Try.underlying24 rfl (by kernel_rfl) ⟨rfl, HB.out⟩
theorem PoolS.setFar {w : World} {gp p i : Nat} {v u : Value} {xs : List DrR} (h : PoolS w gp v xs) (h1 : gp ≠ p) (h2 : v.ownBlock ≠ some p) : PoolS (w.setCell ⟨p, i, none⟩ u) gp v xs := by
  refine ⟨h.box.far (p := ⟨p, i, none⟩) h1 u, ⟨h.own.1, ?_⟩⟩
  rcases h.own.2 with ⟨h0, hn⟩ | ⟨g', cap, cur, hv, hb, hh, h3⟩
  · exact .inl ⟨h0, hn⟩
  · exact .inr ⟨g', cap, cur, hv, hb, (heap_setCell_other w ⟨p, i, none⟩ g' u (fun e => h2 (by rw [hv]; exact congrArg some e))).trans hh, h3⟩
set_option maxHeartbeats 4000000 in
theorem take_some (gp n : Nat) (v : Value) (xs : List DrR) (hn : xs.length = n + 1) (hl : n ≤ 50000) (hh : HeapN xs (n + 1)) (w : World) (hP : PoolS w gp v xs) :
    Calls Try.prog 61 #[.pointer (some ⟨gp, 0, none⟩)] w fun e w' => e = .returned (.tuple #[.agg (drA (drAt xs 0)), .bool true]) ∧ ∃ v' ys, PoolS w' gp v' ys ∧ (drAt xs 0 :: ys).Perm xs ∧ HeapN ys ys.length ∧ Chg w w' gp v v' := by
  have hb1 : Below w.heap.size w (w.alloc (.cells #[.int .i64 0, .int .u64 0] 24)) := (Below.refl _ _).alloc (Nat.le_refl _) _
  obtain ⟨g, c, rfl⟩ := hP.more hn
  have hP1 := hP.keep hb1
  have b0 := hP1.box.cell 0
  have Z := Lib.hid (Box.new w 24 #[.int .i64 0, .int .u64 0])
  have HGp := Lib.hid hP.box.lt
  have HRl := Lib.hid (show g < w.heap.size from (hP.row hn).2.1.lt)
  simp only [List.getElem?_toArray, List.getElem?_cons_zero, List.getElem?_cons_succ] at b0
  have HPo := Lib.hid (hpop_any gp g c n xs hn hl hh _ hP1)
  have HB := Lib.hid hb1
  have hta := ta_drop (drAt xs 0)
  have tn : ((n : Int) + 1 == 0) = false := by simp; omega
  generalize drAt xs 0 = x at *
  clear hP hP1 hb1 hn hh
  go_enter Try.func61, Try.ntmps61
  go_wp2_with fail
  refine (len_any _ _ _ _).mono ?_
  rintro e w2 ⟨rfl, hw⟩
  obtain rfl := hw.symm
  go_wp2_with fail
  refine HPo.out.mono ?_
  rintro e w3 ⟨rfl, v', ys, h1, h2, h3, h4⟩
  have hsz : (w.alloc (.cells #[.int .i64 0, .int .u64 0] 24)).heap.size = w.heap.size + 1 := World.size_alloc _ _
  have Z3 := Lib.hid (show Box w3 w.heap.size 24 #[.int .i64 0, .int .u64 0] from (h4.block w.heap.size (by rw [hsz]; omega) (fun e => by have := HGp.out; omega) (fun e => by
    injection e with e; have e2 : g = w.heap.size := e; have := HRl.out; omega)).trans Z.out)
  have hvn : v'.ownBlock ≠ some w.heap.size := fun e => by
    rcases h4.own _ e with e1 | e1
    · injection e1 with e1; have e2 : g = w.heap.size := e1; have := HRl.out; omega
    · rw [hsz] at e1; omega
  have hal : Below w3.heap.size w3 (w3.alloc (.cells (drA x) 24)) := (Below.refl _ _).alloc (Nat.le_refl _) _
  have Z4 := Lib.hid (Z3.out.keep hal)
  have z0 := Z4.out.cell 0
  have z1 := Z4.out.cell 1
  have f0 := Z4.out.free 0
  have f1 := Z4.out.free 1
  have bx := Box.new w3 24 (drA x)
  have b4 := bx.cell 0
  have b5 := bx.cell 1
  simp only [List.getElem?_toArray, List.getElem?_cons_zero, List.getElem?_cons_succ] at z0 z1 b4 b5
  have HF := Lib.hid (show ∃ v'' ys, PoolS (((w3.alloc (.cells (drA x) 24)).setCell ⟨w.heap.size, 0, none⟩ (.int .i64 x.1)).setCell ⟨w.heap.size, 1, none⟩ (.int .u64 (x.2 : Int))) gp v'' ys ∧ (x :: ys).Perm xs ∧ HeapN ys ys.length ∧ Chg w (((w3.alloc (.cells (drA x) 24)).setCell ⟨w.heap.size, 0, none⟩ (.int .i64 x.1)).setCell ⟨w.heap.size, 1, none⟩ (.int .u64 (x.2 : Int))) gp (.slice (some ⟨g, 0, none⟩) (n + 1) c) v'' from by
    have hgp : gp ≠ w.heap.size := by have := HGp.out; omega
    refine ⟨v', ys, ((h1.keep hal).setFar hgp hvn).setFar hgp hvn, h2, h3, ?_⟩
    have hc : Chg w (w3.alloc (.cells (drA x) 24)) gp (.slice (some ⟨g, 0, none⟩) (n + 1) c) v' := ((Chg.below HB.out).trans h4).trans (Chg.below hal)
    refine ⟨hc.os, hc.tape, hc.output, Nat.le_trans hc.size (by simp [World.setCell]), fun k hk hne hv => ?_, hc.own⟩
    rw [heap_setCell_other _ ⟨w.heap.size, 1, none⟩ k _ (by show k ≠ w.heap.size; omega), heap_setCell_other _ ⟨w.heap.size, 0, none⟩ k _ (by show k ≠ w.heap.size; omega)]
    exact hc.block k hk hne hv)
  clear h1 h2 h3 h4 hsz hvn hal bx HPo
  go_wp2_with fail
  refine close_cellR Try.results61 rfl rfl rfl (Z4.out.putAll [.int .i64 x.1, .int .u64 (x.2 : Int)] rfl) Try.underlying24 rfl (by kernel_rfl) ⟨rfl, HF.out⟩
end Go.Proofs.Ytmfjbmojejplgaa
