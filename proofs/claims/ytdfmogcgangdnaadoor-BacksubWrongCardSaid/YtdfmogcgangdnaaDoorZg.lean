/- Parts: Bs2, Bs3, Bs4, BsC, Bs5. -/
import Derived.Test.YtdfmogcgangdnaaDoorZf
import Derived.Deep.AppendLies
import Derived.Deep.RegionHeld3
import Derived.Deep.RegionLawGrows
namespace Go.Proofs.YtdfmogcgangdnaaDoor
section
/- backsub: chosen. -/
set_option linter.unusedVariables false
set_option linter.unusedSimpArgs false
open Go.RowKit
set_option maxRecDepth 100000
theorem add_zero0 (g j : Nat) : (⟨g, 0, none⟩ : Addr).add j = ⟨g, j, none⟩ := by by_cases h : j = 0 <;> simp [Addr.add, h]
theorem add_off (g m j : Nat) : (⟨g, m, none⟩ : Addr).add j = ⟨g, m + j, none⟩ := by by_cases h : j = 0 <;> simp [Addr.add, h]
theorem CellsRow.olds {w : World} {base n g c : Nat} {t : TypeId} {xs : List Value} (h : CellsRow w base t (.slice (some ⟨g, 0, none⟩) n c) n xs) (hn : 0 < n) (m : Nat) : ∀ b, some (⟨g, 0, none⟩ : Addr) = some b → ∀ j u, (xs.take m)[j]? = some u → w.cell? (b.add j) = some u := by
  intro b hb j u hu
  injection hb with hb
  subst hb
  rw [add_zero0]
  obtain ⟨hl, -⟩ := List.getElem?_eq_some_iff.1 hu
  rw [List.length_take] at hl
  rw [List.getElem?_take_of_lt (by omega)] at hu
  exact (h.cell hn j u hu).1
theorem CellsRow.news {w : World} {base n g c : Nat} {t : TypeId} {xs : List Value} (h : CellsRow w base t (.slice (some ⟨g, 0, none⟩) n c) n xs) (hn : 0 < n) (m : Nat) : ∀ j u, (xs.drop m)[j]? = some u → w.cell? ((⟨g, m, none⟩ : Addr).add j) = some u := by
  intro j u hu
  rw [add_off]
  rw [List.getElem?_drop] at hu
  exact (h.cell hn _ u hu).1
theorem CellsRow.low {w : World} {base b2 n : Nat} {t : TypeId} {v : Value} {xs : List Value} (h : CellsRow w base t v n xs) (hb : b2 ≤ base) : CellsRow w b2 t v n xs := by
  obtain ⟨A, c, h1, h2, h3, h4⟩ := h
  exact ⟨A, c, h1, h2, h3, fun hn => by obtain ⟨g, cur, a, b, d, e⟩ := h4 hn; exact ⟨g, cur, a, Nat.le_trans hb b, d, e⟩⟩
theorem Box.quad {w : World} {g : Nat} {t : TypeId} {a b d e : Value} (h : Box w g t #[a, b, d, e]) : w.cell? ⟨g, 0, none⟩ = some a ∧ w.cell? ⟨g, 1, none⟩ = some b ∧ w.cell? ⟨g, 2, none⟩ = some d ∧ w.cell? ⟨g, 3, none⟩ = some e ∧ w.frozen? ⟨g, 0, none⟩ = false ∧ w.frozen? ⟨g, 1, none⟩ = false ∧ w.frozen? ⟨g, 2, none⟩ = false ∧ w.frozen? ⟨g, 3, none⟩ = false :=
  ⟨h.cell 0, h.cell 1, h.cell 2, h.cell 3, h.free 0, h.free 1, h.free 2, h.free 3⟩
theorem gn_box {w w1 : World} {b : Nat} {t : TypeId} {cs : Array Value} (h : Box w b t cs) (k : w.grownBy w1 none) : Box w1 b t cs := (k.block b h.lt (by intro e; cases e)).trans h
theorem gn_below {w w1 : World} (k : w.grownBy w1 none) : Below w.heap.size w w1 := ⟨k.os, k.tape, k.output, k.size, fun b hb => k.block b hb (by intro e; cases e)⟩
theorem gd_below {w w1 : World} (k : w.drew.grownBy w1 none) : Below w.heap.size w w1 := ⟨k.os, k.tape, k.output, k.size, fun b hb => k.block b hb (by intro e; cases e)⟩
theorem prC_one : ∀ (rs : List RowV) (L : List PV), ∀ u ∈ prC rs L, u.oneCell' = true
  | [], _, u, h => by simp [prC] at h
  | r :: rs, [], u, h => by simp [prC] at h
  | r :: rs, p :: L, u, h => by
    simp only [prC, List.mem_cons] at h
    rcases h with rfl | rfl | rfl | h
    · rfl
    · rfl
    · rfl
    · exact prC_one rs L u h
/-- A row stored into a box of an owner. -/
def ownW (W : World) (b N : Nat) (A : Option Addr) (l d : Nat) (s : ByteArray) (c : Nat) : World := (((W.setCell ⟨b, 0, none⟩ (.int .i64 (N : Int))).setCell ⟨b, 1, none⟩ (.slice A l d)).setCell ⟨b, 2, none⟩ (.string s)).setCell ⟨b, 3, none⟩ (.int .i64 (c : Int))
section
variable {W : World} {b N : Nat} {A : Option Addr} {l d : Nat} {s : ByteArray} {c : Nat} {x1 x2 x3 x4 : Value}
theorem ownW_box (h : Box W b 86 #[x1, x2, x3, x4]) : Box (ownW W b N A l d s c) b 86 #[.int .i64 (N : Int), .slice A l d, .string s, .int .i64 (c : Int)] := (((h.put 0 _).put 1 _).put 2 _).put 3 _
theorem ownW_row (h : Box W b 86 #[x1, x2, x3, x4]) {w0 : World} {n : Nat} {r : RowV} {x : Nat} (q : RowQ w0 W n r x) : RowQ w0 (ownW W b N A l d s c) n r x := (((q.far h (by decide) _ _).far (h.put _ _) (by decide) _ _).far ((h.put _ _).put _ _) (by decide) _ _).far (((h.put _ _).put _ _).put _ _) (by decide) _ _
theorem ownW_cells (h : Box W b 86 #[x1, x2, x3, x4]) {base n : Nat} {v : Value} {xs : List Value} (q : CellsRow W base 84 v n xs) : CellsRow (ownW W b N A l d s c) base 84 v n xs := (((q.far h (by decide) _ _).far (h.put _ _) (by decide) _ _).far ((h.put _ _).put _ _) (by decide) _ _).far (((h.put _ _).put _ _).put _ _) (by decide) _ _
theorem PairsQ.owned {N' : Nat} (h : Box W b 86 #[x1, x2, x3, x4]) {w0 : World} {base n : Nat} {v : Value} {L : List PV} (q : PairsQ w0 W base v n L) : PairsQ w0 (ownW W b N' A l d s c) base v n L := by
  obtain ⟨rs, h1, h2, h3⟩ := q
  exact ⟨rs, h1, ownW_cells h h2, fun j hj => ownW_row h (h3 j hj)⟩
theorem ownW_below {B : Nat} {w : World} (h : Below B w W) (hb : B ≤ b) : Below B w (ownW W b N A l d s c) := (((h.setCell (p := ⟨b, 0, none⟩) hb _).setCell (p := ⟨b, 1, none⟩) hb _).setCell (p := ⟨b, 2, none⟩) hb _).setCell (p := ⟨b, 3, none⟩) hb _
theorem ownW_size : (ownW W b N A l d s c).heap.size = W.heap.size := by simp [ownW, World.setCell]
end
/-- The pairs but one, in a row. -/
theorem PairsQ.erased {w0 w w1 : World} {b2 : Nat} {v1 : Value} {N : Nat} {L : List PV} {rs : List RowV} (h1 : rs.length = L.length) (h3 : ∀ j, j < L.length → RowQ w0 w N (rs.getD j (0, none, 0, 0)) (L.getD j pv0).1) (i m : Nat) (hi : i < L.length) (hm : m = L.length - 1)
    (ho : CellsRow w1 b2 84 v1 m (prC (rs.take i) (L.take i) ++ prC (rs.drop (i + 1)) (L.drop (i + 1)))) (hq : ∀ r x, RowQ w0 w N r x → RowQ w0 w1 N r x) : PairsQ w0 w1 b2 v1 N (L.eraseIdx i) := by
  have hl : (L.eraseIdx i).length = m := by rw [List.length_eraseIdx, if_pos hi, hm]
  rw [← prC_app _ _ (by simp [h1])] at ho
  have e1 : L.take i ++ L.drop (i + 1) = L.eraseIdx i := (List.eraseIdx_eq_take_drop_succ L i).symm
  have e2 : rs.take i ++ rs.drop (i + 1) = rs.eraseIdx i := (List.eraseIdx_eq_take_drop_succ rs i).symm
  rw [e1, e2] at ho
  refine ⟨rs.eraseIdx i, by rw [List.length_eraseIdx, List.length_eraseIdx, h1], by rw [hl]; exact ho, fun j hj => ?_⟩
  rw [hl] at hj
  have g1 : (L.eraseIdx i).getD j pv0 = if j < i then L.getD j pv0 else L.getD (j + 1) pv0 := by
    simp only [List.getD, List.getElem?_eraseIdx]; split <;> rfl
  have g2 : (rs.eraseIdx i).getD j (0, none, 0, 0) = if j < i then rs.getD j (0, none, 0, 0) else rs.getD (j + 1) (0, none, 0, 0) := by
    simp only [List.getD, List.getElem?_eraseIdx]; split <;> rfl
  rw [g1, g2]
  split
  · exact hq _ _ (h3 j (by omega))
  · exact hq _ _ (h3 (j + 1) (by omega))
/-- The pairs but the last, in the same block. -/
theorem PairsQ.short {w0 w : World} {base g c : Nat} {N : Nat} {L : List PV} (h : PairsQ w0 w base (.slice (some ⟨g, 0, none⟩) L.length c) N L) (i : Nat) (hi : i + 1 = L.length) (hc : i ≤ c) : PairsQ w0 w base (.slice (some ⟨g, 0, none⟩) i i) N (L.eraseIdx i) := by
  obtain ⟨rs, h1, h2, h3⟩ := h
  have e1 : L.eraseIdx i = L.take i := by rw [List.eraseIdx_eq_take_drop_succ, List.drop_of_length_le (by omega), List.append_nil]
  have hl : (L.eraseIdx i).length = i := by rw [e1, List.length_take]; omega
  refine ⟨rs.take i, by rw [hl, List.length_take]; omega, ?_, fun j hj => ?_⟩
  · have := h2.take rfl i (by omega) i (Nat.le_refl _) hc (i * 3)
    rw [prC_take rs L h1 i] at this
    rw [hl, e1]; exact this
  · rw [hl] at hj
    have g1 : (L.eraseIdx i).getD j pv0 = L.getD j pv0 := by rw [e1]; simp [List.getD, List.getElem?_take, hj]
    have g2 : (rs.take i).getD j (0, none, 0, 0) = rs.getD j (0, none, 0, 0) := by simp [List.getD, List.getElem?_take, hj]
    rw [g1, g2]; exact h3 j (by omega)
theorem pair_info : (Tryd.prog.info? 84).map (fun i => (i.zero, i.size, i.bytes)) = some (some (.agg #[.int .i64 0, .slice none 0 0, .string ⟨#[]⟩]), 3, 48) := by kernel_rfl
/-- The first pair that has a column, and the rest. -/
def ChosenOut (w0 : World) (base N : Nat) (L : List PV) (c : Nat) (w : World) (e : Ending) (w' : World) : Prop :=
  ∃ (i : Nat) (A : Option Addr) (l d : Nat) (v : Value), i < L.length ∧ (L.getD i pv0).1.testBit c = true ∧ e = .returned (.tuple #[.agg #[.int .i64 (N : Int), .slice A l d, .string (L.getD i pv0).2, .int .i64 (c : Int)], v]) ∧
    RowQ w0 w' N ((N : Int), A, l, d) (L.getD i pv0).1 ∧ PairsQ w0 w' base v N (L.eraseIdx i) ∧ Below w.heap.size w w'
set_option maxHeartbeats 4000000 in
theorem chosen_any (N n : Nat) (hN : N ≤ 512) (L : List PV) (hL : ∀ p ∈ L, GoodP N n p) (hlen : L.length ≤ 64) (c : Nat) (hc : c < N) (hex : ∃ i, i < L.length ∧ (L.getD i pv0).1.testBit c = true) (w0 : World) (base : Nat) (v : Value) (w : World) (hw0 : w0.heap.size ≤ w.heap.size) (hb0 : Below w0.heap.size w0 w) (hbase : base ≤ w.heap.size) (hr : PairsQ w0 w base v N L) :
    Calls Tryd.prog 57 #[v, .int .i64 (c : Int)] w (ChosenOut w0 base N L c w) := by
  obtain ⟨i0, hinf, hz0, hz1, hz2⟩ := info_parts pair_info
  have hpos : 0 < L.length := by obtain ⟨i, h1, -⟩ := hex; omega
  obtain ⟨g, cap, rfl, hgb, hgw, hcap, hcm⟩ := hr.form hpos
  unfold maxLen at hcm
  have b1 : Below w.heap.size w (w.alloc (.cells #[.int .i64 0, .slice none 0 0, .string ⟨#[]⟩, .int .i64 0] 86)) := (Below.refl _ _).alloc (Nat.le_refl _) _
  have Q := Lib.hid (Box.new w 86 #[.int .i64 0, .slice none 0 0, .string ⟨#[]⟩, .int .i64 0])
  have HR := Lib.hid (hr.keep b1)
  have HB := Lib.hid b1
  have HEX := Lib.hid hex
  have HL := Lib.hid hL
  have HB0 := Lib.hid hb0
  clear hr b1 hex hL hb0
  go_enter Tryd.func57, Tryd.ntmps57
  go_wp2_with fail
  go_loopw [10] (fun t wr => ∃ i : Nat, i ≤ L.length ∧ t = .int .i64 (i : Int) ∧ Hid (∀ j, j < i → (L.getD j pv0).1.testBit c = false) ∧ Hid (Below (w.heap.size + 1) (w.alloc (.cells #[.int .i64 0, .slice none 0 0, .string ⟨#[]⟩, .int .i64 0] 86)) wr)) (fun t _ => L.length - (intOf t).toNat)
  case atStart => exact ⟨0, Nat.zero_le _, rfl, Lib.hid (fun j h => by omega), Lib.hid (Below.refl _ _)⟩
  case round =>
    obtain ⟨i, hi, rfl, HF, HBr⟩ := hrel
    have HB2 := Lib.hid (show Below w.heap.size w wr from HB.out.trans (HBr.out.mono (by omega)))
    have HQ := Lib.hid (Q.out.below HBr.out (by omega))
    have HRw := Lib.hid (HR.out.keep (w' := wr) (HBr.out.mono (by simp)))
    by_cases hlt : i < L.length
    · have hlt' : (i : Int) < (L.length : Int) := by omega
      obtain ⟨A, l, d, x0, x1, x2, rq, -, -, -⟩ := HRw.out.at i hlt
      have gp := HL.out _ (getD_memP hlt)
      obtain ⟨f, hf⟩ : ∃ f, f = L.getD i pv0 := ⟨_, rfl⟩
      rw [← hf] at x2 rq gp
      have GP := Lib.hid gp
      have HFI := Lib.hid hf
      clear hf gp
      have al : Below wr.heap.size wr (wr.alloc (.cells #[.int .i64 (N : Int), .slice A l d, .string f.2] 84)) := (Below.refl _ _).alloc (Nat.le_refl _) _
      have RB := Lib.hid (Box.new wr 84 #[.int .i64 (N : Int), .slice A l d, .string f.2])
      have AL1 := Lib.hid al
      have RQ := Lib.hid (rq.below al)
      have HW := Lib.hid (RQ.out.words (Nat.le_refl _) (chainN (chainN HB0.out hw0 HB2.out) (Nat.le_trans hw0 HB2.out.size) al))
      have HH := Lib.hid (pairHas_any N f.1 hN GP.out.1 A l d c f.2 hc _ HW.out)
      obtain ⟨r0, r1, r2, -, -, -⟩ := RB.out.three
      have hgs : g < wr.heap.size := Nat.lt_of_lt_of_le hgw HB2.out.size
      have hws : w.heap.size < wr.heap.size := HQ.out.lt
      clear al rq HW
      cases hbit : f.1.testBit c with
      | false =>
        rw [hbit] at HH
        have HBt := Lib.hid hbit
        clear hbit
        go_wp2_with fail
        refine HH.out.mono ?_
        rintro e w1 ⟨rfl, hb⟩
        have HB3 := Lib.hid (HBr.out.trans ((chain AL1.out hb).mono (by omega)))
        clear hb
        go_wp2_with fail
        go_roundw
        case rel => exact ⟨i + 1, by omega, by go_num, Lib.hid (fun j k1 => by
          by_cases e : j = i
          · subst e; rw [← HFI.out]; exact HBt.out
          · exact HF.out j (by omega)), HB3⟩
        case measure => simp [intOf]; omega
      | true =>
        rw [hbit] at HH
        have HBt := Lib.hid hbit
        clear hbit
        go_wp2_with fail
        refine HH.out.mono ?_
        rintro e w1 ⟨rfl, hb⟩
        have HB3 := Lib.hid (HB2.out.trans ((chain AL1.out hb).mono HB2.out.size))
        have Q3 := Lib.hid ((HQ.out.keep AL1.out).keep hb)
        have R3 := Lib.hid (RB.out.keep hb)
        have RQ3 := Lib.hid (RQ.out.below hb)
        have HR3 := Lib.hid ((HRw.out.keep AL1.out).keep hb)
        clear hb r0 r1 r2 x0 x1 x2 HH HQ RB RQ HRw HF HBr AL1 HEX
        obtain ⟨r0, r1, r2, -, -, -⟩ := R3.out.three
        by_cases hend : i + 1 = L.length
        · have HE := Lib.hid hend
          obtain ⟨rs, k1, k2, k3⟩ := HR3.out
          have K1 := Lib.hid k1
          have K2 := Lib.hid k2
          clear k1 k2 k3
          have i0' : IntKind.i64.wrap ((i : Int) + 1) = (L.length : Int) := by rw [show (i : Int) + 1 = (L.length : Int) by omega]; exact IntWalk.i64_in _ (by omega)
          have i2 : (i : Int) ≤ (cap : Int) := by omega
          have i5 : i ≤ cap := by omega
          clear hend
          have C0 := Lib.hid (show CellsRow w1.drew base 84 (.slice (some ⟨g, 0, none⟩) L.length cap) L.length (prC rs L) from K2.out)
          obtain ⟨z0, z1, z2, z3, zf0, zf1, zf2, zf3⟩ := Q3.out.quad
          have F := Lib.hid (PairsQ.owned (N' := N) (A := A) (l := l) (d := d) (s := f.2) (c := c) (show Box w1.drew w.heap.size 86 _ from Q3.out) (HR3.out.short i HE.out i5))
          have G := Lib.hid (ownW_row (N := N) (A := A) (l := l) (d := d) (s := f.2) (c := c) Q3.out.drew RQ3.out)
          have D := Lib.hid (ownW_below (N := N) (A := A) (l := l) (d := d) (s := f.2) (c := c) HB3.out.drew (Nat.le_refl _))
          have BX := Lib.hid (ownW_box (N := N) (A := A) (l := l) (d := d) (s := f.2) (c := c) Q3.out.drew)
          by_cases hck : cap = L.length
          · clear HR3 K1 K2
            go_wp2_with fail
            go_region_law (first
              | (refine step_append_room rfl (.tmp 24) (.tmp 28) 79 rfl 84 i0 3 Tryd.underlying79 hinf hz1 g 0 i i (by simp [Act.eval, Act.put]) ⟨g, 0, none⟩ 0 (0) [] (by simp [Act.eval, Act.put]) rfl (by intro j u h; cases h) (by intro u h; cases h) (by omega) (by intro j h; cases h) ?_; simp only [World.setCells, Nat.add_zero]))
            all_goals
              go_wp2_with fail
              refine close_cell Tryd.results57 rfl rfl rfl BX.out Tryd.underlying86 rfl (by kernel_rfl) ⟨i, A, l, d, .slice (some ⟨g, 0, none⟩) i i, hlt, ?_⟩
              rw [← HFI.out]
              exact ⟨HBt.out, rfl, G.out, F.out, D.out⟩
          · clear HR3 K1 K2
            go_wp2_with fail
            go_region_law (first
              | (refine step_append_room rfl (.tmp 24) (.tmp 28) 79 rfl 84 i0 3 Tryd.underlying79 hinf hz1 g 0 i i (by simp [Act.eval, Act.put]) ⟨g, L.length * 3, none⟩ 0 (cap - L.length) [] (by simp [Act.eval, Act.put]) rfl (by intro j u h; cases h) (by intro u h; cases h) (by omega) (by intro j h; cases h) ?_; simp only [World.setCells, Nat.add_zero]))
            all_goals
              go_wp2_with fail
              refine close_cell Tryd.results57 rfl rfl rfl BX.out Tryd.underlying86 rfl (by kernel_rfl) ⟨i, A, l, d, .slice (some ⟨g, 0, none⟩) i i, hlt, ?_⟩
              rw [← HFI.out]
              exact ⟨HBt.out, rfl, G.out, F.out, D.out⟩
        · obtain ⟨rs, k1, k2, k3⟩ := HR3.out
          have K1 := Lib.hid k1
          have K2 := Lib.hid k2
          have K3 := Lib.hid k3
          clear k1 k2 k3
          obtain ⟨k, hk⟩ : ∃ k : Nat, k = i + 1 := ⟨_, rfl⟩
          have HKi := Lib.hid hk
          have i0' : IntKind.i64.wrap ((i : Int) + 1) = (k : Int) := by rw [show (i : Int) + 1 = (k : Int) by omega]; exact IntWalk.i64_in _ (by omega)
          have i1 : (k : Int) ≤ (L.length : Int) := by omega
          have i3 : ¬ cap = k := by omega
          have i4 : k < L.length := by omega
          have HF2 := Lib.hid (show i + (L.length - k) = L.length - 1 by omega)
          clear hk
          have i2 : (i : Int) ≤ (cap : Int) := by omega
          go_wp2_with fail
          have C0 := Lib.hid (show CellsRow w1.drew base 84 (.slice (some ⟨g, 0, none⟩) L.length cap) L.length (prC rs L) from K2.out)
          obtain ⟨z0, z1, z2, z3, zf0, zf1, zf2, zf3⟩ := Q3.out.quad
          go_region_law (first
            | (refine step_append_grows rfl (.tmp 24) (.tmp 28) 79 rfl 84 i0 (.agg #[.int .i64 0, .slice none 0 0, .string ⟨#[]⟩]) 3 48 Tryd.underlying79 hinf hz0 hz1 hz2 rfl (by decide) (some ⟨g, 0, none⟩) i i ((prC rs L).take (i * 3)) (by simp [Act.eval, Act.put]) (by intro h; cases h) (by rw [List.length_take, prC_len rs L K1.out]; omega) (C0.out.olds hpos _) ⟨g, k * 3, none⟩ (L.length - k) (cap - k) ((prC rs L).drop (k * 3)) (by simp [Act.eval, Act.put]) (by rw [List.length_drop, prC_len rs L K1.out]; omega) (C0.out.news hpos _) (fun u hu => prC_one rs L u (List.mem_of_mem_drop hu)) (by omega) (by unfold maxLen; omega) (by omega) ?_; intro v1 y1 hown hgrow; have HO := Lib.hid hown; have HG := Lib.hid hgrow; have QY := Lib.hid (gn_box Q3.out.drew hgrow); have RY := Lib.hid (gn_box R3.out.drew hgrow); clear hown hgrow; obtain ⟨s0', s1', s2', -, -, -⟩ := RY.out.three; obtain ⟨y0', y1', y2', y3', yf0, yf1, yf2, yf3⟩ := QY.out.quad))
          all_goals
            have ho := HO.out
            rw [HF2.out, prC_take rs L K1.out, HKi.out, prC_drop rs L K1.out] at ho
            have F := Lib.hid (PairsQ.erased (b2 := base) K1.out K3.out i (L.length - 1) hlt rfl (ownW_cells (N := N) (A := A) (l := l) (d := d) (s := f.2) (c := c) QY.out ((CellsRow.of ho).low (Nat.le_trans hbase HB3.out.size))) (fun r x q => ownW_row QY.out (q.below (gd_below HG.out))))
            have G := Lib.hid (ownW_row (N := N) (A := A) (l := l) (d := d) (s := f.2) (c := c) QY.out (RQ3.out.below (gd_below HG.out)))
            have D := Lib.hid (ownW_below (N := N) (A := A) (l := l) (d := d) (s := f.2) (c := c) (chainN HB3.out HB3.out.size (gd_below HG.out)) (Nat.le_refl _))
            have BX := Lib.hid (ownW_box (N := N) (A := A) (l := l) (d := d) (s := f.2) (c := c) QY.out)
            clear ho HO HG QY RY C0 K1 K2 K3 HR3 RQ3
            go_wp2_with fail
            refine close_cell Tryd.results57 rfl rfl rfl BX.out Tryd.underlying86 rfl (by kernel_rfl) ⟨i, A, l, d, v1, hlt, ?_⟩
            rw [← HFI.out]
            exact ⟨HBt.out, rfl, G.out, F.out, D.out⟩
    · obtain rfl : i = L.length := by omega
      obtain ⟨j, h1, h2⟩ := HEX.out
      rw [HF.out j h1] at h2
      cases h2
end
section
/- backsub: owner.clear. -/
set_option linter.unusedVariables false
set_option linter.unusedSimpArgs false
open Go.RowKit
set_option maxRecDepth 100000
theorem gr_trans {w w1 w2 : World} {r : Option Nat} (h : w.grownBy w1 r) (k : w1.grownBy w2 r) : w.grownBy w2 r :=
  ⟨k.os.trans h.os, k.tape.trans h.tape, k.output.trans h.output, Nat.le_trans h.size k.size, fun b hb hne => (k.block b (Nat.lt_of_lt_of_le hb h.size) hne).trans (h.block b hb hne)⟩
theorem gr_set (w : World) (g i : Nat) (u : Value) {r : Option Nat} (h : r = some g) : w.grownBy (w.setCell ⟨g, i, none⟩ u) r := by subst h; exact gk_set w g i u
/-- What lies below is kept. -/
theorem gr_low {w0 w w1 : World} {B : Nat} {r : Option Nat} (hb : Below B w0 w) (hB : B ≤ w.heap.size) (h : w.grownBy w1 r) (hr : ∀ g, r = some g → B ≤ g) : Below B w0 w1 :=
  hb.trans ⟨h.os, h.tape, h.output, h.size, fun b hb => h.block b (Nat.lt_of_lt_of_le hb hB) (fun e => by have := hr b e.symm; omega)⟩
theorem PairsQ.block {w0 w : World} {base g c m : Nat} {N : Nat} {L : List PV} (h : PairsQ w0 w base (.slice (some ⟨g, 0, none⟩) m c) N L) (hn : 0 < L.length) : ∃ cur, Box w g 84 cur := by
  obtain ⟨rs, h1, h2, h3⟩ := h
  obtain ⟨g', c', hv, -, -, -, cur, hb⟩ := h2.form hn
  injection hv with hv
  injection hv with hv
  injection hv with hv
  subst hv
  exact ⟨cur, hb⟩
theorem box_ne {w : World} {g b : Nat} {t u : TypeId} {cs ds : Array Value} (h : Box w g t cs) (k : Box w b u ds) (hne : t ≠ u) : g ≠ b := fun e => by
  subst e
  unfold Box at h k
  rw [h] at k
  injection k with k
  injection k with _ k
  exact hne k
section
variable {w0 W : World} {g i N : Nat} {A : Option Addr} {l d : Nat} {s : ByteArray} {cur : Array Value}
theorem prW_row (h : Box W g 84 cur) {n : Nat} {r : RowV} {x : Nat} (q : RowQ w0 W n r x) : RowQ w0 (((W.setCell ⟨g, i * 3, none⟩ (.int .i64 (N : Int))).setCell ⟨g, i * 3 + 1, none⟩ (.slice A l d)).setCell ⟨g, i * 3 + 2, none⟩ (.string s)) n r x := ((q.far h (by decide) _ _).far (h.put _ _) (by decide) _ _).far ((h.put _ _).put _ _) (by decide) _ _
theorem prW_box {b : Nat} {t : TypeId} {cs : Array Value} (q : Box W b t cs) (hne : b ≠ g) : Box (((W.setCell ⟨g, i * 3, none⟩ (.int .i64 (N : Int))).setCell ⟨g, i * 3 + 1, none⟩ (.slice A l d)).setCell ⟨g, i * 3 + 2, none⟩ (.string s)) b t cs := ((q.far (p := ⟨g, i * 3, none⟩) hne _).far (p := ⟨g, i * 3 + 1, none⟩) hne _).far (p := ⟨g, i * 3 + 2, none⟩) hne _
end
/-- A pair stored anew. -/
def prW (W : World) (g i N : Nat) (A : Option Addr) (l d : Nat) (s : ByteArray) : World := ((W.setCell ⟨g, i * 3, none⟩ (.int .i64 (N : Int))).setCell ⟨g, i * 3 + 1, none⟩ (.slice A l d)).setCell ⟨g, i * 3 + 2, none⟩ (.string s)
theorem prW_grown (W : World) (g i N : Nat) (A : Option Addr) (l d : Nat) (s : ByteArray) {r : Option Nat} (h : r = some g) : W.grownBy (prW W g i N A l d s) r := gr_trans (gr_trans (gr_set _ _ _ _ h) (gr_set _ _ _ _ h)) (gr_set _ _ _ _ h)
/-- What clear leaves. -/
def ClrOut (w0 : World) (base N : Nat) (v : Value) (L : List PV) (w : World) (r : Option Nat) (e : Ending) (w' : World) : Prop :=
  (∃ u, e = .returned u) ∧ PairsQ w0 w' base v N L ∧ w.grownBy w' r
set_option maxHeartbeats 4000000 in
theorem pclear_any (N n : Nat) (hN : N ≤ 512) (hn : n ≤ 64) (f : PV) (hf : GoodP N n f) (L : List PV) (hL : ∀ p ∈ L, GoodP N n p) (hlen : L.length ≤ 64) (c : Nat) (hc : c < N) (w0 : World) (base : Nat) (v : Value) (w : World) (hw0 : w0.heap.size ≤ w.heap.size) (hb0 : Below w0.heap.size w0 w) (hbase : w0.heap.size ≤ base)
    (A : Option Addr) (l d : Nat) (hq : RowQ w0 w N ((N : Int), A, l, d) f.1) (hr : PairsQ w0 w base v N L) (r : Option Nat) (hrr : ∀ g c, 0 < L.length → v = .slice (some ⟨g, 0, none⟩) L.length c → r = some g) (hrl : ∀ g, r = some g → w0.heap.size ≤ g) :
    Calls Tryd.prog 58 #[.agg #[.int .i64 (N : Int), .slice A l d, .string f.2, .int .i64 (c : Int)], v] w (ClrOut w0 base N v (clrP c f L) w r) := by
  have b1 : Below w.heap.size w (w.alloc (.cells #[.int .i64 (N : Int), .slice A l d, .string f.2, .int .i64 (c : Int)] 86)) := (Below.refl _ _).alloc (Nat.le_refl _) _
  have Q := Lib.hid (Box.new w 86 #[.int .i64 (N : Int), .slice A l d, .string f.2, .int .i64 (c : Int)])
  have HR := Lib.hid (hr.keep b1)
  have HQ := Lib.hid (hq.below b1)
  have HB := Lib.hid b1
  have HL := Lib.hid hL
  have HF := Lib.hid hf
  have HB0 := Lib.hid hb0
  have HRR := Lib.hid hrr
  have HRL := Lib.hid hrl
  obtain ⟨A0, cap, rfl, hcap, hcm⟩ := hr.form0
  unfold maxLen at hcm
  clear hr b1 hL hb0 hq hf hrr hrl
  go_enter Tryd.func58, Tryd.ntmps58
  go_wp2_with fail
  go_loopw [8] (fun t wr => ∃ i : Nat, i ≤ L.length ∧ t = .int .i64 (i : Int) ∧ Hid (Box wr w.heap.size 86 #[.int .i64 (N : Int), .slice A l d, .string f.2, .int .i64 (c : Int)]) ∧ Hid (RowQ w0 wr N ((N : Int), A, l, d) f.1) ∧ Hid (PairsQ w0 wr base (.slice A0 L.length cap) N (clrU c f L i)) ∧ Hid (w.grownBy wr r)) (fun t _ => L.length - (intOf t).toNat)
  case atStart => exact ⟨0, Nat.zero_le _, rfl, Q, HQ, Lib.hid (by rw [clrU_zero]; exact HR.out), Lib.hid (gk_below HB.out)⟩
  case round =>
    obtain ⟨i, hi, rfl, QB, RQ, PQ, HG⟩ := hrel
    have HCL := Lib.hid (clrU_len c f L i hi)
    have hws : w.heap.size < wr.heap.size := QB.out.lt
    by_cases hlt : i < L.length
    · have hlt' : (i : Int) < (L.length : Int) := by omega
      have pq := PQ.out
      obtain ⟨g, cap', hv, hgb, hgw, -, -⟩ := pq.form (by rw [HCL.out]; omega)
      injection hv with hv hc1 hcc
      subst hv
      clear hc1 hcc
      have HRg := Lib.hid (HRR.out g cap (by omega) rfl)
      rw [show L.length = (clrU c f L i).length from HCL.out.symm] at pq
      obtain ⟨A1, l1, d1, x0, x1, x2, rq, -, -, -⟩ := pq.at i (by rw [HCL.out]; exact hlt)
      have gp := clrU_good HF.out HL.out i _ (getD_memP (L := clrU c f L i) (i := i) (by rw [HCL.out]; exact hlt))
      rw [clrU_here c f L i hlt] at x2 rq gp
      obtain ⟨p, hp⟩ : ∃ p, p = L.getD i pv0 := ⟨_, rfl⟩
      rw [← hp] at x2 rq gp
      have GP := Lib.hid gp
      have HPI := Lib.hid hp
      have HBz := Lib.hid (gr_low HB0.out hw0 HG.out HRL.out)
      clear hp gp pq
      have al : Below wr.heap.size wr (wr.alloc (.cells #[.int .i64 (N : Int), .slice A1 l1 d1, .string p.2] 84)) := (Below.refl _ _).alloc (Nat.le_refl _) _
      have RB := Lib.hid (Box.new wr 84 #[.int .i64 (N : Int), .slice A1 l1 d1, .string p.2])
      have AL1 := Lib.hid al
      have RP := Lib.hid (rq.below al)
      have HW := Lib.hid (RP.out.words (Nat.le_refl _) (chainN HBz.out (by omega) al))
      have HH := Lib.hid (pairHas_any N p.1 hN GP.out.1 A1 l1 d1 c p.2 hc _ HW.out)
      obtain ⟨r0, r1, r2, -, -, -⟩ := RB.out.three
      obtain ⟨q0, q1, q2, q3, -, -, -, -⟩ := (QB.out.keep al).quad
      clear al rq HW
      cases hbit : p.1.testBit c with
      | false =>
        rw [hbit] at HH
        have HNo := Lib.hid (clrU_no c f L i hlt (by rw [← HPI.out]; exact hbit))
        clear hbit
        go_wp2_with fail
        refine HH.out.mono ?_
        rintro e w1 ⟨rfl, hb⟩
        have HC := Lib.hid (chain AL1.out hb)
        clear hb
        go_wp2_with fail
        go_roundw
        case rel => exact ⟨i + 1, by omega, by go_num, Lib.hid (QB.out.keep HC.out), Lib.hid (RQ.out.below HC.out), Lib.hid (by rw [HNo.out]; exact PQ.out.keep HC.out), Lib.hid (gr_trans HG.out (gk_below HC.out))⟩
        case measure => simp [intOf]; omega
      | true =>
        rw [hbit] at HH
        have HYes := Lib.hid (clrU_yes c f L i hlt (by rw [← HPI.out]; exact hbit))
        clear hbit
        go_wp2_with fail
        refine HH.out.mono ?_
        rintro e w1 ⟨rfl, hb⟩
        have HC := Lib.hid (chain AL1.out hb)
        have QB1 := Lib.hid (QB.out.keep HC.out)
        have RQ1 := Lib.hid (RQ.out.below HC.out)
        have PQ1 := Lib.hid (PQ.out.keep HC.out)
        have HG1 := Lib.hid (gr_trans HG.out (gk_below HC.out))
        have R1 := Lib.hid (RB.out.keep hb)
        have RP1 := Lib.hid (RP.out.below hb)
        have HBz1 := Lib.hid (chainN HBz.out (by omega) HC.out)
        clear hb QB RQ PQ HG RB RP HBz AL1 r0 r1 r2 q0 q1 q2 q3 x0 x1 x2 HH
        obtain ⟨r0, r1, r2, -, -, -⟩ := R1.out.three
        obtain ⟨q0, q1, q2, q3, -, -, -, -⟩ := QB1.out.quad
        have HX := Lib.hid (plus_any N n hN hn p f GP.out HF.out A1 A l1 d1 l d w1 (RP1.out.words (Nat.le_refl _) HBz1.out) (RQ1.out.words (Nat.le_refl _) HBz1.out))
        go_wp2_with fail
        refine HX.out.mono ?_
        rintro e w2 ⟨A3, l3, d3, rfl, ow, hb⟩
        have HC2 := Lib.hid (chainN HC.out HC.out.size hb)
        have QB2 := Lib.hid (QB1.out.keep hb)
        have RQ2 := Lib.hid (RQ1.out.below hb)
        have pq2 := PQ1.out.keep hb
        have HG2 := Lib.hid (gr_trans HG1.out (gk_below hb))
        have OW := Lib.hid (show RowQ w0 w2 N ((N : Int), A3, l3, d3) (plusP p f).1 from ⟨rfl, ow.ok, .inr ow⟩)
        rw [show L.length = (clrU c f L i).length from HCL.out.symm] at pq2
        have PQ2 := Lib.hid pq2
        obtain ⟨A5, l5, d5, z0, z1, z2, -, zf0, zf1, zf2⟩ := pq2.at i (by rw [HCL.out]; exact hlt)
        have hgw2 : g < w2.heap.size := Nat.lt_of_lt_of_le hgw HC2.out.size
        obtain ⟨cur, hcur⟩ := pq2.block (by rw [HCL.out]; omega)
        have HCur := Lib.hid hcur
        have n1 : ¬ w.heap.size = g := box_ne QB2.out hcur (by decide)
        clear hcur
        clear hb ow QB1 RQ1 PQ1 HG1 R1 RP1 HBz1 HX r0 r1 r2 q0 q1 q2 q3 pq2
        go_wp2_with fail
        go_roundw
        case rel =>
          have hput := PQ2.out.put i (by rw [HCL.out]; exact hlt) (plusP p f) OW.out
          rw [HPI.out, ← HYes.out, HCL.out] at hput
          rw [← HPI.out] at hput
          exact ⟨i + 1, by omega, by go_num, Lib.hid (prW_box QB2.out n1), Lib.hid (prW_row HCur.out RQ2.out), Lib.hid hput, Lib.hid (gr_trans HG2.out (prW_grown w2 g i N A3 l3 d3 (plusP p f).2 HRg.out))⟩
        case measure => simp [intOf]; omega
    · obtain rfl : i = L.length := by omega
      have hlt' : ¬ (L.length : Int) < (L.length : Int) := by omega
      have pq := PQ.out
      rw [clrU_all] at pq
      go_wp2_with fail
      go_end0
      exact ⟨⟨_, rfl⟩, pq, HG.out⟩
end
section
/- backsub: owners in memory; allNought. -/
set_option linter.unusedVariables false
set_option linter.unusedSimpArgs false
open Go.RowKit
set_option maxRecDepth 100000
/-- The cells of owners. -/
def owC : List RowV → List PV → List Nat → List Value
  | r :: rs, p :: L, q :: P => .int .i64 r.1 :: .slice r.2.1 r.2.2.1 r.2.2.2 :: .string p.2 :: .int .i64 (q : Int) :: owC rs L P
  | _, _, _ => []
theorem owC_len : ∀ (rs : List RowV) (L : List PV) (P : List Nat), rs.length = L.length → P.length = L.length → (owC rs L P).length = L.length * 4
  | [], [], [], _, _ => rfl
  | r :: rs, p :: L, q :: P, h, k => by simp only [owC, List.length_cons, owC_len rs L P (by simpa using h) (by simpa using k)]; omega
theorem owC_at : ∀ (rs : List RowV) (L : List PV) (P : List Nat), rs.length = L.length → P.length = L.length → ∀ i, i < L.length → (owC rs L P)[i * 4]? = some (.int .i64 (rs.getD i (0, none, 0, 0)).1) ∧ (owC rs L P)[i * 4 + 1]? = some (.slice (rs.getD i (0, none, 0, 0)).2.1 (rs.getD i (0, none, 0, 0)).2.2.1 (rs.getD i (0, none, 0, 0)).2.2.2) ∧ (owC rs L P)[i * 4 + 2]? = some (.string (L.getD i pv0).2) ∧ (owC rs L P)[i * 4 + 3]? = some (.int .i64 (P.getD i 0 : Nat))
  | [], [], [], _, _, i, h => by cases h
  | r :: rs, p :: L, q :: P, _, _, 0, _ => ⟨rfl, rfl, rfl, rfl⟩
  | r :: rs, p :: L, q :: P, h, k, i + 1, hi => by
    have ih := owC_at rs L P (by simpa using h) (by simpa using k) i (by simpa using hi)
    rw [show (i + 1) * 4 = i * 4 + 4 by omega]
    simp only [owC]
    exact ⟨ih.1, ih.2.1, ih.2.2.1, ih.2.2.2⟩
theorem owC_set : ∀ (rs : List RowV) (L : List PV) (P : List Nat), rs.length = L.length → P.length = L.length → ∀ i, i < L.length → ∀ (r : RowV) (p : PV), (((owC rs L P).set (i * 4) (.int .i64 r.1)).set (i * 4 + 1) (.slice r.2.1 r.2.2.1 r.2.2.2)).set (i * 4 + 2) (.string p.2) = owC (rs.set i r) (L.set i p) P
  | [], [], [], _, _, i, h, _, _ => by cases h
  | r0 :: rs, p0 :: L, q0 :: P, _, _, 0, _, r, p => rfl
  | r0 :: rs, p0 :: L, q0 :: P, h, k, i + 1, hi, r, p => by
    have ih := owC_set rs L P (by simpa using h) (by simpa using k) i (by simpa using hi) r p
    rw [show (i + 1) * 4 = i * 4 + 4 by omega, show i * 4 + 4 + 1 = i * 4 + 1 + 4 by omega, show i * 4 + 4 + 2 = i * 4 + 2 + 4 by omega]
    simp only [owC, List.set_cons_succ]
    rw [ih]
theorem owC_snoc : ∀ (rs : List RowV) (L : List PV) (P : List Nat), rs.length = L.length → P.length = L.length → ∀ (r : RowV) (p : PV) (q : Nat), owC (rs ++ [r]) (L ++ [p]) (P ++ [q]) = owC rs L P ++ [.int .i64 r.1, .slice r.2.1 r.2.2.1 r.2.2.2, .string p.2, .int .i64 (q : Int)]
  | [], [], [], _, _, r, p, q => rfl
  | r0 :: rs, p0 :: L, q0 :: P, h, k, r, p, q => by simp only [List.cons_append, owC, owC_snoc rs L P (by simpa using h) (by simpa using k) r p q]
/-- A row of owners of the call's own. -/
def OwnersQ (w0 w : World) (base : Nat) (v : Value) (N : Nat) (L : List PV) (P : List Nat) : Prop :=
  ∃ rs : List RowV, rs.length = L.length ∧ P.length = L.length ∧ w.ownsRow base 86 4 v L.length (owC rs L P) ∧ ∀ j, j < L.length → RowQ w0 w N (rs.getD j (0, none, 0, 0)) (L.getD j pv0).1
section
variable {w0 w w' : World} {base : Nat} {v : Value} {N : Nat} {L : List PV} {P : List Nat}
theorem OwnersQ.keep (h : OwnersQ w0 w base v N L P) (hb : Below w.heap.size w w') : OwnersQ w0 w' base v N L P := by
  obtain ⟨rs, h1, h2, h3, h4⟩ := h
  exact ⟨rs, h1, h2, own_keep h3 hb, fun j hj => (h4 j hj).below hb⟩
theorem OwnersQ.far (h : OwnersQ w0 w base v N L P) {g : Nat} {t : TypeId} {cs : Array Value} (hb : Box w g t cs) (hne : 63 ≠ t) (hne2 : 86 ≠ t) (i : Nat) (u : Value) : OwnersQ w0 (w.setCell ⟨g, i, none⟩ u) base v N L P := by
  obtain ⟨rs, h1, h2, h3, h4⟩ := h
  exact ⟨rs, h1, h2, own_far h3 hb hne2 i u, fun j hj => (h4 j hj).far hb hne i u⟩
theorem OwnersQ.form (h : OwnersQ w0 w base v N L P) (hn : 0 < L.length) : ∃ g c, v = .slice (some ⟨g, 0, none⟩) L.length c ∧ base ≤ g ∧ g < w.heap.size ∧ L.length ≤ c ∧ c ≤ maxLen ∧ ∃ cur, Box w g 86 cur := by
  obtain ⟨rs, h1, h2, h3, h4⟩ := h
  rcases h3.2 with ⟨hv, hz⟩ | ⟨g, cap, cur, hv, hb, hh, hc, hm, -⟩
  · omega
  · exact ⟨g, cap, hv, hb, (show Box w g _ cur from hh).lt, hc, hm, cur, hh⟩
theorem OwnersQ.form0 (h : OwnersQ w0 w base v N L P) : ∃ A c, v = .slice A L.length c ∧ L.length ≤ c ∧ c ≤ maxLen := by
  obtain ⟨rs, h1, h2, h3, h4⟩ := h
  obtain ⟨A, c, e, -⟩ := own_form h3
  refine ⟨A, c, e, ?_⟩
  rcases h3.2 with ⟨hv, hz⟩ | ⟨g, cap, cur, hv, hb, hh, hc, hm, -⟩
  · rw [hv] at e; injection e with _ _ e; exact ⟨by omega, by rw [← e]; simp [maxLen]⟩
  · rw [hv] at e; injection e with _ _ e; subst e; exact ⟨hc, hm⟩
theorem OwnersQ.at {g c : Nat} (h : OwnersQ w0 w base (.slice (some ⟨g, 0, none⟩) L.length c) N L P) (i : Nat) (hi : i < L.length) :
    ∃ A l d, w.cell? ⟨g, i * 4, none⟩ = some (.int .i64 N) ∧ w.cell? ⟨g, i * 4 + 1, none⟩ = some (.slice A l d) ∧ w.cell? ⟨g, i * 4 + 2, none⟩ = some (.string (L.getD i pv0).2) ∧ w.cell? ⟨g, i * 4 + 3, none⟩ = some (.int .i64 (P.getD i 0 : Nat)) ∧ RowQ w0 w N ((N : Int), A, l, d) (L.getD i pv0).1 ∧ w.frozen? ⟨g, i * 4, none⟩ = false ∧ w.frozen? ⟨g, i * 4 + 1, none⟩ = false ∧ w.frozen? ⟨g, i * 4 + 2, none⟩ = false ∧ w.frozen? ⟨g, i * 4 + 3, none⟩ = false := by
  obtain ⟨rs, h1, h2, h3, h4⟩ := h
  obtain ⟨a1, a2, a3, a4⟩ := owC_at rs L P h1 h2 i hi
  have q := h4 i hi
  have hc := World.ownsRow.cells h3 (g := g) rfl
  have c1 := hc _ _ a1
  have c2 := hc _ _ a2
  have c3 := hc _ _ a3
  have c4 := hc _ _ a4
  rw [add_zeroM] at c1 c2 c3 c4
  rw [q.1] at c1
  exact ⟨_, _, _, c1, c2, c3, c4, ⟨rfl, q.2.1, q.2.2⟩, h3.frozenAt _, h3.frozenAt _, h3.frozenAt _, h3.frozenAt _⟩
/-- A pair is put in place of an owner's. -/
theorem OwnersQ.put {g c : Nat} (h : OwnersQ w0 w base (.slice (some ⟨g, 0, none⟩) L.length c) N L P) (i : Nat) (hi : i < L.length) (p : PV) {A : Option Addr} {l d : Nat} (hw : RowQ w0 w N ((N : Int), A, l, d) p.1) :
    OwnersQ w0 (((w.setCell ⟨g, i * 4, none⟩ (.int .i64 N)).setCell ⟨g, i * 4 + 1, none⟩ (.slice A l d)).setCell ⟨g, i * 4 + 2, none⟩ (.string p.2)) base (.slice (some ⟨g, 0, none⟩) L.length c) N (L.set i p) P := by
  obtain ⟨g', c', hv, -, -, -, -, cur, hbx⟩ := h.form (by omega)
  injection hv with hv
  injection hv with hv
  injection hv with hv
  subst hv
  obtain ⟨rs, h1, h2, h3, h4⟩ := h
  have s := ((h3.stored (i * 4) (.int .i64 N)).1.stored (i * 4 + 1) (.slice A l d)).1.stored (i * 4 + 2) (.string p.2) |>.1
  rw [show (((owC rs L P).set (i * 4) (.int .i64 (N : Int))).set (i * 4 + 1) (.slice A l d)).set (i * 4 + 2) (.string p.2) = owC (rs.set i ((N : Int), A, l, d)) (L.set i p) P from owC_set rs L P h1 h2 i hi ((N : Int), A, l, d) p] at s
  have far : ∀ {r : RowV} {x : Nat}, RowQ w0 w N r x → RowQ w0 (((w.setCell ⟨g, i * 4, none⟩ (.int .i64 N)).setCell ⟨g, i * 4 + 1, none⟩ (.slice A l d)).setCell ⟨g, i * 4 + 2, none⟩ (.string p.2)) N r x := fun q => ((q.far hbx (by decide) _ _).far (hbx.put _ _) (by decide) _ _).far ((hbx.put _ _).put _ _) (by decide) _ _
  refine ⟨rs.set i ((N : Int), A, l, d), by simp [h1], by rw [List.length_set]; exact h2, by rw [List.length_set]; exact s, fun j hj => ?_⟩
  rw [List.length_set] at hj
  rw [set_getD L i j p hj]
  by_cases e : i = j
  · subst e
    have e1 : (rs.set i ((N : Int), A, l, d)).getD i (0, none, 0, 0) = ((N : Int), A, l, d) := by simp [List.getD, h1, hi]
    rw [e1, if_pos rfl]
    exact far hw
  · have e1 : (rs.set i ((N : Int), A, l, d)).getD j (0, none, 0, 0) = rs.getD j (0, none, 0, 0) := by simp only [List.getD]; rw [List.getElem?_set_ne e]
    rw [e1, if_neg e]
    exact far (h4 j hj)
end
/-- Are all blocks nought? -/
def noughtP (L : List PV) : Bool := L.all fun p => noughtL p.2.data.toList
theorem noughtP_snoc (L : List PV) (i : Nat) (h : i < L.length) : noughtP (L.take (i + 1)) = (noughtP (L.take i) && noughtL (L.getD i pv0).2.data.toList) := by
  unfold noughtP
  rw [List.take_succ_eq_append_getElem h, List.all_append]; simp only [List.getD, List.getElem?_eq_getElem h, Option.getD_some, List.all_cons, List.all_nil, Bool.and_true]
theorem noughtP_not (L : List PV) (i : Nat) (h : i < L.length) (hz : noughtL (L.getD i pv0).2.data.toList = false) : noughtP L = false := by
  rw [Bool.eq_false_iff]
  intro ha
  have := List.all_eq_true.1 ha _ (getD_memP h)
  rw [hz] at this; cases this
theorem allNought_any (N : Nat) (L : List PV) (hL : ∀ p ∈ L, p.2.size ≤ 64) (hlen : L.length ≤ 64) (w0 : World) (base : Nat) (v : Value) (w : World) (hr : PairsQ w0 w base v N L) :
    Calls Tryd.prog 38 #[v] w fun e w' => e = .returned (.bool (noughtP L)) ∧ Below w.heap.size w w' := by
  have HR := Lib.hid hr
  have HL := Lib.hid hL
  obtain ⟨A0, cap, rfl, hcap, hcm⟩ := hr.form0
  unfold maxLen at hcm
  clear hr hL
  go_enter Tryd.func38, Tryd.ntmps38
  go_wp2_with fail
  go_loopw [7] (fun t wr => ∃ i : Nat, i ≤ L.length ∧ t = .int .i64 (i : Int) ∧ Hid (noughtP (L.take i) = true) ∧ Hid (Below w.heap.size w wr)) (fun t _ => L.length - (intOf t).toNat)
  case atStart => exact ⟨0, Nat.zero_le _, rfl, Lib.hid (by simp [noughtP]), Lib.hid (Below.refl _ _)⟩
  case round =>
    obtain ⟨i, hi, rfl, HN, HB⟩ := hrel
    by_cases hlt : i < L.length
    · have hlt' : (i : Int) < (L.length : Int) := by omega
      have pq := HR.out.keep HB.out
      obtain ⟨g, cap', hv, hgb, hgw, -, -⟩ := pq.form (by omega)
      injection hv with hv hc1 hcc
      subst hv
      clear hc1 hcc
      obtain ⟨A1, l1, d1, x0, x1, x2, rq, -, -, -⟩ := pq.at i hlt
      have gp := HL.out _ (getD_memP hlt)
      obtain ⟨p, hp⟩ : ∃ p, p = L.getD i pv0 := ⟨_, rfl⟩
      rw [← hp] at x2 gp
      have GP := Lib.hid gp
      have HPI := Lib.hid hp
      have al : Below wr.heap.size wr (wr.alloc (.cells #[.int .i64 (N : Int), .slice A1 l1 d1, .string p.2] 84)) := (Below.refl _ _).alloc (Nat.le_refl _) _
      have RB := Lib.hid (Box.new wr 84 #[.int .i64 (N : Int), .slice A1 l1 d1, .string p.2])
      have AL1 := Lib.hid al
      have HH := Lib.hid (fun W => nought_any p.2 (by have := GP.out; unfold maxLen; omega) W)
      obtain ⟨r0, r1, r2, -, -, -⟩ := RB.out.three
      clear al rq gp hp pq
      cases hbit : noughtL p.2.data.toList with
      | true =>
        rw [hbit] at HH
        have HNo := Lib.hid (show noughtP (L.take (i + 1)) = true by rw [noughtP_snoc L i hlt, HN.out, ← HPI.out, hbit]; rfl)
        clear hbit
        go_wp2_with fail
        refine (HH.out _).mono ?_
        rintro e w1 ⟨rfl, rfl⟩
        go_wp2_with fail
        go_roundw
        case rel => exact ⟨i + 1, by omega, by go_num, HNo, Lib.hid (chain HB.out AL1.out)⟩
        case measure => simp [intOf]; omega
      | false =>
        rw [hbit] at HH
        have HNo := Lib.hid (noughtP_not L i hlt (by rw [← HPI.out]; exact hbit))
        clear hbit
        go_wp2_with fail
        refine (HH.out _).mono ?_
        rintro e w1 ⟨rfl, rfl⟩
        go_wp2_with fail
        go_ret
        exact ⟨by rw [HNo.out]; rfl, chain HB.out AL1.out⟩
    · obtain rfl : i = L.length := by omega
      have hlt' : ¬ (L.length : Int) < (L.length : Int) := by omega
      have HE := Lib.hid (show noughtP L = true by have := HN.out; rwa [List.take_of_length_le (Nat.le_refl _)] at this)
      go_wp2_with fail
      go_ret
      exact ⟨by rw [HE.out]; rfl, HB.out⟩
end
section
/- What a store into blocks of one type leaves as it was. -/
set_option linter.unusedVariables false
set_option linter.unusedSimpArgs false
open Go.RowKit
set_option maxRecDepth 100000
/-- Only a block of type t was written, and new ones made. -/
def PC (w w1 : World) (t : TypeId) : Prop := ∃ r, w.grownBy w1 r ∧ ∀ g, r = some g → ∃ cur, Box w g t cur
theorem PC.of_below {w w1 : World} (t : TypeId) (h : Below w.heap.size w w1) : PC w w1 t := ⟨none, gk_below h, fun _ e => by cases e⟩
section
variable {w w1 : World} {t : TypeId}
theorem PC.ne {b : Nat} {t' : TypeId} {cs : Array Value} (k : Box w b t' cs) (hne : t' ≠ t) {r : Option Nat} (hr : ∀ g, r = some g → ∃ cur, Box w g t cur) : some b ≠ r := fun e => by
  obtain ⟨cur, hb⟩ := hr b e.symm
  exact box_ne k hb hne rfl
theorem PC.box (h : PC w w1 t) {b : Nat} {t' : TypeId} {cs : Array Value} (k : Box w b t' cs) (hne : t' ≠ t) : Box w1 b t' cs := by
  obtain ⟨r, hg, hr⟩ := h
  exact (hg.block b k.lt (PC.ne k hne hr)).trans k
theorem PC.own (h : PC w w1 t) {base e size n : Nat} {v : Value} {xs : List Value} (k : w.ownsRow base e size v n xs) (hne : e ≠ t) : w1.ownsRow base e size v n xs := by
  refine ⟨k.1, ?_⟩
  rcases k.2 with ⟨hv, hz⟩ | ⟨g, cap, cur, hv, hb, hh, hc, hm, h1, h2⟩
  · exact .inl ⟨hv, hz⟩
  · exact .inr ⟨g, cap, cur, hv, hb, h.box (show Box w g e cur from hh) hne, hc, hm, h1, h2⟩
theorem PC.row (h : PC w w1 t) {w0 : World} {N : Nat} {r : RowV} {x : Nat} (q : RowQ w0 w N r x) (hne : 63 ≠ t) : RowQ w0 w1 N r x := ⟨q.1, q.2.1, q.2.2.imp id (fun o => h.own o hne)⟩
theorem PC.owners (h : PC w w1 t) {w0 : World} {base N : Nat} {v : Value} {L : List PV} {P : List Nat} (q : OwnersQ w0 w base v N L P) (hne : 63 ≠ t) (hne2 : 86 ≠ t) : OwnersQ w0 w1 base v N L P := by
  obtain ⟨rs, h1, h2, h3, h4⟩ := q
  exact ⟨rs, h1, h2, h.own h3 hne2, fun j hj => h.row (h4 j hj) hne⟩
theorem PC.pairs (h : PC w w1 t) {w0 : World} {base N : Nat} {v : Value} {L : List PV} (q : PairsQ w0 w base v N L) (hne : 63 ≠ t) (hne2 : 84 ≠ t) : PairsQ w0 w1 base v N L := by
  obtain ⟨rs, h1, ⟨A, c, a1, a2, a3, a4⟩, h3⟩ := q
  exact ⟨rs, h1, ⟨A, c, a1, a2, a3, fun hn => by obtain ⟨g, cur, b1, b2, b3, b4⟩ := a4 hn; exact ⟨g, cur, b1, b2, h.box b3 hne2, b4⟩⟩, fun j hj => h.row (h3 j hj) hne⟩
theorem PC.low {B : Nat} {w0 : World} (h : PC w w1 t) (hb : Below B w0 w) (hB : B ≤ w.heap.size) (hl : ∀ b cs, Box w b t cs → b < B → False) : Below B w0 w1 := by
  obtain ⟨r, hg, hr⟩ := h
  exact gr_low hb hB hg (fun g e => by obtain ⟨cur, k⟩ := hr g e; rcases Nat.lt_or_ge g B with h | h; exact (hl g cur k h).elim; exact h)
theorem PC.size (h : PC w w1 t) : w.heap.size ≤ w1.heap.size := h.choose_spec.1.size
end
/-- Owners stored anew. -/
theorem OwnersQ.pc {w0 w : World} {base N g c : Nat} {L : List PV} {P : List Nat} (h : OwnersQ w0 w base (.slice (some ⟨g, 0, none⟩) L.length c) N L P) (hn : 0 < L.length) (i : Nat) (a b d : Value) : PC w (((w.setCell ⟨g, i, none⟩ a).setCell ⟨g, i + 1, none⟩ b).setCell ⟨g, i + 2, none⟩ d) 86 := by
  obtain ⟨g', c', hv, -, -, -, -, cur, hbx⟩ := h.form hn
  injection hv with hv
  injection hv with hv
  injection hv with hv
  subst hv
  exact ⟨some g, gr_trans (gr_trans (gr_set _ _ _ _ rfl) (gr_set _ _ _ _ rfl)) (gr_set _ _ _ _ rfl), fun g2 e => by injection e with e; subst e; exact ⟨cur, hbx⟩⟩
/-- The free ones that are chosen from hold the column. -/
theorem has_next {N n : Nat} {Z M P : List Nat} {O F : List PV} {k : Nat} (h : Elim Z P k (O.map (zOf N)) (F.map (zOf N))) (hr : Rref M P) (hs : SameSp (Z.map (lowN N)) M) (hk : k < P.length) (hF : ∀ p ∈ F, GoodP N n p) : ∃ i, i < F.length ∧ (F.getD i pv0).1.testBit (P.getD k 0) = true := by
  obtain ⟨i, hi, hb⟩ := h.some hr hs hk
  rw [List.length_map] at hi
  rw [mapz_at N F i hi, z_bit (hF _ (getD_memP hi)), if_pos (place_lt (rows_lt hs) hr k hk)] at hb
  exact ⟨i, hi, hb⟩
theorem elim_next {N n : Nat} {Z M P : List Nat} {O F : List PV} {k : Nat} (h : Elim Z P k (O.map (zOf N)) (F.map (zOf N))) (hr : Rref M P) (hs : SameSp (Z.map (lowN N)) M) (hk : k < P.length) (hO : ∀ p ∈ O, GoodP N n p) (hF : ∀ p ∈ F, GoodP N n p) (i : Nat) (hi : i < F.length) (hb : (F.getD i pv0).1.testBit (P.getD k 0) = true) :
    Elim Z P (k + 1) ((clrP (P.getD k 0) (F.getD i pv0) O ++ [F.getD i pv0]).map (zOf N)) ((clrP (P.getD k 0) (F.getD i pv0) (F.eraseIdx i)).map (zOf N)) := by
  have hc := place_lt (rows_lt hs) hr k hk
  have gf := hF _ (getD_memP hi)
  have h' := h.step i (by rw [List.length_map]; exact hi) (by rw [mapz_at N F i hi, z_bit gf, if_pos hc]; exact hb)
  rw [mapz_at N F i hi] at h'
  rw [List.map_append, clrP_z hc gf hO, clrP_z hc gf (fun p hp => hF p (List.mem_of_mem_eraseIdx hp)), erase_z]
  exact h'
theorem own_setOther {w : World} {base e size n : Nat} {v : Value} {xs : List Value} (h : w.ownsRow base e size v n xs) {b : Nat} (hne : ∀ g c, v = .slice (some ⟨g, 0, none⟩) n c → g ≠ b) (i : Nat) (u : Value) : (w.setCell ⟨b, i, none⟩ u).ownsRow base e size v n xs := by
  refine ⟨h.1, ?_⟩
  rcases h.2 with ⟨hv, hz⟩ | ⟨g, cap, cur, hv, hb, hh, hc, hm, h1, h2⟩
  · exact .inl ⟨hv, hz⟩
  · exact .inr ⟨g, cap, cur, hv, hb, Box.far (show Box w g e cur from hh) (p := ⟨b, i, none⟩) (hne g cap hv) u, hc, hm, h1, h2⟩
theorem OwnersQ.lt {w0 w : World} {base N : Nat} {v : Value} {L : List PV} {P : List Nat} (h : OwnersQ w0 w base v N L P) : ∀ g c, v = .slice (some ⟨g, 0, none⟩) L.length c → base ≤ g ∧ g < w.heap.size := by
  obtain ⟨rs, h1, h2, h3, h4⟩ := h
  intro g c hv
  exact h3.lt g (by rw [hv]; rfl)
theorem OwnersQ.ownW {w0 W : World} {b N' : Nat} {A : Option Addr} {l d : Nat} {s : ByteArray} {c : Nat} {x1 x2 x3 x4 : Value} (hb : Box W b 86 #[x1, x2, x3, x4]) {base N : Nat} {v : Value} {L : List PV} {P : List Nat} (h : OwnersQ w0 W base v N L P) (hne : ∀ g c, v = .slice (some ⟨g, 0, none⟩) L.length c → g ≠ b) : OwnersQ w0 (YtdfmogcgangdnaaDoor.ownW W b N' A l d s c) base v N L P := by
  obtain ⟨rs, h1, h2, h3, h4⟩ := h
  exact ⟨rs, h1, h2, own_setOther (own_setOther (own_setOther (own_setOther h3 hne _ _) hne _ _) hne _ _) hne _ _, fun j hj => ownW_row hb (h4 j hj)⟩
theorem own_ownW {W : World} {b N' : Nat} {A : Option Addr} {l d : Nat} {s : ByteArray} {c : Nat} {x1 x2 x3 x4 : Value} (hb : Box W b 86 #[x1, x2, x3, x4]) {base e size n : Nat} {v : Value} {xs : List Value} (h : W.ownsRow base e size v n xs) (hne : e ≠ 86) : (YtdfmogcgangdnaaDoor.ownW W b N' A l d s c).ownsRow base e size v n xs :=
  own_far (own_far (own_far (own_far h hb hne 0 _) (hb.put 0 _) hne 1 _) ((hb.put 0 _).put 1 _) hne 2 _) (((hb.put 0 _).put 1 _).put 2 _) hne 3 _
theorem rref_len {N : Nat} {M P : List Nat} (h : Rref M P) (hM : ∀ r, r ∈ M → r < 2 ^ N) : M.length ≤ N := by
  have key : ∀ k, k ≤ P.length → ∀ j, j < k → j ≤ P.getD j 0 := by
    intro k
    induction k with
    | zero => intro _ j hj; omega
    | succ k ih =>
      intro hk j hj
      by_cases e : j < k
      · exact ih (by omega) j e
      · obtain rfl : j = k := by omega
        rcases Nat.eq_zero_or_pos j with rfl | hp
        · omega
        · have h1 := ih (by omega) (j - 1) (by omega)
          have h2 := h.rise (j - 1) j (by omega) (by rw [h.len]; omega)
          omega
  rw [h.len]
  rcases Nat.eq_zero_or_pos P.length with h0 | h0
  · omega
  · have h1 := key P.length (Nat.le_refl _) (P.length - 1) (by omega)
    have h2 := place_lt hM h (P.length - 1) (by omega)
    omega
theorem own_blk {w : World} {base e size n : Nat} {v : Value} {xs : List Value} (h : w.ownsRow base e size v n xs) : ∀ g, v.ownBlock = some g → base ≤ g ∧ ∃ cur, Box w g e cur := by
  intro g hg
  have hl := (h.lt g hg).1
  rcases h.2 with ⟨hv, hz⟩ | ⟨g', cap, cur, hv, hb, hh, -⟩
  · subst hv; cases hg
  · subst hv
    injection hg with hg
    subst hg
    exact ⟨hl, cur, hh⟩
theorem owner_info : (Tryd.prog.info? 86).map (fun i => (i.zero, i.size, i.bytes)) = some (some (.agg #[.int .i64 0, .slice none 0 0, .string ⟨#[]⟩, .int .i64 0]), 4, 56) := by kernel_rfl
theorem OwnersQ.snoc {w0 w : World} {base N : Nat} {v : Value} {L : List PV} {P : List Nat} {rs : List RowV} (h1 : rs.length = L.length) (h2 : P.length = L.length) (h4 : ∀ j, j < L.length → RowQ w0 w N (rs.getD j (0, none, 0, 0)) (L.getD j pv0).1) {A : Option Addr} {l d q : Nat} {f : PV} (hq : RowQ w0 w N ((N : Int), A, l, d) f.1)
    (ho : w.ownsRow base 86 4 v (L.length + 1) (owC rs L P ++ [.int .i64 (N : Int), .slice A l d, .string f.2, .int .i64 (q : Int)])) : OwnersQ w0 w base v N (L ++ [f]) (P ++ [q]) := by
  refine ⟨rs ++ [((N : Int), A, l, d)], by simp [h1], by simp [h2], by rw [owC_snoc rs L P h1 h2, List.length_append]; exact ho, fun j hj => ?_⟩
  rw [List.length_append] at hj
  by_cases e : j < L.length
  · have e1 : (rs ++ [((N : Int), A, l, d)]).getD j (0, none, 0, 0) = rs.getD j (0, none, 0, 0) := by simp only [List.getD]; rw [List.getElem?_append_left (by omega)]
    have e2 : (L ++ [f]).getD j pv0 = L.getD j pv0 := by simp only [List.getD]; rw [List.getElem?_append_left e]
    rw [e1, e2]; exact h4 j e
  · obtain rfl : j = L.length := by simp at hj; omega
    have e1 : (rs ++ [((N : Int), A, l, d)]).getD L.length (0, none, 0, 0) = ((N : Int), A, l, d) := by rw [← h1]; simp [List.getD]
    have e2 : (L ++ [f]).getD L.length pv0 = f := by simp [List.getD]
    rw [e1, e2]; exact hq
/-- The block that a row of pairs lies in. -/
theorem PairsQ.at_row {w0 w : World} {base N : Nat} {v : Value} {L : List PV} (h : PairsQ w0 w base v N L) : ∃ r : Option Nat, (∀ g c, 0 < L.length → v = .slice (some ⟨g, 0, none⟩) L.length c → r = some g) ∧ ∀ g, r = some g → base ≤ g ∧ ∃ cur, Box w g 84 cur := by
  by_cases hn : 0 < L.length
  · obtain ⟨g, c, hv, hb, -⟩ := h.form hn
    rw [hv] at h
    refine ⟨some g, fun g2 c2 _ e => ?_, fun g2 e => ?_⟩
    · rw [hv] at e
      injection e with e
      injection e with e
      injection e with e
      rw [e]
    · injection e with e
      subst e
      exact ⟨hb, h.block hn⟩
  · exact ⟨none, fun _ _ h => absurd h hn, fun _ e => by cases e⟩
theorem pairs_good {N n : Nat} {X : List Nat} {ss : List ByteArray} (hX : ∀ r ∈ X, r < 2 ^ N) (hs : ∀ s ∈ ss, s.size = n) : ∀ p ∈ X.zip ss, GoodP N n p := fun p hp => by
  obtain ⟨a, b⟩ := p
  have := List.of_mem_zip hp
  exact ⟨hX _ this.1, hs _ this.2⟩
theorem pairs_low {N n : Nat} {X : List Nat} {ss : List ByteArray} (hX : ∀ r ∈ X, r < 2 ^ N) (hs : ∀ s ∈ ss, s.size = n) (hl : X.length = ss.length) : ((X.zip ss).map (zOf N)).map (lowN N) = X := by
  have e : ((X.zip ss).map (zOf N)).map (lowN N) = (X.zip ss).map Prod.fst := by
    rw [List.map_map]
    exact List.map_congr_left fun p hp => z_low (pairs_good hX hs p hp)
  rw [e, List.map_fst_zip (by omega)]
theorem num_bdP (P : List Nat) (h : ∀ j, j < P.length → P.getD j 0 < 1000) (j : Nat) : -9223372036854775808 ≤ (P.map fun x : Nat => (x : Int)).getD j 0 ∧ (P.map fun x : Nat => (x : Int)).getD j 0 ≤ 9223372036854775807 := by
  by_cases hj : j < P.length
  · have := h j hj
    have e : (P.map fun x : Nat => (x : Int)).getD j 0 = ((P.getD j 0 : Nat) : Int) := by simp [List.getD, hj]
    rw [e]; omega
  · have e : (P.map fun x : Nat => (x : Int))[j]? = none := List.getElem?_eq_none (by simp; omega)
    simp [List.getD, e]
theorem ints_cell {w : World} {B : Option Addr} {n : Nat} {P : List Nat} (h : Ints w B n (P.map fun x : Nat => (x : Int))) (k : Nat) (hk : k < n) : ∃ b off, B = some ⟨b, off, none⟩ ∧ b < w.heap.size ∧ w.cell? ⟨b, off + k, none⟩ = some (.int .i64 (P.getD k 0 : Nat)) := by
  obtain ⟨b, off, hB, hlt, hc⟩ := h.2.2 (by omega)
  refine ⟨b, off, hB, hlt, ?_⟩
  have hl : k < P.length := by have := h.1; simp at this; omega
  rw [hc k hk]; simp [List.getD, hl]
end
section
/- backsub: reduced: its first loop. -/
set_option linter.unusedVariables false
set_option linter.unusedSimpArgs false
open Go.RowKit
set_option maxRecDepth 100000
/-- Rows and their blocks. -/
def pairs (X : List Nat) (ss : List ByteArray) : List PV := X.zip ss
theorem pairs_len (X : List Nat) (ss : List ByteArray) (m : Nat) (h1 : X.length = m) (h2 : ss.length = m) : (pairs X ss).length = m := by simp [pairs, h1, h2]
theorem pairs_at (X : List Nat) (ss : List ByteArray) (m i : Nat) (h1 : X.length = m) (h2 : ss.length = m) (hi : i < m) : (pairs X ss).getD i pv0 = (X.getD i 0, ss.getD i ByteArray.empty) := by
  have e : (pairs X ss)[i]? = some (X[i]'(by omega), ss[i]'(by omega)) := by
    rw [List.getElem?_eq_some_iff]
    exact ⟨by simp [pairs]; omega, by simp [pairs]⟩
  simp [List.getD, e, show i < X.length by omega, show i < ss.length by omega]
/-- What reduced hands back. -/
def RedOut (N n : Nat) (L0 : List PV) (X : List Nat) (w : World) (e : Ending) (w' : World) : Prop :=
  ∃ (M P : List Nat) (O F : List PV) (vO vF : Value), e = .returned (.tuple #[vO, vF]) ∧ Rref M P ∧ SameSp X M ∧ Elim (L0.map (zOf N)) P P.length (O.map (zOf N)) (F.map (zOf N)) ∧ (∀ p ∈ O, GoodP N n p) ∧ (∀ p ∈ F, GoodP N n p) ∧
    OwnersQ w w' (w.heap.size + 1) vO N O P ∧ PairsQ w w' (w.heap.size + 1) vF N F ∧ F.length ≤ L0.length ∧ Below w.heap.size w w'
set_option maxHeartbeats 4000000 in
theorem reduced_any (N n : Nat) (hN : N ≤ 64) (hn : n ≤ 64) (X : List Nat) (hX : ∀ r ∈ X, r < 2 ^ N) (m : Nat) (hXm : X.length = m) (hm64 : m ≤ 64) (ss : List ByteArray) (hss : ∀ s ∈ ss, s.size = n) (A S : Option Addr) (c d lo : Nat) (w : World) (hsl : SliceOk A m c) (hm : MatAt w lo A m (mkM N X)) (hr : rightM N (mkM N X) = true) (ht : Texts w S m ss) :
    Calls Tryd.prog 37 #[.agg #[.int .i64 (N : Int), .slice A m c], .slice S m d] w (RedOut N n (pairs X ss) X w) := by
  obtain ⟨i0, hinf, hz0, hz1, hz2⟩ := info_parts pair_info
  have hssm := ht.1
  have HI := Lib.hid hinf
  have HZ0 := Lib.hid hz0
  have HZ1 := Lib.hid hz1
  have HZ2 := Lib.hid hz2
  have b1 : Below w.heap.size w (w.alloc (.cells #[.int .i64 (N : Int), .slice A m c] 24)) := (Below.refl _ _).alloc (Nat.le_refl _) _
  have Q := Lib.hid (Box.new w 24 #[.int .i64 (N : Int), .slice A m c])
  have HB := Lib.hid b1
  have HM := Lib.hid hm
  have HT := Lib.hid ht
  have HXm := Lib.hid hXm
  have HSm := Lib.hid hssm
  have HX := Lib.hid hX
  have HS := Lib.hid hss
  have HR := Lib.hid hr
  have HSl := Lib.hid hsl
  have hcm : m ≤ c := hsl.1
  have HPl := Lib.hid (pairs_len X ss m hXm hssm)
  obtain ⟨L0, hL0⟩ : ∃ L0, L0 = pairs X ss := ⟨_, rfl⟩
  rw [← hL0] at HPl ⊢
  have HL0 := Lib.hid hL0
  obtain ⟨q0, q1, -, -⟩ := Q.out.two
  clear b1 hm ht hXm hssm hX hss hr hsl hL0 hinf hz0 hz1 hz2
  go_enter Tryd.func37, Tryd.ntmps37
  go_wp2_with fail
  clear q0 q1
  go_loopw [20, 6] (fun t v wr => ∃ (i : Nat) (rs : List RowV), i ≤ m ∧ t = .int .i64 (i : Int) ∧ Hid (rs.length = i) ∧ Hid (wr.ownsRow (w.heap.size + 1) 84 3 v i (prC rs (L0.take i))) ∧ Hid (∀ j, j < i → RowQ w wr N (rs.getD j (0, none, 0, 0)) (L0.getD j pv0).1) ∧ Hid (Box wr w.heap.size 24 #[.int .i64 (N : Int), .slice A m c]) ∧ Hid (Below w.heap.size w wr)) (fun t _ _ => m - (intOf t).toNat)
  case atStart => exact ⟨0, [], Nat.zero_le _, rfl, Lib.hid rfl, Lib.hid (World.ownsRow_nil _ _ _ _), Lib.hid (fun j h => by omega), Q, HB⟩
  case round =>
    obtain ⟨i, rs, hi, rfl, HRl, HO, HRS, HQ, HBr⟩ := hrel
    by_cases hlt : i < m
    · have hlt' : (i : Int) < (m : Int) := by omega
      obtain ⟨b, off, B, l, k, hA, hbw, x0, x1, hs, hw⟩ := HM.out.at i hlt
      subst hA
      have hx : (mkM N X).getD i (0, []) = mkR N (X.getD i 0) := mkM_at N X i (by rw [HXm.out]; exact hlt)
      rw [hx] at x0 hw
      clear hx
      obtain ⟨b2, off2, hS, hb2, hc2⟩ := HT.out.2.2 (by omega)
      subst hS
      have y0 := hc2 i hlt
      obtain ⟨x, hxe⟩ : ∃ x, x = X.getD i 0 := ⟨_, rfl⟩
      obtain ⟨s, hse⟩ : ∃ s, s = ss.getD i ByteArray.empty := ⟨_, rfl⟩
      rw [← hxe] at x0 hw
      have x0 : w.cell? ⟨b, off + i * 2, none⟩ = some (.int .i64 (N : Int)) := x0
      have hw : Words w B l (rowOf N x) := hw
      rw [← hse] at y0
      have HP := Lib.hid (show L0.getD i pv0 = (x, s) by rw [HL0.out, pairs_at X ss m i HXm.out HSm.out hlt, hxe, hse])
      have HTk := Lib.hid (show L0.take (i + 1) = L0.take i ++ [(x, s)] by rw [List.take_succ_eq_append_getElem (by rw [HPl.out]; exact hlt), ← HP.out]; simp [List.getD, HPl.out, hlt])
      have x0 := (HBr.out.cell (p := ⟨b, off + i * 2, none⟩) hbw).trans x0
      have x1 := (HBr.out.cell (p := ⟨b, off + i * 2 + 1, none⟩) hbw).trans x1
      have y0 := (HBr.out.cell (p := ⟨b2, off2 + i, none⟩) hb2).trans y0
      have HQw := Lib.hid (show RowQ w wr N ((N : Int), B, l, k) x from ⟨rfl, hs, .inl hw⟩)
      have hws := HBr.out.size
      have hqs : w.heap.size < wr.heap.size := HQ.out.lt
      have hbr : b < wr.heap.size := by omega
      have hb2r : b2 < wr.heap.size := by omega
      clear hs hw hc2 hxe hse
      have al : Below wr.heap.size wr (wr.alloc (.cells #[.int .i64 (N : Int), .slice B l k] 27)) := (Below.refl _ _).alloc (Nat.le_refl _) _
      have E := Lib.hid (Box.new wr 27 #[.int .i64 (N : Int), .slice B l k])
      have AL1 := Lib.hid al
      have Q1 := Lib.hid (HQ.out.keep al)
      have O1 := Lib.hid (own_keep HO.out al)
      have RS1 := Lib.hid (fun j hj => (HRS.out j hj).below al)
      have HB1 := Lib.hid (chain HBr.out al)
      have QW1 := Lib.hid (HQw.out.below al)
      have y1 := (al.cell (p := ⟨b2, off2 + i, none⟩) hb2r).trans y0
      have HSZ := Lib.hid (show (wr.alloc (.cells #[.int .i64 (N : Int), .slice B l k] 27)).heap.size = wr.heap.size + 1 by simp)
      clear al
      go_wp2_with fail
      generalize hW3 : wr.alloc (.cells #[.int .i64 (N : Int), .slice B l k] 27) = w3 at *
      clear hW3 x0 x1 y0 HQw HO HRS HQ HBr AL1
      obtain ⟨e0, e1, -, -⟩ := E.out.two
      have hn0 := O1.out.lt
      have hes := E.out.lt
      have XO := Lib.hid (own_drewM (World.ownsRow.alloc O1.out (.cells #[.int .i64 (N : Int), .slice B l k, .string s] 84)))
      have XN := Lib.hid (show ∀ j u, ([.int .i64 (N : Int), .slice B l k, .string s] : List Value)[j]? = some u → (w3.alloc (.cells #[.int .i64 (N : Int), .slice B l k, .string s] 84)).drew.cell? ((⟨w3.heap.size, 0, none⟩ : Addr).add j) = some u from World.news_of_block (Box.new w3 84 #[.int .i64 (N : Int), .slice B l k, .string s]))
      have ki := HI.out
      have kz0 := HZ0.out
      have kz1 := HZ1.out
      have kz2 := HZ2.out
      have a1 : i + 1 ≤ maxLen := by unfold maxLen; omega
      have a2 : (i + 1) * 48 ≤ 140737488355328 := by omega
      have XL := Lib.hid (show w.heap.size + 1 ≤ (w3.alloc (.cells #[.int .i64 (N : Int), .slice B l k, .string s] 84)).drew.heap.size by show _ ≤ (w3.alloc (.cells #[.int .i64 (N : Int), .slice B l k, .string s] 84)).heap.size; simp; omega)
      have x1c := Lib.hid (show ∀ u ∈ ([.int .i64 (N : Int), .slice B l k, .string s] : List Value), u.oneCell' = true by simp [Value.oneCell'])
      go_region_law (refine step_append_lies _ rfl (.tmp 25) (.tmp 32) 79 rfl (w.heap.size + 1) 84 i0 (.agg #[.int .i64 0, .slice none 0 0, .string ⟨#[]⟩]) 3 48 Tryd.underlying79 ki kz0 kz1 kz2 rfl (by decide) u6 i (prC rs (L0.take i)) ?_ XO.out ⟨w3.heap.size, 0, none⟩ 1 1 [.int .i64 (N : Int), .slice B l k, .string s] ?_ rfl XN.out x1c.out (by omega) a1 a2 XL.out _ rfl ?_; simp [Act.eval, Act.put]; simp [Act.eval, Act.put]; intro g cap w4 hown hgrow _ _; have HO2 := Lib.hid hown; have HG := Lib.hid hgrow; clear hown hgrow)
      all_goals
        have GX := Lib.hid (Box.grown (show Box (w3.alloc (.cells #[.int .i64 (N : Int), .slice B l k, .string s] 84)).drew w.heap.size 24 #[.int .i64 (N : Int), .slice (some ⟨b, off, none⟩) m c] from Q1.out.alloc (.cells #[.int .i64 (N : Int), .slice B l k, .string s] 84)) HG.out (own_ne O1.out Q1.out (by decide)))
        have GB := Lib.hid (Below.grown ((HB1.out.alloc HB1.out.size (.cells #[.int .i64 (N : Int), .slice B l k, .string s] 84)).drew) HG.out (Nat.le_of_succ_le XL.out) (fun k hk => by have := (XO.out.lt k hk).1; omega))
        have gr : ∀ {r : RowV} {x : Nat}, RowQ w w3 N r x → RowQ w w4 N r x := fun q => ⟨q.1, q.2.1, q.2.2.imp id (fun o => OwnW.grown ((o.alloc (.cells #[.int .i64 (N : Int), .slice B l k, .string s] 84)).drew) XO.out (by decide) HG.out)⟩
        have GR := Lib.hid (fun j (hj : j < i + 1) => show RowQ w w4 N ((rs ++ [((N : Int), B, l, k)]).getD j (0, none, 0, 0)) (L0.getD j pv0).1 by
          by_cases e : j < i
          · have e1 : (rs ++ [((N : Int), B, l, k)]).getD j (0, none, 0, 0) = rs.getD j (0, none, 0, 0) := by simp only [List.getD]; rw [List.getElem?_append_left (by rw [HRl.out]; exact e)]
            rw [e1]; exact gr (RS1.out j e)
          · obtain rfl : j = i := by omega
            have e1 : (rs ++ [((N : Int), B, l, k)]).getD j (0, none, 0, 0) = ((N : Int), B, l, k) := by rw [← HRl.out]; simp [List.getD]
            rw [e1, HP.out]; exact gr QW1.out)
        have GO := Lib.hid (show w4.ownsRow (w.heap.size + 1) 84 3 (.slice (some ⟨g, 0, none⟩) (i + 1) cap) (i + 1) (prC (rs ++ [((N : Int), B, l, k)]) (L0.take (i + 1))) by
          rw [HTk.out, prC_snoc rs (L0.take i) (by rw [HRl.out, List.length_take, HPl.out]; omega)]
          exact HO2.out)
        have GL := Lib.hid (show (rs ++ [((N : Int), B, l, k)]).length = i + 1 by rw [List.length_append, HRl.out]; rfl)
        clear HG HO2 XO XN XL O1 Q1 HB1 RS1 QW1 e0 e1
        go_wp2_with fail
        go_roundw
        case rel => exact ⟨i + 1, _, by omega, by go_num, GL, GO, GR, GX, GB⟩
        case measure => simp [intOf]; omega
    · obtain rfl : i = m := by omega
      have hlt' : ¬ (i : Int) < (i : Int) := by omega
      have HF0 := Lib.hid (show PairsQ w wr (w.heap.size + 1) u6 N L0 from ⟨rs, by rw [HRl.out, HPl.out], by have := CellsRow.of HO.out; rw [List.take_of_length_le (by rw [HPl.out]; exact Nat.le_refl _)] at this; rw [HPl.out]; exact this, fun j hj => HRS.out j (by rw [← HPl.out]; exact hj)⟩)
      have HE := Lib.hid (fun W (hb : Below w.heap.size w W) => ech_two N hN X HX.out (by rw [HXm.out]; exact hm64) A c lo W (by rw [HXm.out]; exact HM.out.below hb) HR.out)
      rw [HXm.out] at HE
      obtain ⟨q0, q1, -, -⟩ := HQ.out.two
      clear HO HRS
      go_wp2_with fail
      refine (HE.out _ HBr.out).mono ?_
      rintro e w2 ⟨M, P, A2, Bc, kc, rfl, hM, hMs, -, -, hkc, ⟨bs, hcol⟩, hb⟩
      have HMr := Lib.hid hM
      have HSp := Lib.hid (show SameSp ((L0.map (zOf N)).map (lowN N)) M by rw [HL0.out, pairs, pairs_low HX.out HS.out (by rw [HXm.out, HSm.out])]; exact hMs)
      have HGd := Lib.hid (show ∀ p ∈ L0, GoodP N n p by rw [HL0.out]; exact pairs_good HX.out HS.out)
      have HMs := Lib.hid hMs
      have HB2 := Lib.hid (chain HBr.out hb)
      have HF2 := Lib.hid (HF0.out.keep hb)
      have HCol := Lib.hid hcol
      have HPM := Lib.hid hM.len
      have HPc := Lib.hid (show ∀ j, j < P.length → P.getD j 0 < N from fun j hj => place_lt (rows_lt HSp.out) HMr.out j hj)
      have HM64 := Lib.hid (show M.length ≤ 64 by have := rref_len HMr.out (rows_lt HSp.out); omega)
      have al : Below w2.heap.size w2 (w2.alloc (.cells #[.int .i64 (N : Int), .slice A2 M.length M.length] 24)) := (Below.refl _ _).alloc (Nat.le_refl _) _
      have AL2 := Lib.hid al
      clear hM hMs hb hcol al q0 q1 HF0 HBr HE
      obtain ⟨w1, rfl⟩ : ∃ w1 : World, w1 = wr := ⟨_, rfl⟩
      go_wp2_with fail
      go_loopw [43, 6, 9] (fun t vf vo wr => ∃ (k : Nat) (O F : List PV), k ≤ M.length ∧ t = .int .i64 (k : Int) ∧ Hid (Elim (L0.map (zOf N)) P k (O.map (zOf N)) (F.map (zOf N))) ∧ Hid (∀ p ∈ O, GoodP N n p) ∧ Hid (∀ p ∈ F, GoodP N n p) ∧ Hid (F.length ≤ i) ∧ Hid (OwnersQ w wr (w.heap.size + 1) vo N O (P.take k)) ∧ Hid (PairsQ w wr (w.heap.size + 1) vf N F) ∧ Hid (wr.ownsRow bs 3 1 (.slice Bc M.length kc) M.length (P.map numV)) ∧ Hid (Below w.heap.size w wr)) (fun t _ _ _ => M.length - (intOf t).toNat)
      case atStart => exact ⟨0, [], L0, Nat.zero_le _, rfl, Lib.hid (elim_start _ _), Lib.hid (fun p h => by cases h), HGd, Lib.hid (by rw [HPl.out]; exact Nat.le_refl _), Lib.hid ⟨[], rfl, rfl, World.ownsRow_nil _ _ _ _, fun j h => by cases h⟩, Lib.hid (HF2.out.keep AL2.out), Lib.hid (own_keep HCol.out AL2.out), Lib.hid (chain HB2.out AL2.out)⟩
      case round =>
        obtain ⟨k, O, F, hk, rfl, HEl, HGO, HGF, HFl, HOw, HFr, HCo, HBx⟩ := hrel
        by_cases hlt : k < M.length
        · have hlt' : (k : Int) < (M.length : Int) := by omega
          have hk64 : k < 64 := by have := HM64.out; omega
          have hin := own_ints (zs := P.map fun x : Nat => (x : Int)) (by rw [List.map_map]; exact HCo.out) (num_bdP P (fun j hj => by have := HPc.out j hj; omega))
          obtain ⟨b, off, hBc, hbl, x0⟩ := ints_cell hin k hlt
          subst hBc
          obtain ⟨q, hq⟩ : ∃ q, q = P.getD k 0 := ⟨_, rfl⟩
          rw [← hq] at x0
          have HQe := Lib.hid hq
          have HqN := Lib.hid (show q < N by rw [hq]; exact HPc.out k (by rw [← HPM.out]; exact hlt))
          clear hin hq
          have al : Below wr.heap.size wr (wr.alloc (.cells #[.int .i64 0, .slice none 0 0, .string ⟨#[]⟩, .int .i64 0] 86)) := (Below.refl _ _).alloc (Nat.le_refl _) _
          have AL3 := Lib.hid al
          have T0 := Lib.hid (Box.new wr 86 #[.int .i64 0, .slice none 0 0, .string ⟨#[]⟩, .int .i64 0])
          have hwr := HBx.out.size
          have HC := Lib.hid (chosen_any N n (by omega) F HGF.out (by have := HFl.out; omega) q HqN.out (by rw [HQe.out]; exact has_next HEl.out HMr.out HSp.out (by rw [← HPM.out]; exact hlt) HGF.out) w (w.heap.size + 1) u6 _ (by simp; omega) (chainN HBx.out hwr al) (by simp; omega) (HFr.out.keep al))
          clear al
          go_wp2_with fail
          refine HC.out.mono ?_
          rintro e w3 ⟨i1, A3, l3, d3, v3, hi1, hb1, rfl, hrow, hpr, hb⟩
          have gf := HGF.out _ (getD_memP hi1)
          have HI1 := Lib.hid hi1
          have HBit := Lib.hid hb1
          obtain ⟨f, hf⟩ : ∃ f, f = F.getD i1 pv0 := ⟨_, rfl⟩
          rw [← hf] at gf hrow ⊢
          have HFe := Lib.hid hf
          obtain ⟨Fe, hFe⟩ : ∃ Fe, Fe = F.eraseIdx i1 := ⟨_, rfl⟩
          rw [← hFe] at hpr
          have HGFe := Lib.hid (show ∀ p ∈ Fe, GoodP N n p by rw [hFe]; exact fun p hp => HGF.out p (List.mem_of_mem_eraseIdx hp))
          have HLe := Lib.hid (show Fe.length ≤ i by have := HFl.out; rw [hFe, List.length_eraseIdx]; split <;> omega)
          have HFer := Lib.hid hFe
          have GF := Lib.hid gf
          have HT1 := Lib.hid (T0.out.keep hb)
          have HOw1 := HOw.out.keep (chain AL3.out hb)
          have HB3 := Lib.hid (chain HBx.out (chain AL3.out hb))
          have HCo1 := own_keep HCo.out (chain AL3.out hb)
          have hlt1 := HOw.out.lt
          have HT2 := Lib.hid (ownW_box (N := N) (A := A3) (l := l3) (d := d3) (s := f.2) (c := q) HT1.out)
          have HOw2 := Lib.hid (OwnersQ.ownW (N' := N) (A := A3) (l := l3) (d := d3) (s := f.2) (c := q) HT1.out HOw1 (fun g c hv => by have := hlt1 g c hv; omega))
          have HP2 := Lib.hid (PairsQ.owned (N' := N) (A := A3) (l := l3) (d := d3) (s := f.2) (c := q) HT1.out hpr)
          have HR2 := Lib.hid (ownW_row (N := N) (A := A3) (l := l3) (d := d3) (s := f.2) (c := q) HT1.out hrow)
          have HCo2 := Lib.hid (own_ownW (N' := N) (A := A3) (l := l3) (d := d3) (s := f.2) (c := q) HT1.out HCo1 (by decide))
          have HB4 := Lib.hid (ownW_below (N := N) (A := A3) (l := l3) (d := d3) (s := f.2) (c := q) HB3.out hwr)
          obtain ⟨z0, z1, z2, z3, zf0, zf1, zf2, zf3⟩ := HT1.out.quad
          have HLt := Lib.hid hlt1
          clear hb hf hFe hpr hrow gf HOw1 HCo1 hlt1 hi1 hb1 HC HFr HOw HCo T0 AL3 x0
          obtain ⟨r, hr1, hr2⟩ := HP2.out.at_row
          have hs4 : w.heap.size ≤ (ownW w3 wr.heap.size N A3 l3 d3 f.2 q).heap.size := HB4.out.size
          have HK := Lib.hid (pclear_any N n (by omega) hn f GF.out Fe HGFe.out (by have := HLe.out; omega) q HqN.out w (w.heap.size + 1) v3 (ownW w3 wr.heap.size N A3 l3 d3 f.2 q) hs4 HB4.out (by omega) A3 l3 d3 HR2.out HP2.out r (fun g c h1 h2 => hr1 g c h1 h2) (fun g e => by have := (hr2 g e).1; omega))
          have HR1 := Lib.hid (fun g e => (hr2 g e).2)
          have HR0 := Lib.hid (fun g e => (hr2 g e).1)
          clear hr1 hr2
          go_wp2_with fail
          refine HK.out.mono ?_
          rintro e w5 ⟨⟨uu, rfl⟩, hp5, hg5⟩
          have hpc : PC (ownW w3 wr.heap.size N A3 l3 d3 f.2 q) w5 84 := ⟨r, hg5, HR1.out⟩
          have HT5 := Lib.hid (hpc.box HT2.out (by decide))
          have HOw5 := Lib.hid (hpc.owners HOw2.out (by decide) (by decide))
          have HP5 := Lib.hid hp5
          have HR5 := Lib.hid (hpc.row HR2.out (by decide))
          have HCo5 := Lib.hid (hpc.own HCo2.out (by decide))
          have HB5 := Lib.hid (gr_low HB4.out hs4 hg5 (fun g e => by have := HR0.out g e; omega))
          obtain ⟨Ao, co, rfl, hoc, hocm⟩ := HOw5.out.form0
          unfold maxLen at hocm
          have hlO : O.length ≤ 64 := by
            have := HEl.out.len
            rw [List.length_map] at this
            have := HM64.out
            omega
          clear hpc hp5 hg5 HK HR1 HR0 HT1 HT2 HOw2 HP2 HR2 HCo2 HB4 HB3 hs4 z0 z1 z2 z3 zf0 zf1 zf2 zf3
          obtain ⟨wA, rfl⟩ : ∃ wA : World, wA = wr := ⟨_, rfl⟩
          go_wp2_with fail
          go_loopw [58] (fun t wr => ∃ j : Nat, j ≤ O.length ∧ t = .int .i64 (j : Int) ∧ Hid (OwnersQ w wr (w.heap.size + 1) (.slice Ao O.length co) N (clrU q f O j) (P.take k)) ∧ Hid (PairsQ w wr (w.heap.size + 1) v3 N (clrP q f Fe)) ∧ Hid (Box wr wA.heap.size 86 #[.int .i64 (N : Int), .slice A3 l3 d3, .string f.2, .int .i64 (q : Int)]) ∧ Hid (RowQ w wr N ((N : Int), A3, l3, d3) f.1) ∧ Hid (wr.ownsRow bs 3 1 (.slice (some ⟨b, off, none⟩) M.length kc) M.length (P.map numV)) ∧ Hid (Below w.heap.size w wr)) (fun t _ => O.length - (intOf t).toNat)
          case atStart => exact ⟨0, Nat.zero_le _, rfl, Lib.hid (by rw [clrU_zero]; exact HOw5.out), HP5, HT5, HR5, HCo5, HB5⟩
          case round =>
            obtain ⟨j, hj, rfl, IO, IP, IT, IR, IC, IB⟩ := hrel
            clear HOw5 HP5 HT5 HR5 HCo5 HB5
            by_cases hjl : j < O.length
            · have hjl' : (j : Int) < (O.length : Int) := by omega
              have HCL := Lib.hid (clrU_len q f O j hj)
              have io := IO.out
              obtain ⟨g, c2, hv, hgb, hgw, -, -, cur, hcur⟩ := io.form (by rw [HCL.out]; omega)
              injection hv with hv h2 h3
              subst hv
              clear h2 h3
              have hga : g < wA.heap.size := (HLt.out g co rfl).2
              rw [show O.length = (clrU q f O j).length from HCL.out.symm] at io
              obtain ⟨A1, l1, d1, x0, x1, x2, x3, rq, xf0, xf1, xf2, xf3⟩ := io.at j (by rw [HCL.out]; exact hjl)
              have gp := clrU_good GF.out HGO.out j _ (getD_memP (L := clrU q f O j) (i := j) (by rw [HCL.out]; exact hjl))
              rw [clrU_here q f O j hjl] at x2 rq gp
              obtain ⟨p, hp⟩ : ∃ p, p = O.getD j pv0 := ⟨_, rfl⟩
              rw [← hp] at x2 rq gp
              have GP := Lib.hid gp
              have HPI := Lib.hid hp
              have RQ := Lib.hid rq
              have HW := Lib.hid (rq.words (Nat.le_refl _) IB.out)
              have HH := Lib.hid (pairHas_any N p.1 (by omega) GP.out.1 A1 l1 d1 q p.2 HqN.out _ HW.out)
              have n1 : ¬ wA.heap.size = g := by omega
              have n2 : ¬ g = wA.heap.size := by omega
              clear hp gp io rq hcur
              cases hbit : p.1.testBit q with
              | false =>
                rw [hbit] at HH
                have HNo := Lib.hid (clrU_no q f O j hjl (by rw [← HPI.out]; exact hbit))
                clear hbit
                go_wp2_with fail
                refine HH.out.mono ?_
                rintro e w6 ⟨rfl, hb⟩
                have HC := Lib.hid hb
                clear hb
                go_wp2_with fail
                go_roundw
                case rel => exact ⟨j + 1, by omega, by go_num, Lib.hid (by rw [HNo.out]; exact IO.out.keep HC.out), Lib.hid (IP.out.keep HC.out), Lib.hid (IT.out.keep HC.out), Lib.hid (IR.out.below HC.out), Lib.hid (own_keep IC.out HC.out), Lib.hid (chain IB.out HC.out)⟩
                case measure => simp [intOf]; omega
              | true =>
                rw [hbit] at HH
                have HYes := Lib.hid (clrU_yes q f O j hjl (by rw [← HPI.out]; exact hbit))
                clear hbit
                go_wp2_with fail
                refine HH.out.mono ?_
                rintro e w6 ⟨rfl, hb⟩
                have HC := Lib.hid hb
                have io6 := IO.out.keep hb
                have IP6 := Lib.hid (IP.out.keep hb)
                have IT6 := Lib.hid (IT.out.keep hb)
                have IR6 := Lib.hid (IR.out.below hb)
                have IC6 := Lib.hid (own_keep IC.out hb)
                have IB6 := Lib.hid (chain IB.out hb)
                have RQ6 := Lib.hid (RQ.out.below hb)
                rw [show O.length = (clrU q f O j).length from HCL.out.symm] at io6
                have IO6 := Lib.hid io6
                obtain ⟨A7, l7, d7, y0, y1, y2, y3, -, -, -, -, -⟩ := io6.at j (by rw [HCL.out]; exact hjl)
                have RP6 := Lib.hid (RQ.out.below hb)
                have gw6 : g < w6.heap.size := Nat.lt_of_lt_of_le hgw hb.size
                have aw6 : wA.heap.size < w6.heap.size := IT6.out.lt
                have HX := Lib.hid (fun W (h0 : Below w6.heap.size w6 W) => plus_any N n (by omega) hn p f GP.out GF.out A1 A3 l1 d1 l3 d3 W ((RP6.out.below h0).words (Nat.le_refl _) (chain IB6.out h0)) ((IR6.out.below h0).words (Nat.le_refl _) (chain IB6.out h0)))
                have x0 := (hb.cell (p := ⟨g, j * 4, none⟩) hgw).trans x0
                have x1 := (hb.cell (p := ⟨g, j * 4 + 1, none⟩) hgw).trans x1
                have x2 := (hb.cell (p := ⟨g, j * 4 + 2, none⟩) hgw).trans x2
                obtain ⟨t0, t1, t2, t3, -, -, -, -⟩ := IT6.out.quad
                clear y0 y1 y2 y3 hb io6 IO IP IT IR IC IB RQ HW HH x3 xf0 xf1 xf2 xf3
                go_wp2_with fail
                have IO6d := Lib.hid (show OwnersQ w w6.drew (w.heap.size + 1) (.slice (some ⟨g, 0, none⟩) (clrU q f O j).length co) N (clrU q f O j) (P.take k) from IO6.out)
                have gd : ∀ {y : World}, Below w6.drew.heap.size w6.drew y → Below w6.heap.size w6 y := fun h => ⟨h.os, h.tape, h.output, h.size, h.block⟩
                have m1 : ¬ wA.heap.size = g := by omega
                go_region_with (go_at_call 60; refine (HX.out _ ((Below.refl _ _).drew)).mono ?_; rintro e1 w8 ⟨A8, l8, d8, rfl, ow, hb⟩; have HB8 := Lib.hid (gd hb); have IO8 := Lib.hid (IO6d.out.keep hb); have OW8 := Lib.hid ow; obtain ⟨A9, l9, d9, y0, y1, y2, y3, -, yf0, yf1, yf2, yf3⟩ := IO8.out.at j (by rw [HCL.out]; exact hjl); clear ow hb)
                all_goals
                  have hput := IO8.out.put j (by rw [HCL.out]; exact hjl) (plusP p f) (A := A8) (l := l8) (d := d8) ⟨rfl, OW8.out.ok, .inr OW8.out⟩
                  have hpc := IO8.out.pc (by rw [HCL.out]; omega) (j * 4) (.int .i64 (N : Int)) (.slice A8 l8 d8) (.string (plusP p f).2)
                  rw [HCL.out, HPI.out, ← HYes.out] at hput
                  rw [← HPI.out] at hput
                  have RO := Lib.hid hput
                  have RP := Lib.hid (hpc.pairs (IP6.out.keep HB8.out) (by decide) (by decide))
                  have RT := Lib.hid ((((IT6.out.keep HB8.out).far (p := ⟨g, j * 4, none⟩) n1 (.int .i64 (N : Int))).far (p := ⟨g, j * 4 + 1, none⟩) n1 (.slice A8 l8 d8)).far (p := ⟨g, j * 4 + 2, none⟩) n1 (.string (plusP p f).2))
                  have RR := Lib.hid (hpc.row (IR6.out.below HB8.out) (by decide))
                  have RC := Lib.hid (hpc.own (own_keep IC6.out HB8.out) (by decide))
                  have RB := Lib.hid ((((chain IB6.out HB8.out).setCell (p := ⟨g, j * 4, none⟩) (by show w.heap.size ≤ g; omega) (.int .i64 (N : Int))).setCell (p := ⟨g, j * 4 + 1, none⟩) (by show w.heap.size ≤ g; omega) (.slice A8 l8 d8)).setCell (p := ⟨g, j * 4 + 2, none⟩) (by show w.heap.size ≤ g; omega) (.string (plusP p f).2))
                  clear hput hpc IO8 OW8 IO6d y0 y1 y2 y3 yf0 yf1 yf2 yf3 IP6 IT6 IR6 IC6 IB6 IO6 HB8 t0 t1 t2 t3 x0 x1 x2 HX
                  go_wp2_with fail
                  go_roundw
                  case rel => exact ⟨j + 1, by omega, by go_num, RO, RP, RT, RR, RC, RB⟩
                  case measure => simp [intOf]; omega
            · obtain rfl : j = O.length := by omega
              have hjl' : ¬ (O.length : Int) < (O.length : Int) := by omega
              have io := IO.out
              rw [clrU_all] at io
              obtain ⟨rs, k1, k2, k3, k4⟩ := io
              rw [clrP_len] at k1 k2 k3 k4
              obtain ⟨j0, hinf, hz0, hz1, hz2⟩ := info_parts owner_info
              have al : Below wr.heap.size wr (wr.alloc (.cells #[.int .i64 (N : Int), .slice A3 l3 d3, .string f.2, .int .i64 (q : Int)] 86)) := (Below.refl _ _).alloc (Nat.le_refl _) _
              have AL6 := Lib.hid al
              have XO := Lib.hid (own_keep k3 al)
              have XN := Lib.hid (show ∀ j u, ([.int .i64 (N : Int), .slice A3 l3 d3, .string f.2, .int .i64 (q : Int)] : List Value)[j]? = some u → (wr.alloc (.cells #[.int .i64 (N : Int), .slice A3 l3 d3, .string f.2, .int .i64 (q : Int)] 86)).cell? ((⟨wr.heap.size, 0, none⟩ : Addr).add j) = some u from World.news_of_block (Box.new wr 86 #[.int .i64 (N : Int), .slice A3 l3 d3, .string f.2, .int .i64 (q : Int)]))
              have XB := Lib.hid (show w.heap.size + 1 ≤ (wr.alloc (.cells #[.int .i64 (N : Int), .slice A3 l3 d3, .string f.2, .int .i64 (q : Int)] 86)).heap.size by have := IB.out.size; simp; omega)
              have K1 := Lib.hid k1
              have K2 := Lib.hid k2
              have K4 := Lib.hid k4
              obtain ⟨z0, z1, z2, z3, -, -, -, -⟩ := IT.out.quad
              clear al k1 k2 k3 k4
              go_wp2_with (at_builtin; refine wpList_append_own _ rfl _ _ 78 rfl (w.heap.size + 1) 86 j0 (.agg #[.int .i64 0, .slice none 0 0, .string ⟨#[]⟩, .int .i64 0]) 4 56 Tryd.underlying78 hinf hz0 hz1 hz2 rfl (by decide) _ _ _ rfl XO.out ⟨wr.heap.size, 0, none⟩ 1 1 [.int .i64 (N : Int), .slice A3 l3 d3, .string f.2, .int .i64 (q : Int)] rfl rfl XN.out (by simp [Value.oneCell']) (by simp [maxLen]; omega) (by omega) XB.out ?_; intro v' w7 hown' hgrow _; have HO2 := Lib.hid hown'; have HG2 := Lib.hid hgrow; clear hown' hgrow)
              have XP := Lib.hid (IP.out.keep AL6.out)
              have XR := Lib.hid (IR.out.below AL6.out)
              have XC := Lib.hid (own_keep IC.out AL6.out)
              have XBl := Lib.hid (chain IB.out AL6.out)
              have hpc : PC _ w7 86 := ⟨_, HG2.out, fun g e => (own_blk XO.out g e).2⟩
              have RP := Lib.hid (hpc.pairs XP.out (by decide) (by decide))
              have RR := Lib.hid (hpc.row XR.out (by decide))
              have RC := Lib.hid (hpc.own XC.out (by decide))
              have RB := Lib.hid (gr_low XBl.out (by have := XB.out; omega) HG2.out (fun g e => by have := (own_blk XO.out g e).1; omega))
              have RS := Lib.hid (show OwnersQ w w7 (w.heap.size + 1) v' N (clrP q f O ++ [f]) (P.take (k + 1)) by
                rw [List.take_succ_eq_append_getElem (by rw [← HPM.out]; exact hlt), show P[k]'(by rw [← HPM.out]; exact hlt) = q by rw [HQe.out]; simp [List.getD, show k < P.length by rw [← HPM.out]; exact hlt]]
                refine OwnersQ.snoc (rs := rs) (by rw [clrP_len]; exact K1.out) (by rw [clrP_len]; exact K2.out) (fun j hj => hpc.row ((K4.out j (by rw [clrP_len] at hj; exact hj)).below AL6.out) (by decide)) RR.out ?_
                have := HO2.out
                rw [show O.length = (clrP q f O).length from (clrP_len _ _ _).symm] at this
                exact this)
              have REl := Lib.hid (show Elim (L0.map (zOf N)) P (k + 1) ((clrP q f O ++ [f]).map (zOf N)) ((clrP q f Fe).map (zOf N)) by
                have := elim_next HEl.out HMr.out HSp.out (by rw [← HPM.out]; exact hlt) HGO.out HGF.out i1 HI1.out (by rw [← HQe.out]; exact HBit.out)
                rw [← HQe.out, ← HFe.out, ← HFer.out] at this
                exact this)
              have RGO := Lib.hid (show ∀ p ∈ clrP q f O ++ [f], GoodP N n p from fun p hp => by
                rcases List.mem_append.1 hp with h | h
                · exact clrP_good GF.out HGO.out p h
                · simp only [List.mem_singleton] at h; subst h; exact GF.out)
              have RGF := Lib.hid (clrP_good (c := q) GF.out HGFe.out)
              have RFl := Lib.hid (show (clrP q f Fe).length ≤ i by rw [clrP_len]; exact HLe.out)
              clear hpc XP XR XC XBl HO2 HG2 XO XN XB K1 K2 K4 IO IP IT IR IC IB AL6
              go_roundw
              case rel => exact ⟨k + 1, _, _, by omega, by go_num, REl, RGO, RGF, RFl, RS, RP, RC, RB⟩
              case measure => simp [intOf]; omega
        · obtain rfl : k = M.length := by omega
          have hlt' : ¬ (M.length : Int) < (M.length : Int) := by omega
          have HE2 := HEl.out
          have HOw2 := HOw.out
          rw [HPM.out] at HE2 HOw2
          rw [List.take_length] at HOw2
          go_wp2_with fail
          go_ret2
          exact ⟨M, P, O, F, u9, u6, rfl, HMr.out, HMs.out, HE2, HGO.out, HGF.out, HOw2, HFr.out, by rw [HPl.out]; exact HFl.out, HBx.out⟩
end
end Go.Proofs.YtdfmogcgangdnaaDoor
