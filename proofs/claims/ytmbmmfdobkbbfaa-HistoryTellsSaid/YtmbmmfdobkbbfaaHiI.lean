/- Layer 22: HistorySpans, HistoryTells: the walks; a span that came in. -/
import Derived.Test.YtmbmmfdobkbbfaaHiH
import Derived.Test.YtmbmmfdobkbbfaaRefNums
namespace Go.Proofs.Ytmbmmfdobkbbfaa
set_option linter.unusedVariables false
set_option linter.unusedSimpArgs false
open Go.RowKit Go.Shelf Go.Joins Go.ChangeShapes Go.WideShapes
set_option maxRecDepth 100000
theorem cellsSpan : Try.prog.cellsOf 41 = 14 := by kernel_rfl
theorem open_span {H : Type} {enc : TypeId × Value → H} {W : World} {r : Reach} {b0 : Nat} {v : Value} {d : DataW H} {p : List MemPlace}
    (hv : Value.okWide Try.prog W r b0 41 v) (h : DataW.Trod enc Try.prog W 0 (fun _ => true) true 41 v d p) : ∃ s : SpR, v = .agg (spA s) := by
  obtain ⟨cs, rfl, hsz⟩ := okWide_struct Try.underlying41 hv
  obtain ⟨L, rfl, hL⟩ : ∃ L : List Value, cs = L.toArray ∧ L.length = 14 := ⟨cs.toList, by simp, by have := hsz.trans cellsSpan; simpa using this⟩
  match L, hL with
  | [v0, v1, v2, v3, v4, v5, v6, v7, v8, v9, v10, v11, v12, v13], _ =>
  obtain ⟨fuel, hf⟩ := h
  obtain ⟨xs, n, -, -, -, hxl, hf⟩ := DataW.trod_struct Try.underlying41 hf
  match xs, hxl with
  | [y0, y1, y2, y3, y4, y5], _ =>
  have g0 := hf 0 _ rfl
  have g1 := hf 1 _ rfl
  have g2 := hf 2 _ rfl
  have g3 := hf 3 _ rfl
  have g4 := hf 4 _ rfl
  have g5 := hf 5 _ rfl
  have ei : Try.prog.cellsOf 3 = 1 := by kernel_rfl
  have ec : Try.prog.cellsOf 36 = 7 := by kernel_rfl
  have er : Try.prog.cellsOf 39 = 3 := by kernel_rfl
  simp [Value.cells, ei, ec, er] at g0 g1 g2 g3 g4 g5
  obtain ⟨a0, e0, -, w0⟩ := DataW.trod_int Try.underlying3 g0
  obtain ⟨a1, e1, -, w1⟩ := DataW.trod_int Try.underlying3 g1
  obtain ⟨c, e2⟩ := open_callL rfl g2
  obtain ⟨rp, e3, hr⟩ := open_repL rfl g3
  obtain ⟨a4, e4, -, w4⟩ := DataW.trod_int Try.underlying3 g4
  obtain ⟨a5, e5, -, w5⟩ := DataW.trod_int Try.underlying3 g5
  simp at e0 e1 e4 e5
  subst e0 e1 e4 e5
  refine ⟨⟨a0, a1, c, rp, a4, a5⟩, ?_⟩
  simp only [callL, List.cons.injEq, and_true] at e2
  simp only [repL, List.cons.injEq, and_true] at e3
  obtain ⟨rfl, rfl, rfl, rfl, rfl, rfl, rfl⟩ := e2
  obtain ⟨rfl, rfl, rfl⟩ := e3
  rfl
set_option maxHeartbeats 8000000 in
theorem hspansL_any (A : Option Addr) (l cp : Nat) (h : List EvR) (hs : SliceOk A l cp) (w : World) (hH : Evs w A l h) :
    Calls Try.prog 3 #[.slice A l cp] w fun e w' => e = .returned (.bool true) ∧ Below w.heap.size w w' := by
  have HF := Lib.hid (few22_any A l cp hs w)
  have hcp : cp ≤ maxLen := hs.2.1
  have hn50 : min l 50 ≤ 50 := by omega
  have hH := hH.take (min l 50) (by omega)
  generalize h.take (min l 50) = h at *
  generalize min l 50 = n at *
  clear hs
  have HT := Lib.hid (fun (w' : World) (hb : Below w.heap.size w w') => hH.below hb)
  have hnm : n ≤ maxLen := by unfold maxLen; omega
  have hn6 : n ≤ 1000000 := by omega
  have HSp := Lib.hid (fun hr => hspans_yes A n cp h w hH hnm hn6 hr)
  have HSn := Lib.hid (fun hr => hspans_no A n cp h w hH hnm hn6 hr)
  have HR1 := Lib.hid (fun (w' : World) (hw : Evs w' A n h) => hright_any A n cp h w' hw hnm hn6)
  have HR2 := Lib.hid (fun (w' : World) (hw : Evs w' A n h) => refRight_any A n cp h w' hw hn6)
  have HRS := Lib.hid (fun (w' : World) (hw : Evs w' A n h) => refSpans_any A n cp h w' hw hn6)
  have hln := spansL_len h n
  clear hH hcp hnm
  go_enter Try.func3, Try.ntmps3
  go_wp2_with fail
  refine HF.out.mono ?_
  rintro e u1 ⟨rfl, rfl⟩
  clear HF
  cases hr9 : rightH h with
  | false =>
    rw [hr9] at HR1 HR2
    go_wp2_with fail
    refine (HSn.out hr9).mono ?_
    rintro e w1 ⟨rfl, hb⟩
    have HB := Lib.hid hb
    clear hb HSn HSp HRS hr9
    go_wp2_with fail
    refine (HR1.out _ (HT.out _ HB.out)).mono ?_
    rintro e w2 ⟨rfl, hb⟩
    have HB := Lib.hid (chain HB.out hb)
    clear hb
    go_wp2_with fail
    refine (HR2.out _ (HT.out _ HB.out)).mono ?_
    rintro e w3 ⟨rfl, hb⟩
    have HB := Lib.hid (chain HB.out hb)
    clear hb
    go_wp2_with fail
    refine (alive22_any _).mono ?_
    rintro e w4 ⟨rfl, hb⟩
    have HB := Lib.hid (chain HB.out hb)
    clear hb
    go_wp2_with fail
    refine (HR2.out _ (HT.out _ HB.out)).mono ?_
    rintro e w5 ⟨rfl, hb⟩
    have HB := Lib.hid (chain HB.out hb)
    clear hb
    go_wp2_with fail
    go_ret
    exact ⟨rfl, HB.out⟩
  | true =>
    rw [hr9] at HR1 HR2
    go_wp2_with fail
    refine (HSp.out hr9).mono ?_
    rintro e w1 ⟨A1, c1, rfl, q1, q2, q3, hb⟩
    have HB := Lib.hid hb
    have S1 := Lib.hid q3
    clear hb q1 q2 q3 HSn HSp hr9
    go_wp2_with fail
    refine (HR1.out _ (HT.out _ HB.out)).mono ?_
    rintro e w2 ⟨rfl, hb⟩
    have HB := Lib.hid (chain HB.out hb)
    have S1 := Lib.hid (S1.out.below hb)
    clear hb
    go_wp2_with fail
    refine (HR2.out _ (HT.out _ HB.out)).mono ?_
    rintro e w3 ⟨rfl, hb⟩
    have HB := Lib.hid (chain HB.out hb)
    have S1 := Lib.hid (S1.out.below hb)
    clear hb
    go_wp2_with fail
    refine (alive22_any _).mono ?_
    rintro e w4 ⟨rfl, hb⟩
    have HB := Lib.hid (chain HB.out hb)
    have S1 := Lib.hid (S1.out.below hb)
    clear hb
    go_wp2_with fail
    refine (HR2.out _ (HT.out _ HB.out)).mono ?_
    rintro e w5 ⟨rfl, hb⟩
    have HB := Lib.hid (chain HB.out hb)
    have S1 := Lib.hid (S1.out.below hb)
    clear hb
    go_wp2_with fail
    refine (HRS.out _ (HT.out _ HB.out)).mono ?_
    rintro e w6 ⟨A2, c2, rfl, -, q3, hb⟩
    have HB := Lib.hid (chain HB.out hb)
    have S1 := Lib.hid (S1.out.below hb)
    have S2 := Lib.hid q3
    clear hb q3
    go_wp2_with fail
    refine (refSame22_same A1 A2 _ c1 c2 _ _ S1.out S2.out (by omega)).mono ?_
    rintro e w7 ⟨rfl, hb⟩
    have HB := Lib.hid (chain HB.out hb)
    clear hb
    go_wp2_with fail
    go_ret
    exact ⟨rfl, HB.out⟩
end Go.Proofs.Ytmbmmfdobkbbfaa
