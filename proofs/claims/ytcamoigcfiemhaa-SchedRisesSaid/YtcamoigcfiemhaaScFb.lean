/- Layer 20: the law's rows. -/
import Derived.Test.YtcamoigcfiemhaaScFa
namespace Go.Proofs.Ytcamoigcfiemhaa
set_option linter.unusedVariables false
set_option linter.unusedSimpArgs false
open Go.RowKit Go.Lib
set_option maxRecDepth 100000
/-- A row of rows: the spine is the call's own, the rows were there at w0. -/
def SpR {α : Type} (P : World → Option Addr → Nat → List α → Prop) (t : TypeId) (base : Nat) (w0 w : World) (v : Value) (cs : List (List α)) : Prop := ∃ rs : List SlT, rs.length = cs.length ∧ w.ownsRow base t 1 v cs.length (rs.map slV) ∧ ∀ j, j < cs.length → SliceOk (rs.getD j sl0).1 (rs.getD j sl0).2.1 (rs.getD j sl0).2.2 ∧ P w0 (rs.getD j sl0).1 (rs.getD j sl0).2.1 (cs.getD j [])
theorem SpR.snoc {α : Type} {P : World → Option Addr → Nat → List α → Prop} {t : TypeId} {base : Nat} {w0 w2 : World} {v' : Value} {cs : List (List α)} {rs : List SlT} (h1 : rs.length = cs.length) (h3 : ∀ j, j < cs.length → SliceOk (rs.getD j sl0).1 (rs.getD j sl0).2.1 (rs.getD j sl0).2.2 ∧ P w0 (rs.getD j sl0).1 (rs.getD j sl0).2.1 (cs.getD j [])) {B : Option Addr} {lb cb : Nat} {xs : List α} (hb : SliceOk B lb cb) (hx : P w0 B lb xs)
    (ho : w2.ownsRow base t 1 v' (cs.length + 1) (rs.map slV ++ [.slice B lb cb])) : SpR P t base w0 w2 v' (cs ++ [xs]) := by
  refine ⟨rs ++ [(B, lb, cb)], by simp [h1], ?_, fun j hj => ?_⟩
  · rw [List.map_append, List.length_append]; exact ho
  · rw [List.length_append, List.length_singleton] at hj
    by_cases q : j < cs.length
    · have e1 : (rs ++ [(B, lb, cb)]).getD j sl0 = rs.getD j sl0 := by simp [List.getD, List.getElem?_append_left (by omega : j < rs.length)]
      have e2 : (cs ++ [xs]).getD j [] = cs.getD j [] := by simp [List.getD, List.getElem?_append_left q]
      rw [e1, e2]; exact h3 j q
    · have hj' : j = cs.length := by omega
      subst hj'
      have e1 : (rs ++ [(B, lb, cb)]).getD cs.length sl0 = (B, lb, cb) := by rw [← h1]; simp [List.getD]
      have e2 : (cs ++ [xs]).getD cs.length [] = xs := by simp [List.getD]
      rw [e1, e2]; exact ⟨hb, hx⟩
theorem SpR.read {α : Type} {P : World → Option Addr → Nat → List α → Prop} {t : TypeId} {base : Nat} {w0 w : World} {A : Option Addr} {c : Nat} {cs : List (List α)} (h : SpR P t base w0 w (.slice A cs.length c) cs) (hP : ∀ A l xs, P w0 A l xs → P w A l xs) : RRow P w A cs.length cs := by
  obtain ⟨rs, h1, h2, h3⟩ := h
  refine ⟨rfl, fun hp => ?_⟩
  obtain ⟨g, rfl, hb, hlt⟩ := own_addr h2 hp
  refine ⟨g, 0, rfl, hlt, fun j hj => ?_⟩
  have hc := World.ownsRow.cellAt h2 j (by omega)
  rw [map_slV_at rs j (by omega)] at hc
  exact ⟨_, _, _, by rw [Nat.zero_add, hc], (h3 j hj).1, hP _ _ _ (h3 j hj).2⟩
def rowsT (ts : List (List InR)) : List (List InR) := (ts.take 10).map (·.take 18)
theorem rows_snoc {α : Type} (ts : List (List α)) (n i : Nat) (h : i < ts.length) : (ts.take (i + 1)).map (·.take n) = (ts.take i).map (·.take n) ++ [(ts.getD i []).take n] := by
  have e : ts.getD i [] = ts[i] := by simp [List.getD, h]
  rw [List.take_add_one, List.getElem?_eq_getElem h, e, List.map_append]
  rfl
set_option maxHeartbeats 4000000 in
theorem rows20_any (A : Option Addr) (l c : Nat) (ts : List (List InR)) (w0 w : World) (h : Thr w0 A l ts) (hb0 : Below w0.heap.size w0 w) (hs : SliceOk A l c) : Calls Try.prog 8 #[.slice A l c] w fun e w' => ∃ B d, e = .returned (.slice B (min l 10) d) ∧ SpR Inss 55 w.heap.size w0 w' (.slice B (min l 10) d) (rowsT ts) ∧ (rowsT ts).length = min l 10 ∧ Below w.heap.size w w' := by
  obtain ⟨i0, hi, hz0, hz1, hz2⟩ := info_parts sli_infoS
  have HI := Lib.hid hi
  have HZ0 := Lib.hid hz0
  have HZ1 := Lib.hid hz1
  have HZ2 := Lib.hid hz2
  have HT := Lib.hid h
  have HL := Lib.hid h.1
  have HB0 := Lib.hid hb0
  obtain ⟨h1, h2, h3⟩ := hs
  clear hi hz0 hz1 hz2 h hb0
  obtain ⟨kk, hk⟩ : ∃ k, k = min l 10 := ⟨_, rfl⟩
  rw [← hk]
  have HK := Lib.hid hk
  have k1 : (kk : Int) ≤ (c : Int) := by omega
  have k2 : (0 : Int) ≤ (kk : Int) := by omega
  have hm2 : min (l : Int) 10 = (kk : Int) := by omega
  have HRT := Lib.hid (show rowsT ts = (ts.take kk).map (·.take 18) by
    unfold rowsT
    by_cases q : l ≤ 10
    · rw [List.take_of_length_le (by rw [HL.out]; omega), List.take_of_length_le (by rw [HL.out]; omega)]
    · rw [show kk = 10 by omega])
  have hk10 : kk ≤ 10 := by omega
  cases A with
  | none =>
    obtain ⟨rfl, rfl⟩ := h3 rfl
    obtain rfl : kk = 0 := by omega
    have HN := Lib.hid (show rowsT ts = [] by have := HL.out; unfold rowsT; rw [List.length_eq_zero_iff.1 this]; rfl)
    clear hk h1 h2 h3 k1 k2 hm2 HK HRT hk10
    go_enter Try.func8, Try.ntmps8
    go_wp2_with fail
    go_loopw [3, 12] (fun v t wr => ∃ i : Nat, i ≤ 0 ∧ t = .int .i64 (i : Int) ∧ Hid (SpR Inss 55 w.heap.size w0 wr v ((ts.take i).map (·.take 18))) ∧ Hid (Below w.heap.size w wr)) (fun _ t _ => 0 - (Go.RowKit.intOf t).toNat)
    case atStart => exact ⟨0, Nat.zero_le _, rfl, Lib.hid ⟨[], rfl, World.ownsRow_nil _ _ _ _, fun j hj => by simp at hj⟩, Lib.hid (Below.refl _ _)⟩
    case round =>
      obtain ⟨i, hi, rfl, HO, HB⟩ := hrel
      obtain rfl : i = 0 := by omega
      obtain ⟨rs, hr1, hr2, -⟩ := HO.out
      obtain ⟨A', c', rfl, hA'⟩ := own_form hr2
      have HF := Lib.hid (show SpR Inss 55 w.heap.size w0 wr _ (rowsT ts) from by rw [HN.out]; exact HO.out)
      have HF2 := Lib.hid (show (rowsT ts).length = 0 by rw [HN.out]; rfl)
      clear hr1 hr2 HO
      go_wp2_with fail
      go_ret
      exact ⟨A', c', rfl, HF.out, HF2.out, HB.out⟩
  | some ad =>
    clear hk h1 h2 h3
    go_enter Try.func8, Try.ntmps8
    go_wp2_with fail
    go_loopw [3, 12] (fun v t wr => ∃ i : Nat, i ≤ kk ∧ t = .int .i64 (i : Int) ∧ Hid (SpR Inss 55 w.heap.size w0 wr v ((ts.take i).map (·.take 18))) ∧ Hid (Below w.heap.size w wr)) (fun _ t _ => kk - (Go.RowKit.intOf t).toNat)
    case atStart => exact ⟨0, Nat.zero_le _, rfl, Lib.hid ⟨[], rfl, World.ownsRow_nil _ _ _ _, fun j hj => by simp at hj⟩, Lib.hid (Below.refl _ _)⟩
    case round =>
      obtain ⟨i, hi, rfl, HO, HB⟩ := hrel
      by_cases hlt : i < kk
      · have hlt' : (i : Int) < (kk : Int) := by omega
        obtain ⟨b5, o5, B5, n5, d5, e5, hb5, c5, hs5, hx5⟩ := HT.out.at i (by have := HK.out; omega)
        have e5' : ad = ⟨b5, o5, none⟩ := by injection e5
        subst e5'
        have c6 := ((HB0.out.trans (HB.out.mono HB0.out.size)).cell (p := ⟨b5, o5 + i, none⟩) hb5).trans c5
        have HE := Lib.hid (rows_snoc ts 18 i (by rw [HL.out]; have := HK.out; omega))
        have hel : ((ts.take i).map (·.take 18)).length ≤ i := by simp; omega
        obtain ⟨rs, hr1, hr2, hr3⟩ := HO.out
        have HR1 := Lib.hid hr1
        have HR2 := Lib.hid hr2
        have HR3 := Lib.hid hr3
        have N2 := Lib.hid (fun k hk => (hr2.lt k hk).1)
        obtain ⟨m, hm⟩ : ∃ m, m = min n5 18 := ⟨_, rfl⟩
        have HS5 := Lib.hid (show SliceOk B5 m d5 from ⟨by have := hs5.1; omega, hs5.2.1, fun e => by have := hs5.2.2 e; omega⟩)
        have HX5 := Lib.hid (show Inss w0 B5 m ((ts.getD i []).take 18) by
          have h9 := Recs.take hx5 m (by omega)
          have e9 : (ts.getD i []).take m = (ts.getD i []).take 18 := by
            have h8 : (ts.getD i []).length = n5 := hx5.1
            by_cases q : n5 ≤ 18
            · rw [List.take_of_length_le (by omega), List.take_of_length_le (by omega)]
            · rw [show m = 18 by omega]
          rwa [e9] at h9)
        have hm2 : min (n5 : Int) 18 = (m : Int) := by omega
        have k1 : (m : Int) ≤ (d5 : Int) := by have := hs5.1; omega
        have k2 : (0 : Int) ≤ (m : Int) := by omega
        have hnz : B5 = none → n5 = 0 ∧ d5 = 0 := hs5.2.2
        clear hr1 hr2 hr3 c5 hs5 hx5 hb5 e5 HO
        cases B5 with
        | none =>
          obtain ⟨rfl, rfl⟩ := hnz rfl
          obtain rfl : m = 0 := by omega
          clear hm hm2 k1 k2 hnz
          have XO := Lib.hid (HR2.out.alloc (.cells #[.slice none 0 0] 55))
          have XB := Lib.hid (HB.out.alloc HB.out.size (.cells #[.slice none 0 0] 55))
          go_wp2_with (at_builtin; go_loud (refine wpList_append_own _ rfl _ _ 22 rfl w.heap.size 55 i0 (.slice none 0 0) 1 24 Try.underlying22 HI.out HZ0.out HZ1.out HZ2.out rfl (by decide) _ _ _ rfl XO.out ⟨wr.heap.size, 0, none⟩ 1 1 [.slice none 0 0] rfl rfl (cell_one_new _ _ _) (by simp [Value.oneCell']) (by simp only [maxLen]; omega) (by omega) XB.out.size ?_); intro v' w2 hown' hgrow _; have HC2 := Lib.hid (XB.out.grown hgrow XB.out.size N2.out); have HO2 := Lib.hid hown'; clear hown' hgrow)
          go_roundw
          case rel =>
            refine ⟨i + 1, by omega, by go_num, Lib.hid ?_, HC2⟩
            rw [HE.out]
            exact SpR.snoc HR1.out HR3.out HS5.out HX5.out HO2.out
          case measure => simp [Go.RowKit.intOf] <;> omega
        | some ad =>
          clear hm hnz
          have XO := Lib.hid (HR2.out.alloc (.cells #[.slice (some ad) m d5] 55))
          have XB := Lib.hid (HB.out.alloc HB.out.size (.cells #[.slice (some ad) m d5] 55))
          go_wp2_with (at_builtin; go_loud (refine wpList_append_own _ rfl _ _ 22 rfl w.heap.size 55 i0 (.slice none 0 0) 1 24 Try.underlying22 HI.out HZ0.out HZ1.out HZ2.out rfl (by decide) _ _ _ rfl XO.out ⟨wr.heap.size, 0, none⟩ 1 1 [.slice (some ad) m d5] rfl rfl (cell_one_new _ _ _) (by simp [Value.oneCell']) (by simp only [maxLen]; omega) (by omega) XB.out.size ?_); intro v' w2 hown' hgrow _; have HC2 := Lib.hid (XB.out.grown hgrow XB.out.size N2.out); have HO2 := Lib.hid hown'; clear hown' hgrow)
          go_roundw
          case rel =>
            refine ⟨i + 1, by omega, by go_num, Lib.hid ?_, HC2⟩
            rw [HE.out]
            exact SpR.snoc HR1.out HR3.out HS5.out HX5.out HO2.out
          case measure => simp [Go.RowKit.intOf] <;> omega
      · obtain rfl : i = kk := by omega
        have hlt' : ¬ (i : Int) < (i : Int) := by omega
        obtain ⟨rs, hr1, hr2, -⟩ := HO.out
        have hln : ((ts.take i).map (·.take 18)).length = i := by rw [List.length_map, List.length_take, HL.out]; have := HK.out; omega
        have hRT := HRT.out
        obtain ⟨A', c', rfl, hA'⟩ := own_form hr2
        have HF := Lib.hid (show SpR Inss 55 w.heap.size w0 wr (.slice A' i c') (rowsT ts) by
          have h9 := HO.out
          rw [hln] at h9
          rwa [hRT])
        have HF2 := Lib.hid (show (rowsT ts).length = i by rw [hRT]; exact hln)
        rw [hln] at *
        clear hr1 hr2 HO hRT hln
        go_wp2_with fail
        go_ret
        exact ⟨A', c', rfl, HF.out, HF2.out, HB.out⟩
end Go.Proofs.Ytcamoigcfiemhaa
