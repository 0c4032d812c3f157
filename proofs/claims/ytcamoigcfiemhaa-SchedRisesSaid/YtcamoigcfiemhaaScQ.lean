/- Layer 20: the reference's channel; a system's parts where some blocks are written. -/
import Derived.Test.YtcamoigcfiemhaaScP
namespace Go.Proofs.Ytcamoigcfiemhaa
set_option linter.unusedVariables false
set_option linter.unusedSimpArgs false
open Go.RowKit Go.Lib
set_option maxRecDepth 100000
theorem FrM.cell {M : Nat → Prop} {w w' : World} (h : FrM M w w') {p : Addr} (hp : p.block < w.heap.size) (hn : ¬ M p.block) : w'.cell? p = w.cell? p := by
  have := h.block p.block hp hn
  unfold World.cell?
  rw [this]
def OffM (M : Nat → Prop) (A : Option Addr) (l : Nat) : Prop := 0 < l → ∀ a, A = some a → ¬ M a.block
def IntsF (M : Nat → Prop) (w : World) (A : Option Addr) (l : Nat) (zs : List Int) : Prop := Ints w A l zs ∧ OffM M A l
theorem IntsF.frm {M : Nat → Prop} {w w' : World} {A : Option Addr} {l : Nat} {zs : List Int} (h : IntsF M w A l zs) (hf : FrM M w w') : IntsF M w' A l zs := by
  refine ⟨⟨h.1.1, h.1.2.1, fun hp => ?_⟩, h.2⟩
  obtain ⟨b, off, rfl, hb, hc⟩ := h.1.2.2 hp
  exact ⟨b, off, rfl, Nat.lt_of_lt_of_le hb hf.size, fun j hj => (hf.cell (p := ⟨b, off + j, none⟩) hb (show ¬ M b from h.2 hp ⟨b, off, none⟩ rfl)).trans (hc j hj)⟩
theorem IntsF.of {M : Nat → Prop} {w : World} {A : Option Addr} {l : Nat} {zs : List Int} (h : Ints w A l zs) (hM : ∀ g, M g → w.heap.size ≤ g) : IntsF M w A l zs := ⟨h, fun hp a ha hm => by
  obtain ⟨b, off, rfl, hb, -⟩ := h.2.2 hp
  injection ha with ha
  subst ha
  have h9 := hM _ hm
  dsimp only at h9
  omega⟩
theorem IntsF.own {M : Nat → Prop} {base : Nat} {w : World} {A : Option Addr} {c : Nat} {zs : List Int} (h : OwnI base w (.slice A zs.length c) zs) (hz : In64 zs) (hM : ∀ g, M g → g < base) : IntsF M w A zs.length zs := ⟨OwnI.ints h hz, fun hp a ha hm => by
  obtain ⟨g, rfl, hb, -⟩ := own_addr h hp
  injection ha with ha
  subst ha
  have h9 := hM _ hm
  dsimp only at h9
  omega⟩
def ChsF (M : Nat → Prop) (w : World) (A : Option Addr) (l : Nat) (cs : List (List Int)) : Prop := RRow (IntsF M) w A l cs ∧ OffM M A l
theorem ChsF.chs {M : Nat → Prop} {w : World} {A : Option Addr} {l : Nat} {cs : List (List Int)} (h : ChsF M w A l cs) : Chs w A l cs := RRow.mono h.1 (fun _ _ _ _ h => h.1)
theorem ChsF.frm {M : Nat → Prop} {w w' : World} {A : Option Addr} {l : Nat} {cs : List (List Int)} (h : ChsF M w A l cs) (hf : FrM M w w') : ChsF M w' A l cs := by
  refine ⟨⟨h.1.1, fun hp => ?_⟩, h.2⟩
  obtain ⟨b, off, rfl, hb, hc⟩ := h.1.2 hp
  refine ⟨b, off, rfl, Nat.lt_of_lt_of_le hb hf.size, fun j hj => ?_⟩
  obtain ⟨B, m, c, h1, h2, h3⟩ := hc j hj
  exact ⟨B, m, c, (hf.cell (p := ⟨b, off + j, none⟩) hb (show ¬ M b from h.2 hp ⟨b, off, none⟩ rfl)).trans h1, h2, h3.frm hf⟩
theorem ChsF.of {M : Nat → Prop} {w : World} {A : Option Addr} {l : Nat} {cs : List (List Int)} (h : Chs w A l cs) (hM : ∀ g, M g → w.heap.size ≤ g) : ChsF M w A l cs := ⟨RRow.mono h (fun _ _ _ _ h => IntsF.of h hM), fun hp a ha hm => by
  obtain ⟨b, off, rfl, hb, -⟩ := h.2 hp
  injection ha with ha
  subst ha
  have h9 := hM _ hm
  dsimp only at h9
  omega⟩
/-- A row of rows: the spine is the call's own, the rows were there at w0. -/
def ChRow (M : Nat → Prop) (base : Nat) (w0 w : World) (v : Value) (cs : List (List Int)) : Prop := ∃ rs : List SlT, rs.length = cs.length ∧ w.ownsRow base 23 1 v cs.length (rs.map slV) ∧ ∀ j, j < cs.length → SliceOk (rs.getD j sl0).1 (rs.getD j sl0).2.1 (rs.getD j sl0).2.2 ∧ IntsF M w0 (rs.getD j sl0).1 (rs.getD j sl0).2.1 (cs.getD j [])
theorem ChRow.snoc {M : Nat → Prop} {base : Nat} {w0 w2 : World} {v' : Value} {cs : List (List Int)} {rs : List SlT} (h1 : rs.length = cs.length) (h3 : ∀ j, j < cs.length → SliceOk (rs.getD j sl0).1 (rs.getD j sl0).2.1 (rs.getD j sl0).2.2 ∧ IntsF M w0 (rs.getD j sl0).1 (rs.getD j sl0).2.1 (cs.getD j [])) {B : Option Addr} {lb cb : Nat} {xs : List Int} (hb : SliceOk B lb cb) (hx : IntsF M w0 B lb xs)
    (ho : w2.ownsRow base 23 1 v' (cs.length + 1) (rs.map slV ++ [.slice B lb cb])) : ChRow M base w0 w2 v' (cs ++ [xs]) := by
  refine ⟨rs ++ [(B, lb, cb)], by simp [h1], ?_, fun j hj => ?_⟩
  · rw [List.map_append, List.length_append]; exact ho
  · rw [List.length_append, List.length_singleton] at hj
    by_cases q : j < cs.length
    · have e1 : (rs ++ [(B, lb, cb)]).getD j sl0 = rs.getD j sl0 := by simp [List.getD, List.getElem?_append_left (by omega : j < rs.length)]
      have e2 : (cs ++ [xs]).getD j [] = cs.getD j [] := by simp [List.getD, List.getElem?_append_left q]
      rw [e1, e2]; exact h3 j q
    · have hj' : j = cs.length := by omega
      subst hj'
      have e1 : (rs ++ [(B, lb, cb)]).getD cs.length sl0 = (B, lb, cb) := by rw [← h1]; simp [List.getD]
      have e2 : (cs ++ [xs]).getD cs.length [] = xs := by simp [List.getD]
      rw [e1, e2]; exact ⟨hb, hx⟩
theorem ChRow.read {M : Nat → Prop} {base : Nat} {w0 w : World} {A : Option Addr} {c : Nat} {cs : List (List Int)} (h : ChRow M base w0 w (.slice A cs.length c) cs) (hB : Below w0.heap.size w0 w) (hM : ∀ g, M g → g < base) : ChsF M w A cs.length cs := by
  obtain ⟨rs, h1, h2, h3⟩ := h
  refine ⟨⟨rfl, fun hp => ?_⟩, fun hp a ha hm => ?_⟩
  rotate_left
  · obtain ⟨g, rfl, hb, hlt⟩ := own_addr h2 hp
    injection ha with ha
    subst ha
    have h9 := hM _ hm
    dsimp only at h9
    omega
  obtain ⟨g, rfl, hb, hlt⟩ := own_addr h2 hp
  refine ⟨g, 0, rfl, hlt, fun j hj => ?_⟩
  have hc := World.ownsRow.cellAt h2 j (by omega)
  rw [map_slV_at rs j (by omega)] at hc
  exact ⟨_, _, _, by rw [Nat.zero_add, hc], (h3 j hj).1, (h3 j hj).2.frm (FrM.of hB)⟩
/-- A row of numbers' rows, handed back. -/
def ChOut (M : Nat → Prop) (cs : List (List Int)) (w : World) (e : Ending) (w' : World) : Prop := ∃ A c, e = .returned (.slice A cs.length c) ∧ ChsF M w' A cs.length cs ∧ SliceOk A cs.length c ∧ Below w.heap.size w w'
set_option maxHeartbeats 4000000 in
theorem channel_any (M : Nat → Prop) (A : Option Addr) (l c : Nat) (cs : List (List Int)) (w : World) (h : ChsF M w A l cs) (hM : ∀ g, M g → g < w.heap.size) (hl : l ≤ 1000) (a : Nat) (B : Option Addr) (lb cb : Nat) (xs : List Int) (hs : SliceOk B lb cb) (hx : IntsF M w B lb xs) : Calls Try.prog 50 #[.slice A l c, .int .i64 (a : Int), .slice B lb cb] w (ChOut M (cs.set a xs) w) := by
  obtain ⟨i0, hi, hz0, hz1, hz2⟩ := info_parts sl_infoS
  have HI := Lib.hid hi
  have HZ0 := Lib.hid hz0
  have HZ1 := Lib.hid hz1
  have HZ2 := Lib.hid hz2
  have HC := Lib.hid h.chs
  have HCF := Lib.hid h.1
  have HMM := Lib.hid hM
  have HL := Lib.hid h.1.1
  have HSx := Lib.hid hs
  have HX := Lib.hid hx
  clear hi hz0 hz1 hz2 h hs hx hM
  have W2 := Lib.hid ((Below.refl w.heap.size w).alloc (Nat.le_refl _) (.cells #[] 23))
  go_enter Try.func50, Try.ntmps50
  go_wp2_with fail
  go_loopw [7, 13] (fun v t wr => ∃ i : Nat, i ≤ l ∧ t = .int .i64 (i : Int) ∧ Hid (ChRow M w.heap.size w wr v ((cs.take i).set a xs)) ∧ Hid (Below w.heap.size w wr)) (fun _ t _ => l - (Go.RowKit.intOf t).toNat)
  case atStart => exact ⟨0, Nat.zero_le _, rfl, Lib.hid ⟨[], rfl, own_emptyS _ _ _ _ (Nat.le_refl _), fun j hj => by simp at hj⟩, W2⟩
  case round =>
    obtain ⟨i, hi, rfl, HO, HB⟩ := hrel
    clear W2
    by_cases hlt : i < l
    · have hlt' : (i : Int) < (l : Int) := by omega
      obtain ⟨b5, o5, B5, n5, d5, rfl, -, c5', hs5, -⟩ := (Chs.below HC.out HB.out).at i hlt
      obtain ⟨b6, o6, B6, n6, d6, e6, hb6, c6, hs6, hx6⟩ := HCF.out.at i hlt
      have e7 : (some ⟨b5, o5, none⟩ : Option Addr) = some ⟨b6, o6, none⟩ := e6
      injection e7 with e7
      injection e7 with e7 e8
      subst e7 e8
      have c7 := (HB.out.cell (p := ⟨b5, o5 + i, none⟩) hb6).trans c6
      rw [c5'] at c7
      injection c7 with c7
      injection c7 with c7 c8 c9
      subst c7 c8 c9
      have HS6 := Lib.hid hs6
      have HX6 := Lib.hid hx6
      clear hs5 hs6 hx6 hb6 c6 e6
      have hel : ((cs.take i).set a xs).length ≤ i := by simp; omega
      obtain ⟨rs, hr1, hr2, hr3⟩ := HO.out
      have HR1 := Lib.hid hr1
      have HR2 := Lib.hid hr2
      have HR3 := Lib.hid hr3
      have N2 := Lib.hid (fun k hk => (hr2.lt k hk).1)
      clear hr1 hr2 hr3
      by_cases q : i = a
      · have t0 : ((i : Int) == (a : Int)) = true := by simp; omega
        have HE := Lib.hid (set_take_yes cs i a xs (by rw [HL.out]; exact hlt) q)
        have XO := Lib.hid (HR2.out.alloc (.cells #[.slice B lb cb] 23))
        have XB := Lib.hid (HB.out.alloc HB.out.size (.cells #[.slice B lb cb] 23))
        clear q
        go_wp2_with (at_builtin; go_loud (refine wpList_append_own _ rfl _ _ 24 rfl w.heap.size 23 i0 (.slice none 0 0) 1 24 Try.underlying24 HI.out HZ0.out HZ1.out HZ2.out rfl (by decide) _ _ _ rfl XO.out ⟨wr.heap.size, 0, none⟩ 1 1 [.slice B lb cb] rfl rfl (cell_one_new _ _ _) (by simp [Value.oneCell']) (by simp only [maxLen]; omega) (by omega) XB.out.size ?_); intro v' w2 hown' hgrow _; have HC2 := Lib.hid (XB.out.grown hgrow XB.out.size N2.out); have HO2 := Lib.hid hown'; clear hown' hgrow)
        go_roundw
        case rel =>
          refine ⟨i + 1, by omega, by go_num, Lib.hid ?_, HC2⟩
          rw [HE.out]
          exact ChRow.snoc HR1.out HR3.out HSx.out HX.out HO2.out
        case measure => simp [Go.RowKit.intOf] <;> omega
      · have t0 : ((i : Int) == (a : Int)) = false := by simp; omega
        have HE := Lib.hid (set_take_no cs i a xs (by rw [HL.out]; exact hlt) q)
        have XO := Lib.hid (HR2.out.alloc (.cells #[.slice B5 n5 d5] 23))
        have XB := Lib.hid (HB.out.alloc HB.out.size (.cells #[.slice B5 n5 d5] 23))
        clear q
        go_wp2_with (at_builtin; go_loud (refine wpList_append_own _ rfl _ _ 24 rfl w.heap.size 23 i0 (.slice none 0 0) 1 24 Try.underlying24 HI.out HZ0.out HZ1.out HZ2.out rfl (by decide) _ _ _ rfl XO.out ⟨wr.heap.size, 0, none⟩ 1 1 [.slice B5 n5 d5] rfl rfl (cell_one_new _ _ _) (by simp [Value.oneCell']) (by simp only [maxLen]; omega) (by omega) XB.out.size ?_); intro v' w2 hown' hgrow _; have HC2 := Lib.hid (XB.out.grown hgrow XB.out.size N2.out); have HO2 := Lib.hid hown'; clear hown' hgrow)
        go_roundw
        case rel =>
          refine ⟨i + 1, by omega, by go_num, Lib.hid ?_, HC2⟩
          rw [HE.out]
          exact ChRow.snoc HR1.out HR3.out HS6.out HX6.out HO2.out
        case measure => simp [Go.RowKit.intOf] <;> omega
    · obtain rfl : i = l := by omega
      have hlt' : ¬ (i : Int) < (i : Int) := by omega
      have e : cs.take i = cs := List.take_of_length_le (by rw [HL.out]; exact Nat.le_refl _)
      have HO' := Lib.hid (by have := HO.out; rw [e] at this; exact this)
      clear HO e
      obtain ⟨rs, hr1, hr2, hr3⟩ := HO'.out
      obtain ⟨A', c', rfl, hA'⟩ := own_form hr2
      have HF := Lib.hid (ChRow.read HO'.out HB.out HMM.out)
      have HF2 := Lib.hid (own_cap hr2)
      clear hr1 hr2 hr3 HO'
      go_wp2_with fail
      go_ret
      exact ⟨A', c', by rw [List.length_set]; rfl, HF.out, HF2.out, HB.out⟩
end Go.Proofs.Ytcamoigcfiemhaa
