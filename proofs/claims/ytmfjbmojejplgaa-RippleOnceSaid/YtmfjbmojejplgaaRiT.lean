/- Layer 14: the reference's Run. -/
import Derived.Test.YtmfjbmojejplgaaRiS
import Derived.Deep.CutRange
namespace Go.Proofs.Ytmfjbmojejplgaa
set_option linter.unusedVariables false
set_option linter.unusedSimpArgs false
open Go.RowKit Go.Sort
set_option maxRecDepth 100000
/-- Drops are returned, in a row that was not there. -/
def DropsFr (ys : List DrR) (w : World) (e : Ending) (w' : World) : Prop := ∃ A c, e = .returned (.slice A ys.length c) ∧ (∀ b off, A = some ⟨b, off, none⟩ → w.heap.size ≤ b) ∧ SliceOk A ys.length c ∧ Drs w' A ys.length ys ∧ Below w.heap.size w w'
set_option maxHeartbeats 8000000 in
theorem refWith_fr (A : Option Addr) (l cp : Nat) (xs : List DrR) (d : DrR) (w : World) (hH : Drs w A l xs) (hlm : l ≤ 100000) :
    Calls Try.prog 17 #[.slice A l cp, .agg (drA d)] w (DropsFr (withD xs d) w) := by
  obtain ⟨i0, hi, hz0, hz1, hz2⟩ := info_parts drop_info
  have HI := Lib.hid hi
  have HZ0 := Lib.hid hz0
  have HZ1 := Lib.hid hz1
  have HZ2 := Lib.hid hz2
  have hb1 : Below w.heap.size w (w.alloc (.cells (drA d) 24)) := (Below.refl _ _).alloc (Nat.le_refl _) _
  obtain ⟨w1, hw1⟩ : ∃ w1, w1 = w.alloc (.cells (drA d) 24) := ⟨_, rfl⟩
  have GD := Lib.hid (show Box w1 w.heap.size 24 (drA d) from hw1 ▸ Box.new w 24 (drA d))
  have hsz : w1.heap.size = w.heap.size + 1 := by rw [hw1, World.size_alloc]
  have HH := Lib.hid (show Drs w1 A l xs from Recs.below hH (hw1 ▸ hb1))
  have HB1 := Lib.hid (show Below w.heap.size w w1 from hw1 ▸ hb1)
  have HLen := Lib.hid hH.1
  have HBf := Lib.hid (fun (x : DrR) (w' : World) => refBefore14_any d x w')
  have HF1 := Lib.hid (fl1_all xs d l hH.1)
  have HF2 := Lib.hid (fl2_all xs d l hH.1)
  have S1O := Lib.hid (show (w1.alloc (.cells #[] 24)).ownsRow w1.heap.size 24 2 (.slice (some ⟨w.heap.size + 1, 0, none⟩) 0 0) 0 [] by rw [← hsz]; exact own_emptyD w1 w1.heap.size 24 (Nat.le_refl _))
  have S1B := Lib.hid (show Below w1.heap.size w1 (w1.alloc (.cells #[] 24)) from (Below.refl _ _).alloc (Nat.le_refl _) _)
  have hxl := hH.1
  have HSz := Lib.hid hsz
  clear hH hi hz0 hz1 hz2 hb1
  go_enter Try.func17, Try.ntmps17
  have HW1 := Lib.hid hw1
  clear hw1
  go_wp2_with fail
  rw [← HW1.out]
  clear HW1
  go_loopw [5, 13] (fun v t wr => ∃ i : Nat, i ≤ l ∧ t = .int .i64 i ∧ wr.ownsRow w1.heap.size 24 2 v (fl1 xs d i).length ((fl1 xs d i).flatMap encD) ∧ Below w1.heap.size w1 wr) (fun _ t _ => l - (intOf t).toNat)
  case atStart => exact ⟨0, Nat.zero_le _, rfl, S1O.out, S1B.out⟩
  case round =>
    clear S1O S1B
    obtain ⟨i, hi, rfl, hown, hbel⟩ := hrel
    have HO := Lib.hid hown
    have HC := Lib.hid hbel
    clear hown hbel
    by_cases hlt : i < l
    · have hlt' : (i : Int) < (l : Int) := Int.ofNat_lt.2 hlt
      have hi5 : (i : Int) < 1000000 := by omega
      obtain ⟨b, off, rfl, hlb, d0, d1⟩ := HH.out.cells HC.out i hlt
      obtain ⟨w5, rfl⟩ : ∃ w5 : World, w5 = wr := ⟨_, rfl⟩
      have HSy := Lib.hid (fl1_yes xs d i (by rw [HLen.out]; exact hlt))
      have HSn := Lib.hid (fl1_no xs d i (by rw [HLen.out]; exact hlt))
      have hsl := fl1_len xs d i
      have GX := Lib.hid (Box.new w5 24 (drA (drAt xs i)))
      have c1 := Lib.hid (show Below w5.heap.size w5 (w5.alloc (.cells (drA (drAt xs i)) 24)) from (Below.refl _ _).alloc (Nat.le_refl _) _)
      have GD1 := Lib.hid (GD.out.keep (HC.out.trans (c1.out.mono HC.out.size)))
      generalize drAt xs i = x at *
      have g0 := GX.out.cell 0
      have g1 := GX.out.cell 1
      have k0 := GD1.out.cell 0
      have k1 := GD1.out.cell 1
      simp only [List.getElem?_toArray, List.getElem?_cons_zero, List.getElem?_cons_succ] at g0 g1 k0 k1
      go_wp2_with fail
      refine (HBf.out x _).mono ?_
      rintro e x2 ⟨rfl, hb⟩
      have GX2 := Lib.hid (GX.out.keep hb)
      have c2 := Lib.hid (chain c1.out hb)
      have YO := Lib.hid (own_keep HO.out c2.out)
      have YB := Lib.hid (HC.out.trans (c2.out.mono HC.out.size))
      clear hb d0 d1 g0 g1 k0 k1 HO HC GD1 GX c1 c2
      have g0 := GX2.out.cell 0
      have g1 := GX2.out.cell 1
      simp only [List.getElem?_toArray, List.getElem?_cons_zero, List.getElem?_cons_succ] at g0 g1
      cases hbf : befD d x with
      | false =>
        have HS := Lib.hid (HSy.out hbf)
        clear HSy HSn hbf
        have c3 := Lib.hid (show Below x2.heap.size x2 (x2.alloc (.cells (drA x) 24)) from (Below.refl _ _).alloc (Nat.le_refl _) _)
        have ZO := Lib.hid (own_keep YO.out c3.out)
        have ZB := Lib.hid (YB.out.trans (c3.out.mono YB.out.size))
        have N2 := Lib.hid (fun g hg => (ZO.out.lt g hg).1)
        have NW := Lib.hid (World.news_of_block (Box.new x2 24 (drA x)))
        clear c3 YO
        go_wp2_with (at_builtin; refine wpList_append_own _ rfl _ _ 25 rfl w1.heap.size 24 i0 _ 2 16 Try.underlying25 HI.out HZ0.out HZ1.out HZ2.out rfl (by decide) _ _ _ rfl ZO.out ⟨x2.heap.size, 0, none⟩ 1 1 (encD x) rfl rfl NW.out (encD_one x) (by simp [maxLen]; omega) (by omega) ZB.out.size ?_; intro v' w2 hown' hgrow _; have HC2 := Lib.hid (ZB.out.grown hgrow ZB.out.size N2.out); have HO2 := Lib.hid hown'; clear hown' hgrow)
        go_roundw
        case rel =>
          refine ⟨i + 1, hlt, by go_num, ?_, HC2.out⟩
          rw [HS.out, List.length_append, List.flatMap_append]
          simpa using HO2.out
        case measure => simp [intOf] <;> omega
      | true =>
        have HS := Lib.hid (HSn.out hbf)
        clear HSy HSn hbf
        go_wp2_with fail
        go_roundw
        case rel => exact ⟨i + 1, hlt, by go_num, by rw [HS.out]; exact YO.out, YB.out⟩
        case measure => simp [intOf] <;> omega
    · obtain rfl : l = i := by omega
      have hlt' : ¬ (l : Int) < (l : Int) := Int.lt_irrefl _
      have HO := Lib.hid HO.out
      have GD1 := Lib.hid (GD.out.keep HC.out)
      have k0 := GD1.out.cell 0
      have k1 := GD1.out.cell 1
      simp only [List.getElem?_toArray, List.getElem?_cons_zero, List.getElem?_cons_succ] at k0 k1
      have c3 := Lib.hid (show Below wr.heap.size wr (wr.alloc (.cells (drA d) 24)) from (Below.refl _ _).alloc (Nat.le_refl _) _)
      have ZO := Lib.hid (own_keep HO.out c3.out)
      have ZB := Lib.hid (HC.out.trans (c3.out.mono HC.out.size))
      have N2 := Lib.hid (fun g hg => (ZO.out.lt g hg).1)
      have NW := Lib.hid (World.news_of_block (Box.new wr 24 (drA d)))
      have hsl := fl1_len xs d l
      clear c3 HO GD1
      go_wp2_with (at_builtin; refine wpList_append_own _ rfl _ _ 25 rfl w1.heap.size 24 i0 _ 2 16 Try.underlying25 HI.out HZ0.out HZ1.out HZ2.out rfl (by decide) _ _ _ rfl ZO.out ⟨wr.heap.size, 0, none⟩ 1 1 (encD d) rfl rfl NW.out (encD_one d) (by simp [maxLen]; omega) (by omega) ZB.out.size ?_; intro v' w2 hown' hgrow _; have HC2 := Lib.hid (ZB.out.grown hgrow ZB.out.size N2.out); have HO2 := Lib.hid hown'; clear hown' hgrow)
      have S2O := Lib.hid (show w2.ownsRow w1.heap.size 24 2 v' (fl2 xs d 0).length ((fl2 xs d 0).flatMap encD) by rw [← HF1.out, List.length_append, List.flatMap_append]; simpa using HO2.out)
      have S2B := Lib.hid HC2.out
      clear ZO ZB N2 NW HO2 HC2 k0 k1 HC HF1 hsl
      obtain ⟨wo, rfl⟩ : ∃ wo, wo = w2 := ⟨_, rfl⟩
      go_loopw [5, 32] (fun v t wr => ∃ i : Nat, i ≤ l ∧ t = .int .i64 i ∧ wr.ownsRow w1.heap.size 24 2 v (fl2 xs d i).length ((fl2 xs d i).flatMap encD) ∧ Below w1.heap.size w1 wr) (fun _ t _ => l - (intOf t).toNat)
      case atStart => exact ⟨0, Nat.zero_le _, rfl, S2O.out, S2B.out⟩
      case round =>
        clear S2O S2B
        obtain ⟨i, hi, rfl, hown, hbel⟩ := hrel
        have HO := Lib.hid hown
        have HC := Lib.hid hbel
        clear hown hbel
        by_cases hlt : i < l
        · have hlt' : (i : Int) < (l : Int) := Int.ofNat_lt.2 hlt
          have hi5 : (i : Int) < 1000000 := by omega
          obtain ⟨b, off, rfl, hlb, d0, d1⟩ := HH.out.cells HC.out i hlt
          obtain ⟨w5, rfl⟩ : ∃ w5 : World, w5 = wr := ⟨_, rfl⟩
          have HSy := Lib.hid (fl2_yes xs d i (by rw [HLen.out]; exact hlt))
          have HSn := Lib.hid (fl2_no xs d i (by rw [HLen.out]; exact hlt))
          have hsl := fl2_len xs d i
          have GX := Lib.hid (Box.new w5 24 (drA (drAt xs i)))
          have c1 := Lib.hid (show Below w5.heap.size w5 (w5.alloc (.cells (drA (drAt xs i)) 24)) from (Below.refl _ _).alloc (Nat.le_refl _) _)
          have GD1 := Lib.hid (GD.out.keep (HC.out.trans (c1.out.mono HC.out.size)))
          generalize drAt xs i = x at *
          have g0 := GX.out.cell 0
          have g1 := GX.out.cell 1
          have k0 := GD1.out.cell 0
          have k1 := GD1.out.cell 1
          simp only [List.getElem?_toArray, List.getElem?_cons_zero, List.getElem?_cons_succ] at g0 g1 k0 k1
          go_wp2_with fail
          refine (HBf.out x _).mono ?_
          rintro e x2 ⟨rfl, hb⟩
          have GX2 := Lib.hid (GX.out.keep hb)
          have c2 := Lib.hid (chain c1.out hb)
          have YO := Lib.hid (own_keep HO.out c2.out)
          have YB := Lib.hid (HC.out.trans (c2.out.mono HC.out.size))
          clear hb d0 d1 g0 g1 k0 k1 HO HC GD1 GX c1 c2
          have g0 := GX2.out.cell 0
          have g1 := GX2.out.cell 1
          simp only [List.getElem?_toArray, List.getElem?_cons_zero, List.getElem?_cons_succ] at g0 g1
          cases hbf : befD d x with
          | true =>
            have HS := Lib.hid (HSy.out hbf)
            clear HSy HSn hbf
            have c3 := Lib.hid (show Below x2.heap.size x2 (x2.alloc (.cells (drA x) 24)) from (Below.refl _ _).alloc (Nat.le_refl _) _)
            have ZO := Lib.hid (own_keep YO.out c3.out)
            have ZB := Lib.hid (YB.out.trans (c3.out.mono YB.out.size))
            have N2 := Lib.hid (fun g hg => (ZO.out.lt g hg).1)
            have NW := Lib.hid (World.news_of_block (Box.new x2 24 (drA x)))
            clear c3 YO
            go_wp2_with (at_builtin; refine wpList_append_own _ rfl _ _ 25 rfl w1.heap.size 24 i0 _ 2 16 Try.underlying25 HI.out HZ0.out HZ1.out HZ2.out rfl (by decide) _ _ _ rfl ZO.out ⟨x2.heap.size, 0, none⟩ 1 1 (encD x) rfl rfl NW.out (encD_one x) (by simp [maxLen]; omega) (by omega) ZB.out.size ?_; intro v' w2 hown' hgrow _; have HC2 := Lib.hid (ZB.out.grown hgrow ZB.out.size N2.out); have HO2 := Lib.hid hown'; clear hown' hgrow)
            go_roundw
            case rel =>
              refine ⟨i + 1, hlt, by go_num, ?_, HC2.out⟩
              rw [HS.out, List.length_append, List.flatMap_append]
              simpa using HO2.out
            case measure => simp [intOf] <;> omega
          | false =>
            have HS := Lib.hid (HSn.out hbf)
            clear HSy HSn hbf
            go_wp2_with fail
            go_roundw
            case rel => exact ⟨i + 1, hlt, by go_num, by rw [HS.out]; exact YO.out, YB.out⟩
            case measure => simp [intOf] <;> omega
        · obtain rfl : l = i := by omega
          have hlt' : ¬ (l : Int) < (l : Int) := Int.lt_irrefl _
          rw [HF2.out] at HO
          obtain ⟨A7, c7, hv, hnil⟩ := own_form HO.out
          subst hv
          have HX := Lib.hid (own_recs encD_len HO.out (by decide))
          have HSO := Lib.hid (own_okD HO.out)
          have BB := Lib.hid (chain HB1.out HC.out)
          go_wp2_with fail
          go_ret
          exact ⟨A7, c7, rfl, fun b off e => by subst e; have := (HO.out.lt b rfl).1; have := HSz.out; omega, HSO.out, HX.out, BB.out⟩

abbrev rcA (A1 A2 : Option Addr) (n1 c1 n2 c2 : Nat) (vn : Nat) : Array Value := #[.slice A1 n1 c1, .slice A2 n2 c2, .int .i64 (vn : Int)]
/-- What the reference's Run hands back. -/
def RefRunOut (s : RunS) (w : World) (e : Ending) (w' : World) : Prop := ∃ A1 c1 A2 c2, e = .returned (.agg (rcA A1 A2 s.tk.length c1 s.lf.length c2 s.vn)) ∧ Drs w' A1 s.tk.length s.tk ∧ Drs w' A2 s.lf.length s.lf ∧ Below w.heap.size w w'
theorem drs_grown {w w' : World} {A : Option Addr} {l : Nat} {xs : List DrR} {row : Option Nat} (h : Drs w A l xs) (hg : w.grownBy w' row) (hb : ∀ b off, A = some ⟨b, off, none⟩ → row ≠ some b) : Drs w' A l xs := by
  refine ⟨h.1, fun hp => ?_⟩
  obtain ⟨b, off, e, hlt, hc⟩ := h.2 hp
  refine ⟨b, off, e, Nat.lt_of_lt_of_le hlt hg.size, fun j hj k v hv => ?_⟩
  have e1 : w'.heap[b]? = w.heap[b]? := hg.block b hlt (Ne.symm (hb b off e))
  have := hc j hj k v hv
  rw [← this]
  simp only [World.cell?, e1]
set_option maxHeartbeats 8000000 in
theorem refRun14_any (A : Option Addr) (l cp : Nat) (ds : List DeR) (w : World) (hH : Des w A l ds) (hl : l ≤ 1000) :
    Calls Try.prog 16 #[.slice A l cp] w (RefRunOut (runL ds) w) := by
  obtain ⟨i0, hi, hz0, hz1, hz2⟩ := info_parts drop_info
  have HI := Lib.hid hi
  have HZ0 := Lib.hid hz0
  have HZ1 := Lib.hid hz1
  have HZ2 := Lib.hid hz2
  have HH := Lib.hid hH
  have HLn := Lib.hid hH.1
  have Z0 := Lib.hid ((Box.new w 38 #[.slice none 0 0, .slice none 0 0, .int .i64 0]).alloc (.cells #[.slice none 0 0, .slice none 0 0, .int .i64 0] 38))
  have q := Box.new (w.alloc (.cells #[.slice none 0 0, .slice none 0 0, .int .i64 0] 38)) 38 #[.slice none 0 0, .slice none 0 0, .int .i64 0]
  simp only [World.size_alloc] at q
  have G0 := Lib.hid q
  have B0 := Lib.hid (((Below.refl w.heap.size w).alloc (Nat.le_refl _) (.cells #[.slice none 0 0, .slice none 0 0, .int .i64 0] 38)).alloc (by simp) (.cells #[.slice none 0 0, .slice none 0 0, .int .i64 0] 38))
  clear hH hi hz0 hz1 hz2 q
  go_enter Try.func16, Try.ntmps16
  go_wp2_with fail
  go_loopw [9] (fun t wr => ∃ (i : Nat) (A1 A2 : Option Addr) (c1 c2 : Nat), i ≤ l ∧ t = .int .i64 (i : Int) ∧ Hid (Box wr (w.heap.size + 1) 38 (rcA A1 A2 (runL (ds.take i)).tk.length c1 (runL (ds.take i)).lf.length c2 (runL (ds.take i)).vn)) ∧ Hid (Box wr w.heap.size 38 #[.slice none 0 0, .slice none 0 0, .int .i64 0]) ∧ Hid (wr.ownsRow (w.heap.size + 2) 24 2 (.slice A1 (runL (ds.take i)).tk.length c1) (runL (ds.take i)).tk.length ((runL (ds.take i)).tk.flatMap encD)) ∧ Hid (SliceOk A2 (runL (ds.take i)).lf.length c2) ∧ Hid (Drs wr A2 (runL (ds.take i)).lf.length (runL (ds.take i)).lf) ∧ Hid (∀ b off, A2 = some ⟨b, off, none⟩ → w.heap.size + 2 ≤ b ∧ b < wr.heap.size ∧ (Value.slice A1 (runL (ds.take i)).tk.length c1).ownBlock ≠ some b) ∧ Hid (Below w.heap.size w wr)) (fun t _ => l - (intOf t).toNat)
  case atStart => exact ⟨0, none, none, 0, 0, Nat.zero_le _, rfl, G0, Z0, Lib.hid (World.ownsRow_nil _ _ _ _), Lib.hid ⟨Nat.le_refl _, Nat.zero_le _, fun _ => ⟨rfl, rfl⟩⟩, Lib.hid (Recs.nil _ _), Lib.hid (fun b off e => by cases e), B0⟩
  case round =>
    clear G0 Z0 B0
    obtain ⟨i, A1, A2, c1, c2, hi, rfl, G, Z, HO, HSO, HX, HDi, HB⟩ := hrel
    obtain ⟨b1, b2, b3, b4⟩ := runL_le (ds.take i)
    have hlt0 : (ds.take i).length ≤ i := by rw [List.length_take]; omega
    have hv5 : (runL (ds.take i)).vn ≤ 1000 := by omega
    have ht5 : (runL (ds.take i)).tk.length ≤ 1000 := by omega
    have hf5 : (runL (ds.take i)).lf.length ≤ 1000 := by omega
    clear b1 b2 b3 b4 hlt0
    by_cases hlt : i < l
    · have hlt' : (i : Int) < (l : Int) := Int.ofNat_lt.2 hlt
      have hi5 : (i : Int) < 1000000 := by omega
      obtain ⟨b, off, rfl, hlb, d0, d1, d2⟩ := HH.out.cells HB.out i hlt
      obtain ⟨w5, rfl⟩ : ∃ w5 : World, w5 = wr := ⟨_, rfl⟩
      have HSn := Lib.hid (runL_snoc ds i (by rw [HLn.out]; exact hlt))
      have GD := Lib.hid (Box.new w5 42 (deA (deAt ds i)))
      have c9 : Below w5.heap.size w5 (w5.alloc (.cells (deA (deAt ds i)) 42)) := (Below.refl _ _).alloc (Nat.le_refl _) _
      have G1 := Lib.hid (G.out.keep c9)
      have Z1 := Lib.hid (Z.out.keep c9)
      have HO1 := Lib.hid (own_keep HO.out c9)
      have HX1 := Lib.hid (Recs.below HX.out c9)
      have HB1 := Lib.hid (HB.out.trans (c9.mono HB.out.size))
      have HS5 := Lib.hid c9.size
      generalize runL (ds.take i) = st at *
      generalize deAt ds i = de at *
      obtain ⟨tkb, d⟩ := de
      have g0 := GD.out.cell 0
      have g1 := GD.out.cell 1
      have g2 := GD.out.cell 2
      have r0 := G1.out.cell 0
      have r1 := G1.out.cell 1
      have r2 := G1.out.cell 2
      have u0 := G1.out.free 0
      have u1 := G1.out.free 1
      have u2 := G1.out.free 2
      simp only [List.getElem?_toArray, List.getElem?_cons_zero, List.getElem?_cons_succ] at g0 g1 g2 r0 r1 r2
      have hzn : w.heap.size ≠ w.heap.size + 1 := by omega
      clear G Z HO HX HB c9
      cases tkb with
      | false =>
        have HS := Lib.hid (show runL (ds.take (i + 1)) = ⟨st.tk, withD st.lf d, st.vn⟩ from HSn.out)
        have HW := Lib.hid (refWith_fr A2 st.lf.length c2 st.lf d _ HX1.out (by omega))
        go_wp2_with fail
        refine HW.out.mono ?_
        rintro e w6 ⟨A3, c3, rfl, hfr, h1, h2, hb⟩
        have G6 := Lib.hid (G1.out.keep hb)
        have Z6 := Lib.hid (Z1.out.keep hb)
        have HO6 := Lib.hid (own_keep HO1.out hb)
        have HB6 := Lib.hid (chain HB1.out hb)
        have HX6 := Lib.hid h2
        have HSO6 := Lib.hid h1
        have HFr := Lib.hid hfr
        have HLt := Lib.hid (show ∀ b off, A3 = some ⟨b, off, none⟩ → b < w6.heap.size from fun b off e => by
          have hp : 0 < (withD st.lf d).length := by rw [withD_len]; omega
          obtain ⟨b', off', e', hlt', -⟩ := h2.2 hp
          rw [e] at e'; injection e' with e'; injection e' with e1 _; omega)
        have HZs := Lib.hid (show w.heap.size + 2 ≤ (w5.alloc (.cells (deA (false, d)) 42)).heap.size from by have := G1.out.lt; omega)
        have s0 := G6.out.cell 1
        have s1 := G6.out.free 1
        simp only [List.getElem?_toArray, List.getElem?_cons_zero, List.getElem?_cons_succ] at s0
        clear h1 h2 hb hfr HW d0 d1 d2 g0 g1 g2 r0 r1 r2 u0 u1 u2
        go_wp2_with fail
        go_roundw
        case rel =>
          refine ⟨i + 1, A1, A3, c1, c3, hlt, by go_num, Lib.hid ?_, Lib.hid ?_, Lib.hid ?_, Lib.hid ?_, Lib.hid ?_, Lib.hid ?_, Lib.hid ?_⟩
          · rw [HS.out]; exact G6.out.put 1 _
          · exact Z6.out.far (p := ⟨w.heap.size + 1, 1, none⟩) hzn _
          · rw [HS.out]; exact own_far HO6.out G6.out (by decide) 1 _
          · rw [HS.out]; exact HSO6.out
          · rw [HS.out]; exact Recs.farB HX6.out (g := w.heap.size + 1) (fun b off e _ => by have := HFr.out b off e; have := HZs.out; omega) 1 _
          · intro b off e
            rw [HS.out]
            have h1 := HFr.out b off e
            have h2 := HLt.out b off e
            have h3 := HZs.out
            refine ⟨by omega, by simpa [World.setCell] using h2, fun e2 => ?_⟩
            have := (HO1.out.lt b e2).2
            omega
          · exact HB6.out.setCell (p := ⟨w.heap.size + 1, 1, none⟩) (Nat.le_succ _) _
        case measure => simp [intOf] <;> omega
      | true =>
        cases hlf : st.lf with
        | nil =>
          have HS := Lib.hid (show runL (ds.take (i + 1)) = ⟨st.tk, [], st.vn + 1⟩ by rw [HSn.out]; unfold stepR; rw [if_pos rfl, hlf])
          rw [hlf] at r1 G1 HSO HX1
          simp only [List.length_nil] at r1
          have hv6 : (st.vn : Int) < 1000000 := by omega
          clear hlf hf5 hv5
          go_wp2_with fail
          go_roundw
          case rel =>
            refine ⟨i + 1, A1, A2, c1, c2, hlt, by go_num, Lib.hid ?_, Lib.hid ?_, Lib.hid ?_, Lib.hid ?_, Lib.hid ?_, Lib.hid ?_, Lib.hid ?_⟩
            · rw [HS.out]; exact G1.out.put 2 _
            · exact Z1.out.far (p := ⟨w.heap.size + 1, 2, none⟩) hzn _
            · rw [HS.out]; exact own_far HO1.out G1.out (by decide) 2 _
            · rw [HS.out]; exact HSO.out
            · rw [HS.out]; exact Recs.nil _ _
            · intro b off e
              rw [HS.out]
              obtain ⟨h1, h2, h3⟩ := HDi.out b off e
              exact ⟨h1, by have := HS5.out; simp [World.setCell] at *; omega, h3⟩
            · exact HB1.out.setCell (p := ⟨w.heap.size + 1, 2, none⟩) (Nat.le_succ _) _
          case measure => simp [intOf] <;> omega
        | cons y r =>
          have HS := Lib.hid (show runL (ds.take (i + 1)) = ⟨st.tk ++ [y], r, st.vn⟩ by rw [HSn.out]; unfold stepR; rw [if_pos rfl, hlf])
          have hll : st.lf.length = r.length + 1 := by rw [hlf]; rfl
          have hy0 : drAt st.lf 0 = y := by rw [hlf]; rfl
          have HRc := Lib.hid (show ∀ (w' : World) (B : Option Addr), Drs w' A2 (r.length + 1) st.lf → (∀ b off, A2 = some ⟨b, off, none⟩ → B = some ⟨b, off + 2, none⟩) → Drs w' B r.length r from fun w' B h hB => by
            rcases Nat.eq_zero_or_pos r.length with h0 | h0
            · have hr0 := List.eq_nil_of_length_eq_zero h0
              subst hr0; exact Recs.nil _ _
            · have := Recs.drop h 1 (by omega) B (fun b off e => by rw [hB b off e, Nat.one_mul])
              rwa [Nat.add_sub_cancel, hlf] at this)
          rw [hll] at r1 G1 HSO HX1 hf5
          obtain ⟨b2, o2, rfl, lt2, l0, l1⟩ := Drs.cells HX1.out (Below.refl _ _) 0 (by omega)
          rw [hy0] at l0 l1
          simp only [Nat.zero_mul, Nat.add_zero] at l0 l1
          obtain ⟨hq1, hq2, hq3⟩ := HDi.out b2 o2 rfl
          have hcc : r.length + 1 ≤ c2 := HSO.out.1
          have HSO2 := Lib.hid HSO.out.2.1
          have c8 : Below (w5.alloc (.cells (deA (true, d)) 42)).heap.size (w5.alloc (.cells (deA (true, d)) 42)) ((w5.alloc (.cells (deA (true, d)) 42)).alloc (.cells (drA y) 24)).drew := ((Below.refl _ _).alloc (Nat.le_refl _) _).drew
          have G8 := Lib.hid (G1.out.keep c8)
          have Z8 := Lib.hid (Z1.out.keep c8)
          have ZO := Lib.hid (own_keep HO1.out c8)
          have HX8 := Lib.hid (Recs.below HX1.out c8)
          have HB8 := Lib.hid (chain HB1.out c8)
          have by2 := Box.new (w5.alloc (.cells (deA (true, d)) 42)) 24 (drA y)
          have NW := Lib.hid (show ∀ j u, (encD y)[j]? = some u → ((w5.alloc (.cells (deA (true, d)) 42)).alloc (.cells (drA y) 24)).drew.cell? ((⟨(w5.alloc (.cells (deA (true, d)) 42)).heap.size, 0, none⟩ : Addr).add j) = some u from fun j u hu => news_boxR (cs := encD y) (show Box _ _ _ (encD y).toArray from by2) _ rfl j u hu)
          rw [World.size_alloc] at NW
          have t0 := G8.out.cell 0
          have t1 := G8.out.free 0
          simp only [List.getElem?_toArray, List.getElem?_cons_zero, List.getElem?_cons_succ] at t0
          have hbs : w.heap.size + 2 ≤ ((w5.alloc (.cells (deA (true, d)) 42)).alloc (.cells (drA y) 24)).drew.heap.size := by
            have h1 := G1.out.lt
            have h2 := c8.size
            omega
          have HNe := Lib.hid (show (Value.slice A1 st.tk.length c1).ownBlock ≠ some (w.heap.size + 1) from fun e => by have := (ZO.out.lt _ e).1; omega)
          have HNz := Lib.hid (show (Value.slice A1 st.tk.length c1).ownBlock ≠ some w.heap.size from fun e => by have := (ZO.out.lt _ e).1; omega)
          have HNl := Lib.hid hq3
          have HQl := Lib.hid (show b2 < ((w5.alloc (.cells (deA (true, d)) 42)).alloc (.cells (drA y) 24)).drew.heap.size from Nat.lt_of_lt_of_le hq2 (Nat.le_trans HS5.out c8.size))
          clear hlf hy0 hll HSn HX1 HDi hq3 by2 c8 HSO
          go_wp2_with fail
          go_region_law (first
            | (refine step_append_lies _ rfl (.tmp 27) (.tmp 32) 25 rfl (w.heap.size + 2) 24 i0 (.agg #[.int .i64 0, .int .u64 0]) 2 16 Try.underlying25 HI.out HZ0.out HZ1.out HZ2.out rfl (by decide) (.slice A1 st.tk.length c1) st.tk.length (st.tk.flatMap encD) (by simp [Act.eval, Act.put]) ZO.out ⟨w5.heap.size + 1, 0, none⟩ 1 1 (encD y) (by simp [Act.eval, Act.put]) rfl NW.out (encD_one y) (by omega) (by simp [maxLen]; omega) (by omega) hbs _ rfl ?_; intro g cap w7 hown hgrow hat hlt2; have G9 := Lib.hid (G8.out.grown hgrow HNe.out); have HO2 := Lib.hid hown; have HGr := Lib.hid hgrow; have HAt := Lib.hid hat; clear hown hgrow hat; have z0 := G9.out.cell 0; have z1 := G9.out.free 0))
          all_goals
            have G10 := Lib.hid (G9.out.put 0 (.slice (some ⟨g, 0, none⟩) (st.tk.length + 1) cap))
            have p1 : (w7.setCell ⟨w.heap.size + 1, 0, none⟩ (.slice (some ⟨g, 0, none⟩) (st.tk.length + 1) cap)).cell? ⟨w.heap.size + 1, 1, none⟩ = some (.slice (some ⟨b2, o2, none⟩) (r.length + 1) c2) := G10.out.cell 1
            have p2 := G10.out.free 1
            have n1 : (1 : Int) ≤ (r.length : Int) + 1 := by omega
            have n2 : (r.length : Int) + 1 ≤ (c2 : Int) := by omega
            have n3 : (0 : Int) ≤ (r.length : Int) := Int.natCast_nonneg _
            clear z0 z1 t0 t1 l0 l1 r0 r1 r2 u0 u1 u2 g0 g1 g2 d0 d1 d2
            go_wp2_with fail
            have hBx : ∀ b off, (if c2 = 1 then (some ⟨b2, o2, none⟩ : Option Addr) else some ⟨b2, o2 + 2, none⟩) = some ⟨b, off, none⟩ → b = b2 := fun b off e => by
              split at e <;> (injection e with e; injection e with e1 _; exact e1.symm)
            have hBn : (if c2 = 1 then (some ⟨b2, o2, none⟩ : Option Addr) else some ⟨b2, o2 + 2, none⟩) = none → r.length = 0 ∧ c2 - 1 = 0 := fun e => by split at e <;> cases e
            have HX9 := drs_grown HX8.out HGr.out (fun b off e => by
              injection e with e; injection e with e1 _; rw [← e1]; exact HNl.out)
            have HXr := Lib.hid (show Drs w7 (if c2 = 1 then (some ⟨b2, o2, none⟩ : Option Addr) else some ⟨b2, o2 + 2, none⟩) r.length r from by
              by_cases hc : c2 = 1
              · have h0 : r = [] := List.eq_nil_of_length_eq_zero (by omega)
                subst h0; exact Recs.nil _ _
              · rw [if_neg hc]
                exact HRc.out w7 _ HX9 (fun b off e => by injection e with e; injection e with e1 e2; rw [e1, e2]))
            have Z9 := Lib.hid (Z8.out.grown HGr.out HNz.out)
            have HB9 := Lib.hid (HB8.out.grown HGr.out HB8.out.size (fun g hg => by have := (ZO.out.lt g hg).1; omega))
            have hmx := HSO2.out
            have HSz := Lib.hid HGr.out.size
            generalize (if c2 = 1 then (some ⟨b2, o2, none⟩ : Option Addr) else some ⟨b2, o2 + 2, none⟩) = Bx at *
            have HBx := Lib.hid hBx
            have HBn := Lib.hid hBn
            clear hBx hBn HX9
            go_roundw
            case rel =>
              refine ⟨i + 1, some ⟨g, 0, none⟩, Bx, cap, c2 - 1, hlt, by go_num, Lib.hid ?_, Lib.hid ?_, Lib.hid ?_, Lib.hid ?_, Lib.hid ?_, Lib.hid ?_, Lib.hid ?_⟩
              · rw [HS.out]; simp only [List.length_append, List.length_cons, List.length_nil, Nat.zero_add]; exact G10.out.put 1 _
              · exact (Z9.out.far (p := ⟨w.heap.size + 1, 0, none⟩) hzn _).far (p := ⟨w.heap.size + 1, 1, none⟩) hzn _
              · rw [HS.out, flat_snoc]; simp only [List.length_append, List.length_cons, List.length_nil, Nat.zero_add]; exact own_far (own_far HO2.out G9.out (by decide) 0 _) G10.out (by decide) 1 _
              · rw [HS.out]; exact ⟨by show r.length ≤ c2 - 1; omega, by omega, HBn.out⟩
              · rw [HS.out]
                exact Recs.farB (Recs.farB HXr.out (g := w.heap.size + 1) (fun b off e _ => by have := HBx.out b off e; omega) 0 _) (g := w.heap.size + 1) (fun b off e _ => by have := HBx.out b off e; omega) 1 _
              · intro b off e
                rw [HS.out]
                have hb2 := HBx.out b off e
                subst hb2
                refine ⟨hq1, ?_, fun e2 => ?_⟩
                · have h1 := HQl.out
                  have h2 := HSz.out
                  have h3 : ∀ v u : Value, ((w7.setCell ⟨w.heap.size + 1, 0, none⟩ v).setCell ⟨w.heap.size + 1, 1, none⟩ u).heap.size = w7.heap.size := fun v u => by simp [World.setCell]
                  rw [h3]; exact Nat.lt_of_lt_of_le h1 h2
                · injection e2 with e2
                  have e3 : g = b := e2
                  rcases HAt.out with h | h
                  · exact HNl.out (by rw [h, e3])
                  · have h1 := HQl.out
                    have h4 : g = ((w5.alloc (.cells (deA (true, d)) 42)).alloc (.cells (drA y) 24)).drew.heap.size := h
                    omega
              · exact (HB9.out.setCell (p := ⟨w.heap.size + 1, 0, none⟩) (Nat.le_succ _) _).setCell (p := ⟨w.heap.size + 1, 1, none⟩) (Nat.le_succ _) _
            case measure => simp [intOf] <;> omega
    · obtain rfl : l = i := by omega
      have hlt' : ¬ (l : Int) < (l : Int) := Int.lt_irrefl _
      have hT : ds.take l = ds := List.take_of_length_le (by rw [HLn.out]; exact Nat.le_refl _)
      rw [hT] at G HO HX HSO
      have r0 := G.out.cell 0
      have r1 := G.out.cell 1
      have r2 := G.out.cell 2
      have z0 := Z.out.cell 0
      have z1 := Z.out.cell 1
      have z2 := Z.out.cell 2
      have f0 := Z.out.free 0
      have f1 := Z.out.free 1
      have f2 := Z.out.free 2
      simp only [List.getElem?_toArray, List.getElem?_cons_zero, List.getElem?_cons_succ] at r0 r1 r2 z0 z1 z2
      have HOr := Lib.hid (own_recs encD_len (own_far (own_far (own_far HO.out Z.out (by decide) 0 (.slice A1 (runL ds).tk.length c1)) (Z.out.put 0 _) (by decide) 1 (.slice A2 (runL ds).lf.length c2)) ((Z.out.put 0 _).put 1 _) (by decide) 2 (.int .i64 ((runL ds).vn : Int))) (by decide))
      have HXr := Lib.hid (Recs.farB (Recs.farB (Recs.farB HX.out (g := w.heap.size) (fun b off e _ => by have := (HDi.out b off e).1; omega) 0 (.slice A1 (runL ds).tk.length c1)) (g := w.heap.size) (fun b off e _ => by have := (HDi.out b off e).1; omega) 1 (.slice A2 (runL ds).lf.length c2)) (g := w.heap.size) (fun b off e _ => by have := (HDi.out b off e).1; omega) 2 (.int .i64 ((runL ds).vn : Int)))
      have HBr := Lib.hid (((HB.out.setCell (p := ⟨w.heap.size, 0, none⟩) (Nat.le_refl _) (.slice A1 (runL ds).tk.length c1)).setCell (p := ⟨w.heap.size, 1, none⟩) (Nat.le_refl _) (.slice A2 (runL ds).lf.length c2)).setCell (p := ⟨w.heap.size, 2, none⟩) (Nat.le_refl _) (.int .i64 ((runL ds).vn : Int)))
      have HZr := Lib.hid (Z.out.putAll [.slice A1 (runL ds).tk.length c1, .slice A2 (runL ds).lf.length c2, .int .i64 ((runL ds).vn : Int)] rfl)
      clear hT G HO HX HSO hv5 ht5 hf5
      generalize runL ds = st at *
      go_wp2_with fail
      refine close_one Try.results16 rfl rfl HZr.out Try.underlying38 rfl (by kernel_rfl) ⟨A1, c1, A2, c2, rfl, HOr.out, HXr.out, HBr.out⟩
end Go.Proofs.Ytmfjbmojejplgaa
