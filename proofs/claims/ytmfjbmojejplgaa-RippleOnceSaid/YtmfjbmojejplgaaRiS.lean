/- Layer 14: ripple.Run. -/
import Derived.Test.YtmfjbmojejplgaaRiR
namespace Go.Proofs.Ytmfjbmojejplgaa
set_option linter.unusedVariables false
set_option linter.unusedSimpArgs false
open Go.RowKit Go.Sort
set_option maxRecDepth 100000
/-- What Run hands back. -/
def RunOut (s : RunS) (w : World) (e : Ending) (w' : World) : Prop := ∃ A1 c1 A2 c2, e = .returned (.tuple #[.slice A1 s.tk.length c1, .slice A2 s.lf.length c2, .int .i64 (s.vn : Int)]) ∧ SliceOk A1 s.tk.length c1 ∧ SliceOk A2 s.lf.length c2 ∧ Drs w' A1 s.tk.length s.tk ∧ Drs w' A2 s.lf.length s.lf ∧ Below w.heap.size w w'
theorem invPush (x : Value) (w : World) : (method 213 47 x "downpour/ripple.push").run Try.prog w = .ok (60, x) w := by kernel_rfl
theorem invTake (x : Value) (w : World) : (method 213 47 x "downpour/ripple.take").run Try.prog w = .ok (61, x) w := by kernel_rfl
theorem invLeft (x : Value) (w : World) : (method 213 47 x "downpour/ripple.left").run Try.prog w = .ok (59, x) w := by kernel_rfl
set_option maxHeartbeats 8000000 in
theorem run14_any (A : Option Addr) (l cp : Nat) (ds : List DeR) (w : World) (hH : Des w A l ds) (hl : l ≤ 1000) :
    Calls Try.prog 15 #[.slice A l cp] w (RunOut (runL ds) w) := by
  obtain ⟨i0, hi, hz0, hz1, hz2⟩ := info_parts drop_info
  have HI := Lib.hid hi
  have HZ0 := Lib.hid hz0
  have HZ1 := Lib.hid hz1
  have HZ2 := Lib.hid hz2
  have HH := Lib.hid hH
  have HLn := Lib.hid hH.1
  have hb1 : Below w.heap.size w (w.alloc (.cells #[.slice none 0 0] 50)) := (Below.refl _ _).alloc (Nat.le_refl _) _
  have HP0 := Lib.hid (show PoolS (w.alloc (.cells #[.slice none 0 0] 50)) w.heap.size (.slice none 0 0) [] from ⟨Box.new w _ _, World.ownsRow_nil _ _ _ _⟩)
  have HB0 := Lib.hid hb1
  have hm1 := invPush
  have hm2 := invTake
  have hm3 := invLeft
  clear hH hi hz0 hz1 hz2 hb1
  go_enter Try.func15, Try.ntmps15
  go_wp2_with fail
  go_loopw [6, 7, 17] (fun V s t wr => ∃ (i : Nat) (v : Value) (xs : List DrR), i ≤ l ∧ t = .int .i64 (i : Int) ∧ s = .int .i64 ((runL (ds.take i)).vn : Int) ∧ Hid (wr.ownsRow (w.heap.size + 1) 24 2 V (runL (ds.take i)).tk.length ((runL (ds.take i)).tk.flatMap encD)) ∧ Hid (PoolS wr w.heap.size v xs) ∧ Hid (xs.Perm (runL (ds.take i)).lf) ∧ Hid (HeapN xs xs.length) ∧ Hid (∀ g, V.ownBlock = some g → v.ownBlock ≠ some g) ∧ Hid (Below w.heap.size w wr)) (fun _ _ t _ => l - (intOf t).toNat)
  case atStart => exact ⟨0, .slice none 0 0, [], Nat.zero_le _, rfl, rfl, Lib.hid (World.ownsRow_nil _ _ _ _), HP0, Lib.hid (List.Perm.refl _), Lib.hid (fun k _ hk => absurd hk (Nat.not_lt_zero _)), Lib.hid (fun g hg => by cases hg), HB0⟩
  case round =>
    clear HP0 HB0
    obtain ⟨i, v, xs, hi, rfl, rfl, HO, HP, HPm, HHp, HDi, HB⟩ := hrel
    obtain ⟨b1, b2, b3, b4⟩ := runL_le (ds.take i)
    have hlt0 : (ds.take i).length ≤ i := by rw [List.length_take]; omega
    have HOr := Lib.hid b4
    have hxl : xs.length ≤ i := by rw [HPm.out.length_eq]; omega
    have hv5 : ((runL (ds.take i)).vn : Int) < 100000 := by omega
    have ht5 : (runL (ds.take i)).tk.length ≤ 1000 := by omega
    clear b1 b2 b3 b4 hlt0
    by_cases hlt : i < l
    · have hlt' : (i : Int) < (l : Int) := Int.ofNat_lt.2 hlt
      have hi5 : (i : Int) < 1000000 := by omega
      obtain ⟨b, off, rfl, hlb, d0, d1, d2⟩ := HH.out.cells HB.out i hlt
      obtain ⟨w5, rfl⟩ : ∃ w5 : World, w5 = wr := ⟨_, rfl⟩
      have HSn := Lib.hid (runL_snoc ds i (by rw [HLn.out]; exact hlt))
      have G := Lib.hid (Box.new w5 42 (deA (deAt ds i)))
      have c1 : Below w5.heap.size w5 (w5.alloc (.cells (deA (deAt ds i)) 42)) := (Below.refl _ _).alloc (Nat.le_refl _) _
      have HP1 := Lib.hid (HP.out.keep c1)
      have HO1 := Lib.hid (own_keep HO.out c1)
      have HB1 := Lib.hid (HB.out.trans (c1.mono HB.out.size))
      have HC1 := Lib.hid (show Chg w5 (w5.alloc (.cells (deA (deAt ds i)) 42)) w.heap.size v v from Chg.below c1)
      generalize runL (ds.take i) = st at *
      generalize deAt ds i = de at *
      obtain ⟨tkb, d⟩ := de
      have g0 := G.out.cell 0
      have g1 := G.out.cell 1
      have g2 := G.out.cell 2
      simp only [List.getElem?_toArray, List.getElem?_cons_zero, List.getElem?_cons_succ] at g0 g1 g2
      clear HP HO HB c1
      cases tkb with
      | false =>
        have HS := Lib.hid (show runL (ds.take (i + 1)) = ⟨st.tk, withD st.lf d, st.vn⟩ from HSn.out)
        have HPu := Lib.hid (ppush_any w.heap.size v xs d (by omega) HHp.out _ HP1.out)
        go_wp2_with fail
        refine HPu.out.mono ?_
        rintro e w6 ⟨rfl, v', ys, h1, h2, h3, h4⟩
        have HF := Lib.hid (And.intro h1 (And.intro h2 (And.intro h3 h4)))
        clear h1 h2 h3 h4 HPu d0 d1 d2 g0 g1 g2
        go_wp2_with fail
        go_roundw
        case rel =>
          refine ⟨i + 1, v', ys, hlt, by go_num, by rw [HS.out], Lib.hid ?_, Lib.hid HF.out.1, Lib.hid ?_, Lib.hid HF.out.2.2.1, Lib.hid ?_, Lib.hid ?_⟩
          · rw [HS.out]; exact own_chg HO1.out HF.out.2.2.2 HDi.out
          · rw [HS.out]; exact HF.out.2.1.trans ((HPm.out.cons d).trans (withD_perm st.lf d).symm)
          · exact dis_chg HO1.out HF.out.2.2.2 HDi.out
          · exact below_chg (Nat.le_refl _) HB1.out HP1.out HF.out.2.2.2
        case measure => simp [intOf] <;> omega
      | true =>
        clear HC1
        cases hx : xs with
        | nil =>
          subst hx
          have hlf : st.lf = [] := List.eq_nil_of_length_eq_zero (by rw [← HPm.out.length_eq]; rfl)
          have HS := Lib.hid (show runL (ds.take (i + 1)) = ⟨st.tk, [], st.vn + 1⟩ by rw [HSn.out]; unfold stepR; rw [if_pos rfl, hlf])
          have HTk := Lib.hid (take_none w.heap.size v _ HP1.out)
          clear hlf
          go_wp2_with fail
          refine HTk.out.mono ?_
          rintro e w6 ⟨rfl, hb⟩
          have hb2 : Below w6.heap.size w6 (w6.alloc (.cells #[.int .i64 0, .int .u64 0] 24)) := (Below.refl _ _).alloc (Nat.le_refl _) _
          have HP2 := Lib.hid ((HP1.out.keep hb).keep hb2)
          have HO2 := Lib.hid (own_keep (own_keep HO1.out hb) hb2)
          have HB2 := Lib.hid (chain (chain HB1.out hb) hb2)
          clear hb hb2 HTk d0 d1 d2 g0 g1 g2
          go_wp2_with fail
          go_roundw
          case rel =>
            refine ⟨i + 1, v, [], hlt, by go_num, by rw [HS.out]; go_num, Lib.hid ?_, HP2, Lib.hid ?_, Lib.hid (fun k _ hk => absurd hk (Nat.not_lt_zero _)), HDi, HB2⟩
            · rw [HS.out]; exact HO2.out
            · rw [HS.out]
          case measure => simp [intOf] <;> omega
        | cons x0 x1 =>
          have hxn : xs.length = x1.length + 1 := by rw [hx]; rfl
          clear hx
          obtain ⟨y, r, hlf⟩ : ∃ y r, st.lf = y :: r := by
            cases hh : st.lf with
            | nil => have := HPm.out.length_eq; rw [hh, hxn] at this; cases this
            | cons y r => exact ⟨y, r, rfl⟩
          have hroot : drAt xs 0 = y := root_first HHp.out (hlf ▸ HPm.out) (hlf ▸ HOr.out)
          have HS := Lib.hid (show runL (ds.take (i + 1)) = ⟨st.tk ++ [y], r, st.vn⟩ by rw [HSn.out]; unfold stepR; rw [if_pos rfl, hlf])
          have HTk := Lib.hid (take_some w.heap.size x1.length v xs hxn (by omega) (by rw [← hxn]; exact HHp.out) _ HP1.out)
          rw [hroot] at HTk
          have HLf := Lib.hid hlf
          clear hroot hlf hxn
          go_wp2_with fail
          refine HTk.out.mono ?_
          rintro e w6 ⟨rfl, v', ys, h1, h2, h3, h4⟩
          have hO6 := own_chg HO1.out h4 HDi.out
          have hD6 := dis_chg HO1.out h4 HDi.out
          have hB6 := below_chg (Nat.le_refl _) HB1.out HP1.out h4
          have hb2 : Below w6.heap.size w6 ((w6.alloc (.cells (drA y) 24)).alloc (.cells (drA y) 24)) := ((Below.refl _ _).alloc (Nat.le_refl _) _).alloc (by simp) _
          have ZO := Lib.hid (own_keep hO6 hb2)
          have HP2 := Lib.hid (h1.keep hb2)
          have HB2 := Lib.hid (chain hB6 hb2)
          have HD2 := Lib.hid hD6
          have HPr := Lib.hid (show ys.Perm r from (List.perm_cons y).1 (h2.trans (HLf.out ▸ HPm.out)))
          have HH2 := Lib.hid h3
          have bx := Box.new w6 24 (drA y)
          have by2 := Box.new (w6.alloc (.cells (drA y) 24)) 24 (drA y)
          simp only [World.size_alloc] at by2
          have k0 := bx.cell 0
          have k1 := bx.cell 1
          simp only [List.getElem?_toArray, List.getElem?_cons_zero, List.getElem?_cons_succ] at k0 k1
          have NW := Lib.hid (show ∀ j u, (encD y)[j]? = some u → ((w6.alloc (.cells (drA y) 24)).alloc (.cells (drA y) 24)).cell? ((⟨w6.heap.size + 1, 0, none⟩ : Addr).add j) = some u from fun j u hu => news_boxR (cs := encD y) (show Box _ _ _ (encD y).toArray from by2) _ rfl j u hu)
          have hbs : w.heap.size + 1 ≤ ((w6.alloc (.cells (drA y) 24)).alloc (.cells (drA y) 24)).heap.size := by
            have := HP2.out.box.lt
            omega
          clear h1 h2 h3 h4 hO6 hD6 hB6 hb2 bx by2 HTk d0 d1 d2 g0 g1 g2 HP1 HO1 HB1
          go_wp2_with (at_builtin; refine wpList_append_own_at _ rfl _ _ 25 rfl (w.heap.size + 1) 24 i0 _ 2 16 Try.underlying25 HI.out HZ0.out HZ1.out HZ2.out rfl (by decide) _ _ _ rfl ZO.out ⟨w6.heap.size + 1, 0, none⟩ 1 1 (encD y) rfl rfl NW.out (encD_one y) (by simp [maxLen]; omega) (by omega) hbs ?_; intro V' w7 hown' hgrow _ hat; have HO2 := Lib.hid hown'; have HG := Lib.hid hgrow; have HAt := Lib.hid hat; clear hown' hgrow hat)
          have HP3 := Lib.hid (pool_grown2 HP2.out HG.out (fun g hg => (ZO.out.lt g hg).1) HD2.out)
          have HB3 := Lib.hid (HB2.out.grown HG.out HB2.out.size (fun g hg => by have := (ZO.out.lt g hg).1; omega))
          have HD3 := Lib.hid (show ∀ g, V'.ownBlock = some g → v'.ownBlock ≠ some g from fun g hg e => by
            rcases HAt.out with h | h
            · exact HD2.out g (h ▸ hg) e
            · rw [h] at hg
              injection hg with hg
              have hg2 : ((w6.alloc (.cells (drA y) 24)).alloc (.cells (drA y) 24)).heap.size = g := hg
              have h8 := (HP2.out.own.lt g e).2
              omega)
          go_roundw
          case rel =>
            refine ⟨i + 1, v', ys, hlt, by go_num, by rw [HS.out], Lib.hid ?_, HP3, Lib.hid ?_, HH2, HD3, HB3⟩
            · rw [HS.out, List.length_append, flat_snoc]; exact HO2.out
            · rw [HS.out]; exact HPr.out
          case measure => simp [intOf] <;> omega
    · obtain rfl : l = i := by omega
      have hlt' : ¬ (l : Int) < (l : Int) := Int.lt_irrefl _
      have hT : ds.take l = ds := List.take_of_length_le (by rw [HLn.out]; exact Nat.le_refl _)
      have HOr2 := Lib.hid (show (runL ds).lf = srtD xs by have := srtD_one HOr.out HPm.out.symm; rwa [hT] at this)
      have HO2 := Lib.hid (show wr.ownsRow (w.heap.size + 1) 24 2 _ (runL ds).tk.length ((runL ds).tk.flatMap encD) by have := HO.out; rwa [hT] at this)
      rw [hT]
      clear hT HO hv5 ht5 HOr
      obtain ⟨A1, cc1, rfl, -⟩ := own_form HO2.out
      obtain ⟨A2, cc2, rfl⟩ := HP.out.slice
      have HLe := Lib.hid (left_any w.heap.size _ xs wr HP.out)
      have HSo := Lib.hid (sorted_any A2 xs.length cc2 xs wr (own_okD HP.out.own).2.2 (own_recs encD_len HP.out.own (by decide)) (by omega))
      have HSO1 := Lib.hid (own_okD HO2.out)
      go_wp2_with fail
      refine HLe.out.mono ?_
      rintro e w8 ⟨rfl, hw⟩
      obtain rfl := hw.symm
      go_wp2_with fail
      refine HSo.out.mono ?_
      rintro e w9 ⟨A3, c3, rfl, h1, h2, hb⟩
      rw [← HOr2.out] at h1 h2
      rw [← HOr2.out]
      have HF := Lib.hid (And.intro h1 (And.intro h2 (And.intro (own_recs encD_len (own_keep HO2.out hb) (by decide)) (chain HB.out hb))))
      clear h1 h2 hb
      go_wp2_with fail
      go_ret3
      exact ⟨A1, cc1, A3, c3, rfl, HSO1.out, HF.out.1, HF.out.2.2.1, HF.out.2.1, HF.out.2.2.2⟩
end Go.Proofs.Ytmfjbmojejplgaa
