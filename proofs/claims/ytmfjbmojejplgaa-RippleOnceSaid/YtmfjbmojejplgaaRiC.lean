/- Layer 14: the order of drops; the reference's With, Sorted, Same. -/
import Derived.Test.YtmfjbmojejplgaaRiB
namespace Go.Proofs.Ytmfjbmojejplgaa
set_option linter.unusedVariables false
set_option linter.unusedSimpArgs false
open Go.RowKit Go.Sort
set_option maxRecDepth 100000
def leD (a b : DrR) : Bool := !befD b a
theorem leD_iff (a b : DrR) : leD a b = true ↔ a.1 < b.1 ∨ (a.1 = b.1 ∧ a.2 ≤ b.2) := by
  unfold leD
  rw [Bool.not_eq_true', befD_no]
  omega
theorem leD_trans (a b c : DrR) (h1 : leD a b = true) (h2 : leD b c = true) : leD a c = true := by rw [leD_iff] at *; omega
theorem leD_total (a b : DrR) : (leD a b || leD b a) = true := by rw [Bool.or_eq_true, leD_iff, leD_iff]; omega
theorem leD_anti (a b : DrR) (h1 : leD a b = true) (h2 : leD b a = true) : a = b := by
  rw [leD_iff] at *
  have e1 : a.1 = b.1 := by omega
  have e2 : a.2 = b.2 := by omega
  exact Prod.ext e1 e2
/-- Drops in order. -/
def srtD (l : List DrR) : List DrR := l.mergeSort leD
abbrev OrdD (l : List DrR) : Prop := l.Pairwise fun a b => leD a b = true
theorem srtD_ord (l : List DrR) : OrdD (srtD l) := List.pairwise_mergeSort leD_trans leD_total l
theorem srtD_perm (l : List DrR) : (srtD l).Perm l := List.mergeSort_perm l leD
theorem srtD_one {l m : List DrR} (ho : OrdD m) (hp : m.Perm l) : m = srtD l :=
  List.Perm.eq_of_pairwise (fun a b _ _ => leD_anti a b) ho (srtD_ord l) (hp.trans (srtD_perm l).symm)
/-- Drops in order, with one more. -/
def withD (l : List DrR) (d : DrR) : List DrR := l.filter (fun x => !befD d x) ++ d :: l.filter (fun x => befD d x)
theorem filter_parts (p : DrR → Bool) : ∀ l : List DrR, (l.filter (fun x => !p x) ++ l.filter p).Perm l
  | [] => List.Perm.refl _
  | x :: xs => by
    have ih := filter_parts p xs
    cases h : p x with
    | true =>
      rw [List.filter_cons_of_neg (by simp [h]), List.filter_cons_of_pos h]
      exact List.perm_middle.trans (ih.cons x)
    | false =>
      rw [List.filter_cons_of_pos (by simp [h]), List.filter_cons_of_neg (by simp [h])]
      exact ih.cons x
theorem withD_perm (l : List DrR) (d : DrR) : (withD l d).Perm (d :: l) := List.perm_middle.trans ((filter_parts (befD d) l).cons d)
theorem withD_ord {l : List DrR} (ho : OrdD l) (d : DrR) : OrdD (withD l d) := by
  have lt_le : ∀ a b, befD a b = true → leD a b = true := fun a b h => by rw [befD_iff] at h; rw [leD_iff]; omega
  refine List.pairwise_append.2 ⟨ho.sublist List.filter_sublist, List.pairwise_cons.2 ⟨fun y hy => lt_le _ _ (by simpa using (List.mem_filter.1 hy).2), ho.sublist List.filter_sublist⟩, fun x hx y hy => ?_⟩
  have h1 : leD x d = true := (List.mem_filter.1 hx).2
  rcases List.mem_cons.1 hy with rfl | hy
  · exact h1
  · exact leD_trans _ _ _ h1 (lt_le _ _ (by simpa using (List.mem_filter.1 hy).2))
theorem fold_withD : ∀ (l acc : List DrR), OrdD acc → OrdD (l.foldl withD acc) ∧ (l.foldl withD acc).Perm (acc ++ l)
  | [], acc, h => ⟨h, by simp⟩
  | x :: xs, acc, h => by
    obtain ⟨h1, h2⟩ := fold_withD xs (withD acc x) (withD_ord h x)
    refine ⟨h1, h2.trans ?_⟩
    exact ((withD_perm acc x).append_right xs).trans List.perm_middle.symm
theorem fold_srt (l : List DrR) : l.foldl withD [] = srtD l := by
  obtain ⟨h1, h2⟩ := fold_withD l [] List.Pairwise.nil
  exact srtD_one h1 (by simpa using h2)
theorem srtD_len (l : List DrR) : (srtD l).length = l.length := (srtD_perm l).length_eq
theorem withD_len (l : List DrR) (d : DrR) : (withD l d).length = l.length + 1 := (withD_perm l d).length_eq
theorem srtD_snoc (l : List DrR) (d : DrR) : withD (srtD l) d = srtD (l ++ [d]) := by
  rw [← fold_srt, ← fold_srt, List.foldl_append]; rfl
/-- What With has taken of the first so many: ahead of the drop, and behind it. -/
def fl1 (xs : List DrR) (d : DrR) (i : Nat) : List DrR := (xs.take i).filter fun x => !befD d x
def fl2 (xs : List DrR) (d : DrR) (i : Nat) : List DrR := (xs.filter (fun x => !befD d x) ++ [d]) ++ (xs.take i).filter fun x => befD d x
theorem take_dr (xs : List DrR) (i : Nat) (hi : i < xs.length) : xs.take (i + 1) = xs.take i ++ [drAt xs i] := by rw [List.take_succ_eq_append_getElem hi]; simp [List.getD, hi]
theorem fl1_yes (xs : List DrR) (d : DrR) (i : Nat) (hi : i < xs.length) (h : befD d (drAt xs i) = false) : fl1 xs d (i + 1) = fl1 xs d i ++ [drAt xs i] := by
  unfold fl1; rw [take_dr xs i hi, List.filter_append, List.filter_cons_of_pos (by rw [h]; rfl)]; rfl
theorem fl1_no (xs : List DrR) (d : DrR) (i : Nat) (hi : i < xs.length) (h : befD d (drAt xs i) = true) : fl1 xs d (i + 1) = fl1 xs d i := by
  unfold fl1; rw [take_dr xs i hi, List.filter_append, List.filter_cons_of_neg (by rw [h]; simp)]; exact List.append_nil _
theorem fl2_yes (xs : List DrR) (d : DrR) (i : Nat) (hi : i < xs.length) (h : befD d (drAt xs i) = true) : fl2 xs d (i + 1) = fl2 xs d i ++ [drAt xs i] := by
  unfold fl2; rw [take_dr xs i hi, List.filter_append, List.filter_cons_of_pos h]; simp
theorem fl2_no (xs : List DrR) (d : DrR) (i : Nat) (hi : i < xs.length) (h : befD d (drAt xs i) = false) : fl2 xs d (i + 1) = fl2 xs d i := by
  unfold fl2; rw [take_dr xs i hi, List.filter_append, List.filter_cons_of_neg (by rw [h]; simp)]; simp
theorem fl1_len (xs : List DrR) (d : DrR) (i : Nat) : (fl1 xs d i).length ≤ i := by
  have h1 := List.length_filter_le (fun x => !befD d x) (xs.take i)
  have h2 : (xs.take i).length ≤ i := by rw [List.length_take]; omega
  unfold fl1; omega
theorem fl2_len (xs : List DrR) (d : DrR) (i : Nat) : (fl2 xs d i).length ≤ xs.length + 1 + i := by
  have h1 := List.length_filter_le (fun x => befD d x) (xs.take i)
  have h2 : (xs.take i).length ≤ i := by rw [List.length_take]; omega
  have h3 := List.length_filter_le (fun x => !befD d x) xs
  unfold fl2; rw [List.length_append, List.length_append, List.length_cons, List.length_nil]; omega
theorem fl1_all (xs : List DrR) (d : DrR) (l : Nat) (hl : xs.length = l) : fl1 xs d l ++ [d] = fl2 xs d 0 := by
  unfold fl1 fl2; rw [List.take_of_length_le (by omega)]; simp
theorem fl2_all (xs : List DrR) (d : DrR) (l : Nat) (hl : xs.length = l) : fl2 xs d l = withD xs d := by
  unfold fl2 withD; rw [List.take_of_length_le (by omega)]; simp
theorem drop_info : (Try.prog.info? 24).map (fun i => (i.zero, i.size, i.bytes)) = some (some (.agg #[.int .i64 0, .int .u64 0]), 2, 16) := by kernel_rfl
theorem own_emptyD (W : World) (base e : Nat) (hb : base ≤ W.heap.size) : (W.alloc (.cells #[] e)).ownsRow base e 2 (.slice (some ⟨W.heap.size, 0, none⟩) 0 0) 0 [] :=
  ⟨by simp, .inr ⟨W.heap.size, 0, #[], rfl, hb, heap_alloc_new W _, Nat.le_refl _, Nat.zero_le _, by simp, by simp⟩⟩
theorem own_capD {w : World} {base e size n c : Nat} {A : Option Addr} {xs : List Value} (h : w.ownsRow base e size (.slice A n c) n xs) : n ≤ c ∧ c ≤ maxLen := by
  rcases h.2 with ⟨hv, h0⟩ | ⟨g, cap, cur, hv, h1, h2, h3, h4, h5⟩
  · injection hv with _ _ hc
    subst hc h0
    exact ⟨Nat.le_refl _, Nat.zero_le _⟩
  · injection hv with _ _ hc
    subst hc
    exact ⟨h3, h4⟩
theorem own_okD {w : World} {base e size n c : Nat} {A : Option Addr} {xs : List Value} (h : w.ownsRow base e size (.slice A n c) n xs) : SliceOk A n c := by
  rcases h.2 with ⟨hv, h0⟩ | ⟨g, cap, cur, hv, h1, h2, h3, h4, h5⟩
  · injection hv with ha hn hc
    subst ha hn hc
    exact ⟨Nat.le_refl _, Nat.zero_le _, fun _ => ⟨rfl, rfl⟩⟩
  · injection hv with ha hn hc
    subst ha hc
    exact ⟨h3, h4, fun e => by cases e⟩
/-- Drops are returned. -/
def DropsOne (ys : List DrR) (w : World) (e : Ending) (w' : World) : Prop := ∃ A c, e = .returned (.slice A ys.length c) ∧ SliceOk A ys.length c ∧ Drs w' A ys.length ys ∧ Below w.heap.size w w'
set_option maxHeartbeats 8000000 in
theorem refWith_any (A : Option Addr) (l cp : Nat) (xs : List DrR) (d : DrR) (w : World) (hH : Drs w A l xs) (hlm : l ≤ 100000) :
    Calls Try.prog 17 #[.slice A l cp, .agg (drA d)] w (DropsOne (withD xs d) w) := by
  obtain ⟨i0, hi, hz0, hz1, hz2⟩ := info_parts drop_info
  have HI := Lib.hid hi
  have HZ0 := Lib.hid hz0
  have HZ1 := Lib.hid hz1
  have HZ2 := Lib.hid hz2
  have hb1 : Below w.heap.size w (w.alloc (.cells (drA d) 24)) := (Below.refl _ _).alloc (Nat.le_refl _) _
  obtain ⟨w1, hw1⟩ : ∃ w1, w1 = w.alloc (.cells (drA d) 24) := ⟨_, rfl⟩
  have GD := Lib.hid (show Box w1 w.heap.size 24 (drA d) from hw1 ▸ Box.new w 24 (drA d))
  have hsz : w1.heap.size = w.heap.size + 1 := by rw [hw1, World.size_alloc]
  have HH := Lib.hid (show Drs w1 A l xs from Recs.below hH (hw1 ▸ hb1))
  have HB1 := Lib.hid (show Below w.heap.size w w1 from hw1 ▸ hb1)
  have HLen := Lib.hid hH.1
  have HBf := Lib.hid (fun (x : DrR) (w' : World) => refBefore14_any d x w')
  have HF1 := Lib.hid (fl1_all xs d l hH.1)
  have HF2 := Lib.hid (fl2_all xs d l hH.1)
  have S1O := Lib.hid (show (w1.alloc (.cells #[] 24)).ownsRow w1.heap.size 24 2 (.slice (some ⟨w.heap.size + 1, 0, none⟩) 0 0) 0 [] by rw [← hsz]; exact own_emptyD w1 w1.heap.size 24 (Nat.le_refl _))
  have S1B := Lib.hid (show Below w1.heap.size w1 (w1.alloc (.cells #[] 24)) from (Below.refl _ _).alloc (Nat.le_refl _) _)
  have hxl := hH.1
  clear hH hi hz0 hz1 hz2 hb1
  go_enter Try.func17, Try.ntmps17
  have HW1 := Lib.hid hw1
  clear hw1
  go_wp2_with fail
  rw [← HW1.out]
  clear HW1
  go_loopw [5, 13] (fun v t wr => ∃ i : Nat, i ≤ l ∧ t = .int .i64 i ∧ wr.ownsRow w1.heap.size 24 2 v (fl1 xs d i).length ((fl1 xs d i).flatMap encD) ∧ Below w1.heap.size w1 wr) (fun _ t _ => l - (intOf t).toNat)
  case atStart => exact ⟨0, Nat.zero_le _, rfl, S1O.out, S1B.out⟩
  case round =>
    clear S1O S1B
    obtain ⟨i, hi, rfl, hown, hbel⟩ := hrel
    have HO := Lib.hid hown
    have HC := Lib.hid hbel
    clear hown hbel
    by_cases hlt : i < l
    · have hlt' : (i : Int) < (l : Int) := Int.ofNat_lt.2 hlt
      have hi5 : (i : Int) < 1000000 := by omega
      obtain ⟨b, off, rfl, hlb, d0, d1⟩ := HH.out.cells HC.out i hlt
      obtain ⟨w5, rfl⟩ : ∃ w5 : World, w5 = wr := ⟨_, rfl⟩
      have HSy := Lib.hid (fl1_yes xs d i (by rw [HLen.out]; exact hlt))
      have HSn := Lib.hid (fl1_no xs d i (by rw [HLen.out]; exact hlt))
      have hsl := fl1_len xs d i
      have GX := Lib.hid (Box.new w5 24 (drA (drAt xs i)))
      have c1 := Lib.hid (show Below w5.heap.size w5 (w5.alloc (.cells (drA (drAt xs i)) 24)) from (Below.refl _ _).alloc (Nat.le_refl _) _)
      have GD1 := Lib.hid (GD.out.keep (HC.out.trans (c1.out.mono HC.out.size)))
      generalize drAt xs i = x at *
      have g0 := GX.out.cell 0
      have g1 := GX.out.cell 1
      have k0 := GD1.out.cell 0
      have k1 := GD1.out.cell 1
      simp only [List.getElem?_toArray, List.getElem?_cons_zero, List.getElem?_cons_succ] at g0 g1 k0 k1
      go_wp2_with fail
      refine (HBf.out x _).mono ?_
      rintro e x2 ⟨rfl, hb⟩
      have GX2 := Lib.hid (GX.out.keep hb)
      have c2 := Lib.hid (chain c1.out hb)
      have YO := Lib.hid (own_keep HO.out c2.out)
      have YB := Lib.hid (HC.out.trans (c2.out.mono HC.out.size))
      clear hb d0 d1 g0 g1 k0 k1 HO HC GD1 GX c1 c2
      have g0 := GX2.out.cell 0
      have g1 := GX2.out.cell 1
      simp only [List.getElem?_toArray, List.getElem?_cons_zero, List.getElem?_cons_succ] at g0 g1
      cases hbf : befD d x with
      | false =>
        have HS := Lib.hid (HSy.out hbf)
        clear HSy HSn hbf
        have c3 := Lib.hid (show Below x2.heap.size x2 (x2.alloc (.cells (drA x) 24)) from (Below.refl _ _).alloc (Nat.le_refl _) _)
        have ZO := Lib.hid (own_keep YO.out c3.out)
        have ZB := Lib.hid (YB.out.trans (c3.out.mono YB.out.size))
        have N2 := Lib.hid (fun g hg => (ZO.out.lt g hg).1)
        have NW := Lib.hid (World.news_of_block (Box.new x2 24 (drA x)))
        clear c3 YO
        go_wp2_with (at_builtin; refine wpList_append_own _ rfl _ _ 25 rfl w1.heap.size 24 i0 _ 2 16 Try.underlying25 HI.out HZ0.out HZ1.out HZ2.out rfl (by decide) _ _ _ rfl ZO.out ⟨x2.heap.size, 0, none⟩ 1 1 (encD x) rfl rfl NW.out (encD_one x) (by simp [maxLen]; omega) (by omega) ZB.out.size ?_; intro v' w2 hown' hgrow _; have HC2 := Lib.hid (ZB.out.grown hgrow ZB.out.size N2.out); have HO2 := Lib.hid hown'; clear hown' hgrow)
        go_roundw
        case rel =>
          refine ⟨i + 1, hlt, by go_num, ?_, HC2.out⟩
          rw [HS.out, List.length_append, List.flatMap_append]
          simpa using HO2.out
        case measure => simp [intOf] <;> omega
      | true =>
        have HS := Lib.hid (HSn.out hbf)
        clear HSy HSn hbf
        go_wp2_with fail
        go_roundw
        case rel => exact ⟨i + 1, hlt, by go_num, by rw [HS.out]; exact YO.out, YB.out⟩
        case measure => simp [intOf] <;> omega
    · obtain rfl : l = i := by omega
      have hlt' : ¬ (l : Int) < (l : Int) := Int.lt_irrefl _
      have HO := Lib.hid HO.out
      have GD1 := Lib.hid (GD.out.keep HC.out)
      have k0 := GD1.out.cell 0
      have k1 := GD1.out.cell 1
      simp only [List.getElem?_toArray, List.getElem?_cons_zero, List.getElem?_cons_succ] at k0 k1
      have c3 := Lib.hid (show Below wr.heap.size wr (wr.alloc (.cells (drA d) 24)) from (Below.refl _ _).alloc (Nat.le_refl _) _)
      have ZO := Lib.hid (own_keep HO.out c3.out)
      have ZB := Lib.hid (HC.out.trans (c3.out.mono HC.out.size))
      have N2 := Lib.hid (fun g hg => (ZO.out.lt g hg).1)
      have NW := Lib.hid (World.news_of_block (Box.new wr 24 (drA d)))
      have hsl := fl1_len xs d l
      clear c3 HO GD1
      go_wp2_with (at_builtin; refine wpList_append_own _ rfl _ _ 25 rfl w1.heap.size 24 i0 _ 2 16 Try.underlying25 HI.out HZ0.out HZ1.out HZ2.out rfl (by decide) _ _ _ rfl ZO.out ⟨wr.heap.size, 0, none⟩ 1 1 (encD d) rfl rfl NW.out (encD_one d) (by simp [maxLen]; omega) (by omega) ZB.out.size ?_; intro v' w2 hown' hgrow _; have HC2 := Lib.hid (ZB.out.grown hgrow ZB.out.size N2.out); have HO2 := Lib.hid hown'; clear hown' hgrow)
      have S2O := Lib.hid (show w2.ownsRow w1.heap.size 24 2 v' (fl2 xs d 0).length ((fl2 xs d 0).flatMap encD) by rw [← HF1.out, List.length_append, List.flatMap_append]; simpa using HO2.out)
      have S2B := Lib.hid HC2.out
      clear ZO ZB N2 NW HO2 HC2 k0 k1 HC HF1 hsl
      obtain ⟨wo, rfl⟩ : ∃ wo, wo = w2 := ⟨_, rfl⟩
      go_loopw [5, 32] (fun v t wr => ∃ i : Nat, i ≤ l ∧ t = .int .i64 i ∧ wr.ownsRow w1.heap.size 24 2 v (fl2 xs d i).length ((fl2 xs d i).flatMap encD) ∧ Below w1.heap.size w1 wr) (fun _ t _ => l - (intOf t).toNat)
      case atStart => exact ⟨0, Nat.zero_le _, rfl, S2O.out, S2B.out⟩
      case round =>
        clear S2O S2B
        obtain ⟨i, hi, rfl, hown, hbel⟩ := hrel
        have HO := Lib.hid hown
        have HC := Lib.hid hbel
        clear hown hbel
        by_cases hlt : i < l
        · have hlt' : (i : Int) < (l : Int) := Int.ofNat_lt.2 hlt
          have hi5 : (i : Int) < 1000000 := by omega
          obtain ⟨b, off, rfl, hlb, d0, d1⟩ := HH.out.cells HC.out i hlt
          obtain ⟨w5, rfl⟩ : ∃ w5 : World, w5 = wr := ⟨_, rfl⟩
          have HSy := Lib.hid (fl2_yes xs d i (by rw [HLen.out]; exact hlt))
          have HSn := Lib.hid (fl2_no xs d i (by rw [HLen.out]; exact hlt))
          have hsl := fl2_len xs d i
          have GX := Lib.hid (Box.new w5 24 (drA (drAt xs i)))
          have c1 := Lib.hid (show Below w5.heap.size w5 (w5.alloc (.cells (drA (drAt xs i)) 24)) from (Below.refl _ _).alloc (Nat.le_refl _) _)
          have GD1 := Lib.hid (GD.out.keep (HC.out.trans (c1.out.mono HC.out.size)))
          generalize drAt xs i = x at *
          have g0 := GX.out.cell 0
          have g1 := GX.out.cell 1
          have k0 := GD1.out.cell 0
          have k1 := GD1.out.cell 1
          simp only [List.getElem?_toArray, List.getElem?_cons_zero, List.getElem?_cons_succ] at g0 g1 k0 k1
          go_wp2_with fail
          refine (HBf.out x _).mono ?_
          rintro e x2 ⟨rfl, hb⟩
          have GX2 := Lib.hid (GX.out.keep hb)
          have c2 := Lib.hid (chain c1.out hb)
          have YO := Lib.hid (own_keep HO.out c2.out)
          have YB := Lib.hid (HC.out.trans (c2.out.mono HC.out.size))
          clear hb d0 d1 g0 g1 k0 k1 HO HC GD1 GX c1 c2
          have g0 := GX2.out.cell 0
          have g1 := GX2.out.cell 1
          simp only [List.getElem?_toArray, List.getElem?_cons_zero, List.getElem?_cons_succ] at g0 g1
          cases hbf : befD d x with
          | true =>
            have HS := Lib.hid (HSy.out hbf)
            clear HSy HSn hbf
            have c3 := Lib.hid (show Below x2.heap.size x2 (x2.alloc (.cells (drA x) 24)) from (Below.refl _ _).alloc (Nat.le_refl _) _)
            have ZO := Lib.hid (own_keep YO.out c3.out)
            have ZB := Lib.hid (YB.out.trans (c3.out.mono YB.out.size))
            have N2 := Lib.hid (fun g hg => (ZO.out.lt g hg).1)
            have NW := Lib.hid (World.news_of_block (Box.new x2 24 (drA x)))
            clear c3 YO
            go_wp2_with (at_builtin; refine wpList_append_own _ rfl _ _ 25 rfl w1.heap.size 24 i0 _ 2 16 Try.underlying25 HI.out HZ0.out HZ1.out HZ2.out rfl (by decide) _ _ _ rfl ZO.out ⟨x2.heap.size, 0, none⟩ 1 1 (encD x) rfl rfl NW.out (encD_one x) (by simp [maxLen]; omega) (by omega) ZB.out.size ?_; intro v' w2 hown' hgrow _; have HC2 := Lib.hid (ZB.out.grown hgrow ZB.out.size N2.out); have HO2 := Lib.hid hown'; clear hown' hgrow)
            go_roundw
            case rel =>
              refine ⟨i + 1, hlt, by go_num, ?_, HC2.out⟩
              rw [HS.out, List.length_append, List.flatMap_append]
              simpa using HO2.out
            case measure => simp [intOf] <;> omega
          | false =>
            have HS := Lib.hid (HSn.out hbf)
            clear HSy HSn hbf
            go_wp2_with fail
            go_roundw
            case rel => exact ⟨i + 1, hlt, by go_num, by rw [HS.out]; exact YO.out, YB.out⟩
            case measure => simp [intOf] <;> omega
        · obtain rfl : l = i := by omega
          have hlt' : ¬ (l : Int) < (l : Int) := Int.lt_irrefl _
          rw [HF2.out] at HO
          obtain ⟨A7, c7, hv, hnil⟩ := own_form HO.out
          subst hv
          have HX := Lib.hid (own_recs encD_len HO.out (by decide))
          have HSO := Lib.hid (own_okD HO.out)
          have BB := Lib.hid (chain HB1.out HC.out)
          go_wp2_with fail
          go_ret
          exact ⟨A7, c7, rfl, HSO.out, HX.out, BB.out⟩
end Go.Proofs.Ytmfjbmojejplgaa
