/- Parts: Re6, RefNums, RrX. -/
import Derived.Test.YtdfmogcgangdnaaZk
import Derived.BigRegion
import Derived.IntWalk
import Derived.RegionTactic
import Derived.Test.YtdfmogcgangdnaaChecked
namespace Go.Proofs.Ytdfmogcgangdnaa
section
/- The reference's Places. -/
set_option linter.unusedVariables false
set_option linter.unusedSimpArgs false
open Go.RowKit
set_option maxRecDepth 100000
def PlOut (P : List Nat) (w : World) (e : Ending) (w' : World) : Prop :=
  ∃ (A : Option Addr) (c : Nat), e = .returned (.slice A P.length c) ∧ Ints w' A P.length (P.map fun x : Nat => (x : Int)) ∧ Below w.heap.size w w'
set_option maxHeartbeats 16000000 in
theorem refPlaces_any (N : Nat) (hN : N ≤ 512) (K P : List Nat) (hR : Rref K P) (hL : ∀ r ∈ K, r < 2 ^ N) (hlen : K.length ≤ 100) (A : Option Addr) (c lo : Nat) (w : World) (hmat : MatAt w lo A K.length (mkM N K)) :
    Calls Try.prog 15 #[.slice A K.length c] w (PlOut P w) := by
  have HM := Lib.hid hmat
  have HLt := Lib.hid (lt_all hL)
  clear hmat
  obtain ⟨i0, hi0, hz0, hz1, hz2⟩ := info_parts int_info
  have HI := Lib.hid hi0
  have HZ0 := Lib.hid hz0
  have HZ1 := Lib.hid hz1
  have HZ2 := Lib.hid hz2
  clear hi0 hz0 hz1 hz2
  have HPl := Lib.hid hR.len
  have HPb := Lib.hid (show ∀ j, P.getD j 0 < 513 from fun j => by
    by_cases h : j < K.length
    · have := low_lt (lt_all hL j) (hR.low j h); omega
    · have : P[j]? = none := List.getElem?_eq_none (by rw [← hR.len]; omega)
      simp [List.getD, this])
  go_enter Try.func15, Try.ntmps15
  have HO0 := Lib.hid (own_empty w w.heap.size 3 (Nat.le_refl _))
  have HB0 := Lib.hid (show Below w.heap.size w (w.alloc (.cells #[] 3)) from (Below.refl _ _).alloc (Nat.le_refl _) _)
  go_wp2_with fail
  go_loopw [3, 9] (fun v t wr => ∃ (i : Nat) (v' : Value), v' = v ∧ i ≤ K.length ∧ t = .int .i64 (i : Int) ∧ Hid (wr.ownsRow w.heap.size 3 1 v' i (((P.take i).map fun x : Nat => (x : Int)).map (Value.int .i64))) ∧ Hid (Below w.heap.size w wr)) (fun _ t _ => K.length - (intOf t).toNat)
  case atStart => exact ⟨0, _, rfl, Nat.zero_le _, rfl, by simpa using HO0, HB0⟩
  case round =>
    obtain ⟨i, v, rfl, hi, rfl, HO, HB⟩ := hrel
    clear HO0 HB0
    by_cases hlt : i < K.length
    · have hlt' : (i : Int) < (K.length : Int) := by omega
      obtain ⟨b, off, B1, l1, c1, rfl, hbl, x0, x1, hs, hw0⟩ := HM.out.at i hlt
      have hw := hw0.mono (Nat.le_refl _) HB.out
      have x0 := (HB.out.cell (p := ⟨b, off + i * 2, none⟩) hbl).trans x0
      have x1 := (HB.out.cell (p := ⟨b, off + i * 2 + 1, none⟩) hbl).trans x1
      rw [mkM_at N K i hlt] at x0 hw
      simp only [mkR] at x0 hw
      have hal : Below wr.heap.size wr (wr.alloc (.cells #[.int .i64 (N : Int), .slice B1 l1 c1] 40)) := (Below.refl _ _).alloc (Nat.le_refl _) _
      have E := Lib.hid (Box.new wr 40 #[.int .i64 (N : Int), .slice B1 l1 c1])
      have HF := Lib.hid (first_low N _ _ hN (HLt.out i) (hR.low i hlt) B1 l1 c1 _ (hw.below hal))
      have HO := Lib.hid (own_keep HO.out hal)
      have HB := Lib.hid (chain HB.out hal)
      have HT := Lib.hid (show ((P.take (i + 1)).map fun x : Nat => (x : Int)).map (Value.int .i64) = ((P.take i).map fun x : Nat => (x : Int)).map (Value.int .i64) ++ [.int .i64 ((P.getD i 0 : Nat) : Int)] by
        have hl2 : i < P.length := by rw [← HPl.out]; exact hlt
        rw [List.take_succ_eq_append_getElem hl2, List.map_append, List.map_append]; congr 1; simp [List.getD, hl2])
      generalize P.getD i 0 = pi at *
      clear hal hw hs hw0
      obtain ⟨e0, e1, -, -⟩ := E.out.two
      go_wp2_with fail
      refine HF.out.mono ?_
      rintro e y1 ⟨rfl, hb⟩
      have HO := Lib.hid (own_keep HO.out hb)
      have HB := Lib.hid (chain HB.out hb)
      clear hb e0 e1 E HF
      have YO := Lib.hid (HO.out.alloc (.cells #[.int .i64 (pi : Int)] 3))
      have YB := Lib.hid (HB.out.alloc HB.out.size (.cells #[.int .i64 (pi : Int)] 3))
      have N2 := Lib.hid (fun k hk => (HO.out.lt k hk).1)
      have ki := HI.out
      have kz0 := HZ0.out
      have kz1 := HZ1.out
      have kz2 := HZ2.out
      have HNW := Lib.hid (show ∀ j u, ([.int .i64 (pi : Int)] : List Value)[j]? = some u → (y1.alloc (.cells #[.int .i64 (pi : Int)] 3)).cell? ((⟨y1.heap.size, 0, none⟩ : Addr).add j) = some u from cell_one_new _ _ _)
      go_wp2_with (at_builtin; refine wpList_append_own _ rfl _ _ 26 rfl w.heap.size 3 i0 (.int .i64 0) 1 8 Try.underlying26 ki kz0 kz1 kz2 rfl (by decide) _ _ _ rfl YO.out ⟨y1.heap.size, 0, none⟩ 1 1 [.int .i64 (pi : Int)] rfl rfl HNW.out (by simp [Value.oneCell']) (by simp [maxLen]; omega) (by omega) YB.out.size ?_; intro v9 w9 hown' hgrow _; have HB9 := Lib.hid (YB.out.grown hgrow YB.out.size N2.out); have HR9 := Lib.hid hown'; clear hown' hgrow)
      go_roundw
      case rel => exact ⟨i + 1, _, rfl, by omega, by go_num, by rw [HT.out]; exact HR9, HB9⟩
      case measure => simp [intOf] <;> omega
    · obtain rfl : i = K.length := by omega
      have hlt' : ¬ (K.length : Int) < (K.length : Int) := by omega
      obtain ⟨A', c', rfl, hA'⟩ := own_form HO.out
      have hin := own_ints HO.out (fun j => by
        have := HPb.out j
        rw [HPl.out, List.take_length]
        by_cases h : j < P.length
        · simp [List.getD, h] at this ⊢; omega
        · simp [List.getD, show P[j]? = none from List.getElem?_eq_none (by omega)])
      rw [HPl.out, List.take_length] at hin
      have HIn := Lib.hid hin
      clear hin
      go_wp2_with fail
      go_ret
      exact ⟨A', c', by rw [HPl.out]; rfl, HIn.out, HB.out⟩
end
section
/- Contract of the reference's Numbers: are two rows the same? -/
set_option linter.unusedVariables false
set_option linter.unusedSimpArgs false
open Go.RowKit
theorem take_eq_succ {xs ys : List Int} {i : Nat} (ha : i < xs.length) (hb : i < ys.length) (h : xs.take i = ys.take i) (e : xs.getD i 0 = ys.getD i 0) : xs.take (i + 1) = ys.take (i + 1) := by
  rw [List.take_succ_eq_append_getElem ha, List.take_succ_eq_append_getElem hb, h]
  have h1 : xs.getD i 0 = xs[i] := by simp [List.getD, ha]
  have h2 : ys.getD i 0 = ys[i] := by simp [List.getD, hb]
  rw [h1, h2] at e
  rw [e]
/-- Are two rows of numbers the same? -/
def sameZ (xs ys : List Int) : Bool := decide (xs = ys)
set_option maxHeartbeats 1000000 in
theorem refNumbers_any (A B : Option Addr) (la ca lb cb : Nat) (xs ys : List Int) (w : World) (ha : Ints w A la xs) (hb : Ints w B lb ys) (h1 : la ≤ 100000) (h2 : lb ≤ 100000) :
    Calls Try.prog 14 #[.slice A la ca, .slice B lb cb] w fun e w' => e = .returned (.bool (sameZ xs ys)) ∧ Below w.heap.size w w' := by
  have HA := Lib.hid ha
  have HB := Lib.hid hb
  clear ha hb
  by_cases hl : la = lb
  · subst hl
    have t0 : (((la : Nat) : Int) != ((la : Nat) : Int)) = false := by simp
    rcases Nat.eq_zero_or_pos la with h0 | hp
    · subst h0
      have HS := Lib.hid (show sameZ xs ys = true from by
        have e1 := List.eq_nil_of_length_eq_zero HA.out.1
        have e2 := List.eq_nil_of_length_eq_zero HB.out.1
        rw [e1, e2]; rfl)
      have hlt : ¬ (0 : Int) < 0 := by omega
      go_enter Try.func14, Try.ntmps14
      go_wp2_with fail
      go_loop [13] (fun i => i = .int .i64 0) (fun i => 0)
      case atStart => rfl
      case round =>
        subst hrel
        go_wp2
        go_ret
        exact ⟨by rw [HS.out]; rfl, Below.refl _ _⟩
    · obtain ⟨ba, oa, rfl, hba, hca⟩ := HA.out.2.2 hp
      obtain ⟨bb, ob, rfl, hbb, hcb⟩ := HB.out.2.2 hp
      have HCA := Lib.hid hca
      have HCB := Lib.hid hcb
      have HLA := Lib.hid HA.out.1
      have HLB := Lib.hid HB.out.1
      clear hca hcb HA HB
      go_enter Try.func14, Try.ntmps14
      go_wp2_with fail
      go_loopw [13] (fun i wr => ∃ j : Nat, j ≤ la ∧ i = .int .i64 j ∧ Hid (xs.take j = ys.take j) ∧ Hid (Below w.heap.size w wr)) (fun i _ => la - (intOf i).toNat)
      case atStart => exact ⟨0, by omega, rfl, Lib.hid rfl, Lib.hid (Below.refl _ _)⟩
      case round =>
        obtain ⟨j, hj, rfl, HE, HBL⟩ := hrel
        by_cases hjl : j < la
        · have hjl' : (j : Int) < la := by omega
          have c1 := (HBL.out.cell (p := ⟨ba, oa + j, none⟩) hba).trans (HCA.out j hjl)
          have c2 := (HBL.out.cell (p := ⟨bb, ob + j, none⟩) hbb).trans (HCB.out j hjl)
          have HST := Lib.hid (fun e => take_eq_succ (xs := xs) (ys := ys) (i := j) (by rw [HLA.out]; exact hjl) (by rw [HLB.out]; exact hjl) HE.out e)
          have HNE := Lib.hid (show xs.getD j 0 ≠ ys.getD j 0 → sameZ xs ys = false from fun h => decide_eq_false (fun e => h (by rw [e])))
          generalize xs.getD j 0 = x at *
          generalize ys.getD j 0 = y at *
          by_cases hxy : x = y
          · have t1 : (x != y) = false := by simp [hxy]
            have HS2 := Lib.hid (HST.out hxy)
            clear hxy
            go_wp2
            go_region
            go_wp2
            go_roundw
            case rel => exact ⟨j + 1, by omega, by go_num, HS2, Lib.hid HBL.out.drew⟩
            case measure => simp [intOf] <;> omega
          · have t1 : (x != y) = true := by simp [hxy]
            have HR := Lib.hid (HNE.out hxy)
            clear hxy
            go_wp2
            go_region
            go_wp2
            go_ret
            exact ⟨by rw [HR.out]; rfl, HBL.out.drew⟩
        · obtain rfl : j = la := by omega
          have hjl' : ¬ (j : Int) < j := by omega
          have HR := Lib.hid (show sameZ xs ys = true from decide_eq_true (by
            have := HE.out
            rw [List.take_of_length_le (Nat.le_of_eq HLA.out), List.take_of_length_le (Nat.le_of_eq HLB.out)] at this
            exact this))
          go_wp2
          go_ret
          exact ⟨by rw [HR.out]; rfl, HBL.out⟩
  · have t0 : (((la : Nat) : Int) != ((lb : Nat) : Int)) = true := by rw [bne_iff_ne]; omega
    have HS := Lib.hid (show sameZ xs ys = false from decide_eq_false (fun e => hl (by rw [← HA.out.1, ← HB.out.1, e])))
    go_enter Try.func14, Try.ntmps14
    go_wp2_with fail
    go_ret
    exact ⟨by rw [HS.out]; rfl, Below.refl _ _⟩
end
section
/- ReduceRows: the walk. -/
set_option linter.unusedVariables false
set_option linter.unusedSimpArgs false
open Go.RowKit
set_option maxRecDepth 100000
set_option maxHeartbeats 16000000 in
theorem rrows_walk (N : Int) (A : Option Addr) (l c : Nat) (ms : List (Int × List Nat)) (W : World) (s0 : SliceOk A l c) (h0 : MatAt W 0 A l ms) :
    Calls Try.prog 3 #[.agg #[.int .i64 N, .slice A l c]] W fun e w' => e = .returned (.bool true) ∧ Below W.heap.size W w' := by
  have b1 : Below W.heap.size W (W.alloc (.cells #[.int .i64 N, .slice A l c] 24)) := (Below.refl _ _).alloc (Nat.le_refl _) _
  have Q := Lib.hid (Box.new W 24 #[.int .i64 N, .slice A l c])
  have HB := Lib.hid b1
  have HF := Lib.hid (few4_any N A l c ms _ s0 (h0.below b1))
  have hl66 : (fewM ms).length ≤ 66 := by have := fewM_len ms; omega
  have HSh := Lib.hid (fewM_short ms)
  generalize fewM ms = fs at *
  clear b1 h0 s0
  obtain ⟨r0, r1, f0, f1⟩ := Q.out.two
  go_enter Try.func3, Try.ntmps3
  go_wp2_with fail
  refine HF.out.mono ?_
  rintro e x1 ⟨A1, c1, rfl, hm, hb⟩
  have Q1 := Lib.hid (Q.out.keep hb)
  have HB1 := Lib.hid (HB.out.trans (hb.mono HB.out.size))
  have hlt := Q1.out.lt
  have hm2 := hm.put2 (y := N) Q1.out (by simp) (.slice A1 fs.length c1)
  have Q2 := Lib.hid (Q1.out.put2 (u := .int .i64 N) (v := .slice A1 fs.length c1))
  have HB2 := Lib.hid ((HB1.out.setCell (p := ⟨W.heap.size, 0, none⟩) (Nat.le_refl _) (.int .i64 N)).setCell (p := ⟨W.heap.size, 1, none⟩) (Nat.le_refl _) (.slice A1 fs.length c1))
  have HM2 := Lib.hid hm2
  clear hb hm hm2 r0 r1 f0 f1 HF HB Q
  obtain ⟨r0, r1, f0, f1⟩ := Q1.out.two
  go_upto_region 2 with (fail)
  generalize (x1.setCell ⟨W.heap.size, 0, none⟩ (.int .i64 N)).setCell ⟨W.heap.size, 1, none⟩ (.slice A1 fs.length c1) = x2 at *
  clear r0 r1 f0 f1 Q1 HB1 hlt
  obtain ⟨r0, r1, f0, f1⟩ := Q2.out.two
  replace HM2 := Lib.hid (HM2.out.low (Nat.zero_le _))
  have HRt := Lib.hid (fun w' (h : MatAt w' 0 A1 fs.length fs) => refRightM_any N A1 fs.length c1 0 fs w' h (by unfold maxLen; omega))
  cases hr : rightM N fs with
  | false =>
    rw [hr] at HRt
    have HE := Lib.hid (ech_no N A1 fs.length c1 _ fs _ HM2.out (by unfold maxLen; omega) hr)
    have HRk := Lib.hid (fun w' (h : MatAt w' 0 A1 fs.length fs) => rank_no N A1 fs.length c1 _ fs w' h (by unfold maxLen; omega) hr)
    clear hr
    go_wp2_with fail
    refine HE.out.mono ?_
    rintro e x3 ⟨rfl, hb⟩
    have hal : Below x3.heap.size x3 (x3.alloc (.cells #[.int .i64 0, .slice none 0 0] 24)) := (Below.refl _ _).alloc (Nat.le_refl _) _
    have HB3 := Lib.hid (chain (chain HB2.out hb) hal)
    have Q2 := Lib.hid ((Q2.out.keep hb).keep hal)
    have HM3 := Lib.hid ((HM2.out.below hb).below hal)
    have QX := Lib.hid (Box.new x3 24 #[.int .i64 0, .slice none 0 0])
    clear hb hal r0 r1 f0 f1 HM2 HB2 HE
    obtain ⟨r0, r1, -, -⟩ := Q2.out.two
    obtain ⟨t0, t1, -, -⟩ := QX.out.two
    go_wp2_with fail
    refine (HRk.out _ HM3.out).mono ?_
    rintro e x4 ⟨rfl, hb⟩
    have HB3 := Lib.hid (chain HB3.out hb)
    have Q2 := Lib.hid (Q2.out.keep hb)
    have QX := Lib.hid (QX.out.keep hb)
    have HM3 := Lib.hid (HM3.out.below hb)
    clear hb r0 r1 t0 t1
    obtain ⟨r0, r1, -, -⟩ := Q2.out.two
    obtain ⟨t0, t1, -, -⟩ := QX.out.two
    go_wp2_with fail
    refine (HRt.out _ HM3.out).mono ?_
    rintro e x5 ⟨rfl, hb⟩
    have HB3 := Lib.hid (chain HB3.out hb)
    have QX := Lib.hid (QX.out.keep hb)
    clear hb r0 r1 t0 t1
    obtain ⟨t0, t1, -, -⟩ := QX.out.two
    go_wp2_with fail
    refine (alive4_any _).mono ?_
    rintro e x6 ⟨rfl, hb⟩
    have HB3 := Lib.hid (chain HB3.out hb)
    have QX := Lib.hid (QX.out.keep hb)
    clear hb t0 t1
    obtain ⟨t0, t1, -, -⟩ := QX.out.two
    go_wp2_with fail
    refine (same3_any 0 0 none none 0 0 0 0 0 0 [] [] _ (MatAt.nil _ _ _) (MatAt.nil _ _ _) (by omega) (fun j => by simp)).mono ?_
    rw [sameM_self]
    rintro e x7 ⟨rfl, hb⟩
    have HB3 := Lib.hid (chain HB3.out hb)
    clear hb
    go_wp2_with fail
    go_ret
    exact ⟨by simp, HB3.out⟩
  | true =>
    rw [hr] at HRt
    obtain ⟨n, L, rfl, hn, hL64, rfl, hL⟩ := mat_num hr (fun i j => HM2.out.lt i j)
    rw [mkM_len] at *
    have HE := Lib.hid (ech_yes n hn L hL hL64 A1 c1 _ _ HM2.out hr)
    have HRk := Lib.hid (fun w' (h : MatAt w' 0 A1 L.length (mkM n L)) => rank_yes n hn L hL hL64 A1 c1 0 w' h hr)
    have HRE := Lib.hid (fun w' (h : MatAt w' 0 A1 L.length (mkM n L)) => refEch_any n (by omega) L hL (by omega) A1 c1 0 w' h)
    have HLs := Lib.hid hL
    clear hr hL
    go_wp2_with fail
    refine HE.out.mono ?_
    rintro e x3 ⟨M, P, A2, B2, kc, rfl, h1, h2, h3, h4, h5, hb⟩
    have H1 := Lib.hid h1
    have H2 := Lib.hid h2
    have hml : M.length ≤ 64 := Nat.le_trans (rank_le h1 h2) hL64
    have HMl := Lib.hid (same_lt HLs.out h2)
    have hal : Below x3.heap.size x3 (x3.alloc (.cells #[.int .i64 (n : Int), .slice A2 M.length M.length] 24)) := (Below.refl _ _).alloc (Nat.le_refl _) _
    have QX := Lib.hid (Box.new x3 24 #[.int .i64 (n : Int), .slice A2 M.length M.length])
    have Q2 := Lib.hid ((Q2.out.keep hb).keep hal)
    have HM3 := Lib.hid ((HM2.out.below hb).below hal)
    have HX := Lib.hid (h3.below hal)
    have HI := Lib.hid (h4.below hal)
    have HB3 := Lib.hid (chain (chain HB2.out hb) hal)
    clear h1 h2 h3 h4 h5 hb hal HB2 HM2 HE r0 r1 f0 f1
    obtain ⟨r0, r1, -, -⟩ := Q2.out.two
    obtain ⟨t0, t1, -, -⟩ := QX.out.two
    go_wp2_with fail
    refine (HRk.out _ HM3.out).mono ?_
    rintro e x4 ⟨M4, P4, g1, g2, he, hb⟩
    rw [(rref_uniq g1 H1.out (g2.symm.trans H2.out)).1] at he
    subst he
    have HB3 := Lib.hid (chain HB3.out hb)
    have Q2 := Lib.hid (Q2.out.keep hb)
    have QX := Lib.hid (QX.out.keep hb)
    have HM3 := Lib.hid (HM3.out.below hb)
    have HX := Lib.hid (HX.out.below hb)
    have HI := Lib.hid (HI.out.below hb)
    clear hb r0 r1 t0 t1 g1 g2
    obtain ⟨r0, r1, -, -⟩ := Q2.out.two
    obtain ⟨t0, t1, -, -⟩ := QX.out.two
    go_wp2_with fail
    refine (HRt.out _ HM3.out).mono ?_
    rintro e x5 ⟨rfl, hb⟩
    have HB3 := Lib.hid (chain HB3.out hb)
    have Q2 := Lib.hid (Q2.out.keep hb)
    have QX := Lib.hid (QX.out.keep hb)
    have HM3 := Lib.hid (HM3.out.below hb)
    have HX := Lib.hid (HX.out.below hb)
    have HI := Lib.hid (HI.out.below hb)
    clear hb r0 r1 t0 t1
    obtain ⟨r0, r1, -, -⟩ := Q2.out.two
    obtain ⟨t0, t1, -, -⟩ := QX.out.two
    go_wp2_with fail
    refine (HRE.out _ HM3.out).mono ?_
    rintro e x6 ⟨M5, P5, A5, c5, he, g1, g2, g3, hb⟩
    rw [(rref_uniq g1 H1.out (g2.symm.trans H2.out)).1] at he g3
    subst he
    have HW5 := Lib.hid g3
    have HB3 := Lib.hid (chain HB3.out hb)
    have Q2 := Lib.hid (Q2.out.keep hb)
    have QX := Lib.hid (QX.out.keep hb)
    have HX := Lib.hid (HX.out.below hb)
    have HI := Lib.hid (HI.out.below hb)
    clear hb r0 r1 t0 t1 g1 g2 g3
    obtain ⟨r0, r1, -, -⟩ := Q2.out.two
    obtain ⟨t0, t1, -, -⟩ := QX.out.two
    go_wp2_with fail
    refine (alive4_any _).mono ?_
    rintro e x7 ⟨rfl, hb⟩
    have HB3 := Lib.hid (chain HB3.out hb)
    have Q2 := Lib.hid (Q2.out.keep hb)
    have QX := Lib.hid (QX.out.keep hb)
    have HX := Lib.hid (HX.out.below hb)
    have HI := Lib.hid (HI.out.below hb)
    have HW5 := Lib.hid (HW5.out.below hb)
    clear hb r0 r1 t0 t1
    obtain ⟨r0, r1, -, -⟩ := Q2.out.two
    obtain ⟨t0, t1, -, -⟩ := QX.out.two
    go_wp2_with fail
    refine (same3_any n n A2 A5 M.length M.length M.length c5 _ _ _ _ _ HX.out HW5.out (by omega) (fun j => mk_short n hn M j)).mono ?_
    rw [sameM_self]
    rintro e x8 ⟨rfl, hb⟩
    have HB3 := Lib.hid (chain HB3.out hb)
    have HI := Lib.hid (HI.out.below hb)
    have HW5 := Lib.hid (HW5.out.below hb)
    have HPl := Lib.hid (refPlaces_any n (by omega) M P H1.out HMl.out (by omega) A5 c5 0 _ HW5.out)
    have hpl : P.length ≤ 64 := by have := H1.out.len; omega
    clear hb r0 r1 t0 t1
    go_wp2_with fail
    refine HPl.out.mono ?_
    rintro e x9 ⟨A6, c6, rfl, g1, hb⟩
    have HB3 := Lib.hid (chain HB3.out hb)
    have HI := Lib.hid (HI.out.below hb)
    have HG := Lib.hid g1
    clear hb g1
    go_wp2_with fail
    refine (refNumbers_any B2 A6 M.length kc P.length c6 _ _ _ HI.out HG.out (by omega) (by omega)).mono ?_
    rw [show sameZ (P.map fun x : Nat => (x : Int)) (P.map fun x : Nat => (x : Int)) = true from decide_eq_true rfl]
    rintro e x10 ⟨rfl, hb⟩
    have HB3 := Lib.hid (chain HB3.out hb)
    clear hb
    go_wp2_with fail
    go_ret
    exact ⟨by simp, HB3.out⟩
end
end Go.Proofs.Ytdfmogcgangdnaa
