/- block.Pick: the sum of those blocks that a row names; the reference's Bits. -/
import Derived.Test.YtfeaollpeaphlaaDoorTellsX
import Derived.Test.YtfeaollpeaphlaaDoorBlock4
import Derived.Test.YtfeaollpeaphlaaDoorFewT
import Derived.Test.YtfeaollpeaphlaaDoorRefOnes
namespace Go.Proofs.YtfeaollpeaphlaaDoor
set_option linter.unusedVariables false
set_option linter.unusedSimpArgs false
open Go.RowKit
/-- The texts at some places. -/
def picks (ss : List ByteArray) (ps : List Nat) : List ByteArray := ps.map fun p => ss.getD p ByteArray.empty
theorem picks_snoc (ss : List ByteArray) (ps : List Nat) (i : Nat) (h : i < ps.length) : picks ss (ps.take (i + 1)) = picks ss (ps.take i) ++ [ss.getD (ps.getD i 0) ByteArray.empty] := by
  unfold picks
  rw [List.take_succ_eq_append_getElem h, List.map_append]
  simp [List.getD, h]
theorem picks_le (ss : List ByteArray) (ps : List Nat) (hs : ∀ j, (ss.getD j ByteArray.empty).size ≤ maxLen) (j : Nat) : ((picks ss ps).getD j ByteArray.empty).size ≤ maxLen := by
  by_cases h : j < ps.length
  · have e : (picks ss ps).getD j ByteArray.empty = ss.getD ps[j] ByteArray.empty := by simp [picks, List.getD, h]
    rw [e]; exact hs _
  · have e : (picks ss ps).getD j ByteArray.empty = ByteArray.empty := by simp [picks, List.getD, List.getElem?_eq_none (Nat.le_of_not_lt h)]
    rw [e]; simp [maxLen]
theorem sumE_ok {n : Int} {ss : List ByteArray} (h : okS n ss = true) : sumE n ss = 0 := by simp [sumE, h]
theorem sumE_no {n : Int} {ss : List ByteArray} (h : okS n ss = false) : sumE n ss = 2 := by simp [sumE, h]
theorem okS_at {n : Int} {ss : List ByteArray} (h : okS n ss = true) (j : Nat) (hj : j < ss.length) : ((ss.getD j ByteArray.empty).size : Int) = n := by
  simp only [okS, Bool.and_eq_true] at h
  exact allL_at h.1.2 j hj
theorem okS_picks {n : Int} {ss : List ByteArray} (h : okS n ss = true) (us : List Nat) : okS n (picks ss (plcN us ss.length)) = true := by
  have h' := h
  simp only [okS, Bool.and_eq_true, decide_eq_true_eq] at h' ⊢
  refine ⟨⟨h'.1.1, ?_⟩, ?_⟩
  · unfold allL picks
    rw [List.all_map, List.all_eq_true]
    intro p hp
    have := okS_at h p (plcN_lt us _ hp)
    simpa using this
  · have := plcN_len us ss.length
    simp [picks]; omega
/-- What Pick tells. -/
def PickOut (s : ByteArray) (er : Int) (w : World) (e : Ending) (w' : World) : Prop := e = .returned (.tuple #[.string s, .int .i64 er]) ∧ Below w.heap.size w w'
set_option maxHeartbeats 1000000 in
theorem pick_sum (n : Int) (A : Option Addr) (l c : Nat) (ss : List ByteArray) (N : Int) (B : Option Addr) (k d : Nat) (w : World) (ht : Texts w A l ss) (hlc : l ≤ c) (hcm : c ≤ maxLen) (h : okS n ss = false) :
    Calls Tryd.prog 23 #[.int .i64 n, .slice A l c, .agg #[.int .i64 N, .slice B k d]] w (PickOut ⟨#[]⟩ 2 w) := by
  have HB := Lib.hid (show Below w.heap.size w (w.alloc (.cells #[.int .i64 N, .slice B k d] 24)) from (Below.refl _ _).alloc (Nat.le_refl _) _)
  have HS := Lib.hid (sum_any n A l c ss _ (ht.below HB.out) hlc hcm)
  rw [sumE_no h] at HS
  clear ht h
  go_enter Tryd.func23, Tryd.ntmps23
  go_wp2_with fail
  refine HS.out.mono ?_
  rintro e w1 ⟨rfl, hb⟩
  have B := Lib.hid (chain HB.out hb)
  clear hb
  go_wp2
  go_ret2
  exact ⟨rfl, B.out⟩
set_option maxHeartbeats 1000000 in
theorem pick_row (n : Int) (A : Option Addr) (l c : Nat) (ss : List ByteArray) (N : Int) (B : Option Addr) (k d : Nat) (us : List Nat) (w : World) (ht : Texts w A l ss) (hlc : l ≤ c) (hcm : c ≤ maxLen) (hu : Words w B k us) (h : okS n ss = true) (hr : rightB N us = false) :
    Calls Tryd.prog 23 #[.int .i64 n, .slice A l c, .agg #[.int .i64 N, .slice B k d]] w (PickOut ⟨#[]⟩ 1 w) := by
  have HB := Lib.hid (show Below w.heap.size w (w.alloc (.cells #[.int .i64 N, .slice B k d] 24)) from (Below.refl _ _).alloc (Nat.le_refl _) _)
  have Q := Lib.hid (Box.new w 24 #[.int .i64 N, .slice B k d])
  have HU := Lib.hid (hu.below HB.out)
  have HS := Lib.hid (sum_any n A l c ss _ (ht.below HB.out) hlc hcm)
  rw [sumE_ok h] at HS
  have HR := Lib.hid hr
  clear ht h hu hr
  go_enter Tryd.func23, Tryd.ntmps23
  go_wp2_with fail
  refine HS.out.mono ?_
  rintro e w1 ⟨rfl, hb⟩
  have Bv := Lib.hid (chain HB.out hb)
  have Q := Lib.hid (Q.out.keep hb)
  have HU := Lib.hid (HU.out.below hb)
  clear hb
  obtain ⟨r0, r1, -, -⟩ := Q.out.two
  go_wp2_with fail
  refine (plc_no N B k d us _ HR.out HU.out).mono ?_
  rintro e w2 ⟨rfl, hb⟩
  have Bv := Lib.hid (chain Bv.out hb)
  clear hb
  go_wp2
  go_ret2
  exact ⟨rfl, Bv.out⟩
set_option maxRecDepth 100000 in
set_option maxHeartbeats 2000000 in
theorem pick_good (n : Int) (A : Option Addr) (l c : Nat) (ss : List ByteArray) (N : Nat) (B : Option Addr) (k d : Nat) (us : List Nat) (w : World) (ht : Texts w A l ss) (hlc : l ≤ c) (hcm : c ≤ maxLen) (hu : Words w B k us) (h : okS n ss = true) (hr : rightB N us = true) (hT : TabAt w 0) (hNl : N = l) :
    Calls Tryd.prog 23 #[.int .i64 n, .slice A l c, .agg #[.int .i64 N, .slice B k d]] w (PickOut (sumS n (picks ss (plcN us N))) 0 w) := by
  obtain ⟨i0, hi, hz0, hz1, hz2⟩ := info_parts string_info
  have HB := Lib.hid (show Below w.heap.size w (w.alloc (.cells #[.int .i64 N, .slice B k d] 24)) from (Below.refl _ _).alloc (Nat.le_refl _) _)
  have Q := Lib.hid (Box.new w 24 #[.int .i64 N, .slice B k d])
  have HU := Lib.hid (hu.below HB.out)
  have HT := Lib.hid (hT.below HB.out)
  have HX := Lib.hid (ht.below HB.out)
  have HS := Lib.hid (sum_any n A l c ss _ HX.out hlc hcm)
  rw [sumE_ok h] at HS
  have HR := Lib.hid hr
  have hpl := plc_right N us hr
  rw [hu.1] at hpl
  have HPl := Lib.hid hpl
  have HLt := Lib.hid (fun x (hx : x ∈ plcN us N) => plcN_lt us N hx)
  have hpn := plcN_len us N
  have hlen := ht.1
  have HL := Lib.hid hlen
  have hl64 : l ≤ 64 := by simp only [okS, Bool.and_eq_true, decide_eq_true_eq] at h; omega
  have HOK := Lib.hid (show sumE n (picks ss (plcN us N)) = 0 by rw [hNl, ← hlen]; exact sumE_ok (okS_picks h us))
  have HI := Lib.hid hi
  have HZ0 := Lib.hid hz0
  have HZ1 := Lib.hid hz1
  have HZ2 := Lib.hid hz2
  have tne : ((N : Int) != (l : Int)) = false := by simp; omega
  have hle1 : N ≤ l := by omega
  clear ht h hu hr hT hpl hlen hi hz0 hz1 hz2 hNl
  go_enter Tryd.func23, Tryd.ntmps23
  go_wp2_with fail
  refine HS.out.mono ?_
  rintro e w1 ⟨rfl, hb⟩
  have Bv := Lib.hid (chain HB.out hb)
  have Q := Lib.hid (Q.out.keep hb)
  have HU := Lib.hid (HU.out.below hb)
  have HT := Lib.hid (HT.out.below hb)
  have HX := Lib.hid (HX.out.below hb)
  clear hb
  obtain ⟨r0, r1, -, -⟩ := Q.out.two
  go_wp2_with fail
  have HP := Lib.hid (plc_yes N B k d us w1 HR.out HU.out HT.out)
  rw [HPl.out] at HP
  refine HP.out.mono ?_
  rintro e w2 ⟨v2, rfl, hown, hb⟩
  obtain ⟨A2, c2, rfl, -⟩ := own_form hown
  have HP2 := Lib.hid (own_plcInts hown (fun x hx => by have := HLt.out x hx; omega))
  have Bv := Lib.hid (chain Bv.out hb)
  have Q := Lib.hid (Q.out.keep hb)
  have HX := Lib.hid (HX.out.below hb)
  have hw2 : w.heap.size ≤ w2.heap.size := Bv.out.size
  clear hb hown HP r0 r1
  obtain ⟨r0, r1, -, -⟩ := Q.out.two
  generalize plcN us N = P at *
  obtain ⟨w3, hmk, hown3, hgrow⟩ := run_make_own (P := Tryd.prog) w2 w2.heap.size 43 9 i0 (.string ⟨#[]⟩) 1 Tryd.underlying43 HI.out HZ0.out HZ1.out .i64 .i64 P.length (by rw [HZ2.out]; omega) (by unfold maxLen; omega) (Nat.le_refl _)
  have hb3 : Below w2.heap.size w2 w3 := (Below.refl _ _).grown hgrow (Nat.le_refl _) (fun k e => by cases e)
  have HO := Lib.hid hown3
  have HB3 := Lib.hid hb3
  clear hown3 hgrow hb3
  go_wp2
  clear hmk r0 r1 tne
  go_loopw [43, 12, 14] (fun t v _ wr => ∃ i : Nat, i ≤ P.length ∧ t = .int .i64 i ∧ wr.ownsRow w2.heap.size 9 1 v i ((picks ss (P.take i)).map Value.string) ∧ Below w2.heap.size w2 wr)
    (fun t _ _ _ => P.length - (intOf t).toNat)
  case atStart => exact ⟨0, by omega, rfl, HO.out, HB3.out⟩
  case round =>
    obtain ⟨i, hi, rfl, hown, hbel⟩ := hrel
    have HO := Lib.hid hown
    have HBr := Lib.hid hbel
    clear hown hbel HB3
    by_cases hlt : i < P.length
    · obtain ⟨b2, o2, rfl, hb2, hc2⟩ := HP2.out.2.2 (by omega)
      have hp : P.getD i 0 < N := by
        have e : P.getD i 0 = P[i] := by simp [List.getD, hlt]
        rw [e]; exact HLt.out _ (List.getElem_mem hlt)
      obtain ⟨b1, o1, rfl, hb1, hc1⟩ := HX.out.2.2 (by omega)
      have c2' := (HBr.out.cell (p := ⟨b2, o2 + i, none⟩) hb2).trans (hc2 i hlt)
      rw [plcZ_getD] at c2'
      have c1' := (HBr.out.cell (p := ⟨b1, o1 + P.getD i 0, none⟩) hb1).trans (hc1 (P.getD i 0) (by omega))
      have HSn := Lib.hid (picks_snoc ss P i hlt)
      have hm := HX.out.2.1 (P.getD i 0)
      clear hc1 hc2
      generalize P.getD i 0 = p at *
      generalize ss.getD p ByteArray.empty = s at *
      have hi' := HI.out
      have hz0' := HZ0.out
      have hz1' := HZ1.out
      have hz2' := HZ2.out
      have XO := Lib.hid (HO.out.alloc (.cells #[.string s] 9))
      have XB := Lib.hid (HBr.out.alloc HBr.out.size (.cells #[.string s] 9))
      have N2 := Lib.hid (fun k hk => (HO.out.lt k hk).1)
      have hpl : (p : Int) < (l : Int) := by omega
      go_wp2_with (at_builtin; refine wpList_append_own _ rfl _ _ 43 rfl w2.heap.size 9 i0 (.string ⟨#[]⟩) 1 16 Tryd.underlying43 hi' hz0' hz1' hz2' rfl (by decide) _ _ _ rfl XO.out ⟨wr.heap.size, 0, none⟩ 1 1 [.string s] rfl rfl (cell_one_new _ _ _) (by simp [Value.oneCell']) (by simp [maxLen]; omega) (by omega) XB.out.size ?_; intro v' w4 hown' hgrow _; have HC := Lib.hid (XB.out.grown hgrow XB.out.size N2.out); have HO2 := Lib.hid hown'; clear hown' hgrow)
      go_roundw
      case rel =>
        refine ⟨i + 1, by omega, by go_num, ?_, HC.out⟩
        rw [HSn.out, List.map_append]
        exact HO2.out
      case measure => simp [intOf]; omega
    · obtain rfl : i = P.length := by omega
      have ho := HO.out
      rw [List.take_length] at ho
      have hpl : (picks ss P).length = P.length := by simp [picks]
      rw [← hpl] at ho
      obtain ⟨A', c', rfl, q1, q2, q3⟩ := own_texts ho (picks_le ss P HX.out.2.1)
      rw [hpl] at q1 q3
      have HQ := Lib.hid q3
      have Bv := Lib.hid (chain Bv.out HBr.out)
      rw [hpl]
      clear ho hpl q3 HO
      go_wp2_with fail
      refine (sum_any n A' P.length c' (picks ss P) _ HQ.out q1 q2).mono ?_
      rintro e w5 ⟨rfl, hb⟩
      rw [HOK.out]
      have Bv := Lib.hid (chain Bv.out hb)
      clear hb
      go_wp2_with fail
      go_ret2
      exact ⟨rfl, Bv.out⟩
set_option maxHeartbeats 1000000 in
theorem pick_size (n : Int) (A : Option Addr) (l c : Nat) (ss : List ByteArray) (N : Nat) (B : Option Addr) (k d : Nat) (us : List Nat) (w : World) (ht : Texts w A l ss) (hlc : l ≤ c) (hcm : c ≤ maxLen) (hu : Words w B k us) (h : okS n ss = true) (hr : rightB N us = true) (hT : TabAt w 0) (hNl : N ≠ l) :
    Calls Tryd.prog 23 #[.int .i64 n, .slice A l c, .agg #[.int .i64 N, .slice B k d]] w (PickOut ⟨#[]⟩ 1 w) := by
  have HB := Lib.hid (show Below w.heap.size w (w.alloc (.cells #[.int .i64 N, .slice B k d] 24)) from (Below.refl _ _).alloc (Nat.le_refl _) _)
  have Q := Lib.hid (Box.new w 24 #[.int .i64 N, .slice B k d])
  have HU := Lib.hid (hu.below HB.out)
  have HT := Lib.hid (hT.below HB.out)
  have HS := Lib.hid (sum_any n A l c ss _ (ht.below HB.out) hlc hcm)
  rw [sumE_ok h] at HS
  have HR := Lib.hid hr
  have tne : ((N : Int) != (l : Int)) = true := by rw [bne_iff_ne]; omega
  clear ht h hu hr hT hNl
  go_enter Tryd.func23, Tryd.ntmps23
  go_wp2_with fail
  refine HS.out.mono ?_
  rintro e w1 ⟨rfl, hb⟩
  have Bv := Lib.hid (chain HB.out hb)
  have Q := Lib.hid (Q.out.keep hb)
  have HU := Lib.hid (HU.out.below hb)
  have HT := Lib.hid (HT.out.below hb)
  clear hb
  obtain ⟨r0, r1, -, -⟩ := Q.out.two
  go_wp2_with fail
  refine (plc_yes N B k d us _ HR.out HU.out HT.out).mono ?_
  rintro e w2 ⟨v2, rfl, hown, hb⟩
  have Bv := Lib.hid (chain Bv.out hb)
  have Q := Lib.hid (Q.out.keep hb)
  clear hb hown r0 r1
  obtain ⟨r0, r1, -, -⟩ := Q.out.two
  go_wp2
  go_ret2
  exact ⟨rfl, Bv.out⟩
/-- What Pick tells, whatever comes in. -/
def pickE (n : Int) (ss : List ByteArray) (N : Int) (us : List Nat) : Int := if okS n ss then if rightB N us && N == (ss.length : Int) then 0 else 1 else 2
def pickS (n : Int) (ss : List ByteArray) (N : Int) (us : List Nat) : ByteArray := if okS n ss && (rightB N us && N == (ss.length : Int)) then sumS n (picks ss (plcN us N.toNat)) else ⟨#[]⟩
theorem pick_any (n : Int) (A : Option Addr) (l c : Nat) (ss : List ByteArray) (N : Int) (B : Option Addr) (k d : Nat) (us : List Nat) (w : World) (ht : Texts w A l ss) (hlc : l ≤ c) (hcm : c ≤ maxLen) (hu : Words w B k us) (hT : TabAt w 0) :
    Calls Tryd.prog 23 #[.int .i64 n, .slice A l c, .agg #[.int .i64 N, .slice B k d]] w (PickOut (pickS n ss N us) (pickE n ss N us) w) := by
  unfold pickS pickE
  cases h : okS n ss with
  | false => simpa using pick_sum n A l c ss N B k d w ht hlc hcm h
  | true =>
    cases hr : rightB N us with
    | false => simpa using pick_row n A l c ss N B k d us w ht hlc hcm hu h hr
    | true =>
      obtain ⟨M, rfl⟩ := Int.eq_ofNat_of_zero_le ((lmb_iff N).1 (right_lmb hr)).1
      rw [ht.1, Int.toNat_natCast]
      by_cases hN : M = l
      · have e : ((M : Int) == (l : Int)) = true := by simp [hN]
        rw [e]
        exact pick_good n A l c ss M B k d us w ht hlc hcm hu h hr hT hN
      · have e : ((M : Int) == (l : Int)) = false := by simp; omega
        rw [e]
        exact pick_size n A l c ss M B k d us w ht hlc hcm hu h hr hT hN
/-- A row's bits as numbers. -/
def bitsL (us : List Nat) (m : Nat) : List Int := (List.range m).map fun p => ((bitAt us p : Nat) : Int)
theorem bitsL_succ (us : List Nat) (m : Nat) : bitsL us (m + 1) = bitsL us m ++ [((bitAt us m : Nat) : Int)] := by simp [bitsL, List.range_succ]
theorem bitsL_len (us : List Nat) (m : Nat) : (bitsL us m).length = m := by simp [bitsL]
theorem bitsL_get (us : List Nat) (m j : Nat) (h : j < m) : (bitsL us m).getD j 0 = ((bitAt us j : Nat) : Int) := by simp [bitsL, List.getD, h]
theorem bitsL_lt (us : List Nat) (m j : Nat) : -9223372036854775808 ≤ (bitsL us m).getD j 0 ∧ (bitsL us m).getD j 0 ≤ 9223372036854775807 := by
  by_cases h : j < m
  · rw [bitsL_get us m j h]
    rcases bitAt_le us j with e | e <;> rw [e] <;> simp
  · have : (bitsL us m).getD j 0 = 0 := by simp [List.getD, List.getElem?_eq_none (show (bitsL us m).length ≤ j by rw [bitsL_len]; omega)]
    rw [this]; simp
set_option maxHeartbeats 1000000 in
theorem refBits_any (N : Nat) (A : Option Addr) (len c : Nat) (us : List Nat) (w : World) (hN : N ≤ 64 * len) (hl : len ≤ 1000) (hu : Words w A len us) :
    Calls Tryd.prog 27 #[.agg #[.int .i64 N, .slice A len c]] w (IntsOut N (bitsL us N) w) := by
  obtain ⟨i0, hi, hz0, hz1, hz2⟩ := info_parts int_infoP
  have hB := Below.refl w.heap.size w
  have HI := Lib.hid hi
  have HZ0 := Lib.hid hz0
  have HZ1 := Lib.hid hz1
  have HZ2 := Lib.hid hz2
  have Q0 := Lib.hid ((Box.new w 24 #[.int .i64 N, .slice A len c]).alloc (.cells #[] 3))
  have HW := Lib.hid ((hB.alloc (Nat.le_refl _) (.cells #[.int .i64 N, .slice A len c] 24)).alloc (by simp) (.cells #[] 3))
  have ho := own_empty (w.alloc (.cells #[.int .i64 N, .slice A len c] 24)) w.heap.size 3 (by simp)
  rw [World.size_alloc] at ho
  have HOw := Lib.hid ho
  have HU := Lib.hid hu
  clear hi hz0 hz1 hz2 hu ho hB
  go_enter Tryd.func27, Tryd.ntmps27
  go_wp2
  go_loopw [3, 4] (fun v t wr => ∃ i : Nat, i ≤ N ∧ t = .int .i64 i ∧ wr.ownsRow w.heap.size 3 1 v i ((bitsL us i).map (Value.int .i64)) ∧ Box wr w.heap.size 24 #[.int .i64 N, .slice A len c] ∧ Below w.heap.size w wr)
    (fun _ t _ => N - (intOf t).toNat)
  case atStart => exact ⟨0, by omega, rfl, HOw.out, Q0.out, HW.out⟩
  case round =>
    obtain ⟨i, hi, rfl, hown, hbox, hbel⟩ := hrel
    have HO := Lib.hid hown
    have HB := Lib.hid hbel
    have Q := Lib.hid hbox
    clear hown hbel hbox HW HOw Q0
    obtain ⟨r0, r1, -, -⟩ := Q.out.two
    have HS := Lib.hid (bitsL_succ us i)
    by_cases hlt : i < N
    · have hlt' : (i : Int) < (N : Int) := by omega
      have hb2 : bitAt us i ≤ 1 := by rcases bitAt_le us i with h | h <;> omega
      go_wp2_with fail
      refine (bit_any N A len c i us _ (HU.out.below HB.out) (by omega) (by omega)).mono ?_
      rintro e w1 ⟨rfl, hb⟩
      have Q := Lib.hid (Q.out.keep hb)
      have HB := Lib.hid (chain HB.out hb)
      have HO := Lib.hid (own_keep HO.out hb)
      clear hb r0 r1
      generalize bitAt us i = b at *
      have hi' := HI.out
      have hz0' := HZ0.out
      have hz1' := HZ1.out
      have hz2' := HZ2.out
      have XO := Lib.hid (HO.out.alloc (.cells #[.int .i64 (b : Int)] 3))
      have XQ := Lib.hid (Q.out.alloc (.cells #[.int .i64 (b : Int)] 3))
      have XB := Lib.hid (HB.out.alloc HB.out.size (.cells #[.int .i64 (b : Int)] 3))
      have N2 := Lib.hid (fun k hk => (HO.out.lt k hk).1)
      have N1 := Lib.hid (own_ne XO.out XQ.out (by decide))
      go_wp2_with (at_builtin; refine wpList_append_own _ rfl _ _ 26 rfl w.heap.size 3 i0 (.int .i64 0) 1 8 Tryd.underlying26 hi' hz0' hz1' hz2' rfl (by decide) _ _ _ rfl XO.out ⟨w1.heap.size, 0, none⟩ 1 1 [.int .i64 (b : Int)] rfl rfl (cell_one_new _ _ _) (by simp [Value.oneCell']) (by simp [maxLen]; omega) (by omega) XB.out.size ?_; intro v' w2 hown' hgrow _; have HC := Lib.hid (XB.out.grown hgrow XB.out.size N2.out); have S1 := Lib.hid (XQ.out.grown hgrow N1.out); have HO2 := Lib.hid hown'; clear hown' hgrow)
      go_roundw
      case rel =>
        refine ⟨i + 1, by omega, by go_num, ?_, S1.out, HC.out⟩
        rw [HS.out, List.map_append]
        exact HO2.out
      case measure => simp [intOf] <;> omega
    · obtain rfl : i = N := by omega
      have hlt' : ¬ (i : Int) < (i : Int) := by omega
      obtain ⟨A', c', rfl, hA'⟩ := own_form HO.out
      go_wp2
      go_ret
      exact ⟨A', c', rfl, own_ints HO.out (bitsL_lt us i), HB.out⟩
end Go.Proofs.YtfeaollpeaphlaaDoor
