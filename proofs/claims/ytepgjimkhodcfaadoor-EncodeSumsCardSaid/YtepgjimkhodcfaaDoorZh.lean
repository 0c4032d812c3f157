/- Parts: RefBlock, FewT, RefOnes, Pick, RefSum, HTail, PkX, Chain. -/
import Derived.Test.YtepgjimkhodcfaaDoorZg
import Derived.Deep.RegionHeld
import Derived.OrdersHeld
import Derived.StillTail
namespace Go.Proofs.YtepgjimkhodcfaaDoor
section
/- Contracts of layer 2's reference: Why, Ones. -/
set_option linter.unusedVariables false
set_option linter.unusedSimpArgs false
open Go.RowKit
def whyE (b : Bool) : Int := if b then 0 else 2
theorem why_neg (n : Int) (A : Option Addr) (l c : Nat) (h : n < 0) (w : World) : Calls Tryd.prog 24 #[.int .i64 n, .slice A l c] w fun e w' => e = .returned (.int .i64 2) ∧ w = w' := by
  have t : decide (n < 0) = true := by simpa using h
  go_enter Tryd.func24, Tryd.ntmps24
  go_wp2
  go_ret
  exact ⟨rfl, rfl⟩
theorem why_big (n : Int) (A : Option Addr) (l c : Nat) (h0 : ¬ n < 0) (h : 64 < n) (w : World) : Calls Tryd.prog 24 #[.int .i64 n, .slice A l c] w fun e w' => e = .returned (.int .i64 2) ∧ w = w' := by
  have t0 : decide (n < 0) = false := by simpa using h0
  have t : decide (64 < n) = true := by simpa using h
  go_enter Tryd.func24, Tryd.ntmps24
  go_wp2
  go_ret
  exact ⟨rfl, rfl⟩
theorem why_many (n : Int) (A : Option Addr) (l c : Nat) (h0 : ¬ n < 0) (h : ¬ 64 < n) (hl : 64 < l) (hl2 : l ≤ maxLen) (w : World) : Calls Tryd.prog 24 #[.int .i64 n, .slice A l c] w fun e w' => e = .returned (.int .i64 2) ∧ w = w' := by
  unfold maxLen at hl2
  have t0 : decide (n < 0) = false := by simpa using h0
  have t : decide (64 < n) = false := by simpa using h
  have t2 : (64 : Int) < l := by omega
  go_enter Tryd.func24, Tryd.ntmps24
  go_wp2
  go_ret
  exact ⟨rfl, rfl⟩
theorem why_loop (n : Int) (A : Option Addr) (l c : Nat) (ss : List ByteArray) (w : World) (ht : Texts w A l ss) (h0 : ¬ n < 0) (h : ¬ 64 < n) (hl : l ≤ 64) :
    Calls Tryd.prog 24 #[.int .i64 n, .slice A l c] w fun e w' => e = .returned (.int .i64 (whyE (allL n ss))) ∧ w = w' := by
  have t0 : decide (n < 0) = false := by simpa using h0
  have t : decide (64 < n) = false := by simpa using h
  have t2 : ¬ (64 : Int) < l := by omega
  have hlen := Lib.hid ht.1
  have HT := Lib.hid ht
  clear ht
  go_enter Tryd.func24, Tryd.ntmps24
  go_wp2_with fail
  go_loop [20] (fun i => ∃ k : Nat, k ≤ l ∧ i = .int .i64 k ∧ Hid (allL n (ss.take k) = true)) (fun i => l - (intOf i).toNat)
  case atStart => exact ⟨0, by omega, rfl, Lib.hid (by simp [allL])⟩
  case round =>
    obtain ⟨k, hk, rfl, HN⟩ := hrel
    by_cases hlt : k < l
    · obtain ⟨b, off, rfl, hb, hc⟩ := HT.out.2.2 (by omega)
      have c1 := hc k hlt
      have hm := HT.out.2.1 k
      have HS := Lib.hid (allL_snoc n ss k (by rw [hlen.out]; exact hlt))
      have HNO := Lib.hid (allL_not n ss k (by rw [hlen.out]; exact hlt))
      generalize ss.getD k ByteArray.empty = s at *
      unfold maxLen at hm
      clear hc
      by_cases hz : (s.size : Int) = n
      · have t : ((s.size : Int) != n) = false := by simpa using hz
        have HZ := Lib.hid hz
        clear hz
        go_wp2
        go_round
        case rel => exact ⟨k + 1, by omega, by go_num, Lib.hid (by rw [HS.out, HN.out, HZ.out]; simp)⟩
        case measure => simp [intOf]; omega
      · have t : ((s.size : Int) != n) = true := by simpa using hz
        go_wp2
        go_ret
        exact ⟨by rw [HNO.out hz]; rfl, rfl⟩
    · obtain rfl : k = l := by omega
      have HE := Lib.hid (show allL n ss = true by have := HN.out; rwa [List.take_of_length_le (by rw [hlen.out]; omega)] at this)
      go_wp2
      go_ret
      exact ⟨by rw [HE.out]; rfl, rfl⟩
theorem why_any (n : Int) (A : Option Addr) (l c : Nat) (ss : List ByteArray) (w : World) (ht : Texts w A l ss) (hl : l ≤ maxLen) :
    Calls Tryd.prog 24 #[.int .i64 n, .slice A l c] w fun e w' => e = .returned (.int .i64 (sumE n ss)) ∧ w = w' := by
  have hlen := ht.1
  by_cases h0 : n < 0
  · have e : okS n ss = false := by simp [okS, smb]; omega
    rw [sumE, e]; exact why_neg n A l c h0 w
  · by_cases h : 64 < n
    · have e : okS n ss = false := by simp [okS, smb]; omega
      rw [sumE, e]; exact why_big n A l c h0 h w
    · by_cases h2 : l ≤ 64
      · have e : okS n ss = allL n ss := by
          have : smb n = true := (smb_iff n).2 ⟨by omega, by omega⟩
          simp [okS, this, hlen, h2]
        rw [sumE, e]; exact why_loop n A l c ss w ht h0 h h2
      · have e : okS n ss = false := by simp [okS, hlen, h2]
        rw [sumE, e]; exact why_many n A l c h0 h (by omega) hl w
end
section
/- Contract of law 02's few: the first 66 texts, each cut. -/
set_option linter.unusedVariables false
set_option linter.unusedSimpArgs false
open Go.RowKit
theorem string_info : (Tryd.prog.info? 9).map (fun i => (i.zero, i.size, i.bytes)) = some (some (.string ⟨#[]⟩), 1, 16) := by kernel_rfl
theorem own_texts {w : World} {base e n : Nat} {v : Value} {ss : List ByteArray} (h : w.ownsRow base e 1 v n (ss.map Value.string)) (hz : ∀ j, (ss.getD j ByteArray.empty).size ≤ maxLen) : ∃ A c, v = .slice A n c ∧ n ≤ c ∧ c ≤ maxLen ∧ Texts w A n ss := by
  have hl : ss.length = n := by have := h.1; simpa using this
  rcases h.2 with ⟨rfl, h0⟩ | ⟨g, cap, cur, rfl, hb, hh, hn, hm, hs, hx⟩
  · subst h0
    obtain rfl : ss = [] := List.length_eq_zero_iff.1 hl
    exact ⟨none, 0, rfl, Nat.le_refl _, Nat.zero_le _, Texts.nil _ _⟩
  · refine ⟨_, _, rfl, hn, hm, hl, hz, fun hp => ?_⟩
    have hbx : Box w g e cur := hh
    refine ⟨g, 0, rfl, hbx.lt, fun j hj => ?_⟩
    rw [Nat.zero_add, hbx.cell j]
    have e1 : (cur.toList.take (n * 1))[j]? = (ss.map Value.string)[j]? := by rw [hx]
    rw [Nat.mul_one, List.getElem?_take, if_pos hj] at e1
    have hjz : j < ss.length := by omega
    simp only [List.getElem?_map, List.getElem?_eq_getElem hjz, Option.map_some] at e1
    rw [← Array.getElem?_toList, e1]
    simp [List.getD, hjz]
def cuts (ss : List ByteArray) (k : Nat) : List ByteArray := (ss.take k).map cutB
theorem cuts_succ (ss : List ByteArray) (k : Nat) (h : k < ss.length) : cuts ss (k + 1) = cuts ss k ++ [cutB (ss.getD k ByteArray.empty)] := by
  unfold cuts
  rw [List.take_succ_eq_append_getElem h, List.map_append]
  simp [List.getD, h]
theorem cuts_le (ss : List ByteArray) (k j : Nat) : ((cuts ss k).getD j ByteArray.empty).size ≤ maxLen := by
  unfold cuts
  simp only [List.getD, List.getElem?_map]
  cases (ss.take k)[j]? with
  | none => simp [maxLen]
  | some s => have := cutB_size s; simp [maxLen]; omega
/-- A slice of texts is returned. -/
def TextsOut (ss : List ByteArray) (w : World) (e : Ending) (w' : World) : Prop :=
  ∃ A c, e = .returned (.slice A ss.length c) ∧ ss.length ≤ c ∧ c ≤ maxLen ∧ Texts w' A ss.length ss ∧ Below w.heap.size w w'
theorem cuts_all (ss : List ByteArray) (k : Nat) (h : ss.length = k) (h2 : k ≤ 66) : cuts ss k = cuts ss 66 := by
  unfold cuts
  rw [List.take_of_length_le (by omega), List.take_of_length_le (by omega)]
end
section
/- Contract of layer 2's reference: Ones. -/
set_option linter.unusedVariables false
set_option linter.unusedSimpArgs false
open Go.RowKit
theorem int_infoB : (Tryd.prog.info? 3).map (fun i => (i.zero, i.size, i.bytes)) = some (some (.int .i64 0), 1, 8) := by kernel_rfl
def ones (k : Nat) : List Int := List.replicate k 1
theorem ones_succ (k : Nat) : ones (k + 1) = ones k ++ [1] := List.replicate_succ'
theorem ones_lt (k j : Nat) : -9223372036854775808 ≤ (ones k).getD j 0 ∧ (ones k).getD j 0 ≤ 9223372036854775807 := by
  simp only [ones, List.getD, List.getElem?_replicate]
  split <;> simp
/-- A slice of whole numbers is returned. -/
def IntsOut (n : Nat) (zs : List Int) (w : World) (e : Ending) (w' : World) : Prop := ∃ A c, e = .returned (.slice A n c) ∧ Ints w' A n zs ∧ Below w.heap.size w w'
end
section
/- block.Pick: the sum of those blocks that a row names; the reference's Bits. -/
set_option linter.unusedVariables false
set_option linter.unusedSimpArgs false
open Go.RowKit
/-- The texts at some places. -/
def picks (ss : List ByteArray) (ps : List Nat) : List ByteArray := ps.map fun p => ss.getD p ByteArray.empty
theorem picks_snoc (ss : List ByteArray) (ps : List Nat) (i : Nat) (h : i < ps.length) : picks ss (ps.take (i + 1)) = picks ss (ps.take i) ++ [ss.getD (ps.getD i 0) ByteArray.empty] := by
  unfold picks
  rw [List.take_succ_eq_append_getElem h, List.map_append]
  simp [List.getD, h]
theorem picks_le (ss : List ByteArray) (ps : List Nat) (hs : ∀ j, (ss.getD j ByteArray.empty).size ≤ maxLen) (j : Nat) : ((picks ss ps).getD j ByteArray.empty).size ≤ maxLen := by
  by_cases h : j < ps.length
  · have e : (picks ss ps).getD j ByteArray.empty = ss.getD ps[j] ByteArray.empty := by simp [picks, List.getD, h]
    rw [e]; exact hs _
  · have e : (picks ss ps).getD j ByteArray.empty = ByteArray.empty := by simp [picks, List.getD, List.getElem?_eq_none (Nat.le_of_not_lt h)]
    rw [e]; simp [maxLen]
theorem sumE_ok {n : Int} {ss : List ByteArray} (h : okS n ss = true) : sumE n ss = 0 := by simp [sumE, h]
theorem sumE_no {n : Int} {ss : List ByteArray} (h : okS n ss = false) : sumE n ss = 2 := by simp [sumE, h]
theorem okS_at {n : Int} {ss : List ByteArray} (h : okS n ss = true) (j : Nat) (hj : j < ss.length) : ((ss.getD j ByteArray.empty).size : Int) = n := by
  simp only [okS, Bool.and_eq_true] at h
  exact allL_at h.1.2 j hj
theorem okS_picks {n : Int} {ss : List ByteArray} (h : okS n ss = true) (us : List Nat) : okS n (picks ss (plcN us ss.length)) = true := by
  have h' := h
  simp only [okS, Bool.and_eq_true, decide_eq_true_eq] at h' ⊢
  refine ⟨⟨h'.1.1, ?_⟩, ?_⟩
  · unfold allL picks
    rw [List.all_map, List.all_eq_true]
    intro p hp
    have := okS_at h p (plcN_lt us _ hp)
    simpa using this
  · have := plcN_len us ss.length
    simp [picks]; omega
/-- What Pick tells. -/
def PickOut (s : ByteArray) (er : Int) (w : World) (e : Ending) (w' : World) : Prop := e = .returned (.tuple #[.string s, .int .i64 er]) ∧ Below w.heap.size w w'
set_option maxHeartbeats 1000000 in
theorem pick_sum (n : Int) (A : Option Addr) (l c : Nat) (ss : List ByteArray) (N : Int) (B : Option Addr) (k d : Nat) (w : World) (ht : Texts w A l ss) (hlc : l ≤ c) (hcm : c ≤ maxLen) (h : okS n ss = false) :
    Calls Tryd.prog 26 #[.int .i64 n, .slice A l c, .agg #[.int .i64 N, .slice B k d]] w (PickOut ⟨#[]⟩ 2 w) := by
  have HB := Lib.hid (show Below w.heap.size w (w.alloc (.cells #[.int .i64 N, .slice B k d] 58)) from (Below.refl _ _).alloc (Nat.le_refl _) _)
  have HS := Lib.hid (sum_any n A l c ss _ (ht.below HB.out) hlc hcm)
  rw [sumE_no h] at HS
  clear ht h
  go_enter Tryd.func26, Tryd.ntmps26
  go_wp2_with fail
  refine HS.out.mono ?_
  rintro e w1 ⟨rfl, hb⟩
  have B := Lib.hid (chain HB.out hb)
  clear hb
  go_wp2
  go_ret2
  exact ⟨rfl, B.out⟩
set_option maxHeartbeats 1000000 in
theorem pick_row (n : Int) (A : Option Addr) (l c : Nat) (ss : List ByteArray) (N : Int) (B : Option Addr) (k d : Nat) (us : List Nat) (w : World) (ht : Texts w A l ss) (hlc : l ≤ c) (hcm : c ≤ maxLen) (hu : Words w B k us) (h : okS n ss = true) (hr : rightB N us = false) :
    Calls Tryd.prog 26 #[.int .i64 n, .slice A l c, .agg #[.int .i64 N, .slice B k d]] w (PickOut ⟨#[]⟩ 1 w) := by
  have HB := Lib.hid (show Below w.heap.size w (w.alloc (.cells #[.int .i64 N, .slice B k d] 58)) from (Below.refl _ _).alloc (Nat.le_refl _) _)
  have Q := Lib.hid (Box.new w 58 #[.int .i64 N, .slice B k d])
  have HU := Lib.hid (hu.below HB.out)
  have HS := Lib.hid (sum_any n A l c ss _ (ht.below HB.out) hlc hcm)
  rw [sumE_ok h] at HS
  have HR := Lib.hid hr
  clear ht h hu hr
  go_enter Tryd.func26, Tryd.ntmps26
  go_wp2_with fail
  refine HS.out.mono ?_
  rintro e w1 ⟨rfl, hb⟩
  have Bv := Lib.hid (chain HB.out hb)
  have Q := Lib.hid (Q.out.keep hb)
  have HU := Lib.hid (HU.out.below hb)
  clear hb
  obtain ⟨r0, r1, -, -⟩ := Q.out.two
  go_wp2_with fail
  refine (plc_no N B k d us _ HR.out HU.out).mono ?_
  rintro e w2 ⟨rfl, hb⟩
  have Bv := Lib.hid (chain Bv.out hb)
  clear hb
  go_wp2
  go_ret2
  exact ⟨rfl, Bv.out⟩
set_option maxRecDepth 100000 in
set_option maxHeartbeats 2000000 in
theorem pick_good (n : Int) (A : Option Addr) (l c : Nat) (ss : List ByteArray) (N : Nat) (B : Option Addr) (k d : Nat) (us : List Nat) (w : World) (ht : Texts w A l ss) (hlc : l ≤ c) (hcm : c ≤ maxLen) (hu : Words w B k us) (h : okS n ss = true) (hr : rightB N us = true) (hT : TabAt w 1) (hNl : N = l) :
    Calls Tryd.prog 26 #[.int .i64 n, .slice A l c, .agg #[.int .i64 N, .slice B k d]] w (PickOut (sumS n (picks ss (plcN us N))) 0 w) := by
  obtain ⟨i0, hi, hz0, hz1, hz2⟩ := info_parts string_info
  have HB := Lib.hid (show Below w.heap.size w (w.alloc (.cells #[.int .i64 N, .slice B k d] 58)) from (Below.refl _ _).alloc (Nat.le_refl _) _)
  have Q := Lib.hid (Box.new w 58 #[.int .i64 N, .slice B k d])
  have HU := Lib.hid (hu.below HB.out)
  have HT := Lib.hid (hT.below HB.out)
  have HX := Lib.hid (ht.below HB.out)
  have HS := Lib.hid (sum_any n A l c ss _ HX.out hlc hcm)
  rw [sumE_ok h] at HS
  have HR := Lib.hid hr
  have hpl := plc_right N us hr
  rw [hu.1] at hpl
  have HPl := Lib.hid hpl
  have HLt := Lib.hid (fun x (hx : x ∈ plcN us N) => plcN_lt us N hx)
  have hpn := plcN_len us N
  have hlen := ht.1
  have HL := Lib.hid hlen
  have hl64 : l ≤ 64 := by simp only [okS, Bool.and_eq_true, decide_eq_true_eq] at h; omega
  have HOK := Lib.hid (show sumE n (picks ss (plcN us N)) = 0 by rw [hNl, ← hlen]; exact sumE_ok (okS_picks h us))
  have HI := Lib.hid hi
  have HZ0 := Lib.hid hz0
  have HZ1 := Lib.hid hz1
  have HZ2 := Lib.hid hz2
  have tne : ((N : Int) != (l : Int)) = false := by simp; omega
  have hle1 : N ≤ l := by omega
  clear ht h hu hr hT hpl hlen hi hz0 hz1 hz2 hNl
  go_enter Tryd.func26, Tryd.ntmps26
  go_wp2_with fail
  refine HS.out.mono ?_
  rintro e w1 ⟨rfl, hb⟩
  have Bv := Lib.hid (chain HB.out hb)
  have Q := Lib.hid (Q.out.keep hb)
  have HU := Lib.hid (HU.out.below hb)
  have HT := Lib.hid (HT.out.below hb)
  have HX := Lib.hid (HX.out.below hb)
  clear hb
  obtain ⟨r0, r1, -, -⟩ := Q.out.two
  go_wp2_with fail
  have HP := Lib.hid (plc_yes N B k d us w1 HR.out HU.out HT.out)
  rw [HPl.out] at HP
  refine HP.out.mono ?_
  rintro e w2 ⟨v2, rfl, hown, hb⟩
  obtain ⟨A2, c2, rfl, -⟩ := own_form hown
  have HP2 := Lib.hid (own_plcInts hown (fun x hx => by have := HLt.out x hx; omega))
  have Bv := Lib.hid (chain Bv.out hb)
  have Q := Lib.hid (Q.out.keep hb)
  have HX := Lib.hid (HX.out.below hb)
  have hw2 : w.heap.size ≤ w2.heap.size := Bv.out.size
  clear hb hown HP r0 r1
  obtain ⟨r0, r1, -, -⟩ := Q.out.two
  generalize plcN us N = P at *
  obtain ⟨w3, hmk, hown3, hgrow⟩ := run_make_own (P := Tryd.prog) w2 w2.heap.size 22 9 i0 (.string ⟨#[]⟩) 1 Tryd.underlying22 HI.out HZ0.out HZ1.out .i64 .i64 P.length (by rw [HZ2.out]; omega) (by unfold maxLen; omega) (Nat.le_refl _)
  have hb3 : Below w2.heap.size w2 w3 := (Below.refl _ _).grown hgrow (Nat.le_refl _) (fun k e => by cases e)
  have HO := Lib.hid hown3
  have HB3 := Lib.hid hb3
  clear hown3 hgrow hb3
  go_wp2
  clear hmk r0 r1 tne
  go_loopw [43, 12, 14] (fun t v _ wr => ∃ i : Nat, i ≤ P.length ∧ t = .int .i64 i ∧ wr.ownsRow w2.heap.size 9 1 v i ((picks ss (P.take i)).map Value.string) ∧ Below w2.heap.size w2 wr)
    (fun t _ _ _ => P.length - (intOf t).toNat)
  case atStart => exact ⟨0, by omega, rfl, HO.out, HB3.out⟩
  case round =>
    obtain ⟨i, hi, rfl, hown, hbel⟩ := hrel
    have HO := Lib.hid hown
    have HBr := Lib.hid hbel
    clear hown hbel HB3
    by_cases hlt : i < P.length
    · obtain ⟨b2, o2, rfl, hb2, hc2⟩ := HP2.out.2.2 (by omega)
      have hp : P.getD i 0 < N := by
        have e : P.getD i 0 = P[i] := by simp [List.getD, hlt]
        rw [e]; exact HLt.out _ (List.getElem_mem hlt)
      obtain ⟨b1, o1, rfl, hb1, hc1⟩ := HX.out.2.2 (by omega)
      have c2' := (HBr.out.cell (p := ⟨b2, o2 + i, none⟩) hb2).trans (hc2 i hlt)
      rw [plcZ_getD] at c2'
      have c1' := (HBr.out.cell (p := ⟨b1, o1 + P.getD i 0, none⟩) hb1).trans (hc1 (P.getD i 0) (by omega))
      have HSn := Lib.hid (picks_snoc ss P i hlt)
      have hm := HX.out.2.1 (P.getD i 0)
      clear hc1 hc2
      generalize P.getD i 0 = p at *
      generalize ss.getD p ByteArray.empty = s at *
      have hi' := HI.out
      have hz0' := HZ0.out
      have hz1' := HZ1.out
      have hz2' := HZ2.out
      have XO := Lib.hid (HO.out.alloc (.cells #[.string s] 9))
      have XB := Lib.hid (HBr.out.alloc HBr.out.size (.cells #[.string s] 9))
      have N2 := Lib.hid (fun k hk => (HO.out.lt k hk).1)
      have hpl : (p : Int) < (l : Int) := by omega
      go_wp2_with (at_builtin; refine wpList_append_own _ rfl _ _ 22 rfl w2.heap.size 9 i0 (.string ⟨#[]⟩) 1 16 Tryd.underlying22 hi' hz0' hz1' hz2' rfl (by decide) _ _ _ rfl XO.out ⟨wr.heap.size, 0, none⟩ 1 1 [.string s] rfl rfl (cell_one_new _ _ _) (by simp [Value.oneCell']) (by simp [maxLen]; omega) (by omega) XB.out.size ?_; intro v' w4 hown' hgrow _; have HC := Lib.hid (XB.out.grown hgrow XB.out.size N2.out); have HO2 := Lib.hid hown'; clear hown' hgrow)
      go_roundw
      case rel =>
        refine ⟨i + 1, by omega, by go_num, ?_, HC.out⟩
        rw [HSn.out, List.map_append]
        exact HO2.out
      case measure => simp [intOf]; omega
    · obtain rfl : i = P.length := by omega
      have ho := HO.out
      rw [List.take_length] at ho
      have hpl : (picks ss P).length = P.length := by simp [picks]
      rw [← hpl] at ho
      obtain ⟨A', c', rfl, q1, q2, q3⟩ := own_texts ho (picks_le ss P HX.out.2.1)
      rw [hpl] at q1 q3
      have HQ := Lib.hid q3
      have Bv := Lib.hid (chain Bv.out HBr.out)
      rw [hpl]
      clear ho hpl q3 HO
      go_wp2_with fail
      refine (sum_any n A' P.length c' (picks ss P) _ HQ.out q1 q2).mono ?_
      rintro e w5 ⟨rfl, hb⟩
      rw [HOK.out]
      have Bv := Lib.hid (chain Bv.out hb)
      clear hb
      go_wp2_with fail
      go_ret2
      exact ⟨rfl, Bv.out⟩
set_option maxHeartbeats 1000000 in
theorem pick_size (n : Int) (A : Option Addr) (l c : Nat) (ss : List ByteArray) (N : Nat) (B : Option Addr) (k d : Nat) (us : List Nat) (w : World) (ht : Texts w A l ss) (hlc : l ≤ c) (hcm : c ≤ maxLen) (hu : Words w B k us) (h : okS n ss = true) (hr : rightB N us = true) (hT : TabAt w 1) (hNl : N ≠ l) :
    Calls Tryd.prog 26 #[.int .i64 n, .slice A l c, .agg #[.int .i64 N, .slice B k d]] w (PickOut ⟨#[]⟩ 1 w) := by
  have HB := Lib.hid (show Below w.heap.size w (w.alloc (.cells #[.int .i64 N, .slice B k d] 58)) from (Below.refl _ _).alloc (Nat.le_refl _) _)
  have Q := Lib.hid (Box.new w 58 #[.int .i64 N, .slice B k d])
  have HU := Lib.hid (hu.below HB.out)
  have HT := Lib.hid (hT.below HB.out)
  have HS := Lib.hid (sum_any n A l c ss _ (ht.below HB.out) hlc hcm)
  rw [sumE_ok h] at HS
  have HR := Lib.hid hr
  have tne : ((N : Int) != (l : Int)) = true := by rw [bne_iff_ne]; omega
  clear ht h hu hr hT hNl
  go_enter Tryd.func26, Tryd.ntmps26
  go_wp2_with fail
  refine HS.out.mono ?_
  rintro e w1 ⟨rfl, hb⟩
  have Bv := Lib.hid (chain HB.out hb)
  have Q := Lib.hid (Q.out.keep hb)
  have HU := Lib.hid (HU.out.below hb)
  have HT := Lib.hid (HT.out.below hb)
  clear hb
  obtain ⟨r0, r1, -, -⟩ := Q.out.two
  go_wp2_with fail
  refine (plc_yes N B k d us _ HR.out HU.out HT.out).mono ?_
  rintro e w2 ⟨v2, rfl, hown, hb⟩
  have Bv := Lib.hid (chain Bv.out hb)
  have Q := Lib.hid (Q.out.keep hb)
  clear hb hown r0 r1
  obtain ⟨r0, r1, -, -⟩ := Q.out.two
  go_wp2
  go_ret2
  exact ⟨rfl, Bv.out⟩
/-- What Pick tells, whatever comes in. -/
def pickE (n : Int) (ss : List ByteArray) (N : Int) (us : List Nat) : Int := if okS n ss then if rightB N us && N == (ss.length : Int) then 0 else 1 else 2
def pickS (n : Int) (ss : List ByteArray) (N : Int) (us : List Nat) : ByteArray := if okS n ss && (rightB N us && N == (ss.length : Int)) then sumS n (picks ss (plcN us N.toNat)) else ⟨#[]⟩
theorem pick_any (n : Int) (A : Option Addr) (l c : Nat) (ss : List ByteArray) (N : Int) (B : Option Addr) (k d : Nat) (us : List Nat) (w : World) (ht : Texts w A l ss) (hlc : l ≤ c) (hcm : c ≤ maxLen) (hu : Words w B k us) (hT : TabAt w 1) :
    Calls Tryd.prog 26 #[.int .i64 n, .slice A l c, .agg #[.int .i64 N, .slice B k d]] w (PickOut (pickS n ss N us) (pickE n ss N us) w) := by
  unfold pickS pickE
  cases h : okS n ss with
  | false => simpa using pick_sum n A l c ss N B k d w ht hlc hcm h
  | true =>
    cases hr : rightB N us with
    | false => simpa using pick_row n A l c ss N B k d us w ht hlc hcm hu h hr
    | true =>
      obtain ⟨M, rfl⟩ := Int.eq_ofNat_of_zero_le ((lmb_iff N).1 (right_lmb hr)).1
      rw [ht.1, Int.toNat_natCast]
      by_cases hN : M = l
      · have e : ((M : Int) == (l : Int)) = true := by simp [hN]
        rw [e]
        exact pick_good n A l c ss M B k d us w ht hlc hcm hu h hr hT hN
      · have e : ((M : Int) == (l : Int)) = false := by simp; omega
        rw [e]
        exact pick_size n A l c ss M B k d us w ht hlc hcm hu h hr hT hN
/-- A row's bits as numbers. -/
def bitsL (us : List Nat) (m : Nat) : List Int := (List.range m).map fun p => ((bitAt us p : Nat) : Int)
theorem bitsL_succ (us : List Nat) (m : Nat) : bitsL us (m + 1) = bitsL us m ++ [((bitAt us m : Nat) : Int)] := by simp [bitsL, List.range_succ]
theorem bitsL_len (us : List Nat) (m : Nat) : (bitsL us m).length = m := by simp [bitsL]
theorem bitsL_get (us : List Nat) (m j : Nat) (h : j < m) : (bitsL us m).getD j 0 = ((bitAt us j : Nat) : Int) := by simp [bitsL, List.getD, h]
theorem bitsL_lt (us : List Nat) (m j : Nat) : -9223372036854775808 ≤ (bitsL us m).getD j 0 ∧ (bitsL us m).getD j 0 ≤ 9223372036854775807 := by
  by_cases h : j < m
  · rw [bitsL_get us m j h]
    rcases bitAt_le us j with e | e <;> rw [e] <;> simp
  · have : (bitsL us m).getD j 0 = 0 := by simp [List.getD, List.getElem?_eq_none (show (bitsL us m).length ≤ j by rw [bitsL_len]; omega)]
    rw [this]; simp
set_option maxHeartbeats 1000000 in
theorem refBits_any (N : Nat) (A : Option Addr) (len c : Nat) (us : List Nat) (w : World) (hN : N ≤ 64 * len) (hl : len ≤ 1000) (hu : Words w A len us) :
    Calls Tryd.prog 27 #[.agg #[.int .i64 N, .slice A len c]] w (IntsOut N (bitsL us N) w) := by
  obtain ⟨i0, hi, hz0, hz1, hz2⟩ := info_parts int_infoP
  have hB := Below.refl w.heap.size w
  have HI := Lib.hid hi
  have HZ0 := Lib.hid hz0
  have HZ1 := Lib.hid hz1
  have HZ2 := Lib.hid hz2
  have Q0 := Lib.hid ((Box.new w 58 #[.int .i64 N, .slice A len c]).alloc (.cells #[] 3))
  have HW := Lib.hid ((hB.alloc (Nat.le_refl _) (.cells #[.int .i64 N, .slice A len c] 58)).alloc (by simp) (.cells #[] 3))
  have ho := own_empty (w.alloc (.cells #[.int .i64 N, .slice A len c] 58)) w.heap.size 3 (by simp)
  rw [World.size_alloc] at ho
  have HOw := Lib.hid ho
  have HU := Lib.hid hu
  clear hi hz0 hz1 hz2 hu ho hB
  go_enter Tryd.func27, Tryd.ntmps27
  go_wp2
  go_loopw [3, 4] (fun v t wr => ∃ i : Nat, i ≤ N ∧ t = .int .i64 i ∧ wr.ownsRow w.heap.size 3 1 v i ((bitsL us i).map (Value.int .i64)) ∧ Box wr w.heap.size 58 #[.int .i64 N, .slice A len c] ∧ Below w.heap.size w wr)
    (fun _ t _ => N - (intOf t).toNat)
  case atStart => exact ⟨0, by omega, rfl, HOw.out, Q0.out, HW.out⟩
  case round =>
    obtain ⟨i, hi, rfl, hown, hbox, hbel⟩ := hrel
    have HO := Lib.hid hown
    have HB := Lib.hid hbel
    have Q := Lib.hid hbox
    clear hown hbel hbox HW HOw Q0
    obtain ⟨r0, r1, -, -⟩ := Q.out.two
    have HS := Lib.hid (bitsL_succ us i)
    by_cases hlt : i < N
    · have hlt' : (i : Int) < (N : Int) := by omega
      have hb2 : bitAt us i ≤ 1 := by rcases bitAt_le us i with h | h <;> omega
      go_wp2_with fail
      refine (bit_any N A len c i us _ (HU.out.below HB.out) (by omega) (by omega)).mono ?_
      rintro e w1 ⟨rfl, hb⟩
      have Q := Lib.hid (Q.out.keep hb)
      have HB := Lib.hid (chain HB.out hb)
      have HO := Lib.hid (own_keep HO.out hb)
      clear hb r0 r1
      generalize bitAt us i = b at *
      have hi' := HI.out
      have hz0' := HZ0.out
      have hz1' := HZ1.out
      have hz2' := HZ2.out
      have XO := Lib.hid (HO.out.alloc (.cells #[.int .i64 (b : Int)] 3))
      have XQ := Lib.hid (Q.out.alloc (.cells #[.int .i64 (b : Int)] 3))
      have XB := Lib.hid (HB.out.alloc HB.out.size (.cells #[.int .i64 (b : Int)] 3))
      have N2 := Lib.hid (fun k hk => (HO.out.lt k hk).1)
      have N1 := Lib.hid (own_ne XO.out XQ.out (by decide))
      go_wp2_with (at_builtin; refine wpList_append_own _ rfl _ _ 62 rfl w.heap.size 3 i0 (.int .i64 0) 1 8 Tryd.underlying62 hi' hz0' hz1' hz2' rfl (by decide) _ _ _ rfl XO.out ⟨w1.heap.size, 0, none⟩ 1 1 [.int .i64 (b : Int)] rfl rfl (cell_one_new _ _ _) (by simp [Value.oneCell']) (by simp [maxLen]; omega) (by omega) XB.out.size ?_; intro v' w2 hown' hgrow _; have HC := Lib.hid (XB.out.grown hgrow XB.out.size N2.out); have S1 := Lib.hid (XQ.out.grown hgrow N1.out); have HO2 := Lib.hid hown'; clear hown' hgrow)
      go_roundw
      case rel =>
        refine ⟨i + 1, by omega, by go_num, ?_, S1.out, HC.out⟩
        rw [HS.out, List.map_append]
        exact HO2.out
      case measure => simp [intOf] <;> omega
    · obtain rfl : i = N := by omega
      have hlt' : ¬ (i : Int) < (i : Int) := by omega
      obtain ⟨A', c', rfl, hA'⟩ := own_form HO.out
      go_wp2
      go_ret
      exact ⟨A', c', rfl, own_ints HO.out (bitsL_lt us i), HB.out⟩
end
section
/- Contract of layer 2's reference: Sum. -/
set_option linter.unusedVariables false
set_option linter.unusedSimpArgs false
open Go.RowKit
/-- Byte i of the sum of those of the first k texts whose bit is 1. -/
def bsum (ss : List ByteArray) (zs : List Int) (i : Nat) : Nat → UInt8
  | 0 => 0
  | k + 1 => if zs.getD k 0 = 1 then bsum ss zs i k ^^^ (ss.getD k ByteArray.empty).data.toList.getD i 0 else bsum ss zs i k
def bsums (ss : List ByteArray) (zs : List Int) (l k : Nat) : List UInt8 := (List.range k).map fun i => bsum ss zs i l
theorem bsums_succ (ss : List ByteArray) (zs : List Int) (l k : Nat) : bsums ss zs l (k + 1) = bsums ss zs l k ++ [bsum ss zs k l] := by
  simp [bsums, List.range_succ]
theorem bsum_ones (n : Nat) (ss : List ByteArray) (l i k : Nat) (hi : i < n) (hk : k ≤ l) (hl : ss.length = l) : bsum ss (ones l) i k = (sumL n (ss.take k)).getD i 0 := by
  induction k with
  | zero => simp [bsum, sumL, List.getD, hi]
  | succ k ih =>
    have h1 : (ones l).getD k 0 = 1 := by simp [ones, List.getD, show k < l by omega]
    have hln : i < (sumL n (ss.take k)).length := by rw [sumL_length]; exact hi
    rw [bsum, if_pos h1, ih (by omega), ← sumL_snoc n ss k (by omega)]
    generalize sumL n (ss.take k) = x at *
    simp [bxL, List.getD, hln]
theorem bsums_ones (n : Nat) (ss : List ByteArray) (l : Nat) (hl : ss.length = l) : bsums ss (ones l) l n = sumL n ss := by
  apply List.ext_getElem
  · simp [bsums, sumL_length]
  · intro i h1 h2
    have hi : i < n := by simpa [bsums] using h1
    have := bsum_ones n ss l i l hi (Nat.le_refl _) hl
    rw [List.take_of_length_le (by omega)] at this
    simp only [bsums, List.getElem_map, List.getElem_range, this]
    simp [List.getD, h2]
theorem uint8_infoB : (Tryd.prog.info? 5).map (fun i => (i.zero, i.size, i.bytes)) = some (some (.int .u8 0), 1, 1) := by kernel_rfl
def byteV (b : UInt8) : Value := .int .u8 (b.toNat : Int)
theorem own_bytes {w : World} {base e n : Nat} {v : Value} {l : List UInt8} (h : w.ownsRow base e 1 v n (l.map byteV)) (hne : v ≠ .slice none 0 0) :
    (convert 55 9 v).run Tryd.prog w = .ok (.string ⟨l.toArray⟩) w := by
  have hl : l.length = n := by have := h.1; simpa using this
  rcases h.2 with ⟨rfl, h0⟩ | ⟨g, cap, cur, rfl, hb, hh, hn, hm, hs, hx⟩
  · exact absurd rfl hne
  · subst hl
    refine run_convert_bytes_back (P := Tryd.prog) w 55 9 5 ⟨g, 0, none⟩ _ l Tryd.underlying55 Tryd.underlying5 Tryd.underlying9 ?_
    intro j hj
    have hadd : Addr.add { block := g, off := 0 } j = ⟨g, j, none⟩ := by
      by_cases h : j = 0 <;> simp [Addr.add, h]
    have hbx : Box w g e cur := hh
    rw [hadd, hbx.cell j]
    have e1 : (cur.toList.take (l.length * 1))[j]? = (l.map byteV)[j]? := by rw [hx]
    rw [Nat.mul_one, List.getElem?_take, if_pos hj] at e1
    simp only [List.getElem?_map, List.getElem?_eq_getElem hj, Option.map_some] at e1
    rw [← Array.getElem?_toList, e1]
    rfl
set_option maxHeartbeats 2000000 in
theorem refSum_any (n : Nat) (hn : n ≤ 64) (A B : Option Addr) (l c m d : Nat) (ss : List ByteArray) (zs : List Int) (w : World) (ht : Texts w A l ss) (hz : Ints w B m zs) (hl : l ≤ 1000) (hm : l ≤ m) (hmm : m ≤ 1000000) (hsz : ∀ j, j < l → (ss.getD j ByteArray.empty).size = n) :
    Calls Tryd.prog 29 #[.int .i64 n, .slice A l c, .slice B m d] w fun e w' => e = .returned (.string ⟨(bsums ss zs l n).toArray⟩) ∧ Below w.heap.size w w' := by
  obtain ⟨i0, hi, hz0, hz1, hz2⟩ := info_parts uint8_infoB
  have HT := Lib.hid ht
  have HZ := Lib.hid hz
  have HSZ := Lib.hid hsz
  clear ht hz hsz
  go_enter Tryd.func29, Tryd.ntmps29
  go_wp2
  have HOw := Lib.hid (own_empty w w.heap.size 5 (Nat.le_refl _))
  have HW := Lib.hid ((Below.refl w.heap.size w).alloc (Nat.le_refl _) (.cells #[] 5))
  have HI := Lib.hid hi
  have HZ0 := Lib.hid hz0
  have HZ1 := Lib.hid hz1
  have HZ2 := Lib.hid hz2
  clear hi hz0 hz1 hz2
  go_loopw [7, 8] (fun v t wr => ∃ i : Nat, i ≤ n ∧ t = .int .i64 i ∧ wr.ownsRow w.heap.size 5 1 v i ((bsums ss zs l i).map byteV) ∧ Hid (v ≠ .slice none 0 0) ∧ Below w.heap.size w wr)
    (fun _ t _ => n - (intOf t).toNat)
  case atStart => exact ⟨0, by omega, rfl, HOw.out, Lib.hid (by simp), HW.out⟩
  case round =>
    obtain ⟨i, hi, rfl, hown, HNE, hbel⟩ := hrel
    have HO := Lib.hid hown
    have HB := Lib.hid hbel
    clear hown hbel HW HOw
    by_cases hlt : i < n
    · have hlt' : (i : Int) < (n : Int) := by omega
      go_wp2_with fail
      go_loop [9, 20] (fun b t => ∃ k : Nat, k ≤ l ∧ t = .int .i64 k ∧ b = .int .u8 ((bsum ss zs i k).toNat : Int)) (fun _ t => l - (intOf t).toNat)
      case atStart => exact ⟨0, by omega, rfl, rfl⟩
      case round =>
        obtain ⟨k, hk, rfl, rfl⟩ := hrel
        by_cases hkl : k < l
        · have hkl' : (k : Int) < (l : Int) := by omega
          obtain ⟨b, off, hA, hb, hc⟩ := HT.out.2.2 (by omega)
          obtain ⟨b2, off2, hA2, hb2, hc2⟩ := HZ.out.2.2 (by omega)
          subst hA hA2
          have c1 : wr.cell? ⟨b, off + k, none⟩ = some (.string (ss.getD k ByteArray.empty)) := (HB.out.cell (p := ⟨b, off + k, none⟩) hb).trans (hc k hkl)
          have c2 : wr.cell? ⟨b2, off2 + k, none⟩ = some (.int .i64 (zs.getD k 0)) := (HB.out.cell (p := ⟨b2, off2 + k, none⟩) hb2).trans (hc2 k (by omega))
          have hs := HSZ.out k hkl
          have HE := Lib.hid (show bsum ss zs i (k + 1) = if zs.getD k 0 = 1 then bsum ss zs i k ^^^ (ss.getD k ByteArray.empty).data.toList.getD i 0 else bsum ss zs i k from rfl)
          clear hc hc2
          generalize ss.getD k ByteArray.empty = s at *
          generalize zs.getD k 0 = z at *
          generalize bsum ss zs i k = x at *
          have his : i < s.size := by omega
          have HS := Lib.hid hs
          clear hs
          have hkm : (k : Int) < (m : Int) := by omega
          have HG := Lib.hid (show s.data.toList.getD i 0 = s[i] by simp [List.getD, his]; rfl)
          by_cases h1 : z = 1
          · subst h1
            have t := xor_u8 x s[i]
            go_wp2
            go_round
            case rel => exact ⟨k + 1, by omega, by go_num, by rw [HE.out, if_pos rfl, HG.out, UInt8.toNat_xor]⟩
            case measure => simp [intOf] <;> omega
          · have t : (z == 1) = false := by simpa using h1
            go_wp2
            go_round
            case rel => exact ⟨k + 1, by omega, by go_num, by rw [HE.out, if_neg h1]⟩
            case measure => simp [intOf] <;> omega
        · obtain rfl : l = k := by omega
          have hkl' : ¬ (l : Int) < (l : Int) := by omega
          have HS := Lib.hid (bsums_succ ss zs l i)
          generalize bsum ss zs i l = x at *
          have hi' := HI.out
          have hz0' := HZ0.out
          have hz1' := HZ1.out
          have hz2' := HZ2.out
          have XO := Lib.hid (HO.out.alloc (.cells #[.int .u8 (x.toNat : Int)] 5))
          have XB := Lib.hid (HB.out.alloc HB.out.size (.cells #[.int .u8 (x.toNat : Int)] 5))
          have N2 := Lib.hid (fun k hk => (HO.out.lt k hk).1)
          go_wp2_with (at_builtin; refine wpList_append_own _ rfl _ _ 55 rfl w.heap.size 5 i0 (.int .u8 0) 1 1 Tryd.underlying55 hi' hz0' hz1' hz2' rfl (by decide) _ _ _ rfl XO.out ⟨wr.heap.size, 0, none⟩ 1 1 [.int .u8 (x.toNat : Int)] rfl rfl (cell_one_new _ _ _) (by simp [Value.oneCell']) (by simp [maxLen]; omega) (by omega) XB.out.size ?_; intro v' w1 hown' hgrow hnil; have HC := Lib.hid (XB.out.grown hgrow XB.out.size N2.out); have HO2 := Lib.hid hown'; have HNI := Lib.hid hnil; clear hown' hgrow hnil)
          go_roundw
          case rel =>
            refine ⟨i + 1, by omega, by go_num, ?_, Lib.hid (fun e => HNE.out (HNI.out.1 e).1), HC.out⟩
            rw [HS.out, List.map_append]
            exact HO2.out
          case measure => simp [intOf] <;> omega
    · obtain rfl : i = n := by omega
      have hlt' : ¬ (i : Int) < (i : Int) := by omega
      have cv := own_bytes HO.out HNE.out
      go_wp2
      go_ret
      exact ⟨rfl, HB.out⟩
end
section
/- A law of one's own for a region that draws its order: its first operations are taken while some cells are held (a call that makes memory among them), the last ones, which may write those very cells, come one after the other. No program. -/
set_option linter.unusedVariables false
set_option linter.unusedSimpArgs false
section
variable {P : Program} {ops : Array Oper} {Q : Exit → Act → World → Prop} {md : Region.Mode} {S : World → Prop}
/-- Whatever order the first m operations take, f of them are still to come; behind each S holds; L at the end. -/
def headH (P : Program) (md : Region.Mode) (ops : Array Oper) (Q : Exit → Act → World → Prop) (S : World → Prop) (m : Nat) (L : Array Bool → Act → World → Prop) : Nat → Array Bool → Act → World → Prop
  | 0, listed, a, w => L listed a w
  | f + 1, listed, a, w => Region.ready md ops listed ≠ [] ∧ ∀ i ∈ Region.ready md ops listed, i < m ∧ wpOp P ops Q i (fun a' w' => S w' ∧ headH P md ops Q S m L f (listed.setIfInBounds i true) a' w') a w
theorem any_of_headH {m g : Nat} {L : Array Bool → Act → World → Prop} (hL : ∀ listed a w, L listed a w → wpAny P md ops Q g listed a w) :
    ∀ (f : Nat) (listed : Array Bool) (a : Act) (w : World), headH P md ops Q S m L f listed a w → wpAny P md ops Q (f + g) listed a w
  | 0, listed, a, w, h => by rw [Nat.zero_add]; exact hL _ _ _ h
  | f + 1, listed, a, w, h => by
    rw [show f + 1 + g = (f + g) + 1 by omega]
    exact ⟨fun h0 => absurd h0 h.1, fun i hi => wpOp_mono (fun a' w' h' => any_of_headH hL f _ a' w' h'.2) (h.2 i hi).2⟩
theorem headH_first {m i : Nat} {oi : Oper} {v : Value} {L : Array Bool → Act → World → Prop} (hi : ops[i]? = some oi) (hsel : ∀ (j : Nat) (o : Oper) cs b, ops[j]? = some o → o.op ≠ .select cs b)
    (hw : ∀ listed, HeadInv md ops m listed → ∀ i, i < m → listed.getD i true = false → ∀ t, m ≤ t → t ∉ Region.ready md ops listed) (him : i < m)
    (hQ : ∀ c a w, Q (.panic c) (a.put oi.dst v) w → Q (.panic c) a w) (hdone : ∀ listed a w, L listed a w → ∀ j ∈ Region.ready md ops listed, m ≤ j) :
    ∀ (f : Nat) (listed : Array Bool) (a : Act) (w : World), HeadInv md ops m listed →
      (∀ j oj, ops[j]? = some oj → j ≠ i → listed.getD j true = false → (∀ e ∈ oj.after, Region.binds md e = true → e.on ≠ i) → oi.apart ops oj = true) →
      i ∈ Region.ready md ops listed → YieldsIf P ops S oi v a → S w →
      headH P md ops Q S m L f (listed.setIfInBounds i true) (a.put oi.dst v) w → headH P md ops Q S m L (f + 1) listed a w := by
  intro f
  induction f with
  | zero =>
    intro listed a w inv _ hr hy hS H
    have hun := (mem_ready.1 hr).1
    refine ⟨fun h => (by rw [h] at hr; cases hr), fun j hj => ?_⟩
    have hjm : j < m := by
      rcases Nat.lt_or_ge j m with h | h
      · exact h
      · exact absurd hj (hw listed inv i him hun j h)
    refine ⟨hjm, ?_⟩
    by_cases hji : j = i
    · subst hji; exact hy.wpOp hi hS ⟨hS, H⟩
    · have := hdone _ _ _ H j (ready_mono hj hji)
      omega
  | succ f ih =>
    intro listed a w inv hfree hr hy hS H
    have hun := (mem_ready.1 hr).1
    refine ⟨fun h => (by rw [h] at hr; cases hr), fun j hj => ?_⟩
    have hjm : j < m := by
      rcases Nat.lt_or_ge j m with h | h
      · exact h
      · exact absurd hj (hw listed inv i him hun j h)
    refine ⟨hjm, ?_⟩
    by_cases hji : j = i
    · subst hji; exact hy.wpOp hi hS ⟨hS, H⟩
    · have h1 := (H.2 j (ready_mono hj hji)).2
      obtain ⟨hjun, oj, hoj, hall⟩ := mem_ready.1 hj
      have hnot : ∀ e ∈ oj.after, Region.binds md e = true → e.on ≠ i := fun e he hb heq => by
        have h1 := hall e he hb
        rw [heq, getD_both hun] at h1
        cases h1
      have h2 := wpOp_putIf hoj (hfree j oj hoj hji hjun hnot) (fun cs b => hsel i oi cs b hi) (fun cs b => hsel j oj cs b hoj) hQ hy h1
      have hfree' : ∀ k ok, ops[k]? = some ok → k ≠ i → (listed.setIfInBounds j true).getD k true = false →
          (∀ e ∈ ok.after, Region.binds md e = true → e.on ≠ i) → oi.apart ops ok = true := fun k ok hk hki hun hno => by
        refine hfree k ok hk hki ?_ hno
        by_cases hjk : j = k
        · subst hjk; exact hjun
        · rw [getD_set_ne true hjk] at hun; exact hun
      refine wpOp_mono (fun a' w' h3 => ⟨h3.2.1, ih (listed.setIfInBounds j true) a' w' (inv.set hj hjm) hfree' (ready_mono hr (Ne.symm hji)) h3.1 h3.2.1 ?_⟩) h2
      rw [Array.setIfInBounds_comm _ _ hji]
      exact h3.2.2
/-- What is known of the list while the head goes on, as a Bool for the kernel. -/
def headB (md : Region.Mode) (ops : Array Oper) (m : Nat) (listed : Array Bool) : Bool :=
  (listed.size == ops.size) && ((List.range ops.size).all fun j => match ops[j]? with | some oj => !listed.getD j false || (oj.after.all fun e => !Region.binds md e || listed.getD e.on false) | none => true) && ((List.range ops.size).all fun t => decide (t < m) || !listed.getD t true)
theorem headB_inv {m : Nat} {listed : Array Bool} (h : headB md ops m listed = true) : HeadInv md ops m listed := by
  simp only [headB, Bool.and_eq_true, beq_iff_eq, List.all_eq_true, List.mem_range, Bool.or_eq_true, decide_eq_true_eq, Bool.not_eq_true'] at h
  obtain ⟨⟨h1, h2⟩, h3⟩ := h
  refine ⟨h1, fun j oj hj hl e he hb => ?_, fun t ht ht' => ?_⟩
  · have hlt : j < ops.size := (Array.getElem?_eq_some_iff.1 hj).1
    have := h2 j hlt
    simp only [hj, hl, Bool.not_true, Bool.false_or, Array.all_eq_true'] at this
    have := this e he
    simpa [hb] using this
  · rcases h3 t ht' with h | h
    · omega
    · exact h
/-- Take number i first. -/
theorem headH_take {m i : Nat} {oi : Oper} {v : Value} {f : Nat} {listed : Array Bool} {a : Act} {w : World} {L : Array Bool → Act → World → Prop} (hi : ops[i]? = some oi)
    (hall : (Region.noSelect ops && Region.sinkB md ops m && Region.chainB md ops m && decide (m < ops.size) && decide (i < m) && headB md ops m listed && Region.free md ops listed i && (Region.ready md ops listed).contains i) = true)
    (hQ : ∀ c a w, Q (.panic c) (a.put oi.dst v) w → Q (.panic c) a w) (hdone : ∀ listed a w, L listed a w → ∀ j ∈ Region.ready md ops listed, m ≤ j)
    (hy : YieldsIf P ops S oi v a) (hS : S w) (h : headH P md ops Q S m L f (listed.setIfInBounds i true) (a.put oi.dst v) w) : headH P md ops Q S m L (f + 1) listed a w := by
  simp only [Bool.and_eq_true, decide_eq_true_eq] at hall
  obtain ⟨⟨⟨⟨⟨⟨⟨h1, h2⟩, h3⟩, h4⟩, h5⟩, h6⟩, h7⟩, h8⟩ := hall
  exact headH_first hi (Region.noSelect_spec h1) (fun listed inv i him hun t ht => tail_waits h2 h3 h4 inv _ i rfl him hun t ht) h5 hQ hdone f listed a w (headB_inv h6) (Region.free_spec hi h7) (by simpa using h8) hy hS h
/-- All that come behind the first m wait for each of them. -/
def barB (md : Region.Mode) (ops : Array Oper) (m : Nat) : Bool := (List.range ops.size).all fun t => decide (t < m) || ((List.range m).all fun i => Region.waitsFor md ops t i)
theorem bar_waits {m : Nat} (h : barB md ops m = true) (listed : Array Bool) (i : Nat) (him : i < m) (hun : listed.getD i true = false) (t : Nat) (ht : m ≤ t) : t ∉ Region.ready md ops listed := by
  intro hr
  obtain ⟨_, ot, hot, hall⟩ := mem_ready.1 hr
  have htlt : t < ops.size := (Array.getElem?_eq_some_iff.1 hot).1
  simp only [barB, List.all_eq_true, List.mem_range, Bool.or_eq_true, decide_eq_true_eq] at h
  rcases h t htlt with h1 | h1
  · omega
  · obtain ⟨o', ho', e, he, hb, hon⟩ := Region.waitsFor_spec (h1 i him)
    have : o' = ot := Option.some.inj (ho'.symm.trans hot)
    subst this
    have h2 := hall e he hb
    rw [hon, getD_both hun] at h2
    cases h2
/-- Take number i first, ahead of a bar. -/
theorem headB_take {m i : Nat} {oi : Oper} {v : Value} {f : Nat} {listed : Array Bool} {a : Act} {w : World} {L : Array Bool → Act → World → Prop} (hi : ops[i]? = some oi)
    (hall : (Region.noSelect ops && barB md ops m && decide (i < m) && headB md ops m listed && Region.free md ops listed i && (Region.ready md ops listed).contains i) = true)
    (hQ : ∀ c a w, Q (.panic c) (a.put oi.dst v) w → Q (.panic c) a w) (hdone : ∀ listed a w, L listed a w → ∀ j ∈ Region.ready md ops listed, m ≤ j)
    (hy : YieldsIf P ops S oi v a) (hS : S w) (h : headH P md ops Q S m L f (listed.setIfInBounds i true) (a.put oi.dst v) w) : headH P md ops Q S m L (f + 1) listed a w := by
  simp only [Bool.and_eq_true, decide_eq_true_eq] at hall
  obtain ⟨⟨⟨⟨⟨h1, h2⟩, h5⟩, h6⟩, h7⟩, h8⟩ := hall
  exact headH_first hi (Region.noSelect_spec h1) (fun listed _ i him hun t ht => bar_waits h2 listed i him hun t ht) h5 hQ hdone f listed a w (headB_inv h6) (Region.free_spec hi h7) (by simpa using h8) hy hS h
/-- Have the first m come up? -/
def passedB (m : Nat) (listed : Array Bool) : Bool := (List.range m).all fun i => listed.getD i false
theorem passed_ready {m : Nat} {listed : Array Bool} (h : passedB m listed = true) : ∀ j ∈ Region.ready md ops listed, m ≤ j := by
  intro j hj
  obtain ⟨hun, oj, hoj, -⟩ := mem_ready.1 hj
  refine Nat.le_of_not_lt fun hlt => ?_
  have := List.all_eq_true.1 h j (List.mem_range.2 hlt)
  rw [getD_both hun] at this
  cases this
/-- THE BEGINNING, ahead of a bar: what comes behind it goes in whatever order. -/
theorem wp_held_bar {id : Nat} {a : Act} {w : World} {l : List Oper} (m : Nat) (hmx : P.follows .mixedOrders = true) (hm : m ≤ l.length)
    (h : headH P .any l.toArray Q S m (fun listed a w => passedB m listed = true ∧ wpAny P .any l.toArray Q (l.length - m) listed a w) m (Array.replicate l.toArray.size false) a w.drew) : (Code.region id l.toArray true).wp P Q a w := by
  refine wp_region_any hmx ?_
  have := any_of_headH (g := l.length - m) (fun listed a' w' hL => hL.2) _ _ _ _ h
  rw [show m + (l.length - m) = l.toArray.size by simp; omega] at this
  exact this
/-- Only number i may come up: behind it S is to be shown anew. -/
theorem headH_one {m i : Nat} {o : Oper} {f : Nat} {listed : Array Bool} {a : Act} {w : World} {L : Array Bool → Act → World → Prop} (hr : (Region.ready md ops listed == [i] && decide (i < m)) = true) (ho : ops[i]? = some o)
    (h : ∀ K' : Act → World → Prop, Shut (∀ a w, S w → (S w → headH P md ops Q S m L f (listed.setIfInBounds i true) a w) → K' a w) → if Region.wanted o (yielded ops a.tmps) = true then Oper.wp P o a w K' Q else K' (a.put o.dst undef) w) : headH P md ops Q S m L (f + 1) listed a w := by
  simp only [Bool.and_eq_true, beq_iff_eq, decide_eq_true_eq] at hr
  refine ⟨by rw [hr.1]; simp, fun j hj => ?_⟩
  rw [hr.1] at hj
  have hji : j = i := by simpa using hj
  subst hji
  exact ⟨hr.2, wpOp_step ho (fun K' hK => h K' (fun a w hS hW => hK a w ⟨hS, hW hS⟩))⟩
/-- THE BEGINNING: the first m operations so, the rest in their order. -/
theorem wp_held_tail {id : Nat} {a : Act} {w : World} {l : List Oper} (m : Nat) (hmx : P.follows .mixedOrders = true) (hm : m ≤ l.length)
    (h : headH P .any l.toArray Q S m (fun listed a w => Region.seqB .any l.toArray (l.length - m) m listed = true ∧ wpList P l.toArray Q (l.drop m) a w) m (Array.replicate l.toArray.size false) a w.drew) : (Code.region id l.toArray true).wp P Q a w := by
  refine wp_region_any hmx ?_
  have := any_of_headH (g := l.length - m) (fun listed a' w' hL => by
    have hdl : (l.drop m).length = l.length - m := by simp
    have := wpAny_of_seq (md := .any) (Q' := Q) (l.drop m) m listed a' w' (fun j => by simp [List.getElem?_drop]) (by rw [hdl]; exact hL.1) hL.2
    rwa [hdl] at this) _ _ _ _ h
  rw [show m + (l.length - m) = l.toArray.size by simp; omega] at this
  exact this
theorem seq_done {l : List Oper} {g m : Nat} {R : Array Bool → Act → World → Prop} (listed : Array Bool) (a : Act) (w : World) (h : Region.seqB md l.toArray g m listed = true ∧ R listed a w) : ∀ j ∈ Region.ready md l.toArray listed, m ≤ j := seqB_ready h.1
end
end
section
/- BlockPicks: the walk. -/
set_option linter.unusedVariables false
set_option linter.unusedSimpArgs false
open Go.RowKit
theorem sumL_snoc1 (n : Nat) (L : List ByteArray) (s : ByteArray) : sumL n (L ++ [s]) = bxL (sumL n L) s.data.toList := by simp [sumL]
theorem bxL_get (l t : List UInt8) (i : Nat) (h : i < l.length) : (bxL l t).getD i 0 = l.getD i 0 ^^^ t.getD i 0 := by simp [bxL, List.getD, h]
theorem bsum_bits (n : Nat) (ss : List ByteArray) (us : List Nat) (N i k : Nat) (hi : i < n) (hk : k ≤ N) : bsum ss (bitsL us N) i k = (sumL n (picks ss (plcN us k))).getD i 0 := by
  induction k with
  | zero => simp [bsum, plcN, picks, sumL, List.getD, hi]
  | succ k ih =>
    have ih := ih (by omega)
    have hb := bitsL_get us N k (by omega)
    rw [plcN_succ]
    simp only [bsum]
    rw [hb]
    rcases bitAt_le us k with h | h
    · rw [h, if_neg (by omega)]
      simpa using ih
    · rw [h, if_pos rfl, if_pos (by decide), show picks ss (plcN us k ++ [k]) = picks ss (plcN us k) ++ [ss.getD k ByteArray.empty] by simp [picks], sumL_snoc1, bxL_get _ _ _ (by rw [sumL_length]; exact hi), ih]
theorem bsums_bits (n : Nat) (ss : List ByteArray) (us : List Nat) (N : Nat) : bsums ss (bitsL us N) N n = sumL n (picks ss (plcN us N)) := by
  apply List.ext_getElem
  · simp [bsums, sumL_length]
  · intro i h1 h2
    have hi : i < n := by simpa [bsums] using h1
    have := bsum_bits n ss us N i N hi (Nat.le_refl _)
    simp only [bsums, List.getElem_map, List.getElem_range, this]
    simp [List.getD, h2]
theorem Texts.far {w : World} {A : Option Addr} {len : Nat} {ss : List ByteArray} {g : Nat} {t : TypeId} {x : Int} {S : Option Addr} {p q : Nat} (h : Texts w A len ss) (hb : Box w g t #[.int .i64 x, .slice S p q]) (i : Nat) (u : Value) : Texts (w.setCell ⟨g, i, none⟩ u) A len ss := by
  refine ⟨h.1, h.2.1, fun hp => ?_⟩
  obtain ⟨b, off, rfl, hlt, hc⟩ := h.2.2 hp
  have hne : b ≠ g := by
    intro e
    subst e
    have c := hc 0 hp
    rw [hb.cell] at c
    match off, c with
    | 0, c => simp at c
    | 1, c => simp at c
    | k + 2, c => simp at c
  refine ⟨b, off, rfl, by simpa [World.setCell] using hlt, fun j hj => ?_⟩
  rw [World.cell?_setCell_other _ _ _ _ (by intro e; injection e; omega)]
  exact hc j hj
theorem Texts.drewT {w : World} {A : Option Addr} {len : Nat} {ss : List ByteArray} (h : Texts w A len ss) : Texts w.drew A len ss := h
theorem strB_ne (l : List UInt8) (h : l ≠ []) : True := trivial
end
section
/- A chain of worlds that keep what was below. No program. -/
set_option linter.unusedVariables false
set_option linter.unusedSimpArgs false
open Go.RowKit
theorem chainN {w w1 w2 : World} {B : Nat} (h : Below B w w1) (hB : B ≤ w1.heap.size) (h2 : Below w1.heap.size w1 w2) : Below B w w2 := h.trans (h2.mono hB)
end
end Go.Proofs.YtepgjimkhodcfaaDoor
