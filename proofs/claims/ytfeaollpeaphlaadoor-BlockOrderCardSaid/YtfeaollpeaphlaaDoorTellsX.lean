/- BitrowTells: the walk. -/
import Derived.Test.YtfeaollpeaphlaaDoorOnesQ
import Derived.Test.YtfeaollpeaphlaaDoorOnesF
import Derived.Test.YtfeaollpeaphlaaDoorRefPl
import Derived.Test.YtfeaollpeaphlaaDoorRefNums
import Derived.Test.YtfeaollpeaphlaaDoorOf
import Derived.Test.YtfeaollpeaphlaaDoorFew
import Derived.Test.YtfeaollpeaphlaaDoorOrder1
import Derived.OpenShut
namespace Go.Proofs.YtfeaollpeaphlaaDoor
set_option linter.unusedVariables false
set_option linter.unusedSimpArgs false
open Go.RowKit
theorem plc_right (N : Nat) (us : List Nat) (h : rightB (N : Int) us = true) : plcN us (64 * us.length) = plcN us N := by
  have hl := h
  simp only [rightB, Bool.and_eq_true, beq_iff_eq, Int.toNat_natCast] at hl
  have h1 := hl.1.2
  have hlm := hl.1.1
  have hle : N ≤ 64 * us.length := by rw [h1]; unfold nw; omega
  obtain ⟨d, hd⟩ := Nat.le.dest hle
  unfold plcN
  rw [← hd, List.range_add, List.filter_append]
  have : ((List.range d).map fun x => N + x).filter (fun p => bitAt us p == 1) = [] := by
    rw [List.filter_eq_nil_iff]
    intro x hx
    obtain ⟨y, hy, rfl⟩ := List.mem_map.1 hx
    have hy : y < d := by simpa using hy
    intro hb
    have hb : bitAt us (N + y) = 1 := by simpa using hb
    have := not_right_of_bit N us.length (N + y) us hlm rfl h1 (by omega) (by omega) hb
    rw [this] at h; cases h
  rw [this, List.append_nil]
theorem plc_no (N : Int) (A : Option Addr) (len c : Nat) (us : List Nat) (w : World) (hr : rightB N us = false) (hW : Words w A len us) :
    Calls Tryd.prog 8 #[.agg #[.int .i64 N, .slice A len c]] w fun e w' => e = .returned (.tuple #[.slice none 0 0, .int .i64 1]) ∧ Below w.heap.size w w' := by
  have Q := Lib.hid (Box.new w 24 #[.int .i64 N, .slice A len c])
  have HB := Lib.hid (show Below w.heap.size w (w.alloc (.cells #[.int .i64 N, .slice A len c] 24)) from (Below.refl _ _).alloc (Nat.le_refl _) _)
  have HR := Lib.hid (right_any N A len c us _ (hW.alloc (.cells #[.int .i64 N, .slice A len c] 24)))
  rw [hr] at HR
  obtain ⟨r0, r1, -, -⟩ := Q.out.two
  clear hW hr
  go_enter Tryd.func8, Tryd.ntmps8
  go_wp2_with fail
  refine HR.out.mono ?_
  rintro e w1 ⟨rfl, hb⟩
  have B := Lib.hid (chain HB.out hb)
  clear hb
  go_wp2
  go_ret2
  exact ⟨rfl, B.out⟩
theorem get_any (n i : Int) (A : Option Addr) (len c : Nat) (us : List Nat) (w : World) (hW : Words w A len us) :
    Calls Tryd.prog 11 #[.agg #[.int .i64 n, .slice A len c], .int .i64 i] w fun e w' => e = .returned (.tuple #[.int .i64 (getV n us i), .int .i64 (getE n us i)]) ∧ Below w.heap.size w w' := by
  unfold getV getE
  cases hr : rightB n us with
  | false => simpa using get_bad n i A len c us w hr hW
  | true =>
    cases hi : (decide (0 ≤ i) && decide (i < n)) with
    | false => simpa using get_far n i A len c us w hr hi hW
    | true =>
      simp only [Bool.and_eq_true, decide_eq_true_eq] at hi
      obtain ⟨m, rfl⟩ := Int.eq_ofNat_of_zero_le hi.1
      obtain ⟨N, rfl⟩ := Int.eq_ofNat_of_zero_le (show 0 ≤ n by omega)
      simpa using get_yes N m A len c us w hr (by omega) hW
set_option maxRecDepth 100000 in
set_option maxHeartbeats 4000000 in
theorem tells_walk (n i : Int) (A : Option Addr) (l c : Nat) (us0 : List Nat) (w : World) (s0 : SliceOk A l c) (h0 : Words w A l us0) (hT : TabAt w 0) :
    Calls Tryd.prog 3 #[.agg #[.int .i64 n, .slice A l c], .int .i64 i] w fun e w' => e = .returned (.bool true) ∧ Below w.heap.size w w' := by
  have hal : Below w.heap.size w (w.alloc (.cells #[.int .i64 n, .slice A l c] 24)) := (Below.refl _ _).alloc (Nat.le_refl _) _
  have Q := Lib.hid (Box.new w 24 #[.int .i64 n, .slice A l c])
  have HT := Lib.hid (hT.below hal)
  have HFew := Lib.hid (few_any n A l c s0 us0 _ (h0.below hal))
  have HB := Lib.hid hal
  obtain ⟨r0, r1, -, -⟩ := Q.out.two
  have hT0 := hT.1
  clear hT h0 s0 hal
  go_enter Tryd.func3, Tryd.ntmps3
  go_wp2_with fail
  refine HFew.out.mono ?_
  rintro e w1 ⟨A1, l1, c1, rfl, hw, hb⟩
  have Q1 := Q.out.keep hb
  have hlt := Q1.lt
  have HW := Lib.hid (hw.put2 Q1 (.int .i64 n) (.slice A1 l1 c1))
  have HT1 := Lib.hid ((HT.out.below hb).put2 Q1 (by omega) (.int .i64 n) (.slice A1 l1 c1))
  have HB1 := Lib.hid (((chain HB.out hb).setCell (p := ⟨w.heap.size, 0, none⟩) (by simp) (.int .i64 n)).setCell (p := ⟨w.heap.size, 1, none⟩) (by simp) (.slice A1 l1 c1))
  have Q2 := Lib.hid (Q1.put2 (u := .int .i64 n) (v := .slice A1 l1 c1))
  have f := Q1.free 0
  have g := Q1.free 1
  have d0 := Q1.cell 0
  have d1 := Q1.cell 1
  simp at d0 d1
  clear hw hb Q HT HFew HB r0 r1
  generalize us0.take 10 = us at *
  go_wp2_with fail
  generalize (w1.setCell ⟨w.heap.size, 0, none⟩ (.int .i64 n)).setCell ⟨w.heap.size, 1, none⟩ (.slice A1 l1 c1) = W at *
  clear f g d0 d1 Q1
  obtain ⟨r0, r1, -, -⟩ := Q2.out.two
  have hlen := HW.out.1
  cases hr : rightB n us with
  | false =>
    have HR := Lib.hid hr
    have HG := Lib.hid (get_bad n i A1 l1 c1 us)
    clear hr hlen
    refine (plc_no n A1 l1 c1 us _ HR.out HW.out).mono ?_
    rintro e w2 ⟨rfl, hb⟩
    have HW := Lib.hid (HW.out.below hb)
    have Q2 := Lib.hid (Q2.out.keep hb)
    have B := Lib.hid (chain HB1.out hb)
    clear hb r0 r1
    obtain ⟨r0, r1, -, -⟩ := Q2.out.two
    go_wp2_with fail
    refine (first_no n A1 l1 c1 us _ HR.out HW.out).mono ?_
    rintro e w3 ⟨rfl, hb⟩
    have HW := Lib.hid (HW.out.below hb)
    have Q2 := Lib.hid (Q2.out.keep hb)
    have B := Lib.hid (chain B.out hb)
    clear hb r0 r1
    obtain ⟨r0, r1, -, -⟩ := Q2.out.two
    go_wp2_with fail
    refine (count_no n A1 l1 c1 us _ HR.out HW.out).mono ?_
    rintro e w4 ⟨rfl, hb⟩
    have HW := Lib.hid (HW.out.below hb)
    have Q2 := Lib.hid (Q2.out.keep hb)
    have B := Lib.hid (chain B.out hb)
    clear hb r0 r1
    obtain ⟨r0, r1, -, -⟩ := Q2.out.two
    go_wp2_with fail
    refine (HG.out _ HR.out HW.out).mono ?_
    rintro e w5 ⟨rfl, hb⟩
    have HW := Lib.hid (HW.out.below hb)
    have Q2 := Lib.hid (Q2.out.keep hb)
    have B := Lib.hid (chain B.out hb)
    clear hb r0 r1
    obtain ⟨r0, r1, -, -⟩ := Q2.out.two
    go_wp2_with fail
    refine (refRight_any n A1 l1 c1 us _ HW.out).mono ?_
    rintro e w6 ⟨rfl, hb⟩
    rw [HR.out]
    have B := Lib.hid (chain B.out hb)
    clear hb r0 r1
    go_wp2_with fail
    refine (alive1_any _).mono ?_
    rintro e w7 ⟨rfl, hb⟩
    have B := Lib.hid (chain B.out hb)
    clear hb
    go_wp2_with fail
    go_ret
    exact ⟨rfl, B.out⟩
  | true =>
    obtain ⟨N, rfl⟩ := Int.eq_ofNat_of_zero_le ((lmb_iff n).1 (right_lmb hr)).1
    have hl8 := rightB_len8 hr hlen
    have hN : N ≤ 64 * l1 := by
      have := right_len_eq hr
      rw [hlen, Int.toNat_natCast] at this
      unfold nw at this; omega
    have hpl := plc_right N us hr
    rw [hlen] at hpl
    have HPl := Lib.hid hpl
    have HR := Lib.hid hr
    have HG := Lib.hid (get_any N i A1 l1 c1 us)
    have hble := plcN_len us N
    have HLt := Lib.hid (fun x (hx : x ∈ plcN us N) => plcN_lt us N hx)
    clear hr hlen hpl
    have H1 := Lib.hid (plc_yes N A1 l1 c1 us W HR.out HW.out HT1.out)
    rw [HPl.out] at H1
    refine H1.out.mono ?_
    rintro e w2 ⟨v2, rfl, hown, hb⟩
    obtain ⟨A2, c2, rfl, -⟩ := own_form hown
    have HI := Lib.hid (own_plcInts hown (fun x hx => by have := HLt.out x hx; omega))
    have HW := Lib.hid (HW.out.below hb)
    have HT1 := Lib.hid (HT1.out.below hb)
    have Q2 := Lib.hid (Q2.out.keep hb)
    have B := Lib.hid (chain HB1.out hb)
    clear hb r0 r1 hown H1
    obtain ⟨r0, r1, -, -⟩ := Q2.out.two
    go_wp2_with fail
    have H1 := Lib.hid (first_yes N A1 l1 c1 us w2 HR.out HW.out HT1.out)
    rw [HPl.out] at H1
    refine H1.out.mono ?_
    rintro e w3 ⟨rfl, hb⟩
    have HI := Lib.hid (HI.out.below hb)
    have HW := Lib.hid (HW.out.below hb)
    have Q2 := Lib.hid (Q2.out.keep hb)
    have B := Lib.hid (chain B.out hb)
    clear hb r0 r1 H1 HT1
    obtain ⟨r0, r1, -, -⟩ := Q2.out.two
    go_wp2_with fail
    have H1 := Lib.hid (count_yes N A1 l1 c1 us w3 HR.out HW.out)
    rw [HPl.out] at H1
    refine H1.out.mono ?_
    rintro e w4 ⟨rfl, hb⟩
    have HI := Lib.hid (HI.out.below hb)
    have HW := Lib.hid (HW.out.below hb)
    have Q2 := Lib.hid (Q2.out.keep hb)
    have B := Lib.hid (chain B.out hb)
    clear hb r0 r1 H1
    obtain ⟨r0, r1, -, -⟩ := Q2.out.two
    go_wp2_with fail
    refine (HG.out _ HW.out).mono ?_
    rintro e w5 ⟨rfl, hb⟩
    have HI := Lib.hid (HI.out.below hb)
    have HW := Lib.hid (HW.out.below hb)
    have Q2 := Lib.hid (Q2.out.keep hb)
    have B := Lib.hid (chain B.out hb)
    clear hb r0 r1
    obtain ⟨r0, r1, -, -⟩ := Q2.out.two
    go_wp2_with fail
    refine (refRight_any N A1 l1 c1 us _ HW.out).mono ?_
    rintro e w6 ⟨rfl, hb⟩
    rw [HR.out]
    have HI := Lib.hid (HI.out.below hb)
    have HW := Lib.hid (HW.out.below hb)
    have Q2 := Lib.hid (Q2.out.keep hb)
    have B := Lib.hid (chain B.out hb)
    clear hb r0 r1
    obtain ⟨r0, r1, -, -⟩ := Q2.out.two
    go_wp2_with fail
    refine (refPlc_any N A1 l1 c1 us _ hN (by omega) HW.out).mono ?_
    rintro e w7 ⟨v7, rfl, hown, hb⟩
    obtain ⟨A7, c7, rfl, -⟩ := own_form hown
    have HI7 := Lib.hid (own_plcInts hown (fun x hx => by have := HLt.out x hx; omega))
    have HI := Lib.hid (HI.out.below hb)
    have HW := Lib.hid (HW.out.below hb)
    have Q2 := Lib.hid (Q2.out.keep hb)
    have B := Lib.hid (chain B.out hb)
    clear hb r0 r1 hown
    generalize hPe : plcN us N = P at *
    clear hPe
    go_wp2_with fail
    refine (refNumbers_any A2 A7 P.length c2 P.length c7 _ _ _ HI.out HI7.out (by omega) (by omega)).mono ?_
    rintro e w8 ⟨rfl, hb⟩
    rw [show sameZ (plcZ P) (plcZ P) = true from decide_eq_true rfl]
    have HI7 := Lib.hid (HI7.out.below hb)
    have HW := Lib.hid (HW.out.below hb)
    have Q2 := Lib.hid (Q2.out.keep hb)
    have B := Lib.hid (chain B.out hb)
    clear hb
    have tc : (((P.length : Nat) : Int) != ((P.length : Nat) : Int)) = false := by simp
    go_wp2_with fail
    refine (alive1_any _).mono ?_
    rintro e w9 ⟨rfl, hb⟩
    have HI7 := Lib.hid (HI7.out.below hb)
    have HW := Lib.hid (HW.out.below hb)
    have Q2 := Lib.hid (Q2.out.keep hb)
    have B := Lib.hid (chain B.out hb)
    clear hb tc
    obtain ⟨r0, r1, -, -⟩ := Q2.out.two
    have HGV := Lib.hid (show getV N us i = if decide (0 ≤ i) && decide (i < (N : Int)) then ((bitAt us i.toNat : Nat) : Int) else 0 by unfold getV; rw [HR.out]; simp)
    have HGE := Lib.hid (show getE N us i = if decide (0 ≤ i) && decide (i < (N : Int)) then 0 else 3 by unfold getE; rw [HR.out]; simp)
    generalize getV N us i = gv at *
    generalize getE N us i = ge at *
    have hbl := bitAt_le us i.toNat
    clear HG HI
    cases P with
    | nil =>
      have f1 : firstV [] = 0 := rfl
      have f2 : firstE [] = 4 := rfl
      have tl : ((([] : List Nat).length : Nat) : Int) = 0 := rfl
      rw [f1, f2, tl]
      clear f1 f2 tl HI7
      by_cases h1 : i < 0
      · have hg : gv = 0 := by rw [HGV.out, if_neg (by simp; omega)]
        have hE : ge = 3 := by rw [HGE.out, if_neg (by simp; omega)]
        subst hg hE
        clear HGV HGE
        go_wp2
        go_ret
        exact ⟨rfl, B.out⟩
      · by_cases h2 : (N : Int) ≤ i
        · have hg : gv = 0 := by rw [HGV.out, if_neg (by simp; omega)]
          have hE : ge = 3 := by rw [HGE.out, if_neg (by simp; omega)]
          subst hg hE
          clear HGV HGE
          go_wp2
          go_ret
          exact ⟨rfl, B.out⟩
        · obtain ⟨j, rfl⟩ := Int.eq_ofNat_of_zero_le (show 0 ≤ i by omega)
          rw [Int.toNat_natCast] at HGV hbl
          have hg : gv = ((bitAt us j : Nat) : Int) := by rw [HGV.out, if_pos (by simp; omega)]
          have hE : ge = 0 := by rw [HGE.out, if_pos (by simp; omega)]
          subst hg hE
          have HBt := Lib.hid (bit_any N A1 l1 c1 j us _ HW.out (by omega) (by omega))
          have hb2 : bitAt us j ≤ 1 := by omega
          clear HGV HGE hbl
          generalize bitAt us j = bv at *
          have tb : ((bv : Int) == (bv : Int)) = true := by simp
          go_wp2_with fail
          refine HBt.out.mono ?_
          rintro e w10 ⟨rfl, hb⟩
          have B := Lib.hid (chain B.out hb)
          clear hb r0 r1
          go_wp2_with fail
          go_ret
          exact ⟨rfl, B.out⟩
    | cons p P =>
      have f1 : firstV (p :: P) = (p : Int) := rfl
      have f2 : firstE (p :: P) = 0 := rfl
      rw [f1, f2]
      obtain ⟨b7, o7, rfl, -, hc7⟩ := HI7.out.2.2 (by simp)
      have c0 := hc7 0 (by simp)
      have e0 : (plcZ (p :: P)).getD 0 0 = (p : Int) := rfl
      rw [e0, Nat.add_zero] at c0
      have tl : (((((p :: P).length : Nat)) : Int) == 0) = false := by simp; omega
      have tp : ((p : Int) != (p : Int)) = false := by simp
      have tz : (0 : Int) < ((p :: P).length : Nat) := by simp
      clear f1 f2 hc7 HI7 e0
      generalize (p :: P).length = m at *
      by_cases h1 : i < 0
      · have hg : gv = 0 := by rw [HGV.out, if_neg (by simp; omega)]
        have hE : ge = 3 := by rw [HGE.out, if_neg (by simp; omega)]
        subst hg hE
        clear HGV HGE
        go_wp2
        go_ret
        exact ⟨rfl, B.out⟩
      · by_cases h2 : (N : Int) ≤ i
        · have hg : gv = 0 := by rw [HGV.out, if_neg (by simp; omega)]
          have hE : ge = 3 := by rw [HGE.out, if_neg (by simp; omega)]
          subst hg hE
          clear HGV HGE
          go_wp2
          go_ret
          exact ⟨rfl, B.out⟩
        · obtain ⟨j, rfl⟩ := Int.eq_ofNat_of_zero_le (show 0 ≤ i by omega)
          rw [Int.toNat_natCast] at HGV hbl
          have hg : gv = ((bitAt us j : Nat) : Int) := by rw [HGV.out, if_pos (by simp; omega)]
          have hE : ge = 0 := by rw [HGE.out, if_pos (by simp; omega)]
          subst hg hE
          have HBt := Lib.hid (bit_any N A1 l1 c1 j us _ HW.out (by omega) (by omega))
          have hb2 : bitAt us j ≤ 1 := by omega
          clear HGV HGE hbl
          generalize bitAt us j = bv at *
          have tb : ((bv : Int) == (bv : Int)) = true := by simp
          go_wp2_with fail
          refine HBt.out.mono ?_
          rintro e w10 ⟨rfl, hb⟩
          have B := Lib.hid (chain B.out hb)
          clear hb r0 r1
          go_wp2_with fail
          go_ret
          exact ⟨rfl, B.out⟩
end Go.Proofs.YtfeaollpeaphlaaDoor
