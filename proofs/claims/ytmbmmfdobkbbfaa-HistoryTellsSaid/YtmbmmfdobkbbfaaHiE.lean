/- Layer 22: the reference's Spans. -/
import Derived.Test.YtmbmmfdobkbbfaaHiD
namespace Go.Proofs.Ytmbmmfdobkbbfaa
set_option linter.unusedVariables false
set_option linter.unusedSimpArgs false
open Go.RowKit Go.Shelf
set_option maxRecDepth 100000
theorem ixs_down (h : List EvR) (c : Int) (k m : Nat) (hk : k < m) : ixs h c k m = if (evAt h k).c = c then k :: ixs h c (k + 1) m else ixs h c (k + 1) m := by
  obtain ⟨d, rfl⟩ := Nat.le.dest (show k + 1 ≤ m from hk)
  clear hk
  induction d with
  | zero =>
    rw [Nat.add_zero, ixs_start]
    by_cases hc : (evAt h k).c = c
    · rw [ixs_yes h c k k (Nat.le_refl _) hc, ixs_start, if_pos hc]; rfl
    · rw [ixs_no h c k k hc, ixs_start, if_neg hc]
  | succ d ih =>
    rw [← Nat.add_assoc]
    by_cases hc : (evAt h (k + 1 + d)).c = c
    · rw [ixs_yes h c k _ (by omega) hc, ixs_yes h c (k + 1) _ (by omega) hc, ih]
      split <;> simp
    · rw [ixs_no h c k _ hc, ixs_no h c (k + 1) _ hc, ih]
theorem head_down (h : List EvR) (c : Int) (k m : Nat) (hk : k < m) : (ixs h c k m).head? = if (evAt h k).c = c then some k else (ixs h c (k + 1) m).head? := by
  rw [ixs_down h c k m hk]; split <;> rfl
theorem spA_end (h : List EvR) (i k : Nat) (o : Option Nat) : ((((spA (spanAt h i o)).setIfInBounds 13 (.int .i64 (k : Int))).setIfInBounds 9 (.int .i64 (evAt h k).rep.why)).setIfInBounds 10 (.int .i64 (evAt h k).rep.n)).setIfInBounds 11 (.slice (evAt h k).rep.A (evAt h k).rep.l (evAt h k).rep.c) = spA (spanAt h i (some k)) := by cases o <;> rfl
theorem own_empty14 (W : World) (base e : Nat) (hb : base ≤ W.heap.size) : (W.alloc (.cells #[] e)).ownsRow base e 14 (.slice (some ⟨W.heap.size, 0, none⟩) 0 0) 0 [] :=
  ⟨by simp, .inr ⟨W.heap.size, 0, #[], rfl, hb, heap_alloc_new W _, Nat.le_refl _, Nat.zero_le _, by simp, by simp⟩⟩
/-- Spans are returned. -/
def SpansOne (ss : List SpR) (w : World) (e : Ending) (w' : World) : Prop := ∃ A c, e = .returned (.slice A ss.length c) ∧ (∀ b off, A = some ⟨b, off, none⟩ → w.heap.size ≤ b) ∧ Sps w' A ss.length ss ∧ Below w.heap.size w w'
set_option maxHeartbeats 8000000 in
theorem refSpans_any (A : Option Addr) (l cp : Nat) (h : List EvR) (w : World) (hH : Evs w A l h) (hlm : l ≤ 1000000) :
    Calls Try.prog 13 #[.slice A l cp] w (SpansOne (spansL h l) w) := by
  obtain ⟨i0, hi, hz0, hz1, hz2⟩ := info_parts span_info
  have HI := Lib.hid hi
  have HZ0 := Lib.hid hz0
  have HZ1 := Lib.hid hz1
  have HZ2 := Lib.hid hz2
  have HH := Lib.hid hH
  have HLen := Lib.hid hH.len
  have HOw := Lib.hid (own_empty14 w w.heap.size 41 (Nat.le_refl _))
  have HW := Lib.hid (show Below w.heap.size w (w.alloc (.cells #[] 41)) from (Below.refl _ _).alloc (Nat.le_refl _) _)
  clear hH hi hz0 hz1 hz2
  go_enter Try.func13, Try.ntmps13
  go_wp2_with fail
  go_loopw [3, 11] (fun v t wr => ∃ i : Nat, i ≤ l ∧ t = .int .i64 i ∧ wr.ownsRow w.heap.size 41 14 v (spansL h i).length ((spansL h i).flatMap encP) ∧ Below w.heap.size w wr) (fun _ t _ => l - (intOf t).toNat)
  case atStart => exact ⟨0, Nat.zero_le _, rfl, HOw.out, HW.out⟩
  case round =>
    clear HOw HW
    obtain ⟨i, hi, rfl, hown, hbel⟩ := hrel
    have HO := Lib.hid hown
    have HC := Lib.hid hbel
    clear hown hbel
    by_cases hlt : i < l
    · have hlt' : (i : Int) < (l : Int) := Int.ofNat_lt.2 hlt
      have hi5 : (i : Int) < 1000000 := by omega
      have hl5 : (l : Int) ≤ 1000000 := by omega
      obtain ⟨b, off, rfl, hlb, d0, d1, d2, d3, d4, d5, d6, d7, d8, d9, d10, d11, d12⟩ := HH.out.cells HC.out i hlt
      obtain ⟨w5, rfl⟩ : ∃ w5 : World, w5 = wr := ⟨_, rfl⟩
      have HSy := Lib.hid (spansL_yes h i)
      have HSn := Lib.hid (spansL_no h i)
      have hsl := spansL_len h i
      have HZ := Lib.hid (show spanOf h i = spanAt h i (ixs h (evAt h i).c (i + 1) l).head? by unfold spanOf; rw [HLen.out])
      have HS0 := Lib.hid (show spanAt h i none = ⟨(evAt h i).c, (evAt h i).n, (evAt h i).call, default, (i : Int), -1⟩ from rfl)
      have G := Lib.hid (Box.new w5 53 (evA (evAt h i)))
      have c1 := Lib.hid (show Below w5.heap.size w5 (w5.alloc (.cells (evA (evAt h i)) 53)) from (Below.refl _ _).alloc (Nat.le_refl _) _)
      obtain ⟨g0, g1, g2, g3, g4, g5, g6, g7, g8, g9, -⟩ := G.out.ev
      generalize evAt h i = e at *
      by_cases e0 : e.b = 0
      · have t1 : (e.b == 0) = true := by simp [e0]
        have HS := Lib.hid (HSy.out e0)
        clear e0 HSy HSn
        have GE := Lib.hid (G.out.alloc (.cells (spA (spanAt h i none)) 41))
        have q := Box.new (w5.alloc (.cells (evA e) 53)) 41 (spA (spanAt h i none))
        simp only [World.size_alloc] at q
        have GS := Lib.hid q
        have c2 := Lib.hid (c1.out.alloc (by simp) (.cells (spA (spanAt h i none)) 41))
        rw [HS0.out] at GE GS c2
        clear q c1
        go_wp2_with fail
        go_loopw [7] (fun t wr => ∃ k : Nat, i ≤ k ∧ k < l ∧ t = .int .i64 (k : Int) ∧ Hid (Box wr w5.heap.size 53 (evA e)) ∧ Hid (Box wr (w5.heap.size + 1) 41 (spA (spanAt h i (ixs h e.c (k + 1) l).head?))) ∧ Hid (Below w5.heap.size w5 wr)) (fun t _ => (intOf t).toNat)
        case atStart =>
          refine ⟨l - 1, by omega, by omega, congrArg _ (by omega), GE, Lib.hid ?_, c2⟩
          rw [show l - 1 + 1 = l by omega, ixs_start]
          rw [show ([] : List Nat).head? = none from rfl, HS0.out]
          exact GS.out
        case round =>
          clear GE GS c2 G d0 d1 d2 d3 d4 d5 d6 d7 d8 d9 d10 d11 d12 g0 g1 g2 g3 g4 g5 g6 g7 g8 g9
          obtain ⟨k, hik, hkl, rfl, GE, GS, HK⟩ := hrel
          have hkl' : (k : Int) < (l : Int) := Int.ofNat_lt.2 hkl
          have hk0 : (0 : Int) ≤ (k : Int) := Int.natCast_nonneg _
          have hgn : w5.heap.size ≠ w5.heap.size + 1 := by omega
          obtain ⟨g0, -⟩ := GE.out.ev
          by_cases hgt : i < k
          · have hgt' : (i : Int) < (k : Int) := Int.ofNat_lt.2 hgt
            have hk5 : (k : Int) < 1000000 := by omega
            have hk6 : (0 : Int) < (k : Int) := by omega
            obtain ⟨b2, off2, he, hlb2, k0, -, -, -, -, -, -, -, -, -, k10, k11, k12⟩ := HH.out.cells (HC.out.trans (HK.out.mono HC.out.size)) k hkl
            injection he with he
            injection he with he1 he2
            subst he1 he2
            have HDn := Lib.hid (head_down h e.c k l hkl)
            have HK1 := Lib.hid (show k - 1 + 1 = k by omega)
            have HKI := Lib.hid (show ((k : Int) - 1) = ((k - 1 : Nat) : Int) by omega)
            by_cases hc : (evAt h k).c = e.c
            · have tc : ((evAt h k).c == e.c) = true := beq_iff_eq.2 hc
              have HE := Lib.hid (show (ixs h e.c k l).head? = some k by rw [HDn.out, if_pos hc])
              have HP := Lib.hid (spA_end h i k (ixs h e.c (k + 1) l).head?)
              have HBx := Lib.hid (show Box wr (w5.heap.size + 1) 41 (spA (spanAt h i (ixs h e.c (k + 1) l).head?)) from GS.out)
              obtain ⟨p0, p1, p2, p3, p4, p5, p6, p7, p8, p9, p10, p11, p12, p13⟩ := GS.out.sp
              have v9 := GS.out.free 9
              have v10 := GS.out.free 10
              have v11 := GS.out.free 11
              have v13 := GS.out.free 13
              rw [← HE.out] at HP
              clear HDn HE GS  hc
              generalize spanAt h i (ixs h e.c (k + 1) l).head? = s0 at *
              generalize evAt h k = ek at *
              go_upto_region 10 with (fail)
              go_quiet (fail)
              go_wp2_with fail
              go_roundw
              case rel =>
                refine ⟨k - 1, by omega, by omega, by rw [← HKI.out], Lib.hid (((((Box.drewN GE.out _).far hgn _).far hgn _).far hgn _).far hgn _), Lib.hid ?_, Lib.hid (((((bdN HK.out _).setCell (Nat.le_succ _) _).setCell (Nat.le_succ _) _).setCell (Nat.le_succ _) _).setCell (Nat.le_succ _) _)⟩
                rw [HK1.out, ← HP.out]
                exact ((((Box.drewN HBx.out _).put 13 _).put 9 _).put 10 _).put 11 _
              case measure => simp [intOf] <;> omega
            · have tc : ((evAt h k).c == e.c) = false := beq_eq_false_iff_ne.2 hc
              have HE := Lib.hid (show (ixs h e.c k l).head? = (ixs h e.c (k + 1) l).head? by rw [HDn.out, if_neg hc])
              clear HDn hc k10 k11 k12
              generalize evAt h k = ek at *
              go_upto_region 10 with (fail)
              go_quiet (fail)
              go_wp2_with fail
              go_roundw
              case rel =>
                refine ⟨k - 1, by omega, by omega, by rw [← HKI.out], Lib.hid (Box.drewN GE.out _), Lib.hid ?_, Lib.hid (bdN HK.out _)⟩
                rw [HK1.out, HE.out]
                exact Box.drewN GS.out _
              case measure => simp [intOf] <;> omega
          · obtain rfl : k = i := by omega
            have hgt' : ¬ (k : Int) < (k : Int) := Int.lt_irrefl _
            rw [← HZ.out] at GS
            generalize spanOf h k = s at *
            obtain ⟨x2, rfl⟩ : ∃ x2 : World, x2 = wr := ⟨_, rfl⟩
            obtain ⟨p0, p1, p2, p3, p4, p5, p6, p7, p8, p9, p10, p11, p12, p13⟩ := GS.out.sp
            have YO := Lib.hid (own_keep HO.out HK.out)
            have YB := Lib.hid (HC.out.trans (HK.out.mono HC.out.size))
            have c2 := Lib.hid (show Below x2.heap.size x2 (x2.alloc (.cells (spA s) 41)) from (Below.refl _ _).alloc (Nat.le_refl _) _)
            have ZO := Lib.hid (own_keep YO.out c2.out)
            have ZB := Lib.hid (YB.out.trans (c2.out.mono YB.out.size))
            have N2 := Lib.hid (fun g hg => (ZO.out.lt g hg).1)
            have NW := Lib.hid (World.news_of_block (Box.new x2 41 (spA s)))
            clear YO c2 HO GE GS HK HC hik hkl g0
            go_wp2_with (at_builtin; refine wpList_append_own _ rfl _ _ 24 rfl w.heap.size 41 i0 _ 14 136 Try.underlying24 HI.out HZ0.out HZ1.out HZ2.out rfl (by decide) _ _ _ rfl ZO.out ⟨x2.heap.size, 0, none⟩ 1 1 (encP s) rfl rfl NW.out (encP_one s) (by simp [maxLen]; omega) (by omega) ZB.out.size ?_; intro v' w2 hown' hgrow _; have HC2 := Lib.hid (ZB.out.grown hgrow ZB.out.size N2.out); have HO2 := Lib.hid hown'; clear hown' hgrow)
            go_roundw
            case rel =>
              refine ⟨k + 1, hlt, by go_num, ?_, HC2.out⟩
              rw [HS.out, List.length_append, List.flatMap_append]
              simpa using HO2.out
            case measure => simp [intOf] <;> omega
      · have t1 : (e.b == 0) = false := by simp [e0]
        have HS := Lib.hid (HSn.out e0)
        have XO := Lib.hid (own_keep HO.out c1.out)
        have XB := Lib.hid (HC.out.trans (c1.out.mono HC.out.size))
        clear e0 HSy HSn G
        go_wp2_with fail
        go_roundw
        case rel => exact ⟨i + 1, hlt, by go_num, by rw [HS.out]; exact XO.out, XB.out⟩
        case measure => simp [intOf] <;> omega
    · obtain rfl : l = i := by omega
      have hlt' : ¬ (l : Int) < (l : Int) := Int.lt_irrefl _
      obtain ⟨A7, c7, hv, hnil⟩ := own_form HO.out
      subst hv
      have HX := Lib.hid (own_recs encP_len HO.out (by decide))
      go_wp2_with fail
      go_ret
      exact ⟨A7, c7, rfl, fun b off e => (HO.out.lt b (by rw [e]; rfl)).1, ⟨HX.out, fun j => spansL_rep (HH.out.below HC.out) l j⟩, HC.out⟩
end Go.Proofs.Ytmbmmfdobkbbfaa
