/- Parts: BvX, Open, OpenT. -/
import Derived.Test.YtdfmogcgangdnaaZk
import Derived.Deep.Cut
import Derived.Deep.DeepCutAuto
import Derived.Deep.RegionLaw
import Derived.Lib.SmallJoins
import Derived.OpenShut
import Derived.ProofKit
import Derived.SliceStrings
namespace Go.Proofs.Ytdfmogcgangdnaa
section
/- BacksubSolves: the walk. -/
set_option linter.unusedVariables false
set_option linter.unusedSimpArgs false
open Go.RowKit
set_option maxRecDepth 100000
theorem Texts.take {w : World} {A : Option Addr} {l : Nat} {ss : List ByteArray} (h : Texts w A l ss) (k : Nat) (hk : k ≤ l) : Texts w A k (ss.take k) := by
  refine ⟨by rw [List.length_take, h.1]; omega, fun j => ?_, fun hp => ?_⟩
  · by_cases hj : j < k
    · have : (ss.take k).getD j ByteArray.empty = ss.getD j ByteArray.empty := by simp [List.getD, List.getElem?_take, hj]
      rw [this]; exact h.2.1 j
    · have : (ss.take k)[j]? = none := List.getElem?_eq_none (by rw [List.length_take, h.1]; omega)
      simp only [List.getD, this, Option.getD_none]; unfold maxLen; decide
  · obtain ⟨b, o, hA, hlt, hc⟩ := h.2.2 (by omega)
    refine ⟨b, o, hA, hlt, fun j hj => ?_⟩
    have : (ss.take k).getD j ByteArray.empty = ss.getD j ByteArray.empty := by simp [List.getD, List.getElem?_take, hj]
    rw [this]; exact hc j (by omega)
theorem texts_put1 {w : World} {A : Option Addr} {l : Nat} {ss : List ByteArray} (h : Texts w A l ss) {B : Nat} {t : TypeId} {cs : Array Value} (hb : Box w B t cs) (hne : ∀ b o, A = some ⟨b, o, none⟩ → 0 < l → b ≠ B) (v : Value) : Texts (w.setCell ⟨B, 1, none⟩ v) A l ss := by
  refine ⟨h.1, h.2.1, fun hp => ?_⟩
  obtain ⟨b, o, hA, hlt, hc⟩ := h.2.2 hp
  have hn := hne b o hA hp
  refine ⟨b, o, hA, by simpa [World.setCell] using hlt, fun j hj => ?_⟩
  rw [World.cell?_setCell_other _ _ _ _ (by intro e; injection e; omega)]
  exact hc j hj
/-- What the statement may want of the cut equations. -/
def CutEq (W wx : World) (N : Int) (v : Value) : Prop :=
  ∃ (A S : Option Addr) (c d : Nat) (ms : List (Int × List Nat)) (ss : List ByteArray), v = .slice S ss.length d ∧ Box wx W.heap.size 24 #[.int .i64 N, .slice A ms.length c] ∧ SliceOk A ms.length c ∧ SliceOk S ss.length d ∧ MatAt wx 0 A ms.length ms ∧ Texts wx S ss.length ss ∧ ms.length ≤ 66 ∧ ss.length ≤ 66 ∧ Below W.heap.size W wx
set_option maxHeartbeats 8000000 in
theorem solves_walk (N : Int) (A : Option Addr) (l c : Nat) (ms : List (Int × List Nat)) (n : Int) (S : Option Addr) (k d : Nat) (ss : List ByteArray) (W : World) (s0 : SliceOk A l c) (h0 : MatAt W 0 A l ms) (hn1 : -9223372036854775808 ≤ n) (hn2 : n ≤ 9223372036854775807) (s1 : SliceOk S k d) (h1 : Texts W S k ss) :
    Calls Try.prog 6 #[.agg #[.int .i64 N, .slice A l c], .int .i64 n, .slice S k d] W fun e w' => e = .returned (.bool true) ∧ Below W.heap.size W w' := by
  have b1 : Below W.heap.size W (W.alloc (.cells #[.int .i64 N, .slice A l c] 24)) := (Below.refl _ _).alloc (Nat.le_refl _) _
  have Q := Lib.hid (Box.new W 24 #[.int .i64 N, .slice A l c])
  have HB := Lib.hid b1
  have HF := Lib.hid (few5_any N A S l c k d ms ss _ s0 (h0.below b1) s1 (h1.below b1))
  have hl66 : (fewM ms).length ≤ 66 := by have := fewM_len ms; omega
  have ht66 : (fewT ss (min k 66)).length ≤ 66 := by rw [fewT_len ss _ (by rw [h1.1]; omega)]; omega
  generalize fewM ms = fs at *
  generalize fewT ss (min k 66) = ts at *
  obtain ⟨r0, r1, f0, f1⟩ := Q.out.two
  clear b1 h0 s0 h1 s1
  go_enter Try.func6, Try.ntmps6
  go_wp2_with fail
  refine HF.out.mono ?_
  rintro e x1 ⟨A1, S1, c1, d1, rfl, q1, q2, hm, ht, hlo, hb⟩
  have Q1 := Lib.hid (Q.out.keep hb)
  have HB1 := Lib.hid (chain HB.out hb)
  have P1 := Lib.hid (Q1.out.put2 (u := .int .i64 N) (v := .slice A1 fs.length c1))
  have M1 := Lib.hid (hm.put2 (y := N) Q1.out (by simp) (.slice A1 fs.length c1))
  have T1 := Lib.hid (texts_put ht Q1.out (fun b o hA h0 => by have := hlo b o hA h0; simp at this; omega) (.int .i64 N) (.slice A1 fs.length c1))
  have B1 := Lib.hid ((HB1.out.setCell (p := ⟨W.heap.size, 0, none⟩) (Nat.le_refl _) (.int .i64 N)).setCell (p := ⟨W.heap.size, 1, none⟩) (Nat.le_refl _) (.slice A1 fs.length c1))
  have HLoT := Lib.hid (show ∀ b o, S1 = some ⟨b, o, none⟩ → 0 < ts.length → b ≠ W.heap.size from fun b o hA h0 => by have := hlo b o hA h0; simp at this; omega)
  have SL1 := Lib.hid q1
  have SL2 := Lib.hid q2
  obtain ⟨r0', r1', f0', f1'⟩ := Q1.out.two
  clear r0 r1 f0 f1 hb HF Q HB hm ht hlo q1 q2
  go_upto_region 2 with (fail)
  generalize hX2 : (x1.setCell ⟨W.heap.size, 0, none⟩ (.int .i64 N)).setCell ⟨W.heap.size, 1, none⟩ (.slice A1 fs.length c1) = x2 at *
  clear hX2 Q1 HB1 r0' r1' f0' f1' x1
  obtain ⟨r0, r1, f0, f1⟩ := P1.out.two
  go_cut [33] (fun v wx => v = .bool (decide (14 < fs.length ∧ 6 < n ∧ n ≤ 64)) ∧ wx = x2)
  case first =>
    by_cases ha : 14 < fs.length
    · have ha' : (14 : Int) < (fs.length : Int) := by omega
      by_cases hb : 6 < n
      · by_cases hc : n ≤ 64
        · go_wp2_with fail
          go_meet
          exact ⟨congrArg Value.bool (decide_eq_true (by omega)).symm, rfl⟩
        · go_wp2_with fail
          go_meet
          exact ⟨congrArg Value.bool (decide_eq_false (by omega)).symm, rfl⟩
      · go_wp2_with fail
        go_meet
        exact ⟨congrArg Value.bool (decide_eq_false (by omega)).symm, rfl⟩
    · have ha' : ¬ (14 : Int) < (fs.length : Int) := by omega
      go_wp2_with fail
      go_meet
      exact ⟨congrArg Value.bool (decide_eq_false (by omega)).symm, rfl⟩
  case rest =>
    obtain ⟨rfl, rfl⟩ := hcut
    obtain ⟨bg, hbg⟩ : ∃ b : Bool, b = decide (14 < fs.length ∧ 6 < n ∧ n ≤ 64) := ⟨_, rfl⟩
    rw [← hbg]
    have HBg := Lib.hid hbg
    clear hbg
    go_upto_if 33 with (fail)
    go_cut [2] (fun v wx => CutEq W wx N v)
    case first =>
      cases bg with
      | false =>
        go_wp2_with fail
        go_meet
        exact ⟨A1, S1, c1, d1, fs, ts, rfl, P1.out, SL1.out, SL2.out, M1.out.low (Nat.zero_le _), T1.out, hl66, ht66, B1.out⟩
      | true =>
        have hbig := of_decide_eq_true HBg.out.symm
        have h14 : (14 : Int) ≤ (fs.length : Int) := by omega
        have h14c : (14 : Int) ≤ (c1 : Int) := by have := SL1.out.1; omega
        obtain ⟨tt, htt⟩ : ∃ t : Nat, t = min ts.length 14 := ⟨_, rfl⟩
        have ht1 : tt ≤ ts.length := by omega
        have ht2 : tt ≤ d1 := by have := SL2.out.1; omega
        have mtt : (if (14 : Int) < (ts.length : Int) then 14 else (ts.length : Int)) = (tt : Int) := by split <;> omega
        have hd1 := SL2.out.2.1
        have hc1 := SL1.out.2.1
        unfold maxLen at hd1 hc1
        clear htt
        go_wp2_with fail
        go_region
        all_goals
          have hl14 : (fs.take 14).length = 14 := by rw [List.length_take]; omega
          have htl : (ts.take tt).length = tt := by rw [List.length_take]; omega
          go_wp2_with fail
          go_meet
          refine ⟨A1, S1, c1, d1, fs.take 14, ts.take tt, by rw [htl], ?_, ?_, ?_, ?_, ?_, by omega, by omega, ?_⟩
          · rw [hl14]; exact P1.out.put 1 (.slice A1 14 c1)
          · rw [hl14]; exact ⟨by omega, SL1.out.2.1, fun h => by have := SL1.out.2.2 h; omega⟩
          · rw [htl]; exact ⟨by omega, SL2.out.2.1, fun h => by have := SL2.out.2.2 h; omega⟩
          · rw [hl14]; exact ((M1.out.take 14 (by omega)).far P1.out (by simp) 1 (.slice A1 14 c1)).low (Nat.zero_le _)
          · rw [htl]; exact texts_put1 (T1.out.take tt (by omega)) P1.out (fun b o hA h0 => HLoT.out b o hA (by omega)) (.slice A1 14 c1)
          · exact (B1.out.setCell (p := ⟨W.heap.size, 1, none⟩) (Nat.le_refl _) (.slice A1 14 c1)).drew
    case rest =>
      obtain ⟨A2, S2, c2, d2, ms2, ss2, rfl, hQ, hs1, hs2, hm2, ht2, h66, h66t, hB⟩ := hcut
      have Q2 := Lib.hid hQ
      have HM2 := Lib.hid hm2
      have HT2 := Lib.hid ht2
      have HB2 := Lib.hid hB
      have HS1 := Lib.hid hs1
      have HS2 := Lib.hid hs2
      have hc2 := hs1.2.1
      have hd2 := hs2.2.1
      have hcl := hs1.1
      have hdl := hs2.1
      unfold maxLen at hc2 hd2
      have hlm : ms2.length ≤ maxLen := by unfold maxLen; omega
      have hlt : ss2.length ≤ maxLen := by unfold maxLen; omega
      have HLm := Lib.hid hlm
      have HLt := Lib.hid hlt
      clear hQ hm2 ht2 hB hs1 hs2 hlm hlt P1 M1 T1 B1 SL1 SL2 HLoT r0 r1 f0 f1 HBg
      obtain ⟨r0, r1, f0, f1⟩ := Q2.out.two
      by_cases hE : bkE N ms2 n ss2 = 0
      · have hr : rightM N ms2 = true := by
          cases h : rightM N ms2 with
          | true => rfl
          | false => rw [bkE, h] at hE; simp at hE
        have hok : okS n ss2 = true ∧ ss2.length = ms2.length := by
          rw [bkE, hr] at hE
          simp only [if_true] at hE
          split at hE
          · rename_i h; simpa using h
          · cases hE
        obtain ⟨ho, hlen⟩ := hok
        have ho' := ho
        simp only [okS, Bool.and_eq_true, decide_eq_true_eq] at ho'
        obtain ⟨nn, rfl⟩ := Int.eq_ofNat_of_zero_le ((smb_iff n).1 ho'.1.1).1
        have hn64 : nn ≤ 64 := by have := ((smb_iff nn).1 ho'.1.1).2; omega
        obtain ⟨N', X, rfl, hN64, hX64, hms, hXl⟩ := mat_num hr (fun i j => HM2.out.lt i j)
        have hXm : X.length = ms2.length := by rw [hms, mkM_len]
        have HIn := Lib.hid (show BkIn wc N' nn X ss2 A2 S2 ms2.length c2 d2 from ⟨hN64, hn64, hXl, hXm, by omega, fun s hs => by
          have := List.all_eq_true.1 ho'.1.2 s hs
          simp only [beq_iff_eq] at this
          omega, HS1.out, by rw [← hms]; exact HM2.out, by rw [← hms]; exact hr, by rw [← hlen]; exact HT2.out, by omega, by unfold maxLen; omega⟩)
        have HRg := Lib.hid (fun w (hb : Below wc.heap.size wc w) => refRightM_any N' A2 ms2.length c2 0 ms2 w (HM2.out.below hb) HLm.out)
        rw [hr] at HRg
        have HWy := Lib.hid (fun w (hb : Below wc.heap.size wc w) => why5_any N' nn A2 S2 ms2.length c2 ss2.length d2 ss2 w HLm.out (HT2.out.below hb) HLt.out)
        rw [show w5E nn ss2 ms2.length = 0 by rw [w5E, ho, hlen]; simp, hlen] at HWy
        rw [hlen]
        have hmm : ms2.length ≤ 64 := by omega
        generalize ms2.length = mm at *
        obtain ⟨Z, hZ⟩ : ∃ Z, Z = zs N' X ss2 := ⟨_, rfl⟩
        have HSv := Lib.hid (fun w (hb : Below wc.heap.size wc w) => solve_yes w (HIn.out.below hb))
        have HKn := Lib.hid (fun w (hb : Below wc.heap.size wc w) => known_yes w (HIn.out.below hb))
        have HFi := Lib.hid (fun w (hb : Below wc.heap.size wc w) => fits_yes w (HIn.out.below hb))
        have HRf := Lib.hid (fun w (hb : Below wc.heap.size wc w) => refFits_any w (HIn.out.below hb))
        have HRk := Lib.hid (fun (hf : FitsP N' Z) w (hb : Below wc.heap.size wc w) => refKnown_any w (HIn.out.below hb) (hZ ▸ hf))
        rw [← hZ] at HSv HKn HFi HRf HRk
        clear hZ hE hr ho ho' hlen hms hXl hXm hX64 HM2 HT2 HS1 HS2 HLm HLt h66 h66t hcl hdl
        go_wp2_with fail
        refine (HSv.out _ (Below.refl _ _)).mono ?_
        rintro e x3 ⟨E1, blks1, B1, e1, rfl, ht1, hl1, hk1, hq1, hres1, hb⟩
        have Q3 := Lib.hid (Q2.out.keep hb)
        have C3 := Lib.hid (hb)
        have T1 := Lib.hid ht1
        have HR1 := Lib.hid hres1
        clear ht1 hres1 HSv
        clear hb r0 r1 f0 f1
        obtain ⟨r0, r1, f0, f1⟩ := Q3.out.two
        go_wp2_with fail
        refine (HKn.out _ C3.out).mono ?_
        rintro e x4 ⟨E2, cols2, blks2, B2, B3, e2, e3, rfl, hi2, ht2, hl2, hl3, hk3, hq3, hres2, hb⟩
        have Q4 := Lib.hid (Q3.out.keep hb)
        have C4 := Lib.hid (chain C3.out hb)
        have I2 := Lib.hid hi2
        have T2 := Lib.hid ht2
        have HR2 := Lib.hid hres2
        have T1 := Lib.hid (T1.out.below hb)
        clear hi2 ht2 hres2 HKn
        clear hb r0 r1 f0 f1
        obtain ⟨r0, r1, f0, f1⟩ := Q4.out.two
        go_wp2_with fail
        refine (HFi.out _ C4.out).mono ?_
        rintro e x5 ⟨b3, hb3, rfl, hb⟩
        have Q5 := Lib.hid (Q4.out.keep hb)
        have C5 := Lib.hid (chain C4.out hb)
        have T1 := Lib.hid (T1.out.below hb)
        have I2 := Lib.hid (I2.out.below hb)
        have T2 := Lib.hid (T2.out.below hb)
        clear HFi
        clear hb r0 r1 f0 f1
        obtain ⟨r0, r1, f0, f1⟩ := Q5.out.two
        unfold maxLen at hq1 hq3
        by_cases hf : FitsP N' Z
        · obtain rfl : b3 = true := hb3.2 hf
          have hk2 : E2 = 0 ∧ KnownP N' nn X Z cols2 blks2 := by
            rcases HR2.out with ⟨h1, -, h3⟩ | ⟨-, h, -⟩
            · exact ⟨h1, h3⟩
            · exact absurd hf h
          obtain ⟨rfl, hk2⟩ := hk2
          have HK2 := Lib.hid hk2
          have HFf := Lib.hid hf
          have hs1 : (E1 = 9 ∧ blks1 = [] ∧ cols2.length < N') ∨ (E1 = 0 ∧ blks1 = blks2 ∧ ¬ cols2.length < N') := by
            rcases HR1.out with ⟨-, h, -⟩ | ⟨h1, -, h2, cols, bl, h3, h4⟩ | ⟨h1, -, cols, h3, h4⟩
            · exact absurd hf h
            · rw [(known_uniq hf h3 hk2).1] at h4; exact .inl ⟨h1, h2, h4⟩
            · have e := known_uniq hf h3 hk2
              rw [e.1] at h4; exact .inr ⟨h1, e.2, h4⟩
          have HS1 := Lib.hid hs1
          clear hs1 hk2 hf hb3 HR1 HR2
          go_wp2_with fail
          refine (HRg.out _ C5.out).mono ?_
          rintro e x6 ⟨rfl, hb⟩
          have Q6 := Lib.hid (Q5.out.keep hb)
          have C6 := Lib.hid (chain C5.out hb)
          clear HRg
          have T1 := Lib.hid (T1.out.below hb)
          have I2 := Lib.hid (I2.out.below hb)
          have T2 := Lib.hid (T2.out.below hb)
          clear hb r0 r1 f0 f1
          obtain ⟨r0, r1, f0, f1⟩ := Q6.out.two
          go_wp2_with fail
          refine (HWy.out _ C6.out).mono ?_
          rintro e x7 ⟨rfl, hb⟩
          have Q7 := Lib.hid (Q6.out.keep hb)
          have C7 := Lib.hid (chain C6.out hb)
          clear HWy
          have T1 := Lib.hid (T1.out.below hb)
          have I2 := Lib.hid (I2.out.below hb)
          have T2 := Lib.hid (T2.out.below hb)
          clear hb r0 r1 f0 f1
          obtain ⟨r0, r1, f0, f1⟩ := Q7.out.two
          go_wp2_with fail
          refine (HRf.out _ C7.out).mono ?_
          rintro e x8 ⟨b4, hb4, rfl, hb⟩
          have Q8 := Lib.hid (Q7.out.keep hb)
          have C8 := Lib.hid (chain C7.out hb)
          have T1 := Lib.hid (T1.out.below hb)
          have I2 := Lib.hid (I2.out.below hb)
          have T2 := Lib.hid (T2.out.below hb)
          clear hb r0 r1 f0 f1
          obtain ⟨r0, r1, f0, f1⟩ := Q8.out.two
          obtain rfl : b4 = true := hb4.2 HFf.out
          clear hb4
          go_wp2_with fail
          refine (alive5_any _).mono ?_
          rintro e x9 ⟨rfl, hb⟩
          have Q9 := Lib.hid (Q8.out.keep hb)
          have C9 := Lib.hid (chain C8.out hb)
          have T1 := Lib.hid (T1.out.below hb)
          have I2 := Lib.hid (I2.out.below hb)
          have T2 := Lib.hid (T2.out.below hb)
          clear hb r0 r1 f0 f1
          obtain ⟨r0, r1, f0, f1⟩ := Q9.out.two
          go_wp2_with fail
          refine (HRk.out HFf.out _ C9.out).mono ?_
          rintro e x10 ⟨cols9, blks9, D1, D2, g1, g2, rfl, hi9, ht9, hk9, hl9, hb⟩
          have Q10 := Lib.hid (Q9.out.keep hb)
          have C10 := Lib.hid (chain C9.out hb)
          have T1 := Lib.hid (T1.out.below hb)
          have I2 := Lib.hid (I2.out.below hb)
          have T2 := Lib.hid (T2.out.below hb)
          have eqs := known_uniq HFf.out HK2.out hk9
          obtain ⟨ec, eb⟩ := eqs
          subst ec eb
          clear hb r0 r1 f0 f1
          obtain ⟨r0, r1, f0, f1⟩ := Q10.out.two
          have I9 := Lib.hid hi9
          have T9 := Lib.hid ht9
          have al : Below x10.heap.size x10 (x10.alloc (.cells #[.slice D1 cols2.length g1, .slice D2 blks2.length g2] 59)) := (Below.refl _ _).alloc (Nat.le_refl _) _
          have KB := Lib.hid (Box.new x10 59 #[.slice D1 cols2.length g1, .slice D2 blks2.length g2])
          have I2 := Lib.hid (I2.out.below al)
          have T2 := Lib.hid (T2.out.below al)
          have T1 := Lib.hid (T1.out.below al)
          have I9 := Lib.hid (I9.out.below al)
          have T9 := Lib.hid (T9.out.below al)
          have Q11 := Lib.hid (Q10.out.keep al)
          have C11 := Lib.hid (chain C10.out al)
          have HNu := refNumbers_any B2 D1 cols2.length e2 cols2.length g1 _ _ _ I2.out I9.out (by omega) (by omega)
          rw [show sameZ (cols2.map fun x : Nat => (x : Int)) (cols2.map fun x : Nat => (x : Int)) = true by simp [sameZ]] at HNu
          have HNu := Lib.hid HNu
          clear hi9 ht9 hk9 al r0 r1 f0 f1
          obtain ⟨r0, r1, f0, f1⟩ := Q11.out.two
          obtain ⟨k0, k1, kf0, kf1⟩ := KB.out.two
          go_wp2_with fail
          refine HNu.out.mono ?_
          rintro e x12 ⟨rfl, hb⟩
          have T1 := Lib.hid (T1.out.below hb)
          have T2 := Lib.hid (T2.out.below hb)
          have T9 := Lib.hid (T9.out.below hb)
          have KB := Lib.hid (KB.out.keep hb)
          have Q12 := Lib.hid (Q11.out.keep hb)
          have C12 := Lib.hid (chain C11.out hb)
          have HTs := Lib.hid (refTexts_same B3 D2 blks2.length e3 g2 blks2 _ T2.out T9.out (by omega))
          clear hb r0 r1 f0 f1 k0 k1 kf0 kf1 HNu
          obtain ⟨r0, r1, f0, f1⟩ := Q12.out.two
          obtain ⟨k0, k1, kf0, kf1⟩ := KB.out.two
          go_wp2_with fail
          refine HTs.out.mono ?_
          rintro e x13 ⟨rfl, hb⟩
          have T1 := Lib.hid (T1.out.below hb)
          have T9 := Lib.hid (T9.out.below hb)
          have KB := Lib.hid (KB.out.keep hb)
          have Q13 := Lib.hid (Q12.out.keep hb)
          have C13 := Lib.hid (chain C12.out hb)
          clear hb r0 r1 f0 f1 k0 k1 kf0 kf1 HTs
          obtain ⟨r0, r1, f0, f1⟩ := Q13.out.two
          obtain ⟨k0, k1, kf0, kf1⟩ := KB.out.two
          rcases HS1.out with ⟨rfl, rfl, hlt⟩ | ⟨rfl, hbe, hlt⟩
          · have hlt' : (cols2.length : Int) < (N' : Int) := by omega
            have HBf := Lib.hid (chainN HB2.out HB2.out.size C13.out)
            go_wp2_with fail
            go_ret
            exact ⟨by simp, HBf.out⟩
          · have hlt' : ¬ (cols2.length : Int) < (N' : Int) := by omega
            have T1e : Texts x13 B1 blks2.length blks2 := by have := T1.out; rw [hbe] at this; exact this
            have HTs := Lib.hid (refTexts_same B1 D2 blks2.length e1 g2 blks2 x13 T1e T9.out (by omega))
            rw [hbe]
            clear hbe T1e
            go_wp2_with fail
            refine HTs.out.mono ?_
            rintro e x14 ⟨rfl, hb⟩
            have HBf := Lib.hid (chainN HB2.out HB2.out.size (chain C13.out hb))
            clear hb
            go_wp2_with fail
            go_ret
            exact ⟨by simp, HBf.out⟩
        · have hb3' : b3 = false := by
            cases b3 with
            | false => rfl
            | true => exact absurd (hb3.1 rfl) hf
          subst hb3'
          obtain ⟨rfl, rfl, rfl⟩ : E2 = 10 ∧ cols2 = [] ∧ blks2 = [] := by
            rcases HR2.out with ⟨-, h, -⟩ | ⟨h1, -, h2, h3⟩
            · exact absurd h hf
            · exact ⟨h1, h2, h3⟩
          obtain ⟨rfl, rfl⟩ : E1 = 10 ∧ blks1 = [] := by
            rcases HR1.out with ⟨h1, -, h2⟩ | ⟨-, h, -⟩ | ⟨-, h, -⟩
            · exact ⟨h1, h2⟩
            · exact absurd h hf
            · exact absurd h hf
          have HNf := Lib.hid hf
          clear hf hb3 HR1 HR2 T1 T2 I2
          go_wp2_with fail
          refine (HRg.out _ C5.out).mono ?_
          rintro e x6 ⟨rfl, hb⟩
          have Q6 := Lib.hid (Q5.out.keep hb)
          have C6 := Lib.hid (chain C5.out hb)
          clear HRg
          clear hb r0 r1 f0 f1
          obtain ⟨r0, r1, f0, f1⟩ := Q6.out.two
          go_wp2_with fail
          refine (HWy.out _ C6.out).mono ?_
          rintro e x7 ⟨rfl, hb⟩
          have Q7 := Lib.hid (Q6.out.keep hb)
          have C7 := Lib.hid (chain C6.out hb)
          clear HWy
          clear hb r0 r1 f0 f1
          obtain ⟨r0, r1, f0, f1⟩ := Q7.out.two
          go_wp2_with fail
          refine (HRf.out _ C7.out).mono ?_
          rintro e x8 ⟨b4, hb4, rfl, hb⟩
          have Q8 := Lib.hid (Q7.out.keep hb)
          have C8 := Lib.hid (chain C7.out hb)
          clear hb r0 r1 f0 f1
          obtain ⟨r0, r1, f0, f1⟩ := Q8.out.two
          have hb4' : b4 = false := by
            cases b4 with
            | false => rfl
            | true => exact absurd (hb4.1 rfl) HNf.out
          subst hb4'
          clear hb4
          go_wp2_with fail
          refine (alive5_any _).mono ?_
          rintro e x9 ⟨rfl, hb⟩
          have HBf := Lib.hid (chainN HB2.out HB2.out.size (chain C8.out hb))
          clear hb
          go_wp2_with fail
          go_ret
          exact ⟨by simp, HBf.out⟩
      · have HE := Lib.hid hE
        have HSv := Lib.hid (fun w (hb : Below wc.heap.size wc w) => solve_no N n A2 S2 ms2.length c2 0 ss2.length d2 ms2 ss2 w (HM2.out.below hb) HLm.out (HT2.out.below hb) hdl (by unfold maxLen; omega) HE.out)
        have HKn := Lib.hid (fun w (hb : Below wc.heap.size wc w) => known_no N n A2 S2 ms2.length c2 0 ss2.length d2 ms2 ss2 w (HM2.out.below hb) HLm.out (HT2.out.below hb) hdl (by unfold maxLen; omega) HE.out)
        have HFi := Lib.hid (fun w (hb : Below wc.heap.size wc w) => fits_no N n A2 S2 ms2.length c2 0 ss2.length d2 ms2 ss2 w (HM2.out.below hb) HLm.out (HT2.out.below hb) hdl (by unfold maxLen; omega) HE.out)
        have HRg := Lib.hid (fun w (hb : Below wc.heap.size wc w) => refRightM_any N A2 ms2.length c2 0 ms2 w (HM2.out.below hb) HLm.out)
        have HWy := Lib.hid (fun w (hb : Below wc.heap.size wc w) => why5_any N n A2 S2 ms2.length c2 ss2.length d2 ss2 w HLm.out (HT2.out.below hb) HLt.out)
        obtain ⟨E, hEe⟩ : ∃ E, E = bkE N ms2 n ss2 := ⟨_, rfl⟩
        have HEc := Lib.hid (show (rightM N ms2 = true → w5E n ss2 ms2.length = E) ∧ (rightM N ms2 = false → E = 1) by rw [hEe, bkE, w5E]; constructor <;> intro h <;> rw [h] <;> simp)
        rw [← hEe] at HSv HKn HFi hE
        have tE : (E != 0) = true := by simpa using hE
        have HTE := Lib.hid tE
        clear HE hEe hE tE
        go_wp2_with fail
        refine (HSv.out _ (Below.refl _ _)).mono ?_
        rintro e x3 ⟨rfl, hb⟩
        have Q3 := Lib.hid (Q2.out.keep hb)
        have C3 := Lib.hid hb
        clear hb r0 r1 f0 f1 HSv
        obtain ⟨r0, r1, f0, f1⟩ := Q3.out.two
        go_wp2_with fail
        refine (HKn.out _ C3.out).mono ?_
        rintro e x4 ⟨rfl, hb⟩
        have Q4 := Lib.hid (Q3.out.keep hb)
        have C4 := Lib.hid (chain C3.out hb)
        clear hb r0 r1 f0 f1 HKn Q3 C3
        obtain ⟨r0, r1, f0, f1⟩ := Q4.out.two
        go_wp2_with fail
        refine (HFi.out _ C4.out).mono ?_
        rintro e x5 ⟨rfl, hb⟩
        have Q5 := Lib.hid (Q4.out.keep hb)
        have C5 := Lib.hid (chain C4.out hb)
        clear hb r0 r1 f0 f1 HFi Q4 C4
        obtain ⟨r0, r1, f0, f1⟩ := Q5.out.two
        go_wp2_with fail
        refine (HRg.out _ C5.out).mono ?_
        rintro e x6 ⟨rfl, hb⟩
        have Q6 := Lib.hid (Q5.out.keep hb)
        have C6 := Lib.hid (chain C5.out hb)
        clear hb r0 r1 f0 f1 HRg Q5 C5
        obtain ⟨r0, r1, f0, f1⟩ := Q6.out.two
        cases hrt : rightM N ms2 with
        | false =>
          obtain rfl : E = 1 := HEc.out.2 hrt
          clear HTE
          go_wp2_with fail
          refine (alive5_any _).mono ?_
          rintro e x7 ⟨rfl, hb⟩
          have HBf := Lib.hid (chainN HB2.out HB2.out.size (chain C6.out hb))
          clear hb
          go_wp2_with fail
          go_ret
          exact ⟨by simp, HBf.out⟩
        | true =>
          have hw5 := HEc.out.1 hrt
          rw [hw5] at HWy
          have tE := HTE.out
          have hE0 : ¬ E = 0 := by simpa using tE
          clear hw5
          go_wp2_with fail
          refine (HWy.out _ C6.out).mono ?_
          rintro e x7 ⟨rfl, hb⟩
          have C7 := Lib.hid (chain C6.out hb)
          clear hb
          go_wp2_with fail
          refine (alive5_any _).mono ?_
          rintro e x8 ⟨rfl, hb⟩
          have HBf := Lib.hid (chainN HB2.out HB2.out.size (chain C7.out hb))
          clear hb
          go_wp2_with fail
          go_ret
          exact ⟨by simp, HBf.out⟩
end
section
/- How a row (a struct with a slice of words) and a slice of ints that came in are opened. -/
set_option linter.unusedVariables false
set_option linter.unusedSimpArgs false
open Go.RowKit Go.Joins Go.ChangeShapes Go.WideShapes
theorem cellsRow : Try.prog.cellsOf 40 = 2 := by kernel_rfl
set_option maxRecDepth 100000 in
theorem open_row {H : Type} {enc : TypeId × Value → H} {W : World} {r : Reach} {b0 : Nat} {v : Value} {d : DataW H} {p : List MemPlace}
    (hv : Value.okWide Try.prog W r b0 40 v) (h : DataW.Trod enc Try.prog W 0 (fun _ => true) true 40 v d p) :
    ∃ n A l c us, v = .agg #[.int .i64 n, .slice A l c] ∧ (Lit.int .i64 n).wf = true ∧ SliceOk A l c ∧ Words W A l us := by
  obtain ⟨c0, c1, y0, y1, m, rfl, rfl, rfl, hy0, hy1⟩ := open_agg2 Try.underlying40 (by kernel_rfl) cellsRow hv h
  obtain ⟨a, e0, -, wa⟩ := DataW.trod_int Try.underlying3 hy0
  obtain ⟨A, l, c, us, e1, hs, hw⟩ := open_words hy1
  simp at e0 e1
  subst e0 e1
  exact ⟨a, A, l, c, us, rfl, wa, hs, hw⟩
end
section
/- How a slice of texts that came in is opened. -/
set_option linter.unusedVariables false
set_option linter.unusedSimpArgs false
open Go.RowKit Go.Joins Go.ChangeShapes Go.WideShapes
theorem cellsStr : Try.prog.cellsOf 9 = 1 := by kernel_rfl
theorem open_texts {H : Type} {enc : TypeId × Value → H} {W : World} {fuel : Nat} {cs : List Value} {x : DataW H × List MemPlace}
    (h : DataW.trod enc Try.prog W 0 (fun _ => true) true fuel 48 cs = some x) : ∃ A l c ss, cs = [.slice A l c] ∧ SliceOk A l c ∧ Texts W A l ss := by
  rcases open_strings Try.underlying48 Try.underlying9 cellsStr h with ⟨hcs, _⟩ | ⟨a, len, cap, ss, hcs, _, hl, hm, hz, _, hcell, hwz⟩
  · exact ⟨none, 0, 0, [], hcs, ⟨Nat.le_refl _, Nat.zero_le _, fun _ => ⟨rfl, rfl⟩⟩, Texts.nil _ _⟩
  · have hz' : ss.length = cap := by simpa using hz
    refine ⟨some a, len, cap, ss.take len, hcs, ⟨hl, hm, fun h => by cases h⟩, ?_⟩
    have hget : ∀ j, j < len → (ss.take len).getD j ByteArray.empty = ss.getD j ByteArray.empty := fun j hj => by
      simp [List.getD, hj]
    refine ⟨by simp; omega, fun j => ?_, fun hp => ?_⟩
    · by_cases hj : j < len
      · rw [hget j hj]
        have hjs : j < ss.length := by omega
        have := hwz (ss[j]) (List.getElem_mem _)
        simpa [List.getD, hjs] using this
      · have hn : (ss.take len)[j]? = none := List.getElem?_eq_none (by simp; omega)
        simp [List.getD, hn, maxLen]
    · obtain ⟨b, o, rfl⟩ := addr_at (hcell 0 (by omega))
      have hadd : ∀ j, Addr.add { block := b, off := o } j = ⟨b, o + j, none⟩ := fun j => by
        by_cases h : j = 0 <;> simp [Addr.add, h]
      refine ⟨b, o, rfl, ?_, fun j hj => ?_⟩
      · have := block_lt_of_cell (hcell 0 (by omega))
        rw [hadd] at this
        exact this
      · have := hcell j (by omega)
        rw [hadd] at this
        rw [this, hget j hj]
end
end Go.Proofs.Ytdfmogcgangdnaa
