/- Layer 14: RippleSorts: the walk. -/
import Derived.Test.YtmfjbmojejplgaaRiF
import Derived.Deep.RegionHeld3
namespace Go.Proofs.Ytmfjbmojejplgaa
set_option linter.unusedVariables false
set_option linter.unusedSimpArgs false
open Go.RowKit Go.Sort
set_option maxRecDepth 100000
set_option maxHeartbeats 8000000 in
theorem rsorts_any (a b : DrR) (A : Option Addr) (l cp : Nat) (xs : List DrR) (many : Int) (hs : SliceOk A l cp) (w : World) (hH : Drs w A l xs) :
    Calls Try.prog 3 #[.agg (drA a), .agg (drA b), .slice A l cp, .int .i64 many] w fun e w' => e = .returned (.bool true) ∧ Below w.heap.size w w' := by
  have HF := Lib.hid (fun w' => few14_any A l cp hs w')
  have hnone : A = none → min l 60 = 0 ∧ cp = 0 := fun e => by have := hs.2.2 e; omega
  have hn60 : min l 60 ≤ 60 := by omega
  have hH := Recs.take hH (min l 60) (by omega)
  generalize xs.take (min l 60) = xs at *
  generalize min l 60 = n at *
  clear hs
  have HT := Lib.hid (fun (w' : World) (hb : Below w.heap.size w w') => Recs.below hH hb)
  have HN := Lib.hid (show (srtD xs).length = n by rw [srtD_len, hH.1])
  have HS := Lib.hid (fun (w' : World) (hw : Drs w' A n xs) => sorted_any A n cp xs w' hnone hw (by omega))
  have HRS := Lib.hid (fun (w' : World) (hw : Drs w' A n xs) => refSorted_any A n cp xs w' hw (by omega))
  have HFi := Lib.hid (fun (k : Nat) (hk : k ≤ n) (w' : World) (hw : Drs w' A n xs) => first_ok A n cp xs k w' hnone hw (by omega) hk)
  have HFb := Lib.hid (fun (hk : many < 0 ∨ (n : Int) < many) (w' : World) => first_bad A n cp many w' hk)
  obtain ⟨p0, p1, pb⟩ := twoD_two w a b
  have GA := Lib.hid p0
  have GB := Lib.hid p1
  have HB := Lib.hid pb
  have tbb : (befD a b != befD a b) = false := by simp
  clear hH hnone p0 p1 pb
  go_enter Try.func3, Try.ntmps3
  go_wp2_with fail
  refine (HF.out _).mono ?_
  rintro e u1 ⟨rfl, rfl⟩
  clear HF
  by_cases hbad : many < 0 ∨ (n : Int) < many
  · go_wp2_with fail
    refine (HFb.out hbad _).mono ?_
    rintro e w1 ⟨rfl, rfl⟩
    clear HFb HFi
    go_wp2_with fail
    refine (HRS.out _ (HT.out _ HB.out)).mono ?_
    rintro e w2 ⟨A2, c2, rfl, s2, h2, hb⟩
    rw [HN.out] at h2
    rw [HN.out]
    have W := Lib.hid h2
    have HB := Lib.hid (chain HB.out hb)
    have GA := Lib.hid (GA.out.keep hb)
    have GB := Lib.hid (GB.out.keep hb)
    clear hb h2 s2 HRS
    have d0 := GA.out.cell 0
    have d1 := GA.out.cell 1
    have q0 := GB.out.cell 0
    have q1 := GB.out.cell 1
    simp only [List.getElem?_toArray, List.getElem?_cons_zero, List.getElem?_cons_succ] at d0 d1 q0 q1
    go_upto_region 4 with (fail)
    go_region_held3 (fun (w' : World) => w'.cell? ⟨w.heap.size, 0, none⟩ = some (.int .i64 a.1) ∧ w'.cell? ⟨w.heap.size, 1, none⟩ = some (.int .u64 (a.2 : Int)) ∧ w'.cell? ⟨w.heap.size + 1, 0, none⟩ = some (.int .i64 b.1) ∧ w'.cell? ⟨w.heap.size + 1, 1, none⟩ = some (.int .u64 (b.2 : Int))) (go_keep)
      (first
        | (go_at_call 10; refine (before_any a b _).mono ?_; rintro e1 x1 ⟨rfl, hb⟩; have GA1 := Lib.hid (GA.out.drew.keep hb); have GB1 := Lib.hid (GB.out.drew.keep hb); have HB1 := Lib.hid (chain HB.out.drew hb); have W1 := Lib.hid (Recs.below (w := World.drew _) W.out hb); clear hb; have u10 := GA1.out.cell 0; have u11 := GA1.out.cell 1; have v10 := GB1.out.cell 0; have v11 := GB1.out.cell 1; simp only [List.getElem?_toArray, List.getElem?_cons_zero, List.getElem?_cons_succ] at u10 u11 v10 v11)
        | (go_at_call 11; refine (refBefore14_any a b _).mono ?_; rintro e2 x2 ⟨rfl, hb⟩; have GA2 := Lib.hid (GA1.out.keep hb); have GB2 := Lib.hid (GB1.out.keep hb); have HB2 := Lib.hid (chain HB1.out hb); have W2 := Lib.hid (Recs.below W1.out hb); clear hb; have u20 := GA2.out.cell 0; have u21 := GA2.out.cell 1; have v20 := GB2.out.cell 0; have v21 := GB2.out.cell 1; simp only [List.getElem?_toArray, List.getElem?_cons_zero, List.getElem?_cons_succ] at u20 u21 v20 v21)
        | (go_at_call 13; refine (HS.out _ (HT.out _ HB2.out)).mono ?_; rintro e3 x3 ⟨A4, c4, rfl, s4, h4, hb⟩; rw [HN.out] at h4; rw [HN.out]; have H4 := Lib.hid h4; have GA3 := Lib.hid (GA2.out.keep hb); have GB3 := Lib.hid (GB2.out.keep hb); have HB3 := Lib.hid (chain HB2.out hb); have W3 := Lib.hid (Recs.below W2.out hb); clear h4 s4; clear hb; have u30 := GA3.out.cell 0; have u31 := GA3.out.cell 1; have v30 := GB3.out.cell 0; have v31 := GB3.out.cell 1; simp only [List.getElem?_toArray, List.getElem?_cons_zero, List.getElem?_cons_succ] at u30 u31 v30 v31)
        | (go_at_call 12; refine (refSame14_same A4 A2 n c4 c2 (srtD xs) _ H4.out W3.out (by omega)).mono ?_; rintro e4 x4 ⟨rfl, hb⟩; have GA4 := Lib.hid (GA3.out.keep hb); have GB4 := Lib.hid (GB3.out.keep hb); have HB4 := Lib.hid (chain HB3.out hb); have W4 := Lib.hid (Recs.below W3.out hb); clear hb; have u40 := GA4.out.cell 0; have u41 := GA4.out.cell 1; have v40 := GB4.out.cell 0; have v41 := GB4.out.cell 1; simp only [List.getElem?_toArray, List.getElem?_cons_zero, List.getElem?_cons_succ] at u40 u41 v40 v41)
        | (go_at_call 14; refine (alive14_any _).mono ?_; rintro e5 x5 ⟨rfl, hb⟩; have GA5 := Lib.hid (GA4.out.keep hb); have GB5 := Lib.hid (GB4.out.keep hb); have HB5 := Lib.hid (chain HB4.out hb); have W5 := Lib.hid (Recs.below W4.out hb); clear hb; have u50 := GA5.out.cell 0; have u51 := GA5.out.cell 1; have v50 := GB5.out.cell 0; have v51 := GB5.out.cell 1; simp only [List.getElem?_toArray, List.getElem?_cons_zero, List.getElem?_cons_succ] at u50 u51 v50 v51))
    have HB9 := Lib.hid HB5.out
    clear d0 d1 q0 q1 HT HS GA GB W HB
    rcases (show many < 0 ∨ (¬ many < 0 ∧ (n : Int) < many) by omega) with h | ⟨h, h2⟩
    · clear hbad
      go_wp2_with fail
      go_ret
      exact ⟨rfl, HB9.out⟩
    · clear hbad
      go_wp2_with fail
      go_ret
      exact ⟨rfl, HB9.out⟩
  · obtain ⟨k, rfl⟩ : ∃ k : Nat, many = (k : Int) := ⟨many.toNat, by omega⟩
    have hkn : k ≤ n := by omega
    have k1 : ¬ (k : Int) < 0 := by omega
    have k2 : ¬ (n : Int) < (k : Int) := by omega
    have k3 : (0 : Int) ≤ (k : Int) := by omega
    clear hbad
    go_wp2_with fail
    refine (HFi.out k hkn _ (HT.out _ HB.out)).mono ?_
    rintro e w1 ⟨A1, rfl, h1, hb⟩
    have F := Lib.hid h1
    have HB := Lib.hid (chain HB.out hb)
    have GA := Lib.hid (GA.out.keep hb)
    have GB := Lib.hid (GB.out.keep hb)
    clear hb h1 HFb HFi
    go_wp2_with fail
    refine (HRS.out _ (HT.out _ HB.out)).mono ?_
    rintro e w2 ⟨A2, c2, rfl, s2, h2, hb⟩
    rw [HN.out] at h2 s2
    rw [HN.out]
    have W := Lib.hid h2
    have F := Lib.hid (Recs.below F.out hb)
    have HB := Lib.hid (chain HB.out hb)
    have GA := Lib.hid (GA.out.keep hb)
    have GB := Lib.hid (GB.out.keep hb)
    have SO := Lib.hid s2
    clear hb h2 s2 HRS
    have d0 := GA.out.cell 0
    have d1 := GA.out.cell 1
    have q0 := GB.out.cell 0
    have q1 := GB.out.cell 1
    simp only [List.getElem?_toArray, List.getElem?_cons_zero, List.getElem?_cons_succ] at d0 d1 q0 q1
    go_upto_region 4 with (fail)
    go_region_held3 (fun (w' : World) => w'.cell? ⟨w.heap.size, 0, none⟩ = some (.int .i64 a.1) ∧ w'.cell? ⟨w.heap.size, 1, none⟩ = some (.int .u64 (a.2 : Int)) ∧ w'.cell? ⟨w.heap.size + 1, 0, none⟩ = some (.int .i64 b.1) ∧ w'.cell? ⟨w.heap.size + 1, 1, none⟩ = some (.int .u64 (b.2 : Int))) (go_keep)
      (first
        | (go_at_call 10; refine (before_any a b _).mono ?_; rintro e1 x1 ⟨rfl, hb⟩; have GA1 := Lib.hid (GA.out.drew.keep hb); have GB1 := Lib.hid (GB.out.drew.keep hb); have HB1 := Lib.hid (chain HB.out.drew hb); have W1 := Lib.hid (Recs.below (w := World.drew _) W.out hb); have F1 := Lib.hid (Recs.below (w := World.drew _) F.out hb); clear hb; have u10 := GA1.out.cell 0; have u11 := GA1.out.cell 1; have v10 := GB1.out.cell 0; have v11 := GB1.out.cell 1; simp only [List.getElem?_toArray, List.getElem?_cons_zero, List.getElem?_cons_succ] at u10 u11 v10 v11)
        | (go_at_call 11; refine (refBefore14_any a b _).mono ?_; rintro e2 x2 ⟨rfl, hb⟩; have GA2 := Lib.hid (GA1.out.keep hb); have GB2 := Lib.hid (GB1.out.keep hb); have HB2 := Lib.hid (chain HB1.out hb); have W2 := Lib.hid (Recs.below W1.out hb); have F2 := Lib.hid (Recs.below F1.out hb); clear hb; have u20 := GA2.out.cell 0; have u21 := GA2.out.cell 1; have v20 := GB2.out.cell 0; have v21 := GB2.out.cell 1; simp only [List.getElem?_toArray, List.getElem?_cons_zero, List.getElem?_cons_succ] at u20 u21 v20 v21)
        | (go_at_call 13; refine (HS.out _ (HT.out _ HB2.out)).mono ?_; rintro e3 x3 ⟨A4, c4, rfl, s4, h4, hb⟩; rw [HN.out] at h4; rw [HN.out]; have H4 := Lib.hid h4; have GA3 := Lib.hid (GA2.out.keep hb); have GB3 := Lib.hid (GB2.out.keep hb); have HB3 := Lib.hid (chain HB2.out hb); have W3 := Lib.hid (Recs.below W2.out hb); have F3 := Lib.hid (Recs.below F2.out hb); clear h4 s4; clear hb; have u30 := GA3.out.cell 0; have u31 := GA3.out.cell 1; have v30 := GB3.out.cell 0; have v31 := GB3.out.cell 1; simp only [List.getElem?_toArray, List.getElem?_cons_zero, List.getElem?_cons_succ] at u30 u31 v30 v31)
        | (go_at_call 12; refine (refSame14_same A4 A2 n c4 c2 (srtD xs) _ H4.out W3.out (by omega)).mono ?_; rintro e4 x4 ⟨rfl, hb⟩; have GA4 := Lib.hid (GA3.out.keep hb); have GB4 := Lib.hid (GB3.out.keep hb); have HB4 := Lib.hid (chain HB3.out hb); have W4 := Lib.hid (Recs.below W3.out hb); have F4 := Lib.hid (Recs.below F3.out hb); clear hb; have u40 := GA4.out.cell 0; have u41 := GA4.out.cell 1; have v40 := GB4.out.cell 0; have v41 := GB4.out.cell 1; simp only [List.getElem?_toArray, List.getElem?_cons_zero, List.getElem?_cons_succ] at u40 u41 v40 v41)
        | (go_at_call 14; refine (alive14_any _).mono ?_; rintro e5 x5 ⟨rfl, hb⟩; have GA5 := Lib.hid (GA4.out.keep hb); have GB5 := Lib.hid (GB4.out.keep hb); have HB5 := Lib.hid (chain HB4.out hb); have W5 := Lib.hid (Recs.below W4.out hb); have F5 := Lib.hid (Recs.below F4.out hb); clear hb; have u50 := GA5.out.cell 0; have u51 := GA5.out.cell 1; have v50 := GB5.out.cell 0; have v51 := GB5.out.cell 1; simp only [List.getElem?_toArray, List.getElem?_cons_zero, List.getElem?_cons_succ] at u50 u51 v50 v51))
    have HB9 := Lib.hid HB5.out
    have HX := Lib.hid (Recs.take W5.out k hkn)
    have HFx := Lib.hid F5.out
    obtain ⟨s1, s2, s3⟩ := SO.out
    unfold maxLen at s2
    clear d0 d1 q0 q1 HT HS GA GB W HB SO F W1 W2 W3 W4 W5 F1 F2 F3 F4 F5 GA1 GA2 GA3 GA4 GA5 GB1 GB2 GB3 GB4 GB5 HB1 HB2 HB3 HB4 HB5
    cases A2 with
    | none =>
      obtain ⟨rfl, rfl⟩ := s3 rfl
      obtain rfl : k = 0 := by omega
      go_wp2_with fail
      refine (refSame14_same A1 none 0 0 _ _ _ HFx.out HX.out (by omega)).mono ?_
      rintro e w9 ⟨rfl, hb⟩
      have HB9 := Lib.hid (chain HB9.out hb)
      clear hb
      go_wp2_with fail
      go_ret
      exact ⟨rfl, HB9.out⟩
    | some ad =>
      clear s3
      have k4 : (k : Int) ≤ (c2 : Int) := by omega
      have k5 : ¬ (c2 : Int) < (k : Int) := by omega
      go_wp2_with fail
      refine (refSame14_same A1 (some ad) k _ _ _ _ HFx.out HX.out (by omega)).mono ?_
      rintro e w9 ⟨rfl, hb⟩
      have HB9 := Lib.hid (chain HB9.out hb)
      clear hb
      go_wp2_with fail
      go_ret
      exact ⟨rfl, HB9.out⟩
end Go.Proofs.Ytmfjbmojejplgaa
