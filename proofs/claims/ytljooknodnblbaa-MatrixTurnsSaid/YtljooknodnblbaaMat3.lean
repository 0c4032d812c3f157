/- Contracts of layer 3's reference: Right, Same; matrix.Like. -/
import Derived.Test.YtljooknodnblbaaMat2
import Derived.Test.YtljooknodnblbaaSame
import Derived.Test.YtljooknodnblbaaLike
import Derived.Test.YtljooknodnblbaaOf
import Derived.OpenShut
import Derived.Deep.RegionWith
namespace Go.Proofs.Ytljooknodnblbaa
set_option linter.unusedVariables false
set_option linter.unusedSimpArgs false
open Go.RowKit
set_option maxHeartbeats 1000000 in
theorem refRightM_any (N : Int) (A : Option Addr) (l c lo : Nat) (ms : List (Int × List Nat)) (w : World) (hm : MatAt w lo A l ms) (hl : l ≤ maxLen) :
    Calls Try.prog 8 #[.agg #[.int .i64 N, .slice A l c]] w fun e w' => e = .returned (.bool (rightM N ms)) ∧ Below w.heap.size w w' := by
  unfold maxLen at hl
  have Q := Lib.hid (Box.new w 24 #[.int .i64 N, .slice A l c])
  have HW := Lib.hid (show Below w.heap.size w (w.alloc (.cells #[.int .i64 N, .slice A l c] 24)) from (Below.refl _ _).alloc (Nat.le_refl _) _)
  have HM := Lib.hid hm
  have HL := Lib.hid hm.1
  clear hm
  obtain ⟨r0, r1, -, -⟩ := Q.out.two
  go_enter Try.func8, Try.ntmps8
  go_wp2_with fail
  clear r0 r1
  go_loopw [8] (fun i wr => ∃ k : Nat, k ≤ l ∧ i = .int .i64 k ∧ Hid (rowsB N (ms.take k) = true) ∧ Box wr w.heap.size 24 #[.int .i64 N, .slice A l c] ∧ Below w.heap.size w wr) (fun i _ => l - (intOf i).toNat)
  case atStart => exact ⟨0, by omega, rfl, Lib.hid (by simp [rowsB]), Q.out, HW.out⟩
  case round =>
    obtain ⟨k, hk, rfl, HN, hbx, hbel⟩ := hrel
    have R := Lib.hid hbx
    have B := Lib.hid hbel
    clear hbx hbel Q HW
    obtain ⟨r0, r1, -, -⟩ := R.out.two
    by_cases hlt : k < l
    · have hlt' : (k : Int) < (l : Int) := by omega
      obtain ⟨b, off, B1, l1, c1, rfl, hb, x0, x1, hs, hw⟩ := (HM.out.mono (Nat.le_refl _) B.out).at k hlt
      have HS := Lib.hid (rowsB_snoc N ms k (by rw [HL.out]; exact hlt))
      have HNO := Lib.hid (rowsB_not N ms k (by rw [HL.out]; exact hlt))
      generalize (ms.getD k (0, [])).1 = n at *
      generalize (ms.getD k (0, [])).2 = us at *
      have R2 := Lib.hid (R.out.alloc (.cells #[.int .i64 n, .slice B1 l1 c1] 37))
      have B2 := Lib.hid (B.out.alloc B.out.size (.cells #[.int .i64 n, .slice B1 l1 c1] 37))
      have HW1 := Lib.hid (hw.alloc (.cells #[.int .i64 n, .slice B1 l1 c1] 37))
      have HR := Lib.hid (refRight_any n B1 l1 c1 us _ HW1.out)
      clear hw hs
      obtain ⟨r0, r1, -, -⟩ := R2.out.two
      by_cases hn : n = N
      · subst hn
        have t : (n != n) = false := by simp
        cases hr : rightB n us with
        | true =>
          rw [hr] at HR HS
          go_wp2_with fail
          refine HR.out.mono ?_
          rintro e w2 ⟨rfl, hb2⟩
          have B3 := Lib.hid (chain B2.out hb2)
          have R3 := Lib.hid (R2.out.keep hb2)
          clear hb2
          go_wp2_with fail
          go_roundw
          case rel => exact ⟨k + 1, by omega, by go_num, Lib.hid (by rw [HS.out, HN.out]; simp), R3.out, B3.out⟩
          case measure => simp [intOf]; omega
        | false =>
          rw [hr] at HR
          have HE := Lib.hid (show rightM n ms = false by rw [rightM, HNO.out (by simp [hr])]; simp)
          clear hr
          go_wp2_with fail
          refine HR.out.mono ?_
          rintro e w2 ⟨rfl, hb2⟩
          have B3 := Lib.hid (chain B2.out hb2)
          clear hb2
          go_wp2_with fail
          go_ret
          exact ⟨by rw [HE.out]; rfl, B3.out⟩
      · have t : (n != N) = true := by simpa using hn
        have t2 : (n == N) = false := by simpa using hn
        have HE := Lib.hid (show rightM N ms = false by rw [rightM, HNO.out (by simp [t2])]; simp)
        clear hn t2
        go_wp2_with fail
        go_ret
        exact ⟨by rw [HE.out]; rfl, B2.out⟩
    · obtain rfl : k = l := by omega
      have hlt' : ¬ (k : Int) < (k : Int) := by omega
      have HE := Lib.hid (show rightM N ms = (smb N && decide (k ≤ 64)) by
        have := HN.out
        rw [List.take_of_length_le (by rw [HL.out]; omega)] at this
        simp [rightM, this, HL.out])
      by_cases h0 : 0 ≤ N
      · by_cases h1 : N ≤ 64
        · have HS := Lib.hid (show smb N = true from (smb_iff N).2 ⟨h0, h1⟩)
          by_cases h2 : k ≤ 64
          · have t : decide ((k : Int) ≤ 64) = true := by simp; omega
            go_wp2_with fail
            go_ret
            exact ⟨by rw [HE.out, HS.out]; simp [h2], B.out⟩
          · have t : decide ((k : Int) ≤ 64) = false := by simp; omega
            go_wp2_with fail
            go_ret
            exact ⟨by rw [HE.out, HS.out]; simp [h2], B.out⟩
        · have t : decide (N ≤ 64) = false := by simpa using h1
          have HS := Lib.hid (show smb N = false from (smb_no N).2 (by omega))
          go_wp2_with fail
          go_ret
          exact ⟨by rw [HE.out, HS.out]; simp, B.out⟩
      · have t : decide (0 ≤ N) = false := by simpa using h0
        have HS := Lib.hid (show smb N = false from (smb_no N).2 (by omega))
        go_wp2_with fail
        go_ret
        exact ⟨by rw [HE.out, HS.out]; simp, B.out⟩
/-- Are two matrices the same? -/
def sameM (N : Int) (ms : List (Int × List Nat)) (M : Int) (ks : List (Int × List Nat)) : Bool := N == M && ms == ks
theorem sameM_self (N : Int) (ms : List (Int × List Nat)) : sameM N ms N ms = true := by simp [sameM]
theorem take_same {α : Type} (ms ks : List α) (d : α) (k : Nat) (h1 : k < ms.length) (h2 : k < ks.length) (h : ms.take k = ks.take k) (he : ms.getD k d = ks.getD k d) : ms.take (k + 1) = ks.take (k + 1) := by
  rw [take_one ms k d h1, take_one ks k d h2, h, he]
set_option maxRecDepth 100000 in
set_option maxHeartbeats 4000000 in
theorem same3_any (N M : Int) (A1 A2 : Option Addr) (n m c1 c2 l1 l2 : Nat) (ms ks : List (Int × List Nat)) (w : World) (h1 : MatAt w l1 A1 n ms) (h2 : MatAt w l2 A2 m ks) (hl : n ≤ 1000000) (hr : ∀ j, (ms.getD j (0, [])).2.length ≤ 1000000) :
    Calls Try.prog 10 #[.agg #[.int .i64 N, .slice A1 n c1], .agg #[.int .i64 M, .slice A2 m c2]] w fun e w' => e = .returned (.bool (sameM N ms M ks)) ∧ Below w.heap.size w w' := by
  have q0 := (Box.new w 24 #[.int .i64 N, .slice A1 n c1]).alloc (.cells #[.int .i64 M, .slice A2 m c2] 24)
  have q1 := Box.new (w.alloc (.cells #[.int .i64 N, .slice A1 n c1] 24)) 24 #[.int .i64 M, .slice A2 m c2]
  have HW := Lib.hid (show Below w.heap.size w ((w.alloc (.cells #[.int .i64 N, .slice A1 n c1] 24)).alloc (.cells #[.int .i64 M, .slice A2 m c2] 24)) from ((Below.refl _ _).alloc (Nat.le_refl _) _).alloc (by simp) _)
  simp only [World.size_alloc] at q1
  have M1 := Lib.hid (h1.below HW.out)
  have M2 := Lib.hid (h2.below HW.out)
  have HL1 := Lib.hid h1.1
  have HL2 := Lib.hid h2.1
  have HR := Lib.hid hr
  have Q0 := Lib.hid q0
  have Q1 := Lib.hid q1
  clear h1 h2 q0 q1 hr
  by_cases hN : N = M
  · subst hN
    have t1 : (N != N) = false := by simp
    by_cases hn : n = m
    · subst hn
      have t2 : (((n : Nat) : Int) != ((n : Nat) : Int)) = false := by simp
      go_enter Try.func10, Try.ntmps10
      go_wp2_with fail
      generalize (w.alloc (.cells #[.int .i64 N, .slice A1 n c1] 24)).alloc (.cells #[.int .i64 N, .slice A2 n c2] 24) = W at *
      obtain ⟨a0, a1, -, -⟩ := Q0.out.two
      obtain ⟨d0, d1, -, -⟩ := Q1.out.two
      have hz0 := Q0.out.lt
      have hz1 := Q1.out.lt
      go_wp2_with fail
      clear t1 t2
      go_loopw [23] (fun t wr => ∃ i : Nat, i ≤ n ∧ t = .int .i64 i ∧ Hid (ms.take i = ks.take i) ∧ Hid (Below W.heap.size W wr)) (fun t _ => n - (intOf t).toNat)
      case atStart => exact ⟨0, by omega, rfl, Lib.hid (by simp), Lib.hid (Below.refl _ _)⟩
      case round =>
        obtain ⟨i, hi, rfl, HT, HB⟩ := hrel
        by_cases hlt : i < n
        · have hlt' : (i : Int) < (n : Int) := by omega
          obtain ⟨g1, o1, B1, k1, e1, rfl, hg1, x1, y1, s1, u1⟩ := (M1.out.below HB.out).at i hlt
          obtain ⟨g2, o2, B2, k2, e2, rfl, hg2, x2, y2, s2, u2⟩ := (M2.out.below HB.out).at i hlt
          have O1 := Lib.hid u1
          have O2 := Lib.hid u2
          have HK := Lib.hid (HR.out i)
          have HTS := Lib.hid (take_same ms ks (0, []) i (by rw [HL1.out]; exact hlt) (by rw [HL2.out]; exact hlt) HT.out)
          have HTN := Lib.hid (show ms = ks → ms.getD i (0, []) = ks.getD i (0, []) from fun e => by rw [e])
          have HP1 := Lib.hid (show ms.getD i (0, []) = ((ms.getD i (0, [])).1, (ms.getD i (0, [])).2) from rfl)
          have HP2 := Lib.hid (show ks.getD i (0, []) = ((ks.getD i (0, [])).1, (ks.getD i (0, [])).2) from rfl)
          generalize hp1 : ms.getD i (0, []) = p1 at *
          generalize hp2 : ks.getD i (0, []) = p2 at *
          clear hp1 hp2 HP1 HP2
          obtain ⟨n1, us⟩ := p1
          obtain ⟨n2, vs⟩ := p2
          simp only at x1 y1 x2 y2 O1 O2 HK
          clear u1 u2 s1 s2
          have R0 := Lib.hid (Q0.out.below HB.out hz0)
          have R1 := Lib.hid (Q1.out.below HB.out hz1)
          obtain ⟨v0, v1, -, -⟩ := R0.out.two
          obtain ⟨f0, f1, -, -⟩ := R1.out.two
          have LZ0 := Lib.hid R0.out.lt
          have LZ1 := Lib.hid R1.out.lt
          have LG1 := Lib.hid hg1
          have LG2 := Lib.hid hg2
          clear hg1 hg2
          have HSame := Lib.hid (same_any n1 n2 B1 B2 k1 e1 k2 e2 us vs _ O1.out.drew O2.out.drew (by have := O1.out.1; have := HK.out; omega))
          cases hsb : sameB n1 us n2 vs with
          | true =>
            rw [hsb] at HSame
            have HEq := Lib.hid (show ((n1, us) : Int × List Nat) = (n2, vs) by
              simp only [sameB, Bool.and_eq_true, beq_iff_eq] at hsb
              rw [hsb.1, hsb.2])
            clear hsb
            go_wp2_with fail
            go_region_held3 (fun w' => w'.cell? ⟨w.heap.size, 1, none⟩ = some (.slice (some ⟨g1, o1, none⟩) n c1) ∧ w'.cell? ⟨w.heap.size + 1, 1, none⟩ = some (.slice (some ⟨g2, o2, none⟩) n c2) ∧ w'.cell? ⟨g1, o1 + i * 2, none⟩ = some (.int .i64 n1) ∧ w'.cell? ⟨g1, o1 + i * 2 + 1, none⟩ = some (.slice B1 k1 e1) ∧ w'.cell? ⟨g2, o2 + i * 2, none⟩ = some (.int .i64 n2) ∧ w'.cell? ⟨g2, o2 + i * 2 + 1, none⟩ = some (.slice B2 k2 e2)) (go_keep)
              (first
                | (go_at_call 22; refine HSame.out.mono ?_; rintro ee ww ⟨rfl, hb⟩; have HB1 := Lib.hid (HB.out.drew.trans (hb.mono HB.out.size)); have v1' := (hb.cell (p := ⟨w.heap.size, 1, none⟩) LZ0.out).trans v1; have f1' := (hb.cell (p := ⟨w.heap.size + 1, 1, none⟩) LZ1.out).trans f1; have x1' := (hb.cell (p := ⟨g1, o1 + i * 2, none⟩) LG1.out).trans x1; have y1' := (hb.cell (p := ⟨g1, o1 + i * 2 + 1, none⟩) LG1.out).trans y1; have x2' := (hb.cell (p := ⟨g2, o2 + i * 2, none⟩) LG2.out).trans x2; have y2' := (hb.cell (p := ⟨g2, o2 + i * 2 + 1, none⟩) LG2.out).trans y2; clear hb))
            go_wp2_with fail
            go_roundw
            case rel => exact ⟨i + 1, by omega, by go_num, Lib.hid (HTS.out HEq.out), HB1⟩
            case measure => simp [intOf] <;> omega
          | false =>
            rw [hsb] at HSame
            have HF := Lib.hid (show sameM N ms N ks = false by
              simp only [sameM, beq_self_eq_true, Bool.true_and, beq_eq_false_iff_ne]
              intro e
              have := HTN.out e
              injection this with e1 e2
              rw [e1, e2] at hsb
              simp [sameB] at hsb)
            clear hsb
            go_wp2_with fail
            go_region_held3 (fun w' => w'.cell? ⟨w.heap.size, 1, none⟩ = some (.slice (some ⟨g1, o1, none⟩) n c1) ∧ w'.cell? ⟨w.heap.size + 1, 1, none⟩ = some (.slice (some ⟨g2, o2, none⟩) n c2) ∧ w'.cell? ⟨g1, o1 + i * 2, none⟩ = some (.int .i64 n1) ∧ w'.cell? ⟨g1, o1 + i * 2 + 1, none⟩ = some (.slice B1 k1 e1) ∧ w'.cell? ⟨g2, o2 + i * 2, none⟩ = some (.int .i64 n2) ∧ w'.cell? ⟨g2, o2 + i * 2 + 1, none⟩ = some (.slice B2 k2 e2)) (go_keep)
              (first
                | (go_at_call 22; refine HSame.out.mono ?_; rintro ee ww ⟨rfl, hb⟩; have HB1 := Lib.hid (HB.out.drew.trans (hb.mono HB.out.size)); have v1' := (hb.cell (p := ⟨w.heap.size, 1, none⟩) LZ0.out).trans v1; have f1' := (hb.cell (p := ⟨w.heap.size + 1, 1, none⟩) LZ1.out).trans f1; have x1' := (hb.cell (p := ⟨g1, o1 + i * 2, none⟩) LG1.out).trans x1; have y1' := (hb.cell (p := ⟨g1, o1 + i * 2 + 1, none⟩) LG1.out).trans y1; have x2' := (hb.cell (p := ⟨g2, o2 + i * 2, none⟩) LG2.out).trans x2; have y2' := (hb.cell (p := ⟨g2, o2 + i * 2 + 1, none⟩) LG2.out).trans y2; clear hb))
            go_wp2_with fail
            go_ret
            exact ⟨by rw [HF.out]; rfl, HW.out.trans (HB1.out.mono HW.out.size)⟩
        · obtain rfl : i = n := by omega
          have hlt' : ¬ (i : Int) < (i : Int) := by omega
          have HE := Lib.hid (show sameM N ms N ks = true by
            have := HT.out
            rw [List.take_of_length_le (by rw [HL1.out]; omega), List.take_of_length_le (by rw [HL2.out]; omega)] at this
            rw [this]; exact sameM_self _ _)
          go_wp2
          go_ret
          exact ⟨by rw [HE.out]; rfl, HW.out.trans (HB.out.mono HW.out.size)⟩
    · have t2 : (((n : Nat) : Int) != ((m : Nat) : Int)) = true := by rw [bne_iff_ne]; omega
      have HF := Lib.hid (show sameM N ms N ks = false by
        simp only [sameM, beq_self_eq_true, Bool.true_and, beq_eq_false_iff_ne]
        intro e
        apply hn
        rw [← HL1.out, ← HL2.out, e])
      go_enter Try.func10, Try.ntmps10
      go_wp2
      go_ret
      exact ⟨by rw [HF.out]; rfl, HW.out⟩
  · have t1 : (N != M) = true := by simpa using hN
    have HF := Lib.hid (show sameM N ms M ks = false by
      have : (N == M) = false := by simpa using hN
      simp [sameM, this])
    go_enter Try.func10, Try.ntmps10
    go_wp2
    go_ret
    exact ⟨by rw [HF.out]; rfl, HW.out⟩
end Go.Proofs.Ytljooknodnblbaa
