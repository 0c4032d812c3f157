/- Parts: Mat7, OwnF, Mat8, PopM, Oc, OnesQ, OnesF, RefPl, RefNums, TellsX, Ms1. -/
import Derived.Test.YtljooknodnblbaaDoorZd
import Derived.BigRegion
import Derived.Deep.AppendLies
import Derived.Deep.RegionLaw
import Derived.IntWalk
import Derived.Laws.BitsAllLaws
import Derived.OpenShut
import Derived.RegionTactic
import Derived.Test.YtljooknodnblbaaDoorChecked
namespace Go.Proofs.YtljooknodnblbaaDoor
section
/- Contract of law 03's few: a matrix of at most 66 rows, of three words each. -/
set_option linter.unusedVariables false
set_option linter.unusedSimpArgs false
open Go.RowKit
def cutR (r : Int × List Nat) : Int × List Nat := (r.1, r.2.take 3)
def fewM (ms : List (Int × List Nat)) : List (Int × List Nat) := (ms.take 66).map cutR
theorem fewM_len (ms : List (Int × List Nat)) : (fewM ms).length = min ms.length 66 := by simp [fewM]; omega
theorem fewM_at (ms : List (Int × List Nat)) (j : Nat) (h : j < ms.length) (h2 : j < 66) : (fewM ms).getD j (0, []) = cutR (ms.getD j (0, [])) := by
  simp [fewM, List.getD, h, h2]
theorem fewM_short (ms : List (Int × List Nat)) (j : Nat) : ((fewM ms).getD j (0, [])).2.length ≤ 3 := by
  by_cases h : j < (fewM ms).length
  · have h1 : j < ms.length := by have := fewM_len ms; omega
    have h2 : j < 66 := by have := fewM_len ms; omega
    rw [fewM_at ms j h1 h2]; simp [cutR]; omega
  · have : (fewM ms)[j]? = none := List.getElem?_eq_none (by omega)
    simp [List.getD, this]
theorem add_zeroM (g j : Nat) : (⟨g, 0, none⟩ : Addr).add j = ⟨g, j, none⟩ := by unfold Addr.add; split <;> simp_all
/-- A row of rows of the call's own, read as a matrix. -/
theorem own_mat {w : World} {base n : Nat} {v : Value} {rs : List RowV} (h : w.ownsRow base 45 2 v n (rowCells rs)) (hn : rs.length = n) (ms : List (Int × List Nat)) (hl : ms.length = n)
    (hf : ∀ j, j < n → (rs.getD j (0, none, 0, 0)).1 = (ms.getD j (0, [])).1 ∧ SliceOk (rs.getD j (0, none, 0, 0)).2.1 (rs.getD j (0, none, 0, 0)).2.2.1 (rs.getD j (0, none, 0, 0)).2.2.2 ∧ Words w (rs.getD j (0, none, 0, 0)).2.1 (rs.getD j (0, none, 0, 0)).2.2.1 (ms.getD j (0, [])).2) :
    ∃ A c, v = .slice A n c ∧ n ≤ c ∧ MatAt w base A n ms := by
  rcases h.2 with ⟨hv, h0⟩ | ⟨g, cap, cur, hv, hb, hh, hc, -⟩
  · subst h0
    obtain rfl : ms = [] := List.length_eq_zero_iff.1 hl
    exact ⟨none, 0, hv, Nat.le_refl _, MatAt.nil _ _ _⟩
  · refine ⟨some ⟨g, 0, none⟩, cap, hv, hc, hl, fun hp => ⟨g, 0, rfl, hb, (h.lt g (by rw [hv]; rfl)).2, fun j hj => ?_⟩⟩
    obtain ⟨f1, f2⟩ := rowCells_at rs j (by omega)
    obtain ⟨a1, a2, a3⟩ := hf j hj
    have hc := World.ownsRow.cells h (g := g) (by rw [hv]; rfl)
    have c1 := hc _ _ f1
    have c2 := hc _ _ f2
    rw [add_zeroM] at c1 c2
    refine ⟨_, _, _, ?_, ?_, a2, a3⟩
    · rw [Nat.zero_add, c1, a1]
    · rw [Nat.zero_add, c2]
/-- A matrix's rows keep off a store into a box of a matrix that is another block. -/
theorem MatAt.farB {w : World} {lo : Nat} {A : Option Addr} {len : Nat} {ms : List (Int × List Nat)} (h : MatAt w lo A len ms) {B : Nat} {t : TypeId} {x : Int} {S : Option Addr} {p q : Nat} (hne : ∀ b o, A = some ⟨b, o, none⟩ → 0 < len → b ≠ B) (hb : Box w B t #[.int .i64 x, .slice S p q]) (i : Nat) (u : Value) : MatAt (w.setCell ⟨B, i, none⟩ u) lo A len ms := by
  refine ⟨h.1, fun hp => ?_⟩
  obtain ⟨b, off, rfl, h1, h2, h3⟩ := h.2 hp
  have hnb := hne b off rfl hp
  refine ⟨b, off, rfl, h1, by simpa [World.setCell] using h2, fun j hj => ?_⟩
  obtain ⟨Bw, l, c, r0, r1, r2, r3⟩ := h3 j hj
  refine ⟨Bw, l, c, ?_, ?_, r2, ?_⟩
  · rw [World.cell?_setCell_other _ _ _ _ (by intro e; injection e; omega)]; exact r0
  · rw [World.cell?_setCell_other _ _ _ _ (by intro e; injection e; omega)]; exact r1
  · refine ⟨r3.1, r3.2.1, fun hp => ?_⟩
    obtain ⟨b', off', rfl, hlt, hc⟩ := r3.2.2 hp
    have hnw := r3.off hb b' off' rfl hp
    refine ⟨b', off', rfl, by simpa [World.setCell] using hlt, fun j hj => ?_⟩
    rw [World.cell?_setCell_other _ _ _ _ (by intro e; injection e; omega)]
    exact hc j hj
set_option maxRecDepth 100000 in
set_option maxHeartbeats 4000000 in
theorem few3_any (N : Int) (A : Option Addr) (l c : Nat) (ms : List (Int × List Nat)) (w : World) (hs : SliceOk A l c) (hm : MatAt w 0 A l ms) :
    Calls Tryd.prog 5 #[.agg #[.int .i64 N, .slice A l c]] w (MatOne N (fewM ms) w) := by
  obtain ⟨i0, hi, hz0, hz1, hz2⟩ := info_parts row_infoM
  have HI := Lib.hid hi
  have HZ0 := Lib.hid hz0
  have HZ1 := Lib.hid hz1
  have HZ2 := Lib.hid hz2
  clear hi hz0 hz1 hz2
  have HM := Lib.hid hm
  have HL := Lib.hid hm.1
  have Q0 := Lib.hid ((Box.new w 24 #[.int .i64 N, .slice A l c]).alloc (.cells #[.int .i64 0, .slice none 0 0] 24))
  have q1 := Box.new (w.alloc (.cells #[.int .i64 N, .slice A l c] 24)) 24 #[.int .i64 0, .slice none 0 0]
  have HW := Lib.hid (show Below w.heap.size w ((w.alloc (.cells #[.int .i64 N, .slice A l c] 24)).alloc (.cells #[.int .i64 0, .slice none 0 0] 24)) from ((Below.refl _ _).alloc (Nat.le_refl _) _).alloc (by simp) _)
  simp only [World.size_alloc] at q1
  have Q1 := Lib.hid q1
  have n1 := Lib.hid (show (45 : TypeId) ≠ 24 by decide)
  clear hm q1
  obtain ⟨r0, r1, -, -⟩ := Q0.out.two
  obtain ⟨hs1, hs2, hs3⟩ := hs
  unfold maxLen at hs2
  have hfl := fewM_len ms
  rw [HL.out] at hfl
  have HFL := Lib.hid hfl
  clear hfl
  cases A with
  | none =>
    obtain ⟨rfl, rfl⟩ := hs3 rfl
    have HM0 := Lib.hid (show ms = [] from List.length_eq_zero_iff.1 HL.out)
    go_enter Tryd.func5, Tryd.ntmps5
    go_wp2_with fail
    clear r0 r1
    go_loopw [3, 14] (fun v t wr => ∃ (i : Nat) (rs : List RowV), i ≤ 0 ∧ t = .int .i64 i ∧ Hid (rs.length = i) ∧ wr.ownsRow w.heap.size 45 2 v i (rowCells rs) ∧ Hid (∀ j, j < i → (rs.getD j (0, none, 0, 0)).1 = (ms.getD j (0, [])).1 ∧ SliceOk (rs.getD j (0, none, 0, 0)).2.1 (rs.getD j (0, none, 0, 0)).2.2.1 (rs.getD j (0, none, 0, 0)).2.2.2 ∧ Words w (rs.getD j (0, none, 0, 0)).2.1 (rs.getD j (0, none, 0, 0)).2.2.1 ((ms.getD j (0, [])).2.take 3)) ∧ Box wr w.heap.size 24 #[.int .i64 N, .slice none 0 0] ∧ Box wr (w.heap.size + 1) 24 #[.int .i64 0, .slice none 0 0] ∧ Below w.heap.size w wr) (fun _ t _ => 0 - (intOf t).toNat)
    case atStart => exact ⟨0, [], by omega, rfl, Lib.hid rfl, World.ownsRow_nil _ _ _ _, Lib.hid (fun j hj => absurd hj (Nat.not_lt_zero _)), Q0.out, Q1.out, HW.out⟩
    case round =>
      obtain ⟨i, rs, hi, rfl, HRL, hown, HR, hb0, hb1, hbel⟩ := hrel
      have HO := Lib.hid hown
      have R0 := Lib.hid hb0
      have R1 := Lib.hid hb1
      have HB := Lib.hid hbel
      clear hown hb0 hb1 hbel Q0 Q1 HW
      obtain rfl : 0 = i := by omega
      have HFL2 := Lib.hid (show (fewM ms).length = 0 by rw [HFL.out]; omega)
      obtain ⟨A', c', rfl, hc', hmat⟩ := own_mat HO.out HRL.out (fewM ms) HFL2.out (fun j hj => by
        obtain ⟨a1, a2, a3⟩ := HR.out j hj
        rw [fewM_at ms j (by rw [HL.out]; omega) (by omega)]
        exact ⟨a1, a2, a3.below HB.out⟩)
      have HMat := Lib.hid hmat
      clear hmat
      obtain ⟨s0, s1, s2, s3⟩ := R0.out.two
      obtain ⟨t0, t1, t2, t3⟩ := R1.out.two
      have P0 := Lib.hid (R0.out.put 1 (.slice A' 0 c'))
      have P1 := Lib.hid (R1.out.far (p := ⟨w.heap.size, 1, none⟩) (by simp) (.slice A' 0 c'))
      have hlo : ∀ b o, A' = some ⟨b, o, none⟩ → 0 < 0 → b ≠ w.heap.size ∧ b ≠ w.heap.size + 1 := fun b o hA h0 => by
        have e1 := own_ne HO.out R0.out n1.out
        have e2 := own_ne HO.out R1.out n1.out
        subst hA
        exact ⟨fun e => e1 (by rw [e]; rfl), fun e => e2 (by rw [e]; rfl)⟩
      have HLo := Lib.hid hlo
      clear hlo
      have hx1 := HMat.out.farB (B := w.heap.size) (fun b o hA h0 => (HLo.out b o hA h0).1) R0.out 1 (.slice A' 0 c')
      have hx2 := hx1.farB (B := w.heap.size + 1) (fun b o hA h0 => (HLo.out b o hA h0).2) P1.out 0 (.int .i64 N)
      have HX3 := Lib.hid (hx2.farB (B := w.heap.size + 1) (fun b o hA h0 => (HLo.out b o hA h0).2) (P1.out.put 0 (.int .i64 N)) 1 (.slice A' 0 c'))
      clear hx1 hx2
      go_wp2_with fail
      refine close_one Tryd.results5 rfl rfl P1.out.put2 Tryd.underlying24 rfl (by kernel_rfl) ⟨A', c', by first | (rw [HFL2.out]; done) | (rw [HFL2.out]; rfl), by rw [HFL2.out]; exact HX3.out, ?_⟩
      exact ((HB.out.setCell (p := ⟨w.heap.size, 1, none⟩) (Nat.le_refl _) _).setCell (p := ⟨w.heap.size + 1, 0, none⟩) (by simp) _).setCell (p := ⟨w.heap.size + 1, 1, none⟩) (by simp) _
  | some ad =>
    obtain ⟨kk, ekk⟩ : ∃ k, k = min l 66 := ⟨_, rfl⟩
    have hkk1 : kk ≤ l := by omega
    have hkk2 : kk ≤ 66 := by omega
    have hkk3 : kk ≤ c := by omega
    have hkk4 : min l 66 = kk := ekk.symm
    have mkk : (if (66 : Int) < (l : Int) then 66 else (l : Int)) = (kk : Int) := by split <;> omega
    have HFL := Lib.hid (show (fewM ms).length = kk by rw [HFL.out, hkk4])
    clear ekk hkk4 hs3
    go_enter Tryd.func5, Tryd.ntmps5
    go_wp2_with fail
    clear r0 r1
    go_loopw [3, 14] (fun v t wr => ∃ (i : Nat) (rs : List RowV), i ≤ kk ∧ t = .int .i64 i ∧ Hid (rs.length = i) ∧ wr.ownsRow w.heap.size 45 2 v i (rowCells rs) ∧ Hid (∀ j, j < i → (rs.getD j (0, none, 0, 0)).1 = (ms.getD j (0, [])).1 ∧ SliceOk (rs.getD j (0, none, 0, 0)).2.1 (rs.getD j (0, none, 0, 0)).2.2.1 (rs.getD j (0, none, 0, 0)).2.2.2 ∧ Words w (rs.getD j (0, none, 0, 0)).2.1 (rs.getD j (0, none, 0, 0)).2.2.1 ((ms.getD j (0, [])).2.take 3)) ∧ Box wr w.heap.size 24 #[.int .i64 N, .slice (some ad) l c] ∧ Box wr (w.heap.size + 1) 24 #[.int .i64 0, .slice none 0 0] ∧ Below w.heap.size w wr) (fun _ t _ => kk - (intOf t).toNat)
    case atStart => exact ⟨0, [], by omega, rfl, Lib.hid rfl, World.ownsRow_nil _ _ _ _, Lib.hid (fun j hj => absurd hj (Nat.not_lt_zero _)), Q0.out, Q1.out, HW.out⟩
    case round =>
      obtain ⟨i, rs, hi, rfl, HRL, hown, HR, hb0, hb1, hbel⟩ := hrel
      have HO := Lib.hid hown
      have R0 := Lib.hid hb0
      have R1 := Lib.hid hb1
      have HB := Lib.hid hbel
      clear hown hb0 hb1 hbel Q0 Q1 HW
      by_cases hlt : i < kk
      · have hlt' : (i : Int) < (kk : Int) := by omega
        have h1 := (HM.out.below HB.out)
        obtain ⟨g1, o1, B1, l1, c1, hA, hg1, x1, y1, s1, u1⟩ := HM.out.at i (by omega)
        obtain rfl := Option.some.inj hA
        have x1 := (HB.out.cell (p := ⟨g1, o1 + i * 2, none⟩) hg1).trans x1
        have y1 := (HB.out.cell (p := ⟨g1, o1 + i * 2 + 1, none⟩) hg1).trans y1
        have HP := Lib.hid (show ms.getD i (0, []) = ((ms.getD i (0, [])).1, (ms.getD i (0, [])).2) from rfl)
        generalize (ms.getD i (0, [])).1 = n at *
        generalize (ms.getD i (0, [])).2 = us at *
        have HU := Lib.hid u1
        clear h1 u1
        have hi' := HI.out
        have hz0' := HZ0.out
        have hz1' := HZ1.out
        have hz2' := HZ2.out
        obtain ⟨ha, hb, hc⟩ := s1
        unfold maxLen at hb
        cases B1 with
        | none =>
          obtain ⟨rfl, rfl⟩ := hc rfl
          have HUN := Lib.hid (show us = [] from List.length_eq_zero_iff.1 HU.out.1)
          have HX := Lib.hid (show Below wr.heap.size wr (wr.alloc (.cells #[.int .i64 n, .slice none 0 0] 45)) from (Below.refl _ _).alloc (Nat.le_refl _) _)
          have X0 := Lib.hid (R0.out.keep HX.out)
          have X1 := Lib.hid (R1.out.keep HX.out)
          have XO := Lib.hid (own_keep HO.out HX.out)
          have XB := Lib.hid (HB.out.trans (HX.out.mono HB.out.size))
          have HWd := Lib.hid (show (n : Int) = n ∧ SliceOk none 0 0 ∧ Words w none 0 (us.take 3) from ⟨rfl, ⟨Nat.le_refl _, Nat.zero_le _, fun _ => ⟨rfl, rfl⟩⟩, by rw [HUN.out]; exact Words.nil _ _⟩)
          have Y0 := Lib.hid (X0.out.alloc (.cells #[.int .i64 n, .slice none 0 0] 45))
          have Y1 := Lib.hid (X1.out.alloc (.cells #[.int .i64 n, .slice none 0 0] 45))
          have YO := Lib.hid (XO.out.alloc (.cells #[.int .i64 n, .slice none 0 0] 45))
          have YB := Lib.hid (XB.out.alloc XB.out.size (.cells #[.int .i64 n, .slice none 0 0] 45))
          have N0 := Lib.hid (own_ne YO.out Y0.out n1.out)
          have N1 := Lib.hid (own_ne YO.out Y1.out n1.out)
          have N2 := Lib.hid (fun k hk => (XO.out.lt k hk).1)
          have BN := Box.new (wr.alloc (.cells #[.int .i64 n, .slice none 0 0] 45)) 45 #[.int .i64 n, .slice none 0 0]
          simp only [World.size_alloc] at BN
          have HNW := Lib.hid (World.news_of_block BN)
          clear BN
          have PB := Lib.hid (Box.new wr 45 #[.int .i64 n, .slice none 0 0])
          obtain ⟨p0, p1, p2, p3⟩ := (Box.new wr 45 #[.int .i64 n, .slice none 0 0]).two
          obtain ⟨z0, z1, -, -⟩ := PB.out.two
          go_wp2_with (at_builtin; refine wpList_append_own _ rfl _ _ 22 rfl w.heap.size 45 i0 (.agg #[.int .i64 0, .slice none 0 0]) 2 32 Tryd.underlying22 hi' hz0' hz1' hz2' rfl (by decide) _ _ _ rfl YO.out ⟨wr.heap.size + 1, 0, none⟩ 1 1 [.int .i64 n, .slice none 0 0] rfl rfl HNW.out (by simp [Value.oneCell']) (by simp [maxLen]; omega) (by omega) YB.out.size ?_; intro v' w1 hown' hgrow _; have Z0 := Lib.hid (Y0.out.grown hgrow N0.out); have Z1 := Lib.hid (Y1.out.grown hgrow N1.out); have ZB := Lib.hid (YB.out.grown hgrow YB.out.size N2.out); have HO2 := Lib.hid hown'; clear hown' hgrow)
          go_roundw
          case rel =>
            refine ⟨i + 1, rs ++ [(n, none, 0, 0)], by omega, by go_num, Lib.hid (by simp [HRL.out]), by rw [rowCells_snoc]; exact HO2.out, Lib.hid (fun j hj => ?_), Z0.out, Z1.out, ZB.out⟩
            by_cases hji : j < i
            · have := HR.out j hji
              have e1 : (rs ++ [(n, none, 0, 0)]).getD j (0, none, 0, 0) = rs.getD j (0, none, 0, 0) := by simp only [List.getD]; rw [List.getElem?_append_left (by rw [HRL.out]; exact hji)]
              rw [e1]; exact this
            · obtain rfl : j = i := by omega
              have e1 : (rs ++ [(n, none, 0, 0)]).getD j (0, none, 0, 0) = (n, none, 0, 0) := by rw [← HRL.out]; simp [List.getD]
              rw [e1, HP.out]
              exact HWd.out
          case measure => simp [intOf] <;> omega
        | some a1 =>
          obtain ⟨k1, ek⟩ : ∃ k, k = min l1 3 := ⟨_, rfl⟩
          have hk1 : k1 ≤ l1 := by omega
          have hk2 : k1 ≤ 3 := by omega
          have hk3 : k1 ≤ c1 := by omega
          have mk : (if (3 : Int) < (l1 : Int) then 3 else (l1 : Int)) = (k1 : Int) := by split <;> omega
          have HK := Lib.hid (show us.take k1 = us.take 3 by
            rw [ek]
            by_cases h : l1 ≤ 3
            · rw [Nat.min_eq_left h, List.take_of_length_le (by rw [HU.out.1]; omega), List.take_of_length_le (by rw [HU.out.1]; omega)]
            · rw [Nat.min_eq_right (by omega)])
          clear ek hc
          have HX := Lib.hid (show Below wr.heap.size wr (wr.alloc (.cells #[.int .i64 n, .slice (some a1) k1 c1] 45)) from (Below.refl _ _).alloc (Nat.le_refl _) _)
          have X0 := Lib.hid (R0.out.keep HX.out)
          have X1 := Lib.hid (R1.out.keep HX.out)
          have XO := Lib.hid (own_keep HO.out HX.out)
          have XB := Lib.hid (HB.out.trans (HX.out.mono HB.out.size))
          have HWd := Lib.hid (show (n : Int) = n ∧ SliceOk (some a1) k1 c1 ∧ Words w (some a1) k1 (us.take 3) from ⟨rfl, ⟨hk3, by unfold maxLen; omega, fun h => by cases h⟩, by rw [← HK.out]; exact HU.out.take k1 hk1⟩)
          have Y0 := Lib.hid (X0.out.alloc (.cells #[.int .i64 n, .slice (some a1) k1 c1] 45))
          have Y1 := Lib.hid (X1.out.alloc (.cells #[.int .i64 n, .slice (some a1) k1 c1] 45))
          have YO := Lib.hid (XO.out.alloc (.cells #[.int .i64 n, .slice (some a1) k1 c1] 45))
          have YB := Lib.hid (XB.out.alloc XB.out.size (.cells #[.int .i64 n, .slice (some a1) k1 c1] 45))
          have N0 := Lib.hid (own_ne YO.out Y0.out n1.out)
          have N1 := Lib.hid (own_ne YO.out Y1.out n1.out)
          have N2 := Lib.hid (fun k hk => (XO.out.lt k hk).1)
          have BN := Box.new (wr.alloc (.cells #[.int .i64 n, .slice (some a1) k1 c1] 45)) 45 #[.int .i64 n, .slice (some a1) k1 c1]
          simp only [World.size_alloc] at BN
          have HNW := Lib.hid (World.news_of_block BN)
          clear BN
          have PB := Lib.hid (Box.new wr 45 #[.int .i64 n, .slice (some a1) k1 c1])
          obtain ⟨p0, p1, p2, p3⟩ := (Box.new wr 45 #[.int .i64 n, .slice (some a1) l1 c1]).two
          obtain ⟨z0, z1, -, -⟩ := PB.out.two
          go_wp2_with (at_builtin; refine wpList_append_own _ rfl _ _ 22 rfl w.heap.size 45 i0 (.agg #[.int .i64 0, .slice none 0 0]) 2 32 Tryd.underlying22 hi' hz0' hz1' hz2' rfl (by decide) _ _ _ rfl YO.out ⟨wr.heap.size + 1, 0, none⟩ 1 1 [.int .i64 n, .slice (some a1) k1 c1] rfl rfl HNW.out (by simp [Value.oneCell']) (by simp [maxLen]; omega) (by omega) YB.out.size ?_; intro v' w1 hown' hgrow _; have Z0 := Lib.hid (Y0.out.grown hgrow N0.out); have Z1 := Lib.hid (Y1.out.grown hgrow N1.out); have ZB := Lib.hid (YB.out.grown hgrow YB.out.size N2.out); have HO2 := Lib.hid hown'; clear hown' hgrow)
          go_roundw
          case rel =>
            refine ⟨i + 1, rs ++ [(n, some a1, k1, c1)], by omega, by go_num, Lib.hid (by simp [HRL.out]), by rw [rowCells_snoc]; exact HO2.out, Lib.hid (fun j hj => ?_), Z0.out, Z1.out, ZB.out⟩
            by_cases hji : j < i
            · have := HR.out j hji
              have e1 : (rs ++ [(n, some a1, k1, c1)]).getD j (0, none, 0, 0) = rs.getD j (0, none, 0, 0) := by simp only [List.getD]; rw [List.getElem?_append_left (by rw [HRL.out]; exact hji)]
              rw [e1]; exact this
            · obtain rfl : j = i := by omega
              have e1 : (rs ++ [(n, some a1, k1, c1)]).getD j (0, none, 0, 0) = (n, some a1, k1, c1) := by rw [← HRL.out]; simp [List.getD]
              rw [e1, HP.out]
              exact HWd.out
          case measure => simp [intOf] <;> omega
      · have hlt' : ¬ (i : Int) < (kk : Int) := by omega
        obtain rfl : kk = i := by omega
        have HFL2 := Lib.hid (show (fewM ms).length = kk by exact HFL.out)
        obtain ⟨A', c', rfl, hc', hmat⟩ := own_mat HO.out HRL.out (fewM ms) HFL2.out (fun j hj => by
          obtain ⟨a1, a2, a3⟩ := HR.out j hj
          rw [fewM_at ms j (by rw [HL.out]; omega) (by omega)]
          exact ⟨a1, a2, a3.below HB.out⟩)
        have HMat := Lib.hid hmat
        clear hmat
        obtain ⟨s0, s1, s2, s3⟩ := R0.out.two
        obtain ⟨t0, t1, t2, t3⟩ := R1.out.two
        have P0 := Lib.hid (R0.out.put 1 (.slice A' kk c'))
        have P1 := Lib.hid (R1.out.far (p := ⟨w.heap.size, 1, none⟩) (by simp) (.slice A' kk c'))
        have hlo : ∀ b o, A' = some ⟨b, o, none⟩ → 0 < kk → b ≠ w.heap.size ∧ b ≠ w.heap.size + 1 := fun b o hA h0 => by
          have e1 := own_ne HO.out R0.out n1.out
          have e2 := own_ne HO.out R1.out n1.out
          subst hA
          exact ⟨fun e => e1 (by rw [e]; rfl), fun e => e2 (by rw [e]; rfl)⟩
        have HLo := Lib.hid hlo
        clear hlo
        have hx1 := HMat.out.farB (B := w.heap.size) (fun b o hA h0 => (HLo.out b o hA h0).1) R0.out 1 (.slice A' kk c')
        have hx2 := hx1.farB (B := w.heap.size + 1) (fun b o hA h0 => (HLo.out b o hA h0).2) P1.out 0 (.int .i64 N)
        have HX3 := Lib.hid (hx2.farB (B := w.heap.size + 1) (fun b o hA h0 => (HLo.out b o hA h0).2) (P1.out.put 0 (.int .i64 N)) 1 (.slice A' kk c'))
        clear hx1 hx2
        go_wp2_with fail
        refine close_one Tryd.results5 rfl rfl P1.out.put2 Tryd.underlying24 rfl (by kernel_rfl) ⟨A', c', by first | (rw [HFL2.out]; done) | (rw [HFL2.out]; rfl), by rw [HFL2.out]; exact HX3.out, ?_⟩
        exact ((HB.out.setCell (p := ⟨w.heap.size, 1, none⟩) (Nat.le_refl _) _).setCell (p := ⟨w.heap.size + 1, 0, none⟩) (by simp) _).setCell (p := ⟨w.heap.size + 1, 1, none⟩) (by simp) _
end
section
/- The reference's From and Of: rows of words of the call's own. -/
set_option linter.unusedVariables false
set_option linter.unusedSimpArgs false
open Go.RowKit
set_option maxHeartbeats 1000000 in
theorem from_own (A : Option Addr) (l c : Nat) (zs : List Int) (w : World) (hz : Ints w A l zs) (hl : l ≤ 10000) :
    Calls Tryd.prog 26 #[.slice A l c] w (OneOwn l (fromL (bitsOf zs) (nw l)) w) := by
  obtain ⟨i0, hi, hz0, hz1, hz2⟩ := info_parts u64_info
  have hnw : nw l ≤ 1000 := by unfold nw; omega
  have Q0 := Lib.hid ((Box.new w 45 #[.int .i64 0, .slice none 0 0]).alloc (.cells #[.int .i64 l, .slice none 0 0] 45))
  have q1 := Box.new (w.alloc (.cells #[.int .i64 0, .slice none 0 0] 45)) 45 #[.int .i64 l, .slice none 0 0]
  simp only [World.size_alloc] at q1
  have Q1 := Lib.hid q1
  have HW := Lib.hid (show Below w.heap.size w ((w.alloc (.cells #[.int .i64 0, .slice none 0 0] 45)).alloc (.cells #[.int .i64 l, .slice none 0 0] 45)) from ((Below.refl _ _).alloc (Nat.le_refl _) _).alloc (by simp) _)
  have HZ := Lib.hid hz
  clear hz q1
  have HI := Lib.hid hi
  have HZ0 := Lib.hid hz0
  have HZ1 := Lib.hid hz1
  have HZ2 := Lib.hid hz2
  clear hi hz0 hz1 hz2
  go_enter Tryd.func26, Tryd.ntmps26
  go_wp2
  go_loopw [4] (fun t wr => ∃ (i : Nat) (v : Value), i ≤ nw l ∧ t = .int .i64 i ∧ Box wr (w.heap.size + 1) 45 #[.int .i64 l, v] ∧ wr.ownsRow w.heap.size 75 1 v i ((fromL (bitsOf zs) i).map fun (x : Nat) => Value.int .u64 (x : Int)) ∧ Box wr w.heap.size 45 #[.int .i64 0, .slice none 0 0] ∧ Below w.heap.size w wr)
    (fun t _ => nw l - (intOf t).toNat)
  case atStart => exact ⟨0, _, by omega, rfl, Q1.out, World.ownsRow_nil _ _ _ _, Q0.out, HW.out⟩
  case round =>
    obtain ⟨i, v, hi, rfl, B1, hown, B0, hbel⟩ := hrel
    have R1 := Lib.hid B1
    have R0 := Lib.hid B0
    have HO := Lib.hid hown
    have HB := Lib.hid hbel
    clear B1 B0 hown hbel Q0 Q1 HW
    by_cases hlt : i < nw l
    · go_wp2_with fail
      refine (refWords_any l (by omega) _).mono ?_
      rintro e w' ⟨rfl, rfl⟩
      go_wp2
      go_loop [6, 5] (fun s x => ∃ k : Nat, k ≤ 64 ∧ s = .int .i64 ((k : Int) - 1) ∧ x = .int .u64 (accM (bitsOf zs) i (64 - k) : Nat)) (fun s _ => (intOf s + 1).toNat)
      case atStart => exact ⟨64, by omega, rfl, rfl⟩
      case round =>
        obtain ⟨k, hk, rfl, rfl⟩ := hrel
        cases k with
        | zero =>
          obtain ⟨A', c', rfl, hA'⟩ := own_form HO.out
          obtain ⟨a0, a1, f0, f1⟩ := R1.out.two
          have hz := R1.out.lt
          have hacc := accM_lt (bitsOf zs) i 64
          generalize hX : accM (bitsOf zs) i (64 - 0) = x at *
          have HX := Lib.hid hX
          clear hX
          have hi' := HI.out
          have hz0' := HZ0.out
          have hz1' := HZ1.out
          have hz2' := HZ2.out
          have hne : (75 : TypeId) ≠ 45 := by decide
          have X1 := Lib.hid (R1.out.alloc (.cells #[.int .u64 (x : Int)] 75))
          have X0 := Lib.hid (R0.out.alloc (.cells #[.int .u64 (x : Int)] 75))
          have XO := Lib.hid (HO.out.alloc (.cells #[.int .u64 (x : Int)] 75))
          have XB := Lib.hid (HB.out.alloc HB.out.size (.cells #[.int .u64 (x : Int)] 75))
          have N1 := Lib.hid (own_ne XO.out X1.out hne)
          have N0 := Lib.hid (own_ne XO.out X0.out hne)
          have hsz : w.heap.size ≤ (wr.alloc (.cells #[.int .u64 (x : Int)] 75)).heap.size := XB.out.size
          have HSZ := Lib.hid hsz
          have N2 := Lib.hid (fun k hk => (HO.out.lt k hk).1)
          clear hsz hne
          go_wp2_with (at_builtin; refine wpList_append_own _ rfl _ _ 43 rfl w.heap.size 75 i0 (.int .u64 0) 1 8 Tryd.underlying43 hi' hz0' hz1' hz2' rfl (by decide) _ _ _ rfl XO.out ⟨wr.heap.size, 0, none⟩ 1 1 [.int .u64 (x : Int)] rfl rfl (cell_one_new _ _ _) (by simp [Value.oneCell']) (by simp [maxLen]; omega) (by omega) HSZ.out ?_; intro v' w1 hown' hgrow _; obtain ⟨A2, c2, rfl, hA2⟩ := own_form hown'; have S1 := Lib.hid (X1.out.grown hgrow N1.out); have S0 := Lib.hid (X0.out.grown hgrow N0.out); have HC := Lib.hid (XB.out.grown hgrow HSZ.out N2.out); have HO2 := Lib.hid hown'; clear hown' hgrow hA2; obtain ⟨e0, e1, g0, g1⟩ := S1.out.two)
          go_roundw
          case rel =>
            refine ⟨i + 1, _, by omega, by go_num, S1.out.put 1 _, ?_, S0.out.far (p := ⟨w.heap.size + 1, 1, none⟩) (by simp) _, HC.out.setCell (p := ⟨w.heap.size + 1, 1, none⟩) (by simp) _⟩
            have h1 := HO2.out
            rw [fromL_succ, List.map_append]
            have h2 : (accM (bitsOf zs) i 64) = x := HX.out
            rw [List.map_cons, List.map_nil, h2]
            exact own_far h1 S1.out (by decide) 1 _
          case measure => simp [intOf] <;> omega
        | succ j =>
          rw [show (((j + 1 : Nat) : Int) - 1) = (j : Int) by omega]
          have hx := accM_lt (bitsOf zs) i (64 - (j + 1))
          have hp : 2 ^ (64 - (j + 1)) ≤ 2 ^ 63 := Nat.pow_le_pow_right (by omega) (by omega)
          have hx2 : accM (bitsOf zs) i (64 - (j + 1)) < 9223372036854775808 := by omega
          have HS : Hid (accM (bitsOf zs) i (64 - j) = 2 * accM (bitsOf zs) i (64 - (j + 1)) + if bitsOf zs (64 * i + j) then 1 else 0) := by
            show _ = _
            rw [show 64 - j = (64 - (j + 1)) + 1 by omega]
            simp only [accM]
            rw [show 63 - (64 - (j + 1)) = j by omega]
          clear hx hp
          generalize accM (bitsOf zs) i (64 - (j + 1)) = x at *
          by_cases hin : 64 * i + j < l
          · obtain ⟨b, o, rfl, hlb, hc⟩ := HZ.out.2.2 (by omega)
            have cz := (HB.out.cell (p := ⟨b, o + (64 * i + j), none⟩) hlb).trans (hc (64 * i + j) hin)
            have hin' : 64 * (i : Int) + j < l := by omega
            obtain ⟨y, ey⟩ : ∃ y, y = zs.getD (64 * i + j) 0 := ⟨_, rfl⟩
            rw [← ey] at cz
            have EY := Lib.hid ey
            clear ey hc
            by_cases hy : y = 1
            · have t1 : (y == 1) = true := by simpa using hy
              clear hy
              have HB1 : Hid (bitsOf zs (64 * i + j) = true) := by
                show bitsOf zs (64 * i + j) = true
                unfold bitsOf
                rw [← EY.out, t1, HZ.out.1]
                simpa using hin
              go_wp2
              go_round
              case rel => exact ⟨j, by omega, rfl, by rw [HS.out, HB1.out]; first | rfl | go_num⟩
              case measure => simp [intOf] <;> omega
            · have t1 : (y == 1) = false := by simpa using hy
              clear hy
              have HB1 : Hid (bitsOf zs (64 * i + j) = false) := by
                show bitsOf zs (64 * i + j) = false
                unfold bitsOf
                rw [← EY.out, t1]; simp
              go_wp2
              go_round
              case rel => exact ⟨j, by omega, rfl, by rw [HS.out, HB1.out]; first | rfl | go_num⟩
              case measure => simp [intOf] <;> omega
          · have hin' : ¬ 64 * (i : Int) + j < l := by omega
            have HB1 : Hid (bitsOf zs (64 * i + j) = false) := by
              show bitsOf zs (64 * i + j) = false
              unfold bitsOf
              rw [HZ.out.1]; simp; omega
            go_wp2
            go_round
            case rel => exact ⟨j, by omega, rfl, by rw [HS.out, HB1.out]; first | rfl | go_num⟩
            case measure => simp [intOf] <;> omega
    · obtain rfl : i = nw l := by omega
      obtain ⟨A', c', rfl, hA'⟩ := own_form HO.out
      obtain ⟨a0, a1, -, -⟩ := R1.out.two
      obtain ⟨b0, b1, f0, f1⟩ := R0.out.two
      go_wp2_with fail
      refine (refWords_any l (by omega) _).mono ?_
      rintro e w' ⟨rfl, rfl⟩
      go_wp2
      refine close_one Tryd.results26 rfl rfl R0.out.put2 Tryd.underlying45 rfl (by kernel_rfl) ⟨_, _, _, rfl, ?_, ?_⟩
      · exact OwnW.put2 (own_low HO.out (Nat.zero_le _)) R0.out _ _
      · exact (HB.out.setCell (p := ⟨w.heap.size, 0, none⟩) (Nat.le_refl _) _).setCell (p := ⟨w.heap.size, 1, none⟩) (Nat.le_refl _) _
end
section
/- Layer 3's reference: One. -/
set_option linter.unusedVariables false
set_option linter.unusedSimpArgs false
open Go.RowKit
theorem own_drewM {w : World} {base e size n : Nat} {v : Value} {xs : List Value} (h : w.ownsRow base e size v n xs) : w.drew.ownsRow base e size v n xs := h
theorem one_ints (w : World) (t : TypeId) (i : Nat) (hi : i ≤ 1000000) : Ints (w.alloc (.cells #[.int .i64 i] t)) (some ⟨w.heap.size, 0, none⟩) 1 [(i : Int)] := by
  have bx := Box.new w t #[.int .i64 (i : Int)]
  refine ⟨rfl, fun j => ?_, fun _ => ⟨w.heap.size, 0, rfl, bx.lt, fun j hj => ?_⟩⟩
  · match j with
    | 0 => simp; omega
    | k + 1 => simp
  · rw [Nat.zero_add, bx.cell]
    match j, hj with
    | 0, _ => rfl
/-- A row of rows of the call's own, each with a row of words of the call's own. -/
def RowsW (w : World) (base : Nat) (v : Value) (ms : List (Int × List Nat)) : Prop :=
  ∃ rs : List RowV, rs.length = ms.length ∧ w.ownsRow base 45 2 v ms.length (rowCells rs) ∧ ∀ j, j < ms.length → (rs.getD j (0, none, 0, 0)).1 = (ms.getD j (0, [])).1 ∧ OwnW w (rs.getD j (0, none, 0, 0)).2.1 (rs.getD j (0, none, 0, 0)).2.2.1 (rs.getD j (0, none, 0, 0)).2.2.2 (ms.getD j (0, [])).2
theorem RowsW.nil (w : World) (base : Nat) : RowsW w base (.slice none 0 0) [] := ⟨[], rfl, World.ownsRow_nil _ _ _ _, fun j hj => by cases hj⟩
theorem RowsW.below {w w' : World} {base : Nat} {v : Value} {ms : List (Int × List Nat)} (h : RowsW w base v ms) (hb : Below w.heap.size w w') : RowsW w' base v ms := by
  obtain ⟨rs, h1, h2, h3⟩ := h
  exact ⟨rs, h1, own_keep h2 hb, fun j hj => ⟨(h3 j hj).1, (h3 j hj).2.below hb⟩⟩
theorem RowsW.far {w : World} {base : Nat} {v : Value} {ms : List (Int × List Nat)} (h : RowsW w base v ms) {g : Nat} {t : TypeId} {cs : Array Value} (hb : Box w g t cs) (hne : 75 ≠ t) (hne2 : 45 ≠ t) (i : Nat) (u : Value) : RowsW (w.setCell ⟨g, i, none⟩ u) base v ms := by
  obtain ⟨rs, h1, h2, h3⟩ := h
  exact ⟨rs, h1, own_far h2 hb hne2 i u, fun j hj => ⟨(h3 j hj).1, (h3 j hj).2.far hb hne i u⟩⟩
theorem RowsW.snoc {w : World} {base n : Nat} {v : Value} {rs : List RowV} {ms : List (Int × List Nat)} {N : Int} {A : Option Addr} {l c : Nat} {z : List Nat} (hn : ms.length = n) (h1 : rs.length = n) (h2 : w.ownsRow base 45 2 v (n + 1) (rowCells rs ++ [.int .i64 N, .slice A l c]))
    (h3 : ∀ j, j < n → (rs.getD j (0, none, 0, 0)).1 = (ms.getD j (0, [])).1 ∧ OwnW w (rs.getD j (0, none, 0, 0)).2.1 (rs.getD j (0, none, 0, 0)).2.2.1 (rs.getD j (0, none, 0, 0)).2.2.2 (ms.getD j (0, [])).2) (h4 : OwnW w A l c z) : RowsW w base v (ms ++ [(N, z)]) := by
  subst hn
  refine ⟨rs ++ [(N, A, l, c)], by simp [h1], ?_, fun j hj => ?_⟩
  · rw [rowCells_snoc, List.length_append]; exact h2
  · rw [List.length_append] at hj
    simp only [List.length_cons, List.length_nil] at hj
    by_cases h : j < ms.length
    · have := h3 j h
      simp only [List.getD, List.getElem?_append_left h, List.getElem?_append_left (h1 ▸ h)] at this ⊢
      exact this
    · obtain rfl : j = ms.length := by omega
      have e1 : (rs ++ [(N, A, l, c)]).getD ms.length (0, none, 0, 0) = (N, A, l, c) := by rw [← h1]; simp [List.getD]
      have e2 : (ms ++ [(N, z)]).getD ms.length (0, []) = (N, z) := by simp [List.getD]
      rw [e1, e2]; exact ⟨rfl, h4⟩
theorem RowsW.mat {w : World} {base : Nat} {v : Value} {ms : List (Int × List Nat)} (h : RowsW w base v ms) (hz : ∀ i j, ((ms.getD i (0, [])).2).getD j 0 < 18446744073709551616) : ∃ A c, v = .slice A ms.length c ∧ ms.length ≤ c ∧ MatAt w base A ms.length ms := by
  obtain ⟨rs, h1, h2, h3⟩ := h
  exact own_mat h2 h1 ms rfl (fun j hj => ⟨(h3 j hj).1, (h3 j hj).2.ok, (h3 j hj).2.words (hz j)⟩)
theorem oneL_take (n i : Nat) (h : i < n) : (oneL n).take (i + 1) = (oneL n).take i ++ [((n : Int), ofBits n [(i : Int)])] := by
  rw [take_one (oneL n) i (0, []) (by rw [oneL_len]; exact h)]
  simp [oneL, List.getD, h]
theorem oneL_lt (n i j : Nat) : (((oneL n).getD i (0, [])).2).getD j 0 < 18446744073709551616 := by
  by_cases h : i < n
  · have e : (oneL n).getD i (0, []) = ((n : Int), ofBits n [(i : Int)]) := by simp [oneL, List.getD, h]
    rw [e]; exact ofBits_lt n _ j
  · have e : (oneL n)[i]? = none := List.getElem?_eq_none (by rw [oneL_len]; omega)
    simp [List.getD, e]
end
section
/- How many bits of a word are 1, byte by byte, and folded. No program. -/
set_option linter.unusedVariables false
set_option linter.unusedSimpArgs false
/-- A number by its bytes, the lowest first. -/
def valB : List Nat → Nat
  | [] => 0
  | c :: cs => c + 256 * valB cs
theorem valB_and (m : Nat) (hm : m < 256) : ∀ cs : List Nat, (∀ c ∈ cs, c < 256) → valB cs &&& valB (List.replicate cs.length m) = valB (cs.map (· &&& m))
  | [], _ => by simp [valB]
  | c :: cs, h => by
    have hc : c < 256 := h c (by simp)
    have ih := valB_and m hm cs (fun x hx => h x (by simp [hx]))
    have e1 : (valB (c :: cs) &&& valB (List.replicate (c :: cs).length m)) / 2 ^ 8 = valB (c :: cs) / 2 ^ 8 &&& valB (List.replicate (c :: cs).length m) / 2 ^ 8 := Nat.and_div_two_pow
    have e2 : (valB (c :: cs) &&& valB (List.replicate (c :: cs).length m)) % 2 ^ 8 = (valB (c :: cs) % 2 ^ 8) &&& (valB (List.replicate (c :: cs).length m) % 2 ^ 8) := Nat.and_mod_two_pow
    simp only [List.length_cons, List.replicate_succ, valB] at *
    rw [show (c + 256 * valB cs) / 2 ^ 8 = valB cs by omega, show (m + 256 * valB (List.replicate cs.length m)) / 2 ^ 8 = valB (List.replicate cs.length m) by omega, ih] at e1
    rw [show (c + 256 * valB cs) % 2 ^ 8 = c by omega, show (m + 256 * valB (List.replicate cs.length m)) % 2 ^ 8 = m by omega] at e2
    have := Nat.div_add_mod ((c + 256 * valB cs) &&& (m + 256 * valB (List.replicate cs.length m))) (2 ^ 8)
    rw [e1, e2] at this
    simp only [List.map_cons, valB]
    omega
/-- Bytes shifted down by k bits. -/
def shrB (p q : Nat) : List Nat → List Nat
  | [] => []
  | [c] => [c / p]
  | c :: d :: r => (c / p + d % p * q) :: shrB p q (d :: r)
theorem div_cut (c p q y : Nat) (hp : 0 < p) (e : p * q = 256) : (c + 256 * y) / p = c / p + q * y := by
  rw [← e, Nat.mul_assoc, Nat.add_mul_div_left _ _ hp]
theorem shrB_val (p q : Nat) (hp : 0 < p) (e : p * q = 256) : ∀ cs : List Nat, valB (shrB p q cs) = valB cs / p
  | [] => by simp [shrB, valB]
  | [c] => by simp [shrB, valB]
  | c :: d :: r => by
    have ih := shrB_val p q hp e (d :: r)
    show c / p + d % p * q + 256 * valB (shrB p q (d :: r)) = (c + 256 * valB (d :: r)) / p
    rw [ih, div_cut c p q _ hp e, ← e]
    have h1 := Nat.div_add_mod (valB (d :: r)) p
    have h2 : valB (d :: r) % p = d % p := by
      simp only [valB]
      rw [← e, Nat.mul_assoc, Nat.add_mul_mod_self_left]
    rw [h2] at h1
    have h3 : q * valB (d :: r) = q * (p * (valB (d :: r) / p) + d % p) := by rw [h1]
    rw [h3, Nat.mul_add, Nat.mul_comm (d % p) q, ← Nat.mul_assoc q p, Nat.mul_comm q p]
    omega
theorem shrB_len (p q : Nat) : ∀ cs : List Nat, (shrB p q cs).length = cs.length
  | [] => rfl
  | [c] => rfl
  | c :: d :: r => by simp only [shrB, List.length_cons]; rw [shrB_len p q (d :: r)]; rfl
theorem shrB_lt (p q : Nat) (hp : 0 < p) (e : p * q = 256) : ∀ cs : List Nat, (∀ c ∈ cs, c < 256) → ∀ c ∈ shrB p q cs, c < 256
  | [], _ => by simp [shrB]
  | [c], h => by
    intro x hx
    have : x = c / p := by simpa [shrB] using hx
    have := h c (by simp)
    have := Nat.div_le_self c p
    omega
  | c :: d :: r, h => by
    intro x hx
    rcases List.mem_cons.1 (show x ∈ (c / p + d % p * q) :: shrB p q (d :: r) from hx) with rfl | hx
    · have h1 := h c (by simp)
      have h2 : c / p < q := by rw [Nat.div_lt_iff_lt_mul hp, Nat.mul_comm, e]; exact h1
      have h3 : d % p < p := Nat.mod_lt _ hp
      have h4 : (d % p + 1) * q ≤ p * q := Nat.mul_le_mul_right _ h3
      rw [Nat.add_mul, Nat.one_mul, e] at h4
      omega
    · exact shrB_lt p q hp e (d :: r) (fun y hy => h y (by simp [hy])) x hx
theorem valB_add : ∀ xa bs : List Nat, xa.length = bs.length → valB xa + valB bs = valB (List.zipWith (· + ·) xa bs)
  | [], [], _ => rfl
  | a :: xa, b :: bs, h => by
    have ih := valB_add xa bs (by simpa using h)
    simp only [valB, List.zipWith_cons_cons]
    omega
  | [], _ :: _, h => by simp at h
  | _ :: _, [], h => by simp at h
/-- Two masked halves put together, byte by byte. -/
theorem half_map (p q m : Nat) (f : Nat → Nat) (hf : ∀ c, c < 256 → ∀ z, z < p → ((c / p + z * q) &&& m) + (c &&& m) = f c) (hf0 : ∀ c, c < 256 → ((c / p) &&& m) + (c &&& m) = f c) (hp : 0 < p) :
    ∀ cs : List Nat, (∀ c ∈ cs, c < 256) → List.zipWith (· + ·) ((shrB p q cs).map (· &&& m)) (cs.map (· &&& m)) = cs.map f
  | [], _ => rfl
  | [c], h => by simp [shrB, hf0 c (h c (by simp))]
  | c :: d :: r, h => by
    have ih := half_map p q m f hf hf0 hp (d :: r) (fun y hy => h y (by simp [hy]))
    simp only [shrB, List.map_cons, List.zipWith_cons_cons] at *
    rw [ih, hf c (h c (by simp)) (d % p) (Nat.mod_lt _ hp)]
/-- Two halves put together, and masked, byte by byte. -/
theorem both_map : ∀ cs : List Nat, (List.zipWith (· + ·) (shrB 16 16 cs) cs).map (· &&& 15) = cs.map fun c => (c / 16 + c) % 16
  | [] => rfl
  | [c] => by
    simp only [shrB, List.zipWith_cons_cons, List.zipWith_nil_left, List.map_cons, List.map_nil]
    exact congrArg (fun y => [y]) (Nat.and_two_pow_sub_one_eq_mod (c / 16 + c) 4)
  | c :: d :: r => by
    have ih := both_map (d :: r)
    simp only [shrB, List.map_cons, List.zipWith_cons_cons] at *
    rw [ih, show (c / 16 + d % 16 * 16 + c) &&& 15 = (c / 16 + d % 16 * 16 + c) % 2 ^ 4 from Nat.and_two_pow_sub_one_eq_mod _ 4, show (c / 16 + d % 16 * 16 + c) % 2 ^ 4 = (c / 16 + c) % 16 by omega]
theorem both_lt : ∀ cs : List Nat, (∀ c ∈ cs, c / 16 ≤ 4 ∧ c % 16 ≤ 4) → ∀ x ∈ List.zipWith (· + ·) (shrB 16 16 cs) cs, x < 256
  | [], _ => by simp [shrB]
  | [c], h => by
    intro x hx
    have := h c (by simp)
    have : x = c / 16 + c := by simpa [shrB] using hx
    omega
  | c :: d :: r, h => by
    intro x hx
    simp only [shrB, List.zipWith_cons_cons] at hx
    rcases List.mem_cons.1 hx with rfl | hx
    · have h1 := h c (by simp)
      have h2 := h d (by simp)
      omega
    · exact both_lt (d :: r) (fun y hy => h y (by simp [hy])) x hx
def f1 (c : Nat) : Nat := ((c / 2) &&& 85) + (c &&& 85)
def f2 (c : Nat) : Nat := ((c / 4) &&& 51) + (c &&& 51)
/-- How many bits of a byte are 1. -/
def pop8 (c : Nat) : Nat := ((List.range 8).filter c.testBit).length
theorem f1_ok : ∀ c : Fin 256, ∀ z : Fin 2, ((c.val / 2 + z.val * 128) &&& 85) + (c.val &&& 85) = f1 c.val := by decide +kernel
theorem f1_lt : ∀ c : Fin 256, f1 c.val < 171 := by decide +kernel
theorem f2_ok : ∀ c : Fin 256, ∀ z : Fin 4, ((c.val / 4 + z.val * 64) &&& 51) + (c.val &&& 51) = f2 c.val := by decide +kernel
theorem f2_lt : ∀ c : Fin 256, f2 (f1 c.val) / 16 ≤ 4 ∧ f2 (f1 c.val) % 16 ≤ 4 := by decide +kernel
theorem pop_ok : ∀ c : Fin 256, (f2 (f1 c.val) / 16 + f2 (f1 c.val)) % 16 = pop8 c.val := by decide +kernel
theorem pop_le : ∀ c : Fin 256, pop8 c.val ≤ 8 := by decide +kernel
/-- The three steps that count within bytes. -/
def stepA (x : Nat) : Nat := ((x / 2) &&& 6148914691236517205) + (x &&& 6148914691236517205)
def stepB (x : Nat) : Nat := ((x / 4) &&& 3689348814741910323) + (x &&& 3689348814741910323)
def stepC (x : Nat) : Nat := (x / 16 + x) &&& 1085102592571150095
theorem step_half (p q m : Nat) (f : Nat → Nat) (M : Nat) (hm : m < 256) (hp : 0 < p) (e : p * q = 256) (hf : ∀ c : Fin 256, ∀ z : Fin p, ((c.val / p + z.val * q) &&& m) + (c.val &&& m) = f c.val) (cs : List Nat) (h : ∀ c ∈ cs, c < 256) (hM : M = valB (List.replicate cs.length m)) :
    ((valB cs / p) &&& M) + (valB cs &&& M) = valB (cs.map f) := by
  have l1 := shrB_len p q cs
  have e1 := valB_and m hm (shrB p q cs) (shrB_lt p q hp e cs h)
  have e2 := valB_and m hm cs h
  rw [l1, shrB_val p q hp e] at e1
  rw [hM, e1, e2, valB_add _ _ (by simp [l1]), half_map p q m f (fun c hc z hz => hf ⟨c, hc⟩ ⟨z, hz⟩) (fun c hc => by have := hf ⟨c, hc⟩ ⟨0, hp⟩; simpa using this) hp cs h]
theorem steps (cs : List Nat) (h : ∀ c ∈ cs, c < 256) (h8 : cs.length = 8) : stepC (stepB (stepA (valB cs))) = valB (cs.map pop8) ∧ stepA (valB cs) = valB (cs.map f1) ∧ stepB (stepA (valB cs)) = valB (cs.map fun c => f2 (f1 c)) := by
  have a1 : stepA (valB cs) = valB (cs.map f1) := step_half 2 128 85 f1 _ (by decide) (by decide) rfl f1_ok cs h (by rw [h8]; decide)
  have hb : ∀ c ∈ cs.map f1, c < 256 := by
    intro x hx
    obtain ⟨c, hc, rfl⟩ := List.mem_map.1 hx
    have := f1_lt ⟨c, h c hc⟩
    simp only at this
    omega
  have a2 : stepB (valB (cs.map f1)) = valB ((cs.map f1).map f2) := step_half 4 64 51 f2 _ (by decide) (by decide) rfl f2_ok _ hb (by rw [List.length_map, h8]; decide)
  rw [List.map_map] at a2
  refine ⟨?_, a1, by rw [a1, a2]; rfl⟩
  rw [a1, a2]
  unfold stepC
  have hc : ∀ x ∈ cs.map (f2 ∘ f1), x / 16 ≤ 4 ∧ x % 16 ≤ 4 := by
    intro x hx
    obtain ⟨c, hc, rfl⟩ := List.mem_map.1 hx
    exact f2_lt ⟨c, h c hc⟩
  rw [← shrB_val 16 16 (by decide) rfl, valB_add _ _ (by rw [shrB_len])]
  have e3 := valB_and 15 (by decide) _ (both_lt _ hc)
  have hl : (List.zipWith (· + ·) (shrB 16 16 (cs.map (f2 ∘ f1))) (cs.map (f2 ∘ f1))).length = 8 := by simp [shrB_len, h8]
  rw [hl, both_map, List.map_map] at e3
  rw [show (1085102592571150095 : Nat) = valB (List.replicate 8 15) by decide, e3]
  congr 1
  apply List.map_congr_left
  intro c hc
  exact pop_ok ⟨c, h c hc⟩
/-- The bytes of a word. -/
def bytesW (x : Nat) : List Nat := (List.range 8).map fun i => x / 256 ^ i % 256
theorem bytesW_eq (x : Nat) : bytesW x = [x % 256, x / 256 % 256, x / 65536 % 256, x / 16777216 % 256, x / 4294967296 % 256, x / 1099511627776 % 256, x / 281474976710656 % 256, x / 72057594037927936 % 256] := by simp [bytesW, List.range_succ]
theorem bytesW_val (x : Nat) (h : x < 18446744073709551616) : valB (bytesW x) = x := by
  rw [bytesW_eq]
  simp only [valB]
  omega
/-- The sums of bytes, folded. -/
theorem fold_sum (a b c d e f g i : Nat) (h : a ≤ 8 ∧ b ≤ 8 ∧ c ≤ 8 ∧ d ≤ 8 ∧ e ≤ 8 ∧ f ≤ 8 ∧ g ≤ 8 ∧ i ≤ 8) (z t u v : Nat) (hz : z = valB [a, b, c, d, e, f, g, i]) (ht : t = z + z / 256) (hu : u = t + t / 65536) (hv : v = u + u / 4294967296) :
    v % 128 = a + b + c + d + e + f + g + i ∧ v < 18446744073709551616 := by
  simp only [valB] at hz
  have t1 : t = (a + b) + 256 * ((b + c) + 256 * ((c + d) + 256 * ((d + e) + 256 * ((e + f) + 256 * ((f + g) + 256 * ((g + i) + 256 * i)))))) := by omega
  clear ht hz
  have u1 : u = (a + b + c + d) + 256 * ((b + c + d + e) + 256 * ((c + d + e + f) + 256 * ((d + e + f + g) + 256 * ((e + f + g + i) + 256 * ((f + g + i) + 256 * ((g + i) + 256 * i)))))) := by omega
  clear hu t1
  have v1 : u / 4294967296 = (e + f + g + i) + 256 * ((f + g + i) + 256 * ((g + i) + 256 * i)) := by omega
  rw [v1, u1] at hv
  omega
/-- How many of the first m bits are 1. -/
def popW (x m : Nat) : Nat := ((List.range m).filter x.testBit).length
theorem popW_step (x m : Nat) : popW x (m + 8) = popW x m + pop8 (x / 2 ^ m % 256) := by
  unfold popW pop8
  rw [List.range_add, List.filter_append, List.length_append, List.filter_map, List.length_map]
  congr 2
  apply List.filter_congr
  intro j hj
  have hj : j < 8 := by simpa using hj
  show x.testBit (m + j) = _
  rw [show (256 : Nat) = 2 ^ 8 from rfl, Nat.testBit_mod_two_pow, Nat.testBit_div_two_pow, Nat.add_comm]
  simp [hj]
theorem popW_bytes (x : Nat) : popW x 64 = pop8 (x % 256) + pop8 (x / 256 % 256) + pop8 (x / 65536 % 256) + pop8 (x / 16777216 % 256) + pop8 (x / 4294967296 % 256) + pop8 (x / 1099511627776 % 256) + pop8 (x / 281474976710656 % 256) + pop8 (x / 72057594037927936 % 256) := by
  have s0 := popW_step x 0
  have s1 := popW_step x 8
  have s2 := popW_step x 16
  have s3 := popW_step x 24
  have s4 := popW_step x 32
  have s5 := popW_step x 40
  have s6 := popW_step x 48
  have s7 := popW_step x 56
  have z : popW x 0 = 0 := rfl
  simp only [Nat.reduceAdd, Nat.reducePow, Nat.div_one] at s0 s1 s2 s3 s4 s5 s6 s7
  omega
/-- The library's count of a word's bits, step by step. -/
theorem count_word (x : Nat) (hx : x < 18446744073709551616) (z t u v : Nat) (hz : z = stepC (stepB (stepA x))) (ht : t = z + z / 256) (hu : u = t + t / 65536) (hv : v = u + u / 4294967296) : v % 128 = popW x 64 ∧ v < 18446744073709551616 := by
  have hb : ∀ c ∈ bytesW x, c < 256 := by
    intro c hc
    rw [bytesW] at hc
    obtain ⟨i, -, rfl⟩ := List.mem_map.1 hc
    exact Nat.mod_lt _ (by omega)
  have h1 := (steps (bytesW x) hb (by simp [bytesW])).1
  rw [bytesW_val x hx] at h1
  rw [h1, bytesW_eq] at hz
  rw [popW_bytes]
  have hp : ∀ y : Nat, pop8 (y % 256) ≤ 8 := fun y => pop_le ⟨y % 256, Nat.mod_lt _ (by omega)⟩
  exact fold_sum _ _ _ _ _ _ _ _ ⟨hp x, hp _, hp _, hp _, hp _, hp _, hp _, hp _⟩ z t u v hz ht hu hv
theorem steps_small (x : Nat) : stepA x < 18446744073709551616 ∧ stepB (stepA x) < 18446744073709551616 ∧ stepA x = ((x / 2) &&& 6148914691236517205) + (x &&& 6148914691236517205) := by
  have h1 : (x / 2) &&& 6148914691236517205 ≤ 6148914691236517205 := Nat.and_le_right
  have h2 : x &&& 6148914691236517205 ≤ 6148914691236517205 := Nat.and_le_right
  have h3 : (stepA x / 4) &&& 3689348814741910323 ≤ 3689348814741910323 := Nat.and_le_right
  have h4 : stepA x &&& 3689348814741910323 ≤ 3689348814741910323 := Nat.and_le_right
  refine ⟨?_, ?_, rfl⟩
  · unfold stepA; omega
  · show (stepA x / 4 &&& 3689348814741910323) + (stepA x &&& 3689348814741910323) < _; omega
end
section
/- math/bits.OnesCount64, bitrow.Count. -/
set_option linter.unusedVariables false
set_option linter.unusedSimpArgs false
open Go.RowKit
theorem ofInt_i64N (a : Nat) (ha : a < 9223372036854775808) : (BitVec.ofInt 64 (a : Int)).toNat = a := by
  rw [BitVec.ofInt_natCast, BitVec.toNat_ofNat]; exact Nat.mod_eq_of_lt (by omega)
theorem i64_and_nat (a b : Nat) (ha : a < 9223372036854775808) (hb : b < 9223372036854775808) : bits .and .i64 (a : Int) (b : Int) = ((a &&& b : Nat) : Int) := by
  have hx : a &&& b < 2 ^ 63 := Nat.and_lt_two_pow _ (by omega)
  show IntKind.i64.wrap ((BitVec.ofInt 64 (a : Int) &&& BitVec.ofInt 64 (b : Int)).toNat : Int) = _
  rw [BitVec.toNat_and, ofInt_i64N a ha, ofInt_i64N b hb]
  exact IntWalk.i64_in _ (by omega)
theorem low7 (v : Nat) : v &&& 127 = v % 128 := Nat.and_two_pow_sub_one_eq_mod v 7
end
section
/- bitrow.Count, bitrow.Get. -/
set_option linter.unusedVariables false
set_option linter.unusedSimpArgs false
open Go.RowKit
theorem plcN_word (us : List Nat) (j : Nat) : (plcN us (64 * (j + 1))).length = (plcN us (64 * j)).length + popW (us.getD j 0) 64 := by
  unfold plcN popW
  rw [show 64 * (j + 1) = 64 * j + 64 by omega, List.range_add, List.filter_append, List.length_append, List.filter_map, List.length_map]
  congr 2
  apply List.filter_congr
  intro p hp
  have hp : p < 64 := by simpa using hp
  show (bitAt us (64 * j + p) == 1) = _
  rw [Bool.eq_iff_iff, beq_iff_eq, bitAt_bit us j p hp]
end
section
/- bitrow.First: the first place of a bit 1. -/
set_option linter.unusedVariables false
set_option linter.unusedSimpArgs false
open Go.RowKit Go.Shelf
attribute [local go_sem] Oper.semAt_some
/-- What First tells of the places. -/
def firstV : List Nat → Int
  | [] => 0
  | p :: _ => (p : Int)
def firstE : List Nat → Int
  | [] => 4
  | _ :: _ => 0
theorem boxed_putObj {W : World} {B D : Nat} {t : TypeId} {v : Value} {o : Obj} (hD : D ≠ B) (h : Boxed W B t v) : Boxed (W.putObj D o) B t v := (World.putObj_heap_other (Ne.symm hD)).trans h
end
section
/- The reference's Places: where a row's bits are 1. -/
set_option linter.unusedVariables false
set_option linter.unusedSimpArgs false
open Go.RowKit
/-- A slice of numbers of its own is returned. -/
def PlcRet (ys : List Nat) (w : World) (e : Ending) (w' : World) : Prop := ∃ v, e = .returned v ∧ w'.ownsRow w.heap.size 3 1 v ys.length (ys.map plcV) ∧ Below w.heap.size w w'
end
section
/- Contract of the reference's Numbers: are two rows the same? -/
set_option linter.unusedVariables false
set_option linter.unusedSimpArgs false
open Go.RowKit
theorem take_eq_succ {xs ys : List Int} {i : Nat} (ha : i < xs.length) (hb : i < ys.length) (h : xs.take i = ys.take i) (e : xs.getD i 0 = ys.getD i 0) : xs.take (i + 1) = ys.take (i + 1) := by
  rw [List.take_succ_eq_append_getElem ha, List.take_succ_eq_append_getElem hb, h]
  have h1 : xs.getD i 0 = xs[i] := by simp [List.getD, ha]
  have h2 : ys.getD i 0 = ys[i] := by simp [List.getD, hb]
  rw [h1, h2] at e
  rw [e]
/-- Are two rows of numbers the same? -/
def sameZ (xs ys : List Int) : Bool := decide (xs = ys)
end
section
/- BitrowTells: the walk. -/
set_option linter.unusedVariables false
set_option linter.unusedSimpArgs false
open Go.RowKit
theorem plc_right (N : Nat) (us : List Nat) (h : rightB (N : Int) us = true) : plcN us (64 * us.length) = plcN us N := by
  have hl := h
  simp only [rightB, Bool.and_eq_true, beq_iff_eq, Int.toNat_natCast] at hl
  have h1 := hl.1.2
  have hlm := hl.1.1
  have hle : N ≤ 64 * us.length := by rw [h1]; unfold nw; omega
  obtain ⟨d, hd⟩ := Nat.le.dest hle
  unfold plcN
  rw [← hd, List.range_add, List.filter_append]
  have : ((List.range d).map fun x => N + x).filter (fun p => bitAt us p == 1) = [] := by
    rw [List.filter_eq_nil_iff]
    intro x hx
    obtain ⟨y, hy, rfl⟩ := List.mem_map.1 hx
    have hy : y < d := by simpa using hy
    intro hb
    have hb : bitAt us (N + y) = 1 := by simpa using hb
    have := not_right_of_bit N us.length (N + y) us hlm rfl h1 (by omega) (by omega) hb
    rw [this] at h; cases h
  rw [this, List.append_nil]
theorem plc_no (N : Int) (A : Option Addr) (len c : Nat) (us : List Nat) (w : World) (hr : rightB N us = false) (hW : Words w A len us) :
    Calls Tryd.prog 36 #[.agg #[.int .i64 N, .slice A len c]] w fun e w' => e = .returned (.tuple #[.slice none 0 0, .int .i64 1]) ∧ Below w.heap.size w w' := by
  have Q := Lib.hid (Box.new w 45 #[.int .i64 N, .slice A len c])
  have HB := Lib.hid (show Below w.heap.size w (w.alloc (.cells #[.int .i64 N, .slice A len c] 45)) from (Below.refl _ _).alloc (Nat.le_refl _) _)
  have HR := Lib.hid (right_any N A len c us _ (hW.alloc (.cells #[.int .i64 N, .slice A len c] 45)))
  rw [hr] at HR
  obtain ⟨r0, r1, -, -⟩ := Q.out.two
  clear hW hr
  go_enter Tryd.func36, Tryd.ntmps36
  go_wp2_with fail
  refine HR.out.mono ?_
  rintro e w1 ⟨rfl, hb⟩
  have B := Lib.hid (chain HB.out hb)
  clear hb
  go_wp2
  go_ret2
  exact ⟨rfl, B.out⟩
theorem get_any (n i : Int) (A : Option Addr) (len c : Nat) (us : List Nat) (w : World) (hW : Words w A len us) :
    Calls Tryd.prog 44 #[.agg #[.int .i64 n, .slice A len c], .int .i64 i] w fun e w' => e = .returned (.tuple #[.int .i64 (getV n us i), .int .i64 (getE n us i)]) ∧ Below w.heap.size w w' := by
  unfold getV getE
  cases hr : rightB n us with
  | false => simpa using get_bad n i A len c us w hr hW
  | true =>
    cases hi : (decide (0 ≤ i) && decide (i < n)) with
    | false => simpa using get_far n i A len c us w hr hi hW
    | true =>
      simp only [Bool.and_eq_true, decide_eq_true_eq] at hi
      obtain ⟨m, rfl⟩ := Int.eq_ofNat_of_zero_le hi.1
      obtain ⟨N, rfl⟩ := Int.eq_ofNat_of_zero_le (show 0 ≤ n by omega)
      simpa using get_yes N m A len c us w hr (by omega) hW
end
section
/- Contracts of layer 3: table.sum. -/
set_option linter.unusedVariables false
set_option linter.unusedSimpArgs false
open Go.RowKit
theorem OwnW.put2o {w : World} {A : Option Addr} {l c : Nat} {zs : List Nat} (h : OwnW w A l c zs) {g : Nat} {t : TypeId} {a b : Value} (hb : Box w g t #[a, b]) (hne : 75 ≠ t) (u v : Value) : OwnW ((w.setCell ⟨g, 0, none⟩ u).setCell ⟨g, 1, none⟩ v) A l c zs :=
  (h.far hb hne 0 u).far (hb.put 0 u) hne 1 v
theorem Ints.far2 {w : World} {A : Option Addr} {len : Nat} {zs : List Int} (h : Ints w A len zs) {g : Nat} (hne : ∀ b off, 0 < len → A = some ⟨b, off, none⟩ → b ≠ g) (u v : Value) : Ints ((w.setCell ⟨g, 0, none⟩ u).setCell ⟨g, 1, none⟩ v) A len zs := by
  refine ⟨h.1, h.2.1, fun hp => ?_⟩
  obtain ⟨b, off, rfl, hlt, hc⟩ := h.2.2 hp
  have hn := hne b off hp rfl
  refine ⟨b, off, rfl, by simpa [World.setCell] using hlt, fun j hj => ?_⟩
  rw [World.cell?_setCell_other _ _ _ _ (by intro e; injection e; omega), World.cell?_setCell_other _ _ _ _ (by intro e; injection e; omega)]
  exact hc j hj
set_option maxRecDepth 100000 in
set_option maxHeartbeats 4000000 in
theorem tsum_any (N : Nat) (A : Option Addr) (l c lo : Nat) (ms : List (Int × List Nat)) (B : Option Addr) (k d : Nat) (us : List Nat) (w : World) (hm : MatAt w lo A l ms) (hr : rightM N ms = true) (hu : Words w B k us) (hru : rightB (l : Int) us = true) (hT : TabAt w 0) :
    Calls Tryd.prog 20 #[.agg #[.int .i64 N, .slice A l c], .agg #[.int .i64 l, .slice B k d]] w (OneOwn N (mulW N ms us) w) := by
  have hl := (rightM_bd hr).2.2
  rw [hm.1] at hl
  have HR := Lib.hid hr
  have HL := Lib.hid hm.1
  have HLM := Lib.hid (rightM_lmb hr)
  have HZ := Lib.hid (fun i j => hm.lt i j)
  have HRU := Lib.hid hru
  have Q0 := Lib.hid (((Box.new w 47 #[.int .i64 N, .slice A l c]).alloc (.cells #[.int .i64 l, .slice B k d] 45)).alloc (.cells #[.int .i64 0, .slice none 0 0] 45))
  have q1 := (Box.new (w.alloc (.cells #[.int .i64 N, .slice A l c] 47)) 45 #[.int .i64 l, .slice B k d]).alloc (.cells #[.int .i64 0, .slice none 0 0] 45)
  have q2 := Box.new ((w.alloc (.cells #[.int .i64 N, .slice A l c] 47)).alloc (.cells #[.int .i64 l, .slice B k d] 45)) 45 #[.int .i64 0, .slice none 0 0]
  have HW := Lib.hid (show Below w.heap.size w (((w.alloc (.cells #[.int .i64 N, .slice A l c] 47)).alloc (.cells #[.int .i64 l, .slice B k d] 45)).alloc (.cells #[.int .i64 0, .slice none 0 0] 45)) from (((Below.refl _ _).alloc (Nat.le_refl _) _).alloc (by simp) _).alloc (by simp; omega) _)
  simp only [World.size_alloc] at q1 q2
  have Q1 := Lib.hid q1
  have Q2 := Lib.hid q2
  have HM := Lib.hid hm
  have HU := Lib.hid (hu.below HW.out)
  have HT := Lib.hid (hT.below HW.out)
  clear q1 q2 hm hu hT hr hru
  obtain ⟨r0, r1, -, -⟩ := Q0.out.two
  go_enter Tryd.func20, Tryd.ntmps20
  go_wp2_with fail
  refine (new_own N HLM.out _).mono ?_
  rintro e x1 ⟨A1, l1, c1, rfl, ho, hb⟩
  have Q2a := Lib.hid Q2.out
  have Q0 := Lib.hid ((Q0.out.keep hb).alloc (.cells #[.int .i64 N, .slice A1 l1 c1] 45))
  have Q1 := Lib.hid ((Q1.out.keep hb).alloc (.cells #[.int .i64 N, .slice A1 l1 c1] 45))
  have Q2 := Lib.hid ((Q2.out.keep hb).alloc (.cells #[.int .i64 N, .slice A1 l1 c1] 45))
  have Q3 := Lib.hid (Box.new x1 45 #[.int .i64 N, .slice A1 l1 c1])
  have HU := Lib.hid ((HU.out.below hb).alloc (.cells #[.int .i64 N, .slice A1 l1 c1] 45))
  have HT := Lib.hid ((HT.out.below hb).below ((Below.refl x1.heap.size x1).alloc (Nat.le_refl _) (.cells #[.int .i64 N, .slice A1 l1 c1] 45)))
  have HO := Lib.hid (ho.alloc (.cells #[.int .i64 N, .slice A1 l1 c1] 45))
  have HB := Lib.hid ((chainN HW.out HW.out.size hb).alloc (chainN HW.out HW.out.size hb).size (.cells #[.int .i64 N, .slice A1 l1 c1] 45))
  have Q2h := Lib.hid (show w.heap.size + 1 + 1 < x1.heap.size from (Q2a.out.keep hb).lt)
  clear r0 r1 hb ho HW
  obtain ⟨s0, s1, -, -⟩ := Q1.out.two
  go_wp2_with fail
  refine (plc_yes l B k d us _ HRU.out HU.out HT.out).mono ?_
  rintro e x2 ⟨v, rfl, hown, hb⟩
  have HPL := Lib.hid (show plcN us (64 * k) = plcN us l by rw [← HU.out.1, plc_right l us HRU.out])
  rw [HPL.out] at hown
  have HLo := Lib.hid (fun g h => (hown.lt g h).1)
  obtain ⟨A2, c2, rfl, -⟩ := own_form hown
  have HP := Lib.hid (own_plcInts hown (fun x hx => by have := plcN_lt us l hx; omega))
  have hpl := plcN_len us l
  have HPM := Lib.hid (show ∀ p ∈ plcN us l, p < l from fun p hp => plcN_lt us l hp)
  have HMW := Lib.hid (show mulW N ms us = xrows N ms (plcN us l) by rw [mulW, HL.out])
  generalize plcN us l = ps at *
  have Q0 := Lib.hid (Q0.out.keep hb)
  have Q1 := Lib.hid (Q1.out.keep hb)
  have Q2 := Lib.hid (Q2.out.keep hb)
  have Q3 := Lib.hid (Q3.out.keep hb)
  have HO := Lib.hid (HO.out.below hb)
  have HB := Lib.hid (chainN HB.out HB.out.size hb)
  have HAP := Lib.hid (show ∀ b off, 0 < ps.length → A2 = some ⟨b, off, none⟩ → x1.heap.size < b from fun b off h e => by
    have := HLo.out b (by rw [e]; rfl)
    simp at this; omega)
  have HXS := Lib.hid (show w.heap.size + 1 + 1 < x1.heap.size from by have := Q2h.out; omega)
  clear hb hown s0 s1 HU HT
  go_wp2_with fail
  go_loopw [24] (fun t wr => ∃ (i : Nat) (A3 : Option Addr) (l3 c3 : Nat), i ≤ ps.length ∧ t = .int .i64 i ∧ Box wr x1.heap.size 45 #[.int .i64 N, .slice A3 l3 c3] ∧ OwnW wr A3 l3 c3 (xrows N ms (ps.take i)) ∧ Box wr w.heap.size 47 #[.int .i64 N, .slice A l c] ∧ Box wr (w.heap.size + 1 + 1) 45 #[.int .i64 0, .slice none 0 0] ∧ Ints wr A2 ps.length (plcZ ps) ∧ Below w.heap.size w wr) (fun t _ => ps.length - (intOf t).toNat)
  case atStart => exact ⟨0, A1, l1, c1, by omega, rfl, Q3.out, HO.out, Q0.out, Q2.out, HP.out, HB.out⟩
  case round =>
    obtain ⟨i, A3, l3, c3, hi, rfl, hb3, ho3, hb0, hb2, hp3, hbel⟩ := hrel
    have R3 := Lib.hid hb3
    have RO := Lib.hid ho3
    have R0 := Lib.hid hb0
    have R2 := Lib.hid hb2
    have RP := Lib.hid hp3
    have RB := Lib.hid hbel
    clear hb3 ho3 hb0 hb2 hp3 hbel Q0 Q1 Q2 Q3 HO HB HP
    by_cases hlt : i < ps.length
    · have hlt' : (i : Int) < (ps.length : Int) := by omega
      have hpi : ps.getD i 0 ∈ ps := by simp [List.getD, hlt]
      have hplt := HPM.out _ hpi
      obtain ⟨b2, o2, rfl, hb2, hc2⟩ := RP.out.2.2 (by omega)
      have cp := hc2 i hlt
      rw [plcZ_getD] at cp
      have HTK := Lib.hid (show xrows N ms (ps.take (i + 1)) = xorL (xrows N ms (ps.take i)) (ms.getD (ps.getD i 0) (0, [])).2 by rw [take_one ps i 0 hlt, xrows_snoc])
      obtain ⟨hN, hrr⟩ := rightM_at HR.out (ps.getD i 0) (by rw [HL.out]; exact hplt)
      obtain ⟨g1, o1, B1, k1, e1, rfl, hg1, x1', y1', s1, u1⟩ := (HM.out.mono (Nat.le_refl _) RB.out).at (ps.getD i 0) hplt
      have HX := Lib.hid (xor_own N A3 B1 l3 c3 k1 e1 _ _ wr.drew (RO.out.drew.words (xrows_lt N HZ.out _)) u1.drew (xrows_right HR.out _ (fun p hp => by rw [HL.out]; exact HPM.out p (List.mem_of_mem_take hp))) hrr)
      rw [← HTK.out] at HX
      rw [hN] at x1'
      clear hc2 hN hrr s1 u1 hpi
      generalize ps.getD i 0 = p at *
      have hplt' : (p : Int) < (l : Int) := by omega
      obtain ⟨a0, a1, af0, af1⟩ := R3.out.two
      obtain ⟨d0, d1, -, -⟩ := R0.out.two
      go_wp2_with fail
      go_region_law (first
        | (go_simp; go_at_call 37; refine HX.out.mono ?_; rintro e5 y1 ⟨A5, l5, c5, rfl, hw, hb⟩; have S3 := Lib.hid (R3.out.drew.keep hb); have S0 := Lib.hid (R0.out.drew.keep hb); have S2 := Lib.hid (R2.out.drew.keep hb); have SP := Lib.hid ((show Ints wr.drew _ _ _ from RP.out).below hb); have SB := Lib.hid (chainN RB.out.drew RB.out.size hb); have SW := Lib.hid hw; clear hb hw; obtain ⟨z0, z1, zf0, zf1⟩ := S3.out.two))
      all_goals
        go_wp2_with fail
        go_roundw
        case rel =>
          refine ⟨i + 1, A5, l5, c5, by omega, by go_num, S3.out.put2, SW.out.put2 S3.out _ _, (S0.out.far (p := ⟨x1.heap.size, 0, none⟩) (by have := R0.out.lt; have := HXS.out; simp; omega) _).far (p := ⟨x1.heap.size, 1, none⟩) (by have := HXS.out; simp; omega) _, (S2.out.far (p := ⟨x1.heap.size, 0, none⟩) (by have := HXS.out; simp; omega) _).far (p := ⟨x1.heap.size, 1, none⟩) (by have := HXS.out; simp; omega) _, SP.out.far2 (fun b off h e => by have := HAP.out b off h e; omega) _ _, (SB.out.setCell (p := ⟨x1.heap.size, 0, none⟩) (by have := HXS.out; simp; omega) _).setCell (p := ⟨x1.heap.size, 1, none⟩) (by have := HXS.out; simp; omega) _⟩
        case measure => simp [intOf] <;> omega
    · obtain rfl : i = ps.length := by omega
      have hlt' : ¬ (ps.length : Int) < (ps.length : Int) := by omega
      have HTK := Lib.hid (show ps.take ps.length = ps from List.take_length)
      rw [HTK.out] at RO
      obtain ⟨a0, a1, -, -⟩ := R3.out.two
      obtain ⟨b0, b1, f0, f1⟩ := R2.out.two
      go_wp2
      refine close_one Tryd.results20 rfl rfl R2.out.put2 Tryd.underlying45 rfl (by kernel_rfl) ⟨_, _, _, rfl, ?_, (RB.out.setCell (p := ⟨w.heap.size + 1 + 1, 0, none⟩) (by simp; omega) _).setCell (p := ⟨w.heap.size + 1 + 1, 1, none⟩) (by simp; omega) _⟩
      rw [HMW.out]
      exact RO.out.put2 R2.out _ _
end
end Go.Proofs.YtljooknodnblbaaDoor
