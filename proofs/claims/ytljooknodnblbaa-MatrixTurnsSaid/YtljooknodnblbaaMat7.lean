/- Contract of law 03's few: a matrix of at most 66 rows, of three words each. -/
import Derived.Test.YtljooknodnblbaaMat6
import Derived.OpenShut
import Derived.Deep.AppendLies
namespace Go.Proofs.Ytljooknodnblbaa
set_option linter.unusedVariables false
set_option linter.unusedSimpArgs false
open Go.RowKit
def cutR (r : Int × List Nat) : Int × List Nat := (r.1, r.2.take 3)
def fewM (ms : List (Int × List Nat)) : List (Int × List Nat) := (ms.take 66).map cutR
theorem fewM_len (ms : List (Int × List Nat)) : (fewM ms).length = min ms.length 66 := by simp [fewM]; omega
theorem fewM_at (ms : List (Int × List Nat)) (j : Nat) (h : j < ms.length) (h2 : j < 66) : (fewM ms).getD j (0, []) = cutR (ms.getD j (0, [])) := by
  simp [fewM, List.getD, h, h2]
theorem fewM_short (ms : List (Int × List Nat)) (j : Nat) : ((fewM ms).getD j (0, [])).2.length ≤ 3 := by
  by_cases h : j < (fewM ms).length
  · have h1 : j < ms.length := by have := fewM_len ms; omega
    have h2 : j < 66 := by have := fewM_len ms; omega
    rw [fewM_at ms j h1 h2]; simp [cutR]; omega
  · have : (fewM ms)[j]? = none := List.getElem?_eq_none (by omega)
    simp [List.getD, this]
theorem add_zeroM (g j : Nat) : (⟨g, 0, none⟩ : Addr).add j = ⟨g, j, none⟩ := by unfold Addr.add; split <;> simp_all
/-- A row of rows of the call's own, read as a matrix. -/
theorem own_mat {w : World} {base n : Nat} {v : Value} {rs : List RowV} (h : w.ownsRow base 37 2 v n (rowCells rs)) (hn : rs.length = n) (ms : List (Int × List Nat)) (hl : ms.length = n)
    (hf : ∀ j, j < n → (rs.getD j (0, none, 0, 0)).1 = (ms.getD j (0, [])).1 ∧ SliceOk (rs.getD j (0, none, 0, 0)).2.1 (rs.getD j (0, none, 0, 0)).2.2.1 (rs.getD j (0, none, 0, 0)).2.2.2 ∧ Words w (rs.getD j (0, none, 0, 0)).2.1 (rs.getD j (0, none, 0, 0)).2.2.1 (ms.getD j (0, [])).2) :
    ∃ A c, v = .slice A n c ∧ n ≤ c ∧ MatAt w base A n ms := by
  rcases h.2 with ⟨hv, h0⟩ | ⟨g, cap, cur, hv, hb, hh, hc, -⟩
  · subst h0
    obtain rfl : ms = [] := List.length_eq_zero_iff.1 hl
    exact ⟨none, 0, hv, Nat.le_refl _, MatAt.nil _ _ _⟩
  · refine ⟨some ⟨g, 0, none⟩, cap, hv, hc, hl, fun hp => ⟨g, 0, rfl, hb, (h.lt g (by rw [hv]; rfl)).2, fun j hj => ?_⟩⟩
    obtain ⟨f1, f2⟩ := rowCells_at rs j (by omega)
    obtain ⟨a1, a2, a3⟩ := hf j hj
    have hc := World.ownsRow.cells h (g := g) (by rw [hv]; rfl)
    have c1 := hc _ _ f1
    have c2 := hc _ _ f2
    rw [add_zeroM] at c1 c2
    refine ⟨_, _, _, ?_, ?_, a2, a3⟩
    · rw [Nat.zero_add, c1, a1]
    · rw [Nat.zero_add, c2]
/-- A matrix's rows keep off a store into a box of a matrix that is another block. -/
theorem MatAt.farB {w : World} {lo : Nat} {A : Option Addr} {len : Nat} {ms : List (Int × List Nat)} (h : MatAt w lo A len ms) {B : Nat} {t : TypeId} {x : Int} {S : Option Addr} {p q : Nat} (hne : ∀ b o, A = some ⟨b, o, none⟩ → 0 < len → b ≠ B) (hb : Box w B t #[.int .i64 x, .slice S p q]) (i : Nat) (u : Value) : MatAt (w.setCell ⟨B, i, none⟩ u) lo A len ms := by
  refine ⟨h.1, fun hp => ?_⟩
  obtain ⟨b, off, rfl, h1, h2, h3⟩ := h.2 hp
  have hnb := hne b off rfl hp
  refine ⟨b, off, rfl, h1, by simpa [World.setCell] using h2, fun j hj => ?_⟩
  obtain ⟨Bw, l, c, r0, r1, r2, r3⟩ := h3 j hj
  refine ⟨Bw, l, c, ?_, ?_, r2, ?_⟩
  · rw [World.cell?_setCell_other _ _ _ _ (by intro e; injection e; omega)]; exact r0
  · rw [World.cell?_setCell_other _ _ _ _ (by intro e; injection e; omega)]; exact r1
  · refine ⟨r3.1, r3.2.1, fun hp => ?_⟩
    obtain ⟨b', off', rfl, hlt, hc⟩ := r3.2.2 hp
    have hnw := r3.off hb b' off' rfl hp
    refine ⟨b', off', rfl, by simpa [World.setCell] using hlt, fun j hj => ?_⟩
    rw [World.cell?_setCell_other _ _ _ _ (by intro e; injection e; omega)]
    exact hc j hj
set_option maxRecDepth 100000 in
set_option maxHeartbeats 4000000 in
theorem few3_any (N : Int) (A : Option Addr) (l c : Nat) (ms : List (Int × List Nat)) (w : World) (hs : SliceOk A l c) (hm : MatAt w 0 A l ms) :
    Calls Try.prog 4 #[.agg #[.int .i64 N, .slice A l c]] w (MatOne N (fewM ms) w) := by
  obtain ⟨i0, hi, hz0, hz1, hz2⟩ := info_parts row_infoM
  have HI := Lib.hid hi
  have HZ0 := Lib.hid hz0
  have HZ1 := Lib.hid hz1
  have HZ2 := Lib.hid hz2
  clear hi hz0 hz1 hz2
  have HM := Lib.hid hm
  have HL := Lib.hid hm.1
  have Q0 := Lib.hid ((Box.new w 24 #[.int .i64 N, .slice A l c]).alloc (.cells #[.int .i64 0, .slice none 0 0] 24))
  have q1 := Box.new (w.alloc (.cells #[.int .i64 N, .slice A l c] 24)) 24 #[.int .i64 0, .slice none 0 0]
  have HW := Lib.hid (show Below w.heap.size w ((w.alloc (.cells #[.int .i64 N, .slice A l c] 24)).alloc (.cells #[.int .i64 0, .slice none 0 0] 24)) from ((Below.refl _ _).alloc (Nat.le_refl _) _).alloc (by simp) _)
  simp only [World.size_alloc] at q1
  have Q1 := Lib.hid q1
  have n1 := Lib.hid (show (37 : TypeId) ≠ 24 by decide)
  clear hm q1
  obtain ⟨r0, r1, -, -⟩ := Q0.out.two
  obtain ⟨hs1, hs2, hs3⟩ := hs
  unfold maxLen at hs2
  have hfl := fewM_len ms
  rw [HL.out] at hfl
  have HFL := Lib.hid hfl
  clear hfl
  cases A with
  | none =>
    obtain ⟨rfl, rfl⟩ := hs3 rfl
    have HM0 := Lib.hid (show ms = [] from List.length_eq_zero_iff.1 HL.out)
    go_enter Try.func4, Try.ntmps4
    go_wp2_with fail
    clear r0 r1
    go_loopw [3, 14] (fun v t wr => ∃ (i : Nat) (rs : List RowV), i ≤ 0 ∧ t = .int .i64 i ∧ Hid (rs.length = i) ∧ wr.ownsRow w.heap.size 37 2 v i (rowCells rs) ∧ Hid (∀ j, j < i → (rs.getD j (0, none, 0, 0)).1 = (ms.getD j (0, [])).1 ∧ SliceOk (rs.getD j (0, none, 0, 0)).2.1 (rs.getD j (0, none, 0, 0)).2.2.1 (rs.getD j (0, none, 0, 0)).2.2.2 ∧ Words w (rs.getD j (0, none, 0, 0)).2.1 (rs.getD j (0, none, 0, 0)).2.2.1 ((ms.getD j (0, [])).2.take 3)) ∧ Box wr w.heap.size 24 #[.int .i64 N, .slice none 0 0] ∧ Box wr (w.heap.size + 1) 24 #[.int .i64 0, .slice none 0 0] ∧ Below w.heap.size w wr) (fun _ t _ => 0 - (intOf t).toNat)
    case atStart => exact ⟨0, [], by omega, rfl, Lib.hid rfl, World.ownsRow_nil _ _ _ _, Lib.hid (fun j hj => absurd hj (Nat.not_lt_zero _)), Q0.out, Q1.out, HW.out⟩
    case round =>
      obtain ⟨i, rs, hi, rfl, HRL, hown, HR, hb0, hb1, hbel⟩ := hrel
      have HO := Lib.hid hown
      have R0 := Lib.hid hb0
      have R1 := Lib.hid hb1
      have HB := Lib.hid hbel
      clear hown hb0 hb1 hbel Q0 Q1 HW
      obtain rfl : 0 = i := by omega
      have HFL2 := Lib.hid (show (fewM ms).length = 0 by rw [HFL.out]; omega)
      obtain ⟨A', c', rfl, hc', hmat⟩ := own_mat HO.out HRL.out (fewM ms) HFL2.out (fun j hj => by
        obtain ⟨a1, a2, a3⟩ := HR.out j hj
        rw [fewM_at ms j (by rw [HL.out]; omega) (by omega)]
        exact ⟨a1, a2, a3.below HB.out⟩)
      have HMat := Lib.hid hmat
      clear hmat
      obtain ⟨s0, s1, s2, s3⟩ := R0.out.two
      obtain ⟨t0, t1, t2, t3⟩ := R1.out.two
      have P0 := Lib.hid (R0.out.put 1 (.slice A' 0 c'))
      have P1 := Lib.hid (R1.out.far (p := ⟨w.heap.size, 1, none⟩) (by simp) (.slice A' 0 c'))
      have hlo : ∀ b o, A' = some ⟨b, o, none⟩ → 0 < 0 → b ≠ w.heap.size ∧ b ≠ w.heap.size + 1 := fun b o hA h0 => by
        have e1 := own_ne HO.out R0.out n1.out
        have e2 := own_ne HO.out R1.out n1.out
        subst hA
        exact ⟨fun e => e1 (by rw [e]; rfl), fun e => e2 (by rw [e]; rfl)⟩
      have HLo := Lib.hid hlo
      clear hlo
      have hx1 := HMat.out.farB (B := w.heap.size) (fun b o hA h0 => (HLo.out b o hA h0).1) R0.out 1 (.slice A' 0 c')
      have hx2 := hx1.farB (B := w.heap.size + 1) (fun b o hA h0 => (HLo.out b o hA h0).2) P1.out 0 (.int .i64 N)
      have HX3 := Lib.hid (hx2.farB (B := w.heap.size + 1) (fun b o hA h0 => (HLo.out b o hA h0).2) (P1.out.put 0 (.int .i64 N)) 1 (.slice A' 0 c'))
      clear hx1 hx2
      go_wp2_with fail
      refine close_one Try.results4 rfl rfl P1.out.put2 Try.underlying24 rfl (by kernel_rfl) ⟨A', c', by first | (rw [HFL2.out]; done) | (rw [HFL2.out]; rfl), by rw [HFL2.out]; exact HX3.out, ?_⟩
      exact ((HB.out.setCell (p := ⟨w.heap.size, 1, none⟩) (Nat.le_refl _) _).setCell (p := ⟨w.heap.size + 1, 0, none⟩) (by simp) _).setCell (p := ⟨w.heap.size + 1, 1, none⟩) (by simp) _
  | some ad =>
    obtain ⟨kk, ekk⟩ : ∃ k, k = min l 66 := ⟨_, rfl⟩
    have hkk1 : kk ≤ l := by omega
    have hkk2 : kk ≤ 66 := by omega
    have hkk3 : kk ≤ c := by omega
    have hkk4 : min l 66 = kk := ekk.symm
    have mkk : (if (66 : Int) < (l : Int) then 66 else (l : Int)) = (kk : Int) := by split <;> omega
    have HFL := Lib.hid (show (fewM ms).length = kk by rw [HFL.out, hkk4])
    clear ekk hkk4 hs3
    go_enter Try.func4, Try.ntmps4
    go_wp2_with fail
    clear r0 r1
    go_loopw [3, 14] (fun v t wr => ∃ (i : Nat) (rs : List RowV), i ≤ kk ∧ t = .int .i64 i ∧ Hid (rs.length = i) ∧ wr.ownsRow w.heap.size 37 2 v i (rowCells rs) ∧ Hid (∀ j, j < i → (rs.getD j (0, none, 0, 0)).1 = (ms.getD j (0, [])).1 ∧ SliceOk (rs.getD j (0, none, 0, 0)).2.1 (rs.getD j (0, none, 0, 0)).2.2.1 (rs.getD j (0, none, 0, 0)).2.2.2 ∧ Words w (rs.getD j (0, none, 0, 0)).2.1 (rs.getD j (0, none, 0, 0)).2.2.1 ((ms.getD j (0, [])).2.take 3)) ∧ Box wr w.heap.size 24 #[.int .i64 N, .slice (some ad) l c] ∧ Box wr (w.heap.size + 1) 24 #[.int .i64 0, .slice none 0 0] ∧ Below w.heap.size w wr) (fun _ t _ => kk - (intOf t).toNat)
    case atStart => exact ⟨0, [], by omega, rfl, Lib.hid rfl, World.ownsRow_nil _ _ _ _, Lib.hid (fun j hj => absurd hj (Nat.not_lt_zero _)), Q0.out, Q1.out, HW.out⟩
    case round =>
      obtain ⟨i, rs, hi, rfl, HRL, hown, HR, hb0, hb1, hbel⟩ := hrel
      have HO := Lib.hid hown
      have R0 := Lib.hid hb0
      have R1 := Lib.hid hb1
      have HB := Lib.hid hbel
      clear hown hb0 hb1 hbel Q0 Q1 HW
      by_cases hlt : i < kk
      · have hlt' : (i : Int) < (kk : Int) := by omega
        have h1 := (HM.out.below HB.out)
        obtain ⟨g1, o1, B1, l1, c1, hA, hg1, x1, y1, s1, u1⟩ := HM.out.at i (by omega)
        obtain rfl := Option.some.inj hA
        have x1 := (HB.out.cell (p := ⟨g1, o1 + i * 2, none⟩) hg1).trans x1
        have y1 := (HB.out.cell (p := ⟨g1, o1 + i * 2 + 1, none⟩) hg1).trans y1
        have HP := Lib.hid (show ms.getD i (0, []) = ((ms.getD i (0, [])).1, (ms.getD i (0, [])).2) from rfl)
        generalize (ms.getD i (0, [])).1 = n at *
        generalize (ms.getD i (0, [])).2 = us at *
        have HU := Lib.hid u1
        clear h1 u1
        have hi' := HI.out
        have hz0' := HZ0.out
        have hz1' := HZ1.out
        have hz2' := HZ2.out
        obtain ⟨ha, hb, hc⟩ := s1
        unfold maxLen at hb
        cases B1 with
        | none =>
          obtain ⟨rfl, rfl⟩ := hc rfl
          have HUN := Lib.hid (show us = [] from List.length_eq_zero_iff.1 HU.out.1)
          have HX := Lib.hid (show Below wr.heap.size wr (wr.alloc (.cells #[.int .i64 n, .slice none 0 0] 37)) from (Below.refl _ _).alloc (Nat.le_refl _) _)
          have X0 := Lib.hid (R0.out.keep HX.out)
          have X1 := Lib.hid (R1.out.keep HX.out)
          have XO := Lib.hid (own_keep HO.out HX.out)
          have XB := Lib.hid (HB.out.trans (HX.out.mono HB.out.size))
          have HWd := Lib.hid (show (n : Int) = n ∧ SliceOk none 0 0 ∧ Words w none 0 (us.take 3) from ⟨rfl, ⟨Nat.le_refl _, Nat.zero_le _, fun _ => ⟨rfl, rfl⟩⟩, by rw [HUN.out]; exact Words.nil _ _⟩)
          have Y0 := Lib.hid (X0.out.alloc (.cells #[.int .i64 n, .slice none 0 0] 37))
          have Y1 := Lib.hid (X1.out.alloc (.cells #[.int .i64 n, .slice none 0 0] 37))
          have YO := Lib.hid (XO.out.alloc (.cells #[.int .i64 n, .slice none 0 0] 37))
          have YB := Lib.hid (XB.out.alloc XB.out.size (.cells #[.int .i64 n, .slice none 0 0] 37))
          have N0 := Lib.hid (own_ne YO.out Y0.out n1.out)
          have N1 := Lib.hid (own_ne YO.out Y1.out n1.out)
          have N2 := Lib.hid (fun k hk => (XO.out.lt k hk).1)
          have BN := Box.new (wr.alloc (.cells #[.int .i64 n, .slice none 0 0] 37)) 37 #[.int .i64 n, .slice none 0 0]
          simp only [World.size_alloc] at BN
          have HNW := Lib.hid (World.news_of_block BN)
          clear BN
          have PB := Lib.hid (Box.new wr 37 #[.int .i64 n, .slice none 0 0])
          obtain ⟨p0, p1, p2, p3⟩ := (Box.new wr 37 #[.int .i64 n, .slice none 0 0]).two
          obtain ⟨z0, z1, -, -⟩ := PB.out.two
          go_wp2_with (at_builtin; refine wpList_append_own _ rfl _ _ 22 rfl w.heap.size 37 i0 (.agg #[.int .i64 0, .slice none 0 0]) 2 32 Try.underlying22 hi' hz0' hz1' hz2' rfl (by decide) _ _ _ rfl YO.out ⟨wr.heap.size + 1, 0, none⟩ 1 1 [.int .i64 n, .slice none 0 0] rfl rfl HNW.out (by simp [Value.oneCell']) (by simp [maxLen]; omega) (by omega) YB.out.size ?_; intro v' w1 hown' hgrow _; have Z0 := Lib.hid (Y0.out.grown hgrow N0.out); have Z1 := Lib.hid (Y1.out.grown hgrow N1.out); have ZB := Lib.hid (YB.out.grown hgrow YB.out.size N2.out); have HO2 := Lib.hid hown'; clear hown' hgrow)
          go_roundw
          case rel =>
            refine ⟨i + 1, rs ++ [(n, none, 0, 0)], by omega, by go_num, Lib.hid (by simp [HRL.out]), by rw [rowCells_snoc]; exact HO2.out, Lib.hid (fun j hj => ?_), Z0.out, Z1.out, ZB.out⟩
            by_cases hji : j < i
            · have := HR.out j hji
              have e1 : (rs ++ [(n, none, 0, 0)]).getD j (0, none, 0, 0) = rs.getD j (0, none, 0, 0) := by simp only [List.getD]; rw [List.getElem?_append_left (by rw [HRL.out]; exact hji)]
              rw [e1]; exact this
            · obtain rfl : j = i := by omega
              have e1 : (rs ++ [(n, none, 0, 0)]).getD j (0, none, 0, 0) = (n, none, 0, 0) := by rw [← HRL.out]; simp [List.getD]
              rw [e1, HP.out]
              exact HWd.out
          case measure => simp [intOf] <;> omega
        | some a1 =>
          obtain ⟨k1, ek⟩ : ∃ k, k = min l1 3 := ⟨_, rfl⟩
          have hk1 : k1 ≤ l1 := by omega
          have hk2 : k1 ≤ 3 := by omega
          have hk3 : k1 ≤ c1 := by omega
          have mk : (if (3 : Int) < (l1 : Int) then 3 else (l1 : Int)) = (k1 : Int) := by split <;> omega
          have HK := Lib.hid (show us.take k1 = us.take 3 by
            rw [ek]
            by_cases h : l1 ≤ 3
            · rw [Nat.min_eq_left h, List.take_of_length_le (by rw [HU.out.1]; omega), List.take_of_length_le (by rw [HU.out.1]; omega)]
            · rw [Nat.min_eq_right (by omega)])
          clear ek hc
          have HX := Lib.hid (show Below wr.heap.size wr (wr.alloc (.cells #[.int .i64 n, .slice (some a1) k1 c1] 37)) from (Below.refl _ _).alloc (Nat.le_refl _) _)
          have X0 := Lib.hid (R0.out.keep HX.out)
          have X1 := Lib.hid (R1.out.keep HX.out)
          have XO := Lib.hid (own_keep HO.out HX.out)
          have XB := Lib.hid (HB.out.trans (HX.out.mono HB.out.size))
          have HWd := Lib.hid (show (n : Int) = n ∧ SliceOk (some a1) k1 c1 ∧ Words w (some a1) k1 (us.take 3) from ⟨rfl, ⟨hk3, by unfold maxLen; omega, fun h => by cases h⟩, by rw [← HK.out]; exact HU.out.take k1 hk1⟩)
          have Y0 := Lib.hid (X0.out.alloc (.cells #[.int .i64 n, .slice (some a1) k1 c1] 37))
          have Y1 := Lib.hid (X1.out.alloc (.cells #[.int .i64 n, .slice (some a1) k1 c1] 37))
          have YO := Lib.hid (XO.out.alloc (.cells #[.int .i64 n, .slice (some a1) k1 c1] 37))
          have YB := Lib.hid (XB.out.alloc XB.out.size (.cells #[.int .i64 n, .slice (some a1) k1 c1] 37))
          have N0 := Lib.hid (own_ne YO.out Y0.out n1.out)
          have N1 := Lib.hid (own_ne YO.out Y1.out n1.out)
          have N2 := Lib.hid (fun k hk => (XO.out.lt k hk).1)
          have BN := Box.new (wr.alloc (.cells #[.int .i64 n, .slice (some a1) k1 c1] 37)) 37 #[.int .i64 n, .slice (some a1) k1 c1]
          simp only [World.size_alloc] at BN
          have HNW := Lib.hid (World.news_of_block BN)
          clear BN
          have PB := Lib.hid (Box.new wr 37 #[.int .i64 n, .slice (some a1) k1 c1])
          obtain ⟨p0, p1, p2, p3⟩ := (Box.new wr 37 #[.int .i64 n, .slice (some a1) l1 c1]).two
          obtain ⟨z0, z1, -, -⟩ := PB.out.two
          go_wp2_with (at_builtin; refine wpList_append_own _ rfl _ _ 22 rfl w.heap.size 37 i0 (.agg #[.int .i64 0, .slice none 0 0]) 2 32 Try.underlying22 hi' hz0' hz1' hz2' rfl (by decide) _ _ _ rfl YO.out ⟨wr.heap.size + 1, 0, none⟩ 1 1 [.int .i64 n, .slice (some a1) k1 c1] rfl rfl HNW.out (by simp [Value.oneCell']) (by simp [maxLen]; omega) (by omega) YB.out.size ?_; intro v' w1 hown' hgrow _; have Z0 := Lib.hid (Y0.out.grown hgrow N0.out); have Z1 := Lib.hid (Y1.out.grown hgrow N1.out); have ZB := Lib.hid (YB.out.grown hgrow YB.out.size N2.out); have HO2 := Lib.hid hown'; clear hown' hgrow)
          go_roundw
          case rel =>
            refine ⟨i + 1, rs ++ [(n, some a1, k1, c1)], by omega, by go_num, Lib.hid (by simp [HRL.out]), by rw [rowCells_snoc]; exact HO2.out, Lib.hid (fun j hj => ?_), Z0.out, Z1.out, ZB.out⟩
            by_cases hji : j < i
            · have := HR.out j hji
              have e1 : (rs ++ [(n, some a1, k1, c1)]).getD j (0, none, 0, 0) = rs.getD j (0, none, 0, 0) := by simp only [List.getD]; rw [List.getElem?_append_left (by rw [HRL.out]; exact hji)]
              rw [e1]; exact this
            · obtain rfl : j = i := by omega
              have e1 : (rs ++ [(n, some a1, k1, c1)]).getD j (0, none, 0, 0) = (n, some a1, k1, c1) := by rw [← HRL.out]; simp [List.getD]
              rw [e1, HP.out]
              exact HWd.out
          case measure => simp [intOf] <;> omega
      · have hlt' : ¬ (i : Int) < (kk : Int) := by omega
        obtain rfl : kk = i := by omega
        have HFL2 := Lib.hid (show (fewM ms).length = kk by exact HFL.out)
        obtain ⟨A', c', rfl, hc', hmat⟩ := own_mat HO.out HRL.out (fewM ms) HFL2.out (fun j hj => by
          obtain ⟨a1, a2, a3⟩ := HR.out j hj
          rw [fewM_at ms j (by rw [HL.out]; omega) (by omega)]
          exact ⟨a1, a2, a3.below HB.out⟩)
        have HMat := Lib.hid hmat
        clear hmat
        obtain ⟨s0, s1, s2, s3⟩ := R0.out.two
        obtain ⟨t0, t1, t2, t3⟩ := R1.out.two
        have P0 := Lib.hid (R0.out.put 1 (.slice A' kk c'))
        have P1 := Lib.hid (R1.out.far (p := ⟨w.heap.size, 1, none⟩) (by simp) (.slice A' kk c'))
        have hlo : ∀ b o, A' = some ⟨b, o, none⟩ → 0 < kk → b ≠ w.heap.size ∧ b ≠ w.heap.size + 1 := fun b o hA h0 => by
          have e1 := own_ne HO.out R0.out n1.out
          have e2 := own_ne HO.out R1.out n1.out
          subst hA
          exact ⟨fun e => e1 (by rw [e]; rfl), fun e => e2 (by rw [e]; rfl)⟩
        have HLo := Lib.hid hlo
        clear hlo
        have hx1 := HMat.out.farB (B := w.heap.size) (fun b o hA h0 => (HLo.out b o hA h0).1) R0.out 1 (.slice A' kk c')
        have hx2 := hx1.farB (B := w.heap.size + 1) (fun b o hA h0 => (HLo.out b o hA h0).2) P1.out 0 (.int .i64 N)
        have HX3 := Lib.hid (hx2.farB (B := w.heap.size + 1) (fun b o hA h0 => (HLo.out b o hA h0).2) (P1.out.put 0 (.int .i64 N)) 1 (.slice A' kk c'))
        clear hx1 hx2
        go_wp2_with fail
        refine close_one Try.results4 rfl rfl P1.out.put2 Try.underlying24 rfl (by kernel_rfl) ⟨A', c', by first | (rw [HFL2.out]; done) | (rw [HFL2.out]; rfl), by rw [HFL2.out]; exact HX3.out, ?_⟩
        exact ((HB.out.setCell (p := ⟨w.heap.size, 1, none⟩) (Nat.le_refl _) _).setCell (p := ⟨w.heap.size + 1, 0, none⟩) (by simp) _).setCell (p := ⟨w.heap.size + 1, 1, none⟩) (by simp) _
end Go.Proofs.Ytljooknodnblbaa
