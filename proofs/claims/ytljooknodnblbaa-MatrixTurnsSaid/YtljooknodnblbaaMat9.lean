/- Layer 3's reference: Turn. -/
import Derived.Test.YtljooknodnblbaaMat8
namespace Go.Proofs.Ytljooknodnblbaa
set_option linter.unusedVariables false
set_option linter.unusedSimpArgs false
open Go.RowKit
theorem turnM_take (n : Nat) (ms : List (Int × List Nat)) (i : Nat) (h : i < n) : (turnM n ms).take (i + 1) = (turnM n ms).take i ++ [((ms.length : Int), colW ms i)] := by
  rw [take_one (turnM n ms) i (0, []) (by rw [turnM_len]; exact h)]
  simp [turnM, List.getD, h]
theorem turnM_lt (n : Nat) (ms : List (Int × List Nat)) (i j : Nat) : (((turnM n ms).getD i (0, [])).2).getD j 0 < 18446744073709551616 := by
  by_cases h : i < n
  · have e : (turnM n ms).getD i (0, []) = ((ms.length : Int), colW ms i) := by simp [turnM, List.getD, h]
    rw [e]; exact colW_lt ms i j
  · have e : (turnM n ms)[i]? = none := List.getElem?_eq_none (by rw [turnM_len]; omega)
    simp [List.getD, e]
theorem right_len64 {N : Nat} {us : List Nat} (h : rightB N us = true) : N ≤ 64 * us.length := by
  have := right_len_eq h
  rw [Int.toNat_natCast] at this
  unfold nw at this; omega
set_option maxRecDepth 100000 in
set_option maxHeartbeats 4000000 in
theorem refTurn_any (n : Nat) (A : Option Addr) (l c lo : Nat) (ms : List (Int × List Nat)) (w : World) (hm : MatAt w lo A l ms) (hr : rightM n ms = true) :
    Calls Try.prog 13 #[.agg #[.int .i64 n, .slice A l c]] w (MatOne l (turnM n ms) w) := by
  obtain ⟨i0, hi, hz0, hz1, hz2⟩ := info_parts row_infoM
  have HI := Lib.hid hi
  have HZ0 := Lib.hid hz0
  have HZ1 := Lib.hid hz1
  have HZ2 := Lib.hid hz2
  clear hi hz0 hz1 hz2
  obtain ⟨j0, hi, hz0, hz1, hz2⟩ := info_parts int_infoM
  have JI := Lib.hid hi
  have JZ0 := Lib.hid hz0
  have JZ1 := Lib.hid hz1
  have JZ2 := Lib.hid hz2
  clear hi hz0 hz1 hz2
  have hbd := rightM_bd hr
  have hl := hbd.2.2
  have hn64 := hbd.2.1
  rw [hm.1] at hl
  have HR := Lib.hid hr
  have HM := Lib.hid hm
  have HL := Lib.hid hm.1
  clear hm hr hbd
  have Q0 := Lib.hid (((Box.new w 24 #[.int .i64 n, .slice A l c]).alloc (.cells #[.int .i64 0, .slice none 0 0] 24)).alloc (.cells #[.int .i64 l, .slice none 0 0] 24))
  have q1 := (Box.new (w.alloc (.cells #[.int .i64 n, .slice A l c] 24)) 24 #[.int .i64 0, .slice none 0 0]).alloc (.cells #[.int .i64 l, .slice none 0 0] 24)
  have q2 := Box.new ((w.alloc (.cells #[.int .i64 n, .slice A l c] 24)).alloc (.cells #[.int .i64 0, .slice none 0 0] 24)) 24 #[.int .i64 l, .slice none 0 0]
  have HW := Lib.hid (show Below w.heap.size w (((w.alloc (.cells #[.int .i64 n, .slice A l c] 24)).alloc (.cells #[.int .i64 0, .slice none 0 0] 24)).alloc (.cells #[.int .i64 l, .slice none 0 0] 24)) from (((Below.refl _ _).alloc (Nat.le_refl _) _).alloc (by simp) _).alloc (by simp; omega) _)
  simp only [World.size_alloc] at q1 q2
  have Q1 := Lib.hid q1
  have Q2 := Lib.hid q2
  clear q1 q2
  obtain ⟨r0, r1, -, -⟩ := (Box.new w 24 #[.int .i64 n, .slice A l c]).two
  have r1' := ((Box.new w 24 #[.int .i64 n, .slice A l c]).alloc (.cells #[.int .i64 0, .slice none 0 0] 24)).two.2.1
  go_enter Try.func13, Try.ntmps13
  go_wp2_with fail
  clear r0 r1 r1'
  go_loopw [4] (fun t wr => ∃ (i : Nat) (v : Value), i ≤ n ∧ t = .int .i64 i ∧ Box wr (w.heap.size + 1 + 1) 24 #[.int .i64 l, v] ∧ RowsW wr w.heap.size v ((turnM n ms).take i) ∧ Box wr w.heap.size 24 #[.int .i64 n, .slice A l c] ∧ Box wr (w.heap.size + 1) 24 #[.int .i64 0, .slice none 0 0] ∧ Below w.heap.size w wr) (fun t _ => n - (intOf t).toNat)
  case atStart => exact ⟨0, _, by omega, rfl, Q2.out, RowsW.nil _ _, Q0.out, Q1.out, HW.out⟩
  case round =>
    obtain ⟨i, v, hi, rfl, B2, hmat, B0, B1, hbel⟩ := hrel
    have R2 := Lib.hid B2
    have R1 := Lib.hid B1
    have R0 := Lib.hid B0
    have HMa := Lib.hid hmat
    have HB := Lib.hid hbel
    clear B2 B1 B0 hmat hbel Q0 Q1 Q2 HW
    obtain ⟨a0, a1, -, -⟩ := R0.out.two
    by_cases hlt : i < n
    · have hlt' : (i : Int) < (n : Int) := by omega
      rename World => W1
      have HOw := Lib.hid (own_empty W1 W1.heap.size 3 (Nat.le_refl _))
      have HWi := Lib.hid (show Below W1.heap.size W1 (W1.alloc (.cells #[] 3)) from (Below.refl _ _).alloc (Nat.le_refl _) _)
      have b1 := (R0.out.alloc (.cells #[] 3)).two.2.1
      go_wp2_with fail
      clear a0 a1 b1
      go_loopw [5, 22] (fun v t wr => ∃ k : Nat, k ≤ l ∧ t = .int .i64 k ∧ wr.ownsRow W1.heap.size 3 1 v k ((colZ ms i k).map (Value.int .i64)) ∧ Hid (Below W1.heap.size W1 wr)) (fun _ t _ => l - (intOf t).toNat)
      case atStart => exact ⟨0, by omega, rfl, HOw.out, HWi⟩
      case round =>
        obtain ⟨k, hk, rfl, hown, HBs⟩ := hrel
        have HO := Lib.hid hown
        clear hown HOw HWi
        by_cases hkl : k < l
        · have hkl' : (k : Int) < (l : Int) := by omega
          have h1 := ((HM.out.mono (Nat.le_refl _) HB.out).below HBs.out)
          obtain ⟨g1, o1, C1, k1, e1, rfl, hg1, x1, y1, s1, u1⟩ := h1.at k hkl
          obtain ⟨hN, hrr⟩ := rightM_at HR.out k (by rw [HL.out]; exact hkl)
          have HS := Lib.hid (colZ_succ ms i k)
          have HMB := Lib.hid (show mbit ms k i = bitAt (ms.getD k (0, [])).2 i from rfl)
          rw [hN] at x1
          clear hN h1 s1
          generalize (ms.getD k (0, [])).2 = us at *
          have hl64 := right_len64 hrr
          rw [u1.1] at hl64
          have hk8 := rightB_len8 hrr u1.1
          have XO := Lib.hid (HO.out.alloc (.cells #[.int .i64 n, .slice C1 k1 e1] 37))
          have XB := Lib.hid (show Below W1.heap.size W1 (wr.alloc (.cells #[.int .i64 n, .slice C1 k1 e1] 37)) from HBs.out.alloc HBs.out.size _)
          obtain ⟨p0, p1, -, -⟩ := (Box.new wr 37 #[.int .i64 n, .slice C1 k1 e1]).two
          have HBit := Lib.hid (bit_any n C1 k1 e1 i us _ (u1.alloc (.cells #[.int .i64 n, .slice C1 k1 e1] 37)) (by omega) (by omega))
          have HML := Lib.hid (mbit_le ms k i)
          clear u1 hrr
          go_wp2_with fail
          refine HBit.out.mono ?_
          rintro e x1 ⟨rfl, hb⟩
          rw [← HMB.out]
          generalize mbit ms k i = bt at *
          have XO := Lib.hid (own_keep XO.out hb)
          have XB := Lib.hid (chainN XB.out XB.out.size hb)
          clear hb p0 p1 HBit
          have YO := Lib.hid (XO.out.alloc (.cells #[.int .i64 bt] 3))
          have YB := Lib.hid (XB.out.alloc XB.out.size (.cells #[.int .i64 bt] 3))
          have N2 := Lib.hid (fun k hk => (XO.out.lt k hk).1)
          have hi' := JI.out
          have hz0' := JZ0.out
          have hz1' := JZ1.out
          have hz2' := JZ2.out
          go_wp2_with (at_builtin; refine wpList_append_own _ rfl _ _ 47 rfl W1.heap.size 3 j0 (.int .i64 0) 1 8 Try.underlying47 hi' hz0' hz1' hz2' rfl (by decide) _ _ _ rfl YO.out ⟨x1.heap.size, 0, none⟩ 1 1 [.int .i64 bt] rfl rfl (cell_one_new _ _ _) (by simp [Value.oneCell']) (by simp [maxLen]; omega) (by omega) YB.out.size ?_; intro v' w1 hown' hgrow _; have ZB := Lib.hid (YB.out.grown hgrow YB.out.size N2.out); have HO2 := Lib.hid hown'; clear hown' hgrow)
          go_roundw
          case rel =>
            refine ⟨k + 1, by omega, by go_num, ?_, ZB⟩
            rw [HS.out, List.map_append]
            exact HO2.out
          case measure => simp [intOf] <;> omega
        · obtain rfl : l = k := by omega
          have hkl' : ¬ (l : Int) < (l : Int) := by omega
          obtain ⟨A', c', rfl, hA'⟩ := own_form HO.out
          have HTK := Lib.hid (turnM_take n ms i hlt)
          have HTL := Lib.hid (show ((turnM n ms).take i).length = i by rw [List.length_take, turnM_len]; omega)
          have R0 := Lib.hid (R0.out.keep HBs.out)
          have R1 := Lib.hid (R1.out.keep HBs.out)
          have R2 := Lib.hid (R2.out.keep HBs.out)
          have HMa := Lib.hid (HMa.out.below HBs.out)
          have HB := Lib.hid (chainN HB.out HB.out.size HBs.out)
          obtain ⟨a0, a1, f0, f1⟩ := R2.out.two
          obtain ⟨rs, hr1, hr2, hr3⟩ := HMa.out
          rw [HTL.out] at hr1 hr2 hr3
          have HOW := Lib.hid hr2
          have HRS := Lib.hid hr3
          clear hr2 hr3
          have HIN := Lib.hid (show Ints wr.drew A' l (colZ ms i l) from own_ints HO.out (colZ_bound ms i l))
          have HFC := Lib.hid (show fromL (bitsOf (colZ ms i l)) (nw l) = colW ms i by rw [from_col, colW, HL.out])
          go_wp2_with fail
          go_region_law (first
            | (go_simp; go_at_call 25; refine (from_own A' l c' _ _ HIN.out (by omega)).mono ?_; rw [HFC.out]; rintro e1 x1 ⟨A1, l1, c1, rfl, hw, hb⟩; have S2 := Lib.hid (R2.out.drew.keep hb); have S1 := Lib.hid (R1.out.drew.keep hb); have S0 := Lib.hid (R0.out.drew.keep hb); have SO := Lib.hid (own_keep (own_drewM HOW.out) hb); have SR := Lib.hid (fun j hj => And.intro (HRS.out j hj).1 ((HRS.out j hj).2.drew.below hb)); have SB := Lib.hid (chainN HB.out.drew HB.out.size hb); have SW := Lib.hid hw; clear hb hw; have T2 := Lib.hid (S2.out.alloc (.cells #[.int .i64 l, .slice A1 l1 c1] 37)); obtain ⟨s0, s1, sf0, sf1⟩ := S2.out.two; obtain ⟨t0, t1, tf0, tf1⟩ := T2.out.two; have hb0 := SB.out.size; have hn0 := SO.out.lt)
            | (refine step_append_lies _ rfl (.tmp 34) (.tmp 37) 22 rfl w.heap.size 37 i0 (.agg #[.int .i64 0, .slice none 0 0]) 2 32 Try.underlying22 HI.out HZ0.out HZ1.out HZ2.out rfl (by decide) v i (rowCells rs) (by simp [Act.eval, Act.put]) (World.ownsRow.alloc SO.out (.cells #[.int .i64 l, .slice A1 l1 c1] 37)) ⟨x1.heap.size, 0, none⟩ 1 1 [.int .i64 l, .slice A1 l1 c1] (by simp [Act.eval, Act.put]) rfl (World.news_of_block (Box.new x1 37 #[.int .i64 l, .slice A1 l1 c1])) (by simp [Value.oneCell']) (by omega) (by simp [maxLen]; omega) (by omega) (by simp; omega) _ rfl ?_; intro g cap w1 hown hgrow _ _; have V2 := Lib.hid (T2.out.grown hgrow (own_ne SO.out S2.out (by decide))); have HO2 := Lib.hid hown; have HG := Lib.hid hgrow; clear hown hgrow; obtain ⟨v0, v1, vf0, vf1⟩ := V2.out.two))
          all_goals
            have W0 := Lib.hid ((S0.out.alloc (.cells #[.int .i64 l, .slice A1 l1 c1] 37)).grown HG.out (own_ne SO.out S0.out (by decide)))
            have W1 := Lib.hid ((S1.out.alloc (.cells #[.int .i64 l, .slice A1 l1 c1] 37)).grown HG.out (own_ne SO.out S1.out (by decide)))
            have WB := Lib.hid ((SB.out.alloc SB.out.size (.cells #[.int .i64 l, .slice A1 l1 c1] 37)).grown HG.out (SB.out.alloc SB.out.size (.cells #[.int .i64 l, .slice A1 l1 c1] 37)).size (fun k hk => (SO.out.lt k hk).1))
            have WR := Lib.hid (fun j hj => And.intro (SR.out j hj).1 (OwnW.grown ((SR.out j hj).2.alloc (.cells #[.int .i64 l, .slice A1 l1 c1] 37)) (World.ownsRow.alloc SO.out (.cells #[.int .i64 l, .slice A1 l1 c1] 37)) (by decide) HG.out))
            have WW := Lib.hid (OwnW.grown (SW.out.alloc (.cells #[.int .i64 l, .slice A1 l1 c1] 37)) (World.ownsRow.alloc SO.out (.cells #[.int .i64 l, .slice A1 l1 c1] 37)) (by decide) HG.out)
            have WM := Lib.hid (RowsW.snoc HTL.out hr1 HO2.out WR.out WW.out)
            clear HG SO SR SB SW S0 S1 S2 T2 HOW HRS HO2 WR WW HMa R2 R1 R0 HB
            go_wp2_with fail
            go_roundw
            case rel => exact ⟨i + 1, _, by omega, by go_num, V2.out.put 1 _, by rw [HTK.out, HL.out]; exact WM.out.far V2.out (by decide) (by decide) 1 _, W0.out.far (p := ⟨w.heap.size + 1 + 1, 1, none⟩) (by simp; omega) _, W1.out.far (p := ⟨w.heap.size + 1 + 1, 1, none⟩) (by simp) _, WB.out.setCell (p := ⟨w.heap.size + 1 + 1, 1, none⟩) (by simp; omega) _⟩
            case measure => simp [intOf] <;> omega
    · obtain rfl : n = i := by omega
      have hlt' : ¬ (n : Int) < (n : Int) := by omega
      have HTK := Lib.hid (show (turnM n ms).take n = turnM n ms from List.take_of_length_le (by rw [turnM_len]; omega))
      rw [HTK.out] at HMa
      have hm := HMa.out.far R1.out (by decide) (by decide) 0 (.int .i64 l)
      obtain ⟨A', c', rfl, hcc, -⟩ := HMa.out.mat (turnM_lt n ms)
      have HX := Lib.hid ((hm.far (R1.out.put 0 (.int .i64 l)) (by decide) (by decide) 1 (.slice A' (turnM n ms).length c')).mat (turnM_lt n ms))
      clear hm
      obtain ⟨d0, d1, -, -⟩ := R2.out.two
      obtain ⟨b0, b1, f0, f1⟩ := R1.out.two
      go_wp2
      obtain ⟨A2, c2, hv, -, hx⟩ := HX.out
      injection hv with e1 e2 e3
      subst e1 e3
      refine close_one Try.results13 rfl rfl R1.out.put2 Try.underlying24 rfl (by kernel_rfl) ⟨A', c', rfl, hx, ?_⟩
      exact (HB.out.setCell (p := ⟨w.heap.size + 1, 0, none⟩) (by simp) _).setCell (p := ⟨w.heap.size + 1, 1, none⟩) (by simp) _
end Go.Proofs.Ytljooknodnblbaa
