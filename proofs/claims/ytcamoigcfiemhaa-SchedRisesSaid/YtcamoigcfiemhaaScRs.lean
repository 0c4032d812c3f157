/- Layer 20: SchedRises. -/
import Derived.Test.YtcamoigcfiemhaaScRp
import Derived.Test.YtcamoigcfiemhaaScMb
import Derived.Test.YtcamoigcfiemhaaScNa
import Derived.Test.YtcamoigcfiemhaaScRep
import Derived.Test.YtcamoigcfiemhaaScFd
import Derived.Test.YtcamoigcfiemhaaKTwo
namespace Go.Proofs.Ytcamoigcfiemhaa
set_option linter.unusedVariables false
set_option linter.unusedSimpArgs false
open Go.RowKit Go.Lib
set_option maxRecDepth 100000
theorem cells_newI (w : World) (x : InR) : ∀ j u, (encIn x)[j]? = some u → (w.alloc (.cells #[.int .i64 x.1, .int .i64 x.2.1, .int .i64 x.2.2] 57)).cell? ((⟨w.heap.size, 0, none⟩ : Addr).add j) = some u := by
  intro j u hu
  have hb := Box.new w 57 #[.int .i64 x.1, .int .i64 x.2.1, .int .i64 x.2.2]
  have hj : j < 3 := (List.getElem?_eq_some_iff.1 hu).1
  rw [addP, Nat.zero_add]
  have : j = 0 ∨ j = 1 ∨ j = 2 := by omega
  rcases this with rfl | rfl | rfl
  · exact (hb.cell 0).trans hu
  · exact (hb.cell 1).trans hu
  · exact (hb.cell 2).trans hu
set_option maxHeartbeats 16000000 in
theorem rises_any (A : Option Addr) (l c : Nat) (xs : List InR) (B1 : Option Addr) (l1 c1 : Nat) (ps : List Int) (B2 : Option Addr) (l2 c2 : Nat) (qs : List Int) (W : World) (s0 : SliceOk A l c) (h0 : Needs W A l xs) (s1 : SliceOk B1 l1 c1) (h1 : Ints W B1 l1 ps) (s2 : SliceOk B2 l2 c2) (h2 : Ints W B2 l2 qs) :
    Calls Try.prog 6 #[.slice A l c, .slice B1 l1 c1, .slice B2 l2 c2] W fun e w' => e = .returned (.bool true) ∧ Below W.heap.size W w' := by
  obtain ⟨kk, hkk⟩ : ∃ k, k = min l 8 := ⟨_, rfl⟩
  have hm2 : min (l : Int) 8 = (kk : Int) := by omega
  have g1 : (kk : Int) ≤ (c : Int) := by have := s0.1; omega
  have g2 : (0 : Int) ≤ (kk : Int) := by omega
  have hk8 : kk ≤ 8 := by omega
  have HKl := Lib.hid (show kk ≤ l by omega)
  obtain ⟨i0, hi, hz0, hz1, hz2⟩ := info_parts in_infoS
  have HI := Lib.hid hi
  have HZ0 := Lib.hid hz0
  have HZ1 := Lib.hid hz1
  have HZ2 := Lib.hid hz2
  obtain ⟨i1, hy, hy0, hy1, hy2⟩ := info_parts sli_infoS
  have HY := Lib.hid hy
  have HY0 := Lib.hid hy0
  have HY1 := Lib.hid hy1
  have HY2 := Lib.hid hy2
  clear hi hz0 hz1 hz2 hy hy0 hy1 hy2
  have H0 := Lib.hid h0
  have H1 := Lib.hid h1
  have H2 := Lib.hid h2
  have S0 := Lib.hid s0
  have S1 := Lib.hid s1
  have S2 := Lib.hid s2
  have HKK := Lib.hid hkk
  clear h0 h1 h2 s0 s1 s2 hkk
  go_enter Try.func6, Try.ntmps6
  go_upto_region 2 with (fail)
  go_cut [8, 9, 29] (fun p q r wx => ∃ g h : Nat, p = .pointer (some ⟨g, 0, none⟩) ∧ q = .slice (some ⟨h, 0, none⟩) 4 4 ∧ r = .slice (some ⟨h, 0, none⟩) 4 4 ∧ Hid (g ≠ h) ∧ Hid (Box wx g 3 #[.int .i64 0]) ∧ Hid (Box wx h 3 #[.int .i64 0, .int .i64 0, .int .i64 0, .int .i64 0]) ∧ Hid (Below W.heap.size W wx) ∧ Hid (W.heap.size ≤ g ∧ W.heap.size ≤ h))
  case first =>
    have hmk := make4i
    go_region
    · have b1 := Box.new W 3 #[.int .i64 0, .int .i64 0, .int .i64 0, .int .i64 0]
      have b2 := Box.new (W.alloc (.cells #[.int .i64 0, .int .i64 0, .int .i64 0, .int .i64 0] 3)) 3 #[.int .i64 0]
      simp only [World.size_alloc] at b2
      go_wp2_with fail
      go_meet
      exact ⟨_, _, rfl, rfl, rfl, Lib.hid (by omega), Lib.hid b2.drew, Lib.hid (b1.alloc _).drew, Lib.hid (((Below.refl W.heap.size W).alloc (Nat.le_refl _) _).alloc (by simp) _).drew, Lib.hid ⟨by omega, Nat.le_refl _⟩⟩
    · have b1 := Box.new W 3 #[.int .i64 0]
      have b2 := Box.new (W.alloc (.cells #[.int .i64 0] 3)) 3 #[.int .i64 0, .int .i64 0, .int .i64 0, .int .i64 0]
      simp only [World.size_alloc] at b2
      go_wp2_with fail
      go_meet
      exact ⟨_, _, rfl, rfl, rfl, Lib.hid (by omega), Lib.hid (b1.alloc _).drew, Lib.hid b2.drew, Lib.hid (((Below.refl W.heap.size W).alloc (Nat.le_refl _) _).alloc (by simp) _).drew, Lib.hid ⟨Nat.le_refl _, by omega⟩⟩
  case rest =>
    obtain ⟨g8, g9, rfl, rfl, rfl, HNe, HQ8, HQ9, HB3, HGb⟩ := hcut
    obtain ⟨wI, rfl⟩ : ∃ x : World, x = wc := ⟨_, rfl⟩
    go_upto_region 3 with (fail)
    go_cut [34, 35, 36] (fun p q r wx => ∃ (A' : Option Addr) (c' : Nat), p = .slice A' kk c' ∧ q = .int .i64 (kk : Int) ∧ r = .int .i64 0 ∧ Hid (0 < kk → A' = A) ∧ Hid (wx = wI))
    case first =>
      cases A with
      | none =>
        obtain ⟨rfl, rfl⟩ := S0.out.2.2 rfl
        obtain rfl : kk = 0 := by omega
        have hm0 : min (0 : Int) 8 = 0 := by decide
        go_wp2_with fail
        go_meet
        exact ⟨none, 0, rfl, rfl, rfl, Lib.hid (fun h => absurd h (by omega)), Lib.hid rfl⟩
      | some ad =>
        go_wp2_with fail
        go_meet
        exact ⟨some ad, c, rfl, rfl, rfl, Lib.hid (fun _ => rfl), Lib.hid rfl⟩
    case rest =>
      obtain ⟨A', c', rfl, rfl, rfl, HA, HW⟩ := hcut
      obtain rfl := HW.out
      clear HW
      go_wp2_with fail
      go_loopw [7, 36] (fun v t wr => ∃ i : Nat, i ≤ kk ∧ t = .int .i64 (i : Int) ∧ Hid (OwnT W.heap.size wr v (((xs.take i).map thN).map Th.ins)) ∧ Hid (Box wr g8 3 #[.int .i64 (remN ((xs.take i).map thN) (fun _ => 0))]) ∧ Hid (Box wr g9 3 (((cellsOfT ((xs.take i).map thN)).map (Value.int .i64)).toArray)) ∧ Hid (Below W.heap.size W wr)) (fun _ t _ => kk - (Go.RowKit.intOf t).toNat)
      case atStart => exact ⟨0, Nat.zero_le _, rfl, Lib.hid (OwnT.nil _ _), HQ8, HQ9, HB3⟩
      case round =>
        obtain ⟨i, hi, rfl, HO, HQ8, HQ9, HB⟩ := hrel
        by_cases hlt : i < kk
        · have hlt' : (i : Int) < (kk : Int) := by omega
          as_aux_lemma =>
            obtain ⟨wo, rfl⟩ : ∃ x : World, x = wr := ⟨_, rfl⟩
            obtain ⟨b, o, e, hb, x0, x1, x2⟩ := Inss.cells H0.out.1 HB.out i (by have := HKl.out; omega)
            have HX := Lib.hid (H0.out.2 i (by have := HKl.out; omega))
            have HXt := Lib.hid (show (xs.take (i + 1)).map thN = (xs.take i).map thN ++ [thN (xs.getD i default)] by
              rw [take_snocD xs i (by rw [H0.out.1.1]; have := HKl.out; omega), List.map_append]; rfl)
            obtain ⟨X, hX⟩ : ∃ X, X = xs.getD i default := ⟨_, rfl⟩
            rw [← hX] at HX HXt x0 x1 x2
            clear hX
            obtain ⟨ths, hth⟩ : ∃ t, t = (xs.take i).map thN := ⟨_, rfl⟩
            have HBd := Lib.hid (fun c => cells_bd (xs.take i) (by rw [List.length_take]; omega) c)
            have HRm := Lib.hid (show 0 ≤ remN ((xs.take i).map thN) (fun _ => 0) ∧ remN ((xs.take i).map thN) (fun _ => 0) ≤ 100 by obtain ⟨m, h1, h2⟩ := rem_nat (xs.take i) (by rw [List.length_take]; omega); omega)
            have HTl := Lib.hid (show ((xs.take i).map thN).length ≤ 8 by rw [List.length_map, List.length_take]; omega)
            rw [← hth] at HO HQ8 HQ9 HXt HBd HRm HTl
            clear hth
            obtain ⟨L, C, N⟩ := X
            replace x0 : wo.cell? ⟨b, o + i * 3, none⟩ = some (.int .i64 L) := x0
            replace x1 : wo.cell? ⟨b, o + i * 3 + 1, none⟩ = some (.int .i64 C) := x1
            replace x2 : wo.cell? ⟨b, o + i * 3 + 2, none⟩ = some (.int .i64 N) := x2
            obtain rfl : A' = some ⟨b, o, none⟩ := (HA.out (by omega)).trans e
            have HX1 := Lib.hid (Box.new wo 54 #[.int .i64 L, .int .i64 C, .int .i64 N])
            have HB1 := Lib.hid (show Below wo.heap.size wo (wo.alloc (.cells #[.int .i64 L, .int .i64 C, .int .i64 N] 54)) from (Below.refl _ _).alloc (Nat.le_refl _) _)
            clear hb e
            go_wp2_with fail
            go_loopw [12, 40] (fun v t wr => ∃ a : Nat, a ≤ 4 ∧ t = .int .i64 (a : Int) ∧ Hid (wr.ownsRow wo.heap.size 57 3 v (locksN L a).length (((locksN L a).map fun (j : Nat) => ((0 : Int), (j : Int), (0 : Int))).flatMap encIn)) ∧ Hid (Box wr wo.heap.size 54 #[.int .i64 L, .int .i64 C, .int .i64 N]) ∧ Hid (Below wo.heap.size wo wr)) (fun _ t _ => 4 - (Go.RowKit.intOf t).toNat)
            case atStart => exact ⟨0, by omega, rfl, Lib.hid (World.ownsRow_nil _ _ _ _), HX1, HB1⟩
            case round =>
              obtain ⟨a, ha, rfl, HR, HXy, HBy⟩ := hrel
              by_cases hla : a < 4
              · have hla' : (a : Int) < 4 := by omega
                obtain ⟨y0, y1, y2⟩ := HXy.out.three3
                have hand : bits BinOp.and IntKind.i64 (L / 2 ^ a) 1 = L / 2 ^ a % 2 := i64_and1 _
                have hlen := locksN_len L a
                have ZB := Lib.hid (HBy.out.alloc HBy.out.size (.cells #[.int .i64 0, .int .i64 (a : Int), .int .i64 0] 57))
                have ZR := Lib.hid (HR.out.alloc (.cells #[.int .i64 0, .int .i64 (a : Int), .int .i64 0] 57))
                have N2 := Lib.hid (fun k hk => (HR.out.lt k hk).1)
                have HS := Lib.hid (locksN_succ L a)
                by_cases hbit : L / 2 ^ a % 2 = 1
                · have HE := Lib.hid (HS.out.trans (if_pos (show bitN L a = true from decide_eq_true hbit)))
                  have hand1 : bits BinOp.and IntKind.i64 (L / 2 ^ a) 1 = 1 := hand.trans hbit
                  clear hand hbit
                  go_wp2_with (at_builtin; go_loud (refine wpList_append_own _ rfl _ _ 55 rfl wo.heap.size 57 i0 (.agg #[.int .i64 0, .int .i64 0, .int .i64 0]) 3 24 Try.underlying55 HI.out HZ0.out HZ1.out HZ2.out rfl (by decide) _ _ _ rfl ZR.out ⟨wr.heap.size, 0, none⟩ 1 1 (encIn (0, (a : Int), 0)) rfl rfl (cells_newI _ _) (encIn_one _) (by simp only [maxLen]; omega) (by omega) ZB.out.size ?_; intro v' w2 hown' hgrow _; have HC2 := Lib.hid (ZB.out.grown hgrow ZB.out.size N2.out); have HO2 := Lib.hid hown'; have HX2 := Lib.hid (Box.grown (HXy.out.alloc (.cells #[.int .i64 0, .int .i64 (a : Int), .int .i64 0] 57)) hgrow (own_ne ZR.out (HXy.out.alloc (.cells #[.int .i64 0, .int .i64 (a : Int), .int .i64 0] 57)) (by decide))); clear hown' hgrow))
                  go_roundw
                  case rel =>
                    refine ⟨a + 1, by omega, by go_num, Lib.hid ?_, HX2, HC2⟩
                    rw [HE.out, List.length_append, List.map_append, List.flatMap_append]
                    exact HO2.out
                  case measure => simp [Go.RowKit.intOf] <;> omega
                · have HE := Lib.hid (HS.out.trans (if_neg (show ¬ bitN L a = true by simpa [bitN] using hbit)))
                  have hand1 : bits BinOp.and IntKind.i64 (L / 2 ^ a) 1 = 0 := by omega
                  clear hand hbit
                  go_wp2_with fail
                  go_roundw
                  case rel =>
                    refine ⟨a + 1, by omega, by go_num, Lib.hid ?_, HXy, HBy⟩
                    rw [HE.out]
                    exact HR.out
                  case measure => simp [Go.RowKit.intOf] <;> omega
              · obtain rfl : a = 4 := by omega
                obtain ⟨y0, y1, y2⟩ := HXy.out.three3
                have hand : bits BinOp.and IntKind.i64 C 3 = C % 4 := i64_and3 _
                obtain ⟨cn, hcn⟩ : ∃ cn : Nat, C % 4 = (cn : Int) := Nat.of_int (by omega)
                have hc4 : cn < 4 := by omega
                rw [hcn] at hand
                have b1 : -1000 < N.tmod 1000 := Int.lt_tmod_of_pos N (by decide)
                have b2 : N.tmod 1000 < 1000 := Int.tmod_lt_of_pos N (by decide)
                have u1 : IntKind.i64.wrap (N.tmod 1000 + 1000) = N.tmod 1000 + 1000 := IntWalk.i64_in _ (by omega)
                have u2 : (N.tmod 1000 + 1000).tmod 1000 = numN N := rfl
                have hlen := locksN_len L 4
                have ZB := Lib.hid (HBy.out.alloc HBy.out.size (.cells #[.int .i64 2, .int .i64 (cn : Int), .int .i64 (numN N)] 57))
                have ZR := Lib.hid (HR.out.alloc (.cells #[.int .i64 2, .int .i64 (cn : Int), .int .i64 (numN N)] 57))
                have N2 := Lib.hid (fun k hk => (HR.out.lt k hk).1)
                have h9 : ∀ w', Below wo.heap.size wo w' → Box w' g9 3 (((cellsOfT ths).map (Value.int .i64)).toArray) := fun w' hw => HQ9.out.keep hw
                have H9 := Lib.hid h9
                clear h9
                obtain ⟨cv, hcv⟩ : ∃ v, v = (cellsOfT ths).getD cn 0 := ⟨_, rfl⟩
                have HCV := Lib.hid hcv
                clear hcv
                have HC9 := Lib.hid (show (((cellsOfT ths).map (Value.int .i64)).toArray)[cn]? = some (.int .i64 (cv)) by
                  have : cn = 0 ∨ cn = 1 ∨ cn = 2 ∨ cn = 3 := by omega
                  rw [HCV.out]
                  rcases this with rfl | rfl | rfl | rfl <;> rfl)
                have bd : 0 ≤ cv ∧ cv ≤ 9000 := by rw [HCV.out]; exact HBd.out cn
                have bn := numN_bd N
                have u9 : IntKind.i64.wrap (cv + numN N) = cv + numN N := IntWalk.i64_in _ (by omega)
                go_upto_region 14 with (fail)
                go_wp2_with (at_builtin; go_loud (refine wpList_append_own _ rfl _ _ 55 rfl wo.heap.size 57 i0 (.agg #[.int .i64 0, .int .i64 0, .int .i64 0]) 3 24 Try.underlying55 HI.out HZ0.out HZ1.out HZ2.out rfl (by decide) _ _ _ rfl ZR.out ⟨wr.heap.size, 0, none⟩ 1 1 (encIn (2, (cn : Int), numN N)) rfl rfl (cells_newI _ _) (encIn_one _) (by simp only [maxLen]; omega) (by omega) ZB.out.size ?_); intro v' w2 hown' hgrow _; have HC2 := Lib.hid (ZB.out.grown hgrow ZB.out.size N2.out); have HO2 := Lib.hid hown'; have HX2 := Lib.hid (Box.grown (HXy.out.alloc (.cells #[.int .i64 2, .int .i64 (cn : Int), .int .i64 (numN N)] 57)) hgrow (own_ne ZR.out (HXy.out.alloc (.cells #[.int .i64 2, .int .i64 (cn : Int), .int .i64 (numN N)] 57)) (by decide))); clear hown' hgrow; have z1 := HX2.out.three3.2.1; have HQ9w := Lib.hid (H9.out _ HC2.out); have c9 := (HQ9w.out.cell cn).trans HC9.out; have f9 := HQ9w.out.free cn)
                have hcc : (thN (L, C, N)).c = cn := by show (C % 4).toNat = cn; omega
                obtain ⟨cw, hcw⟩ : ∃ v, v = cv + numN N := ⟨_, rfl⟩
                rw [← hcw]
                have HV := Lib.hid (cells_put ths (thN (L, C, N)) cn hcc hc4 cw (by rw [hcw, HCV.out]; rfl))
                obtain ⟨wS, hwS⟩ : ∃ x, x = w2.setCell ⟨g9, cn, none⟩ (.int .i64 cw) := ⟨_, rfl⟩
                obtain ⟨wp, hwp⟩ : ∃ x, x = wo.setCell ⟨g9, cn, none⟩ (.int .i64 cw) := ⟨_, rfl⟩
                have HSz := Lib.hid (show wp.heap.size = wo.heap.size by rw [hwp]; exact size_set _ _ _)
                have HOp := Lib.hid (show OwnT W.heap.size wp _ (ths.map Th.ins) by rw [hwp]; exact HO.out.far HQ9.out (by decide) (by decide) cn _)
                have H8p := Lib.hid (show Box wp g8 3 #[.int .i64 (remN ths (fun _ => 0))] by rw [hwp]; exact HQ8.out.aside HNe.out cn _)
                have H9p := Lib.hid (show Box wp g9 3 ((cellsOfT (ths ++ [thN (L, C, N)])).map (Value.int .i64)).toArray by rw [hwp, ← HV.out]; exact HQ9.out.put cn _)
                have HBp := Lib.hid (show Below W.heap.size W wp by rw [hwp]; exact HB.out.setCell (p := ⟨g9, cn, none⟩) HGb.out.2 _)
                have HCS := Lib.hid (show Below wo.heap.size wp wS by rw [hwp, hwS]; exact belowBoth HC2.out HQ9.out HQ9w.out _)
                have hgo : wo.heap.size ≠ g9 := by have := HQ9.out.lt; omega
                have HXS := Lib.hid (show Box wS wo.heap.size 54 #[.int .i64 L, .int .i64 C, .int .i64 N] by rw [hwS]; exact HX2.out.aside hgo cn _)
                obtain ⟨pre, hpre⟩ : ∃ x : List InR, x = (locksN L 4).map (fun (j : Nat) => ((0 : Int), (j : Int), (0 : Int))) ++ [(2, (cn : Int), numN N)] := ⟨_, rfl⟩
                have hp5 : pre.length ≤ 5 := by rw [hpre, List.length_append, List.length_map]; simp; omega
                have HIns := Lib.hid (show pre ++ (locksN L 4).map (fun (j : Nat) => ((1 : Int), (j : Int), (0 : Int))) = (thN (L, C, N)).ins by rw [thN_ins, hpre, List.append_assoc, List.singleton_append, hcn])
                have HRS := Lib.hid (show wS.ownsRow wo.heap.size 57 3 v' (pre.length + (locksN L 0).length) ((pre ++ (locksN L 0).map fun (j : Nat) => ((1 : Int), (j : Int), (0 : Int))).flatMap encIn) by
                  rw [hwS]
                  have h9 := own_far HO2.out HQ9w.out (by decide) cn (.int .i64 cw)
                  rw [← pre_flat, ← hpre] at h9
                  have e1 : (locksN L 4).length + 1 = pre.length + (locksN L 0).length := by rw [hpre]; simp [locksN]
                  have e2 : (pre ++ (locksN L 0).map fun (j : Nat) => ((1 : Int), (j : Int), (0 : Int))) = pre := by simp [locksN]
                  rw [e1] at h9
                  rw [e2]
                  exact h9)
                have HS2 := Lib.hid (fun a => locksN_succ L a)
                have HC4 := Lib.hid hcn
                rw [← hwS]
                clear hcw HV hwS hwp hgo hpre HX2 HO2 HC2 HQ9w z1 c9 f9 HO HQ8 HQ9 HB HCV HC9 bd bn u9 H9 ZB ZR N2 u1 u2 b1 b2 hand hcn hlen y0 y1 y2 hcc
                go_loopw [12, 77] (fun v t wr => ∃ a : Nat, a ≤ 4 ∧ t = .int .i64 (a : Int) ∧ Hid (wr.ownsRow wo.heap.size 57 3 v (pre.length + (locksN L a).length) ((pre ++ (locksN L a).map fun (j : Nat) => ((1 : Int), (j : Int), (0 : Int))).flatMap encIn)) ∧ Hid (Box wr wo.heap.size 54 #[.int .i64 L, .int .i64 C, .int .i64 N]) ∧ Hid (Below wo.heap.size wp wr)) (fun _ t _ => 4 - (Go.RowKit.intOf t).toNat)
                case atStart => exact ⟨0, by omega, rfl, HRS, HXS, HCS⟩
                case round =>
                  obtain ⟨a, ha, rfl, HR, HXy, HBy⟩ := hrel
                  by_cases hla : a < 4
                  · have hla' : (a : Int) < 4 := by omega
                    obtain ⟨y0, y1, y2⟩ := HXy.out.three3
                    have hand : bits BinOp.and IntKind.i64 (L / 2 ^ a) 1 = L / 2 ^ a % 2 := i64_and1 _
                    have hlen := locksN_len L a
                    have hwz : wo.heap.size ≤ wr.heap.size := by have := HBy.out.size; have := HSz.out; omega
                    have ZB := Lib.hid (HBy.out.alloc hwz (.cells #[.int .i64 1, .int .i64 (a : Int), .int .i64 0] 57))
                    have ZR := Lib.hid (HR.out.alloc (.cells #[.int .i64 1, .int .i64 (a : Int), .int .i64 0] 57))
                    have hzz : wo.heap.size ≤ (wr.alloc (.cells #[.int .i64 1, .int .i64 (a : Int), .int .i64 0] 57)).heap.size := by have := ZB.out.size; have := HSz.out; omega
                    have HZz := Lib.hid hzz
                    clear hwz hzz
                    have N2 := Lib.hid (fun k hk => (HR.out.lt k hk).1)
                    have HS := Lib.hid (HS2.out a)
                    by_cases hbit : L / 2 ^ a % 2 = 1
                    · have HE := Lib.hid (HS.out.trans (if_pos (show bitN L a = true from decide_eq_true hbit)))
                      have hand1 : bits BinOp.and IntKind.i64 (L / 2 ^ a) 1 = 1 := hand.trans hbit
                      clear hand hbit
                      obtain ⟨ml, hml⟩ : ∃ m, m = pre.length + (locksN L a).length := ⟨_, rfl⟩
                      have hm9 : ml ≤ 9 := by omega
                      have HML := Lib.hid hml
                      rw [← hml] at ZR
                      clear hml hlen
                      go_wp2_with (at_builtin; go_loud (refine wpList_append_own _ rfl _ _ 55 rfl wo.heap.size 57 i0 (.agg #[.int .i64 0, .int .i64 0, .int .i64 0]) 3 24 Try.underlying55 HI.out HZ0.out HZ1.out HZ2.out rfl (by decide) _ _ _ rfl ZR.out ⟨wr.heap.size, 0, none⟩ 1 1 (encIn (1, (a : Int), 0)) rfl rfl (cells_newI _ _) (encIn_one _) (by simp only [maxLen]; omega) (by omega) HZz.out ?_); intro v' w2 hown' hgrow _; have HC2 := Lib.hid (ZB.out.grown hgrow HZz.out N2.out); have HO2 := Lib.hid hown'; have HX2 := Lib.hid (Box.grown (HXy.out.alloc (.cells #[.int .i64 1, .int .i64 (a : Int), .int .i64 0] 57)) hgrow (own_ne ZR.out (HXy.out.alloc (.cells #[.int .i64 1, .int .i64 (a : Int), .int .i64 0] 57)) (by decide))); clear hown' hgrow)
                      go_roundw
                      case rel =>
                        refine ⟨a + 1, by omega, by go_num, Lib.hid ?_, HX2, HC2⟩
                        rw [HE.out, List.length_append, List.map_append, ← List.append_assoc, List.flatMap_append]
                        have h9 := HO2.out
                        rw [HML.out, Nat.add_assoc] at h9
                        exact h9
                      case measure => simp [Go.RowKit.intOf] <;> omega
                    · have HE := Lib.hid (HS.out.trans (if_neg (show ¬ bitN L a = true by simpa [bitN] using hbit)))
                      have hand1 : bits BinOp.and IntKind.i64 (L / 2 ^ a) 1 = 0 := by omega
                      clear hand hbit
                      go_wp2_with fail
                      go_roundw
                      case rel =>
                        refine ⟨a + 1, by omega, by go_num, Lib.hid ?_, HXy, HBy⟩
                        rw [HE.out]
                        exact HR.out
                      case measure => simp [Go.RowKit.intOf] <;> omega
                  · obtain rfl : a = 4 := by omega
                    have HRf := Lib.hid (show wr.ownsRow wo.heap.size 57 3 _ (thN (L, C, N)).ins.length ((thN (L, C, N)).ins.flatMap encIn) from by
                      have h9 := HR.out
                      rw [HIns.out] at h9
                      have e1 : pre.length + (locksN L 4).length = (thN (L, C, N)).ins.length := by rw [← HIns.out, List.length_append, List.length_map]
                      rw [e1] at h9
                      exact h9)
                    have HBw := Lib.hid (show Below wp.heap.size wp wr by rw [HSz.out]; exact HBy.out)
                    obtain ⟨wq, rfl⟩ : ∃ x : World, x = wr := ⟨_, rfl⟩
                    obtain ⟨x, hx⟩ : ∃ x, x = thN (L, C, N) := ⟨_, rfl⟩
                    rw [← hx] at HRf H9p HXt
                    have HX9 := Lib.hid (show x.ins.length ≤ 9 by rw [hx, Th.len]; have : (thN (L, C, N)).k ≤ 4 := locksN_len _ _; omega)
                    clear hx HR HRS HXS HCS HIns HS2 HXy
                    obtain ⟨Bx, cx, rfl, hcx⟩ := own_form HRf.out
                    have HOq := Lib.hid (HOp.out.keepB HBw.out)
                    have HQ8 := Lib.hid (H8p.out.keep HBw.out)
                    have HQ9 := Lib.hid (H9p.out.keep HBw.out)
                    have HB := Lib.hid (HBp.out.trans (HBw.out.mono HBp.out.size))
                    have HWq := Lib.hid (show wo.heap.size ≤ wq.heap.size by have := HBy.out.size; have := HSz.out; omega)
                    have HWo := Lib.hid (show W.heap.size ≤ wo.heap.size by have := HBp.out.size; have := HSz.out; omega)
                    have HRl := Lib.hid (show 0 ≤ remN ths (fun _ => 0) ∧ remN ths (fun _ => 0) ≤ 100 from HRm.out)
                    clear hcx HOp H8p H9p HBp HBw HBy
                    go_upto_region 22 with (fail)
                    obtain ⟨rs, o1, o2, o3⟩ := HOq.out
                    obtain ⟨L7, hL7⟩ : ∃ y, y = ths.map Th.ins := ⟨_, rfl⟩
                    rw [← hL7] at o1 o2 o3
                    have hl7 : L7.length ≤ 8 := by rw [hL7, List.length_map]; exact HTl.out
                    have HL7 := Lib.hid hL7
                    obtain ⟨R, hR⟩ : ∃ y, y = remN ths (fun _ => 0) := ⟨_, rfl⟩
                    rw [← hR] at HQ8 HRl
                    have HRn := Lib.hid (show remN (ths ++ [x]) (fun _ => 0) = R + (x.ins.length : Int) by rw [hR]; exact remN_snoc ths x)
                    obtain ⟨nx, hnx⟩ : ∃ y, y = x.ins.length := ⟨_, rfl⟩
                    have HNx := Lib.hid hnx
                    have hR9 := HRl.out
                    have hn9 : nx ≤ 9 := by rw [hnx]; exact HX9.out
                    have hwR : IntKind.i64.wrap (R + (nx : Int)) = R + (nx : Int) := IntWalk.i64_in _ (by omega)
                    rw [← hnx] at HRf HRn
                    rw [← hnx]
                    have HO1 := Lib.hid o1
                    have HOl := Lib.hid (show ∀ k, Value.ownBlock _ = some k → W.heap.size ≤ k from fun k hk => (o2.lt k hk).1)
                    have hbq : Below wq.heap.size wq (wq.drew.alloc (.cells #[.slice Bx nx cx] 55)) := ((Below.refl _ wq).drew).alloc (Nat.le_refl _) _
                    have HBq := Lib.hid hbq
                    have ZO := Lib.hid ((World.ownsRow.drew o2).alloc (.cells #[.slice Bx nx cx] 55))
                    have O3 := Lib.hid (show ∀ j, j < L7.length → (rs.getD j sl0).2.1 = (L7.getD j []).length ∧ (wq.drew.alloc (.cells #[.slice Bx nx cx] 55)).ownsRow W.heap.size 57 3 (slV (rs.getD j sl0)) (L7.getD j []).length ((L7.getD j []).flatMap encIn) from fun j hj => ⟨(o3 j hj).1, own_keepB (o3 j hj).2 hbq⟩)
                    have ZX := Lib.hid (own_low (own_keepB HRf.out hbq) HWo.out)
                    have ZB := Lib.hid (HB.out.trans (hbq.mono HB.out.size))
                    have Q8z := Lib.hid (HQ8.out.keep hbq)
                    have Q9z := Lib.hid (HQ9.out.keep hbq)
                    have hsz2 : W.heap.size ≤ (wq.drew.alloc (.cells #[.slice Bx nx cx] 55)).heap.size := ZB.out.size
                    have HZ9 := Lib.hid hsz2
                    clear hL7 hR hnx hbq o1 o2 o3 hsz2 hR9 HOq HB HRf
                    refine wp_heldK_bar [(9, (fun (w' : World) => w'.cell? ⟨g8, 0, none⟩ = some (.int .i64 R)))] 10 (by kernel_rfl) (by decide) ?_
                    have hS0 := (show ((fun (w' : World) => w'.cell? ⟨g8, 0, none⟩ = some (.int .i64 R))) wq.drew from (HQ8.out.drew.cell 0))
                    refine headK_take (i := 0) (v := ?_) rfl (by kernel_rfl) (fun _ _ _ h => h) (fun _ _ _ h => passed_ready h.1) (Or.inl ⟨by rfl, ?hy1⟩) ⟨fun _ => hS0, trivial⟩ ?rest1
                    case hy1 => intro w _; go_simp; try (with_reducible rfl)
                    case rest1 =>
                    try simp only [Act.put, List.setIfInBounds_toArray, List.set_cons_zero, List.set_cons_succ]
                    refine headK_take (i := 1) (v := ?_) rfl (by kernel_rfl) (fun _ _ _ h => h) (fun _ _ _ h => passed_ready h.1) (Or.inl ⟨by rfl, ?hy2⟩) ⟨fun _ => hS0, trivial⟩ ?rest2
                    case hy2 => intro w _; go_simp; try (with_reducible rfl)
                    case rest2 =>
                    try simp only [Act.put, List.setIfInBounds_toArray, List.set_cons_zero, List.set_cons_succ]
                    refine headK_load 0 9 _ rfl (i := 4) (v := ?_) rfl (by kernel_rfl) (fun _ _ _ h => h) (fun _ _ _ h => passed_ready h.1) (Or.inl ⟨by rfl, ?hy3⟩) ⟨fun _ => hS0, trivial⟩ ?rest3
                    case hy3 => intro w hSw; (try dsimp only at hSw); go_simp; try (with_reducible rfl)
                    case rest3 =>
                    try simp only [Act.put, List.setIfInBounds_toArray, List.set_cons_zero, List.set_cons_succ]
                    refine headK_take (i := 5) (v := ?_) rfl (by kernel_rfl) (fun _ _ _ h => h) (fun _ _ _ h => passed_ready h.1) (Or.inl ⟨by rfl, ?hy4⟩) ⟨fun _ => hS0, trivial⟩ ?rest4
                    case hy4 => intro w _; go_simp; try (with_reducible rfl)
                    case rest4 =>
                    try simp only [Act.put, List.setIfInBounds_toArray, List.set_cons_zero, List.set_cons_succ]
                    refine headK_take (i := 6) (v := ?_) rfl (by kernel_rfl) (fun _ _ _ h => h) (fun _ _ _ h => passed_ready h.1) (Or.inl ⟨by rfl, ?hy5⟩) ⟨fun _ => hS0, trivial⟩ ?rest5
                    case hy5 => intro w _; go_simp; try (with_reducible rfl)
                    case rest5 =>
                    try simp only [Act.put, List.setIfInBounds_toArray, List.set_cons_zero, List.set_cons_succ]
                    refine headK_take (i := 7) (v := ?_) rfl (by kernel_rfl) (fun _ _ _ h => h) (fun _ _ _ h => passed_ready h.1) (Or.inl ⟨by rfl, ?hy6⟩) ⟨fun _ => hS0, trivial⟩ ?rest6
                    case hy6 => intro w _; go_simp; try (with_reducible rfl)
                    case rest6 =>
                    try simp only [Act.put, List.setIfInBounds_toArray, List.set_cons_zero, List.set_cons_succ]
                    refine headK_one (i := 2) (by kernel_rfl) rfl (fun K hK => ?_)
                    go_simp
                    have hS0 := (show ((fun (w' : World) => w'.cell? ⟨g8, 0, none⟩ = some (.int .i64 R))) (wq.drew.alloc (.cells #[.slice Bx nx cx] 55)) from (Q8z.out.cell 0))
                    refine hK.out _ _ ⟨fun _ => hS0, trivial⟩ ?_
                    clear hK K
                    try simp only [Act.put, List.setIfInBounds_toArray, List.set_cons_zero, List.set_cons_succ]
                    refine headK_one (i := 3) (by kernel_rfl) rfl (fun K hK => ?_)
                    refine step_ownR rfl (.tmp 92) (.tmp 94) 22 rfl W.heap.size 55 i1 (.slice none 0 0) 1 24 Try.underlying22 HY.out HY0.out HY1.out HY2.out rfl (by decide) _ _ _ rfl ZO.out ⟨wq.heap.size, 0, none⟩ 1 1 [.slice Bx nx cx] rfl rfl (cell_one_new _ _ _) (by simp [Value.oneCell']) (by simp only [maxLen]; omega) (by omega) HZ9.out ?_
                    intro v9 w3 hown hgrow
                    have HO9 := Lib.hid (OwnT.snoc HO1.out ZO.out O3.out (by rw [← HNx.out]; exact ZX.out) hgrow (by rw [← HNx.out]; exact hown))
                    have HQ8 := Lib.hid (Box.grown Q8z.out hgrow (own_ne ZO.out Q8z.out (by decide)))
                    have HQ9 := Lib.hid (Box.grown Q9z.out hgrow (own_ne ZO.out Q9z.out (by decide)))
                    have HB9 := Lib.hid (ZB.out.grown hgrow HZ9.out HOl.out)
                    clear hown hgrow
                    have r8 := HQ8.out.cell 0
                    have f8 := HQ8.out.free 0
                    have hS0 := (show ((fun (w' : World) => w'.cell? ⟨g8, 0, none⟩ = some (.int .i64 R))) w3 from r8)
                    refine hK.out _ _ ⟨fun _ => hS0, trivial⟩ ?_
                    clear hK K
                    try simp only [Act.put, List.setIfInBounds_toArray, List.set_cons_zero, List.set_cons_succ]
                    refine headK_take (i := 8) (v := ?_) rfl (by kernel_rfl) (fun _ _ _ h => h) (fun _ _ _ h => passed_ready h.1) (Or.inl ⟨by rfl, ?hy7001⟩) ⟨fun _ => hS0, trivial⟩ ?rest7001
                    case hy7001 => intro w _; go_simp; try (with_reducible rfl)
                    case rest7001 =>
                    try simp only [Act.put, List.setIfInBounds_toArray, List.set_cons_zero, List.set_cons_succ]
                    refine headK_one (i := 9) (by kernel_rfl) rfl (fun K hK => ?_)
                    go_simp
                    refine hK.out _ _ ⟨fun h => Bool.noConfusion (show true = false from h), trivial⟩ ?_
                    clear hK K
                    try simp only [Act.put, List.setIfInBounds_toArray, List.set_cons_zero, List.set_cons_succ]
                    refine ⟨by kernel_rfl, ?_⟩
                    refine wpAny_done (by kernel_rfl) ?_ _
                    have QF8 := Lib.hid (HQ8.out.put 0 (.int .i64 (R + (nx : Int))))
                    have QF9 := Lib.hid (HQ9.out.aside (Ne.symm HNe.out) 0 (.int .i64 (R + (nx : Int))))
                    have QFB := Lib.hid (HB9.out.setCell (p := ⟨g8, 0, none⟩) HGb.out.1 (.int .i64 (R + (nx : Int))))
                    have QFO := Lib.hid (HO9.out.far HQ8.out (by decide) (by decide) 0 (.int .i64 (R + (nx : Int))))
                    clear HQ8 HQ9 HB9 HO9 r8 f8 hS0 Q8z Q9z ZB ZO ZX O3
                    go_wp2_with fail
                    go_roundw
                    case rel =>
                      refine ⟨i + 1, by omega, by go_num, Lib.hid ?_, Lib.hid ?_, Lib.hid ?_, QFB⟩
                      · rw [HXt.out, List.map_append, ← HL7.out]; exact QFO.out
                      · rw [HXt.out, HRn.out]; exact QF8.out
                      · rw [HXt.out]; exact QF9.out
                    case measure => simp [Go.RowKit.intOf] <;> omega
        · obtain rfl : i = kk := by omega
          have hkt : (xs.take i).length = i := by rw [List.length_take, H0.out.1.1]; have := HKl.out; omega
          have HOk := Lib.hid (thsN_ok (xs.take i))
          have HNn := Lib.hid (thsN_n (xs.take i))
          obtain ⟨m, hm, hm72⟩ := rem_nat (xs.take i) (by omega)
          have HIl := Lib.hid (ins_len (xs.take i))
          have HC9 := Lib.hid (cells_bd (xs.take i) (by omega))
          have hcl : ((cellsOfT ((xs.take i).map thN)).length) = 4 := rfl
          obtain ⟨ths, hth⟩ : ∃ t, t = (xs.take i).map thN := ⟨_, rfl⟩
          have hl8 : ths.length ≤ 8 := by rw [hth, List.length_map]; omega
          rw [← hth] at HO HQ8 HQ9 HOk HNn hm HIl HC9
          rw [← hm] at HQ8
          have HM := Lib.hid hm
          have HL8 := Lib.hid hl8
          clear hth hkt hm hcl
          have HNR := Lib.hid (new_right HOk.out hl8 HNn.out)
          have HEn := Lib.hid (fun qs => rises_out HOk.out hl8 HNn.out HM.out qs)
          obtain ⟨L7, hL7⟩ : ∃ y, y = ths.map Th.ins := ⟨_, rfl⟩
          rw [← hL7] at HO HIl HNR HEn
          have hl7 : L7.length ≤ 8 := by rw [hL7, List.length_map]; exact hl8
          clear hL7 hl8
          obtain ⟨wo, rfl⟩ : ∃ x : World, x = wr := ⟨_, rfl⟩
          obtain ⟨A7, c7, rfl⟩ := HO.out.form
          have HNw := Lib.hid (new_any A7 L7.length c7 L7 wo HO.out.read.2 HO.out.read.1 (by omega) (fun j _ => Nat.le_trans (HIl.out j) (by decide)))
          have hN0 : newRes L7 = (0, newS L7) := by unfold newRes; rw [if_pos HNR.out]
          have HN0 := Lib.hid hN0
          have hlt2 : ¬ (i : Int) < (i : Int) := by omega
          clear hN0 HO HB3
          have HNe2 := Lib.hid (Ne.symm HNe.out)
          go_wp2_with fail
          refine HNw.out.mono ?_
          rintro e w7 hno
          unfold NewOut at hno
          rw [HN0.out] at hno
          obtain ⟨v7, rfl, hs7, hb⟩ := hno
          obtain ⟨G0, u0, x0, G1, u1, x1, G2, u2, x2, G3, u3, x3, G4, u4, x4, G5, u5, x5, rfl, h7r⟩ := id hs7
          have hlo : Ints w7 G3 u3 [-1, -1, -1, -1] := h7r.2.2.2.2.2.2.2.2.2.1
          have ab : Below w7.heap.size w7 (w7.alloc (.cells #[.slice G0 u0 x0, .slice G1 u1 x1, .slice G2 u2 x2, .slice G3 u3 x3, .slice G4 u4 x4, .slice G5 u5 x5] 26)) := (Below.refl _ _).alloc (Nat.le_refl _) _
          have hab := chain hb ab
          have QS := Lib.hid (Box.new w7 26 #[.slice G0 u0 x0, .slice G1 u1 x1, .slice G2 u2 x2, .slice G3 u3 x3, .slice G4 u4 x4, .slice G5 u5 x5])
          have SS := Lib.hid (hs7.below ab)
          have LS := Lib.hid (hlo.below ab)
          have hu3 : u3 = 4 := hlo.1.symm
          have HU3 := Lib.hid hu3
          replace HQ8 := Lib.hid (HQ8.out.keep hab)
          replace HQ9 := Lib.hid (HQ9.out.keep hab)
          replace HB := Lib.hid (HB.out.trans (hab.mono HB.out.size))
          clear hb hs7 h7r hlo ab hab hu3 HNw
          obtain ⟨wA, hwA⟩ : ∃ x, x = w7.alloc (.cells #[.slice G0 u0 x0, .slice G1 u1 x1, .slice G2 u2 x2, .slice G3 u3 x3, .slice G4 u4 x4, .slice G5 u5 x5] 26) := ⟨_, rfl⟩
          go_upto_region 25 with (fail)
          rw [← hwA] at QS SS LS HQ8 HQ9 HB ⊢
          clear hwA
          obtain ⟨gS, hgS⟩ : ∃ x, x = w7.heap.size := ⟨_, rfl⟩
          rw [← hgS] at QS ⊢
          clear hgS
          go_wp2_with fail
          refine (alive20_any _).mono ?_
          rintro e wX ⟨rfl, hb⟩
          replace QS := Lib.hid (QS.out.keep hb)
          replace SS := Lib.hid (SS.out.below hb)
          replace LS := Lib.hid (LS.out.below hb)
          replace HQ8 := Lib.hid (HQ8.out.keep hb)
          replace HQ9 := Lib.hid (HQ9.out.keep hb)
          replace HB := Lib.hid (HB.out.trans (hb.mono HB.out.size))
          clear hb
          go_upto_region 28 with (fail)
          have FL := Lib.hid (fun wy (hb : Below wX.heap.size wX wy) => full_any ps B1 l1 c1 g8 m wy S1.out (H1.out.below (HB.out.trans (hb.mono HB.out.size))) (HQ8.out.keep hb) hm72)
          have HEsa := Lib.hid (HEn.out ps)
          have RN := Lib.hid (fun wy (hb : Below wX.heap.size wX wy) B d (_ : SliceOk B m d) (hi : Ints wy B m (fullL ps m)) => run_ok_any (.agg #[.slice G0 u0 x0, .slice G1 u1 x1, .slice G2 u2 x2, .slice G3 u3 x3, .slice G4 u4 x4, .slice G5 u5 x5]) (newS L7) wy (SS.out.below hb) B m d (fullL ps m) hi (by omega) HNR.out)
          obtain ⟨sa, hst⟩ : ∃ x, x = runS (newS L7) (fullL ps m) := ⟨_, rfl⟩
          rw [← hst] at HEsa RN
          clear hst
          have HNu := Lib.hid ((WR.of HEsa.out.1).nums (by omega))
          go_cut [19, 20, 21] (fun p q r wx => ∃ (g : Nat) (K0 : Option Addr) (Kc0 : Nat) (K1 : Option Addr) (Kc1 : Nat) (K2 : Option Addr) (Kc2 : Nat) (K3 : Option Addr) (Kc3 : Nat) (K4 : Option Addr) (Kc4 : Nat) (K5 : Option Addr) (Kc5 : Nat) (D : Option Addr) (dd : Nat), p = .pointer (some ⟨g, 0, none⟩) ∧ q = .slice D sa.2.length dd ∧ r = .int .i64 0 ∧ Hid (Box wx g 26 #[.slice K0 sa.1.th.length Kc0, .slice K1 sa.1.pc.length Kc1, .slice K2 sa.1.su.length Kc2, .slice K3 sa.1.lo.length Kc3, .slice K4 sa.1.ce.length Kc4, .slice K5 sa.1.ch.length Kc5]) ∧ Hid (SysAt wx (.agg #[.slice K0 sa.1.th.length Kc0, .slice K1 sa.1.pc.length Kc1, .slice K2 sa.1.su.length Kc2, .slice K3 sa.1.lo.length Kc3, .slice K4 sa.1.ce.length Kc4, .slice K5 sa.1.ch.length Kc5]) sa.1) ∧ Hid (Below wX.heap.size wX wx))
          case first =>
            as_aux_lemma =>
              have H1w := Lib.hid (show Below wX.heap.size wX wX.drew from (Below.refl _ _).drew)
              have H2w := Lib.hid (show Below wX.heap.size wX (wX.alloc (.cells #[.slice none 0 0, .slice none 0 0, .slice none 0 0, .slice none 0 0, .slice none 0 0, .slice none 0 0] 26)).drew from ((Below.refl _ _).alloc (Nat.le_refl _) _).drew)
              have QZ := Lib.hid (show Box (wX.alloc (.cells #[.slice none 0 0, .slice none 0 0, .slice none 0 0, .slice none 0 0, .slice none 0 0, .slice none 0 0] 26)).drew wX.heap.size 26 #[.slice none 0 0, .slice none 0 0, .slice none 0 0, .slice none 0 0, .slice none 0 0, .slice none 0 0] from (Box.new _ _ _).drew)
              obtain ⟨r0, r1, r2, r3, r4, r5⟩ := (QS.out.keep H1w.out).six
              obtain ⟨s0, s1, s2, s3, s4, s5⟩ := (QS.out.keep H2w.out).six
              refine wp_heldK_bar [(4, (fun (w' : World) => w'.cell? ⟨gS, 0, none⟩ = some (.slice G0 u0 x0) ∧ w'.cell? ⟨gS, 1, none⟩ = some (.slice G1 u1 x1) ∧ w'.cell? ⟨gS, 2, none⟩ = some (.slice G2 u2 x2) ∧ w'.cell? ⟨gS, 3, none⟩ = some (.slice G3 u3 x3) ∧ w'.cell? ⟨gS, 4, none⟩ = some (.slice G4 u4 x4) ∧ w'.cell? ⟨gS, 5, none⟩ = some (.slice G5 u5 x5)))] 13 (by kernel_rfl) (by decide) ?_
              have hS0 := (show ((fun (w' : World) => w'.cell? ⟨gS, 0, none⟩ = some (.slice G0 u0 x0) ∧ w'.cell? ⟨gS, 1, none⟩ = some (.slice G1 u1 x1) ∧ w'.cell? ⟨gS, 2, none⟩ = some (.slice G2 u2 x2) ∧ w'.cell? ⟨gS, 3, none⟩ = some (.slice G3 u3 x3) ∧ w'.cell? ⟨gS, 4, none⟩ = some (.slice G4 u4 x4) ∧ w'.cell? ⟨gS, 5, none⟩ = some (.slice G5 u5 x5))) wX.drew from ⟨r0, r1, r2, r3, r4, r5⟩)
              refine headK_load 0 4 _ rfl (i := 0) (v := ?_) rfl (by kernel_rfl) (fun _ _ _ h => h) (fun _ _ _ h => passed_ready h.1) (Or.inl ⟨by rfl, ?hy10⟩) ⟨fun _ => hS0, trivial⟩ ?rest10
              case hy10 => intro w hSw; (try dsimp only at hSw); obtain ⟨hc0, hc1, hc2, hc3, hc4, hc5⟩ := hSw; go_simp; try (with_reducible rfl)
              case rest10 =>
              try simp only [Act.put, List.setIfInBounds_toArray, List.set_cons_zero, List.set_cons_succ]
              refine headK_take (i := 1) (v := ?_) rfl (by kernel_rfl) (fun _ _ _ h => h) (fun _ _ _ h => passed_ready h.1) (Or.inl ⟨by rfl, ?hy11⟩) ⟨fun _ => hS0, trivial⟩ ?rest11
              case hy11 => intro w _; go_simp; try (with_reducible rfl)
              case rest11 =>
              try simp only [Act.put, List.setIfInBounds_toArray, List.set_cons_zero, List.set_cons_succ]
              refine headK_take (i := 2) (v := ?_) rfl (by kernel_rfl) (fun _ _ _ h => h) (fun _ _ _ h => passed_ready h.1) (Or.inl ⟨by rfl, ?hy12⟩) ⟨fun _ => hS0, trivial⟩ ?rest12
              case hy12 => intro w _; go_simp; try (with_reducible rfl)
              case rest12 =>
              try simp only [Act.put, List.setIfInBounds_toArray, List.set_cons_zero, List.set_cons_succ]
              refine headK_two (i := 3) (j := 9) (by kernel_rfl) rfl rfl (fun K hK => ?_) (fun K hK => ?_)
              · go_simp
                refine (FL.out _ H1w.out).mono ?_
                rintro e wF ⟨B, d, rfl, hk, hi, hbk⟩
                have HKF := Lib.hid hk
                have HIF := Lib.hid hi
                have HBF := Lib.hid (chain H1w.out hbk)
                clear hk hi
                obtain ⟨t0, t1, t2, t3, t4, t5⟩ := (QS.out.keep HBF.out).six
                have ZF := Lib.hid (show Below wF.heap.size wF (wF.alloc (.cells #[.slice none 0 0, .slice none 0 0, .slice none 0 0, .slice none 0 0, .slice none 0 0, .slice none 0 0] 26)) from (Below.refl _ _).alloc (Nat.le_refl _) _)
                have QF := Lib.hid (show Box (wF.alloc (.cells #[.slice none 0 0, .slice none 0 0, .slice none 0 0, .slice none 0 0, .slice none 0 0, .slice none 0 0] 26)) wF.heap.size 26 #[.slice none 0 0, .slice none 0 0, .slice none 0 0, .slice none 0 0, .slice none 0 0, .slice none 0 0] from Box.new _ _ _)
                obtain ⟨z0, z1, z2, z3, z4, z5⟩ := (QS.out.keep (chain HBF.out ZF.out)).six
                refine hK.out _ _ ⟨fun _ => (show (fun (w' : World) => w'.cell? ⟨gS, 0, none⟩ = some (.slice G0 u0 x0) ∧ w'.cell? ⟨gS, 1, none⟩ = some (.slice G1 u1 x1) ∧ w'.cell? ⟨gS, 2, none⟩ = some (.slice G2 u2 x2) ∧ w'.cell? ⟨gS, 3, none⟩ = some (.slice G3 u3 x3) ∧ w'.cell? ⟨gS, 4, none⟩ = some (.slice G4 u4 x4) ∧ w'.cell? ⟨gS, 5, none⟩ = some (.slice G5 u5 x5)) _ from ⟨t0, t1, t2, t3, t4, t5⟩), trivial⟩ ?_
                clear hK K
                try simp only [Act.put, List.setIfInBounds_toArray, List.set_cons_zero, List.set_cons_succ]
                refine headK_two (i := 4) (j := 9) (by kernel_rfl) rfl rfl (fun K hK => ?_) (fun K hK => ?_)
                · go_simp
                  refine (RN.out _ HBF.out B d HKF.out (HIF.out)).mono ?_
                  rintro e w9 ⟨K0, Kc0, K1, Kc1, K2, Kc2, K3, Kc3, K4, Kc4, K5, Kc5, D, dd, rfl, hM, -, -, hbr⟩
                  have HM9 := Lib.hid hM
                  clear hM
                  refine hK.out _ _ ⟨fun h => Bool.noConfusion (show true = false from h), trivial⟩ ?_
                  clear hK K
                  try simp only [Act.put, List.setIfInBounds_toArray, List.set_cons_zero, List.set_cons_succ]
                  refine headK_take (i := 5) (v := ?_) rfl (by kernel_rfl) (fun _ _ _ h => h) (fun _ _ _ h => passed_ready h.1) (Or.inl ⟨by rfl, ?hy8007⟩) ⟨fun h => Bool.noConfusion (show true = false from h), trivial⟩ ?rest8007
                  case hy8007 => intro w _; go_simp; try (with_reducible rfl)
                  case rest8007 =>
                  try simp only [Act.put, List.setIfInBounds_toArray, List.set_cons_zero, List.set_cons_succ]
                  refine headK_take (i := 6) (v := ?_) rfl (by kernel_rfl) (fun _ _ _ h => h) (fun _ _ _ h => passed_ready h.1) (Or.inl ⟨by rfl, ?hy8008⟩) ⟨fun h => Bool.noConfusion (show true = false from h), trivial⟩ ?rest8008
                  case hy8008 => intro w _; go_simp; try (with_reducible rfl)
                  case rest8008 =>
                  try simp only [Act.put, List.setIfInBounds_toArray, List.set_cons_zero, List.set_cons_succ]
                  refine headK_take (i := 7) (v := ?_) rfl (by kernel_rfl) (fun _ _ _ h => h) (fun _ _ _ h => passed_ready h.1) (Or.inl ⟨by rfl, ?hy8009⟩) ⟨fun h => Bool.noConfusion (show true = false from h), trivial⟩ ?rest8009
                  case hy8009 => intro w _; go_simp; try (with_reducible rfl)
                  case rest8009 =>
                  try simp only [Act.put, List.setIfInBounds_toArray, List.set_cons_zero, List.set_cons_succ]
                  refine headK_take (i := 8) (v := ?_) rfl (by kernel_rfl) (fun _ _ _ h => h) (fun _ _ _ h => passed_ready h.1) (Or.inl ⟨by rfl, ?hy8010⟩) ⟨fun h => Bool.noConfusion (show true = false from h), trivial⟩ ?rest8010
                  case hy8010 => intro w _; go_simp; try (with_reducible rfl)
                  case rest8010 =>
                  try simp only [Act.put, List.setIfInBounds_toArray, List.set_cons_zero, List.set_cons_succ]
                  refine headK_one (i := 9) (by kernel_rfl) rfl (fun K hK => ?_)
                  go_simp
                  refine hK.out _ _ ⟨fun h => Bool.noConfusion (show true = false from h), trivial⟩ ?_
                  clear hK K
                  try simp only [Act.put, List.setIfInBounds_toArray, List.set_cons_zero, List.set_cons_succ]
                  refine headK_one (i := 10) (by kernel_rfl) rfl (fun K hK => ?_)
                  go_simp
                  refine hK.out _ _ ⟨fun h => Bool.noConfusion (show true = false from h), trivial⟩ ?_
                  clear hK K
                  try simp only [Act.put, List.setIfInBounds_toArray, List.set_cons_zero, List.set_cons_succ]
                  refine headK_take (i := 11) (v := ?_) rfl (by kernel_rfl) (fun _ _ _ h => h) (fun _ _ _ h => passed_ready h.1) (Or.inl ⟨by rfl, ?hy8011⟩) ⟨fun h => Bool.noConfusion (show true = false from h), trivial⟩ ?rest8011
                  case hy8011 => intro w _; go_simp; try (with_reducible rfl)
                  case rest8011 =>
                  try simp only [Act.put, List.setIfInBounds_toArray, List.set_cons_zero, List.set_cons_succ]
                  refine headK_take (i := 12) (v := ?_) rfl (by kernel_rfl) (fun _ _ _ h => h) (fun _ _ _ h => passed_ready h.1) (Or.inl ⟨by rfl, ?hy8012⟩) ⟨fun h => Bool.noConfusion (show true = false from h), trivial⟩ ?rest8012
                  case hy8012 => intro w _; go_simp; try (with_reducible rfl)
                  case rest8012 =>
                  try simp only [Act.put, List.setIfInBounds_toArray, List.set_cons_zero, List.set_cons_succ]
                  refine ⟨by kernel_rfl, ?_⟩
                  refine wpAny_done (by kernel_rfl) ?_ _
                  go_wp2_with fail
                  have ab : Below w9.heap.size w9 (w9.alloc (.cells #[.slice K0 sa.1.th.length Kc0, .slice K1 sa.1.pc.length Kc1, .slice K2 sa.1.su.length Kc2, .slice K3 sa.1.lo.length Kc3, .slice K4 sa.1.ce.length Kc4, .slice K5 sa.1.ch.length Kc5] 26)) := (Below.refl _ _).alloc (Nat.le_refl _) _
                  obtain ⟨M9, hM9⟩ := HM9.out
                  go_meet
                  exact ⟨_, K0, Kc0, K1, Kc1, K2, Kc2, K3, Kc3, K4, Kc4, K5, Kc5, D, dd, rfl, rfl, rfl, Lib.hid (Box.new w9 26 #[.slice K0 sa.1.th.length Kc0, .slice K1 sa.1.pc.length Kc1, .slice K2 sa.1.su.length Kc2, .slice K3 sa.1.lo.length Kc3, .slice K4 sa.1.ce.length Kc4, .slice K5 sa.1.ch.length Kc5]), Lib.hid ((hM9.keepB ab).sys.at HNu.out), Lib.hid (chain (chain HBF.out hbr) ab)⟩
                · go_simp
                  refine hK.out _ _ ⟨fun _ => (show (fun (w' : World) => w'.cell? ⟨gS, 0, none⟩ = some (.slice G0 u0 x0) ∧ w'.cell? ⟨gS, 1, none⟩ = some (.slice G1 u1 x1) ∧ w'.cell? ⟨gS, 2, none⟩ = some (.slice G2 u2 x2) ∧ w'.cell? ⟨gS, 3, none⟩ = some (.slice G3 u3 x3) ∧ w'.cell? ⟨gS, 4, none⟩ = some (.slice G4 u4 x4) ∧ w'.cell? ⟨gS, 5, none⟩ = some (.slice G5 u5 x5)) _ from ⟨z0, z1, z2, z3, z4, z5⟩), trivial⟩ ?_
                  clear hK K
                  try simp only [Act.put, List.setIfInBounds_toArray, List.set_cons_zero, List.set_cons_succ]
                  refine headK_one (i := 4) (by kernel_rfl) rfl (fun K hK => ?_)
                  go_simp
                  refine (RN.out _ (chain HBF.out ZF.out) B d HKF.out (HIF.out.below ZF.out)).mono ?_
                  rintro e w9 ⟨K0, Kc0, K1, Kc1, K2, Kc2, K3, Kc3, K4, Kc4, K5, Kc5, D, dd, rfl, hM, -, -, hbr⟩
                  have HM9 := Lib.hid hM
                  clear hM
                  have QF9 := Lib.hid (QF.out.keep hbr)
                  obtain ⟨y0, y1, y2, y3, y4, y5⟩ := QF9.out.six
                  have v0 := QF9.out.free 0
                  have v1 := QF9.out.free 1
                  have v2 := QF9.out.free 2
                  have v3 := QF9.out.free 3
                  have v4 := QF9.out.free 4
                  have v5 := QF9.out.free 5
                  refine hK.out _ _ ⟨fun h => Bool.noConfusion (show true = false from h), trivial⟩ ?_
                  clear hK K
                  try simp only [Act.put, List.setIfInBounds_toArray, List.set_cons_zero, List.set_cons_succ]
                  refine headK_take (i := 5) (v := ?_) rfl (by kernel_rfl) (fun _ _ _ h => h) (fun _ _ _ h => passed_ready h.1) (Or.inl ⟨by rfl, ?hy8007⟩) ⟨fun h => Bool.noConfusion (show true = false from h), trivial⟩ ?rest8007
                  case hy8007 => intro w _; go_simp; try (with_reducible rfl)
                  case rest8007 =>
                  try simp only [Act.put, List.setIfInBounds_toArray, List.set_cons_zero, List.set_cons_succ]
                  refine headK_take (i := 6) (v := ?_) rfl (by kernel_rfl) (fun _ _ _ h => h) (fun _ _ _ h => passed_ready h.1) (Or.inl ⟨by rfl, ?hy8008⟩) ⟨fun h => Bool.noConfusion (show true = false from h), trivial⟩ ?rest8008
                  case hy8008 => intro w _; go_simp; try (with_reducible rfl)
                  case rest8008 =>
                  try simp only [Act.put, List.setIfInBounds_toArray, List.set_cons_zero, List.set_cons_succ]
                  refine headK_take (i := 7) (v := ?_) rfl (by kernel_rfl) (fun _ _ _ h => h) (fun _ _ _ h => passed_ready h.1) (Or.inl ⟨by rfl, ?hy8009⟩) ⟨fun h => Bool.noConfusion (show true = false from h), trivial⟩ ?rest8009
                  case hy8009 => intro w _; go_simp; try (with_reducible rfl)
                  case rest8009 =>
                  try simp only [Act.put, List.setIfInBounds_toArray, List.set_cons_zero, List.set_cons_succ]
                  refine headK_take (i := 8) (v := ?_) rfl (by kernel_rfl) (fun _ _ _ h => h) (fun _ _ _ h => passed_ready h.1) (Or.inl ⟨by rfl, ?hy8010⟩) ⟨fun h => Bool.noConfusion (show true = false from h), trivial⟩ ?rest8010
                  case hy8010 => intro w _; go_simp; try (with_reducible rfl)
                  case rest8010 =>
                  try simp only [Act.put, List.setIfInBounds_toArray, List.set_cons_zero, List.set_cons_succ]
                  refine headK_one (i := 10) (by kernel_rfl) rfl (fun K hK => ?_)
                  go_simp
                  refine hK.out _ _ ⟨fun h => Bool.noConfusion (show true = false from h), trivial⟩ ?_
                  clear hK K
                  try simp only [Act.put, List.setIfInBounds_toArray, List.set_cons_zero, List.set_cons_succ]
                  refine headK_take (i := 11) (v := ?_) rfl (by kernel_rfl) (fun _ _ _ h => h) (fun _ _ _ h => passed_ready h.1) (Or.inl ⟨by rfl, ?hy8011⟩) ⟨fun h => Bool.noConfusion (show true = false from h), trivial⟩ ?rest8011
                  case hy8011 => intro w _; go_simp; try (with_reducible rfl)
                  case rest8011 =>
                  try simp only [Act.put, List.setIfInBounds_toArray, List.set_cons_zero, List.set_cons_succ]
                  refine headK_take (i := 12) (v := ?_) rfl (by kernel_rfl) (fun _ _ _ h => h) (fun _ _ _ h => passed_ready h.1) (Or.inl ⟨by rfl, ?hy8012⟩) ⟨fun h => Bool.noConfusion (show true = false from h), trivial⟩ ?rest8012
                  case hy8012 => intro w _; go_simp; try (with_reducible rfl)
                  case rest8012 =>
                  try simp only [Act.put, List.setIfInBounds_toArray, List.set_cons_zero, List.set_cons_succ]
                  refine ⟨by kernel_rfl, ?_⟩
                  refine wpAny_done (by kernel_rfl) ?_ _
                  go_wp2_with fail
                  have hX := set6_grown w9 (wF.heap.size) (.slice K0 sa.1.th.length Kc0) (.slice K1 sa.1.pc.length Kc1) (.slice K2 sa.1.su.length Kc2) (.slice K3 sa.1.lo.length Kc3) (.slice K4 sa.1.ce.length Kc4) (.slice K5 sa.1.ch.length Kc5)
                  obtain ⟨M9, hM9⟩ := HM9.out
                  have hM8 := hM9.box_gr QF9.out hX
                  have hB8 := (((((((chain (chain HBF.out ZF.out) hbr).setCell (p := ⟨wF.heap.size, 0, none⟩) (HBF.out.size) (.slice K0 sa.1.th.length Kc0)).setCell (p := ⟨wF.heap.size, 1, none⟩) (HBF.out.size) (.slice K1 sa.1.pc.length Kc1)).setCell (p := ⟨wF.heap.size, 2, none⟩) (HBF.out.size) (.slice K2 sa.1.su.length Kc2)).setCell (p := ⟨wF.heap.size, 3, none⟩) (HBF.out.size) (.slice K3 sa.1.lo.length Kc3)).setCell (p := ⟨wF.heap.size, 4, none⟩) (HBF.out.size) (.slice K4 sa.1.ce.length Kc4)).setCell (p := ⟨wF.heap.size, 5, none⟩) (HBF.out.size) (.slice K5 sa.1.ch.length Kc5))
                  have hQ8 := ((((((QF9.out.put 0 (.slice K0 sa.1.th.length Kc0)).put 1 (.slice K1 sa.1.pc.length Kc1)).put 2 (.slice K2 sa.1.su.length Kc2)).put 3 (.slice K3 sa.1.lo.length Kc3)).put 4 (.slice K4 sa.1.ce.length Kc4)).put 5 (.slice K5 sa.1.ch.length Kc5))
                  clear hX
                  go_meet
                  exact ⟨_, K0, Kc0, K1, Kc1, K2, Kc2, K3, Kc3, K4, Kc4, K5, Kc5, D, dd, rfl, rfl, rfl, Lib.hid hQ8, Lib.hid (hM8.sys.at HNu.out), Lib.hid hB8⟩
              · go_simp
                refine hK.out _ _ ⟨fun _ => (show (fun (w' : World) => w'.cell? ⟨gS, 0, none⟩ = some (.slice G0 u0 x0) ∧ w'.cell? ⟨gS, 1, none⟩ = some (.slice G1 u1 x1) ∧ w'.cell? ⟨gS, 2, none⟩ = some (.slice G2 u2 x2) ∧ w'.cell? ⟨gS, 3, none⟩ = some (.slice G3 u3 x3) ∧ w'.cell? ⟨gS, 4, none⟩ = some (.slice G4 u4 x4) ∧ w'.cell? ⟨gS, 5, none⟩ = some (.slice G5 u5 x5)) _ from ⟨s0, s1, s2, s3, s4, s5⟩), trivial⟩ ?_
                clear hK K
                try simp only [Act.put, List.setIfInBounds_toArray, List.set_cons_zero, List.set_cons_succ]
                refine headK_one (i := 3) (by kernel_rfl) rfl (fun K hK => ?_)
                go_simp
                refine (FL.out _ H2w.out).mono ?_
                rintro e wF ⟨B, d, rfl, hk, hi, hbk⟩
                have HKF := Lib.hid hk
                have HIF := Lib.hid hi
                have HBF := Lib.hid (chain H2w.out hbk)
                clear hk hi
                obtain ⟨t0, t1, t2, t3, t4, t5⟩ := (QS.out.keep HBF.out).six
                have QF := Lib.hid (QZ.out.keep hbk)
                refine hK.out _ _ ⟨fun _ => (show (fun (w' : World) => w'.cell? ⟨gS, 0, none⟩ = some (.slice G0 u0 x0) ∧ w'.cell? ⟨gS, 1, none⟩ = some (.slice G1 u1 x1) ∧ w'.cell? ⟨gS, 2, none⟩ = some (.slice G2 u2 x2) ∧ w'.cell? ⟨gS, 3, none⟩ = some (.slice G3 u3 x3) ∧ w'.cell? ⟨gS, 4, none⟩ = some (.slice G4 u4 x4) ∧ w'.cell? ⟨gS, 5, none⟩ = some (.slice G5 u5 x5)) _ from ⟨t0, t1, t2, t3, t4, t5⟩), trivial⟩ ?_
                clear hK K
                try simp only [Act.put, List.setIfInBounds_toArray, List.set_cons_zero, List.set_cons_succ]
                refine headK_one (i := 4) (by kernel_rfl) rfl (fun K hK => ?_)
                go_simp
                refine (RN.out _ HBF.out B d HKF.out (HIF.out)).mono ?_
                rintro e w9 ⟨K0, Kc0, K1, Kc1, K2, Kc2, K3, Kc3, K4, Kc4, K5, Kc5, D, dd, rfl, hM, -, -, hbr⟩
                have HM9 := Lib.hid hM
                clear hM
                have QF9 := Lib.hid (QF.out.keep hbr)
                obtain ⟨y0, y1, y2, y3, y4, y5⟩ := QF9.out.six
                have v0 := QF9.out.free 0
                have v1 := QF9.out.free 1
                have v2 := QF9.out.free 2
                have v3 := QF9.out.free 3
                have v4 := QF9.out.free 4
                have v5 := QF9.out.free 5
                refine hK.out _ _ ⟨fun h => Bool.noConfusion (show true = false from h), trivial⟩ ?_
                clear hK K
                try simp only [Act.put, List.setIfInBounds_toArray, List.set_cons_zero, List.set_cons_succ]
                refine headK_take (i := 5) (v := ?_) rfl (by kernel_rfl) (fun _ _ _ h => h) (fun _ _ _ h => passed_ready h.1) (Or.inl ⟨by rfl, ?hy8007⟩) ⟨fun h => Bool.noConfusion (show true = false from h), trivial⟩ ?rest8007
                case hy8007 => intro w _; go_simp; try (with_reducible rfl)
                case rest8007 =>
                try simp only [Act.put, List.setIfInBounds_toArray, List.set_cons_zero, List.set_cons_succ]
                refine headK_take (i := 6) (v := ?_) rfl (by kernel_rfl) (fun _ _ _ h => h) (fun _ _ _ h => passed_ready h.1) (Or.inl ⟨by rfl, ?hy8008⟩) ⟨fun h => Bool.noConfusion (show true = false from h), trivial⟩ ?rest8008
                case hy8008 => intro w _; go_simp; try (with_reducible rfl)
                case rest8008 =>
                try simp only [Act.put, List.setIfInBounds_toArray, List.set_cons_zero, List.set_cons_succ]
                refine headK_take (i := 7) (v := ?_) rfl (by kernel_rfl) (fun _ _ _ h => h) (fun _ _ _ h => passed_ready h.1) (Or.inl ⟨by rfl, ?hy8009⟩) ⟨fun h => Bool.noConfusion (show true = false from h), trivial⟩ ?rest8009
                case hy8009 => intro w _; go_simp; try (with_reducible rfl)
                case rest8009 =>
                try simp only [Act.put, List.setIfInBounds_toArray, List.set_cons_zero, List.set_cons_succ]
                refine headK_take (i := 8) (v := ?_) rfl (by kernel_rfl) (fun _ _ _ h => h) (fun _ _ _ h => passed_ready h.1) (Or.inl ⟨by rfl, ?hy8010⟩) ⟨fun h => Bool.noConfusion (show true = false from h), trivial⟩ ?rest8010
                case hy8010 => intro w _; go_simp; try (with_reducible rfl)
                case rest8010 =>
                try simp only [Act.put, List.setIfInBounds_toArray, List.set_cons_zero, List.set_cons_succ]
                refine headK_one (i := 10) (by kernel_rfl) rfl (fun K hK => ?_)
                go_simp
                refine hK.out _ _ ⟨fun h => Bool.noConfusion (show true = false from h), trivial⟩ ?_
                clear hK K
                try simp only [Act.put, List.setIfInBounds_toArray, List.set_cons_zero, List.set_cons_succ]
                refine headK_take (i := 11) (v := ?_) rfl (by kernel_rfl) (fun _ _ _ h => h) (fun _ _ _ h => passed_ready h.1) (Or.inl ⟨by rfl, ?hy8011⟩) ⟨fun h => Bool.noConfusion (show true = false from h), trivial⟩ ?rest8011
                case hy8011 => intro w _; go_simp; try (with_reducible rfl)
                case rest8011 =>
                try simp only [Act.put, List.setIfInBounds_toArray, List.set_cons_zero, List.set_cons_succ]
                refine headK_take (i := 12) (v := ?_) rfl (by kernel_rfl) (fun _ _ _ h => h) (fun _ _ _ h => passed_ready h.1) (Or.inl ⟨by rfl, ?hy8012⟩) ⟨fun h => Bool.noConfusion (show true = false from h), trivial⟩ ?rest8012
                case hy8012 => intro w _; go_simp; try (with_reducible rfl)
                case rest8012 =>
                try simp only [Act.put, List.setIfInBounds_toArray, List.set_cons_zero, List.set_cons_succ]
                refine ⟨by kernel_rfl, ?_⟩
                refine wpAny_done (by kernel_rfl) ?_ _
                go_wp2_with fail
                have hX := set6_grown w9 (wX.heap.size) (.slice K0 sa.1.th.length Kc0) (.slice K1 sa.1.pc.length Kc1) (.slice K2 sa.1.su.length Kc2) (.slice K3 sa.1.lo.length Kc3) (.slice K4 sa.1.ce.length Kc4) (.slice K5 sa.1.ch.length Kc5)
                obtain ⟨M9, hM9⟩ := HM9.out
                have hM8 := hM9.box_gr QF9.out hX
                have hB8 := (((((((chain HBF.out hbr).setCell (p := ⟨wX.heap.size, 0, none⟩) (Nat.le_refl _) (.slice K0 sa.1.th.length Kc0)).setCell (p := ⟨wX.heap.size, 1, none⟩) (Nat.le_refl _) (.slice K1 sa.1.pc.length Kc1)).setCell (p := ⟨wX.heap.size, 2, none⟩) (Nat.le_refl _) (.slice K2 sa.1.su.length Kc2)).setCell (p := ⟨wX.heap.size, 3, none⟩) (Nat.le_refl _) (.slice K3 sa.1.lo.length Kc3)).setCell (p := ⟨wX.heap.size, 4, none⟩) (Nat.le_refl _) (.slice K4 sa.1.ce.length Kc4)).setCell (p := ⟨wX.heap.size, 5, none⟩) (Nat.le_refl _) (.slice K5 sa.1.ch.length Kc5))
                have hQ8 := ((((((QF9.out.put 0 (.slice K0 sa.1.th.length Kc0)).put 1 (.slice K1 sa.1.pc.length Kc1)).put 2 (.slice K2 sa.1.su.length Kc2)).put 3 (.slice K3 sa.1.lo.length Kc3)).put 4 (.slice K4 sa.1.ce.length Kc4)).put 5 (.slice K5 sa.1.ch.length Kc5))
                clear hX
                go_meet
                exact ⟨_, K0, Kc0, K1, Kc1, K2, Kc2, K3, Kc3, K4, Kc4, K5, Kc5, D, dd, rfl, rfl, rfl, Lib.hid hQ8, Lib.hid (hM8.sys.at HNu.out), Lib.hid hB8⟩
          case rest =>
            as_aux_lemma =>
              obtain ⟨gA, M0, Mc0, M1, Mc1, M2, Mc2, M3, Mc3, M4, Mc4, M5, Mc5, DA, da, rfl, rfl, rfl, QA, SA, HBc⟩ := hcut
              obtain ⟨wY, rfl⟩ : ∃ x : World, x = wc := ⟨_, rfl⟩
              replace QS := Lib.hid (QS.out.keep HBc.out)
              replace SS := Lib.hid (SS.out.below HBc.out)
              replace LS := Lib.hid (LS.out.below HBc.out)
              replace HQ8 := Lib.hid (HQ8.out.keep HBc.out)
              replace HQ9 := Lib.hid (HQ9.out.keep HBc.out)
              replace HB := Lib.hid (HB.out.trans (HBc.out.mono HB.out.size))
              clear FL RN HNu HBc
              go_upto_region 29 with (fail)
              have FL := Lib.hid (fun wy (hb : Below wY.heap.size wY wy) => full_any qs B2 l2 c2 g8 m wy S2.out (H2.out.below (HB.out.trans (hb.mono HB.out.size))) (HQ8.out.keep hb) hm72)
              have HEsb := Lib.hid (HEn.out qs)
              have RN := Lib.hid (fun wy (hb : Below wY.heap.size wY wy) B d (_ : SliceOk B m d) (hi : Ints wy B m (fullL qs m)) => run_ok_any (.agg #[.slice G0 u0 x0, .slice G1 u1 x1, .slice G2 u2 x2, .slice G3 u3 x3, .slice G4 u4 x4, .slice G5 u5 x5]) (newS L7) wy (SS.out.below hb) B m d (fullL qs m) hi (by omega) HNR.out)
              obtain ⟨sb, hst⟩ : ∃ x, x = runS (newS L7) (fullL qs m) := ⟨_, rfl⟩
              rw [← hst] at HEsb RN
              clear hst
              have HNu := Lib.hid ((WR.of HEsb.out.1).nums (by omega))
              go_cut [22, 23, 24] (fun p q r wx => ∃ (g : Nat) (K0 : Option Addr) (Kc0 : Nat) (K1 : Option Addr) (Kc1 : Nat) (K2 : Option Addr) (Kc2 : Nat) (K3 : Option Addr) (Kc3 : Nat) (K4 : Option Addr) (Kc4 : Nat) (K5 : Option Addr) (Kc5 : Nat) (D : Option Addr) (dd : Nat), p = .pointer (some ⟨g, 0, none⟩) ∧ q = .slice D sb.2.length dd ∧ r = .int .i64 0 ∧ Hid (Box wx g 26 #[.slice K0 sb.1.th.length Kc0, .slice K1 sb.1.pc.length Kc1, .slice K2 sb.1.su.length Kc2, .slice K3 sb.1.lo.length Kc3, .slice K4 sb.1.ce.length Kc4, .slice K5 sb.1.ch.length Kc5]) ∧ Hid (SysAt wx (.agg #[.slice K0 sb.1.th.length Kc0, .slice K1 sb.1.pc.length Kc1, .slice K2 sb.1.su.length Kc2, .slice K3 sb.1.lo.length Kc3, .slice K4 sb.1.ce.length Kc4, .slice K5 sb.1.ch.length Kc5]) sb.1) ∧ Hid (Below wY.heap.size wY wx))
              case first =>
                as_aux_lemma =>
                  have H1w := Lib.hid (show Below wY.heap.size wY wY.drew from (Below.refl _ _).drew)
                  have H2w := Lib.hid (show Below wY.heap.size wY (wY.alloc (.cells #[.slice none 0 0, .slice none 0 0, .slice none 0 0, .slice none 0 0, .slice none 0 0, .slice none 0 0] 26)).drew from ((Below.refl _ _).alloc (Nat.le_refl _) _).drew)
                  have QZ := Lib.hid (show Box (wY.alloc (.cells #[.slice none 0 0, .slice none 0 0, .slice none 0 0, .slice none 0 0, .slice none 0 0, .slice none 0 0] 26)).drew wY.heap.size 26 #[.slice none 0 0, .slice none 0 0, .slice none 0 0, .slice none 0 0, .slice none 0 0, .slice none 0 0] from (Box.new _ _ _).drew)
                  obtain ⟨r0, r1, r2, r3, r4, r5⟩ := (QS.out.keep H1w.out).six
                  obtain ⟨s0, s1, s2, s3, s4, s5⟩ := (QS.out.keep H2w.out).six
                  refine wp_heldK_bar [(4, (fun (w' : World) => w'.cell? ⟨gS, 0, none⟩ = some (.slice G0 u0 x0) ∧ w'.cell? ⟨gS, 1, none⟩ = some (.slice G1 u1 x1) ∧ w'.cell? ⟨gS, 2, none⟩ = some (.slice G2 u2 x2) ∧ w'.cell? ⟨gS, 3, none⟩ = some (.slice G3 u3 x3) ∧ w'.cell? ⟨gS, 4, none⟩ = some (.slice G4 u4 x4) ∧ w'.cell? ⟨gS, 5, none⟩ = some (.slice G5 u5 x5)))] 13 (by kernel_rfl) (by decide) ?_
                  have hS0 := (show ((fun (w' : World) => w'.cell? ⟨gS, 0, none⟩ = some (.slice G0 u0 x0) ∧ w'.cell? ⟨gS, 1, none⟩ = some (.slice G1 u1 x1) ∧ w'.cell? ⟨gS, 2, none⟩ = some (.slice G2 u2 x2) ∧ w'.cell? ⟨gS, 3, none⟩ = some (.slice G3 u3 x3) ∧ w'.cell? ⟨gS, 4, none⟩ = some (.slice G4 u4 x4) ∧ w'.cell? ⟨gS, 5, none⟩ = some (.slice G5 u5 x5))) wY.drew from ⟨r0, r1, r2, r3, r4, r5⟩)
                  refine headK_load 0 4 _ rfl (i := 0) (v := ?_) rfl (by kernel_rfl) (fun _ _ _ h => h) (fun _ _ _ h => passed_ready h.1) (Or.inl ⟨by rfl, ?hy7⟩) ⟨fun _ => hS0, trivial⟩ ?rest7
                  case hy7 => intro w hSw; (try dsimp only at hSw); obtain ⟨hc0, hc1, hc2, hc3, hc4, hc5⟩ := hSw; go_simp; try (with_reducible rfl)
                  case rest7 =>
                  try simp only [Act.put, List.setIfInBounds_toArray, List.set_cons_zero, List.set_cons_succ]
                  refine headK_take (i := 1) (v := ?_) rfl (by kernel_rfl) (fun _ _ _ h => h) (fun _ _ _ h => passed_ready h.1) (Or.inl ⟨by rfl, ?hy8⟩) ⟨fun _ => hS0, trivial⟩ ?rest8
                  case hy8 => intro w _; go_simp; try (with_reducible rfl)
                  case rest8 =>
                  try simp only [Act.put, List.setIfInBounds_toArray, List.set_cons_zero, List.set_cons_succ]
                  refine headK_take (i := 2) (v := ?_) rfl (by kernel_rfl) (fun _ _ _ h => h) (fun _ _ _ h => passed_ready h.1) (Or.inl ⟨by rfl, ?hy9⟩) ⟨fun _ => hS0, trivial⟩ ?rest9
                  case hy9 => intro w _; go_simp; try (with_reducible rfl)
                  case rest9 =>
                  try simp only [Act.put, List.setIfInBounds_toArray, List.set_cons_zero, List.set_cons_succ]
                  refine headK_two (i := 3) (j := 9) (by kernel_rfl) rfl rfl (fun K hK => ?_) (fun K hK => ?_)
                  · go_simp
                    refine (FL.out _ H1w.out).mono ?_
                    rintro e wF ⟨B, d, rfl, hk, hi, hbk⟩
                    have HKF := Lib.hid hk
                    have HIF := Lib.hid hi
                    have HBF := Lib.hid (chain H1w.out hbk)
                    clear hk hi
                    obtain ⟨t0, t1, t2, t3, t4, t5⟩ := (QS.out.keep HBF.out).six
                    have ZF := Lib.hid (show Below wF.heap.size wF (wF.alloc (.cells #[.slice none 0 0, .slice none 0 0, .slice none 0 0, .slice none 0 0, .slice none 0 0, .slice none 0 0] 26)) from (Below.refl _ _).alloc (Nat.le_refl _) _)
                    have QF := Lib.hid (show Box (wF.alloc (.cells #[.slice none 0 0, .slice none 0 0, .slice none 0 0, .slice none 0 0, .slice none 0 0, .slice none 0 0] 26)) wF.heap.size 26 #[.slice none 0 0, .slice none 0 0, .slice none 0 0, .slice none 0 0, .slice none 0 0, .slice none 0 0] from Box.new _ _ _)
                    obtain ⟨z0, z1, z2, z3, z4, z5⟩ := (QS.out.keep (chain HBF.out ZF.out)).six
                    refine hK.out _ _ ⟨fun _ => (show (fun (w' : World) => w'.cell? ⟨gS, 0, none⟩ = some (.slice G0 u0 x0) ∧ w'.cell? ⟨gS, 1, none⟩ = some (.slice G1 u1 x1) ∧ w'.cell? ⟨gS, 2, none⟩ = some (.slice G2 u2 x2) ∧ w'.cell? ⟨gS, 3, none⟩ = some (.slice G3 u3 x3) ∧ w'.cell? ⟨gS, 4, none⟩ = some (.slice G4 u4 x4) ∧ w'.cell? ⟨gS, 5, none⟩ = some (.slice G5 u5 x5)) _ from ⟨t0, t1, t2, t3, t4, t5⟩), trivial⟩ ?_
                    clear hK K
                    try simp only [Act.put, List.setIfInBounds_toArray, List.set_cons_zero, List.set_cons_succ]
                    refine headK_two (i := 4) (j := 9) (by kernel_rfl) rfl rfl (fun K hK => ?_) (fun K hK => ?_)
                    · go_simp
                      refine (RN.out _ HBF.out B d HKF.out (HIF.out)).mono ?_
                      rintro e w9 ⟨K0, Kc0, K1, Kc1, K2, Kc2, K3, Kc3, K4, Kc4, K5, Kc5, D, dd, rfl, hM, -, -, hbr⟩
                      have HM9 := Lib.hid hM
                      clear hM
                      refine hK.out _ _ ⟨fun h => Bool.noConfusion (show true = false from h), trivial⟩ ?_
                      clear hK K
                      try simp only [Act.put, List.setIfInBounds_toArray, List.set_cons_zero, List.set_cons_succ]
                      refine headK_take (i := 5) (v := ?_) rfl (by kernel_rfl) (fun _ _ _ h => h) (fun _ _ _ h => passed_ready h.1) (Or.inl ⟨by rfl, ?hy8001⟩) ⟨fun h => Bool.noConfusion (show true = false from h), trivial⟩ ?rest8001
                      case hy8001 => intro w _; go_simp; try (with_reducible rfl)
                      case rest8001 =>
                      try simp only [Act.put, List.setIfInBounds_toArray, List.set_cons_zero, List.set_cons_succ]
                      refine headK_take (i := 6) (v := ?_) rfl (by kernel_rfl) (fun _ _ _ h => h) (fun _ _ _ h => passed_ready h.1) (Or.inl ⟨by rfl, ?hy8002⟩) ⟨fun h => Bool.noConfusion (show true = false from h), trivial⟩ ?rest8002
                      case hy8002 => intro w _; go_simp; try (with_reducible rfl)
                      case rest8002 =>
                      try simp only [Act.put, List.setIfInBounds_toArray, List.set_cons_zero, List.set_cons_succ]
                      refine headK_take (i := 7) (v := ?_) rfl (by kernel_rfl) (fun _ _ _ h => h) (fun _ _ _ h => passed_ready h.1) (Or.inl ⟨by rfl, ?hy8003⟩) ⟨fun h => Bool.noConfusion (show true = false from h), trivial⟩ ?rest8003
                      case hy8003 => intro w _; go_simp; try (with_reducible rfl)
                      case rest8003 =>
                      try simp only [Act.put, List.setIfInBounds_toArray, List.set_cons_zero, List.set_cons_succ]
                      refine headK_take (i := 8) (v := ?_) rfl (by kernel_rfl) (fun _ _ _ h => h) (fun _ _ _ h => passed_ready h.1) (Or.inl ⟨by rfl, ?hy8004⟩) ⟨fun h => Bool.noConfusion (show true = false from h), trivial⟩ ?rest8004
                      case hy8004 => intro w _; go_simp; try (with_reducible rfl)
                      case rest8004 =>
                      try simp only [Act.put, List.setIfInBounds_toArray, List.set_cons_zero, List.set_cons_succ]
                      refine headK_one (i := 9) (by kernel_rfl) rfl (fun K hK => ?_)
                      go_simp
                      refine hK.out _ _ ⟨fun h => Bool.noConfusion (show true = false from h), trivial⟩ ?_
                      clear hK K
                      try simp only [Act.put, List.setIfInBounds_toArray, List.set_cons_zero, List.set_cons_succ]
                      refine headK_one (i := 10) (by kernel_rfl) rfl (fun K hK => ?_)
                      go_simp
                      refine hK.out _ _ ⟨fun h => Bool.noConfusion (show true = false from h), trivial⟩ ?_
                      clear hK K
                      try simp only [Act.put, List.setIfInBounds_toArray, List.set_cons_zero, List.set_cons_succ]
                      refine headK_take (i := 11) (v := ?_) rfl (by kernel_rfl) (fun _ _ _ h => h) (fun _ _ _ h => passed_ready h.1) (Or.inl ⟨by rfl, ?hy8005⟩) ⟨fun h => Bool.noConfusion (show true = false from h), trivial⟩ ?rest8005
                      case hy8005 => intro w _; go_simp; try (with_reducible rfl)
                      case rest8005 =>
                      try simp only [Act.put, List.setIfInBounds_toArray, List.set_cons_zero, List.set_cons_succ]
                      refine headK_take (i := 12) (v := ?_) rfl (by kernel_rfl) (fun _ _ _ h => h) (fun _ _ _ h => passed_ready h.1) (Or.inl ⟨by rfl, ?hy8006⟩) ⟨fun h => Bool.noConfusion (show true = false from h), trivial⟩ ?rest8006
                      case hy8006 => intro w _; go_simp; try (with_reducible rfl)
                      case rest8006 =>
                      try simp only [Act.put, List.setIfInBounds_toArray, List.set_cons_zero, List.set_cons_succ]
                      refine ⟨by kernel_rfl, ?_⟩
                      refine wpAny_done (by kernel_rfl) ?_ _
                      go_wp2_with fail
                      have ab : Below w9.heap.size w9 (w9.alloc (.cells #[.slice K0 sb.1.th.length Kc0, .slice K1 sb.1.pc.length Kc1, .slice K2 sb.1.su.length Kc2, .slice K3 sb.1.lo.length Kc3, .slice K4 sb.1.ce.length Kc4, .slice K5 sb.1.ch.length Kc5] 26)) := (Below.refl _ _).alloc (Nat.le_refl _) _
                      obtain ⟨M9, hM9⟩ := HM9.out
                      go_meet
                      exact ⟨_, K0, Kc0, K1, Kc1, K2, Kc2, K3, Kc3, K4, Kc4, K5, Kc5, D, dd, rfl, rfl, rfl, Lib.hid (Box.new w9 26 #[.slice K0 sb.1.th.length Kc0, .slice K1 sb.1.pc.length Kc1, .slice K2 sb.1.su.length Kc2, .slice K3 sb.1.lo.length Kc3, .slice K4 sb.1.ce.length Kc4, .slice K5 sb.1.ch.length Kc5]), Lib.hid ((hM9.keepB ab).sys.at HNu.out), Lib.hid (chain (chain HBF.out hbr) ab)⟩
                    · go_simp
                      refine hK.out _ _ ⟨fun _ => (show (fun (w' : World) => w'.cell? ⟨gS, 0, none⟩ = some (.slice G0 u0 x0) ∧ w'.cell? ⟨gS, 1, none⟩ = some (.slice G1 u1 x1) ∧ w'.cell? ⟨gS, 2, none⟩ = some (.slice G2 u2 x2) ∧ w'.cell? ⟨gS, 3, none⟩ = some (.slice G3 u3 x3) ∧ w'.cell? ⟨gS, 4, none⟩ = some (.slice G4 u4 x4) ∧ w'.cell? ⟨gS, 5, none⟩ = some (.slice G5 u5 x5)) _ from ⟨z0, z1, z2, z3, z4, z5⟩), trivial⟩ ?_
                      clear hK K
                      try simp only [Act.put, List.setIfInBounds_toArray, List.set_cons_zero, List.set_cons_succ]
                      refine headK_one (i := 4) (by kernel_rfl) rfl (fun K hK => ?_)
                      go_simp
                      refine (RN.out _ (chain HBF.out ZF.out) B d HKF.out (HIF.out.below ZF.out)).mono ?_
                      rintro e w9 ⟨K0, Kc0, K1, Kc1, K2, Kc2, K3, Kc3, K4, Kc4, K5, Kc5, D, dd, rfl, hM, -, -, hbr⟩
                      have HM9 := Lib.hid hM
                      clear hM
                      have QF9 := Lib.hid (QF.out.keep hbr)
                      obtain ⟨y0, y1, y2, y3, y4, y5⟩ := QF9.out.six
                      have v0 := QF9.out.free 0
                      have v1 := QF9.out.free 1
                      have v2 := QF9.out.free 2
                      have v3 := QF9.out.free 3
                      have v4 := QF9.out.free 4
                      have v5 := QF9.out.free 5
                      refine hK.out _ _ ⟨fun h => Bool.noConfusion (show true = false from h), trivial⟩ ?_
                      clear hK K
                      try simp only [Act.put, List.setIfInBounds_toArray, List.set_cons_zero, List.set_cons_succ]
                      refine headK_take (i := 5) (v := ?_) rfl (by kernel_rfl) (fun _ _ _ h => h) (fun _ _ _ h => passed_ready h.1) (Or.inl ⟨by rfl, ?hy8001⟩) ⟨fun h => Bool.noConfusion (show true = false from h), trivial⟩ ?rest8001
                      case hy8001 => intro w _; go_simp; try (with_reducible rfl)
                      case rest8001 =>
                      try simp only [Act.put, List.setIfInBounds_toArray, List.set_cons_zero, List.set_cons_succ]
                      refine headK_take (i := 6) (v := ?_) rfl (by kernel_rfl) (fun _ _ _ h => h) (fun _ _ _ h => passed_ready h.1) (Or.inl ⟨by rfl, ?hy8002⟩) ⟨fun h => Bool.noConfusion (show true = false from h), trivial⟩ ?rest8002
                      case hy8002 => intro w _; go_simp; try (with_reducible rfl)
                      case rest8002 =>
                      try simp only [Act.put, List.setIfInBounds_toArray, List.set_cons_zero, List.set_cons_succ]
                      refine headK_take (i := 7) (v := ?_) rfl (by kernel_rfl) (fun _ _ _ h => h) (fun _ _ _ h => passed_ready h.1) (Or.inl ⟨by rfl, ?hy8003⟩) ⟨fun h => Bool.noConfusion (show true = false from h), trivial⟩ ?rest8003
                      case hy8003 => intro w _; go_simp; try (with_reducible rfl)
                      case rest8003 =>
                      try simp only [Act.put, List.setIfInBounds_toArray, List.set_cons_zero, List.set_cons_succ]
                      refine headK_take (i := 8) (v := ?_) rfl (by kernel_rfl) (fun _ _ _ h => h) (fun _ _ _ h => passed_ready h.1) (Or.inl ⟨by rfl, ?hy8004⟩) ⟨fun h => Bool.noConfusion (show true = false from h), trivial⟩ ?rest8004
                      case hy8004 => intro w _; go_simp; try (with_reducible rfl)
                      case rest8004 =>
                      try simp only [Act.put, List.setIfInBounds_toArray, List.set_cons_zero, List.set_cons_succ]
                      refine headK_one (i := 10) (by kernel_rfl) rfl (fun K hK => ?_)
                      go_simp
                      refine hK.out _ _ ⟨fun h => Bool.noConfusion (show true = false from h), trivial⟩ ?_
                      clear hK K
                      try simp only [Act.put, List.setIfInBounds_toArray, List.set_cons_zero, List.set_cons_succ]
                      refine headK_take (i := 11) (v := ?_) rfl (by kernel_rfl) (fun _ _ _ h => h) (fun _ _ _ h => passed_ready h.1) (Or.inl ⟨by rfl, ?hy8005⟩) ⟨fun h => Bool.noConfusion (show true = false from h), trivial⟩ ?rest8005
                      case hy8005 => intro w _; go_simp; try (with_reducible rfl)
                      case rest8005 =>
                      try simp only [Act.put, List.setIfInBounds_toArray, List.set_cons_zero, List.set_cons_succ]
                      refine headK_take (i := 12) (v := ?_) rfl (by kernel_rfl) (fun _ _ _ h => h) (fun _ _ _ h => passed_ready h.1) (Or.inl ⟨by rfl, ?hy8006⟩) ⟨fun h => Bool.noConfusion (show true = false from h), trivial⟩ ?rest8006
                      case hy8006 => intro w _; go_simp; try (with_reducible rfl)
                      case rest8006 =>
                      try simp only [Act.put, List.setIfInBounds_toArray, List.set_cons_zero, List.set_cons_succ]
                      refine ⟨by kernel_rfl, ?_⟩
                      refine wpAny_done (by kernel_rfl) ?_ _
                      go_wp2_with fail
                      have hX := set6_grown w9 (wF.heap.size) (.slice K0 sb.1.th.length Kc0) (.slice K1 sb.1.pc.length Kc1) (.slice K2 sb.1.su.length Kc2) (.slice K3 sb.1.lo.length Kc3) (.slice K4 sb.1.ce.length Kc4) (.slice K5 sb.1.ch.length Kc5)
                      obtain ⟨M9, hM9⟩ := HM9.out
                      have hM8 := hM9.box_gr QF9.out hX
                      have hB8 := (((((((chain (chain HBF.out ZF.out) hbr).setCell (p := ⟨wF.heap.size, 0, none⟩) (HBF.out.size) (.slice K0 sb.1.th.length Kc0)).setCell (p := ⟨wF.heap.size, 1, none⟩) (HBF.out.size) (.slice K1 sb.1.pc.length Kc1)).setCell (p := ⟨wF.heap.size, 2, none⟩) (HBF.out.size) (.slice K2 sb.1.su.length Kc2)).setCell (p := ⟨wF.heap.size, 3, none⟩) (HBF.out.size) (.slice K3 sb.1.lo.length Kc3)).setCell (p := ⟨wF.heap.size, 4, none⟩) (HBF.out.size) (.slice K4 sb.1.ce.length Kc4)).setCell (p := ⟨wF.heap.size, 5, none⟩) (HBF.out.size) (.slice K5 sb.1.ch.length Kc5))
                      have hQ8 := ((((((QF9.out.put 0 (.slice K0 sb.1.th.length Kc0)).put 1 (.slice K1 sb.1.pc.length Kc1)).put 2 (.slice K2 sb.1.su.length Kc2)).put 3 (.slice K3 sb.1.lo.length Kc3)).put 4 (.slice K4 sb.1.ce.length Kc4)).put 5 (.slice K5 sb.1.ch.length Kc5))
                      clear hX
                      go_meet
                      exact ⟨_, K0, Kc0, K1, Kc1, K2, Kc2, K3, Kc3, K4, Kc4, K5, Kc5, D, dd, rfl, rfl, rfl, Lib.hid hQ8, Lib.hid (hM8.sys.at HNu.out), Lib.hid hB8⟩
                  · go_simp
                    refine hK.out _ _ ⟨fun _ => (show (fun (w' : World) => w'.cell? ⟨gS, 0, none⟩ = some (.slice G0 u0 x0) ∧ w'.cell? ⟨gS, 1, none⟩ = some (.slice G1 u1 x1) ∧ w'.cell? ⟨gS, 2, none⟩ = some (.slice G2 u2 x2) ∧ w'.cell? ⟨gS, 3, none⟩ = some (.slice G3 u3 x3) ∧ w'.cell? ⟨gS, 4, none⟩ = some (.slice G4 u4 x4) ∧ w'.cell? ⟨gS, 5, none⟩ = some (.slice G5 u5 x5)) _ from ⟨s0, s1, s2, s3, s4, s5⟩), trivial⟩ ?_
                    clear hK K
                    try simp only [Act.put, List.setIfInBounds_toArray, List.set_cons_zero, List.set_cons_succ]
                    refine headK_one (i := 3) (by kernel_rfl) rfl (fun K hK => ?_)
                    go_simp
                    refine (FL.out _ H2w.out).mono ?_
                    rintro e wF ⟨B, d, rfl, hk, hi, hbk⟩
                    have HKF := Lib.hid hk
                    have HIF := Lib.hid hi
                    have HBF := Lib.hid (chain H2w.out hbk)
                    clear hk hi
                    obtain ⟨t0, t1, t2, t3, t4, t5⟩ := (QS.out.keep HBF.out).six
                    have QF := Lib.hid (QZ.out.keep hbk)
                    refine hK.out _ _ ⟨fun _ => (show (fun (w' : World) => w'.cell? ⟨gS, 0, none⟩ = some (.slice G0 u0 x0) ∧ w'.cell? ⟨gS, 1, none⟩ = some (.slice G1 u1 x1) ∧ w'.cell? ⟨gS, 2, none⟩ = some (.slice G2 u2 x2) ∧ w'.cell? ⟨gS, 3, none⟩ = some (.slice G3 u3 x3) ∧ w'.cell? ⟨gS, 4, none⟩ = some (.slice G4 u4 x4) ∧ w'.cell? ⟨gS, 5, none⟩ = some (.slice G5 u5 x5)) _ from ⟨t0, t1, t2, t3, t4, t5⟩), trivial⟩ ?_
                    clear hK K
                    try simp only [Act.put, List.setIfInBounds_toArray, List.set_cons_zero, List.set_cons_succ]
                    refine headK_one (i := 4) (by kernel_rfl) rfl (fun K hK => ?_)
                    go_simp
                    refine (RN.out _ HBF.out B d HKF.out (HIF.out)).mono ?_
                    rintro e w9 ⟨K0, Kc0, K1, Kc1, K2, Kc2, K3, Kc3, K4, Kc4, K5, Kc5, D, dd, rfl, hM, -, -, hbr⟩
                    have HM9 := Lib.hid hM
                    clear hM
                    have QF9 := Lib.hid (QF.out.keep hbr)
                    obtain ⟨y0, y1, y2, y3, y4, y5⟩ := QF9.out.six
                    have v0 := QF9.out.free 0
                    have v1 := QF9.out.free 1
                    have v2 := QF9.out.free 2
                    have v3 := QF9.out.free 3
                    have v4 := QF9.out.free 4
                    have v5 := QF9.out.free 5
                    refine hK.out _ _ ⟨fun h => Bool.noConfusion (show true = false from h), trivial⟩ ?_
                    clear hK K
                    try simp only [Act.put, List.setIfInBounds_toArray, List.set_cons_zero, List.set_cons_succ]
                    refine headK_take (i := 5) (v := ?_) rfl (by kernel_rfl) (fun _ _ _ h => h) (fun _ _ _ h => passed_ready h.1) (Or.inl ⟨by rfl, ?hy8001⟩) ⟨fun h => Bool.noConfusion (show true = false from h), trivial⟩ ?rest8001
                    case hy8001 => intro w _; go_simp; try (with_reducible rfl)
                    case rest8001 =>
                    try simp only [Act.put, List.setIfInBounds_toArray, List.set_cons_zero, List.set_cons_succ]
                    refine headK_take (i := 6) (v := ?_) rfl (by kernel_rfl) (fun _ _ _ h => h) (fun _ _ _ h => passed_ready h.1) (Or.inl ⟨by rfl, ?hy8002⟩) ⟨fun h => Bool.noConfusion (show true = false from h), trivial⟩ ?rest8002
                    case hy8002 => intro w _; go_simp; try (with_reducible rfl)
                    case rest8002 =>
                    try simp only [Act.put, List.setIfInBounds_toArray, List.set_cons_zero, List.set_cons_succ]
                    refine headK_take (i := 7) (v := ?_) rfl (by kernel_rfl) (fun _ _ _ h => h) (fun _ _ _ h => passed_ready h.1) (Or.inl ⟨by rfl, ?hy8003⟩) ⟨fun h => Bool.noConfusion (show true = false from h), trivial⟩ ?rest8003
                    case hy8003 => intro w _; go_simp; try (with_reducible rfl)
                    case rest8003 =>
                    try simp only [Act.put, List.setIfInBounds_toArray, List.set_cons_zero, List.set_cons_succ]
                    refine headK_take (i := 8) (v := ?_) rfl (by kernel_rfl) (fun _ _ _ h => h) (fun _ _ _ h => passed_ready h.1) (Or.inl ⟨by rfl, ?hy8004⟩) ⟨fun h => Bool.noConfusion (show true = false from h), trivial⟩ ?rest8004
                    case hy8004 => intro w _; go_simp; try (with_reducible rfl)
                    case rest8004 =>
                    try simp only [Act.put, List.setIfInBounds_toArray, List.set_cons_zero, List.set_cons_succ]
                    refine headK_one (i := 10) (by kernel_rfl) rfl (fun K hK => ?_)
                    go_simp
                    refine hK.out _ _ ⟨fun h => Bool.noConfusion (show true = false from h), trivial⟩ ?_
                    clear hK K
                    try simp only [Act.put, List.setIfInBounds_toArray, List.set_cons_zero, List.set_cons_succ]
                    refine headK_take (i := 11) (v := ?_) rfl (by kernel_rfl) (fun _ _ _ h => h) (fun _ _ _ h => passed_ready h.1) (Or.inl ⟨by rfl, ?hy8005⟩) ⟨fun h => Bool.noConfusion (show true = false from h), trivial⟩ ?rest8005
                    case hy8005 => intro w _; go_simp; try (with_reducible rfl)
                    case rest8005 =>
                    try simp only [Act.put, List.setIfInBounds_toArray, List.set_cons_zero, List.set_cons_succ]
                    refine headK_take (i := 12) (v := ?_) rfl (by kernel_rfl) (fun _ _ _ h => h) (fun _ _ _ h => passed_ready h.1) (Or.inl ⟨by rfl, ?hy8006⟩) ⟨fun h => Bool.noConfusion (show true = false from h), trivial⟩ ?rest8006
                    case hy8006 => intro w _; go_simp; try (with_reducible rfl)
                    case rest8006 =>
                    try simp only [Act.put, List.setIfInBounds_toArray, List.set_cons_zero, List.set_cons_succ]
                    refine ⟨by kernel_rfl, ?_⟩
                    refine wpAny_done (by kernel_rfl) ?_ _
                    go_wp2_with fail
                    have hX := set6_grown w9 (wY.heap.size) (.slice K0 sb.1.th.length Kc0) (.slice K1 sb.1.pc.length Kc1) (.slice K2 sb.1.su.length Kc2) (.slice K3 sb.1.lo.length Kc3) (.slice K4 sb.1.ce.length Kc4) (.slice K5 sb.1.ch.length Kc5)
                    obtain ⟨M9, hM9⟩ := HM9.out
                    have hM8 := hM9.box_gr QF9.out hX
                    have hB8 := (((((((chain HBF.out hbr).setCell (p := ⟨wY.heap.size, 0, none⟩) (Nat.le_refl _) (.slice K0 sb.1.th.length Kc0)).setCell (p := ⟨wY.heap.size, 1, none⟩) (Nat.le_refl _) (.slice K1 sb.1.pc.length Kc1)).setCell (p := ⟨wY.heap.size, 2, none⟩) (Nat.le_refl _) (.slice K2 sb.1.su.length Kc2)).setCell (p := ⟨wY.heap.size, 3, none⟩) (Nat.le_refl _) (.slice K3 sb.1.lo.length Kc3)).setCell (p := ⟨wY.heap.size, 4, none⟩) (Nat.le_refl _) (.slice K4 sb.1.ce.length Kc4)).setCell (p := ⟨wY.heap.size, 5, none⟩) (Nat.le_refl _) (.slice K5 sb.1.ch.length Kc5))
                    have hQ8 := ((((((QF9.out.put 0 (.slice K0 sb.1.th.length Kc0)).put 1 (.slice K1 sb.1.pc.length Kc1)).put 2 (.slice K2 sb.1.su.length Kc2)).put 3 (.slice K3 sb.1.lo.length Kc3)).put 4 (.slice K4 sb.1.ce.length Kc4)).put 5 (.slice K5 sb.1.ch.length Kc5))
                    clear hX
                    go_meet
                    exact ⟨_, K0, Kc0, K1, Kc1, K2, Kc2, K3, Kc3, K4, Kc4, K5, Kc5, D, dd, rfl, rfl, rfl, Lib.hid hQ8, Lib.hid (hM8.sys.at HNu.out), Lib.hid hB8⟩
              case rest =>
                as_aux_lemma =>
                  obtain ⟨gB, O0, Oc0, O1, Oc1, O2, Oc2, O3, Oc3, O4, Oc4, O5, Oc5, DB, db, rfl, rfl, rfl, QB, SB, HBc⟩ := hcut
                  obtain ⟨wZ, rfl⟩ : ∃ x : World, x = wc := ⟨_, rfl⟩
                  replace QS := Lib.hid (QS.out.keep HBc.out)
                  replace QA := Lib.hid (QA.out.keep HBc.out)
                  replace SA := Lib.hid (SA.out.below HBc.out)
                  replace LS := Lib.hid (LS.out.below HBc.out)
                  replace HQ8 := Lib.hid (HQ8.out.keep HBc.out)
                  replace HQ9 := Lib.hid (HQ9.out.keep HBc.out)
                  replace HB := Lib.hid (HB.out.trans (HBc.out.mono HB.out.size))
                  clear FL RN HNu HBc SS
                  obtain ⟨r0, r1, r2, r3, r4, r5⟩ := QA.out.six
                  have HDn := Lib.hid (done_any (.agg #[.slice M0 sa.1.th.length Mc0, .slice M1 sa.1.pc.length Mc1, .slice M2 sa.1.su.length Mc2, .slice M3 sa.1.lo.length Mc3, .slice M4 sa.1.ce.length Mc4, .slice M5 sa.1.ch.length Mc5]) sa.1 wZ SA.out)
                  rw [HEsa.out.2.1] at HDn
                  go_upto_region 30 with (fail)
                  go_wp2_with fail
                  refine HDn.out.mono ?_
                  rintro e wT ⟨rfl, hb⟩
                  replace QS := Lib.hid (QS.out.keep hb)
                  replace QA := Lib.hid (QA.out.keep hb)
                  replace QB := Lib.hid (QB.out.keep hb)
                  replace SA := Lib.hid (SA.out.below hb)
                  replace SB := Lib.hid (SB.out.below hb)
                  replace LS := Lib.hid (LS.out.below hb)
                  replace HQ8 := Lib.hid (HQ8.out.keep hb)
                  replace HQ9 := Lib.hid (HQ9.out.keep hb)
                  replace HB := Lib.hid (HB.out.trans (hb.mono HB.out.size))
                  clear hb HDn r0 r1 r2 r3 r4 r5
                  obtain ⟨r0, r1, r2, r3, r4, r5⟩ := QB.out.six
                  have HDn := Lib.hid (done_any (.agg #[.slice O0 sb.1.th.length Oc0, .slice O1 sb.1.pc.length Oc1, .slice O2 sb.1.su.length Oc2, .slice O3 sb.1.lo.length Oc3, .slice O4 sb.1.ce.length Oc4, .slice O5 sb.1.ch.length Oc5]) sb.1 wT SB.out)
                  rw [HEsb.out.2.1] at HDn
                  go_wp2_with fail
                  refine HDn.out.mono ?_
                  rintro e wU ⟨rfl, hb⟩
                  replace QS := Lib.hid (QS.out.keep hb)
                  replace QA := Lib.hid (QA.out.keep hb)
                  replace QB := Lib.hid (QB.out.keep hb)
                  replace SA := Lib.hid (SA.out.below hb)
                  replace SB := Lib.hid (SB.out.below hb)
                  replace LS := Lib.hid (LS.out.below hb)
                  replace HQ8 := Lib.hid (HQ8.out.keep hb)
                  replace HQ9 := Lib.hid (HQ9.out.keep hb)
                  replace HB := Lib.hid (HB.out.trans (hb.mono HB.out.size))
                  clear hb HDn r0 r1 r2 r3 r4 r5
                  have HBu := Lib.hid (Below.refl wU.heap.size wU)
                  have hIA := SA.out.ints
                  have hIB := SB.out.ints
                  have hC4 : Ints wU (some ⟨g9, 0, none⟩) 4 (cellsOfT ths) := box_ints4 HQ9.out HC9.out
                  have HNa := Lib.hid (fun wy (hb : Below wU.heap.size wU wy) => numbers_same hIA.2 hC4 Mc4 4 HEsa.out.2.2.2.1 (Nat.le_refl 4) wy hb)
                  have HNb := Lib.hid (fun wy (hb : Below wU.heap.size wU wy) => numbers_same hIB.2 hC4 Oc4 4 HEsb.out.2.2.2.1 (Nat.le_refl 4) wy hb)
                  have HNc := Lib.hid (fun wy (hb : Below wU.heap.size wU wy) => numbers_same hIA.1 LS.out Mc3 x3 HEsa.out.2.2.2.2 (Nat.le_refl 4) wy hb)
                  have HNd := Lib.hid (fun wy (hb : Below wU.heap.size wU wy) => numbers_same hIB.1 LS.out Oc3 x3 HEsb.out.2.2.2.2 (Nat.le_refl 4) wy hb)
                  have t1 : ((sa.2.length : Int) == (m : Int)) = true := by rw [HEsa.out.2.2.1]; simp
                  have t2 : ((sb.2.length : Int) == (m : Int)) = true := by rw [HEsb.out.2.2.1]; simp
                  clear hIA hIB hC4 SA SB LS HQ9
                  have q8 := HQ8.out.cell 0
                  obtain ⟨q0, q1, q2, q3, q4, q5⟩ := QS.out.six
                  obtain ⟨r0, r1, r2, r3, r4, r5⟩ := QA.out.six
                  obtain ⟨s0, s1, s2, s3, s4, s5⟩ := QB.out.six
                  go_wp2_with fail
                  refine (HNa.out _ HBu.out).mono ?_
                  rintro e wV ⟨rfl, hb⟩
                  clear q8 q0 q1 q2 q3 q4 q5 r0 r1 r2 r3 r4 r5 s0 s1 s2 s3 s4 s5
                  replace QS := Lib.hid (QS.out.keep hb)
                  replace QA := Lib.hid (QA.out.keep hb)
                  replace QB := Lib.hid (QB.out.keep hb)
                  replace HQ8 := Lib.hid (HQ8.out.keep hb)
                  replace HB := Lib.hid (HB.out.trans (hb.mono HB.out.size))
                  replace HBu := Lib.hid (HBu.out.trans (hb.mono HBu.out.size))
                  clear hb
                  obtain ⟨q0, q1, q2, q3, q4, q5⟩ := QS.out.six
                  obtain ⟨r0, r1, r2, r3, r4, r5⟩ := QA.out.six
                  obtain ⟨s0, s1, s2, s3, s4, s5⟩ := QB.out.six
                  go_wp2_with fail
                  refine (HNb.out _ HBu.out).mono ?_
                  rintro e wV2 ⟨rfl, hb⟩
                  clear q0 q1 q2 q3 q4 q5 r0 r1 r2 r3 r4 r5 s0 s1 s2 s3 s4 s5
                  replace QS := Lib.hid (QS.out.keep hb)
                  replace QA := Lib.hid (QA.out.keep hb)
                  replace QB := Lib.hid (QB.out.keep hb)
                  replace HQ8 := Lib.hid (HQ8.out.keep hb)
                  replace HB := Lib.hid (HB.out.trans (hb.mono HB.out.size))
                  replace HBu := Lib.hid (HBu.out.trans (hb.mono HBu.out.size))
                  clear hb
                  obtain ⟨q0, q1, q2, q3, q4, q5⟩ := QS.out.six
                  obtain ⟨r0, r1, r2, r3, r4, r5⟩ := QA.out.six
                  obtain ⟨s0, s1, s2, s3, s4, s5⟩ := QB.out.six
                  go_wp2_with fail
                  refine (HNc.out _ HBu.out).mono ?_
                  rintro e wV3 ⟨rfl, hb⟩
                  clear q0 q1 q2 q3 q4 q5 r0 r1 r2 r3 r4 r5 s0 s1 s2 s3 s4 s5
                  replace QS := Lib.hid (QS.out.keep hb)
                  replace QA := Lib.hid (QA.out.keep hb)
                  replace QB := Lib.hid (QB.out.keep hb)
                  replace HQ8 := Lib.hid (HQ8.out.keep hb)
                  replace HB := Lib.hid (HB.out.trans (hb.mono HB.out.size))
                  replace HBu := Lib.hid (HBu.out.trans (hb.mono HBu.out.size))
                  clear hb
                  obtain ⟨q0, q1, q2, q3, q4, q5⟩ := QS.out.six
                  obtain ⟨r0, r1, r2, r3, r4, r5⟩ := QA.out.six
                  obtain ⟨s0, s1, s2, s3, s4, s5⟩ := QB.out.six
                  go_wp2_with fail
                  refine (HNd.out _ HBu.out).mono ?_
                  rintro e wV4 ⟨rfl, hb⟩
                  clear q0 q1 q2 q3 q4 q5 r0 r1 r2 r3 r4 r5 s0 s1 s2 s3 s4 s5
                  replace QS := Lib.hid (QS.out.keep hb)
                  replace QA := Lib.hid (QA.out.keep hb)
                  replace QB := Lib.hid (QB.out.keep hb)
                  replace HQ8 := Lib.hid (HQ8.out.keep hb)
                  replace HB := Lib.hid (HB.out.trans (hb.mono HB.out.size))
                  replace HBu := Lib.hid (HBu.out.trans (hb.mono HBu.out.size))
                  clear hb
                  go_wp2_with fail
                  go_ret
                  exact ⟨rfl, HB.out⟩
end Go.Proofs.Ytcamoigcfiemhaa
