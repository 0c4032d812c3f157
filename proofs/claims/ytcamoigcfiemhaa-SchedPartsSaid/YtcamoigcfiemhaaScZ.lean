/- Layer 20: Like. -/
import Derived.Test.YtcamoigcfiemhaaScY
namespace Go.Proofs.Ytcamoigcfiemhaa
set_option linter.unusedVariables false
set_option linter.unusedSimpArgs false
open Go.RowKit Go.Lib
set_option maxRecDepth 100000
set_option maxHeartbeats 4000000 in
theorem eqInstrs_any (A : Option Addr) (l c : Nat) (xs : List InR) (B : Option Addr) (m d : Nat) (ys : List InR) (w : World) (hx : Inss w A l xs) (hy : Inss w B m ys) (hl : l ≤ maxLen) : Calls Try.prog 40 #[.slice A l c, .slice B m d] w fun e w' => e = .returned (.bool (decide (xs = ys))) ∧ Below w.heap.size w w' := by
  unfold maxLen at hl
  have HX := Lib.hid hx
  have HY := Lib.hid hy
  have HLx := Lib.hid hx.1
  have HLy := Lib.hid hy.1
  clear hx hy
  by_cases hlm : l = m
  · subst hlm
    have tl : ((l : Int) != (l : Int)) = false := by simp
    go_enter Try.func40, Try.ntmps40
    go_wp2_with fail
    go_loopw [13] (fun t wr => ∃ k : Nat, k ≤ l ∧ t = .int .i64 (k : Int) ∧ Hid (xs.take k = ys.take k) ∧ Hid (Below w.heap.size w wr)) (fun t _ => l - (Go.RowKit.intOf t).toNat)
    case atStart => exact ⟨0, Nat.zero_le _, rfl, Lib.hid rfl, Lib.hid (Below.refl _ _)⟩
    case round =>
      obtain ⟨k, hk, rfl, HT, HB⟩ := hrel
      by_cases hlt : k < l
      · have hlt' : (k : Int) < (l : Int) := by omega
        obtain ⟨b, o, rfl, -, x0, x1, x2⟩ := Inss.cells HX.out HB.out k hlt
        obtain ⟨b', o', rfl, -, y0, y1, y2⟩ := Inss.cells HY.out HB.out k hlt
        have HS := Lib.hid (fun he => take_eq_snoc xs ys k (by rw [HLx.out]; exact hlt) (by rw [HLy.out]; exact hlt) HT.out he)
        have HF := Lib.hid (show ¬ xs.getD k default = ys.getD k default → decide (xs = ys) = false from fun hne => decide_eq_false fun e => hne (by rw [e]))
        obtain ⟨⟨p0, p1, p2⟩, hp⟩ : ∃ x, x = xs.getD k default := ⟨_, rfl⟩
        obtain ⟨⟨q0, q1, q2⟩, hq⟩ : ∃ x, x = ys.getD k default := ⟨_, rfl⟩
        rw [← hp] at x0 x1 x2 HS HF
        rw [← hq] at y0 y1 y2 HS HF
        clear hp hq
        dsimp only at x0 x1 x2 y0 y1 y2
        go_upto_region 6 with (fail)
        go_cut [24] (fun v wx => v = .bool (decide (¬ (p0, p1, p2) = (q0, q1, q2))) ∧ Hid (Below w.heap.size w wx))
        case first =>
          by_cases e0 : p0 = q0
          · by_cases e1 : p1 = q1
            · by_cases e2 : p2 = q2
              · subst e0 e1 e2
                go_region
                all_goals
                  go_wp2_with fail
                  go_meet
                  exact ⟨by simp, Lib.hid HB.out.drew⟩
              · subst e0 e1
                go_region
                all_goals
                  go_wp2_with fail
                  go_meet
                  exact ⟨by simp [e2], Lib.hid HB.out.drew⟩
            · subst e0
              go_region
              all_goals
                go_wp2_with fail
                go_meet
                exact ⟨by simp [e1], Lib.hid HB.out.drew⟩
          · go_region
            all_goals
              go_wp2_with fail
              go_meet
              exact ⟨by simp [e0], Lib.hid HB.out.drew⟩
        case rest =>
          obtain ⟨rfl, HB1⟩ := hcut
          clear x0 x1 x2 y0 y1 y2
          by_cases q : (p0, p1, p2) = (q0, q1, q2)
          · have HSx := Lib.hid (HS.out q)
            have tq : decide (¬ (p0, p1, p2) = (q0, q1, q2)) = false := decide_eq_false (fun h => h q)
            rw [tq]
            clear q tq
            go_wp2_with fail
            go_roundw
            case rel => exact ⟨k + 1, by omega, by go_num, HSx, HB1⟩
            case measure => simp [Go.RowKit.intOf] <;> omega
          · have HFx := Lib.hid (HF.out q)
            have tq : decide (¬ (p0, p1, p2) = (q0, q1, q2)) = true := decide_eq_true q
            rw [tq]
            clear q tq
            go_wp2_with fail
            go_ret
            exact ⟨by rw [HFx.out]; rfl, HB1.out⟩
      · obtain rfl : k = l := by omega
        have hlt' : ¬ (k : Int) < (k : Int) := by omega
        have HE := Lib.hid (show decide (xs = ys) = true by
          have := HT.out
          rw [List.take_of_length_le (by rw [HLx.out]; exact Nat.le_refl _), List.take_of_length_le (by rw [HLy.out]; exact Nat.le_refl _)] at this
          exact decide_eq_true this)
        go_wp2_with fail
        go_ret
        exact ⟨by rw [HE.out]; rfl, HB.out⟩
  · have tl : ((l : Int) != (m : Int)) = true := by simp; omega
    have HE := Lib.hid (show decide (xs = ys) = false from decide_eq_false fun e => hlm (by rw [← HLx.out, ← HLy.out, e]))
    go_enter Try.func40, Try.ntmps40
    go_wp2_with fail
    go_ret
    exact ⟨by rw [HE.out]; rfl, Below.refl _ _⟩
set_option maxHeartbeats 4000000 in
theorem eqInts_any (A : Option Addr) (l c : Nat) (xs : List Int) (B : Option Addr) (m d : Nat) (ys : List Int) (w : World) (hx : Ints w A l xs) (hy : Ints w B m ys) (hl : l ≤ maxLen) : Calls Try.prog 41 #[.slice A l c, .slice B m d] w fun e w' => e = .returned (.bool (decide (xs = ys))) ∧ Below w.heap.size w w' := by
  unfold maxLen at hl
  have HX := Lib.hid hx
  have HY := Lib.hid hy
  have HLx := Lib.hid hx.1
  have HLy := Lib.hid hy.1
  clear hx hy
  by_cases hlm : l = m
  · subst hlm
    have tl : ((l : Int) != (l : Int)) = false := by simp
    go_enter Try.func41, Try.ntmps41
    go_wp2_with fail
    go_loopw [13] (fun t wr => ∃ k : Nat, k ≤ l ∧ t = .int .i64 (k : Int) ∧ Hid (xs.take k = ys.take k) ∧ Hid (Below w.heap.size w wr)) (fun t _ => l - (Go.RowKit.intOf t).toNat)
    case atStart => exact ⟨0, Nat.zero_le _, rfl, Lib.hid rfl, Lib.hid (Below.refl _ _)⟩
    case round =>
      obtain ⟨k, hk, rfl, HT, HB⟩ := hrel
      by_cases hlt : k < l
      · have hlt' : (k : Int) < (l : Int) := by omega
        obtain ⟨b, o, rfl, hb1, hc1⟩ := (HX.out.below HB.out).2.2 (by omega)
        obtain ⟨b', o', rfl, hb2, hc2⟩ := (HY.out.below HB.out).2.2 (by omega)
        have x0 := hc1 k hlt
        have y0 := hc2 k hlt
        have hd : (default : Int) = 0 := rfl
        have HS := Lib.hid (fun he => take_eq_snoc xs ys k (by rw [HLx.out]; exact hlt) (by rw [HLy.out]; exact hlt) HT.out he)
        rw [hd] at HS
        have HF := Lib.hid (show ¬ xs.getD k 0 = ys.getD k 0 → decide (xs = ys) = false from fun hne => decide_eq_false fun e => hne (by rw [e]))
        obtain ⟨p0, hp⟩ : ∃ x, x = xs.getD k 0 := ⟨_, rfl⟩
        obtain ⟨q0, hq⟩ : ∃ x, x = ys.getD k 0 := ⟨_, rfl⟩
        rw [← hp] at x0 HS HF
        rw [← hq] at y0 HS HF
        clear hp hq hc1 hc2 hb1 hb2 hd
        by_cases q : p0 = q0
        · have HSx := Lib.hid (HS.out q)
          have tq : (p0 != q0) = false := by simp [q]
          clear q HS HF
          go_upto_region 6 with (fail)
          go_region
          all_goals
            go_wp2_with fail
            go_roundw
            case rel => exact ⟨k + 1, by omega, by go_num, HSx, Lib.hid HB.out.drew⟩
            case measure => simp [Go.RowKit.intOf] <;> omega
        · have HFx := Lib.hid (HF.out q)
          have tq : (p0 != q0) = true := by simp [q]
          clear q HS HF
          go_upto_region 6 with (fail)
          go_region
          all_goals
            go_wp2_with fail
            go_ret
            exact ⟨by rw [HFx.out]; rfl, HB.out.drew⟩
      · obtain rfl : k = l := by omega
        have hlt' : ¬ (k : Int) < (k : Int) := by omega
        have HE := Lib.hid (show decide (xs = ys) = true by
          have := HT.out
          rw [List.take_of_length_le (by rw [HLx.out]; exact Nat.le_refl _), List.take_of_length_le (by rw [HLy.out]; exact Nat.le_refl _)] at this
          exact decide_eq_true this)
        go_wp2_with fail
        go_ret
        exact ⟨by rw [HE.out]; rfl, HB.out⟩
  · have tl : ((l : Int) != (m : Int)) = true := by simp; omega
    have HE := Lib.hid (show decide (xs = ys) = false from decide_eq_false fun e => hlm (by rw [← HLx.out, ← HLy.out, e]))
    go_enter Try.func41, Try.ntmps41
    go_wp2_with fail
    go_ret
    exact ⟨by rw [HE.out]; rfl, Below.refl _ _⟩
set_option maxHeartbeats 4000000 in
theorem eqThr_any (A : Option Addr) (l c : Nat) (xs : List (List InR)) (B : Option Addr) (m d : Nat) (ys : List (List InR)) (w : World) (hx : RRow Inss w A l xs) (hy : RRow Inss w B m ys) (hl : l ≤ maxLen) : Calls Try.prog 39 #[.slice A l c, .slice B m d, .func (.func 40) #[] #[]] w fun e w' => e = .returned (.bool (decide (xs = ys))) ∧ Below w.heap.size w w' := by
  unfold maxLen at hl
  have HX := Lib.hid hx
  have HY := Lib.hid hy
  have HLx := Lib.hid hx.1
  have HLy := Lib.hid hy.1
  clear hx hy
  have eg : ∀ args w, (callFunc 40 args).run Try.prog w = .ok (.enter 40 args) w := enters_of Try.func40 (by kernel_rfl) rfl
  by_cases hlm : l = m
  · subst hlm
    have tl : ((l : Int) != (l : Int)) = false := by simp
    go_enter Try.func39, Try.ntmps39
    go_wp2_with fail
    go_loopw [17] (fun t wr => ∃ k : Nat, k ≤ l ∧ t = .int .i64 (k : Int) ∧ Hid (xs.take k = ys.take k) ∧ Hid (Below w.heap.size w wr)) (fun t _ => l - (Go.RowKit.intOf t).toNat)
    case atStart => exact ⟨0, Nat.zero_le _, rfl, Lib.hid rfl, Lib.hid (Below.refl _ _)⟩
    case round =>
      obtain ⟨k, hk, rfl, HT, HB⟩ := hrel
      obtain ⟨W, hW⟩ : ∃ x : World, x = wr := ⟨_, rfl⟩
      subst hW
      by_cases hlt : k < l
      · have hlt' : (k : Int) < (l : Int) := by omega
        obtain ⟨b0, o0, B1, n, d1, rfl, hb0, g0, hs0, hq0⟩ := HX.out.at k hlt
        obtain ⟨b1, o1, B2, n2, d2, rfl, hb1, g1, hs1, hq1⟩ := HY.out.at k hlt
        have HC := Lib.hid (fun wx (hb : Below w.heap.size w wx) => eqInstrs_any B1 n d1 _ B2 n2 d2 _ wx (Recs.below hq0 hb) (Recs.below hq1 hb) (Nat.le_trans hs0.1 hs0.2.1))
        have hd : (default : List InR) = [] := rfl
        have HS := Lib.hid (fun he => take_eq_snoc xs ys k (by rw [HLx.out]; exact hlt) (by rw [HLy.out]; exact hlt) HT.out he)
        rw [hd] at HS
        have HF := Lib.hid (show ¬ xs.getD k [] = ys.getD k [] → decide (xs = ys) = false from fun hne => decide_eq_false fun e => hne (by rw [e]))
        have e0 := (HB.out.cell (p := ⟨b0, o0 + k, none⟩) hb0).trans g0
        have e1 := (HB.out.cell (p := ⟨b1, o1 + k, none⟩) hb1).trans g1
        clear g0 g1 hb0 hb1 hs0 hs1 hq0 hq1 hd
        obtain ⟨us, hus⟩ : ∃ us, us = xs.getD k [] := ⟨_, rfl⟩
        obtain ⟨vs, hvs⟩ : ∃ vs, vs = ys.getD k [] := ⟨_, rfl⟩
        rw [← hus, ← hvs] at HC HS HF
        clear hus hvs
        go_wp2_with fail
        refine (HC.out _ HB.out).mono ?_
        rintro e w7 ⟨rfl, hb⟩
        have HB7 := Lib.hid (chain HB.out hb)
        clear hb HC e0 e1
        by_cases q : us = vs
        · have HS2 := Lib.hid (HS.out q)
          rw [decide_eq_true q]
          clear q HS HF
          go_wp2_with fail
          go_roundw
          case rel => exact ⟨k + 1, by omega, by go_num, HS2, HB7⟩
          case measure => simp [Go.RowKit.intOf] <;> omega
        · have HF2 := Lib.hid (HF.out q)
          rw [decide_eq_false q]
          clear q HS HF
          go_wp2_with fail
          go_ret
          exact ⟨by rw [HF2.out]; rfl, HB7.out⟩
      · obtain rfl : l = k := by omega
        have hlt' : ¬ (l : Int) < (l : Int) := by omega
        have HE := Lib.hid (show decide (xs = ys) = true by
          have := HT.out
          rw [List.take_of_length_le (by rw [HLx.out]; exact Nat.le_refl _), List.take_of_length_le (by rw [HLy.out]; exact Nat.le_refl _)] at this
          exact decide_eq_true this)
        go_wp2_with fail
        go_ret
        exact ⟨by rw [HE.out]; rfl, HB.out⟩
  · have tl : ((l : Int) != (m : Int)) = true := by simp; omega
    have HE := Lib.hid (show decide (xs = ys) = false from decide_eq_false fun e => hlm (by rw [← HLx.out, ← HLy.out, e]))
    clear hlm
    go_enter Try.func39, Try.ntmps39
    go_wp2_with fail
    go_ret
    exact ⟨by rw [HE.out]; rfl, Below.refl _ _⟩
set_option maxHeartbeats 4000000 in
theorem eqChs_any (A : Option Addr) (l c : Nat) (xs : List (List Int)) (B : Option Addr) (m d : Nat) (ys : List (List Int)) (w : World) (hx : RRow Ints w A l xs) (hy : RRow Ints w B m ys) (hl : l ≤ maxLen) : Calls Try.prog 42 #[.slice A l c, .slice B m d, .func (.func 41) #[] #[]] w fun e w' => e = .returned (.bool (decide (xs = ys))) ∧ Below w.heap.size w w' := by
  unfold maxLen at hl
  have HX := Lib.hid hx
  have HY := Lib.hid hy
  have HLx := Lib.hid hx.1
  have HLy := Lib.hid hy.1
  clear hx hy
  have eg : ∀ args w, (callFunc 41 args).run Try.prog w = .ok (.enter 41 args) w := enters_of Try.func41 (by kernel_rfl) rfl
  by_cases hlm : l = m
  · subst hlm
    have tl : ((l : Int) != (l : Int)) = false := by simp
    go_enter Try.func42, Try.ntmps42
    go_wp2_with fail
    go_loopw [17] (fun t wr => ∃ k : Nat, k ≤ l ∧ t = .int .i64 (k : Int) ∧ Hid (xs.take k = ys.take k) ∧ Hid (Below w.heap.size w wr)) (fun t _ => l - (Go.RowKit.intOf t).toNat)
    case atStart => exact ⟨0, Nat.zero_le _, rfl, Lib.hid rfl, Lib.hid (Below.refl _ _)⟩
    case round =>
      obtain ⟨k, hk, rfl, HT, HB⟩ := hrel
      obtain ⟨W, hW⟩ : ∃ x : World, x = wr := ⟨_, rfl⟩
      subst hW
      by_cases hlt : k < l
      · have hlt' : (k : Int) < (l : Int) := by omega
        obtain ⟨b0, o0, B1, n, d1, rfl, hb0, g0, hs0, hq0⟩ := HX.out.at k hlt
        obtain ⟨b1, o1, B2, n2, d2, rfl, hb1, g1, hs1, hq1⟩ := HY.out.at k hlt
        have HC := Lib.hid (fun wx (hb : Below w.heap.size w wx) => eqInts_any B1 n d1 _ B2 n2 d2 _ wx (hq0.below hb) (hq1.below hb) (Nat.le_trans hs0.1 hs0.2.1))
        have hd : (default : List Int) = [] := rfl
        have HS := Lib.hid (fun he => take_eq_snoc xs ys k (by rw [HLx.out]; exact hlt) (by rw [HLy.out]; exact hlt) HT.out he)
        rw [hd] at HS
        have HF := Lib.hid (show ¬ xs.getD k [] = ys.getD k [] → decide (xs = ys) = false from fun hne => decide_eq_false fun e => hne (by rw [e]))
        have e0 := (HB.out.cell (p := ⟨b0, o0 + k, none⟩) hb0).trans g0
        have e1 := (HB.out.cell (p := ⟨b1, o1 + k, none⟩) hb1).trans g1
        clear g0 g1 hb0 hb1 hs0 hs1 hq0 hq1 hd
        obtain ⟨us, hus⟩ : ∃ us, us = xs.getD k [] := ⟨_, rfl⟩
        obtain ⟨vs, hvs⟩ : ∃ vs, vs = ys.getD k [] := ⟨_, rfl⟩
        rw [← hus, ← hvs] at HC HS HF
        clear hus hvs
        go_wp2_with fail
        refine (HC.out _ HB.out).mono ?_
        rintro e w7 ⟨rfl, hb⟩
        have HB7 := Lib.hid (chain HB.out hb)
        clear hb HC e0 e1
        by_cases q : us = vs
        · have HS2 := Lib.hid (HS.out q)
          rw [decide_eq_true q]
          clear q HS HF
          go_wp2_with fail
          go_roundw
          case rel => exact ⟨k + 1, by omega, by go_num, HS2, HB7⟩
          case measure => simp [Go.RowKit.intOf] <;> omega
        · have HF2 := Lib.hid (HF.out q)
          rw [decide_eq_false q]
          clear q HS HF
          go_wp2_with fail
          go_ret
          exact ⟨by rw [HF2.out]; rfl, HB7.out⟩
      · obtain rfl : l = k := by omega
        have hlt' : ¬ (l : Int) < (l : Int) := by omega
        have HE := Lib.hid (show decide (xs = ys) = true by
          have := HT.out
          rw [List.take_of_length_le (by rw [HLx.out]; exact Nat.le_refl _), List.take_of_length_le (by rw [HLy.out]; exact Nat.le_refl _)] at this
          exact decide_eq_true this)
        go_wp2_with fail
        go_ret
        exact ⟨by rw [HE.out]; rfl, HB.out⟩
  · have tl : ((l : Int) != (m : Int)) = true := by simp; omega
    have HE := Lib.hid (show decide (xs = ys) = false from decide_eq_false fun e => hlm (by rw [← HLx.out, ← HLy.out, e]))
    clear hlm
    go_enter Try.func42, Try.ntmps42
    go_wp2_with fail
    go_ret
    exact ⟨by rw [HE.out]; rfl, Below.refl _ _⟩
/-- Like, in its own order. -/
def likeS (a b : Sys) : Bool := decide (a.th = b.th) && (decide (a.pc = b.pc) && (decide (a.su = b.su) && (decide (a.lo = b.lo) && (decide (a.ce = b.ce) && decide (a.ch = b.ch)))))
theorem like_same (a b : Sys) : likeS a b = sameS a b := by
  rw [Bool.eq_iff_iff]
  simp only [likeS, sameS, sameZ, Bool.and_eq_true, decide_eq_true_eq]
  constructor
  · rintro ⟨h1, h2, h3, h4, h5, h6⟩
    exact ⟨⟨by rw [h1], by rw [h6]⟩, h1, h6, ⟨⟨h2, h3⟩, h4⟩, h5⟩
  · rintro ⟨-, h1, h6, ⟨⟨h2, h3⟩, h4⟩, h5⟩
    exact ⟨h1, h2, h3, h4, h5, h6⟩
set_option maxHeartbeats 16000000 in
theorem like_any (v : Value) (a : Sys) (u : Value) (b : Sys) (w : World) (h : SysAt w v a) (hu : SysAt w u b) : Calls Try.prog 13 #[v, u] w fun e w' => e = .returned (.bool (sameS a b)) ∧ Below w.heap.size w w' := by
  obtain ⟨A0, l0, c0, A1, l1, c1, A2, l2, c2, A3, l3, c3, A4, l4, c4, A5, l5, c5, rfl, s0, s1, s2, s3, s4, s5, h0, h1, h2, h3, h4, h5⟩ := h
  obtain ⟨B0, m0, d0, B1, m1, d1, B2, m2, d2, B3, m3, d3, B4, m4, d4, B5, m5, d5, rfl, z0, z1, z2, z3, z4, z5, k0, k1, k2, k3, k4, k5⟩ := hu
  rw [← like_same]
  have N0 := Lib.hid (fun wx (hb : Below w.heap.size w wx) => eqThr_any A0 l0 c0 _ B0 m0 d0 _ wx (Thr.below h0 hb) (Thr.below k0 hb) (Nat.le_trans s0.1 s0.2.1))
  have N1 := Lib.hid (fun wx (hb : Below w.heap.size w wx) => eqInts_any A1 l1 c1 _ B1 m1 d1 _ wx (h1.below hb) (k1.below hb) (Nat.le_trans s1.1 s1.2.1))
  have N2 := Lib.hid (fun wx (hb : Below w.heap.size w wx) => eqInts_any A2 l2 c2 _ B2 m2 d2 _ wx (h2.below hb) (k2.below hb) (Nat.le_trans s2.1 s2.2.1))
  have N3 := Lib.hid (fun wx (hb : Below w.heap.size w wx) => eqInts_any A3 l3 c3 _ B3 m3 d3 _ wx (h3.below hb) (k3.below hb) (Nat.le_trans s3.1 s3.2.1))
  have N4 := Lib.hid (fun wx (hb : Below w.heap.size w wx) => eqInts_any A4 l4 c4 _ B4 m4 d4 _ wx (h4.below hb) (k4.below hb) (Nat.le_trans s4.1 s4.2.1))
  have N5 := Lib.hid (fun wx (hb : Below w.heap.size w wx) => eqChs_any A5 l5 c5 _ B5 m5 d5 _ wx (Chs.below h5 hb) (Chs.below k5 hb) (Nat.le_trans s5.1 s5.2.1))
  clear s0 s1 s2 s3 s4 s5 z0 z1 z2 z3 z4 z5 h0 h1 h2 h3 h4 h5 k0 k1 k2 k3 k4 k5
  have HB2 := Lib.hid (show Below w.heap.size w ((w.alloc (.cells #[.slice A0 l0 c0, .slice A1 l1 c1, .slice A2 l2 c2, .slice A3 l3 c3, .slice A4 l4 c4, .slice A5 l5 c5] 26)).alloc (.cells #[.slice B0 m0 d0, .slice B1 m1 d1, .slice B2 m2 d2, .slice B3 m3 d3, .slice B4 m4 d4, .slice B5 m5 d5] 26)) from ((Below.refl w.heap.size w).alloc (Nat.le_refl _) _).alloc (by simp) _)
  have q1 := Box.new (w.alloc (.cells #[.slice A0 l0 c0, .slice A1 l1 c1, .slice A2 l2 c2, .slice A3 l3 c3, .slice A4 l4 c4, .slice A5 l5 c5] 26)) 26 #[.slice B0 m0 d0, .slice B1 m1 d1, .slice B2 m2 d2, .slice B3 m3 d3, .slice B4 m4 d4, .slice B5 m5 d5]
  simp only [World.size_alloc] at q1
  have QB := Lib.hid q1
  have QA := Lib.hid ((Box.new w 26 #[.slice A0 l0 c0, .slice A1 l1 c1, .slice A2 l2 c2, .slice A3 l3 c3, .slice A4 l4 c4, .slice A5 l5 c5]).alloc (.cells #[.slice B0 m0 d0, .slice B1 m1 d1, .slice B2 m2 d2, .slice B3 m3 d3, .slice B4 m4 d4, .slice B5 m5 d5] 26))
  clear q1
  obtain ⟨r0, r1, r2, r3, r4, r5⟩ := QA.out.six
  obtain ⟨q0, q1, q2, q3, q4, q5⟩ := QB.out.six
  go_enter Try.func13, Try.ntmps13
  go_wp2_with fail
  refine (N0.out _ HB2.out).mono ?_
  rintro e w90 ⟨rfl, hb⟩
  have HB90 := Lib.hid (chain HB2.out hb)
  have QA90 := Lib.hid (QA.out.keep hb)
  have QB90 := Lib.hid (QB.out.keep hb)
  clear hb r0 r1 r2 r3 r4 r5 q0 q1 q2 q3 q4 q5
  obtain ⟨r0, r1, r2, r3, r4, r5⟩ := QA90.out.six
  obtain ⟨q0, q1, q2, q3, q4, q5⟩ := QB90.out.six
  cases hc0 : decide (a.th = b.th) with
  | false =>
    have HE := Lib.hid (show likeS a b = false by unfold likeS; rw [hc0]; simp)
    clear hc0
    go_wp2_with fail
    go_ret
    exact ⟨by rw [HE.out]; rfl, HB90.out⟩
  | true =>
    have HC0 := Lib.hid hc0
    clear hc0
    go_wp2_with fail
    refine (N1.out _ HB90.out).mono ?_
    rintro e w91 ⟨rfl, hb⟩
    have HB91 := Lib.hid (chain HB90.out hb)
    have QA91 := Lib.hid (QA90.out.keep hb)
    have QB91 := Lib.hid (QB90.out.keep hb)
    clear hb r0 r1 r2 r3 r4 r5 q0 q1 q2 q3 q4 q5
    obtain ⟨r0, r1, r2, r3, r4, r5⟩ := QA91.out.six
    obtain ⟨q0, q1, q2, q3, q4, q5⟩ := QB91.out.six
    cases hc1 : decide (a.pc = b.pc) with
    | false =>
      have HE := Lib.hid (show likeS a b = false by unfold likeS; rw [hc1]; simp)
      clear hc1
      go_wp2_with fail
      go_ret
      exact ⟨by rw [HE.out]; rfl, HB91.out⟩
    | true =>
      have HC1 := Lib.hid hc1
      clear hc1
      go_wp2_with fail
      refine (N2.out _ HB91.out).mono ?_
      rintro e w92 ⟨rfl, hb⟩
      have HB92 := Lib.hid (chain HB91.out hb)
      have QA92 := Lib.hid (QA91.out.keep hb)
      have QB92 := Lib.hid (QB91.out.keep hb)
      clear hb r0 r1 r2 r3 r4 r5 q0 q1 q2 q3 q4 q5
      obtain ⟨r0, r1, r2, r3, r4, r5⟩ := QA92.out.six
      obtain ⟨q0, q1, q2, q3, q4, q5⟩ := QB92.out.six
      cases hc2 : decide (a.su = b.su) with
      | false =>
        have HE := Lib.hid (show likeS a b = false by unfold likeS; rw [hc2]; simp)
        clear hc2
        go_wp2_with fail
        go_ret
        exact ⟨by rw [HE.out]; rfl, HB92.out⟩
      | true =>
        have HC2 := Lib.hid hc2
        clear hc2
        go_wp2_with fail
        refine (N3.out _ HB92.out).mono ?_
        rintro e w93 ⟨rfl, hb⟩
        have HB93 := Lib.hid (chain HB92.out hb)
        have QA93 := Lib.hid (QA92.out.keep hb)
        have QB93 := Lib.hid (QB92.out.keep hb)
        clear hb r0 r1 r2 r3 r4 r5 q0 q1 q2 q3 q4 q5
        obtain ⟨r0, r1, r2, r3, r4, r5⟩ := QA93.out.six
        obtain ⟨q0, q1, q2, q3, q4, q5⟩ := QB93.out.six
        cases hc3 : decide (a.lo = b.lo) with
        | false =>
          have HE := Lib.hid (show likeS a b = false by unfold likeS; rw [hc3]; simp)
          clear hc3
          go_wp2_with fail
          go_ret
          exact ⟨by rw [HE.out]; rfl, HB93.out⟩
        | true =>
          have HC3 := Lib.hid hc3
          clear hc3
          go_wp2_with fail
          refine (N4.out _ HB93.out).mono ?_
          rintro e w94 ⟨rfl, hb⟩
          have HB94 := Lib.hid (chain HB93.out hb)
          have QA94 := Lib.hid (QA93.out.keep hb)
          have QB94 := Lib.hid (QB93.out.keep hb)
          clear hb r0 r1 r2 r3 r4 r5 q0 q1 q2 q3 q4 q5
          obtain ⟨r0, r1, r2, r3, r4, r5⟩ := QA94.out.six
          obtain ⟨q0, q1, q2, q3, q4, q5⟩ := QB94.out.six
          cases hc4 : decide (a.ce = b.ce) with
          | false =>
            have HE := Lib.hid (show likeS a b = false by unfold likeS; rw [hc4]; simp)
            clear hc4
            go_wp2_with fail
            go_ret
            exact ⟨by rw [HE.out]; rfl, HB94.out⟩
          | true =>
            have HC4 := Lib.hid hc4
            clear hc4
            go_wp2_with fail
            refine (N5.out _ HB94.out).mono ?_
            rintro e w95 ⟨rfl, hb⟩
            have HB95 := Lib.hid (chain HB94.out hb)
            have QA95 := Lib.hid (QA94.out.keep hb)
            have QB95 := Lib.hid (QB94.out.keep hb)
            clear hb r0 r1 r2 r3 r4 r5 q0 q1 q2 q3 q4 q5
            obtain ⟨r0, r1, r2, r3, r4, r5⟩ := QA95.out.six
            obtain ⟨q0, q1, q2, q3, q4, q5⟩ := QB95.out.six
            cases hc5 : decide (a.ch = b.ch) with
            | false =>
              have HE := Lib.hid (show likeS a b = false by unfold likeS; rw [hc5]; simp)
              clear hc5
              go_wp2_with fail
              go_ret
              exact ⟨by rw [HE.out]; rfl, HB95.out⟩
            | true =>
              have HC5 := Lib.hid hc5
              clear hc5
              go_wp2_with fail
              go_ret
              exact ⟨by unfold likeS; rw [HC0.out, HC1.out, HC2.out, HC3.out, HC4.out, HC5.out]; rfl, HB95.out⟩
end Go.Proofs.Ytcamoigcfiemhaa
