/- Layer 13: Like, the reference's Same. -/
import Derived.Test.YtehlebeeoeghmaaShC
import Derived.Test.YtehlebeeoeghmaaShS
namespace Go.Proofs.Ytehlebeeoeghmaa
set_option linter.unusedVariables false
set_option linter.unusedSimpArgs false
open Go.RowKit Go.Lib
set_option maxRecDepth 100000
theorem take_eq_snocH {α : Type} [Inhabited α] (xs ys : List α) (k : Nat) (h1 : k < xs.length) (h2 : k < ys.length) (h : xs.take k = ys.take k) (he : xs.getD k default = ys.getD k default) : xs.take (k + 1) = ys.take (k + 1) := by
  rw [take_snocD xs k h1, take_snocD ys k h2, h, he]
set_option maxHeartbeats 4000000 in
theorem eqLst_any (A : Option Addr) (l c : Nat) (xs : List (List SymR)) (B : Option Addr) (m d : Nat) (ys : List (List SymR)) (w : World) (hx : RRow Syms w A l xs) (hy : RRow Syms w B m ys) (hl : l ≤ maxLen) : Calls Try.prog 36 #[.slice A l c, .slice B m d, .func (.func 37) #[] #[]] w fun e w' => e = .returned (.bool (decide (xs = ys))) ∧ Below w.heap.size w w' := by
  unfold maxLen at hl
  have HX := Lib.hid hx
  have HY := Lib.hid hy
  have HLx := Lib.hid hx.1
  have HLy := Lib.hid hy.1
  clear hx hy
  have eg : ∀ args w, (callFunc 37 args).run Try.prog w = .ok (.enter 37 args) w := enters_of Try.func37 (by kernel_rfl) rfl
  by_cases hlm : l = m
  · subst hlm
    have tl : ((l : Int) != (l : Int)) = false := by simp
    go_enter Try.func36, Try.ntmps36
    go_wp2_with fail
    go_loopw [17] (fun t wr => ∃ k : Nat, k ≤ l ∧ t = .int .i64 (k : Int) ∧ Hid (xs.take k = ys.take k) ∧ Hid (Below w.heap.size w wr)) (fun t _ => l - (Go.RowKit.intOf t).toNat)
    case atStart => exact ⟨0, Nat.zero_le _, rfl, Lib.hid rfl, Lib.hid (Below.refl _ _)⟩
    case round =>
      obtain ⟨k, hk, rfl, HT, HB⟩ := hrel
      obtain ⟨W, hW⟩ : ∃ x : World, x = wr := ⟨_, rfl⟩
      subst hW
      by_cases hlt : k < l
      · have hlt' : (k : Int) < (l : Int) := by omega
        obtain ⟨b0, o0, B1, n, d1, rfl, hb0, g0, hs0, hq0⟩ := HX.out.at k hlt
        obtain ⟨b1, o1, B2, n2, d2, rfl, hb1, g1, hs1, hq1⟩ := HY.out.at k hlt
        have HC := Lib.hid (fun wx (hb : Below w.heap.size w wx) => slEq_any B1 B2 n n2 d1 d2 _ _ wx (Recs.below hq0 hb) (Recs.below hq1 hb) (Nat.le_trans hs0.1 hs0.2.1) (Nat.le_trans hs1.1 hs1.2.1))
        have hd : (default : List SymR) = [] := rfl
        have HS := Lib.hid (fun he => take_eq_snocH xs ys k (by rw [HLx.out]; exact hlt) (by rw [HLy.out]; exact hlt) HT.out he)
        rw [hd] at HS
        have HF := Lib.hid (show ¬ xs.getD k [] = ys.getD k [] → decide (xs = ys) = false from fun hne => decide_eq_false fun e => hne (by rw [e]))
        have e0 := (HB.out.cell (p := ⟨b0, o0 + k, none⟩) hb0).trans g0
        have e1 := (HB.out.cell (p := ⟨b1, o1 + k, none⟩) hb1).trans g1
        clear g0 g1 hb0 hb1 hs0 hs1 hq0 hq1 hd
        obtain ⟨us, hus⟩ : ∃ us, us = xs.getD k [] := ⟨_, rfl⟩
        obtain ⟨vs, hvs⟩ : ∃ vs, vs = ys.getD k [] := ⟨_, rfl⟩
        rw [← hus, ← hvs] at HC HS HF
        clear hus hvs
        go_wp2_with fail
        refine (HC.out _ HB.out).mono ?_
        rintro e w7 ⟨rfl, hb⟩
        have HB7 := Lib.hid (chain HB.out hb)
        clear hb HC e0 e1
        by_cases q : us = vs
        · have HS2 := Lib.hid (HS.out q)
          rw [decide_eq_true q]
          clear q HS HF
          go_wp2_with fail
          go_roundw
          case rel => exact ⟨k + 1, by omega, by go_num, HS2, HB7⟩
          case measure => simp [Go.RowKit.intOf] <;> omega
        · have HF2 := Lib.hid (HF.out q)
          rw [decide_eq_false q]
          clear q HS HF
          go_wp2_with fail
          go_ret
          exact ⟨by rw [HF2.out]; rfl, HB7.out⟩
      · obtain rfl : l = k := by omega
        have hlt' : ¬ (l : Int) < (l : Int) := by omega
        have HE := Lib.hid (show decide (xs = ys) = true by
          have := HT.out
          rw [List.take_of_length_le (by rw [HLx.out]; exact Nat.le_refl _), List.take_of_length_le (by rw [HLy.out]; exact Nat.le_refl _)] at this
          exact decide_eq_true this)
        go_wp2_with fail
        go_ret
        exact ⟨by rw [HE.out]; rfl, HB.out⟩
  · have tl : ((l : Int) != (m : Int)) = true := by simp; omega
    have HE := Lib.hid (show decide (xs = ys) = false from decide_eq_false fun e => hlm (by rw [← HLx.out, ← HLy.out, e]))
    clear hlm
    go_enter Try.func36, Try.ntmps36
    go_wp2_with fail
    go_ret
    exact ⟨by rw [HE.out]; rfl, Below.refl _ _⟩
def likeSh (a b : ShR) : Bool := a.1 == b.1 && (a.2.1 == b.2.1 && decide (a.2.2 = b.2.2))
theorem likeSh_self (a : ShR) : likeSh a a = true := by simp [likeSh]
theorem likeSh_eq {a b : ShR} : likeSh a b = true ↔ a = b := by
  obtain ⟨a1, a2, a3⟩ := a
  obtain ⟨b1, b2, b3⟩ := b
  simp [likeSh]
set_option maxHeartbeats 4000000 in
theorem shLike_any (va : Value) (a : ShR) (vb : Value) (b : ShR) (w : World) (ha : ShAt w va a) (hb : ShAt w vb b) : Calls Try.prog 10 #[va, vb] w fun e w' => e = .returned (.bool (likeSh a b)) ∧ Below w.heap.size w w' := by
  obtain ⟨A, c, rfl, hs, hl⟩ := ha
  obtain ⟨B, d, rfl, hs2, hl2⟩ := hb
  obtain ⟨q, z, ls⟩ := a
  obtain ⟨q2, z2, ls2⟩ := b
  dsimp only at hs hl hs2 hl2 ⊢
  have HE := Lib.hid (show likeSh (q, z, ls) (q2, z2, ls2) = (q == q2 && (z == z2 && decide (ls = ls2))) from rfl)
  have hb1 : Below w.heap.size w (w.alloc (.cells #[.int .i64 q, .int .i64 z, .slice A ls.length c] 24)) := (Below.refl w.heap.size w).alloc (Nat.le_refl _) _
  have HB := Lib.hid (hb1.alloc hb1.size (.cells #[.int .i64 q2, .int .i64 z2, .slice B ls2.length d] 24))
  have Q1 := Lib.hid ((Box.new w 24 #[.int .i64 q, .int .i64 z, .slice A ls.length c]).alloc (.cells #[.int .i64 q2, .int .i64 z2, .slice B ls2.length d] 24))
  have Q2 := Box.new (w.alloc (.cells #[.int .i64 q, .int .i64 z, .slice A ls.length c] 24)) 24 #[.int .i64 q2, .int .i64 z2, .slice B ls2.length d]
  simp only [World.size_alloc] at Q2
  have HC := Lib.hid (eqLst_any A ls.length c ls B ls2.length d ls2 _ (Lsts.below hl HB.out) (Lsts.below hl2 HB.out) (Nat.le_trans hs.1 hs.2.1))
  obtain ⟨r0, r1, r2⟩ := Q1.out.tri
  obtain ⟨s0, s1, s2⟩ := Q2.tri
  clear hb1 hl hl2 hs hs2 Q2
  cases e1 : (q == q2) with
  | false =>
    have HE2 := Lib.hid (show likeSh (q, z, ls) (q2, z2, ls2) = false by rw [HE.out, e1]; rfl)
    go_enter Try.func10, Try.ntmps10
    go_wp2_with fail
    go_ret
    exact ⟨by rw [HE2.out]; rfl, HB.out⟩
  | true =>
    cases e2 : (z == z2) with
    | false =>
      have HE2 := Lib.hid (show likeSh (q, z, ls) (q2, z2, ls2) = false by rw [HE.out, e1, e2]; rfl)
      go_enter Try.func10, Try.ntmps10
      go_wp2_with fail
      go_ret
      exact ⟨by rw [HE2.out]; rfl, HB.out⟩
    | true =>
      have HE2 := Lib.hid (show likeSh (q, z, ls) (q2, z2, ls2) = decide (ls = ls2) by rw [HE.out, e1, e2]; rfl)
      obtain ⟨bb, hbb⟩ : ∃ x, x = decide (ls = ls2) := ⟨_, rfl⟩
      rw [← hbb] at HC HE2
      clear hbb
      go_enter Try.func10, Try.ntmps10
      go_wp2_with fail
      refine HC.out.mono ?_
      rintro e w2 ⟨rfl, hb⟩
      have HB2 := Lib.hid (HB.out.trans (hb.mono HB.out.size))
      clear hb
      go_wp2_with fail
      go_ret
      exact ⟨by rw [HE2.out]; rfl, HB2.out⟩
set_option maxHeartbeats 4000000 in
theorem refSame13_any (va : Value) (a : ShR) (vb : Value) (b : ShR) (w : World) (ha : ShAt w va a) (hb : ShAt w vb b) : Calls Try.prog 11 #[va, vb] w fun e w' => e = .returned (.bool (likeSh a b)) ∧ Below w.heap.size w w' := by
  obtain ⟨A, c, rfl, hs, hl⟩ := ha
  obtain ⟨B, d, rfl, hs2, hl2⟩ := hb
  obtain ⟨q, z, ls⟩ := a
  obtain ⟨q2, z2, ls2⟩ := b
  dsimp only at hs hl hs2 hl2 ⊢
  have HL := Lib.hid hl
  have HL2 := Lib.hid hl2
  have hls := Nat.le_trans hs.1 hs.2.1
  unfold maxLen at hls
  have HE := Lib.hid (show likeSh (q, z, ls) (q2, z2, ls2) = (q == q2 && (z == z2 && decide (ls = ls2))) from rfl)
  have hb1 : Below w.heap.size w (w.alloc (.cells #[.int .i64 q, .int .i64 z, .slice A ls.length c] 24)) := (Below.refl w.heap.size w).alloc (Nat.le_refl _) _
  have HB := Lib.hid (hb1.alloc hb1.size (.cells #[.int .i64 q2, .int .i64 z2, .slice B ls2.length d] 24))
  have Q1 := Lib.hid ((Box.new w 24 #[.int .i64 q, .int .i64 z, .slice A ls.length c]).alloc (.cells #[.int .i64 q2, .int .i64 z2, .slice B ls2.length d] 24))
  have Q2 := Box.new (w.alloc (.cells #[.int .i64 q, .int .i64 z, .slice A ls.length c] 24)) 24 #[.int .i64 q2, .int .i64 z2, .slice B ls2.length d]
  simp only [World.size_alloc] at Q2
  have Q2 := Lib.hid Q2
  obtain ⟨r0, r1, r2⟩ := Q1.out.tri
  obtain ⟨s0, s1, s2⟩ := Q2.out.tri
  clear hb1 hl hl2 hs hs2
  cases e1 : (q == q2) with
  | false =>
    have t1 : (q != q2) = true := by rw [bne, e1]; rfl
    have HE2 := Lib.hid (show likeSh (q, z, ls) (q2, z2, ls2) = false by rw [HE.out, e1]; rfl)
    clear e1
    go_enter Try.func11, Try.ntmps11
    go_wp2_with fail
    go_ret
    exact ⟨by rw [HE2.out]; rfl, HB.out⟩
  | true =>
    have t1 : (q != q2) = false := by rw [bne, e1]; rfl
    cases e2 : (z == z2) with
    | false =>
      have t2 : (z != z2) = true := by rw [bne, e2]; rfl
      have HE2 := Lib.hid (show likeSh (q, z, ls) (q2, z2, ls2) = false by rw [HE.out, e1, e2]; rfl)
      clear e1 e2
      go_enter Try.func11, Try.ntmps11
      go_wp2_with fail
      go_ret
      exact ⟨by rw [HE2.out]; rfl, HB.out⟩
    | true =>
      have t2 : (z != z2) = false := by rw [bne, e2]; rfl
      have HE2 := Lib.hid (show likeSh (q, z, ls) (q2, z2, ls2) = decide (ls = ls2) by rw [HE.out, e1, e2]; rfl)
      clear e1 e2 HE
      obtain ⟨l, hll⟩ : ∃ l, l = ls.length := ⟨_, rfl⟩
      obtain ⟨m, hmm⟩ : ∃ m, m = ls2.length := ⟨_, rfl⟩
      have HLl := Lib.hid hll
      have HMm := Lib.hid hmm
      rw [← hll] at HL Q1 Q2 HB hls r0 r1 r2 s0 s1 s2 ⊢
      rw [← hmm] at HL2 Q1 Q2 HB r0 r1 r2 s0 s1 s2 ⊢
      clear hll hmm
      by_cases hlm : l = m
      · subst hlm
        have t3 : ((l : Int) != (l : Int)) = false := by simp
        go_enter Try.func11, Try.ntmps11
        go_wp2_with fail
        clear r0 r1 r2 s0 s1 s2
        go_loopw [30] (fun t wr => ∃ k : Nat, k ≤ l ∧ t = .int .i64 (k : Int) ∧ Hid (ls.take k = ls2.take k) ∧ Hid (Box wr w.heap.size 24 #[.int .i64 q, .int .i64 z, .slice A l c]) ∧ Hid (Box wr (w.heap.size + 1) 24 #[.int .i64 q2, .int .i64 z2, .slice B l d]) ∧ Hid (Below w.heap.size w wr)) (fun t _ => l - (Go.RowKit.intOf t).toNat)
        case atStart => exact ⟨0, Nat.zero_le _, rfl, Lib.hid rfl, Q1, Q2, HB⟩
        case round =>
          obtain ⟨k, hk, rfl, HT, G1, G2, HB3⟩ := hrel
          obtain ⟨r0, r1, r2⟩ := G1.out.tri
          obtain ⟨s0, s1, s2⟩ := G2.out.tri
          by_cases hlt : k < l
          · have hlt' : (k : Int) < (l : Int) := by omega
            have hk0 : (0 : Int) ≤ (k : Int) := by omega
            obtain ⟨b0, o0, B1, n, d1, rfl, hb0, g0, hs0, hq0⟩ := RRow.at HL.out k hlt
            obtain ⟨b1, o1, B2, n2, d2, rfl, hb1, g1, hs1, hq1⟩ := RRow.at HL2.out k hlt
            have HC := Lib.hid (fun wx (hb : Below w.heap.size w wx) => refSameL_any B1 B2 n n2 d1 d2 _ _ wx (Recs.below hq0 hb) (Recs.below hq1 hb) (Nat.le_trans hs0.1 hs0.2.1) (Nat.le_trans hs1.1 hs1.2.1))
            have HS := Lib.hid (fun he => take_eq_snocH ls ls2 k (by rw [← HLl.out]; exact hlt) (by rw [← HMm.out]; exact hlt) HT.out he)
            have hd : (default : List SymR) = [] := rfl
            rw [hd] at HS
            have HF := Lib.hid (show ¬ ls.getD k [] = ls2.getD k [] → decide (ls = ls2) = false from fun hne => decide_eq_false fun e => hne (by rw [e]))
            have E0 := Lib.hid (fun w' (hb : Below w.heap.size w w') => (hb.cell (p := ⟨b0, o0 + k, none⟩) hb0).trans g0)
            have E1 := Lib.hid (fun w' (hb : Below w.heap.size w w') => (hb.cell (p := ⟨b1, o1 + k, none⟩) hb1).trans g1)
            have e0 := E0.out _ HB3.out
            have e1 := E1.out _ HB3.out
            clear g0 g1 hb0 hb1 hs0 hs1 hq0 hq1 hd
            obtain ⟨us, hus⟩ : ∃ us, us = ls.getD k [] := ⟨_, rfl⟩
            obtain ⟨vs, hvs⟩ : ∃ vs, vs = ls2.getD k [] := ⟨_, rfl⟩
            rw [← hus, ← hvs] at HC HS HF
            clear hus hvs
            have HCq := Lib.hid (HC.out wr.drew HB3.out.drew)
            by_cases q9 : us = vs
            · have HS2 := Lib.hid (HS.out q9)
              rw [decide_eq_true q9] at HCq
              clear q9 HS HF HC
              go_upto_region 6 with (fail)
              go_region_held3 (fun (w' : World) => w'.cell? ⟨w.heap.size, 0, none⟩ = some (.int .i64 q) ∧ w'.cell? ⟨w.heap.size, 1, none⟩ = some (.int .i64 z) ∧ w'.cell? ⟨w.heap.size, 2, none⟩ = some (.slice (some ⟨b0, o0, none⟩) l c) ∧ w'.cell? ⟨w.heap.size + 1, 0, none⟩ = some (.int .i64 q2) ∧ w'.cell? ⟨w.heap.size + 1, 1, none⟩ = some (.int .i64 z2) ∧ w'.cell? ⟨w.heap.size + 1, 2, none⟩ = some (.slice (some ⟨b1, o1, none⟩) l d) ∧ w'.cell? ⟨b0, o0 + k, none⟩ = some (.slice B1 n d1) ∧ w'.cell? ⟨b1, o1 + k, none⟩ = some (.slice B2 n2 d2)) (go_keep) (first
                | (go_at_call 20; ((with_reducible refine HCq.out.mono ?_); rintro e w7 ⟨rfl, hb⟩; have HB7 := Lib.hid (chain HB3.out.drew hb); have G17 := Lib.hid (G1.out.drew.keep hb); have G27 := Lib.hid (G2.out.drew.keep hb); clear hb; obtain ⟨m0, m1, m2⟩ := G17.out.tri; obtain ⟨n0, n1, n2⟩ := G27.out.tri; have k0 := E0.out _ HB7.out; have k1 := E1.out _ HB7.out)))
              go_wp2_with fail
              go_roundw
              case rel => exact ⟨k + 1, by omega, by go_num, HS2, G17, G27, HB7⟩
              case measure => simp [Go.RowKit.intOf] <;> omega
            · have HF2 := Lib.hid (HF.out q9)
              rw [decide_eq_false q9] at HCq
              clear q9 HS HF HC
              go_upto_region 6 with (fail)
              go_region_held3 (fun (w' : World) => w'.cell? ⟨w.heap.size, 0, none⟩ = some (.int .i64 q) ∧ w'.cell? ⟨w.heap.size, 1, none⟩ = some (.int .i64 z) ∧ w'.cell? ⟨w.heap.size, 2, none⟩ = some (.slice (some ⟨b0, o0, none⟩) l c) ∧ w'.cell? ⟨w.heap.size + 1, 0, none⟩ = some (.int .i64 q2) ∧ w'.cell? ⟨w.heap.size + 1, 1, none⟩ = some (.int .i64 z2) ∧ w'.cell? ⟨w.heap.size + 1, 2, none⟩ = some (.slice (some ⟨b1, o1, none⟩) l d) ∧ w'.cell? ⟨b0, o0 + k, none⟩ = some (.slice B1 n d1) ∧ w'.cell? ⟨b1, o1 + k, none⟩ = some (.slice B2 n2 d2)) (go_keep) (first
                | (go_at_call 20; ((with_reducible refine HCq.out.mono ?_); rintro e w7 ⟨rfl, hb⟩; have HB7 := Lib.hid (chain HB3.out.drew hb); have G17 := Lib.hid (G1.out.drew.keep hb); have G27 := Lib.hid (G2.out.drew.keep hb); clear hb; obtain ⟨m0, m1, m2⟩ := G17.out.tri; obtain ⟨n0, n1, n2⟩ := G27.out.tri; have k0 := E0.out _ HB7.out; have k1 := E1.out _ HB7.out)))
              go_wp2_with fail
              go_ret
              exact ⟨by rw [HE2.out, HF2.out]; rfl, HB7.out⟩
          · obtain rfl : l = k := by omega
            have hlt' : ¬ (l : Int) < (l : Int) := by omega
            have HE3 := Lib.hid (show decide (ls = ls2) = true by
              have := HT.out
              rw [List.take_of_length_le (by rw [← HLl.out]; exact Nat.le_refl _), List.take_of_length_le (by rw [← HMm.out]; exact Nat.le_refl _)] at this
              exact decide_eq_true this)
            go_wp2_with fail
            go_ret
            exact ⟨by rw [HE2.out, HE3.out]; rfl, HB3.out⟩
      · have t3 : ((l : Int) != (m : Int)) = true := by simp; omega
        have HE3 := Lib.hid (show decide (ls = ls2) = false from decide_eq_false fun e => hlm (by rw [HLl.out, HMm.out, e]))
        clear hlm
        go_enter Try.func11, Try.ntmps11
        go_wp2_with fail
        go_ret
        exact ⟨by rw [HE2.out, HE3.out]; rfl, HB.out⟩
end Go.Proofs.Ytehlebeeoeghmaa
