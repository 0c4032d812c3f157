/- Layer 20: the reference's Same. -/
import Derived.Test.YtcamoigcfiemhaaScW
namespace Go.Proofs.Ytcamoigcfiemhaa
set_option linter.unusedVariables false
set_option linter.unusedSimpArgs false
open Go.RowKit Go.Lib
set_option maxRecDepth 100000
/-- Are two systems the same? -/
def sameS (a b : Sys) : Bool := decide (a.th.length = b.th.length) && decide (a.ch.length = b.ch.length) && (decide (a.th = b.th) && (decide (a.ch = b.ch) && (sameZ a.pc b.pc && sameZ a.su b.su && sameZ a.lo b.lo && sameZ a.ce b.ce)))
theorem inss_mx {w : World} {A : Option Addr} {l c : Nat} {xs : List InR} (h : Inss w A l xs) (hs : SliceOk A l c) : l ≤ maxLen := Nat.le_trans hs.1 hs.2.1
set_option maxHeartbeats 16000000 in
theorem refSame_any (v : Value) (a : Sys) (u : Value) (b : Sys) (w : World) (h : SysAt w v a) (hu : SysAt w u b) (hsa : Small a) (hsb : Small b) : Calls Try.prog 14 #[v, u] w fun e w' => e = .returned (.bool (sameS a b)) ∧ Below w.heap.size w w' := by
  obtain ⟨A0, l0, c0, A1, l1, c1, A2, l2, c2, A3, l3, c3, A4, l4, c4, A5, l5, c5, rfl, s0, s1, s2, s3, s4, s5, h0, h1, h2, h3, h4, h5⟩ := h
  obtain ⟨B0, m0, d0, B1, m1, d1, B2, m2, d2, B3, m3, d3, B4, m4, d4, B5, m5, d5, rfl, z0, z1, z2, z3, z4, z5, k0, k1, k2, k3, k4, k5⟩ := hu
  have H0 := Lib.hid h0
  have K0 := Lib.hid k0
  have H5 := Lib.hid h5
  have K5 := Lib.hid k5
  have N1 := Lib.hid (fun wx (hb : Below w.heap.size w wx) => refNumbers_any A1 B1 l1 c1 m1 d1 _ _ wx (h1.below hb) (k1.below hb) (by have := h1.1; have := hsa.2.2.1; omega) (by have := k1.1; have := hsb.2.2.1; omega))
  have N2 := Lib.hid (fun wx (hb : Below w.heap.size w wx) => refNumbers_any A2 B2 l2 c2 m2 d2 _ _ wx (h2.below hb) (k2.below hb) (by have := h2.1; have := hsa.2.2.2.1; omega) (by have := k2.1; have := hsb.2.2.2.1; omega))
  have N3 := Lib.hid (fun wx (hb : Below w.heap.size w wx) => refNumbers_any A3 B3 l3 c3 m3 d3 _ _ wx (h3.below hb) (k3.below hb) (by have := h3.1; have := hsa.2.2.2.2.1; omega) (by have := k3.1; have := hsb.2.2.2.2.1; omega))
  have N4 := Lib.hid (fun wx (hb : Below w.heap.size w wx) => refNumbers_any A4 B4 l4 c4 m4 d4 _ _ wx (h4.below hb) (k4.below hb) (by have := h4.1; have := hsa.2.2.2.2.2.1; omega) (by have := k4.1; have := hsb.2.2.2.2.2.1; omega))
  have hl0 : l0 ≤ 9223372036854775807 := by have := s0.1; have := s0.2.1; unfold maxLen at *; omega
  have hl5 : l5 ≤ 9223372036854775807 := by have := s5.1; have := s5.2.1; unfold maxLen at *; omega
  have L0 := Lib.hid h0.1
  have M0 := Lib.hid k0.1
  have L5 := Lib.hid h5.1
  have M5 := Lib.hid k5.1
  clear s0 s1 s2 s3 s4 s5 z0 z1 z2 z3 z4 z5 h0 h1 h2 h3 h4 h5 k0 k1 k2 k3 k4 k5
  have HB2 := Lib.hid (show Below w.heap.size w ((w.alloc (.cells #[.slice A0 l0 c0, .slice A1 l1 c1, .slice A2 l2 c2, .slice A3 l3 c3, .slice A4 l4 c4, .slice A5 l5 c5] 26)).alloc (.cells #[.slice B0 m0 d0, .slice B1 m1 d1, .slice B2 m2 d2, .slice B3 m3 d3, .slice B4 m4 d4, .slice B5 m5 d5] 26)) from ((Below.refl w.heap.size w).alloc (Nat.le_refl _) _).alloc (by simp) _)
  have q1 := Box.new (w.alloc (.cells #[.slice A0 l0 c0, .slice A1 l1 c1, .slice A2 l2 c2, .slice A3 l3 c3, .slice A4 l4 c4, .slice A5 l5 c5] 26)) 26 #[.slice B0 m0 d0, .slice B1 m1 d1, .slice B2 m2 d2, .slice B3 m3 d3, .slice B4 m4 d4, .slice B5 m5 d5]
  simp only [World.size_alloc] at q1
  have QB := Lib.hid q1
  have QA := Lib.hid ((Box.new w 26 #[.slice A0 l0 c0, .slice A1 l1 c1, .slice A2 l2 c2, .slice A3 l3 c3, .slice A4 l4 c4, .slice A5 l5 c5]).alloc (.cells #[.slice B0 m0 d0, .slice B1 m1 d1, .slice B2 m2 d2, .slice B3 m3 d3, .slice B4 m4 d4, .slice B5 m5 d5] 26))
  clear q1
  obtain ⟨r0, r1, r2, r3, r4, r5⟩ := QA.out.six
  obtain ⟨q0, q1, q2, q3, q4, q5⟩ := QB.out.six

  by_cases e0 : l0 = m0
  · by_cases e5 : l5 = m5
    · have E0 := Lib.hid e0
      have E5 := Lib.hid e5
      have t0 : ((l0 : Int) != (m0 : Int)) = false := by simp; omega
      have t5 : ((l5 : Int) != (m5 : Int)) = false := by simp; omega
      clear e0 e5
      go_enter Try.func14, Try.ntmps14
      go_wp2_with fail
      go_loopw [26] (fun t wr => ∃ k : Nat, k ≤ l0 ∧ t = .int .i64 (k : Int) ∧ Hid (a.th.take k = b.th.take k) ∧ Hid (Box wr (w.heap.size) 26 #[.slice A0 l0 c0, .slice A1 l1 c1, .slice A2 l2 c2, .slice A3 l3 c3, .slice A4 l4 c4, .slice A5 l5 c5]) ∧ Hid (Box wr (w.heap.size + 1) 26 #[.slice B0 m0 d0, .slice B1 m1 d1, .slice B2 m2 d2, .slice B3 m3 d3, .slice B4 m4 d4, .slice B5 m5 d5]) ∧ Hid (Below w.heap.size w wr)) (fun t _ => l0 - (Go.RowKit.intOf t).toNat)
      case atStart => exact ⟨0, Nat.zero_le _, rfl, Lib.hid rfl, QA, QB, HB2⟩
      case round =>
        obtain ⟨k, hk, rfl, HT, QA', QB', HB'⟩ := hrel
        obtain ⟨W, hW⟩ : ∃ x : World, x = wr := ⟨_, rfl⟩
        subst hW
        clear QA QB HB2
        have QA := QA'
        have QB := QB'
        have HB2 := HB'
        clear QA' QB' HB'
        by_cases hlt : k < l0
        · have hlt' : (k : Int) < (l0 : Int) := by omega
          have hlt2 : (k : Int) < (m0 : Int) := by have := E0.out; omega
          obtain ⟨b0, o0, B, n, d, rfl, hb0, g0, hs0, hq0⟩ := H0.out.at k hlt
          obtain ⟨b1, o1, B', n', d', rfl, hb1, g1, hs1, hq1⟩ := K0.out.at k (by have := E0.out; omega)
          have HC := Lib.hid (fun wx (hb : Below w.heap.size w wx) => refInstrs_any B n d _ B' n' d' _ wx (Recs.below hq0 hb) (Recs.below hq1 hb) (Nat.le_trans hs0.1 hs0.2.1))
          have HS := Lib.hid (fun he => take_eq_snoc a.th b.th k (by rw [L0.out]; exact hlt) (by rw [M0.out]; have := E0.out; omega) HT.out he)
          have HF := Lib.hid (show ¬ a.th.getD k [] = b.th.getD k [] → decide (a.th = b.th) = false from fun hne => decide_eq_false fun e => hne (by rw [e]))
          have e0 := (HB2.out.cell (p := ⟨b0, o0 + k, none⟩) hb0).trans g0
          have e1 := (HB2.out.cell (p := ⟨b1, o1 + k, none⟩) hb1).trans g1
          have hb0' : b0 < W.heap.size := Nat.lt_of_lt_of_le hb0 HB2.out.size
          have hb1' : b1 < W.heap.size := Nat.lt_of_lt_of_le hb1 HB2.out.size
          clear g0 g1 hb0 hb1 hs0 hs1 hq0 hq1
          obtain ⟨r0, r1, r2, r3, r4, r5⟩ := QA.out.six
          obtain ⟨q0, q1, q2, q3, q4, q5⟩ := QB.out.six
          obtain ⟨xs, hxs⟩ : ∃ xs, xs = a.th.getD k [] := ⟨_, rfl⟩
          obtain ⟨ys, hys⟩ : ∃ ys, ys = b.th.getD k [] := ⟨_, rfl⟩
          have hd : (default : List InR) = [] := rfl
          rw [hd] at HS
          rw [← hxs, ← hys] at HC HS HF
          clear hxs hys hd
          go_upto_region 6 with (fail)
          by_cases hq : xs = ys
          · have tq : decide (xs = ys) = true := decide_eq_true hq
            rw [tq] at HC
            have HS2 := Lib.hid (HS.out hq)
            clear tq hq HS HF
            go_region_held3 (fun (w' : World) => w'.cell? ⟨w.heap.size, 0, none⟩ = some (.slice (some ⟨b0, o0, none⟩) l0 c0) ∧ w'.cell? ⟨w.heap.size + 1, 0, none⟩ = some (.slice (some ⟨b1, o1, none⟩) m0 d0) ∧ w'.cell? ⟨b0, o0 + k, none⟩ = some (.slice B n d) ∧ w'.cell? ⟨b1, o1 + k, none⟩ = some (.slice B' n' d')) (go_keep) ((go_at_call 43; refine (HC.out _ HB2.out.drew).mono ?_; rintro e w7 ⟨rfl, hb⟩; have HB7 := Lib.hid (chain HB2.out.drew hb); have QA7 := Lib.hid (QA.out.drew.keep hb); have QB7 := Lib.hid (QB.out.drew.keep hb); obtain ⟨t0, t1, t2, t3, t4, t5⟩ := QA7.out.six; obtain ⟨u0, u1, u2, u3, u4, u5⟩ := QB7.out.six; have e07 := (hb.cell (p := ⟨b0, o0 + k, none⟩) hb0').trans e0; have e17 := (hb.cell (p := ⟨b1, o1 + k, none⟩) hb1').trans e1; clear hb))
            all_goals
              go_wp2_with fail
              go_roundw
              case rel => exact ⟨k + 1, by omega, by go_num, HS2, QA7, QB7, HB7⟩
              case measure => simp [Go.RowKit.intOf] <;> omega
          · have tq : decide (xs = ys) = false := decide_eq_false hq
            rw [tq] at HC
            have HF2 := Lib.hid (HF.out hq)
            have HE := Lib.hid (show sameS a b = false by unfold sameS; rw [HF2.out]; simp)
            clear tq hq HS HF
            go_region_held3 (fun (w' : World) => w'.cell? ⟨w.heap.size, 0, none⟩ = some (.slice (some ⟨b0, o0, none⟩) l0 c0) ∧ w'.cell? ⟨w.heap.size + 1, 0, none⟩ = some (.slice (some ⟨b1, o1, none⟩) m0 d0) ∧ w'.cell? ⟨b0, o0 + k, none⟩ = some (.slice B n d) ∧ w'.cell? ⟨b1, o1 + k, none⟩ = some (.slice B' n' d')) (go_keep) ((go_at_call 43; refine (HC.out _ HB2.out.drew).mono ?_; rintro e w7 ⟨rfl, hb⟩; have HB7 := Lib.hid (chain HB2.out.drew hb); have QA7 := Lib.hid (QA.out.drew.keep hb); have QB7 := Lib.hid (QB.out.drew.keep hb); obtain ⟨t0, t1, t2, t3, t4, t5⟩ := QA7.out.six; obtain ⟨u0, u1, u2, u3, u4, u5⟩ := QB7.out.six; have e07 := (hb.cell (p := ⟨b0, o0 + k, none⟩) hb0').trans e0; have e17 := (hb.cell (p := ⟨b1, o1 + k, none⟩) hb1').trans e1; clear hb))
            all_goals
              go_wp2_with fail
              go_ret
              exact ⟨by rw [HE.out]; rfl, HB7.out⟩
        · obtain rfl : l0 = k := by omega
          have hlt' : ¬ (l0 : Int) < (l0 : Int) := by omega
          have HTth := Lib.hid (show a.th = b.th by
            have := HT.out
            rwa [List.take_of_length_le (by rw [L0.out]; exact Nat.le_refl _), List.take_of_length_le (by rw [M0.out]; have := E0.out; omega)] at this)
          clear HT
          obtain ⟨r0, r1, r2, r3, r4, r5⟩ := QA.out.six
          obtain ⟨q0, q1, q2, q3, q4, q5⟩ := QB.out.six
          go_wp2_with fail
          go_loopw [45] (fun t wr => ∃ k : Nat, k ≤ l5 ∧ t = .int .i64 (k : Int) ∧ Hid (a.ch.take k = b.ch.take k) ∧ Hid (Box wr (w.heap.size) 26 #[.slice A0 l0 c0, .slice A1 l1 c1, .slice A2 l2 c2, .slice A3 l3 c3, .slice A4 l4 c4, .slice A5 l5 c5]) ∧ Hid (Box wr (w.heap.size + 1) 26 #[.slice B0 m0 d0, .slice B1 m1 d1, .slice B2 m2 d2, .slice B3 m3 d3, .slice B4 m4 d4, .slice B5 m5 d5]) ∧ Hid (Below w.heap.size w wr)) (fun t _ => l5 - (Go.RowKit.intOf t).toNat)
          case atStart => exact ⟨0, Nat.zero_le _, rfl, Lib.hid rfl, QA, QB, HB2⟩
          case round =>
            obtain ⟨k, hk, rfl, HT, QA', QB', HB'⟩ := hrel
            obtain ⟨W, hW⟩ : ∃ x : World, x = wr := ⟨_, rfl⟩
            subst hW
            clear QA QB HB2
            have QA := QA'
            have QB := QB'
            have HB2 := HB'
            clear QA' QB' HB'
            by_cases hlt : k < l5
            · have hlt' : (k : Int) < (l5 : Int) := by omega
              have hlt2 : (k : Int) < (m5 : Int) := by have := E5.out; omega
              obtain ⟨b0, o0, B, n, d, rfl, hb0, g0, hs0, hq0⟩ := H5.out.at k hlt
              obtain ⟨b1, o1, B', n', d', rfl, hb1, g1, hs1, hq1⟩ := K5.out.at k (by have := E5.out; omega)
              have HC := Lib.hid (fun wx (hb : Below w.heap.size w wx) => refNumbers_any B B' n d n' d' _ _ wx (hq0.below hb) (hq1.below hb) (by have := hq0.1; have := hsa.2.2.2.2.2.2.2 k (by rw [L5.out]; exact hlt); omega) (by have := hq1.1; have := hsb.2.2.2.2.2.2.2 k (by rw [M5.out]; have := E5.out; omega); omega))
              have HS := Lib.hid (fun he => take_eq_snoc a.ch b.ch k (by rw [L5.out]; exact hlt) (by rw [M5.out]; have := E5.out; omega) HT.out he)
              have HF := Lib.hid (show ¬ a.ch.getD k [] = b.ch.getD k [] → decide (a.ch = b.ch) = false from fun hne => decide_eq_false fun e => hne (by rw [e]))
              have e0 := (HB2.out.cell (p := ⟨b0, o0 + k, none⟩) hb0).trans g0
              have e1 := (HB2.out.cell (p := ⟨b1, o1 + k, none⟩) hb1).trans g1
              have hb0' : b0 < W.heap.size := Nat.lt_of_lt_of_le hb0 HB2.out.size
              have hb1' : b1 < W.heap.size := Nat.lt_of_lt_of_le hb1 HB2.out.size
              clear g0 g1 hb0 hb1 hs0 hs1 hq0 hq1
              obtain ⟨r0, r1, r2, r3, r4, r5⟩ := QA.out.six
              obtain ⟨q0, q1, q2, q3, q4, q5⟩ := QB.out.six
              obtain ⟨xs, hxs⟩ : ∃ xs, xs = a.ch.getD k [] := ⟨_, rfl⟩
              obtain ⟨ys, hys⟩ : ∃ ys, ys = b.ch.getD k [] := ⟨_, rfl⟩
              have hd : (default : List Int) = [] := rfl
              rw [hd] at HS
              rw [← hxs, ← hys] at HC HS HF
              clear hxs hys hd
              go_upto_region 12 with (fail)
              by_cases hq : xs = ys
              · have tq : sameZ xs ys = true := by subst hq; exact decide_eq_true rfl
                rw [tq] at HC
                have HS2 := Lib.hid (HS.out hq)
                clear tq hq HS HF
                go_region_held3 (fun (w' : World) => w'.cell? ⟨w.heap.size, 5, none⟩ = some (.slice (some ⟨b0, o0, none⟩) l5 c5) ∧ w'.cell? ⟨w.heap.size + 1, 5, none⟩ = some (.slice (some ⟨b1, o1, none⟩) m5 d5) ∧ w'.cell? ⟨b0, o0 + k, none⟩ = some (.slice B n d) ∧ w'.cell? ⟨b1, o1 + k, none⟩ = some (.slice B' n' d')) (go_keep) ((go_at_call 20; refine (HC.out _ HB2.out.drew).mono ?_; rintro e w7 ⟨rfl, hb⟩; have HB7 := Lib.hid (chain HB2.out.drew hb); have QA7 := Lib.hid (QA.out.drew.keep hb); have QB7 := Lib.hid (QB.out.drew.keep hb); obtain ⟨t0, t1, t2, t3, t4, t5⟩ := QA7.out.six; obtain ⟨u0, u1, u2, u3, u4, u5⟩ := QB7.out.six; have e07 := (hb.cell (p := ⟨b0, o0 + k, none⟩) hb0').trans e0; have e17 := (hb.cell (p := ⟨b1, o1 + k, none⟩) hb1').trans e1; clear hb))
                all_goals
                  go_wp2_with fail
                  go_roundw
                  case rel => exact ⟨k + 1, by omega, by go_num, HS2, QA7, QB7, HB7⟩
                  case measure => simp [Go.RowKit.intOf] <;> omega
              · have tq : sameZ xs ys = false := decide_eq_false hq
                rw [tq] at HC
                have HF2 := Lib.hid (HF.out hq)
                have HE := Lib.hid (show sameS a b = false by unfold sameS; rw [HF2.out]; simp)
                clear tq hq HS HF
                go_region_held3 (fun (w' : World) => w'.cell? ⟨w.heap.size, 5, none⟩ = some (.slice (some ⟨b0, o0, none⟩) l5 c5) ∧ w'.cell? ⟨w.heap.size + 1, 5, none⟩ = some (.slice (some ⟨b1, o1, none⟩) m5 d5) ∧ w'.cell? ⟨b0, o0 + k, none⟩ = some (.slice B n d) ∧ w'.cell? ⟨b1, o1 + k, none⟩ = some (.slice B' n' d')) (go_keep) ((go_at_call 20; refine (HC.out _ HB2.out.drew).mono ?_; rintro e w7 ⟨rfl, hb⟩; have HB7 := Lib.hid (chain HB2.out.drew hb); have QA7 := Lib.hid (QA.out.drew.keep hb); have QB7 := Lib.hid (QB.out.drew.keep hb); obtain ⟨t0, t1, t2, t3, t4, t5⟩ := QA7.out.six; obtain ⟨u0, u1, u2, u3, u4, u5⟩ := QB7.out.six; have e07 := (hb.cell (p := ⟨b0, o0 + k, none⟩) hb0').trans e0; have e17 := (hb.cell (p := ⟨b1, o1 + k, none⟩) hb1').trans e1; clear hb))
                all_goals
                  go_wp2_with fail
                  go_ret
                  exact ⟨by rw [HE.out]; rfl, HB7.out⟩
            · obtain rfl : l5 = k := by omega
              have hlt' : ¬ (l5 : Int) < (l5 : Int) := by omega
              have HTch := Lib.hid (show a.ch = b.ch by
                have := HT.out
                rwa [List.take_of_length_le (by rw [L5.out]; exact Nat.le_refl _), List.take_of_length_le (by rw [M5.out]; have := E5.out; omega)] at this)
              clear HT
              obtain ⟨r0, r1, r2, r3, r4, r5⟩ := QA.out.six
              obtain ⟨q0, q1, q2, q3, q4, q5⟩ := QB.out.six
              go_wp2_with fail
              refine (N1.out _ HB2.out).mono ?_
              rintro e w90 ⟨rfl, hb⟩
              have HB90 := Lib.hid (chain HB2.out hb)
              have QA90 := Lib.hid (QA.out.keep hb)
              have QB90 := Lib.hid (QB.out.keep hb)
              clear hb r0 r1 r2 r3 r4 r5 q0 q1 q2 q3 q4 q5
              obtain ⟨r0, r1, r2, r3, r4, r5⟩ := QA90.out.six
              obtain ⟨q0, q1, q2, q3, q4, q5⟩ := QB90.out.six
              cases hc0 : sameZ a.pc b.pc with
              | false =>
                have HE := Lib.hid (show sameS a b = false by unfold sameS; rw [hc0]; simp)
                clear hc0
                go_wp2_with fail
                go_ret
                exact ⟨by rw [HE.out]; rfl, HB90.out⟩
              | true =>
                have HC0 := Lib.hid hc0
                clear hc0
                go_wp2_with fail
                refine (N2.out _ HB90.out).mono ?_
                rintro e w91 ⟨rfl, hb⟩
                have HB91 := Lib.hid (chain HB90.out hb)
                have QA91 := Lib.hid (QA90.out.keep hb)
                have QB91 := Lib.hid (QB90.out.keep hb)
                clear hb r0 r1 r2 r3 r4 r5 q0 q1 q2 q3 q4 q5
                obtain ⟨r0, r1, r2, r3, r4, r5⟩ := QA91.out.six
                obtain ⟨q0, q1, q2, q3, q4, q5⟩ := QB91.out.six
                cases hc1 : sameZ a.su b.su with
                | false =>
                  have HE := Lib.hid (show sameS a b = false by unfold sameS; rw [hc1]; simp)
                  clear hc1
                  go_wp2_with fail
                  go_ret
                  exact ⟨by rw [HE.out]; rfl, HB91.out⟩
                | true =>
                  have HC1 := Lib.hid hc1
                  clear hc1
                  go_wp2_with fail
                  refine (N3.out _ HB91.out).mono ?_
                  rintro e w92 ⟨rfl, hb⟩
                  have HB92 := Lib.hid (chain HB91.out hb)
                  have QA92 := Lib.hid (QA91.out.keep hb)
                  have QB92 := Lib.hid (QB91.out.keep hb)
                  clear hb r0 r1 r2 r3 r4 r5 q0 q1 q2 q3 q4 q5
                  obtain ⟨r0, r1, r2, r3, r4, r5⟩ := QA92.out.six
                  obtain ⟨q0, q1, q2, q3, q4, q5⟩ := QB92.out.six
                  cases hc2 : sameZ a.lo b.lo with
                  | false =>
                    have HE := Lib.hid (show sameS a b = false by unfold sameS; rw [hc2]; simp)
                    clear hc2
                    go_wp2_with fail
                    go_ret
                    exact ⟨by rw [HE.out]; rfl, HB92.out⟩
                  | true =>
                    have HC2 := Lib.hid hc2
                    clear hc2
                    go_wp2_with fail
                    refine (N4.out _ HB92.out).mono ?_
                    rintro e w93 ⟨rfl, hb⟩
                    have HB93 := Lib.hid (chain HB92.out hb)
                    have QA93 := Lib.hid (QA92.out.keep hb)
                    have QB93 := Lib.hid (QB92.out.keep hb)
                    clear hb r0 r1 r2 r3 r4 r5 q0 q1 q2 q3 q4 q5
                    obtain ⟨r0, r1, r2, r3, r4, r5⟩ := QA93.out.six
                    obtain ⟨q0, q1, q2, q3, q4, q5⟩ := QB93.out.six
                    cases hc3 : sameZ a.ce b.ce with
                    | false =>
                      have HE := Lib.hid (show sameS a b = false by unfold sameS; rw [hc3]; simp)
                      clear hc3
                      go_wp2_with fail
                      go_ret
                      exact ⟨by rw [HE.out]; rfl, HB93.out⟩
                    | true =>
                      have HC3 := Lib.hid hc3
                      clear hc3
                      go_wp2_with fail
                      go_ret
                      exact ⟨by unfold sameS; rw [HTth.out, HTch.out, HC0.out, HC1.out, HC2.out, HC3.out]; simp, HB93.out⟩
    · have t0 : ((l0 : Int) != (m0 : Int)) = false := by simp; omega
      have t5 : ((l5 : Int) != (m5 : Int)) = true := by simp; omega
      have HE := Lib.hid (show sameS a b = false by unfold sameS; rw [decide_eq_false (show ¬ a.ch.length = b.ch.length by rw [L5.out, M5.out]; exact e5)]; simp)
      clear e0 e5
      go_enter Try.func14, Try.ntmps14
      go_wp2_with fail
      go_ret
      exact ⟨by rw [HE.out]; rfl, HB2.out⟩
  · have t0 : ((l0 : Int) != (m0 : Int)) = true := by simp; omega
    have HE := Lib.hid (show sameS a b = false by unfold sameS; rw [decide_eq_false (show ¬ a.th.length = b.th.length by rw [L0.out, M0.out]; exact e0)]; simp)
    clear e0
    go_enter Try.func14, Try.ntmps14
    go_wp2_with fail
    go_ret
    exact ⟨by rw [HE.out]; rfl, HB2.out⟩
end Go.Proofs.Ytcamoigcfiemhaa
