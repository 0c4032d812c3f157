/- Layer 14: container/heap's down. -/
import Derived.Test.YtmfjbmojejplgaaRiL
import Derived.IntWalk
import Derived.Deep.CutRange
namespace Go.Proofs.Ytmfjbmojejplgaa
set_option linter.unusedVariables false
set_option linter.unusedSimpArgs false
open Go.RowKit Go.Sort
set_option maxRecDepth 100000
/-- What down leaves behind. -/
def DnOut (xs : List DrR) (m g cap : Nat) (w : World) (e : Ending) (w' : World) : Prop := ∃ b, e = .returned (.bool b) ∧ ∃ ys, HpRow w' g cap ys ∧ ys.length = xs.length ∧ ys.Perm xs ∧ HeapN ys m ∧ (∀ k, m ≤ k → drAt ys k = drAt xs k) ∧ w.grownBy w' (some g)
theorem dn_tail {xs ys : List DrR} {m i j : Nat} (h : ∀ k, m ≤ k → drAt ys k = drAt xs k) (hm : m ≤ ys.length) (hi : i < m) (hj : j < m) : ∀ k, m ≤ k → drAt (swpL ys i j) k = drAt xs k := fun k hk => by
  rw [swpL_at ys i j k (by omega) (by omega), if_neg (by omega), if_neg (by omega)]; exact h k hk
theorem dn_left {ys : List DrR} {m k j : Nat} (hj : j = 2 * k + 1) (hr : 2 * k + 2 < m → leA ys j (2 * k + 2)) : ∀ q, 0 < q → q < m → par q = k → leA ys j q := fun q h0 hq hp => by
  rcases (show q = 2 * k + 1 ∨ q = 2 * k + 2 by unfold par at hp; omega) with rfl | rfl
  · subst hj; show leD _ _ = true; rw [leD_iff]; omega
  · exact hr hq
theorem dn_right {ys : List DrR} {m k j : Nat} (hj : j = 2 * k + 2) (hr : leA ys j (2 * k + 1)) : ∀ q, 0 < q → q < m → par q = k → leA ys j q := fun q h0 hq hp => by
  rcases (show q = 2 * k + 1 ∨ q = 2 * k + 2 by unfold par at hp; omega) with rfl | rfl
  · exact hr
  · subst hj; show leD _ _ = true; rw [leD_iff]; omega
theorem dn_fin {ys : List DrR} {m k j : Nat} (h : DnInv ys m k) (hs : ∀ q, 0 < q → q < m → par q = k → leA ys j q) (hb : befD (drAt ys j) (drAt ys k) = false) : HeapN ys m :=
  dn_done h (fun q h0 hq hp => leD_trans _ _ _ (nlt_le hb) (hs q h0 hq hp))
set_option maxHeartbeats 8000000 in
theorem down_any (gp g cap c n m : Nat) (xs : List DrR) (hn : xs.length = n) (hmn : m ≤ n) (hl : n ≤ 100000) (hne : gp ≠ g) (w : World) (hP : PoolAt w gp g n c) (hH : HpRow w g cap xs) (hD : DnInv xs m 0) :
    Calls Try.prog 66 #[hpV gp, .int .i64 0, .int .i64 (m : Int)] w (DnOut xs m g cap w) := by
  have HP := Lib.hid hP
  have HH := Lib.hid hH
  have HD := Lib.hid hD
  have HN := Lib.hid hn
  have HNE := Lib.hid hne
  have HG := Lib.hid (grown_below (r := some g) (Below.refl w.heap.size w))
  clear hP hH hD hne hn
  go_enter Try.func66, Try.ntmps66
  go_wp2_with fail
  go_loopw [7] (fun t wr => ∃ (k : Nat) (ys : List DrR), k ≤ m ∧ t = .int .i64 (k : Int) ∧ Hid (HpRow wr g cap ys) ∧ Hid (ys.Perm xs) ∧ Hid (DnInv ys m k) ∧ Hid (∀ q, m ≤ q → drAt ys q = drAt xs q) ∧ Hid (w.grownBy wr (some g))) (fun t _ => m - (intOf t).toNat)
  case atStart => exact ⟨0, xs, Nat.zero_le _, rfl, HH, Lib.hid (List.Perm.refl _), HD, Lib.hid (fun _ _ => rfl), HG⟩
  case round =>
    clear HH HD HG
    obtain ⟨k, ys, hk, rfl, HH, HPm, HD, HTl, HG⟩ := hrel
    have hL : ys.length = n := by rw [HPm.out.length_eq, HN.out]
    have HL := Lib.hid (show ys.length = xs.length from HPm.out.length_eq)
    have HLn := Lib.hid hL
    have hk5 : (k : Int) < 1000000 := by omega
    have hm5 : (m : Int) ≤ 100000 := by omega
    have hp0 := pool_cell (pool_grown HP.out HG.out HNE.out)
    have hl0 := atLess hp0
    clear hL
    by_cases c1 : 2 * k + 1 < m
    · obtain ⟨j1, hj1⟩ : ∃ j1, j1 = 2 * k + 1 := ⟨_, rfl⟩
      have f1 : 2 * (k : Int) + 1 = (j1 : Int) := by omega
      have f2 : (j1 : Int) < (m : Int) := by omega
      have f3 : ¬ (m : Int) ≤ (j1 : Int) := by omega
      have f4 : ¬ (j1 : Int) < 0 := by omega
      have f5 : decide ((m : Int) ≤ (j1 : Int)) = false := decide_eq_false f3
      have f9 : decide ((j1 : Int) < 0) = false := decide_eq_false f4
      have f6 : IntKind.i64.wrap (2 * (k : Int)) = 2 * (k : Int) := IntWalk.i64_in _ (by omega)
      have f7 : IntKind.i64.wrap (2 * (k : Int) + 1) = (j1 : Int) := by rw [IntWalk.i64_in _ (by omega)]; exact f1
      have f8 : IntKind.i64.wrap (j1 : Int) = (j1 : Int) := IntWalk.i64_in _ (by omega)
      have h1m : j1 < m := by omega
      have h1k : k < j1 := by omega
      have HL1 := Lib.hid (fun (w' : World) (hw : HpRow w' g cap ys) => less_any (some ⟨g, 0, none⟩) n c ys j1 k (by omega) (by omega) (by omega) w' (by have := hw.drs; rwa [HLn.out] at this))
      have HW1 := Lib.hid (fun (w' : World) (hw : HpRow w' g cap ys) => swap_any g cap c ys k j1 (by rw [HLn.out]; omega) (by rw [HLn.out]; omega) (by rw [HLn.out]; omega) w' hw)
      have HPx1 := Lib.hid ((swpL_perm ys k j1 (by rw [HLn.out]; omega) (by rw [HLn.out]; omega)).trans HPm.out)
      have HTx1 := Lib.hid (dn_tail HTl.out (by rw [HLn.out]; exact hmn) (show k < m by omega) h1m)
      rw [HLn.out] at HW1
      by_cases c2 : 2 * k + 2 < m
      · obtain ⟨j2, hj2⟩ : ∃ j2, j2 = 2 * k + 2 := ⟨_, rfl⟩
        have g1 : (j1 : Int) + 1 = (j2 : Int) := by omega
        have g2 : (j2 : Int) < (m : Int) := by omega
        have g3 : decide ((j2 : Int) < (m : Int)) = true := decide_eq_true g2
        have g4 : IntKind.i64.wrap ((j1 : Int) + 1) = (j2 : Int) := by rw [IntWalk.i64_in _ (by omega)]; exact g1
        have h2m : j2 < m := by omega
        have h2k : k < j2 := by omega
        have HL21 := Lib.hid (fun (w' : World) (hw : HpRow w' g cap ys) => less_any (some ⟨g, 0, none⟩) n c ys j2 j1 (by omega) (by omega) (by omega) w' (by have := hw.drs; rwa [HLn.out] at this))
        have HL2 := Lib.hid (fun (w' : World) (hw : HpRow w' g cap ys) => less_any (some ⟨g, 0, none⟩) n c ys j2 k (by omega) (by omega) (by omega) w' (by have := hw.drs; rwa [HLn.out] at this))
        have HW2 := Lib.hid (fun (w' : World) (hw : HpRow w' g cap ys) => swap_any g cap c ys k j2 (by rw [HLn.out]; omega) (by rw [HLn.out]; omega) (by rw [HLn.out]; omega) w' hw)
        rw [HLn.out] at HW2
        have HPx2 := Lib.hid ((swpL_perm ys k j2 (by rw [HLn.out]; omega) (by rw [HLn.out]; omega)).trans HPm.out)
        have HTx2 := Lib.hid (dn_tail HTl.out (by rw [HLn.out]; exact hmn) (show k < m by omega) h2m)
        have HK1 := Lib.hid (show befD (drAt ys j2) (drAt ys j1) = false → (∀ q, 0 < q → q < m → par q = k → leA ys j1 q) from fun hb => dn_left hj1 (fun _ => by have := nlt_le hb; rwa [hj2] at this))
        have HK2 := Lib.hid (show befD (drAt ys j2) (drAt ys j1) = true → (∀ q, 0 < q → q < m → par q = k → leA ys j2 q) from fun hb => dn_right hj2 (by have := lt_le hb; rwa [hj1] at this))
        have hpa1 : par j1 = k := by unfold par; omega
        have hpa2 : par j2 = k := by unfold par; omega
        have HS0 := Lib.hid (fun hs hb => dn_step (j := j1) (by rw [HLn.out]; exact hmn) HD.out (by omega) h1m hpa1 hb hs)
        have HS00 := Lib.hid (fun hs hb => dn_step (j := j2) (by rw [HLn.out]; exact hmn) HD.out (by omega) h2m hpa2 hb hs)
        have HF1 := Lib.hid (fun hs hb => dn_fin (j := j1) HD.out hs hb)
        have HF2 := Lib.hid (fun hs hb => dn_fin (j := j2) HD.out hs hb)
        clear hk5 hj1 hj2 hpa1 hpa2 c1 c2 f2 f3 f4 g2 HD
        go_wp2_with fail
        refine (HL21.out _ HH.out).mono ?_
        rintro e1 w1 ⟨rfl, hb⟩
        have HH1 := Lib.hid (HH.out.keep hb)
        have HG1 := Lib.hid (grown_trans HG.out (grown_below (r := some g) hb))
        have hp1 := pool_cell (pool_grown HP.out HG1.out HNE.out)
        have hl1 := atLess hp1
        have hs1 := atSwap hp1
        clear hb
        cases hbb : befD (drAt ys j2) (drAt ys j1) with
        | false =>
          have HD1 := Lib.hid (HF1.out (HK1.out hbb))
          have HS1 := Lib.hid (HS0.out (HK1.out hbb))
          clear hbb hs1
          go_wp2_with fail
          refine (HL1.out _ HH1.out).mono ?_
          rintro e9 w9 ⟨rfl, hb⟩
          have HH9 := Lib.hid (HH1.out.keep hb)
          have HG9 := Lib.hid (grown_trans HG1.out (grown_below (r := some g) hb))
          have hp9 := pool_cell (pool_grown HP.out HG9.out HNE.out)
          have hl9 := atLess hp9
          have hs9 := atSwap hp9
          clear hb
          cases hbf : befD (drAt ys j1) (drAt ys k) with
          | false =>
            have HE := Lib.hid (HD1.out hbf)
            clear hbf
            go_wp2_with fail
            go_ret
            exact ⟨_, rfl, ys, HH9.out, HL.out, HPm.out, HE.out, HTl.out, HG9.out⟩
          | true =>
            have HE := Lib.hid (HS1.out hbf)
            clear hbf hl9
            go_wp2_with fail
            refine (HW1.out _ HH9.out).mono ?_
            rintro e8 w8 ⟨rfl, hx, hg⟩
            have HHx := Lib.hid hx
            have HGx := Lib.hid (grown_trans HG9.out hg)
            clear hx hg hs9
            go_wp2_with fail
            go_roundw
            case rel => exact ⟨j1, swpL ys k j1, by omega, rfl, HHx, HPx1, HE, HTx1, HGx⟩
            case measure => simp [intOf] <;> omega
        | true =>
          have HD2 := Lib.hid (HF2.out (HK2.out hbb))
          have HS2 := Lib.hid (HS00.out (HK2.out hbb))
          clear hbb hs1
          go_wp2_with fail
          refine (HL2.out _ HH1.out).mono ?_
          rintro e9 w9 ⟨rfl, hb⟩
          have HH9 := Lib.hid (HH1.out.keep hb)
          have HG9 := Lib.hid (grown_trans HG1.out (grown_below (r := some g) hb))
          have hp9 := pool_cell (pool_grown HP.out HG9.out HNE.out)
          have hl9 := atLess hp9
          have hs9 := atSwap hp9
          clear hb
          cases hbf : befD (drAt ys j2) (drAt ys k) with
          | false =>
            have HE := Lib.hid (HD2.out hbf)
            clear hbf
            go_wp2_with fail
            go_ret
            exact ⟨_, rfl, ys, HH9.out, HL.out, HPm.out, HE.out, HTl.out, HG9.out⟩
          | true =>
            have HE := Lib.hid (HS2.out hbf)
            clear hbf hl9
            go_wp2_with fail
            refine (HW2.out _ HH9.out).mono ?_
            rintro e8 w8 ⟨rfl, hx, hg⟩
            have HHx := Lib.hid hx
            have HGx := Lib.hid (grown_trans HG9.out hg)
            clear hx hg hs9
            go_wp2_with fail
            go_roundw
            case rel => exact ⟨j2, swpL ys k j2, by omega, rfl, HHx, HPx2, HE, HTx2, HGx⟩
            case measure => simp [intOf] <;> omega
      · have g2 : ¬ (j1 : Int) + 1 < (m : Int) := by omega
        have g3 : decide ((j1 : Int) + 1 < (m : Int)) = false := decide_eq_false g2
        have g4 : IntKind.i64.wrap ((j1 : Int) + 1) = (j1 : Int) + 1 := IntWalk.i64_in _ (by omega)
        have hK1 : ∀ q, 0 < q → q < m → par q = k → leA ys j1 q := dn_left hj1 (fun h => absurd h (by omega))
        have hpa1 : par j1 = k := by unfold par; omega
        have HS1 := Lib.hid (fun hb => dn_step (j := j1) (by rw [HLn.out]; exact hmn) HD.out (by omega) h1m hpa1 hb hK1)
        have HD1 := Lib.hid (fun hb => dn_fin (j := j1) HD.out hK1 hb)
        clear hk5 hj1 hpa1 c1 c2 f2 f3 f4 g2 hK1 HD
        go_wp2_with fail
        refine (HL1.out _ HH.out).mono ?_
        rintro e9 w9 ⟨rfl, hb⟩
        have HH9 := Lib.hid (HH.out.keep hb)
        have HG9 := Lib.hid (grown_trans HG.out (grown_below (r := some g) hb))
        have hp9 := pool_cell (pool_grown HP.out HG9.out HNE.out)
        have hl9 := atLess hp9
        have hs9 := atSwap hp9
        clear hb
        cases hbf : befD (drAt ys j1) (drAt ys k) with
        | false =>
          have HE := Lib.hid (HD1.out hbf)
          clear hbf
          go_wp2_with fail
          go_ret
          exact ⟨_, rfl, ys, HH9.out, HL.out, HPm.out, HE.out, HTl.out, HG9.out⟩
        | true =>
          have HE := Lib.hid (HS1.out hbf)
          clear hbf hl9
          go_wp2_with fail
          refine (HW1.out _ HH9.out).mono ?_
          rintro e8 w8 ⟨rfl, hx, hg⟩
          have HHx := Lib.hid hx
          have HGx := Lib.hid (grown_trans HG9.out hg)
          clear hx hg hs9
          go_wp2_with fail
          go_roundw
          case rel => exact ⟨j1, swpL ys k j1, by omega, rfl, HHx, HPx1, HE, HTx1, HGx⟩
          case measure => simp [intOf] <;> omega
    · have f1 : (m : Int) ≤ 2 * (k : Int) + 1 := by omega
      have f5 : decide ((m : Int) ≤ 2 * (k : Int) + 1) = true := decide_eq_true f1
      have HE := Lib.hid (dn_done HD.out (fun q h0 hq hp => by unfold par at hp; omega))
      clear hl0 HD c1 f1
      go_wp2_with fail
      go_ret
      exact ⟨_, rfl, ys, HH.out, HL.out, HPm.out, HE.out, HTl.out, HG.out⟩
end Go.Proofs.Ytmfjbmojejplgaa
