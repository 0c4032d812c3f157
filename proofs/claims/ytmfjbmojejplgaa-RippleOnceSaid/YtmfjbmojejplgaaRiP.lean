/- Layer 14: container/heap's Pop; the pool's push, take, left. -/
import Derived.Test.YtmfjbmojejplgaaRiO
namespace Go.Proofs.Ytmfjbmojejplgaa
set_option linter.unusedVariables false
set_option linter.unusedSimpArgs false
open Go.RowKit Go.Sort
set_option maxRecDepth 100000
set_option maxHeartbeats 4000000 in
theorem hpop_any (gp g c n : Nat) (xs : List DrR) (hn : xs.length = n + 1) (hl : n ≤ 50000) (hh : HeapN xs (n + 1)) (w : World) (hP : PoolS w gp (.slice (some ⟨g, 0, none⟩) (n + 1) c) xs) :
    Calls Try.prog 64 #[hpV gp] w fun e w' => e = .returned (.iface 24 (.agg (drA (drAt xs 0)))) ∧ ∃ v' ys, PoolS w' gp v' ys ∧ (drAt xs 0 :: ys).Perm xs ∧ HeapN ys ys.length ∧ Chg w w' gp (.slice (some ⟨g, 0, none⟩) (n + 1) c) v' := by
  obtain ⟨hA, hR, hne, hbg, hcm⟩ := hP.row hn
  have hl1 := atLen (pool_cell hA)
  have hs1 := atSwap (pool_cell hA)
  have HA := Lib.hid hA
  have HQ := Lib.hid (And.intro hne (And.intro hbg hcm))
  have HSw := Lib.hid (swap_any g c c xs 0 n (by omega) (by omega) (by omega) w hR)
  rw [hn] at HSw
  have HD0 := Lib.hid (dn_start hh hn (by omega))
  have HSL := Lib.hid (show (swpL xs 0 n).length = n + 1 by rw [swpL_len, hn])
  have HPm := Lib.hid (swpL_perm xs 0 n (by omega) (by omega))
  have HLs := Lib.hid (show drAt (swpL xs 0 n) n = drAt xs 0 by rw [swpL_at xs 0 n n (by omega) (by omega), if_pos rfl])
  have hm : ∀ w, (method 213 102 (.pointer (some ⟨gp, 0, none⟩)) "Pop").run Try.prog w = .ok (70, .pointer (some ⟨gp, 0, none⟩)) w := fun w => metPop 212 _ w
  clear hP hA hR hne hbg hcm hn hh
  go_enter Try.func64, Try.ntmps64
  go_wp2_with fail
  refine (len_any _ _ _ _).mono ?_
  rintro e w2 ⟨rfl, hw⟩
  obtain rfl := hw.symm
  go_wp2_with fail
  refine HSw.out.mono ?_
  rintro e w3 ⟨rfl, h3, h4⟩
  have HA3 := Lib.hid (pool_grown HA.out h4 HQ.out.1)
  have HC3 := Lib.hid (show Chg w w3 gp (.slice (some ⟨g, 0, none⟩) (n + 1) c) (.slice (some ⟨g, 0, none⟩) (n + 1) c) from Chg.grown h4)
  have HDn := Lib.hid (down_any gp g c c (n + 1) n (swpL xs 0 n) HSL.out (by omega) (by omega) HQ.out.1 w3 HA3.out h3 (by have := HD0.out; exact this))
  clear h3 h4 HSw HD0 hl1 hs1
  go_wp2_with fail
  refine HDn.out.mono ?_
  rintro e w4 ⟨b, rfl, ys, h5, h6, h7, h8, h9, h10⟩
  have hyl : ys.length = n + 1 := by rw [h6, HSL.out]
  have HP4 := Lib.hid (show PoolS w4 gp (.slice (some ⟨g, 0, none⟩) (n + 1) c) ys from by
    have := pool_of (by rw [hyl]; exact pool_grown HA3.out h10 HQ.out.1) h5 HQ.out.2.1 HQ.out.2.2
    rwa [hyl] at this)
  have HC4 := Lib.hid (show Chg w w4 gp (.slice (some ⟨g, 0, none⟩) (n + 1) c) (.slice (some ⟨g, 0, none⟩) (n + 1) c) from HC3.out.trans (Chg.grown h10))
  have hy0 : drAt ys n = drAt xs 0 := by rw [h9 n (Nat.le_refl _), HLs.out]
  have HPo := Lib.hid (dpop_any gp g c n ys hyl (by omega) w4 HP4.out)
  rw [hy0] at HPo
  have hys : ys = ys.take n ++ [drAt xs 0] := by
    rw [← hy0, ← take_dr ys n (by omega), List.take_of_length_le (by omega)]
  have HFp := Lib.hid (show (drAt xs 0 :: ys.take n).Perm xs from by
    refine List.Perm.trans ?_ (h7.trans HPm.out)
    refine List.Perm.trans ?_ (List.Perm.of_eq hys.symm)
    exact List.perm_append_comm (l₁ := [drAt xs 0]))
  have HFh := Lib.hid (show HeapN (ys.take n) (ys.take n).length from by
    have hl2 : (ys.take n).length = n := by rw [List.length_take]; omega
    rw [hl2]
    intro k k0 hk
    have hp : par k < n := by unfold par; omega
    have e : ∀ q, q < n → drAt (ys.take n) q = drAt ys q := fun q hq => by simp only [List.getD]; rw [List.getElem?_take_of_lt hq]
    show leD _ _ = true
    rw [e k hk, e _ hp]
    exact h8 k k0 hk)
  clear h5 h6 h7 h8 h9 h10 hyl hy0 hys HDn HPm HLs HSL
  go_wp2_with fail
  refine HPo.out.mono ?_
  rintro e w5 ⟨rfl, h11, h12⟩
  have HF := Lib.hid (show ∃ v' ys, PoolS w5 gp v' ys ∧ (drAt xs 0 :: ys).Perm xs ∧ HeapN ys ys.length ∧ Chg w w5 gp (.slice (some ⟨g, 0, none⟩) (n + 1) c) v' from ⟨_, _, h11, HFp.out, HFh.out, HC4.out.trans h12⟩)
  clear h11 h12
  go_wp2_with fail
  go_ret
  exact ⟨rfl, HF.out⟩
theorem PoolS.keep {w w' : World} {gp : Nat} {v : Value} {xs : List DrR} (h : PoolS w gp v xs) (hb : Below w.heap.size w w') : PoolS w' gp v xs := ⟨h.box.keep hb, own_keep h.own hb⟩
set_option maxHeartbeats 4000000 in
theorem ppush_any (gp : Nat) (v : Value) (xs : List DrR) (d : DrR) (hl : xs.length ≤ 100000) (hh : HeapN xs xs.length) (w : World) (hP : PoolS w gp v xs) :
    Calls Try.prog 60 #[.pointer (some ⟨gp, 0, none⟩), .agg (drA d)] w fun e w' => e = .returned (.tuple #[]) ∧ ∃ v' ys, PoolS w' gp v' ys ∧ ys.Perm (d :: xs) ∧ HeapN ys ys.length ∧ Chg w w' gp v v' := by
  have hb1 : Below w.heap.size w (w.alloc (.cells (drA d) 24)) := (Below.refl _ _).alloc (Nat.le_refl _) _
  have HPu := Lib.hid (hpush_any gp v xs d hl hh _ (hP.keep hb1.drew))
  have bx := Box.new w 24 (drA d)
  have b0 := bx.cell 0
  have b1 := bx.cell 1
  simp only [List.getElem?_toArray, List.getElem?_cons_zero, List.getElem?_cons_succ] at b0 b1
  have HB := Lib.hid hb1.drew
  clear hP hh bx hb1
  go_enter Try.func60, Try.ntmps60
  go_wp2_with fail
  go_region_with (go_at_call 62; refine HPu.out.mono ?_; rintro e w1 ⟨rfl, v', ys, h1, h2, h3, h4⟩)
  all_goals
    have HF := Lib.hid (show ∃ v' ys, PoolS w1 gp v' ys ∧ ys.Perm (d :: xs) ∧ HeapN ys ys.length ∧ Chg w w1 gp v v' from ⟨v', ys, h1, h2, h3, (Chg.below HB.out).trans h4⟩)
    clear h1 h2 h3 h4
    go_wp2_with fail
    go_end0
    exact ⟨rfl, HF.out⟩
theorem left_any (gp : Nat) (v : Value) (xs : List DrR) (w : World) (hP : PoolS w gp v xs) :
    Calls Try.prog 59 #[.pointer (some ⟨gp, 0, none⟩)] w fun e w' => e = .returned v ∧ w' = w := by
  obtain ⟨A, c, rfl⟩ := hP.slice
  have b0 := hP.box.cell 0
  simp only [List.getElem?_toArray, List.getElem?_cons_zero, List.getElem?_cons_succ] at b0
  clear hP
  go_enter Try.func59, Try.ntmps59
  go_wp2_with fail
  go_ret
  exact ⟨rfl, rfl⟩
end Go.Proofs.Ytmfjbmojejplgaa
