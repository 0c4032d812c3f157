/- Layer 14: container/heap's up. -/
import Derived.Test.YtmfjbmojejplgaaRiK
namespace Go.Proofs.Ytmfjbmojejplgaa
set_option linter.unusedVariables false
set_option linter.unusedSimpArgs false
open Go.RowKit Go.Sort
set_option maxRecDepth 100000
/-- The heap's field: a row of drops at block g. -/
abbrev PoolAt (w : World) (gp g n c : Nat) : Prop := Box w gp 50 #[.slice (some ⟨g, 0, none⟩) n c]
theorem pool_cell {w : World} {gp g n c : Nat} (h : PoolAt w gp g n c) : w.cell? ⟨gp, 0, none⟩ = some (.slice (some ⟨g, 0, none⟩) n c) := h.cell 0
theorem pool_grown {w w' : World} {gp g n c : Nat} (h : PoolAt w gp g n c) (hg : w.grownBy w' (some g)) (hne : gp ≠ g) : PoolAt w' gp g n c := Box.grown h hg (fun e => hne (by injection e with e; exact e.symm))
/-- What up and down leave behind. -/
def UpOut (xs : List DrR) (g cap : Nat) (w : World) (e : Ending) (w' : World) : Prop := e = .returned (.tuple #[]) ∧ ∃ ys, HpRow w' g cap ys ∧ ys.Perm xs ∧ HeapN ys xs.length ∧ w.grownBy w' (some g)
set_option maxHeartbeats 4000000 in
theorem up_any (gp g cap c n : Nat) (xs : List DrR) (j : Nat) (hn : xs.length = n) (hj : j < n) (hl : n ≤ 1000000) (hne : gp ≠ g) (w : World) (hP : PoolAt w gp g n c) (hH : HpRow w g cap xs) (hU : UpInv xs n j) :
    Calls Try.prog 65 #[hpV gp, .int .i64 (j : Int)] w (UpOut xs g cap w) := by
  have HP := Lib.hid hP
  have HH := Lib.hid hH
  have HU := Lib.hid hU
  have HN := Lib.hid hn
  have HNE := Lib.hid hne
  have HG := Lib.hid (grown_below (r := some g) (Below.refl w.heap.size w))
  clear hP hH hU hne hn
  go_enter Try.func65, Try.ntmps65
  go_wp2_with fail
  go_loopw [1] (fun t wr => ∃ (k : Nat) (ys : List DrR), k < n ∧ t = .int .i64 (k : Int) ∧ Hid (HpRow wr g cap ys) ∧ Hid (ys.Perm xs) ∧ Hid (UpInv ys n k) ∧ Hid (w.grownBy wr (some g))) (fun t _ => (intOf t).toNat)
  case atStart => exact ⟨j, xs, hj, rfl, HH, Lib.hid (List.Perm.refl _), HU, HG⟩
  case round =>
    clear HH HU HG hj
    obtain ⟨k, ys, hk, rfl, HH, HPm, HU, HG⟩ := hrel
    have HL := Lib.hid (show ys.length = n by rw [HPm.out.length_eq, HN.out])
    have hk5 : (k : Int) < 1000000 := by omega
    have hpl := pool_cell (pool_grown HP.out HG.out HNE.out)
    rcases Nat.eq_zero_or_pos k with h0 | h0
    · subst h0
      go_wp2_with fail
      go_end0
      exact ⟨rfl, ys, HH.out, HPm.out, by rw [HN.out]; exact up_done HU.out (fun h => absurd h (by omega)), HG.out⟩
    · have hp : par k < k := by unfold par; omega
      have f1 : ((k : Int) - 1).tdiv 2 = ((par k : Nat) : Int) := by rw [Int.tdiv_eq_ediv_of_nonneg (by omega)]; unfold par; omega
      have f2 : ((k : Int) - 1) / 2 = ((par k : Nat) : Int) := by unfold par; omega
      have f3 : (((par k : Nat) : Int) == (k : Int)) = false := by simp; omega
      have hk0 : (0 : Int) < (k : Int) := by omega
      have HLs := Lib.hid (fun (w' : World) (hw : HpRow w' g cap ys) => less_any (some ⟨g, 0, none⟩) n c ys k (par k) hk (by omega) hl w' (by have := hw.drs; rwa [HL.out] at this))
      have HSw := Lib.hid (fun (w' : World) (hw : HpRow w' g cap ys) => swap_any g cap c ys (par k) k (by rw [HL.out]; omega) (by rw [HL.out]; exact hk) (by rw [HL.out]; exact hl) w' hw)
      rw [HL.out] at HSw
      have HSt := Lib.hid (up_step HL.out HU.out h0 hk)
      have HDn := Lib.hid (show befD (drAt ys k) (drAt ys (par k)) = false → HeapN ys n from fun hb => up_done HU.out (fun _ => nlt_le hb))
      have HPp := Lib.hid ((swpL_perm ys (par k) k (by rw [HL.out]; omega) (by rw [HL.out]; exact hk)).trans HPm.out)
      have hm1 := atLess hpl
      have hpk : par k < n := by omega
      generalize par k = p at *
      clear h0 HU
      go_wp2_with fail
      refine (HLs.out _ HH.out).mono ?_
      rintro e w2 ⟨rfl, hb⟩
      have HH2 := Lib.hid (HH.out.keep hb)
      have HG2 := Lib.hid (grown_trans HG.out (grown_below (r := some g) hb))
      have hpl2 := pool_cell (pool_grown HP.out HG2.out HNE.out)
      have hm2 := atSwap hpl2
      clear hb hm1 HLs
      cases hbf : befD (drAt ys k) (drAt ys p) with
      | false =>
        have HE := Lib.hid (HDn.out hbf)
        clear hbf
        go_wp2_with fail
        go_end0
        exact ⟨rfl, ys, HH2.out, HPm.out, by rw [HN.out]; exact HE.out, HG2.out⟩
      | true =>
        have HE := Lib.hid (HSt.out hbf)
        clear hbf
        go_wp2_with fail
        refine (HSw.out _ HH2.out).mono ?_
        rintro e w3 ⟨rfl, hx, hg⟩
        have HH3 := Lib.hid hx
        have HG3 := Lib.hid (grown_trans HG2.out hg)
        clear hx hg hm2
        go_wp2_with fail
        go_roundw
        case rel => exact ⟨p, swpL ys p k, hpk, rfl, HH3, HPp, HE, HG3⟩
        case measure => simp [intOf] <;> omega
end Go.Proofs.Ytmfjbmojejplgaa
