/- Layer 14: the heap's Pop of its row; container/heap's Push and Pop. -/
import Derived.Test.YtmfjbmojejplgaaRiN
namespace Go.Proofs.Ytmfjbmojejplgaa
set_option linter.unusedVariables false
set_option linter.unusedSimpArgs false
open Go.RowKit Go.Sort
set_option maxRecDepth 100000
theorem HpRow.take {w : World} {g cap : Nat} {xs : List DrR} (h : HpRow w g cap xs) (m : Nat) (hm : m ≤ xs.length) : HpRow w g cap (xs.take m) := by
  obtain ⟨cur, hb, hs, hc, ht⟩ := h
  have hl : (xs.take m).length = m := by rw [List.length_take]; omega
  refine ⟨cur, hb, hs, by omega, ?_⟩
  apply List.ext_getElem?
  intro t
  rw [hl, List.getElem?_take]
  by_cases h2 : t < m * 2
  · rw [if_pos h2, flat_get (xs.take m) t (by omega)]
    have e : cur[t]? = (encD (drAt xs (t / 2)))[t % 2]? := by rw [← flat_get xs t (by omega), ← ht, List.getElem?_take, if_pos (by omega), Array.getElem?_toList]
    have ed : drAt (xs.take m) (t / 2) = drAt xs (t / 2) := by simp only [List.getD]; rw [List.getElem?_take_of_lt (by omega)]
    rw [ed, Array.getElem?_toList, e]
  · rw [if_neg h2, List.getElem?_eq_none (by rw [flat_len encD_len, hl]; omega)]
theorem HpRow.setFar {w : World} {g cap p i : Nat} {u : Value} {xs : List DrR} (h : HpRow w g cap xs) (hne : g ≠ p) : HpRow (w.setCell ⟨p, i, none⟩ u) g cap xs := by
  obtain ⟨cur, hb, h2⟩ := h
  exact ⟨cur, hb.far (p := ⟨p, i, none⟩) hne u, h2⟩
set_option maxHeartbeats 4000000 in
theorem dpop_any (gp g c n : Nat) (xs : List DrR) (hn : xs.length = n + 1) (hl : n ≤ 100000) (w : World) (hP : PoolS w gp (.slice (some ⟨g, 0, none⟩) (n + 1) c) xs) :
    Calls Try.prog 70 #[.pointer (some ⟨gp, 0, none⟩)] w fun e w' => e = .returned (.iface 24 (.agg (drA (drAt xs n)))) ∧ PoolS w' gp (.slice (some ⟨g, 0, none⟩) n c) (xs.take n) ∧ Chg w w' gp (.slice (some ⟨g, 0, none⟩) (n + 1) c) (.slice (some ⟨g, 0, none⟩) n c) := by
  obtain ⟨hA, hR, hne, hbg, hcm⟩ := hP.row hn
  have hb1 : Below w.heap.size w (w.alloc (.cells (drA (drAt xs n)) 24)) := (Below.refl _ _).alloc (Nat.le_refl _) _
  have a0 := pool_cell hA
  have a1 := pool_cell (show PoolAt (w.alloc (.cells (drA (drAt xs n)) 24)) gp g (n + 1) c from hA.keep hb1)
  have a2 := (show Box (w.alloc (.cells (drA (drAt xs n)) 24)) gp 50 #[.slice (some ⟨g, 0, none⟩) (n + 1) c] from hA.keep hb1).free 0
  obtain ⟨c0, c1, -⟩ := hR.cells n (by omega)
  have hcap : n + 1 ≤ c := by
    obtain ⟨cur, -, -, h3, -⟩ := hR
    omega
  have bx := Box.new w 24 (drA (drAt xs n))
  have by2 := bx.far (p := ⟨gp, 0, none⟩) (by show w.heap.size ≠ gp; have := hA.lt; omega) (.slice (some ⟨g, 0, none⟩) n c)
  have y0 := by2.cell 0
  have y1 := by2.cell 1
  simp only [List.getElem?_toArray, List.getElem?_cons_zero, List.getElem?_cons_succ] at y0 y1
  have HTl : (xs.take n).length = n := by rw [List.length_take]; omega
  have HP2 := Lib.hid (show PoolS ((w.alloc (.cells (drA (drAt xs n)) 24)).setCell ⟨gp, 0, none⟩ (.slice (some ⟨g, 0, none⟩) n c)) gp (.slice (some ⟨g, 0, none⟩) n c) (xs.take n) from by
    have h1 : PoolAt ((w.alloc (.cells (drA (drAt xs n)) 24)).setCell ⟨gp, 0, none⟩ (.slice (some ⟨g, 0, none⟩) n c)) gp g n c := (show Box (w.alloc (.cells (drA (drAt xs n)) 24)) gp 50 #[.slice (some ⟨g, 0, none⟩) (n + 1) c] from hA.keep hb1).put 0 _
    have h2 := ((hR.keep hb1).take n (by omega)).setFar (p := gp) (i := 0) (u := .slice (some ⟨g, 0, none⟩) n c) (Ne.symm hne)
    have := pool_of (xs := xs.take n) (by rw [HTl]; exact h1) h2 hbg hcm
    rwa [HTl] at this)
  have HC := Lib.hid (show Chg w ((w.alloc (.cells (drA (drAt xs n)) 24)).setCell ⟨gp, 0, none⟩ (.slice (some ⟨g, 0, none⟩) n c)) gp (.slice (some ⟨g, 0, none⟩) (n + 1) c) (.slice (some ⟨g, 0, none⟩) n c) from
    ⟨rfl, rfl, rfl, by simp [World.setCell], fun k hk hkn _ => (heap_setCell_other _ ⟨gp, 0, none⟩ k _ hkn).trans (hb1.block k hk), fun g' hg => .inl hg⟩)
  generalize drAt xs n = x at *
  clear hP hA hR hne hbg hcm hb1 bx by2 HTl hn
  have n1 : (n : Int) < (n : Int) + 1 := by omega
  have n0 : (0 : Int) ≤ (n : Int) := Int.natCast_nonneg _
  have n2 : (n : Int) ≤ (c : Int) := by omega
  go_enter Try.func70, Try.ntmps70
  go_wp2_with fail
  go_ret
  exact ⟨rfl, HP2.out, HC.out⟩
set_option maxHeartbeats 4000000 in
theorem hpush_any (gp : Nat) (v : Value) (xs : List DrR) (d : DrR) (hl : xs.length ≤ 100000) (hh : HeapN xs xs.length) (w : World) (hP : PoolS w gp v xs) :
    Calls Try.prog 62 #[hpV gp, .iface 24 (.agg (drA d))] w fun e w' => e = .returned (.tuple #[]) ∧ ∃ v' ys, PoolS w' gp v' ys ∧ ys.Perm (d :: xs) ∧ HeapN ys ys.length ∧ Chg w w' gp v v' := by
  have HPu := Lib.hid (dpush_any gp v xs d hl w hP)
  have hm : ∀ w, (method 213 102 (.pointer (some ⟨gp, 0, none⟩)) "Push").run Try.prog w = .ok (71, .pointer (some ⟨gp, 0, none⟩)) w := fun w => metPush 212 _ w
  have HU := Lib.hid (up_start hh d rfl)
  have HLn := Lib.hid (show (xs ++ [d]).length = xs.length + 1 by simp)
  clear hP hh
  go_enter Try.func62, Try.ntmps62
  go_wp2_with fail
  refine HPu.out.mono ?_
  rintro e w1 ⟨rfl, g, cap, h1, h2⟩
  have HC1 := Lib.hid h2
  obtain ⟨hA, hR, hne, hbg, hcm⟩ := h1.row HLn.out
  have hl1 := atLen (pool_cell hA)
  have HUp := Lib.hid (up_any gp g cap cap (xs.length + 1) (xs ++ [d]) xs.length HLn.out (by omega) (by omega) hne w1 hA hR HU.out)
  have HA := Lib.hid hA
  have HQ := Lib.hid (And.intro hne (And.intro hbg hcm))
  clear h1 h2 hA hR hne hbg hcm HPu hm
  go_wp2_with fail
  refine (len_any _ _ _ _).mono ?_
  rintro e w2 ⟨rfl, rfl⟩
  go_wp2_with fail
  refine HUp.out.mono ?_
  rintro e w3 ⟨rfl, ys, h3, h4, h5, h6⟩
  have hyl : ys.length = xs.length + 1 := by rw [h4.length_eq, HLn.out]
  have HF := Lib.hid (show ∃ v' ys, PoolS w3 gp v' ys ∧ ys.Perm (d :: xs) ∧ HeapN ys ys.length ∧ Chg w w3 gp v v' from by
    have hA3 := pool_grown HA.out h6 HQ.out.1
    refine ⟨_, ys, pool_of (by rw [hyl]; exact hA3) h3 HQ.out.2.1 HQ.out.2.2, h4.trans (List.perm_append_comm), by rw [hyl, ← HLn.out]; exact h5, ?_⟩
    exact HC1.out.trans (Chg.grown h6))
  clear h3 h4 h5 h6 hyl
  go_wp2_with fail
  go_end0
  exact ⟨rfl, HF.out⟩
end Go.Proofs.Ytmfjbmojejplgaa
