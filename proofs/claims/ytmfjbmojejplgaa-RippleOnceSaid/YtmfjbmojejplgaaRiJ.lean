/- Layer 14: the heap's row of its own; Swap. -/
import Derived.Test.YtmfjbmojejplgaaRiI
import Derived.BigRegion
import Derived.BigQuiet
namespace Go.Proofs.Ytmfjbmojejplgaa
set_option linter.unusedVariables false
set_option linter.unusedSimpArgs false
open Go.RowKit Go.Sort
set_option maxRecDepth 1000000
/-- Block g holds the drops xs, with room for cap. -/
def HpRow (w : World) (g cap : Nat) (xs : List DrR) : Prop := ∃ cur : Array Value, Box w g 24 cur ∧ cur.size = cap * 2 ∧ xs.length ≤ cap ∧ cur.toList.take (xs.length * 2) = xs.flatMap encD
theorem flat_get (xs : List DrR) (t : Nat) (ht : t < xs.length * 2) : (xs.flatMap encD)[t]? = (encD (drAt xs (t / 2)))[t % 2]? := by
  have := flat_at encD_len xs (t / 2) (t % 2) (by omega) (Nat.mod_lt _ (by decide))
  rwa [show t / 2 * 2 + t % 2 = t by omega] at this
theorem HpRow.lt {w : World} {g cap : Nat} {xs : List DrR} (h : HpRow w g cap xs) : g < w.heap.size := by
  obtain ⟨cur, hb, -⟩ := h; exact hb.lt
theorem HpRow.keep {w w' : World} {g cap : Nat} {xs : List DrR} (h : HpRow w g cap xs) (hb : Below w.heap.size w w') : HpRow w' g cap xs := by
  obtain ⟨cur, h1, h2⟩ := h; exact ⟨cur, h1.keep hb, h2⟩
theorem HpRow.cells {w : World} {g cap : Nat} {xs : List DrR} (h : HpRow w g cap xs) (j : Nat) (hj : j < xs.length) : w.cell? ⟨g, j * 2, none⟩ = some (.int .i64 (drAt xs j).1) ∧ w.cell? ⟨g, j * 2 + 1, none⟩ = some (.int .u64 ((drAt xs j).2 : Int)) ∧ w.frozen? ⟨g, j * 2, none⟩ = false ∧ w.frozen? ⟨g, j * 2 + 1, none⟩ = false := by
  obtain ⟨cur, hb, hs, hc, ht⟩ := h
  have e := fun t (h2 : t < xs.length * 2) => show cur[t]? = (xs.flatMap encD)[t]? by rw [← ht, List.getElem?_take, if_pos h2, Array.getElem?_toList]
  have e0 := e (j * 2) (by omega)
  have e1 := e (j * 2 + 1) (by omega)
  rw [flat_get xs _ (by omega), show j * 2 / 2 = j by omega, show j * 2 % 2 = 0 by omega] at e0
  rw [flat_get xs _ (by omega), show (j * 2 + 1) / 2 = j by omega, show (j * 2 + 1) % 2 = 1 by omega] at e1
  exact ⟨by rw [hb.cell, e0]; rfl, by rw [hb.cell, e1]; rfl, hb.free _, hb.free _⟩
theorem HpRow.drs {w : World} {g cap : Nat} {xs : List DrR} (h : HpRow w g cap xs) : Drs w (some ⟨g, 0, none⟩) xs.length xs := by
  refine ⟨rfl, fun _ => ⟨g, 0, rfl, h.lt, fun j hj k v hv => ?_⟩⟩
  obtain ⟨c0, c1, -⟩ := h.cells j hj
  have hk : k < 2 := by have := (List.getElem?_eq_some_iff.1 hv).1; rwa [encD_len] at this
  rw [Nat.zero_add]
  match k, hk with
  | 0, _ => rw [Nat.add_zero, c0]; exact hv
  | 1, _ => rw [c1]; exact hv
/-- One drop stored. -/
theorem HpRow.put {w : World} {g cap : Nat} {xs : List DrR} (h : HpRow w g cap xs) (i : Nat) (hi : i < xs.length) (y : DrR) : HpRow ((w.setCell ⟨g, i * 2, none⟩ (.int .i64 y.1)).setCell ⟨g, i * 2 + 1, none⟩ (.int .u64 (y.2 : Int))) g cap (xs.set i y) := by
  obtain ⟨cur, hb, hs, hc, ht⟩ := h
  refine ⟨_, (hb.put (i * 2) _).put (i * 2 + 1) _, by simp [hs], by simpa using hc, ?_⟩
  apply List.ext_getElem?
  intro t
  rw [List.length_set, List.getElem?_take]
  by_cases h2 : t < xs.length * 2
  · rw [if_pos h2, flat_get (xs.set i y) t (by simpa using h2), Array.getElem?_toList]
    have e : cur[t]? = (encD (drAt xs (t / 2)))[t % 2]? := by rw [← flat_get xs t h2, ← ht, List.getElem?_take, if_pos h2, Array.getElem?_toList]
    have hts : t < cur.size := by omega
    by_cases hti : t / 2 = i
    · have ey : drAt (xs.set i y) (t / 2) = y := by rw [hti]; simp [List.getD, hi]
      rw [ey]
      rcases (show t = i * 2 ∨ t = i * 2 + 1 by omega) with rfl | rfl
      · rw [Array.getElem?_setIfInBounds_ne (by omega), Array.getElem?_setIfInBounds_self_of_lt (by omega), show i * 2 % 2 = 0 by omega]; rfl
      · rw [Array.getElem?_setIfInBounds_self_of_lt (by simp; omega), show (i * 2 + 1) % 2 = 1 by omega]; rfl
    · have ey : drAt (xs.set i y) (t / 2) = drAt xs (t / 2) := by simp [List.getD, List.getElem?_set_ne (Ne.symm hti)]
      rw [ey, Array.getElem?_setIfInBounds_ne (by omega), Array.getElem?_setIfInBounds_ne (by omega), e]
  · rw [if_neg h2, List.getElem?_eq_none (by rw [flat_len encD_len, List.length_set]; omega)]
/-- Two drops exchanged. -/
def swpL (xs : List DrR) (i j : Nat) : List DrR := (xs.set i (drAt xs j)).set j (drAt xs i)
theorem swpL_len (xs : List DrR) (i j : Nat) : (swpL xs i j).length = xs.length := by simp [swpL]
theorem grown_setCell (w : World) (g : Nat) (i : Nat) (v : Value) : w.grownBy (w.setCell ⟨g, i, none⟩ v) (some g) :=
  ⟨rfl, rfl, rfl, by simp [World.setCell], fun k hk hne => heap_setCell_other w ⟨g, i, none⟩ k v (fun e => hne (by rw [e]))⟩
theorem grown_trans {w w1 w2 : World} {r : Option Nat} (h : w.grownBy w1 r) (h2 : w1.grownBy w2 r) : w.grownBy w2 r :=
  ⟨h2.os.trans h.os, h2.tape.trans h.tape, h2.output.trans h.output, Nat.le_trans h.size h2.size, fun k hk hne => (h2.block k (Nat.lt_of_lt_of_le hk h.size) hne).trans (h.block k hk hne)⟩
theorem grown_below {w w1 : World} {r : Option Nat} (h : Below w.heap.size w w1) : w.grownBy w1 r :=
  ⟨h.os, h.tape, h.output, h.size, fun k hk _ => h.block k hk⟩
theorem grown_drewN {w w1 : World} {r : Option Nat} (n : Nat) (h : w.grownBy w1 r) : w.grownBy (w1.drewN n) r := ⟨h.os, h.tape, h.output, h.size, h.block⟩
set_option maxHeartbeats 4000000 in
theorem swap_any (g cap c : Nat) (xs : List DrR) (i j : Nat) (hi : i < xs.length) (hj : j < xs.length) (hl : xs.length ≤ 1000000) (w : World) (hH : HpRow w g cap xs) :
    Calls Try.prog 68 #[.slice (some ⟨g, 0, none⟩) xs.length c, .int .i64 (i : Int), .int .i64 (j : Int)] w fun e w' => e = .returned (.tuple #[]) ∧ HpRow w' g cap (swpL xs i j) ∧ w.grownBy w' (some g) := by
  obtain ⟨d0, d1, u0, u1⟩ := hH.cells i hi
  obtain ⟨e0, e1, v0, v1⟩ := hH.cells j hj
  have HP := Lib.hid (show HpRow ((((w.setCell ⟨g, i * 2, none⟩ (.int .i64 (drAt xs j).1)).setCell ⟨g, i * 2 + 1, none⟩ (.int .u64 ((drAt xs j).2 : Int))).setCell ⟨g, j * 2, none⟩ (.int .i64 (drAt xs i).1)).setCell ⟨g, j * 2 + 1, none⟩ (.int .u64 ((drAt xs i).2 : Int))) g cap (swpL xs i j) from (hH.put i hi (drAt xs j)).put j (by simpa using hj) (drAt xs i))
  have HG := Lib.hid (show ∀ a b x y, w.grownBy ((((w.setCell ⟨g, i * 2, none⟩ a).setCell ⟨g, i * 2 + 1, none⟩ b).setCell ⟨g, j * 2, none⟩ x).setCell ⟨g, j * 2 + 1, none⟩ y) (some g) from fun a b x y => grown_trans (grown_trans (grown_trans (grown_setCell w g _ a) (grown_setCell _ g _ b)) (grown_setCell _ g _ x)) (grown_setCell _ g _ y))
  have i1 : (i : Int) < (xs.length : Int) := Int.ofNat_lt.2 hi
  have j1 : (j : Int) < (xs.length : Int) := Int.ofNat_lt.2 hj
  have i0 : (0 : Int) ≤ (i : Int) := Int.natCast_nonneg _
  have j0 : (0 : Int) ≤ (j : Int) := Int.natCast_nonneg _
  generalize hx : drAt xs i = x at *
  generalize hy : drAt xs j = y at *
  have HS := Lib.hid (show ∀ w', Hid (HpRow w' g cap (swpL xs i j)) → HpRow w' g cap (swpL xs i j) from fun w' h => h.out)
  clear hx hy hH hi hj HS
  obtain ⟨r0, R0⟩ := cell?_setCell_some (p := ⟨g, i * 2, none⟩) (x := .int .i64 y.1) e0
  obtain ⟨r1, R1⟩ := cell?_setCell_some (p := ⟨g, i * 2 + 1, none⟩) (x := .int .u64 (y.2 : Int)) e1
  obtain ⟨r2, R2⟩ := cell?_setCell_some (p := ⟨g, i * 2, none⟩) (x := .int .i64 y.1) R1
  obtain ⟨r3, R3⟩ := cell?_setCell_some (p := ⟨g, i * 2, none⟩) (x := .int .i64 y.1) e1
  obtain ⟨r4, R4⟩ := cell?_setCell_some (p := ⟨g, i * 2 + 1, none⟩) (x := .int .u64 (y.2 : Int)) R3
  go_enter Try.func68, Try.ntmps68
  go_wp2_with fail
  go_region
  go_end0
  exact ⟨rfl, HP.out, grown_drewN 1 (HG.out _ _ _ _)⟩
end Go.Proofs.Ytmfjbmojejplgaa
