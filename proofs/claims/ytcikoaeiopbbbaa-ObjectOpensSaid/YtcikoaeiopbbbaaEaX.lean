/- EquationsAdd: the walk. -/
import Derived.Test.YtcikoaeiopbbbaaEq5
import Derived.Test.YtcikoaeiopbbbaaEq9
import Derived.Test.YtcikoaeiopbbbaaGTail2
import Derived.Test.YtcikoaeiopbbbaaFew
import Derived.Deep.RegionWith
import Derived.Deep.RegionHeld3
import Derived.Deep.DeepCutAuto
namespace Go.Proofs.Ytcikoaeiopbbbaa
set_option linter.unusedVariables false
set_option linter.unusedSimpArgs false
open Go.RowKit
set_option maxRecDepth 100000
theorem Box.far4 {w : World} {g g' : Nat} {t : TypeId} {cs : Array Value} (h : Box w g t cs) (hn : g ≠ g') (a b c d : Value) : Box ((((w.setCell ⟨g', 0, none⟩ a).setCell ⟨g', 1, none⟩ b).setCell ⟨g', 2, none⟩ c).setCell ⟨g', 3, none⟩ d) g t cs :=
  (((h.far (p := ⟨g', 0, none⟩) hn a).far (p := ⟨g', 1, none⟩) hn b).far (p := ⟨g', 2, none⟩) hn c).far (p := ⟨g', 3, none⟩) hn d
theorem cut_three {x W : World} {k1 s1 c1 k2 s2 c2 id : Int} {A B A0 B0 : Option Addr} {l0 d0 m0 e0 n d m e : Nat} {xs ys : List SymR} {dt t : ByteArray}
    (h0 : Box x W.heap.size 25 #[.int .i64 k1, .int .i64 s1, .int .i64 c1, .slice A0 l0 d0]) (h1 : Box x (W.heap.size + 1) 25 #[.int .i64 k2, .int .i64 s2, .int .i64 c2, .slice B0 m0 e0]) (h2 : Box x (W.heap.size + 2) 29 #[.int .u64 id, .string dt])
    (ha : Syms x A n xs) (fa : ∀ b off, A = some ⟨b, off, none⟩ → W.heap.size + 3 ≤ b) (hc : Syms x B m ys) (fc : ∀ b off, B = some ⟨b, off, none⟩ → W.heap.size + 3 ≤ b) (hb : Below W.heap.size W x) :
    let y := (((((((((x.setCell ⟨W.heap.size, 0, none⟩ (.int .i64 k1)).setCell ⟨W.heap.size, 1, none⟩ (.int .i64 s1)).setCell ⟨W.heap.size, 2, none⟩ (.int .i64 c1)).setCell ⟨W.heap.size, 3, none⟩ (.slice A n d)).setCell ⟨W.heap.size + 1, 0, none⟩ (.int .i64 k2)).setCell ⟨W.heap.size + 1, 1, none⟩ (.int .i64 s2)).setCell ⟨W.heap.size + 1, 2, none⟩ (.int .i64 c2)).setCell ⟨W.heap.size + 1, 3, none⟩ (.slice B m e)).setCell ⟨W.heap.size + 2, 1, none⟩ (.string t))
    Box y W.heap.size 25 #[.int .i64 k1, .int .i64 s1, .int .i64 c1, .slice A n d] ∧ Box y (W.heap.size + 1) 25 #[.int .i64 k2, .int .i64 s2, .int .i64 c2, .slice B m e] ∧ Box y (W.heap.size + 2) 29 #[.int .u64 id, .string t] ∧ Syms y A n xs ∧ Syms y B m ys ∧ Below W.heap.size W y := by
  intro y
  have p0 := ((h0.put4 (a' := .int .i64 k1) (b' := .int .i64 s1) (c' := .int .i64 c1) (d' := .slice A n d)).far4 (g' := W.heap.size + 1) (by omega) (.int .i64 k2) (.int .i64 s2) (.int .i64 c2) (.slice B m e)).far (p := ⟨W.heap.size + 2, 1, none⟩) (by show W.heap.size ≠ W.heap.size + 2; omega) (.string t)
  have p1 := ((h1.far4 (g' := W.heap.size) (by omega) (.int .i64 k1) (.int .i64 s1) (.int .i64 c1) (.slice A n d)).put4 (a' := .int .i64 k2) (b' := .int .i64 s2) (c' := .int .i64 c2) (d' := .slice B m e)).far (p := ⟨W.heap.size + 2, 1, none⟩) (by show W.heap.size + 1 ≠ W.heap.size + 2; omega) (.string t)
  have p2 := ((h2.far4 (g' := W.heap.size) (by omega) (.int .i64 k1) (.int .i64 s1) (.int .i64 c1) (.slice A n d)).far4 (g' := W.heap.size + 1) (by omega) (.int .i64 k2) (.int .i64 s2) (.int .i64 c2) (.slice B m e)).put 1 (.string t)
  refine ⟨p0, p1, p2, ?_, ?_, ?_⟩
  · exact Recs.farB (Recs.far4 (Recs.far4 ha (fun b off h _ => by have := fa b off h; omega) _ _ _ _) (fun b off h _ => by have := fa b off h; omega) _ _ _ _) (fun b off h _ => by have := fa b off h; omega) _ _
  · exact Recs.farB (Recs.far4 (Recs.far4 hc (fun b off h _ => by have := fc b off h; omega) _ _ _ _) (fun b off h _ => by have := fc b off h; omega) _ _ _ _) (fun b off h _ => by have := fc b off h; omega) _ _
  · exact (below_set4 (below_set4 hb (Nat.le_refl _) _ _ _ _) (by omega) _ _ _ _).setCell (p := ⟨W.heap.size + 2, 1, none⟩) (by show W.heap.size ≤ W.heap.size + 2; omega) _
theorem storeB_new (k s c : Int) : storeB k s c [] = sizesB k s c := by
  rw [storeB_eq]
  unfold sizesB kB
  by_cases h : 1 ≤ c
  · have : (0 : Int) ≤ c := by omega
    simp [allB, twiceB, this]
  · simp [h]
theorem enew_law (k s c : Int) (w : World) :
    Calls Try.prog 13 #[.int .i64 k, .int .i64 s, .int .i64 c] w fun e w' => ∃ nK nS nC nE A d, e = .returned (.tuple #[.agg #[.int .i64 nK, .int .i64 nS, .int .i64 nC, .slice A 0 d], .int .i64 nE]) ∧ ((sizesB k s c = true → nK = k ∧ nS = s ∧ nC = c ∧ nE = 0) ∧ (sizesB k s c = false → nK = 0 ∧ nS = 0 ∧ nC = 0 ∧ nE = 2)) ∧ Syms w' A 0 [] ∧ Below w.heap.size w w' := by
  refine (enew_any k s c w).mono ?_
  rintro e w' ⟨A, d, rfl, h1, -, -, -, hb⟩
  rw [storeB_new]
  refine ⟨_, _, _, _, A, d, rfl, ⟨fun h => ?_, fun h => ?_⟩, h1, hb⟩
  · rw [h]; exact ⟨rfl, rfl, rfl, rfl⟩
  · rw [h]; exact ⟨rfl, rfl, rfl, rfl⟩
theorem addE_yes {k s c : Int} {xs : List SymR} {x : SymR} (h : storeB k s c xs = true) : addE k s c xs x = whyI s c xs x := by unfold addE; rw [if_pos h]
theorem addE_no {k s c : Int} {xs : List SymR} {x : SymR} (h : storeB k s c xs = false) : addE k s c xs x = 1 := by unfold addE; rw [h]; rfl
abbrev eaW (a b c : Array Value) (W : World) : World := ((W.alloc (.cells a 25)).alloc (.cells b 25)).alloc (.cells c 29)
theorem eaW_three (a b c : Array Value) (W : World) : Box (eaW a b c W) W.heap.size 25 a ∧ Box (eaW a b c W) (W.heap.size + 1) 25 b ∧ Box (eaW a b c W) (W.heap.size + 2) 29 c ∧ Below W.heap.size W (eaW a b c W) ∧ (eaW a b c W).heap.size = W.heap.size + 3 := by
  refine ⟨((Box.new W _ _).alloc _).alloc _, ?_, ?_, (((Below.refl _ _).alloc (Nat.le_refl _) _).alloc (by simp) _).alloc (by simp; omega) _, by simp⟩
  · have q := (Box.new (W.alloc (.cells a 25)) 25 b).alloc (.cells c 29)
    simpa only [World.size_alloc] using q
  · have q := Box.new ((W.alloc (.cells a 25)).alloc (.cells b 25)) 29 c
    simpa only [World.size_alloc] using q
end Go.Proofs.Ytcikoaeiopbbbaa
