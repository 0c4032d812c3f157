/- Law 12: few, alive. -/
import Derived.Test.YtcikoaeiopbbbaaEq7
import Derived.Test.YtcikoaeiopbbbaaEq8
namespace Go.Proofs.Ytcikoaeiopbbbaa
set_option linter.unusedVariables false
set_option linter.unusedSimpArgs false
open Go.RowKit
set_option maxRecDepth 100000
def cutX (s : ByteArray) : ByteArray := s.extract 0 (min s.size 66)
theorem cutX_size (s : ByteArray) : (cutX s).size ≤ 66 := by simp [cutX, ByteArray.size_extract]; omega
theorem cutX_min (s : ByteArray) (m : Nat) (hm : (m : Int) = min (s.size : Int) 66) : s.extract 0 m = cutX s := by
  unfold cutX
  congr 1
  omega
def cutP (x : SymR) : SymR := (x.1, cutX x.2)
def fewS (xs : List SymR) (k : Nat) : List SymR := (xs.take k).map cutP
theorem fewS_succ (xs : List SymR) (k : Nat) (h : k < xs.length) : fewS xs (k + 1) = fewS xs k ++ [((xs.getD k default).1, cutX (xs.getD k default).2)] := by
  unfold fewS
  rw [take_snocD xs k h, List.map_append]; rfl
theorem fewS_len (xs : List SymR) (k : Nat) : (fewS xs k).length = min k xs.length := by simp [fewS]
theorem fewS_all (xs : List SymR) (k : Nat) (h : xs.length = k) (h2 : k ≤ 66) : fewS xs k = fewS xs 66 := by
  unfold fewS
  rw [List.take_of_length_le (by omega), List.take_of_length_le (by omega)]
theorem fewS_id (xs : List SymR) (h : ∀ j, (xs.getD j default).1 < 18446744073709551616) (k : Nat) : ∀ j, ((fewS xs k).getD j default).1 < 18446744073709551616 := fun j => by
  unfold fewS
  by_cases hj : j < (xs.take k).length
  · have e : ((xs.take k).map cutP).getD j default = cutP ((xs.take k).getD j default) := by simp only [List.getD, List.getElem?_map, List.getElem?_eq_getElem hj]; rfl
    rw [e]
    have e2 : (xs.take k).getD j default = xs.getD j default := by
      rw [List.length_take] at hj
      simp only [List.getD, List.getElem?_take_of_lt (show j < k by omega)]
    rw [e2]; exact h j
  · have e : ((xs.take k).map cutP).getD j default = default := by
      simp only [List.getD]
      rw [List.getElem?_eq_none (by rw [List.length_map]; omega)]; rfl
    rw [e]; decide
abbrev fewW (k s c : Int) (A : Option Addr) (l d : Nat) (w : World) : World :=
  (w.alloc (.cells #[.int .i64 k, .int .i64 s, .int .i64 c, .slice A l d] 25)).alloc (.cells #[.int .i64 0, .int .i64 0, .int .i64 0, .slice none 0 0] 25)
theorem fewW_two (k s c : Int) (A : Option Addr) (l d : Nat) (w : World) :
    Box (fewW k s c A l d w) w.heap.size 25 #[.int .i64 k, .int .i64 s, .int .i64 c, .slice A l d] ∧ Box (fewW k s c A l d w) (w.heap.size + 1) 25 #[.int .i64 0, .int .i64 0, .int .i64 0, .slice none 0 0] ∧ Below w.heap.size w (fewW k s c A l d w) ∧ (fewW k s c A l d w).heap.size = w.heap.size + 2 := by
  refine ⟨(Box.new w _ _).alloc _, ?_, ((Below.refl _ _).alloc (Nat.le_refl _) _).alloc (by simp) _, by simp⟩
  have q := Box.new (w.alloc (.cells #[.int .i64 k, .int .i64 s, .int .i64 c, .slice A l d] 25)) 25 #[.int .i64 0, .int .i64 0, .int .i64 0, .slice none 0 0]
  simpa only [World.size_alloc] using q
theorem few_close {w wr : World} {k s c : Int} {zs : List SymR} {v : Value} {n : Nat} {A7 : Option Addr} {c7 : Nat} {e : TypeId} {u u0 u1 u2 u3 : Value} (hb : Below w.heap.size w wr) (hv : v = .slice A7 n c7) (ho : wr.ownsRow (w.heap.size + 2) e 2 v n (zs.flatMap encS)) (hl : zs.length = n) :
    StoreOne k s c zs w (.returned (.agg #[.int .i64 k, .int .i64 s, .int .i64 c, .slice A7 n c7])) (((((wr.setCell ⟨w.heap.size, 3, none⟩ u).setCell ⟨w.heap.size + 1, 0, none⟩ u0).setCell ⟨w.heap.size + 1, 1, none⟩ u1).setCell ⟨w.heap.size + 1, 2, none⟩ u2).setCell ⟨w.heap.size + 1, 3, none⟩ u3) := by
  subst hv
  subst hl
  obtain ⟨h1, h2, h3, h4⟩ := own_cap ho
  refine ⟨A7, c7, rfl, Recs.far4 (Recs.farB (own_recs encS_len ho (by omega)) (fun b off hb _ => ?_) _ _) (fun b off hb _ => ?_) _ _ _ _, h1, h2, h3, fun b off hb => ?_, below_set4 (hb.setCell (p := ⟨w.heap.size, 3, none⟩) (Nat.le_refl _) _) (by omega) _ _ _ _⟩
  · have h5 : w.heap.size + 2 ≤ b := h4 _ hb
    omega
  · have h5 : w.heap.size + 2 ≤ b := h4 _ hb
    omega
  · have h5 : w.heap.size + 2 ≤ b := h4 _ hb
    omega
theorem cutX_id (s : ByteArray) (h : s.size ≤ 66) : s = cutX s := by
  have := cutX_min s s.size (by omega)
  rw [← this, ByteArray.extract_zero_size]
theorem cut_world {wr W2 : World} {B : Nat} (hb : Below B W2 wr) (hB : B ≤ wr.heap.size) (a : Int) (t : ByteArray) :
    Below wr.heap.size wr ((wr.alloc (.cells #[.int .u64 a, .string t] 29)).alloc (.cells #[.int .u64 a, .string t] 29)) ∧
    (∀ j u, ([Value.int .u64 a, Value.string t])[j]? = some u → ((wr.alloc (.cells #[.int .u64 a, .string t] 29)).alloc (.cells #[.int .u64 a, .string t] 29)).cell? ((⟨wr.heap.size + 1, 0, none⟩ : Addr).add j) = some u) ∧
    B ≤ ((wr.alloc (.cells #[.int .u64 a, .string t] 29)).alloc (.cells #[.int .u64 a, .string t] 29)).heap.size := by
  have e1 : (wr.alloc (.cells #[.int .u64 a, .string t] 29)).heap.size = wr.heap.size + 1 := by simp
  refine ⟨((Below.refl _ _).alloc (Nat.le_refl _) _).alloc (by rw [e1]; omega) _, ?_, ?_⟩
  · have := World.news_of_block (Box.new (wr.alloc (.cells #[.int .u64 a, .string t] 29)) 29 #[.int .u64 a, .string t])
    rw [e1] at this
    exact this
  · rw [World.size_alloc, e1]; omega
end Go.Proofs.Ytcikoaeiopbbbaa
