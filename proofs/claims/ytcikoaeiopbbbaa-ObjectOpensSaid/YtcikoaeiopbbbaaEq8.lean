/- Contracts of layer 12: the reference's Add, Bytes. -/
import Derived.Test.YtcikoaeiopbbbaaEq7
namespace Go.Proofs.Ytcikoaeiopbbbaa
set_option linter.unusedVariables false
set_option linter.unusedSimpArgs false
open Go.RowKit
set_option maxRecDepth 100000
theorem Syms.news1 {w : World} {A : Option Addr} {l : Nat} {xs : List SymR} (h : Syms w A l xs) : ∀ ad, A = some ad → ∀ j u, (xs.flatMap encS)[j]? = some u → w.cell? (ad.add j) = some u := Recs.news h encS_len (by omega)
/-- A store is returned. -/
def StoreOne (k s c : Int) (xs : List SymR) (w : World) (e : Ending) (w' : World) : Prop :=
  ∃ A d, e = .returned (.agg #[.int .i64 k, .int .i64 s, .int .i64 c, .slice A xs.length d]) ∧ Syms w' A xs.length xs ∧ xs.length ≤ d ∧ d ≤ maxLen ∧ (A = none → d = 0) ∧ (∀ b off, A = some ⟨b, off, none⟩ → w.heap.size ≤ b) ∧ Below w.heap.size w w'
abbrev raW (k s c : Int) (A : Option Addr) (l d : Nat) (x : SymR) (w : World) : World :=
  (addW3 k s c A l d x w).alloc (.cells #[.int .i64 k, .int .i64 s, .int .i64 c, .slice none 0 0] 25)
theorem raW_four (k s c : Int) (A : Option Addr) (l d : Nat) (x : SymR) (w : World) :
    Box (raW k s c A l d x w) w.heap.size 25 #[.int .i64 k, .int .i64 s, .int .i64 c, .slice A l d] ∧ Box (raW k s c A l d x w) (w.heap.size + 1) 29 #[.int .u64 (x.1 : Int), .string x.2] ∧ Box (raW k s c A l d x w) (w.heap.size + 2) 25 #[.int .i64 0, .int .i64 0, .int .i64 0, .slice none 0 0] ∧ Box (raW k s c A l d x w) (w.heap.size + 3) 25 #[.int .i64 k, .int .i64 s, .int .i64 c, .slice none 0 0] ∧ Below w.heap.size w (raW k s c A l d x w) := by
  refine ⟨?_, ?_, ?_, ?_, ?_⟩
  · exact (((Box.new w _ _).alloc _).alloc _).alloc _
  · have q := ((Box.new (w.alloc (.cells #[.int .i64 k, .int .i64 s, .int .i64 c, .slice A l d] 25)) 29 #[.int .u64 (x.1 : Int), .string x.2]).alloc (.cells #[.int .i64 0, .int .i64 0, .int .i64 0, .slice none 0 0] 25)).alloc (.cells #[.int .i64 k, .int .i64 s, .int .i64 c, .slice none 0 0] 25)
    simpa only [World.size_alloc] using q
  · have q := (Box.new ((w.alloc (.cells #[.int .i64 k, .int .i64 s, .int .i64 c, .slice A l d] 25)).alloc (.cells #[.int .u64 (x.1 : Int), .string x.2] 29)) 25 #[.int .i64 0, .int .i64 0, .int .i64 0, .slice none 0 0]).alloc (.cells #[.int .i64 k, .int .i64 s, .int .i64 c, .slice none 0 0] 25)
    simpa only [World.size_alloc] using q
  · have q := Box.new (addW3 k s c A l d x w) 25 #[.int .i64 k, .int .i64 s, .int .i64 c, .slice none 0 0]
    simpa only [World.size_alloc] using q
  · exact ((((Below.refl _ _).alloc (Nat.le_refl _) _).alloc (by simp) _).alloc (by simp; omega) _).alloc (by simp; omega) _
theorem raW_size (k s c : Int) (A : Option Addr) (l d : Nat) (x : SymR) (w : World) : (raW k s c A l d x w).heap.size = w.heap.size + 4 := by simp
theorem own_row_ne {w : World} {base e size n g : Nat} {v : Value} {xs : List Value} (h : w.ownsRow base e size v n xs) (hg : g < base) : v.ownBlock ≠ some g := fun e => absurd (h.lt g e).1 (by omega)
theorem own_row_le {w : World} {base e size n : Nat} {v : Value} {xs : List Value} (h : w.ownsRow (base + 4) e size v n xs) : ∀ k, v.ownBlock = some k → base ≤ k := fun k hk => by have := (h.lt k hk).1; omega
theorem own_out {w5 : World} {g n c5 : Nat} {A5 : Option Addr} {xs : List SymR} {y : SymR} {e : TypeId} (h : w5.ownsRow (g + 4) e 2 (.slice A5 n c5) n (xs.flatMap encS ++ encS y)) :
    Syms w5 A5 n (xs ++ [y]) ∧ n ≤ c5 ∧ c5 ≤ maxLen ∧ (A5 = none → c5 = 0) ∧ ∀ b off, A5 = some ⟨b, off, none⟩ → g + 4 ≤ b := by
  obtain ⟨h1, h2, h3, h4⟩ := own_cap h
  rw [← flat_snoc] at h
  exact ⟨own_recs encS_len h (by omega), h1, h2, h3, fun b off hb => h4 _ hb⟩
theorem second_append {w w5 : World} {A5 : Option Addr} {l c5 : Nat} {cs1 cs2 cs3 : Array Value} {T1 T2 T3 e : TypeId} {xs : List SymR} {x : SymR} (hz : w.heap.size + 4 ≤ w5.heap.size) (hb : Below w.heap.size w w5) (p1 : Box w5 (w.heap.size + 1) T1 cs1) (p2 : Box w5 (w.heap.size + 2) T2 cs2) (p3 : Box w5 (w.heap.size + 3) T3 cs3)
    (ho : w5.ownsRow (w.heap.size + 4) e 2 (.slice A5 l c5) l (xs.flatMap encS)) (hne : e ≠ T3) :
    ((w5.setCell ⟨w.heap.size + 3, 3, none⟩ (.slice A5 l c5)).alloc (.cells #[.int .u64 (x.1 : Int), .string x.2] 29)).ownsRow (w.heap.size + 4) e 2 (.slice A5 l c5) l (xs.flatMap encS) ∧
    (∀ j u, (encS x)[j]? = some u → ((w5.setCell ⟨w.heap.size + 3, 3, none⟩ (.slice A5 l c5)).alloc (.cells #[.int .u64 (x.1 : Int), .string x.2] 29)).cell? ((⟨w5.heap.size, 0, none⟩ : Addr).add j) = some u) ∧
    w.heap.size + 4 ≤ ((w5.setCell ⟨w.heap.size + 3, 3, none⟩ (.slice A5 l c5)).alloc (.cells #[.int .u64 (x.1 : Int), .string x.2] 29)).heap.size ∧
    Box ((w5.setCell ⟨w.heap.size + 3, 3, none⟩ (.slice A5 l c5)).alloc (.cells #[.int .u64 (x.1 : Int), .string x.2] 29)) (w.heap.size + 2) T2 cs2 ∧
    Box ((w5.setCell ⟨w.heap.size + 3, 3, none⟩ (.slice A5 l c5)).alloc (.cells #[.int .u64 (x.1 : Int), .string x.2] 29)) (w.heap.size + 3) T3 (cs3.setIfInBounds 3 (.slice A5 l c5)) ∧
    Below w.heap.size w ((w5.setCell ⟨w.heap.size + 3, 3, none⟩ (.slice A5 l c5)).alloc (.cells #[.int .u64 (x.1 : Int), .string x.2] 29)) := by
  have e1 : (w5.setCell ⟨w.heap.size + 3, 3, none⟩ (.slice A5 l c5)).heap.size = w5.heap.size := by simp [World.setCell]
  refine ⟨World.ownsRow.alloc (own_far ho p3 hne 3 _) _, ?_, ?_, (p2.far (p := ⟨w.heap.size + 3, 3, none⟩) (by simp) _).alloc _, (p3.put 3 _).alloc _, ?_⟩
  · have := World.news_of_block (Box.new (w5.setCell ⟨w.heap.size + 3, 3, none⟩ (.slice A5 l c5)) 29 #[.int .u64 (x.1 : Int), .string x.2])
    rw [e1] at this
    exact this
  · rw [World.size_alloc, e1]; omega
  · refine (hb.setCell (p := ⟨w.heap.size + 3, 3, none⟩) (by show w.heap.size ≤ w.heap.size + 3; omega) _).alloc ?_ _
    rw [e1]; omega
theorem add_close1 {w w7 : World} {l c7 : Nat} {A7 : Option Addr} {k s c : Int} {xs : List SymR} {x : SymR} {u0 u1 u2 u3 u : Value} (hb : Below w.heap.size w w7) (h : Syms w7 A7 (l + 1) (xs ++ [x]) ∧ l + 1 ≤ c7 ∧ c7 ≤ maxLen ∧ (A7 = none → c7 = 0) ∧ ∀ b off, A7 = some ⟨b, off, none⟩ → w.heap.size + 4 ≤ b) (hl : xs.length = l) :
    StoreOne k s c (xs ++ [x]) w (.returned (.agg #[.int .i64 k, .int .i64 s, .int .i64 c, .slice A7 (l + 1) c7])) (((((w7.setCell ⟨w.heap.size + 3, 3, none⟩ u).setCell ⟨w.heap.size + 2, 0, none⟩ u0).setCell ⟨w.heap.size + 2, 1, none⟩ u1).setCell ⟨w.heap.size + 2, 2, none⟩ u2).setCell ⟨w.heap.size + 2, 3, none⟩ u3) := by
  have e : (xs ++ [x]).length = l + 1 := by rw [List.length_append, hl]; rfl
  unfold StoreOne
  rw [e]
  refine ⟨A7, c7, rfl, Recs.far4 (Recs.farB h.1 (fun b off hb _ => ?_) _ _) (fun b off hb _ => ?_) _ _ _ _, h.2.1, h.2.2.1, h.2.2.2.1, fun b off hb => by (have := h.2.2.2.2 b off hb; omega), below_set4 (hb.setCell (p := ⟨w.heap.size + 3, 3, none⟩) (by show w.heap.size ≤ w.heap.size + 3; omega) _) (by omega) _ _ _ _⟩
  · have := h.2.2.2.2 b off hb; omega
  · have := h.2.2.2.2 b off hb; omega
end Go.Proofs.Ytcikoaeiopbbbaa
