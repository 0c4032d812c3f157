/- Contracts of layer 12: within, when, allHave, has, twice, first. -/
import Derived.Test.YtehlebeeoeghmaaRows
import Derived.Test.YtehlebeeoeghmaaWords
import Derived.Test.YtehlebeeoeghmaaRec
import Derived.Deep.QuietTactic
import Derived.BigQuiet
import Derived.RegionTactic
import Derived.Shelf.Abstract
import Derived.Deep.RegionHeld3
import Derived.OpenShut
namespace Go.Proofs.Ytehlebeeoeghmaa
set_option linter.unusedVariables false
set_option linter.unusedSimpArgs false
open Go.RowKit
set_option maxRecDepth 100000
abbrev SymR := Nat × ByteArray
def encS (r : SymR) : List Value := [.int .u64 (r.1 : Int), .string r.2]
theorem encS_len (r : SymR) : (encS r).length = 2 := rfl
theorem encS_one (r : SymR) : ∀ u ∈ encS r, u.oneCell' = true := by intro u hu; simp [encS] at hu; rcases hu with rfl | rfl <;> rfl
abbrev Syms (w : World) (A : Option Addr) (l : Nat) (xs : List SymR) : Prop := Recs encS 2 w A l xs
theorem Syms.two {w : World} {A : Option Addr} {l : Nat} {xs : List SymR} (h : Syms w A l xs) (j : Nat) (hj : j < l) : ∃ b off, A = some ⟨b, off, none⟩ ∧ b < w.heap.size ∧ w.cell? ⟨b, off + j * 2, none⟩ = some (.int .u64 ((xs.getD j default).1 : Nat)) ∧ w.cell? ⟨b, off + j * 2 + 1, none⟩ = some (.string (xs.getD j default).2) := by
  obtain ⟨b, off, hA, hb, hc⟩ := h.at j hj
  exact ⟨b, off, hA, hb, hc 0 _ rfl, hc 1 _ rfl⟩
def hasI (xs : List SymR) (id : Nat) : Bool := xs.any fun x => x.1 == id
def allB (s : Int) (xs : List SymR) : Bool := xs.all fun x => (x.2.size : Int) == s
def twiceB (xs : List SymR) : Bool := (List.range xs.length).any fun i => hasI (xs.take i) (xs.getD i default).1
theorem hasI_snoc (xs : List SymR) (id k : Nat) (h : k < xs.length) : hasI (xs.take (k + 1)) id = (hasI (xs.take k) id || (xs.getD k default).1 == id) := by
  rw [take_snocD xs k h]; simp [hasI]
theorem allB_snoc (s : Int) (xs : List SymR) (k : Nat) (h : k < xs.length) : allB s (xs.take (k + 1)) = (allB s (xs.take k) && ((xs.getD k default).2.size : Int) == s) := by
  rw [take_snocD xs k h]; simp [allB]
theorem hasI_up (xs : List SymR) (id k : Nat) (h : hasI (xs.take k) id = true) : hasI xs id = true := by
  unfold hasI at *
  simp only [List.any_eq_true] at *
  obtain ⟨x, hx, hi⟩ := h
  exact ⟨x, List.mem_of_mem_take hx, hi⟩
theorem allB_up (s : Int) (xs : List SymR) (k : Nat) (h : allB s (xs.take k) = false) : allB s xs = false := by
  rw [Bool.eq_false_iff] at *
  intro h2
  refine h ?_
  unfold allB at *
  simp only [List.all_eq_true] at *
  exact fun x hx => h2 x (List.mem_of_mem_take hx)
def whenI (b : Bool) (e : Int) : Int := if b then e else 0
/-- Where an id is first. -/
def idxI (xs : List SymR) (id : Nat) (i : Int) : Prop := if hasI xs id then 0 ≤ i else i = -1
theorem twice_snoc (xs : List SymR) (k : Nat) (h : k < xs.length) : (List.range (k + 1)).any (fun i => hasI (xs.take i) (xs.getD i default).1) = ((List.range k).any (fun i => hasI (xs.take i) (xs.getD i default).1) || hasI (xs.take k) (xs.getD k default).1) := by
  rw [List.range_succ]; simp
theorem twice_up (xs : List SymR) (k : Nat) (hk : k < xs.length) (h : hasI (xs.take k) (xs.getD k default).1 = true) : twiceB xs = true := by
  unfold twiceB
  rw [List.any_eq_true]
  exact ⟨k, List.mem_range.2 hk, h⟩
/-- What is told first. -/
def firstI : List Int → Int
  | [] => 0
  | a :: t => if a = 0 then firstI t else a
theorem firstI_at (ans : List Int) (k : Nat) (h : k < ans.length) (h0 : ∀ i, i < k → ans.getD i 0 = 0) (hk : ans.getD k 0 ≠ 0) : firstI ans = ans.getD k 0 := by
  induction ans generalizing k with
  | nil => cases h
  | cons a t ih =>
    cases k with
    | zero => unfold firstI; rw [if_neg (by simpa using hk)]; rfl
    | succ k =>
      have ha : a = 0 := h0 0 (by omega)
      unfold firstI
      rw [if_pos ha, ih k (by simpa using h) (fun i hi => h0 (i + 1) (by omega)) (by simpa using hk)]; rfl
theorem firstI_none (ans : List Int) (h0 : ∀ i, i < ans.length → ans.getD i 0 = 0) : firstI ans = 0 := by
  induction ans with
  | nil => rfl
  | cons a t ih =>
    have ha : a = 0 := h0 0 (by simp)
    unfold firstI
    rw [if_pos ha, ih (fun i hi => h0 (i + 1) (by simpa using hi))]
/-- What first asks of those that it asks. -/
structure AskedOf (P : Program) (w : World) (b off : Nat) (fs : Nat → Nat × Array Value) (ans : List Int) : Prop where
  lt : b < w.heap.size
  cell : ∀ j, j < ans.length → w.cell? ⟨b, off + j, none⟩ = some (.func (.func (fs j).1) #[] (fs j).2)
  enters : ∀ j, j < ans.length → ∀ args w, (callFunc (fs j).1 args).run P w = .ok (.enter (fs j).1 args) w
  tells : ∀ j, j < ans.length → ∀ w', Below w.heap.size w w' → (∀ i, i < j → ans.getD i 0 = 0) → Calls P (fs j).1 (fs j).2 w' fun e w'' => e = .returned (.int .i64 (ans.getD j 0)) ∧ Below w'.heap.size w' w''
end Go.Proofs.Ytehlebeeoeghmaa
