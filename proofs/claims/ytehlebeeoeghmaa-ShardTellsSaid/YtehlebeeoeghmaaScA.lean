/- Layer 20: systems as data, and in memory; what may be. -/
import Derived.Test.YtehlebeeoeghmaaRec
import Derived.Test.YtehlebeeoeghmaaOpenT
import Derived.Test.YtehlebeeoeghmaaSetL
import Derived.Test.YtehlebeeoeghmaaRefNums
import Derived.Deep.Slices
import Derived.Shelf.Abstract
import Derived.Deep.RegionHeld3
import Derived.Deep.Cut
import Derived.Deep.DeepCutAuto
import Derived.Deep.RegionLaw
namespace Go.Proofs.Ytehlebeeoeghmaa
set_option linter.unusedVariables false
set_option linter.unusedSimpArgs false
open Go.RowKit
set_option maxRecDepth 100000
/-- An instruction: its kind, its name, its number. -/
abbrev InR := Int × Int × Int
def encIn (x : InR) : List Value := [.int .i64 x.1, .int .i64 x.2.1, .int .i64 x.2.2]
theorem encIn_len (x : InR) : (encIn x).length = 3 := rfl
theorem encIn_one (x : InR) : ∀ u ∈ encIn x, u.oneCell' = true := by
  intro u hu
  simp [encIn] at hu
  rcases hu with rfl | rfl | rfl <;> rfl
abbrev Inss (w : World) (A : Option Addr) (l : Nat) (xs : List InR) : Prop := Recs encIn 3 w A l xs
/-- Rows of rows. -/
def RRow {α : Type} (P : World → Option Addr → Nat → List α → Prop) (w : World) (A : Option Addr) (len : Nat) (xss : List (List α)) : Prop :=
  xss.length = len ∧ (0 < len → ∃ b off, A = some ⟨b, off, none⟩ ∧ b < w.heap.size ∧ ∀ j, j < len → ∃ B l c, w.cell? ⟨b, off + j, none⟩ = some (.slice B l c) ∧ SliceOk B l c ∧ P w B l (xss.getD j []))
theorem RRow.below {α : Type} {P : World → Option Addr → Nat → List α → Prop} (hP : ∀ w w' A l xs, P w A l xs → Below w.heap.size w w' → P w' A l xs) {w w' : World} {A : Option Addr} {len : Nat} {xss : List (List α)} (h : RRow P w A len xss) (hb : Below w.heap.size w w') : RRow P w' A len xss := by
  refine ⟨h.1, fun hp => ?_⟩
  obtain ⟨b, off, rfl, hlt, hc⟩ := h.2 hp
  refine ⟨b, off, rfl, Nat.lt_of_lt_of_le hlt hb.size, fun j hj => ?_⟩
  obtain ⟨B, l, c, h1, h2, h3⟩ := hc j hj
  exact ⟨B, l, c, (hb.cell (p := ⟨b, off + j, none⟩) hlt).trans h1, h2, hP _ _ _ _ _ h3 hb⟩
theorem RRow.at {α : Type} {P : World → Option Addr → Nat → List α → Prop} {w : World} {A : Option Addr} {len : Nat} {xss : List (List α)} (h : RRow P w A len xss) (j : Nat) (hj : j < len) : ∃ b off B l c, A = some ⟨b, off, none⟩ ∧ b < w.heap.size ∧ w.cell? ⟨b, off + j, none⟩ = some (.slice B l c) ∧ SliceOk B l c ∧ P w B l (xss.getD j []) := by
  obtain ⟨b, off, rfl, hlt, hc⟩ := h.2 (by omega)
  obtain ⟨B, l, c, h1, h2, h3⟩ := hc j hj
  exact ⟨b, off, B, l, c, rfl, hlt, h1, h2, h3⟩
theorem RRow.nil {α : Type} {P : World → Option Addr → Nat → List α → Prop} (w : World) (A : Option Addr) : RRow P w A 0 [] := ⟨rfl, fun h => by omega⟩
abbrev Thr (w : World) (A : Option Addr) (l : Nat) (ts : List (List InR)) : Prop := RRow Inss w A l ts
abbrev Chs (w : World) (A : Option Addr) (l : Nat) (cs : List (List Int)) : Prop := RRow Ints w A l cs
theorem Thr.below {w w' : World} {A : Option Addr} {l : Nat} {ts : List (List InR)} (h : Thr w A l ts) (hb : Below w.heap.size w w') : Thr w' A l ts := RRow.below (P := Inss) (fun _ _ _ _ _ h hb => Recs.below h hb) h hb
theorem Chs.below {w w' : World} {A : Option Addr} {l : Nat} {ts : List (List Int)} (h : Chs w A l ts) (hb : Below w.heap.size w w') : Chs w' A l ts := RRow.below (P := Ints) (fun _ _ _ _ _ h hb => h.below hb) h hb
/-- A system. -/
structure Sys where
  th : List (List InR)
  pc : List Int
  su : List Int
  lo : List Int
  ce : List Int
  ch : List (List Int)
abbrev sysA (A0 : Option Addr) (l0 c0 : Nat) (A1 : Option Addr) (l1 c1 : Nat) (A2 : Option Addr) (l2 c2 : Nat) (A3 : Option Addr) (l3 c3 : Nat) (A4 : Option Addr) (l4 c4 : Nat) (A5 : Option Addr) (l5 c5 : Nat) : Array Value := #[.slice A0 l0 c0, .slice A1 l1 c1, .slice A2 l2 c2, .slice A3 l3 c3, .slice A4 l4 c4, .slice A5 l5 c5]
/-- A system in memory. -/
def SysAt (w : World) (v : Value) (s : Sys) : Prop :=
  ∃ A0 l0 c0 A1 l1 c1 A2 l2 c2 A3 l3 c3 A4 l4 c4 A5 l5 c5, v = .agg #[.slice A0 l0 c0, .slice A1 l1 c1, .slice A2 l2 c2, .slice A3 l3 c3, .slice A4 l4 c4, .slice A5 l5 c5] ∧
    SliceOk A0 l0 c0 ∧ SliceOk A1 l1 c1 ∧ SliceOk A2 l2 c2 ∧ SliceOk A3 l3 c3 ∧ SliceOk A4 l4 c4 ∧ SliceOk A5 l5 c5 ∧
    Thr w A0 l0 s.th ∧ Ints w A1 l1 s.pc ∧ Ints w A2 l2 s.su ∧ Ints w A3 l3 s.lo ∧ Ints w A4 l4 s.ce ∧ Chs w A5 l5 s.ch
theorem SysAt.below {w w' : World} {v : Value} {s : Sys} (h : SysAt w v s) (hb : Below w.heap.size w w') : SysAt w' v s := by
  obtain ⟨A0, l0, c0, A1, l1, c1, A2, l2, c2, A3, l3, c3, A4, l4, c4, A5, l5, c5, rfl, s0, s1, s2, s3, s4, s5, h0, h1, h2, h3, h4, h5⟩ := h
  exact ⟨A0, l0, c0, A1, l1, c1, A2, l2, c2, A3, l3, c3, A4, l4, c4, A5, l5, c5, rfl, s0, s1, s2, s3, s4, s5, Thr.below h0 hb, h1.below hb, h2.below hb, h3.below hb, h4.below hb, Chs.below h5 hb⟩
theorem Box.six {w : World} {g : Nat} {t : TypeId} {a b c d e f : Value} (h : Box w g t #[a, b, c, d, e, f]) : w.cell? ⟨g, 0, none⟩ = some a ∧ w.cell? ⟨g, 1, none⟩ = some b ∧ w.cell? ⟨g, 2, none⟩ = some c ∧ w.cell? ⟨g, 3, none⟩ = some d ∧ w.cell? ⟨g, 4, none⟩ = some e ∧ w.cell? ⟨g, 5, none⟩ = some f := ⟨h.cell 0, h.cell 1, h.cell 2, h.cell 3, h.cell 4, h.cell 5⟩
/-! What may be. -/
def inB (x : InR) : Bool := decide (0 ≤ x.1 ∧ x.1 ≤ 4) && decide (0 ≤ x.2.1 ∧ x.2.1 ≤ 3) && decide (-1000 ≤ x.2.2 ∧ x.2.2 ≤ 1000)
def smB (x : Int) : Bool := decide (-1073741824 < x ∧ x < 1073741824)
def smL (l : List Int) : Bool := l.all smB
def thr1B (l : List InR) (a : Int) : Bool := decide (l.length ≤ 16) && decide (0 ≤ a ∧ a ≤ (l.length : Int)) && l.all inB
def thrB (s : Sys) : Bool := (List.range s.th.length).all fun j => thr1B (s.th.getD j []) (s.pc.getD j 0)
def shapeB (s : Sys) : Bool := decide (s.th.length ≤ 8) && decide (s.pc.length = s.th.length) && decide (s.su.length = s.th.length) && decide (s.lo.length = 4) && decide (s.ce.length = 4) && decide (s.ch.length = 4)
def loB (n : Nat) (l : List Int) : Bool := l.all fun x => decide (-1 ≤ x ∧ x ≤ (n : Int) - 1)
def ch1B (l : List Int) : Bool := decide (l.length ≤ 2) && smL l
def chB (l : List (List Int)) : Bool := l.all ch1B
def rightS (s : Sys) : Bool := shapeB s && thrB s && (loB s.th.length s.lo && chB s.ch && smL s.su && smL s.ce)
theorem all_take_snoc {α : Type} [Inhabited α] (p : α → Bool) (l : List α) (k : Nat) (h : k < l.length) : (l.take (k + 1)).all p = ((l.take k).all p && p (l.getD k default)) := by
  rw [take_snocD l k h, List.all_append]; simp
theorem all_no {α : Type} [Inhabited α] (p : α → Bool) (l : List α) (k : Nat) (h : k < l.length) (hp : p (l.getD k default) = false) : l.all p = false := by
  rw [List.all_eq_false]
  refine ⟨l[k], List.getElem_mem _, ?_⟩
  have : l.getD k default = l[k] := by simp [List.getD, h]
  rw [← this, hp]; decide
theorem all_range_snoc (p : Nat → Bool) (k : Nat) : (List.range (k + 1)).all p = ((List.range k).all p && p k) := by
  rw [List.range_succ, List.all_append]; simp
theorem all_range_no (p : Nat → Bool) (n k : Nat) (h : k < n) (hp : p k = false) : (List.range n).all p = false := by
  rw [List.all_eq_false]
  exact ⟨k, List.mem_range.2 h, by rw [hp]; decide⟩
/-! The program's own. -/
end Go.Proofs.Ytehlebeeoeghmaa
