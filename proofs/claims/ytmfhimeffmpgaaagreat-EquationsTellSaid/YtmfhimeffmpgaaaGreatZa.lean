/- Parts: Words, AppO, Rec, Eq1, Bitrow1, Few, OpenV, EqO, Eq2, Eq3. -/
import Derived.ArgAppend
import Derived.BigQuiet
import Derived.Deep.AppendLies
import Derived.Deep.Draws
import Derived.Deep.QuietTactic
import Derived.Deep.RegionHeld3
import Derived.Deep.RegionLaw
import Derived.Deep.SlicePairs
import Derived.Lib.Hide
import Derived.Lib.SmallJoins
import Derived.OpenShut
import Derived.Outline
import Derived.ProofKit
import Derived.RegionTactic
import Derived.Shelf.Abstract
import Derived.ShutString
import Derived.Test.YtmfhimeffmpgaaaGreatRows
import Derived.WalkKit
namespace Go.Proofs.YtmfhimeffmpgaaaGreat
section
/- Rows of 64-bit words in memory: what a slice of words reads, kept while old memory is kept. No program. -/
set_option linter.unusedVariables false
set_option linter.unusedSimpArgs false
open Go.RowKit
/-- The slice at A of len words reads ws, in blocks that are there. -/
def Words (w : World) (A : Option Addr) (len : Nat) (ws : List Nat) : Prop :=
  ws.length = len ∧ (∀ j, ws.getD j 0 < 18446744073709551616) ∧
    (0 < len → ∃ b off, A = some ⟨b, off, none⟩ ∧ b < w.heap.size ∧ ∀ j, j < len → w.cell? ⟨b, off + j, none⟩ = some (.int .u64 (ws.getD j 0 : Nat)))
theorem Words.below {w w' : World} {A : Option Addr} {len : Nat} {ws : List Nat} (h : Words w A len ws) (hb : Below w.heap.size w w') : Words w' A len ws := by
  refine ⟨h.1, h.2.1, fun hp => ?_⟩
  obtain ⟨b, off, rfl, hlt, hc⟩ := h.2.2 hp
  exact ⟨b, off, rfl, Nat.lt_of_lt_of_le hlt hb.size, fun j hj => (hb.cell (p := ⟨b, off + j, none⟩) hlt).trans (hc j hj)⟩
theorem Words.nil (w : World) (A : Option Addr) : Words w A 0 [] := ⟨rfl, by simp, fun h => by omega⟩
theorem Words.take {w : World} {A : Option Addr} {len : Nat} {ws : List Nat} (h : Words w A len ws) (k : Nat) (hk : k ≤ len) : Words w A k (ws.take k) := by
  refine ⟨by simp [h.1]; omega, fun j => ?_, fun hp => ?_⟩
  · by_cases hj : j < k
    · have := h.2.1 j
      simpa [List.getD, List.getElem?_take, hj] using this
    · simp [List.getD, List.getElem?_take, hj]
  · obtain ⟨b, off, rfl, hlt, hc⟩ := h.2.2 (by omega)
    refine ⟨b, off, rfl, hlt, fun j hj => ?_⟩
    rw [hc j (by omega)]
    simp [List.getD, List.getElem?_take, hj]
theorem Words.drew {w : World} {A : Option Addr} {len : Nat} {ws : List Nat} (h : Words w A len ws) : Words w.drew A len ws := h
theorem Words.alloc {w : World} {A : Option Addr} {len : Nat} {ws : List Nat} (h : Words w A len ws) (o : Obj) : Words (w.alloc o) A len ws :=
  h.below ((Below.refl _ _).alloc (Nat.le_refl _) _)
theorem Words.mono {w w' : World} {A : Option Addr} {len : Nat} {ws : List Nat} (h : Words w A len ws) {B : Nat} (hB : w.heap.size ≤ B) (hb : Below B w w') : Words w' A len ws :=
  h.below (hb.mono hB)
theorem bdN {B : Nat} {a w : World} (h : Below B a w) (n : Nat) : Below B a (w.drewN n) := ⟨h.os, h.tape, h.output, h.size, h.block⟩
/-- A chain of worlds that keep all that was there. -/
theorem chain {w w1 w2 : World} (h : Below w.heap.size w w1) (h2 : Below w1.heap.size w1 w2) : Below w.heap.size w w2 := h.trans (h2.mono h.size)
/-- A block that is known whole, and not frozen. -/
def Box (w : World) (g : Nat) (t : TypeId) (cs : Array Value) : Prop := w.heap[g]? = some (.cells cs t (0, 0))
section
variable {w w' : World} {g : Nat} {t : TypeId} {cs : Array Value}
theorem Box.lt (h : Box w g t cs) : g < w.heap.size := by
  rcases Nat.lt_or_ge g w.heap.size with hl | hg
  · exact hl
  · unfold Box at h; rw [Array.getElem?_eq_none hg] at h; cases h
theorem Box.cell (h : Box w g t cs) (i : Nat) : w.cell? ⟨g, i, none⟩ = cs[i]? := cell_of_row w g i cs t (0, 0) h
theorem Box.free (h : Box w g t cs) (i : Nat) : w.frozen? ⟨g, i, none⟩ = false := frozen_of_row w g i cs t h
theorem Box.new (w : World) (t : TypeId) (cs : Array Value) : Box (w.alloc (.cells cs t)) w.heap.size t cs := heap_alloc_new w _
theorem Box.alloc (h : Box w g t cs) (o : Obj) : Box (w.alloc o) g t cs := (Below.heap_alloc w o g h.lt).trans h
theorem Box.drew (h : Box w g t cs) : Box w.drew g t cs := h
theorem Box.drewN (h : Box w g t cs) (n : Nat) : Box (w.drewN n) g t cs := h
theorem Box.below {B : Nat} (h : Box w g t cs) (hb : Below B w w') (hg : g < B) : Box w' g t cs := (hb.block g hg).trans h
theorem Box.keep (h : Box w g t cs) (hb : Below w.heap.size w w') : Box w' g t cs := h.below hb h.lt
theorem Box.far (h : Box w g t cs) {p : Addr} (hp : g ≠ p.block) (u : Value) : Box (w.setCell p u) g t cs := (heap_setCell_other w p g u hp).trans h
theorem Box.put (h : Box w g t cs) (i : Nat) (u : Value) : Box (w.setCell ⟨g, i, none⟩ u) g t (cs.setIfInBounds i u) := heap_setCell_same w g i cs t u h
theorem Box.two {a b : Value} (h : Box w g t #[a, b]) : w.cell? ⟨g, 0, none⟩ = some a ∧ w.cell? ⟨g, 1, none⟩ = some b ∧ w.frozen? ⟨g, 0, none⟩ = false ∧ w.frozen? ⟨g, 1, none⟩ = false :=
  ⟨h.cell 0, h.cell 1, h.free 0, h.free 1⟩
/-- Both cells of a box stored anew. -/
theorem Box.put2 {a b u v : Value} (h : Box w g t #[a, b]) : Box ((w.setCell ⟨g, 0, none⟩ u).setCell ⟨g, 1, none⟩ v) g t #[u, v] := (h.put 0 u).put 1 v
end
/-- Numbers as cells. -/
def numsA (zs : List Nat) : Array Value := (zs.map fun (x : Nat) => Value.int .u64 (x : Int)).toArray
theorem numsA_get (zs : List Nat) (j : Nat) (h : j < zs.length) : (numsA zs)[j]? = some (.int .u64 (zs.getD j 0 : Nat)) := by
  simp [numsA, List.getD, h]
theorem numsA_set (zs : List Nat) (k x : Nat) : (numsA zs).setIfInBounds k (.int .u64 (x : Int)) = numsA (zs.set k x) := by
  simp [numsA, List.map_set]
theorem numsA_zero (n : Nat) : Array.replicate n (Value.int .u64 0) = numsA (List.replicate n 0) := by
  simp [numsA]
theorem Box.words {w : World} {g : Nat} {t : TypeId} {zs : List Nat} (h : Box w g t (numsA zs)) (hz : ∀ j, zs.getD j 0 < 18446744073709551616) : Words w (some ⟨g, 0, none⟩) zs.length zs :=
  ⟨rfl, hz, fun _ => ⟨g, 0, rfl, h.lt, fun j hj => by rw [Nat.zero_add, h.cell j, numsA_get zs j hj]⟩⟩
theorem make_words {P : Program} (t e : TypeId) (i : TypeInfo) (ht : P.underlying t = some (.slice e)) (hi : P.info? e = some i) (hz : i.zero = some (.int .u64 0)) (hs : i.size = 1) (hb : i.bytes = 8) (n : Nat) (hn : n ≤ 1000000) (w : World) :
    (Instr.makeSlice t (.int .i64 (n : Int)) (.int .i64 (n : Int))).run P w = .ok (.slice (some ⟨w.heap.size, 0, none⟩) n n) (w.alloc (.cells (numsA (List.replicate n 0)) e)) := by
  have hr := run_make (P := P) w t e i _ ht hi hz .i64 .i64 n n (by omega) (by omega) (by rw [hb]; omega) (by omega)
  simp only [Int.toNat_natCast, hs, Nat.mul_one] at hr
  rw [hr, ← numsA_zero]
  have : madeCells (Value.int .u64 0).cells n = Array.replicate n (Value.int .u64 0) := by
    apply Array.toList_inj.1
    have := toList_madeCells_one (Value.int .u64 0) n
    simpa [Value.cells] using this
  rw [this]
/-- Words lie in no box of a row. -/
theorem Words.off {w : World} {A : Option Addr} {len : Nat} {ws : List Nat} {g : Nat} {t : TypeId} {x : Int} {S : Option Addr} {p q : Nat} (h : Words w A len ws) (hb : Box w g t #[.int .i64 x, .slice S p q]) (b off : Nat) (hA : A = some ⟨b, off, none⟩) (hl : 0 < len) : b ≠ g := by
  intro e
  obtain ⟨b', off', hA', _, hc⟩ := h.2.2 hl
  rw [hA] at hA'
  injection hA' with hA'
  injection hA' with e1 e2
  subst e1 e2 e
  have c := hc 0 hl
  rw [hb.cell] at c
  match off, c with
  | 0, c => simp at c
  | 1, c => simp at c
  | k + 2, c => simp at c
theorem Words.put2 {w : World} {A : Option Addr} {len : Nat} {ws : List Nat} {g : Nat} {t : TypeId} {x : Int} {S : Option Addr} {p q : Nat} (h : Words w A len ws) (hb : Box w g t #[.int .i64 x, .slice S p q]) (u v : Value) :
    Words ((w.setCell ⟨g, 0, none⟩ u).setCell ⟨g, 1, none⟩ v) A len ws := by
  refine ⟨h.1, h.2.1, fun hp => ?_⟩
  obtain ⟨b, off, rfl, hlt, hc⟩ := h.2.2 hp
  have hne := h.off hb b off rfl hp
  refine ⟨b, off, rfl, by simpa [World.setCell] using hlt, fun j hj => ?_⟩
  rw [World.cell?_setCell_other _ _ _ _ (by intro e; injection e; omega), World.cell?_setCell_other _ _ _ _ (by intro e; injection e; omega)]
  exact hc j hj
/-- A return of a struct in a cell and a plain value. -/
theorem close_cell {P : Program} {fn : Func} {R : Ending → World → Prop} {a : Act} {W : World} {p q : Tmp} {T : TypeId} {g : Nat} {cs : Array Value} {d : TypeDesc} {v : Value} (hr : fn.results = #[.cell p T, .tmp q])
    (hp : a.tmps.getD p undef = .pointer (some ⟨g, 0, none⟩)) (hq : a.tmps.getD q undef = v) (hd : a.defers = []) (hbox : Box W g T cs) (hu : P.underlying T = some d)
    (hk : (match d with | .struct _ | .array _ _ => true | _ => false) = true) (hi : (P.info? T).map (·.size) = some cs.size)
    (hR : R (.returned (.tuple #[.agg cs, v])) W) : bodyPost P fn R .ret a W := by
  subst hq
  refine bodyPost_ret ?_ hd hR
  have hp' : a.tmps[p]?.getD undef = .pointer (some ⟨g, 0, none⟩) := by simpa using hp
  simp [results, hr, hp', asAddr, run_loadVar_row W g T T cs (0, 0) d hbox hu hk hi]
/-- A return of a struct in a cell. -/
theorem close_one {P : Program} {fn : Func} {R : Ending → World → Prop} {a : Act} {W : World} {p : Tmp} {T : TypeId} {g : Nat} {cs : Array Value} {d : TypeDesc} (hr : fn.results = #[.cell p T])
    (hp : a.tmps.getD p undef = .pointer (some ⟨g, 0, none⟩)) (hd : a.defers = []) (hbox : Box W g T cs) (hu : P.underlying T = some d)
    (hk : (match d with | .struct _ | .array _ _ => true | _ => false) = true) (hi : (P.info? T).map (·.size) = some cs.size)
    (hR : R (.returned (.agg cs)) W) : bodyPost P fn R .ret a W :=
  bodyPost_ret (results_cell_row hr _ _ g T cs (0, 0) d hp hbox hu hk hi) hd hR
/-- The slice at A of len ints reads zs. -/
def Ints (w : World) (A : Option Addr) (len : Nat) (zs : List Int) : Prop :=
  zs.length = len ∧ (∀ j, -9223372036854775808 ≤ zs.getD j 0 ∧ zs.getD j 0 ≤ 9223372036854775807) ∧
    (0 < len → ∃ b off, A = some ⟨b, off, none⟩ ∧ b < w.heap.size ∧ ∀ j, j < len → w.cell? ⟨b, off + j, none⟩ = some (.int .i64 (zs.getD j 0)))
theorem Ints.below {w w' : World} {A : Option Addr} {len : Nat} {zs : List Int} (h : Ints w A len zs) (hb : Below w.heap.size w w') : Ints w' A len zs := by
  refine ⟨h.1, h.2.1, fun hp => ?_⟩
  obtain ⟨b, off, rfl, hlt, hc⟩ := h.2.2 hp
  exact ⟨b, off, rfl, Nat.lt_of_lt_of_le hlt hb.size, fun j hj => (hb.cell (p := ⟨b, off + j, none⟩) hlt).trans (hc j hj)⟩
theorem Ints.nil (w : World) (A : Option Addr) : Ints w A 0 [] := ⟨rfl, by simp, fun h => by omega⟩
/-- Three boxes of rows, stored anew one after the other. -/
theorem three_rows {x : World} {g1 g2 g3 : Nat} {t : TypeId} {i1 i2 i3 j1 j2 j3 : Int} {S1 S2 S3 T1 T2 T3 : Option Addr} {p1 q1 p2 q2 p3 q3 l1 c1 l2 c2 l3 c3 : Nat}
    (h1 : Box x g1 t #[.int .i64 i1, .slice S1 p1 q1]) (h2 : Box x g2 t #[.int .i64 i2, .slice S2 p2 q2]) (h3 : Box x g3 t #[.int .i64 i3, .slice S3 p3 q3]) (n12 : g1 ≠ g2) (n13 : g1 ≠ g3) (n23 : g2 ≠ g3)
    {w : World} (hb : Below w.heap.size w x) (b1 : w.heap.size ≤ g1) (b2 : w.heap.size ≤ g2) (b3 : w.heap.size ≤ g3)
    {xa bs cs : List Nat} (u1 : Words x T1 l1 xa) (u2 : Words x T2 l2 bs) (u3 : Words x T3 l3 cs) :
    let y := (((((x.setCell ⟨g1, 0, none⟩ (.int .i64 j1)).setCell ⟨g1, 1, none⟩ (.slice T1 l1 c1)).setCell ⟨g2, 0, none⟩ (.int .i64 j2)).setCell ⟨g2, 1, none⟩ (.slice T2 l2 c2)).setCell ⟨g3, 0, none⟩ (.int .i64 j3)).setCell ⟨g3, 1, none⟩ (.slice T3 l3 c3)
    Box y g1 t #[.int .i64 j1, .slice T1 l1 c1] ∧ Box y g2 t #[.int .i64 j2, .slice T2 l2 c2] ∧ Box y g3 t #[.int .i64 j3, .slice T3 l3 c3] ∧ Words y T1 l1 xa ∧ Words y T2 l2 bs ∧ Words y T3 l3 cs ∧ Below w.heap.size w y := by
  have k1 : Box ((x.setCell ⟨g1, 0, none⟩ (.int .i64 j1)).setCell ⟨g1, 1, none⟩ (.slice T1 l1 c1)) g1 t #[.int .i64 j1, .slice T1 l1 c1] := h1.put2
  have k2 := (h2.far (p := ⟨g1, 0, none⟩) n12.symm (.int .i64 j1)).far (p := ⟨g1, 1, none⟩) n12.symm (.slice T1 l1 c1)
  have k3 := (h3.far (p := ⟨g1, 0, none⟩) n13.symm (.int .i64 j1)).far (p := ⟨g1, 1, none⟩) n13.symm (.slice T1 l1 c1)
  have v1 := u1.put2 h1 (.int .i64 j1) (.slice T1 l1 c1)
  have v2 := u2.put2 h1 (.int .i64 j1) (.slice T1 l1 c1)
  have v3 := u3.put2 h1 (.int .i64 j1) (.slice T1 l1 c1)
  have m1 := (k1.far (p := ⟨g2, 0, none⟩) n12 (.int .i64 j2)).far (p := ⟨g2, 1, none⟩) n12 (.slice T2 l2 c2)
  have m2 : Box _ g2 t #[.int .i64 j2, .slice T2 l2 c2] := k2.put2
  have m3 := (k3.far (p := ⟨g2, 0, none⟩) n23.symm (.int .i64 j2)).far (p := ⟨g2, 1, none⟩) n23.symm (.slice T2 l2 c2)
  have v1' := v1.put2 k2 (.int .i64 j2) (.slice T2 l2 c2)
  have v2' := v2.put2 k2 (.int .i64 j2) (.slice T2 l2 c2)
  have v3' := v3.put2 k2 (.int .i64 j2) (.slice T2 l2 c2)
  exact ⟨(m1.far (p := ⟨g3, 0, none⟩) n13 (.int .i64 j3)).far (p := ⟨g3, 1, none⟩) n13 (.slice T3 l3 c3), (m2.far (p := ⟨g3, 0, none⟩) n23 (.int .i64 j3)).far (p := ⟨g3, 1, none⟩) n23 (.slice T3 l3 c3), m3.put2,
    v1'.put2 m3 _ _, v2'.put2 m3 _ _, v3'.put2 m3 _ _,
    (((((hb.setCell (p := ⟨g1, 0, none⟩) b1 _).setCell (p := ⟨g1, 1, none⟩) b1 _).setCell (p := ⟨g2, 0, none⟩) b2 _).setCell (p := ⟨g2, 1, none⟩) b2 _).setCell (p := ⟨g3, 0, none⟩) b3 _).setCell (p := ⟨g3, 1, none⟩) b3 _⟩
/-- A row of the call's own and a box of another type are two blocks. -/
theorem own_ne {w : World} {base e size n g : Nat} {t : TypeId} {v : Value} {xs : List Value} {cs : Array Value} (h : w.ownsRow base e size v n xs) (hb : Box w g t cs) (hne : e ≠ t) : v.ownBlock ≠ some g := by
  rcases h.2 with ⟨rfl, _⟩ | ⟨g', cap, cur, rfl, _, hh, _⟩
  · simp [Value.ownBlock]
  · intro he
    have : g' = g := by simpa [Value.ownBlock] using he
    subst this
    unfold Box at hb
    rw [hb] at hh
    injection hh with hh
    injection hh with _ ht
    exact hne ht.symm
theorem Box.grown {w w' : World} {g : Nat} {t : TypeId} {cs : Array Value} {row : Option Nat} (h : Box w g t cs) (hg : w.grownBy w' row) (hne : row ≠ some g) : Box w' g t cs := (hg.block g h.lt (Ne.symm hne)).trans h
/-- The slice value of a row of the call's own. -/
theorem own_form {w : World} {base e size n : Nat} {v : Value} {xs : List Value} (h : w.ownsRow base e size v n xs) : ∃ A c, v = .slice A n c ∧ (A = none → n = 0 ∧ c = 0) := by
  rcases h.2 with ⟨rfl, rfl⟩ | ⟨g, cap, cur, rfl, _⟩
  · exact ⟨none, 0, rfl, fun _ => ⟨rfl, rfl⟩⟩
  · exact ⟨_, _, rfl, fun h => by cases h⟩
theorem own_words {w : World} {base e n : Nat} {A : Option Addr} {c : Nat} {zs : List Nat} (h : w.ownsRow base e 1 (.slice A n c) n (zs.map fun (x : Nat) => Value.int .u64 (x : Int))) (hz : ∀ j, zs.getD j 0 < 18446744073709551616) : Words w A n zs := by
  have hl : zs.length = n := by have := h.1; simpa using this
  refine ⟨hl, hz, fun hp => ?_⟩
  rcases h.2 with ⟨_, h0⟩ | ⟨g, cap, cur, hv, hb, hh, hn, hm, hs, hx⟩
  · omega
  · injection hv with hA _ _
    subst hA
    have hbx : Box w g e cur := hh
    refine ⟨g, 0, rfl, hbx.lt, fun j hj => ?_⟩
    rw [Nat.zero_add, hbx.cell j]
    have e1 : (cur.toList.take (n * 1))[j]? = (zs.map fun (x : Nat) => Value.int .u64 (x : Int))[j]? := by rw [hx]
    rw [Nat.mul_one, List.getElem?_take, if_pos hj] at e1
    have hjz : j < zs.length := by omega
    simp only [List.getElem?_map, List.getElem?_eq_getElem hjz, Option.map_some] at e1
    rw [← Array.getElem?_toList, e1]
    simp [List.getD, hjz]
theorem own_ints {w : World} {base e n : Nat} {A : Option Addr} {c : Nat} {zs : List Int} (h : w.ownsRow base e 1 (.slice A n c) n (zs.map (Value.int .i64))) (hz : ∀ j, -9223372036854775808 ≤ zs.getD j 0 ∧ zs.getD j 0 ≤ 9223372036854775807) : Ints w A n zs := by
  have hl : zs.length = n := by have := h.1; simpa using this
  refine ⟨hl, hz, fun hp => ?_⟩
  rcases h.2 with ⟨_, h0⟩ | ⟨g, cap, cur, hv, hb, hh, hn, hm, hs, hx⟩
  · omega
  · injection hv with hA _ _
    subst hA
    have hbx : Box w g e cur := hh
    refine ⟨g, 0, rfl, hbx.lt, fun j hj => ?_⟩
    rw [Nat.zero_add, hbx.cell j]
    have e1 : (cur.toList.take (n * 1))[j]? = (zs.map (Value.int .i64))[j]? := by rw [hx]
    rw [Nat.mul_one, List.getElem?_take, if_pos hj] at e1
    have hjz : j < zs.length := by omega
    simp only [List.getElem?_map, List.getElem?_eq_getElem hjz, Option.map_some] at e1
    rw [← Array.getElem?_toList, e1]
    simp [List.getD, hjz]
/-- A store into a box of another type leaves a row of the call's own. -/
theorem own_far {w : World} {base e size n g : Nat} {t : TypeId} {v : Value} {xs : List Value} {cs : Array Value} (h : w.ownsRow base e size v n xs) (hb : Box w g t cs) (hne : e ≠ t) (i : Nat) (u : Value) : (w.setCell ⟨g, i, none⟩ u).ownsRow base e size v n xs := by
  have hn := own_ne h hb hne
  refine ⟨h.1, ?_⟩
  rcases h.2 with ⟨rfl, rfl⟩ | ⟨g', cap, cur, rfl, h1, hh, h3⟩
  · exact .inl ⟨rfl, rfl⟩
  · refine .inr ⟨g', cap, cur, rfl, h1, ?_, h3⟩
    rw [heap_setCell_other _ _ _ _ (fun e => hn (by rw [← show g' = g from e]; rfl))]
    exact hh
theorem own_empty (W : World) (base e : Nat) (hb : base ≤ W.heap.size) : (W.alloc (.cells #[] e)).ownsRow base e 1 (.slice (some ⟨W.heap.size, 0, none⟩) 0 0) 0 [] :=
  ⟨by simp, .inr ⟨W.heap.size, 0, #[], rfl, hb, heap_alloc_new W _, Nat.le_refl _, Nat.zero_le _, by simp, by simp⟩⟩
theorem own_keep {w w' : World} {base e size n : Nat} {v : Value} {xs : List Value} (h : w.ownsRow base e size v n xs) (hb : Below w.heap.size w w') : w'.ownsRow base e size v n xs := by
  refine ⟨h.1, ?_⟩
  rcases h.2 with ⟨rfl, rfl⟩ | ⟨g', cap, cur, rfl, h1, hh, h3⟩
  · exact .inl ⟨rfl, rfl⟩
  · have hx : Box w g' e cur := hh
    exact .inr ⟨g', cap, cur, rfl, h1, hx.keep hb, h3⟩
end
section
/- An append onto a row that is a call's own, of a slice that may be nil, or of no elements: in a region that draws (step_opt), in one that does not (wpList_opt). No program. -/
set_option linter.unusedVariables false
set_option linter.unusedSimpArgs false
open Go.RowKit
theorem run_append_nilsrc {P : Program} (w : World) (base : Nat) (t ty e : TypeId) (i : TypeInfo) (size : Nat) (ht : P.underlying t = some (.slice e)) (hi : P.info? e = some i)
    (v : Value) (n : Nat) (xs : List Value) (hown : w.ownsRow base e size v n xs) (c : Nat) : (Builtin.append_ #[t, t] ty #[v, .slice none 0 c]).run P w = .ok v w := by
  obtain ⟨A, k, rfl, hA⟩ := own_form hown
  have hnk : n ≤ k := by
    rcases hown.2 with ⟨hv, h0⟩ | ⟨g, cap, cur, hv, _, _, hc, _⟩
    · omega
    · injection hv with _ _ e3; omega
  cases A with
  | none => obtain ⟨rfl, rfl⟩ := hA rfl; simp [Builtin.append_, run_underlying ht, sizeOf, typeInfo, hi, Builtin.lenOf, Builtin.firstCells]
  | some ad => simp [Builtin.append_, run_underlying ht, sizeOf, typeInfo, hi, Builtin.lenOf, Builtin.firstCells, hnk, storeCells]
theorem run_append_opt {P : Program} (w : World) (base : Nat) (t ty e : TypeId) (i : TypeInfo) (z : Value) (size bytes : Nat) (ht : P.underlying t = some (.slice e)) (hi : P.info? e = some i) (hz : i.zero = some z)
    (hsize : i.size = size) (hby : i.bytes = bytes) (hzs : z.cells.size = size) (hsz : 0 < size) (v : Value) (n : Nat) (xs : List Value) (hown : w.ownsRow base e size v n xs)
    (A : Option Addr) (m c : Nat) (news : List Value) (hl : news.length = m * size) (hnil : A = none → m = 0) (hnews : ∀ ad, A = some ad → ∀ j u, news[j]? = some u → w.cell? (ad.add j) = some u) (h1 : ∀ u ∈ news, u.oneCell' = true)
    (h63 : n + m ≤ maxLen) (hbytes : (n + m) * bytes ≤ 140737488355328) (hbase : base ≤ w.heap.size) :
    ∃ v' w', (Builtin.append_ #[t, t] ty #[v, .slice A m c]).run P w = .ok v' w' ∧ w'.ownsRow base e size v' (n + m) (xs ++ news) ∧ w.grownBy w' v.ownBlock := by
  cases A with
  | some ad =>
    obtain ⟨v', w', hr, h2, h3, -⟩ := run_append_own_at (P := P) w base t ty e i z size bytes ht hi hz hsize hby hzs hsz v n xs hown ad m c news hl (hnews ad rfl) h1 h63 hbytes hbase
    exact ⟨v', w', hr, h2, h3⟩
  | none =>
    obtain rfl := hnil rfl
    obtain rfl : news = [] := List.length_eq_zero_iff.1 (by simpa using hl)
    exact ⟨v, w, run_append_nilsrc w base t ty e i size ht hi v n xs hown c, by simpa using hown, World.grownBy.refl w _⟩
section
variable {P : Program} {w : World} {ops : Array Oper} {o : Oper} {a : Act} {K : Act → World → Prop} {Q : Exit → Act → World → Prop} {E : Prop}
theorem wp_append_opt (s x : Operand) (t : TypeId)
    (ho : o.op = .call { callee := .builtin .append, args := #[s, x], argTypes := #[t, t] })
    (base : Nat) (e : TypeId) (i : TypeInfo) (z : Value) (size bytes : Nat) (ht : P.underlying t = some (.slice e)) (hi : P.info? e = some i) (hz : i.zero = some z)
    (hsize : i.size = size) (hby : i.bytes = bytes) (hzs : z.cells.size = size) (hsz : 0 < size)
    (v : Value) (n : Nat) (xs : List Value) (hs : a.eval s = v) (hown : w.ownsRow base e size v n xs)
    (A : Option Addr) (m c : Nat) (news : List Value) (hx : a.eval x = .slice A m c) (hl : news.length = m * size) (hnil : A = none → m = 0) (hnews : ∀ ad, A = some ad → ∀ j u, news[j]? = some u → w.cell? (ad.add j) = some u) (h1 : ∀ u ∈ news, u.oneCell' = true)
    (h63 : n + m ≤ maxLen) (hbytes : (n + m) * bytes ≤ 140737488355328) (hbase : base ≤ w.heap.size)
    (h : ∀ v' w', w'.ownsRow base e size v' (n + m) (xs ++ news) → w.grownBy w' v.ownBlock → K (a.put o.dst v') w') : o.wp P a w K Q := by
  obtain ⟨v', w', hr, h2, h3⟩ := run_append_opt (P := P) w base t o.type e i z size bytes ht hi hz hsize hby hzs hsz v n xs hown A m c news hl hnil hnews h1 h63 hbytes hbase
  unfold Oper.wp execOp
  simp only [ho, resolve, invoke, builtin, Sem.run_bind, Sem.run_pure, Result.andThen_ok, List.map_toArray, List.map_cons, List.map_nil, hs, hx, hr]
  exact h v' w' h2 h3
theorem step_opt (hgd : o.guard = none) (s x : Operand) (t : TypeId)
    (ho : o.op = .call { callee := .builtin .append, args := #[s, x], argTypes := #[t, t] })
    (base : Nat) (e : TypeId) (i : TypeInfo) (z : Value) (size bytes : Nat) (ht : P.underlying t = some (.slice e)) (hi : P.info? e = some i) (hz : i.zero = some z)
    (hsize : i.size = size) (hby : i.bytes = bytes) (hzs : z.cells.size = size) (hsz : 0 < size)
    (v : Value) (n : Nat) (xs : List Value) (hs : a.eval s = v) (hown : w.ownsRow base e size v n xs)
    (A : Option Addr) (m c : Nat) (news : List Value) (hx : a.eval x = .slice A m c) (hl : news.length = m * size) (hnil : A = none → m = 0) (hnews : ∀ ad, A = some ad → ∀ j u, news[j]? = some u → w.cell? (ad.add j) = some u) (h1 : ∀ u ∈ news, u.oneCell' = true)
    (h63 : n + m ≤ maxLen) (hbytes : (n + m) * bytes ≤ 140737488355328) (hbase : base ≤ w.heap.size)
    (h : ∀ v' w', w'.ownsRow base e size v' (n + m) (xs ++ news) → w.grownBy w' v.ownBlock → K (a.put o.dst v') w') :
    if Region.wanted o (yielded ops a.tmps) = true then Oper.wp P o a w K Q else E := by
  have hw : Region.wanted o (yielded ops a.tmps) = true := by simp [Region.wanted, hgd]
  rw [if_pos hw]
  exact wp_append_opt s x t ho base e i z size bytes ht hi hz hsize hby hzs hsz v n xs hs hown A m c news hx hl hnil hnews h1 h63 hbytes hbase h
theorem wpList_opt {rest : List Oper} (hgd : o.guard = none) (s x : Operand) (t : TypeId)
    (ho : o.op = .call { callee := .builtin .append, args := #[s, x], argTypes := #[t, t] })
    (base : Nat) (e : TypeId) (i : TypeInfo) (z : Value) (size bytes : Nat) (ht : P.underlying t = some (.slice e)) (hi : P.info? e = some i) (hz : i.zero = some z)
    (hsize : i.size = size) (hby : i.bytes = bytes) (hzs : z.cells.size = size) (hsz : 0 < size)
    (v : Value) (n : Nat) (xs : List Value) (hs : a.eval s = v) (hown : w.ownsRow base e size v n xs)
    (A : Option Addr) (m c : Nat) (news : List Value) (hx : a.eval x = .slice A m c) (hl : news.length = m * size) (hnil : A = none → m = 0) (hnews : ∀ ad, A = some ad → ∀ j u, news[j]? = some u → w.cell? (ad.add j) = some u) (h1 : ∀ u ∈ news, u.oneCell' = true)
    (h63 : n + m ≤ maxLen) (hbytes : (n + m) * bytes ≤ 140737488355328) (hbase : base ≤ w.heap.size)
    (h : ∀ v' w', w'.ownsRow base e size v' (n + m) (xs ++ news) → w.grownBy w' v.ownBlock → wpList P ops Q rest (a.put o.dst v') w') : wpList P ops Q (o :: rest) a w :=
  wpList_plain hgd fun _ hK => wp_append_opt s x t ho base e i z size bytes ht hi hz hsize hby hzs hsz v n xs hs hown A m c news hx hl hnil hnews h1 h63 hbytes hbase fun v' w' h2 h3 => hK _ _ (h v' w' h2 h3)
end
theorem own_of_box0 {w : World} {g base size : Nat} {e : TypeId} (h : Box w g e #[]) (hb : base ≤ g) : w.ownsRow base e size (.slice (some ⟨g, 0, none⟩) 0 0) 0 [] :=
  ⟨by simp, .inr ⟨g, 0, #[], rfl, hb, h, Nat.le_refl _, Nat.zero_le _, by simp, by simp⟩⟩
end
section
/- Slices of records: each record is its cells; read, kept, cut, appended. No program. -/
set_option linter.unusedVariables false
set_option linter.unusedSimpArgs false
open Go.RowKit
theorem addP (b off j : Nat) : (⟨b, off, none⟩ : Addr).add j = ⟨b, off + j, none⟩ := by unfold Addr.add; split <;> simp_all
section
variable {α : Type} {enc : α → List Value} {sz : Nat} {xs : List α}
theorem flat_len (hsz : ∀ x, (enc x).length = sz) : ∀ xs : List α, (xs.flatMap enc).length = xs.length * sz
  | [] => by simp
  | x :: xs => by rw [List.flatMap_cons, List.length_append, hsz, flat_len hsz xs, List.length_cons, Nat.add_mul, Nat.one_mul, Nat.add_comm]
theorem flat_one (h1 : ∀ x, ∀ u ∈ enc x, u.oneCell' = true) : ∀ u ∈ xs.flatMap enc, u.oneCell' = true := by
  intro u hu
  obtain ⟨x, -, hx⟩ := List.mem_flatMap.1 hu
  exact h1 x u hx
theorem flat_snoc (xs : List α) (x : α) : (xs ++ [x]).flatMap enc = xs.flatMap enc ++ enc x := by simp
end
section
variable {α : Type} [Inhabited α] {enc : α → List Value} {sz : Nat} {w w' : World} {A : Option Addr} {len : Nat} {xs : List α}
/-- A slice that reads as records of sz cells each. -/
def Recs (enc : α → List Value) (sz : Nat) (w : World) (A : Option Addr) (len : Nat) (xs : List α) : Prop :=
  xs.length = len ∧ (0 < len → ∃ b off, A = some ⟨b, off, none⟩ ∧ b < w.heap.size ∧ ∀ j, j < len → ∀ k v, (enc (xs.getD j default))[k]? = some v → w.cell? ⟨b, off + j * sz + k, none⟩ = some v)
theorem Recs.nil (w : World) (A : Option Addr) : Recs enc sz w A 0 [] := ⟨rfl, fun h => by omega⟩
theorem Recs.below (h : Recs enc sz w A len xs) (hb : Below w.heap.size w w') : Recs enc sz w' A len xs := by
  refine ⟨h.1, fun hp => ?_⟩
  obtain ⟨b, off, rfl, hlt, hc⟩ := h.2 hp
  exact ⟨b, off, rfl, Nat.lt_of_lt_of_le hlt hb.size, fun j hj k v hv => (hb.cell (p := ⟨b, _, none⟩) hlt).trans (hc j hj k v hv)⟩
theorem Recs.alloc (h : Recs enc sz w A len xs) (o : Obj) : Recs enc sz (w.alloc o) A len xs := h.below ((Below.refl _ _).alloc (Nat.le_refl _) o)
theorem Recs.drew (h : Recs enc sz w A len xs) : Recs enc sz w.drew A len xs := h
theorem Recs.drewN (h : Recs enc sz w A len xs) (n : Nat) : Recs enc sz (w.drewN n) A len xs := h
theorem Recs.mono (h : Recs enc sz w A len xs) {B : Nat} (hB : w.heap.size ≤ B) (hb : Below B w w') : Recs enc sz w' A len xs := h.below (hb.mono hB)
theorem Recs.none_ (h : Recs enc sz w none len xs) : len = 0 ∧ xs = [] := by
  rcases Nat.eq_zero_or_pos len with h0 | h0
  · exact ⟨h0, List.length_eq_zero_iff.1 (h.1.trans h0)⟩
  · obtain ⟨_, _, e, _⟩ := h.2 h0; cases e
theorem Recs.at (h : Recs enc sz w A len xs) (j : Nat) (hj : j < len) : ∃ b off, A = some ⟨b, off, none⟩ ∧ b < w.heap.size ∧ ∀ k v, (enc (xs.getD j default))[k]? = some v → w.cell? ⟨b, off + j * sz + k, none⟩ = some v := by
  obtain ⟨b, off, rfl, hlt, hc⟩ := h.2 (by omega)
  exact ⟨b, off, rfl, hlt, fun k v hv => hc j hj k v hv⟩
theorem Recs.take (h : Recs enc sz w A len xs) (k : Nat) (hk : k ≤ len) : Recs enc sz w A k (xs.take k) := by
  refine ⟨by rw [List.length_take, h.1]; omega, fun hp => ?_⟩
  obtain ⟨b, off, rfl, hlt, hc⟩ := h.2 (by omega)
  refine ⟨b, off, rfl, hlt, fun j hj i v hv => hc j (by omega) i v ?_⟩
  simpa [List.getD, List.getElem?_take_of_lt hj] using hv
theorem Recs.drop (h : Recs enc sz w A len xs) (k : Nat) (hk : k < len) (B : Option Addr) (hB : ∀ b off, A = some ⟨b, off, none⟩ → B = some ⟨b, off + k * sz, none⟩) : Recs enc sz w B (len - k) (xs.drop k) := by
  refine ⟨by rw [List.length_drop, h.1], fun hp => ?_⟩
  obtain ⟨b, off, rfl, hlt, hc⟩ := h.2 (by omega)
  refine ⟨b, off + k * sz, hB b off rfl, hlt, fun j hj i v hv => ?_⟩
  have := hc (k + j) (by omega) i v (by simpa [List.getD, List.getElem?_drop] using hv)
  rwa [Nat.add_mul, ← Nat.add_assoc] at this
/-- A store into a block that is another one. -/
theorem Recs.farB (h : Recs enc sz w A len xs) {g : Nat} (hne : ∀ b off, A = some ⟨b, off, none⟩ → 0 < len → b ≠ g) (i : Nat) (u : Value) : Recs enc sz (w.setCell ⟨g, i, none⟩ u) A len xs := by
  refine ⟨h.1, fun hp => ?_⟩
  obtain ⟨b, off, rfl, hlt, hc⟩ := h.2 hp
  have hn := hne b off rfl hp
  refine ⟨b, off, rfl, by simpa [World.setCell] using hlt, fun j hj k v hv => ?_⟩
  rw [World.cell?_setCell_other _ _ _ _ (by intro e; injection e; omega)]
  exact hc j hj k v hv
theorem flat_at (hsz : ∀ x, (enc x).length = sz) : ∀ (xs : List α) (j k : Nat), j < xs.length → k < sz → (xs.flatMap enc)[j * sz + k]? = (enc (xs.getD j default))[k]?
  | [], j, k, hj, _ => by cases hj
  | x :: xs, 0, k, _, hk => by
    rw [Nat.zero_mul, Nat.zero_add, List.flatMap_cons, List.getElem?_append_left (by rw [hsz]; exact hk)]; rfl
  | x :: xs, j + 1, k, hj, hk => by
    rw [List.flatMap_cons, List.getElem?_append_right (by rw [hsz, Nat.add_mul]; omega), hsz, show (j + 1) * sz + k - sz = j * sz + k by rw [Nat.add_mul]; omega, flat_at hsz xs j k (by simpa using hj) hk]; rfl
/-- The cells of a slice, as the source of an append. -/
theorem Recs.news (h : Recs enc sz w A len xs) (hsz : ∀ x, (enc x).length = sz) (h0 : 0 < sz) : ∀ ad, A = some ad → ∀ j u, (xs.flatMap enc)[j]? = some u → w.cell? (ad.add j) = some u := by
  intro ad hA j u hu
  have hlt : j < (xs.flatMap enc).length := (List.getElem?_eq_some_iff.1 hu).1
  rw [flat_len hsz, h.1] at hlt
  have hq : j / sz < len := (Nat.div_lt_iff_lt_mul h0).2 hlt
  have hr := Nat.mod_lt j h0
  have e := Nat.div_add_mod j sz
  rw [Nat.mul_comm] at e
  obtain ⟨b, off, hA2, -, hc⟩ := h.2 (Nat.lt_of_le_of_lt (Nat.zero_le _) hq)
  rw [hA] at hA2
  injection hA2 with hA2
  subst hA2
  rw [addP]
  have := hc (j / sz) hq (j % sz) u (by rw [← flat_at hsz xs _ _ (by rw [h.1]; exact hq) hr, e]; exact hu)
  rwa [Nat.add_assoc, e] at this
/-- A row of the call's own that is records. -/
theorem own_recs {base : Nat} {e : TypeId} {c : Nat} (hsz : ∀ x, (enc x).length = sz) (h : w.ownsRow base e sz (.slice A len c) len (xs.flatMap enc)) (h0 : 0 < sz) : Recs enc sz w A len xs := by
  have hl : xs.length = len := by have := h.1; rw [flat_len hsz] at this; exact Nat.eq_of_mul_eq_mul_right h0 this
  refine ⟨hl, fun hp => ?_⟩
  rcases h.2 with ⟨_, hz⟩ | ⟨g, cap, cur, hv, hb, hh, hn, hm, hs, hx⟩
  · omega
  · injection hv with hA _ _
    subst hA
    have hbx : Box w g e cur := hh
    refine ⟨g, 0, rfl, hbx.lt, fun j hj k v hv => ?_⟩
    have hk : k < sz := by have := (List.getElem?_eq_some_iff.1 hv).1; rwa [hsz] at this
    rw [Nat.zero_add, hbx.cell]
    have e1 : (cur.toList.take (len * sz))[j * sz + k]? = (xs.flatMap enc)[j * sz + k]? := by rw [hx]
    have hlt : j * sz + k < len * sz := by
      have : (j + 1) * sz ≤ len * sz := Nat.mul_le_mul_right _ hj
      rw [Nat.add_mul] at this; omega
    rw [List.getElem?_take, if_pos hlt, flat_at hsz xs j k (by omega) hk, hv] at e1
    rw [← Array.getElem?_toList, e1]
theorem take_snocD (xs : List α) (k : Nat) (h : k < xs.length) : xs.take (k + 1) = xs.take k ++ [xs.getD k default] := by
  rw [List.take_succ_eq_append_getElem h]; simp [List.getD, h]
end
end
section
/- Contracts of layer 12: within, when, allHave, has, twice, first. -/
set_option linter.unusedVariables false
set_option linter.unusedSimpArgs false
open Go.RowKit
set_option maxRecDepth 100000
abbrev SymR := Nat × ByteArray
def encS (r : SymR) : List Value := [.int .u64 (r.1 : Int), .string r.2]
theorem encS_len (r : SymR) : (encS r).length = 2 := rfl
theorem encS_one (r : SymR) : ∀ u ∈ encS r, u.oneCell' = true := by intro u hu; simp [encS] at hu; rcases hu with rfl | rfl <;> rfl
abbrev Syms (w : World) (A : Option Addr) (l : Nat) (xs : List SymR) : Prop := Recs encS 2 w A l xs
theorem Syms.two {w : World} {A : Option Addr} {l : Nat} {xs : List SymR} (h : Syms w A l xs) (j : Nat) (hj : j < l) : ∃ b off, A = some ⟨b, off, none⟩ ∧ b < w.heap.size ∧ w.cell? ⟨b, off + j * 2, none⟩ = some (.int .u64 ((xs.getD j default).1 : Nat)) ∧ w.cell? ⟨b, off + j * 2 + 1, none⟩ = some (.string (xs.getD j default).2) := by
  obtain ⟨b, off, hA, hb, hc⟩ := h.at j hj
  exact ⟨b, off, hA, hb, hc 0 _ rfl, hc 1 _ rfl⟩
def hasI (xs : List SymR) (id : Nat) : Bool := xs.any fun x => x.1 == id
def allB (s : Int) (xs : List SymR) : Bool := xs.all fun x => (x.2.size : Int) == s
def twiceB (xs : List SymR) : Bool := (List.range xs.length).any fun i => hasI (xs.take i) (xs.getD i default).1
theorem hasI_snoc (xs : List SymR) (id k : Nat) (h : k < xs.length) : hasI (xs.take (k + 1)) id = (hasI (xs.take k) id || (xs.getD k default).1 == id) := by
  rw [take_snocD xs k h]; simp [hasI]
theorem allB_snoc (s : Int) (xs : List SymR) (k : Nat) (h : k < xs.length) : allB s (xs.take (k + 1)) = (allB s (xs.take k) && ((xs.getD k default).2.size : Int) == s) := by
  rw [take_snocD xs k h]; simp [allB]
theorem hasI_up (xs : List SymR) (id k : Nat) (h : hasI (xs.take k) id = true) : hasI xs id = true := by
  unfold hasI at *
  simp only [List.any_eq_true] at *
  obtain ⟨x, hx, hi⟩ := h
  exact ⟨x, List.mem_of_mem_take hx, hi⟩
theorem allB_up (s : Int) (xs : List SymR) (k : Nat) (h : allB s (xs.take k) = false) : allB s xs = false := by
  rw [Bool.eq_false_iff] at *
  intro h2
  refine h ?_
  unfold allB at *
  simp only [List.all_eq_true] at *
  exact fun x hx => h2 x (List.mem_of_mem_take hx)
theorem within_any (x a b : Int) (w : World) : Calls Tryz.prog 29 #[.int .i64 x, .int .i64 a, .int .i64 b] w fun e w' => e = .returned (.bool (decide (a ≤ x) && decide (x ≤ b))) ∧ w = w' := by
  by_cases h1 : a ≤ x
  · by_cases h2 : x ≤ b
    · go_enter Tryz.func29, Tryz.ntmps29
      go_wp2
      go_ret
      exact ⟨by simp [h1, h2], rfl⟩
    · have t : decide (x ≤ b) = false := by simpa using h2
      go_enter Tryz.func29, Tryz.ntmps29
      go_wp2
      go_ret
      exact ⟨by simp [h2], rfl⟩
  · have t : decide (a ≤ x) = false := by simpa using h1
    go_enter Tryz.func29, Tryz.ntmps29
    go_wp2
    go_ret
    exact ⟨by simp [h1], rfl⟩
def whenI (b : Bool) (e : Int) : Int := if b then e else 0
theorem when_any (b : Bool) (x : Int) (w : World) : Calls Tryz.prog 28 #[.bool b, .int .i64 x] w fun e w' => e = .returned (.int .i64 (whenI b x)) ∧ w = w' := by
  cases b with
  | true =>
    go_enter Tryz.func28, Tryz.ntmps28
    go_wp2
    go_ret
    exact ⟨rfl, rfl⟩
  | false =>
    go_enter Tryz.func28, Tryz.ntmps28
    go_wp2
    go_ret
    exact ⟨rfl, rfl⟩
theorem eallHave_any (s : Int) (A : Option Addr) (l c : Nat) (xs : List SymR) (w : World) (hx : Syms w A l xs) (hl : l ≤ maxLen) :
    Calls Tryz.prog 34 #[.int .i64 s, .slice A l c] w fun e w' => e = .returned (.bool (allB s xs)) ∧ Below w.heap.size w w' := by
  unfold maxLen at hl
  have HX := Lib.hid hx
  have HXl := Lib.hid hx.1
  clear hx
  go_enter Tryz.func34, Tryz.ntmps34
  go_wp2_with fail
  go_loopw [9] (fun t wr => ∃ i : Nat, i ≤ l ∧ t = .int .i64 (i : Int) ∧ Hid (allB s (xs.take i) = true) ∧ Hid (Below w.heap.size w wr)) (fun t _ => l - (intOf t).toNat)
  case atStart => exact ⟨0, Nat.zero_le _, rfl, Lib.hid rfl, Lib.hid (Below.refl _ _)⟩
  case round =>
    obtain ⟨i, hi, rfl, HS, HB⟩ := hrel
    by_cases hlt : i < l
    · have hlt' : (i : Int) < (l : Int) := Int.ofNat_lt.2 hlt
      obtain ⟨b, off, rfl, hb, x0, x1⟩ := HX.out.two i hlt
      have x0 := (HB.out.cell (p := ⟨b, off + i * 2, none⟩) hb).trans x0
      have x1 := (HB.out.cell (p := ⟨b, off + i * 2 + 1, none⟩) hb).trans x1
      have HN := Lib.hid (allB_snoc s xs i (by rw [HXl.out]; exact hlt))
      have HU := Lib.hid (allB_up s xs (i + 1))
      have G := Lib.hid (Box.new wr 46 #[.int .u64 ((xs.getD i default).1 : Nat), .string (xs.getD i default).2])
      have HB := Lib.hid (HB.out.alloc HB.out.size (.cells #[.int .u64 ((xs.getD i default).1 : Nat), .string (xs.getD i default).2] 46))
      generalize xs.getD i default = p at *
      obtain ⟨p0, p1⟩ := p
      dsimp only at x0 x1 G HB HN
      obtain ⟨g0, g1, -, -⟩ := G.out.two
      cases hs : ((p1.size : Int) == s) with
      | true =>
        rw [hs] at HN
        have hs2 : ((p1.size : Int) != s) = false := by simp [bne, hs]
        have HN2 := Lib.hid (show allB s (xs.take (i + 1)) = true by rw [HN.out, HS.out]; rfl)
        clear hs
        go_wp2_with fail
        go_roundw
        case rel => exact ⟨i + 1, hlt, by go_num, HN2, HB⟩
        case measure => simp [intOf] <;> omega
      | false =>
        rw [hs] at HN
        have hs2 : ((p1.size : Int) != s) = true := by simp [bne, hs]
        have HE := Lib.hid (show allB s xs = false from HU.out (by rw [HN.out]; simp))
        clear hs
        go_wp2_with fail
        go_ret
        exact ⟨by rw [HE.out]; rfl, HB.out⟩
    · obtain rfl : i = l := Nat.le_antisymm hi (Nat.le_of_not_lt hlt)
      have hlt' : ¬ (i : Int) < (i : Int) := Int.lt_irrefl _
      have HE := Lib.hid (show allB s xs = true by have := HS.out; rwa [List.take_of_length_le (by rw [HXl.out]; exact Nat.le_refl _)] at this)
      go_wp2_with fail
      go_ret
      exact ⟨by rw [HE.out]; rfl, HB.out⟩
theorem has1_any (id q : Nat) (s : ByteArray) (g : Nat) (w : World) (hc : w.cell? ⟨g, 0, none⟩ = some (.int .u64 (id : Int))) (hg : g < w.heap.size) :
    Calls Tryz.prog 57 (#[.agg #[.int .u64 (q : Int), .string s]] ++ #[.pointer (some ⟨g, 0, none⟩)]) w fun e w' => e = .returned (.bool (q == id)) ∧ Below w.heap.size w w' := by
  have G := Lib.hid (Box.new w 46 #[.int .u64 (q : Int), .string s])
  have HB := Lib.hid (show Below w.heap.size w (w.alloc (.cells #[.int .u64 (q : Int), .string s] 46)) from (Below.refl _ _).alloc (Nat.le_refl _) _)
  have hc2 := (HB.out.cell (p := ⟨g, 0, none⟩) hg).trans hc
  obtain ⟨g0, g1, -, -⟩ := G.out.two
  have e : ((q : Int) == (id : Int)) = (q == id) := by rw [Bool.eq_iff_iff]; simp; omega
  clear hc
  cases hq : (q == id) with
  | true =>
    rw [hq] at e
    go_enter Tryz.func57, Tryz.ntmps57
    go_wp2_with fail
    go_ret
    exact ⟨by simp_all, HB.out⟩
  | false =>
    rw [hq] at e
    go_enter Tryz.func57, Tryz.ntmps57
    go_wp2_with fail
    go_ret
    exact ⟨by simp_all, HB.out⟩
/-- Where an id is first. -/
def idxI (xs : List SymR) (id : Nat) (i : Int) : Prop := if hasI xs id then 0 ≤ i else i = -1
theorem indexF_any (id g : Nat) (A : Option Addr) (l c : Nat) (xs : List SymR) (w : World) (hx : Syms w A l xs) (hl : l ≤ maxLen) (hc : w.cell? ⟨g, 0, none⟩ = some (.int .u64 (id : Int))) (hg : g < w.heap.size) :
    Calls Tryz.prog 78 #[.slice A l c, .func (.func 57) #[] #[.pointer (some ⟨g, 0, none⟩)]] w fun e w' => (∃ i : Int, idxI xs id i ∧ e = .returned (.int .i64 i)) ∧ Below w.heap.size w w' := by
  unfold maxLen at hl
  have HX := Lib.hid hx
  have HXl := Lib.hid hx.1
  have HC := Lib.hid hc
  have eg : ∀ args w, (callFunc 57 args).run Tryz.prog w = .ok (.enter 57 args) w := enters_of Tryz.func57 (by kernel_rfl) rfl
  clear hx hc
  go_enter Tryz.func78, Tryz.ntmps78
  go_wp2_with fail
  go_loopw [8] (fun t wr => ∃ i : Nat, i ≤ l ∧ t = .int .i64 (i : Int) ∧ Hid (hasI (xs.take i) id = false) ∧ Hid (Below w.heap.size w wr)) (fun t _ => l - (intOf t).toNat)
  case atStart => exact ⟨0, Nat.zero_le _, rfl, Lib.hid rfl, Lib.hid (Below.refl _ _)⟩
  case round =>
    obtain ⟨i, hi, rfl, HS, HB⟩ := hrel
    by_cases hlt : i < l
    · have hlt' : (i : Int) < (l : Int) := Int.ofNat_lt.2 hlt
      obtain ⟨b, off, rfl, hb, x0, x1⟩ := HX.out.two i hlt
      have x0 := (HB.out.cell (p := ⟨b, off + i * 2, none⟩) hb).trans x0
      have x1 := (HB.out.cell (p := ⟨b, off + i * 2 + 1, none⟩) hb).trans x1
      have HN := Lib.hid (hasI_snoc xs id i (by rw [HXl.out]; exact hlt))
      have HU := Lib.hid (hasI_up xs id (i + 1))
      have HH := Lib.hid (has1_any id (xs.getD i default).1 (xs.getD i default).2 g wr ((HB.out.cell (p := ⟨g, 0, none⟩) hg).trans HC.out) (Nat.lt_of_lt_of_le hg HB.out.size))
      generalize xs.getD i default = p at *
      obtain ⟨p0, p1⟩ := p
      dsimp only at x0 x1 HN HH
      cases hs : (p0 == id) with
      | true =>
        rw [hs] at HN HH
        have HE := Lib.hid (show hasI xs id = true from HU.out (by rw [HN.out]; simp))
        clear hs
        go_wp2_with fail
        refine HH.out.mono ?_
        rintro e w1 ⟨rfl, hb1⟩
        have HB := Lib.hid (chain HB.out hb1)
        clear hb1
        go_wp2_with fail
        go_ret
        exact ⟨⟨i, by unfold idxI; rw [if_pos HE.out]; omega, rfl⟩, HB.out⟩
      | false =>
        rw [hs] at HN HH
        have HN2 := Lib.hid (show hasI (xs.take (i + 1)) id = false by rw [HN.out, HS.out]; rfl)
        clear hs
        go_wp2_with fail
        refine HH.out.mono ?_
        rintro e w1 ⟨rfl, hb1⟩
        have HB := Lib.hid (chain HB.out hb1)
        clear hb1
        go_wp2_with fail
        go_roundw
        case rel => exact ⟨i + 1, hlt, by go_num, HN2, HB⟩
        case measure => simp [intOf] <;> omega
    · obtain rfl : i = l := Nat.le_antisymm hi (Nat.le_of_not_lt hlt)
      have hlt' : ¬ (i : Int) < (i : Int) := Int.lt_irrefl _
      have HE := Lib.hid (show hasI xs id = false by have := HS.out; rwa [List.take_of_length_le (by rw [HXl.out]; exact Nat.le_refl _)] at this)
      go_wp2_with fail
      go_ret
      exact ⟨⟨-1, by unfold idxI; rw [HE.out]; rfl, rfl⟩, HB.out⟩
theorem containsF_any (id g : Nat) (A : Option Addr) (l c : Nat) (xs : List SymR) (w : World) (hx : Syms w A l xs) (hl : l ≤ maxLen) (hc : w.cell? ⟨g, 0, none⟩ = some (.int .u64 (id : Int))) (hg : g < w.heap.size) :
    Calls Tryz.prog 56 #[.slice A l c, .func (.func 57) #[] #[.pointer (some ⟨g, 0, none⟩)]] w fun e w' => e = .returned (.bool (hasI xs id)) ∧ Below w.heap.size w w' := by
  have HI := Lib.hid (indexF_any id g A l c xs w hx hl hc hg)
  clear hx hc
  go_enter Tryz.func56, Tryz.ntmps56
  go_wp2_with fail
  refine HI.out.mono ?_
  rintro e w1 ⟨⟨i, hi, rfl⟩, hb⟩
  unfold idxI at hi
  cases hh : hasI xs id with
  | true =>
    rw [hh, if_pos rfl] at hi
    go_wp2_with fail
    go_ret
    exact ⟨by simp [hi, hh], hb⟩
  | false =>
    rw [hh] at hi
    have hi : i = -1 := hi
    subst hi
    go_wp2_with fail
    go_ret
    exact ⟨by simp [hh], hb⟩
theorem ehas_any (id : Nat) (A : Option Addr) (l c : Nat) (xs : List SymR) (w : World) (hx : Syms w A l xs) (hl : l ≤ maxLen) :
    Calls Tryz.prog 43 #[.slice A l c, .int .u64 (id : Int)] w fun e w' => e = .returned (.bool (hasI xs id)) ∧ Below w.heap.size w w' := by
  have b1 : Below w.heap.size w (w.alloc (.cells #[.int .u64 (id : Int)] 44)) := (Below.refl _ _).alloc (Nat.le_refl _) _
  have B := Box.new w 44 #[.int .u64 (id : Int)]
  have HC := Lib.hid (containsF_any id w.heap.size A l c xs _ (hx.below b1) hl (B.cell 0) B.lt)
  have HB := Lib.hid b1
  clear hx b1 B
  go_enter Tryz.func43, Tryz.ntmps43
  go_wp2_with fail
  refine HC.out.mono ?_
  rintro e w1 ⟨rfl, hb⟩
  have HB := Lib.hid (chain HB.out hb)
  clear hb
  go_wp2_with fail
  go_ret
  exact ⟨by simp, HB.out⟩
theorem twice_snoc (xs : List SymR) (k : Nat) (h : k < xs.length) : (List.range (k + 1)).any (fun i => hasI (xs.take i) (xs.getD i default).1) = ((List.range k).any (fun i => hasI (xs.take i) (xs.getD i default).1) || hasI (xs.take k) (xs.getD k default).1) := by
  rw [List.range_succ]; simp
theorem twice_up (xs : List SymR) (k : Nat) (hk : k < xs.length) (h : hasI (xs.take k) (xs.getD k default).1 = true) : twiceB xs = true := by
  unfold twiceB
  rw [List.any_eq_true]
  exact ⟨k, List.mem_range.2 hk, h⟩
theorem twice_any (A : Option Addr) (l c : Nat) (xs : List SymR) (w : World) (hx : Syms w A l xs) (hl : l ≤ c) (hc : c ≤ maxLen) :
    Calls Tryz.prog 36 #[.slice A l c] w fun e w' => e = .returned (.bool (twiceB xs)) ∧ Below w.heap.size w w' := by
  have hcm := hc
  unfold maxLen at hc
  have HX := Lib.hid hx
  have HXl := Lib.hid hx.1
  clear hx
  go_enter Tryz.func36, Tryz.ntmps36
  go_wp2_with fail
  go_loopw [7] (fun t wr => ∃ i : Nat, i ≤ l ∧ t = .int .i64 (i : Int) ∧ Hid ((List.range i).any (fun i => hasI (xs.take i) (xs.getD i default).1) = false) ∧ Hid (Below w.heap.size w wr)) (fun t _ => l - (intOf t).toNat)
  case atStart => exact ⟨0, Nat.zero_le _, rfl, Lib.hid rfl, Lib.hid (Below.refl _ _)⟩
  case round =>
    obtain ⟨i, hi, rfl, HS, HB⟩ := hrel
    by_cases hlt : i < l
    · have hlt' : (i : Int) < (l : Int) := Int.ofNat_lt.2 hlt
      obtain ⟨b, off, rfl, hb, x0, x1⟩ := HX.out.two i hlt
      have x0 := (HB.out.cell (p := ⟨b, off + i * 2, none⟩) hb).trans x0
      have x1 := (HB.out.cell (p := ⟨b, off + i * 2 + 1, none⟩) hb).trans x1
      have HN := Lib.hid (twice_snoc xs i (by rw [HXl.out]; exact hlt))
      have HU := Lib.hid (twice_up xs i (by rw [HXl.out]; exact hlt))
      have G := Lib.hid (Box.new wr 46 #[.int .u64 ((xs.getD i default).1 : Nat), .string (xs.getD i default).2])
      have HB := Lib.hid (HB.out.alloc HB.out.size (.cells #[.int .u64 ((xs.getD i default).1 : Nat), .string (xs.getD i default).2] 46))
      have HT := Lib.hid ((HX.out.take i (by omega)).mono (Nat.le_refl _) HB.out)
      have HH := Lib.hid (ehas_any (xs.getD i default).1 (some ⟨b, off, none⟩) i c (xs.take i) _ HT.out.drew (by omega))
      obtain ⟨g0, g1, -, -⟩ := G.out.two
      have i1 : (i : Int) ≤ (c : Int) := by omega
      generalize xs.getD i default = p at *
      obtain ⟨p0, p1⟩ := p
      dsimp only at x0 x1 G HB HN HU HH g0 g1
      cases hs : hasI (xs.take i) p0 with
      | true =>
        rw [hs] at HH
        have HE := Lib.hid (HU.out hs)
        clear hs
        go_wp2_with fail
        go_region_with (go_at_call 43; refine HH.out.mono ?_; rintro e w1 ⟨rfl, hb1⟩; have HB := Lib.hid (chain HB.out.drew hb1); clear hb1)
        all_goals
          go_wp2_with fail
          go_ret
          exact ⟨by rw [HE.out]; rfl, HB.out⟩
      | false =>
        rw [hs] at HN HH
        have HN2 := Lib.hid (show (List.range (i + 1)).any (fun i => hasI (xs.take i) (xs.getD i default).1) = false by rw [HN.out, HS.out]; rfl)
        clear hs
        go_wp2_with fail
        go_region_with (go_at_call 43; refine HH.out.mono ?_; rintro e w1 ⟨rfl, hb1⟩; have HB := Lib.hid (chain HB.out.drew hb1); clear hb1)
        all_goals
          go_wp2_with fail
          go_roundw
          case rel => exact ⟨i + 1, hlt, by go_num, HN2, HB⟩
          case measure => simp [intOf] <;> omega
    · obtain rfl : i = l := Nat.le_antisymm hi (Nat.le_of_not_lt hlt)
      have hlt' : ¬ (i : Int) < (i : Int) := Int.lt_irrefl _
      have HE := Lib.hid (show twiceB xs = false by unfold twiceB; rw [HXl.out]; exact HS.out)
      go_wp2_with fail
      go_ret
      exact ⟨by rw [HE.out]; rfl, HB.out⟩
/-- What is told first. -/
def firstI : List Int → Int
  | [] => 0
  | a :: t => if a = 0 then firstI t else a
theorem firstI_at (ans : List Int) (k : Nat) (h : k < ans.length) (h0 : ∀ i, i < k → ans.getD i 0 = 0) (hk : ans.getD k 0 ≠ 0) : firstI ans = ans.getD k 0 := by
  induction ans generalizing k with
  | nil => cases h
  | cons a t ih =>
    cases k with
    | zero => unfold firstI; rw [if_neg (by simpa using hk)]; rfl
    | succ k =>
      have ha : a = 0 := h0 0 (by omega)
      unfold firstI
      rw [if_pos ha, ih k (by simpa using h) (fun i hi => h0 (i + 1) (by omega)) (by simpa using hk)]; rfl
theorem firstI_none (ans : List Int) (h0 : ∀ i, i < ans.length → ans.getD i 0 = 0) : firstI ans = 0 := by
  induction ans with
  | nil => rfl
  | cons a t ih =>
    have ha : a = 0 := h0 0 (by simp)
    unfold firstI
    rw [if_pos ha, ih (fun i hi => h0 (i + 1) (by simpa using hi))]
/-- What first asks of those that it asks. -/
structure AskedOf (P : Program) (w : World) (b off : Nat) (fs : Nat → Nat × Array Value) (ans : List Int) : Prop where
  lt : b < w.heap.size
  cell : ∀ j, j < ans.length → w.cell? ⟨b, off + j, none⟩ = some (.func (.func (fs j).1) #[] (fs j).2)
  enters : ∀ j, j < ans.length → ∀ args w, (callFunc (fs j).1 args).run P w = .ok (.enter (fs j).1 args) w
  tells : ∀ j, j < ans.length → ∀ w', Below w.heap.size w w' → (∀ i, i < j → ans.getD i 0 = 0) → Calls P (fs j).1 (fs j).2 w' fun e w'' => e = .returned (.int .i64 (ans.getD j 0)) ∧ Below w'.heap.size w' w''
theorem efirst_any (b off c : Nat) (fs : Nat → Nat × Array Value) (ans : List Int) (w : World) (hl : ans.length ≤ 100) (h : AskedOf Tryz.prog w b off fs ans) :
    Calls Tryz.prog 26 #[.slice (some ⟨b, off, none⟩) ans.length c] w fun e w' => e = .returned (.int .i64 (firstI ans)) ∧ Below w.heap.size w w' := by
  have H := Lib.hid h
  have hblt := h.lt
  clear h
  have F1 := Lib.hid (firstI_at ans)
  have F2 := Lib.hid (firstI_none ans)
  generalize firstI ans = r at *
  go_enter Tryz.func26, Tryz.ntmps26
  go_wp2_with fail
  go_loopw [8] (fun t wr => ∃ i : Nat, i ≤ ans.length ∧ t = .int .i64 (i : Int) ∧ Hid (∀ j, j < i → ans.getD j 0 = 0) ∧ Hid (Below w.heap.size w wr)) (fun t _ => ans.length - (intOf t).toNat)
  case atStart => exact ⟨0, Nat.zero_le _, rfl, Lib.hid (fun j hj => absurd hj (Nat.not_lt_zero _)), Lib.hid (Below.refl _ _)⟩
  case round =>
    obtain ⟨i, hi, rfl, HS, HB⟩ := hrel
    by_cases hlt : i < ans.length
    · have hlt' : (i : Int) < (ans.length : Int) := Int.ofNat_lt.2 hlt
      have x0 := (HB.out.cell (p := ⟨b, off + i, none⟩) hblt).trans (H.out.cell i hlt)
      have eg := H.out.enters i hlt
      have HT := Lib.hid (H.out.tells i hlt wr HB.out HS.out)
      have HF := Lib.hid (F1.out i hlt HS.out)
      obtain ⟨v, ev⟩ : ∃ v, ans.getD i 0 = v := ⟨_, rfl⟩
      have HS2 := Lib.hid (fun (h0 : v = 0) j (hj : j < i + 1) => show ans.getD j 0 = 0 by
        by_cases hji : j < i
        · exact HS.out j hji
        · rw [show j = i by omega, ev]; exact h0)
      rw [ev] at HT HF
      clear ev
      generalize (fs i).1 = g at *
      generalize (fs i).2 = cb at *
      by_cases hv : v = 0
      · have HS3 := Lib.hid (HS2.out hv)
        subst hv
        go_wp2_with (go_at_fn g; refine HT.out.mono ?_; rintro e w1 ⟨rfl, hb1⟩; have HB := Lib.hid (chain HB.out hb1); clear hb1)
        go_roundw
        case rel => exact ⟨i + 1, hlt, by go_num, HS3, HB⟩
        case measure => simp [intOf] <;> omega
      · have hv2 : (v == 0) = false := by simpa using hv
        have hv3 : (v != 0) = true := by simp [bne, hv2]
        have HE := Lib.hid (HF.out hv)
        clear hv
        go_wp2_with (go_at_fn g; refine HT.out.mono ?_; rintro e w1 ⟨rfl, hb1⟩; have HB := Lib.hid (chain HB.out hb1); clear hb1)
        go_ret
        exact ⟨by rw [HE.out]; rfl, HB.out⟩
    · obtain rfl : i = ans.length := Nat.le_antisymm hi (Nat.le_of_not_lt hlt)
      have hlt' : ¬ (ans.length : Int) < (ans.length : Int) := Int.lt_irrefl _
      have HE := Lib.hid (F2.out HS.out)
      go_wp2_with fail
      go_ret
      exact ⟨by rw [HE.out]; rfl, HB.out⟩
end
section
/- Contracts of package bitrow's small functions: lengthMayBe, wordsFor, isPlace, Right. -/
set_option linter.unusedVariables false
set_option linter.unusedSimpArgs false
open Go.RowKit
theorem quiet_w {P : Program} {f : FuncId} {args : Array Value} {w : World} {n : Nat} {v : Value}
    (h : Calls P f args (w.drewN n) fun e w' => e = .returned v ∧ w.drewN n = w') : Calls P f args (w.drewN n) fun e w'' => e = .returned v ∧ ∃ m, w'' = w.drewN m :=
  h.mono fun _ _ ⟨he, hm⟩ => ⟨he, n, hm.symm⟩
def lmb (n : Int) : Bool := decide (0 ≤ n) && decide (n ≤ 512)
theorem lmb_iff (n : Int) : lmb n = true ↔ 0 ≤ n ∧ n ≤ 512 := by simp [lmb]
theorem lmb_no (n : Int) : lmb n = false ↔ ¬ (0 ≤ n ∧ n ≤ 512) := by rw [← lmb_iff]; simp
theorem lengthMayBe_any (n : Int) (w : World) : Calls Tryz.prog 83 #[.int .i64 n] w fun e w' => e = .returned (.bool (lmb n)) ∧ w = w' := by
  by_cases h : 0 ≤ n
  · by_cases h2 : n ≤ 512
    · have e : lmb n = true := (lmb_iff n).2 ⟨h, h2⟩
      rw [e]; clear e
      go_enter Tryz.func83, Tryz.ntmps83
      go_wp2
      go_ret
      exact ⟨rfl, rfl⟩
    · have e : lmb n = false := (lmb_no n).2 (by omega)
      rw [e]; clear e
      have t : decide (n ≤ 512) = false := by simpa using h2
      go_enter Tryz.func83, Tryz.ntmps83
      go_wp2
      go_ret
      exact ⟨by simp, rfl⟩
  · have e : lmb n = false := (lmb_no n).2 (by omega)
    rw [e]; clear e
    have t : decide (0 ≤ n) = false := by simpa using h
    go_enter Tryz.func83, Tryz.ntmps83
    go_wp2
    go_ret
    exact ⟨by simp, rfl⟩
def nw (n : Nat) : Nat := (n + 63) / 64
theorem wordsFor_any (n : Nat) (h : n ≤ 512) (w : World) : Calls Tryz.prog 84 #[.int .i64 n] w fun e w' => e = .returned (.int .i64 (nw n)) ∧ w = w' := by
  go_enter Tryz.func84, Tryz.ntmps84
  go_wp2
  go_ret
  exact ⟨congrArg (fun z => Ending.returned (.int .i64 z)) (by unfold nw; omega), rfl⟩
theorem isPlace_any (n : Int) (A : Option Addr) (l c : Nat) (i : Int) (w : World) : Calls Tryz.prog 67 #[.agg #[.int .i64 n, .slice A l c], .int .i64 i] w fun e w' => e = .returned (.bool (decide (0 ≤ i) && decide (i < n))) ∧ Below w.heap.size w w' := by
  by_cases h : 0 ≤ i
  · have t : decide (0 ≤ i) = true := by simpa using h
    rw [t, Bool.true_and]; clear t
    go_enter Tryz.func67, Tryz.ntmps67
    go_wp2
    all_goals go_ret
    all_goals exact ⟨rfl, (Below.refl _ _).alloc (Nat.le_refl _) _⟩
  · have t : decide (0 ≤ i) = false := by simpa using h
    rw [t, Bool.false_and]
    go_enter Tryz.func67, Tryz.ntmps67
    go_wp2
    all_goals go_ret
    all_goals exact ⟨rfl, (Below.refl _ _).alloc (Nat.le_refl _) _⟩
def rightB (n : Int) (ws : List Nat) : Bool := lmb n && (ws.length == nw n.toNat) && (n.toNat % 64 == 0 || (ws.getD (ws.length - 1) 0) / 2 ^ (n.toNat % 64) == 0)
theorem shr_zero (x k : Nat) : (((x : Int) / 2 ^ k) == 0) = (x / 2 ^ k == 0) := by
  rw [Bool.eq_iff_iff]
  have e : (x : Int) / 2 ^ k = ((x / 2 ^ k : Nat) : Int) := by simp [Int.natCast_ediv]
  rw [e]
  simp only [beq_iff_eq]
  omega
theorem right_out (n : Int) (A : Option Addr) (l c : Nat) (h : lmb n = false) (w : World) :
    Calls Tryz.prog 74 #[.agg #[.int .i64 n, .slice A l c]] w fun e w' => e = .returned (.bool false) ∧ Below w.heap.size w w' := by
  have H := Lib.hid (lengthMayBe_any n)
  go_enter Tryz.func74, Tryz.ntmps74
  go_wp2_with fail
  go_quiet ((go_at_call 83; exact quiet_w (H.out _)))
  go_wp2
  go_ret
  exact ⟨rfl, bdN ((Below.refl _ _).alloc (Nat.le_refl _) _) _⟩
theorem right_len (n : Nat) (A : Option Addr) (l c : Nat) (h : lmb n = true) (hl : l ≠ nw n) (w : World) :
    Calls Tryz.prog 74 #[.agg #[.int .i64 n, .slice A l c]] w fun e w' => e = .returned (.bool false) ∧ Below w.heap.size w w' := by
  have hn := (lmb_iff n).1 h
  have H := Lib.hid (lengthMayBe_any n)
  have H2 := Lib.hid (wordsFor_any n (by omega))
  have t : ((l : Int) != (nw n : Int)) = true := by rw [bne_iff_ne]; omega
  go_enter Tryz.func74, Tryz.ntmps74
  go_wp2_with fail
  go_quiet ((first | (go_at_call 83; exact quiet_w (H.out _)) | (go_at_call 84; exact quiet_w (H2.out _))))
  go_wp2
  go_ret
  exact ⟨rfl, bdN ((Below.refl _ _).alloc (Nat.le_refl _) _) _⟩
theorem right_full (n : Nat) (A : Option Addr) (l c : Nat) (h : lmb n = true) (hl : l = nw n) (hm : n % 64 = 0) (w : World) :
    Calls Tryz.prog 74 #[.agg #[.int .i64 n, .slice A l c]] w fun e w' => e = .returned (.bool true) ∧ Below w.heap.size w w' := by
  have hn := (lmb_iff n).1 h
  have H := Lib.hid (lengthMayBe_any n)
  have H2 := Lib.hid (wordsFor_any n (by omega))
  subst hl
  have t : ((nw n : Int) != (nw n : Int)) = false := by simp
  have t2 : ((n : Int) % 64 == 0) = true := by simp; omega
  clear hm
  go_enter Tryz.func74, Tryz.ntmps74
  go_wp2_with fail
  go_quiet ((first | (go_at_call 83; exact quiet_w (H.out _)) | (go_at_call 84; exact quiet_w (H2.out _))))
  go_wp2
  go_ret
  exact ⟨rfl, bdN ((Below.refl _ _).alloc (Nat.le_refl _) _) _⟩
theorem right_part (n : Nat) (A : Option Addr) (l c : Nat) (ws : List Nat) (h : lmb n = true) (hl : l = nw n) (hm : n % 64 ≠ 0) (w : World) (hw : Words w A l ws) :
    Calls Tryz.prog 74 #[.agg #[.int .i64 n, .slice A l c]] w fun e w' => e = .returned (.bool (ws.getD (l - 1) 0 / 2 ^ (n % 64) == 0)) ∧ Below w.heap.size w w' := by
  have hn := (lmb_iff n).1 h
  have H := Lib.hid (lengthMayBe_any n)
  have H2 := Lib.hid (wordsFor_any n (by omega))
  have hp : 0 < nw n := by unfold nw; omega
  subst hl
  obtain ⟨b, off, rfl, hlt, hc⟩ := hw.2.2 hp
  have hx := hw.2.1 (nw n - 1)
  have c1 := hc (nw n - 1) (by omega)
  generalize ws.getD (nw n - 1) 0 = x at *
  have hnw : nw n ≤ 8 := by unfold nw; omega
  have t : ((nw n : Int) != (nw n : Int)) = false := by simp
  have t2 : ((n : Int) % 64 == 0) = false := by simp; omega
  clear hc hw
  go_enter Tryz.func74, Tryz.ntmps74
  go_wp2_with fail
  go_quiet ((first | (go_at_call 83; exact quiet_w (H.out _)) | (go_at_call 84; exact quiet_w (H2.out _))))
  go_wp2
  go_ret
  refine ⟨congrArg (fun z => Ending.returned (.bool z)) ?_, bdN ((Below.refl _ _).alloc (Nat.le_refl _) _) _⟩
  exact shr_zero x (n % 64)
theorem right_any (n : Int) (A : Option Addr) (l c : Nat) (ws : List Nat) (w : World) (hw : Words w A l ws) :
    Calls Tryz.prog 74 #[.agg #[.int .i64 n, .slice A l c]] w fun e w' => e = .returned (.bool (rightB n ws)) ∧ Below w.heap.size w w' := by
  unfold rightB
  cases h : lmb n with
  | false => simpa using right_out n A l c h w
  | true =>
    have hn := (lmb_iff n).1 h
    obtain ⟨m, rfl⟩ := Int.eq_ofNat_of_zero_le hn.1
    rw [Int.toNat_natCast, hw.1]
    by_cases hl : l = nw m
    · have e1 : (l == nw m) = true := by simpa using hl
      rw [e1]
      by_cases hm : m % 64 = 0
      · have e2 : (m % 64 == 0) = true := by simpa using hm
        rw [e2]
        exact right_full m A l c h hl hm w
      · have e2 : (m % 64 == 0) = false := by simpa using hm
        rw [e2]
        exact right_part m A l c ws h hl hm w hw
    · have e1 : (l == nw m) = false := by simpa using hl
      rw [e1]
      exact right_len m A l c h hl w
end
section
/- Contract of the statements' few: a row with at most ten words. -/
set_option linter.unusedVariables false
set_option linter.unusedSimpArgs false
open Go.RowKit
/-- What a call that answers a row leaves. -/
def OneRow (n : Int) (zs : List Nat) (w : World) (e : Ending) (w' : World) : Prop :=
  ∃ A l c, e = .returned (.agg #[.int .i64 n, .slice A l c]) ∧ Words w' A l zs ∧ Below w.heap.size w w'
/-- A slice value as Go has it: nil is empty, without capacity. -/
def SliceOk (A : Option Addr) (l c : Nat) : Prop := l ≤ c ∧ c ≤ maxLen ∧ (A = none → l = 0 ∧ c = 0)
end
section
/- How a slice of words and a slice of ints that came in are opened (without rows). -/
set_option linter.unusedVariables false
set_option linter.unusedSimpArgs false
open Go.RowKit Go.Joins Go.ChangeShapes Go.WideShapes
theorem cellsU64 : Tryz.prog.cellsOf 44 = 1 := by kernel_rfl
theorem cellsInt : Tryz.prog.cellsOf 3 = 1 := by kernel_rfl
theorem addr_at {w : World} {a : Addr} {v : Value} (h : w.cell? (a.add 0) = some v) : ∃ b o, a = ⟨b, o, none⟩ := by
  obtain ⟨b, o, s⟩ := a
  have := World.cell?_spot h
  simp [Addr.add] at this
  subst this
  exact ⟨b, o, rfl⟩
theorem open_words {H : Type} {enc : TypeId × Value → H} {W : World} {fuel : Nat} {cs : List Value} {x : DataW H × List MemPlace}
    (h : DataW.trod enc Tryz.prog W 0 (fun _ => true) true fuel 47 cs = some x) : ∃ A l c us, cs = [.slice A l c] ∧ SliceOk A l c ∧ Words W A l us := by
  rcases open_ints Tryz.underlying47 Tryz.underlying44 cellsU64 h with ⟨hcs, _⟩ | ⟨a, len, cap, zs, hcs, _, hl, hm, hz, _, hcell, hwz⟩
  · exact ⟨none, 0, 0, [], hcs, ⟨Nat.le_refl _, Nat.zero_le _, fun _ => ⟨rfl, rfl⟩⟩, Words.nil _ _⟩
  · have hz' : zs.length = cap := by simpa using hz
    refine ⟨some a, len, cap, (zs.take len).map Int.toNat, hcs, ⟨hl, hm, fun h => by cases h⟩, ?_⟩
    have hget : ∀ j, j < len → ((zs.take len).map Int.toNat).getD j 0 = (zs.getD j 0).toNat := fun j hj => by
      have : j < zs.length := by omega
      simp [List.getD, hj, this]
    have hbd := range_u64 hwz
    refine ⟨by simp; omega, fun j => ?_, fun hp => ?_⟩
    · by_cases hj : j < len
      · rw [hget j hj]
        have := hbd j
        simp only [List.getD]
        omega
      · have hn : ((zs.take len).map Int.toNat)[j]? = none := List.getElem?_eq_none (by simp; omega)
        simp only [List.getD, hn, Option.getD_none]
        omega
    · obtain ⟨b, o, rfl⟩ := addr_at (hcell 0 (by omega))
      have hadd : ∀ j, Addr.add { block := b, off := o } j = ⟨b, o + j, none⟩ := fun j => by
        by_cases h : j = 0 <;> simp [Addr.add, h]
      refine ⟨b, o, rfl, ?_, fun j hj => ?_⟩
      · have := block_lt_of_cell (hcell 0 (by omega))
        rw [hadd] at this
        exact this
      · have := hcell j (by omega)
        rw [hadd] at this
        rw [this, hget j hj]
        have := hbd j
        have e : ((zs.getD j 0).toNat : Int) = zs.getD j 0 := by simp only [List.getD]; omega
        rw [e]
theorem open_nums {H : Type} {enc : TypeId × Value → H} {W : World} {fuel : Nat} {cs : List Value} {x : DataW H × List MemPlace}
    (h : DataW.trod enc Tryz.prog W 0 (fun _ => true) true fuel 66 cs = some x) : ∃ A l c zs, cs = [.slice A l c] ∧ SliceOk A l c ∧ Ints W A l zs := by
  rcases open_ints Tryz.underlying66 Tryz.underlying3 cellsInt h with ⟨hcs, _⟩ | ⟨a, len, cap, zs, hcs, _, hl, hm, hz, _, hcell, hwz⟩
  · exact ⟨none, 0, 0, [], hcs, ⟨Nat.le_refl _, Nat.zero_le _, fun _ => ⟨rfl, rfl⟩⟩, Ints.nil _ _⟩
  · have hz' : zs.length = cap := by simpa using hz
    refine ⟨some a, len, cap, zs.take len, hcs, ⟨hl, hm, fun h => by cases h⟩, ?_⟩
    have hget : ∀ j, j < len → (zs.take len).getD j 0 = zs.getD j 0 := fun j hj => by
      simp [List.getD, hj]
    have hbd := range_i64 hwz
    refine ⟨by simp; omega, fun j => ?_, fun hp => ?_⟩
    · by_cases hj : j < len
      · rw [hget j hj]
        have := hbd j
        simpa only [List.getD] using this
      · have hn : (zs.take len)[j]? = none := List.getElem?_eq_none (by simp; omega)
        simp [List.getD, hn]
    · obtain ⟨b, o, rfl⟩ := addr_at (hcell 0 (by omega))
      have hadd : ∀ j, Addr.add { block := b, off := o } j = ⟨b, o + j, none⟩ := fun j => by
        by_cases h : j = 0 <;> simp [Addr.add, h]
      refine ⟨b, o, rfl, ?_, fun j hj => ?_⟩
      · have := block_lt_of_cell (hcell 0 (by omega))
        rw [hadd] at this
        exact this
      · have := hcell j (by omega)
        rw [hadd] at this
        rw [this, hget j hj]
end
section
/- How a store and a symbol that came in are opened. -/
set_option linter.unusedVariables false
set_option linter.unusedSimpArgs false
open Go.RowKit Go.Joins Go.ChangeShapes Go.WideShapes
set_option maxRecDepth 100000
theorem cellsSymO : Tryz.prog.cellsOf 46 = 2 := by kernel_rfl
theorem cellsStrO : Tryz.prog.cellsOf 9 = 1 := by kernel_rfl
theorem cellsStoreO : Tryz.prog.cellsOf 24 = 4 := by kernel_rfl
theorem array4O {α : Type} {cs : Array α} (h : cs.size = 4) : ∃ c0 c1 c2 c3, cs = #[c0, c1, c2, c3] := by
  obtain ⟨l⟩ := cs
  match l, h with
  | [c0, c1, c2, c3], _ => exact ⟨c0, c1, c2, c3, rfl⟩
theorem array2O {α : Type} {cs : Array α} (h : cs.size = 2) : ∃ c0 c1, cs = #[c0, c1] := by
  obtain ⟨l⟩ := cs
  match l, h with
  | [c0, c1], _ => exact ⟨c0, c1, rfl⟩
theorem u64_nat {a : Int} (h : (Lit.int .u64 a).wf = true) : ∃ n : Nat, a = (n : Int) ∧ n < 18446744073709551616 := by
  have := bounds_u64 h
  exact ⟨a.toNat, by omega, by omega⟩
/-- A slice of symbols that came in. -/
theorem open_syms {H : Type} {enc : TypeId × Value → H} {W : World} {fuel : Nat} {cs : List Value} {x : DataW H × List MemPlace}
    (h : DataW.trod enc Tryz.prog W 0 (fun _ => true) true fuel 22 cs = some x) : ∃ A l c xs, cs = [.slice A l c] ∧ SliceOk A l c ∧ Syms W A l xs ∧ ∀ j, (xs.getD j default).1 < 18446744073709551616 := by
  rcases Go.Deep.open_slice_pairs Tryz.underlying22 Tryz.underlying46 cellsSymO rfl rfl cellsU64 cellsStrO h with ⟨hcs, _⟩ | ⟨a, len, cap, m, n, V0, V1, D0, D1, P0, P1, hcs, _, hl, hm, hmm, _, hx⟩
  · exact ⟨none, 0, 0, [], hcs, ⟨Nat.le_refl _, Nat.zero_le _, fun _ => ⟨rfl, rfl⟩⟩, Recs.nil _ _, fun j => by simp [default]⟩
  · have hmm' : m = cap := by simpa using hmm
    have each : ∀ i, i < len → ∃ r : SymR, V0 i = .int .u64 (r.1 : Nat) ∧ V1 i = .string r.2 ∧ r.1 < 18446744073709551616 := fun i hi => by
      obtain ⟨h0, h1, h2, h3⟩ := hx i (by omega)
      obtain ⟨z, e0, -, wz⟩ := DataW.trod_int Tryz.underlying44 h2
      obtain ⟨s, e1, -, ws⟩ := DataW.trod_string Tryz.underlying9 h3
      obtain ⟨k, rfl, hk⟩ := u64_nat wz
      simp at e0 e1
      exact ⟨(k, s), e0, e1, hk⟩
    obtain ⟨q, hq⟩ := Go.Deep.choose_lt each
    have hg : ∀ j, j < len → ((List.range len).map q).getD j default = q j := fun j hj => by simp [List.getD, hj]
    refine ⟨some a, len, cap, (List.range len).map q, hcs, ⟨hl, hm, fun h => by cases h⟩, ⟨by simp, fun hp => ?_⟩, fun j => ?_⟩
    · obtain ⟨b, o, ha⟩ : ∃ b o, a = ⟨b, o, none⟩ := by
        have := (hx 0 (by omega)).1
        exact addr_at (by simpa using this)
      subst ha
      have hadd : ∀ j, Addr.add { block := b, off := o } j = ⟨b, o + j, none⟩ := fun j => by
        by_cases h : j = 0 <;> simp [Addr.add, h]
      refine ⟨b, o, rfl, ?_, fun j hj k v hv => ?_⟩
      · have := block_lt_of_cell (hx 0 (by omega)).1
        rw [hadd] at this
        exact this
      · obtain ⟨h0, h1, -, -⟩ := hx j (by omega)
        rw [hadd] at h0 h1
        obtain ⟨e0, e1, -⟩ := hq j hj
        rw [hg j hj] at hv
        match k, hv with
        | 0, hv =>
          simp [encS] at hv
          rw [Nat.add_zero, h0, e0, hv]
        | 1, hv =>
          simp [encS] at hv
          rw [Nat.add_assoc, h1, e1, hv]
    · by_cases hj : j < len
      · rw [hg j hj]; exact (hq j hj).2.2
      · have e : ((List.range len).map q).getD j default = default := by
          simp only [List.getD]
          rw [List.getElem?_eq_none (by simp; omega)]; rfl
        rw [e]; decide
theorem open_store {H : Type} {enc : TypeId × Value → H} {W : World} {r : Reach} {b0 : Nat} {v : Value} {d : DataW H} {p : List MemPlace}
    (hv : Value.okWide Tryz.prog W r b0 24 v) (h : DataW.Trod enc Tryz.prog W 0 (fun _ => true) true 24 v d p) :
    ∃ (k s c : Int) (A : Option Addr) (l n : Nat) (xs : List SymR), v = .agg #[.int .i64 k, .int .i64 s, .int .i64 c, .slice A l n] ∧ (Lit.int .i64 k).wf = true ∧ (Lit.int .i64 s).wf = true ∧ (Lit.int .i64 c).wf = true ∧ SliceOk A l n ∧ Syms W A l xs ∧ ∀ j, (xs.getD j default).1 < 18446744073709551616 := by
  obtain ⟨cs, rfl, hsz⟩ := okWide_struct Tryz.underlying24 hv
  obtain ⟨c0, c1, c2, c3, rfl⟩ := array4O (hsz.trans cellsStoreO)
  obtain ⟨fuel, hf⟩ := h
  obtain ⟨y0, y1, y2, y3, n, hx, _, h0, h1, h2, h3⟩ := trod_struct4 Tryz.underlying24 hf
  have eint : Tryz.prog.cellsOf 3 = 1 := by kernel_rfl
  have esl : Tryz.prog.cellsOf 22 = 1 := by kernel_rfl
  simp [Value.cells, eint, esl] at h0 h1 h2 h3
  obtain ⟨a0, e0, -, w0⟩ := DataW.trod_int Tryz.underlying3 h0
  obtain ⟨a1, e1, -, w1⟩ := DataW.trod_int Tryz.underlying3 h1
  obtain ⟨a2, e2, -, w2⟩ := DataW.trod_int Tryz.underlying3 h2
  obtain ⟨A, l, c, xs, e3, hs, hw, hb⟩ := open_syms h3
  simp at e0 e1 e2 e3
  subst e0 e1 e2 e3
  exact ⟨a0, a1, a2, A, l, c, xs, rfl, w0, w1, w2, hs, hw, hb⟩
theorem open_sym {H : Type} {enc : TypeId × Value → H} {W : World} {r : Reach} {b0 : Nat} {v : Value} {d : DataW H} {p : List MemPlace}
    (hv : Value.okWide Tryz.prog W r b0 46 v) (h : DataW.Trod enc Tryz.prog W 0 (fun _ => true) true 46 v d p) :
    ∃ (i : Nat) (t : ByteArray), v = .agg #[.int .u64 (i : Int), .string t] ∧ i < 18446744073709551616 ∧ t.size ≤ maxLen := by
  obtain ⟨cs, rfl, hsz⟩ := okWide_struct Tryz.underlying46 hv
  obtain ⟨c0, c1, rfl⟩ := array2O (hsz.trans cellsSymO)
  obtain ⟨fuel, hf⟩ := h
  obtain ⟨z0, z1, n', hx', _, g0, g1⟩ := trod_struct2 Tryz.underlying46 hf
  simp [Value.cells, cellsU64, cellsStrO] at g0 g1
  obtain ⟨a3, e3, -, w3⟩ := DataW.trod_int Tryz.underlying44 g0
  obtain ⟨a4, e4, -, w4⟩ := DataW.trod_string Tryz.underlying9 g1
  obtain ⟨k, rfl, hk⟩ := u64_nat w3
  simp at e3 e4
  subst e3 e4
  exact ⟨k, a4, rfl, hk, w4⟩
end
section
/- Contracts of layer 12: Right. -/
set_option linter.unusedVariables false
set_option linter.unusedSimpArgs false
open Go.RowKit
set_option maxRecDepth 100000
def kB (x a b : Int) : Bool := decide (a ≤ x) && decide (x ≤ b)
def storeB (k s c : Int) (xs : List SymR) : Bool := kB k 1 64 && kB s 0 64 && kB c 1 64 && decide ((xs.length : Int) ≤ c) && allB s xs && !twiceB xs
/-- A store's box: four cells. -/
def storeC (k s c : Int) (A : Option Addr) (l d : Nat) : Array Value := #[.int .i64 k, .int .i64 s, .int .i64 c, .slice A l d]
theorem Box.four {w : World} {g : Nat} {t : TypeId} {a b c d : Value} (h : Box w g t #[a, b, c, d]) : w.cell? ⟨g, 0, none⟩ = some a ∧ w.cell? ⟨g, 1, none⟩ = some b ∧ w.cell? ⟨g, 2, none⟩ = some c ∧ w.cell? ⟨g, 3, none⟩ = some d ∧ w.frozen? ⟨g, 0, none⟩ = false ∧ w.frozen? ⟨g, 1, none⟩ = false ∧ w.frozen? ⟨g, 2, none⟩ = false ∧ w.frozen? ⟨g, 3, none⟩ = false :=
  ⟨h.cell 0, h.cell 1, h.cell 2, h.cell 3, h.free 0, h.free 1, h.free 2, h.free 3⟩
section
variable (k s c : Int) (A : Option Addr) (l d g : Nat) (w : World) (xs : List SymR)
theorem right1_any (hb : Box w g 24 #[.int .i64 k, .int .i64 s, .int .i64 c, .slice A l d]) :
    Calls Tryz.prog 27 #[.pointer (some ⟨g, 0, none⟩)] w fun e w' => e = .returned (.int .i64 (whenI (!kB k 1 64) 1)) ∧ Below w.heap.size w w' := by
  obtain ⟨h0, h1, h2, h3, -, -, -, -⟩ := hb.four
  have HW := Lib.hid (within_any k 1 64 w)
  have hk : (decide (1 ≤ k) && decide (k ≤ 64)) = kB k 1 64 := rfl
  rw [hk] at HW
  clear hk
  generalize kB k 1 64 = b at *
  go_enter Tryz.func27, Tryz.ntmps27
  go_wp2_with fail
  refine HW.out.mono ?_
  rintro e w1 ⟨rfl, rfl⟩
  go_wp2_with fail
  refine (when_any (!b) 1 _).mono ?_
  rintro e w1 ⟨rfl, rfl⟩
  go_wp2_with fail
  go_ret
  exact ⟨rfl, Below.refl _ _⟩
theorem right2_any (hb : Box w g 24 #[.int .i64 k, .int .i64 s, .int .i64 c, .slice A l d]) :
    Calls Tryz.prog 30 #[.pointer (some ⟨g, 0, none⟩)] w fun e w' => e = .returned (.int .i64 (whenI (!kB s 0 64) 1)) ∧ Below w.heap.size w w' := by
  obtain ⟨h0, h1, h2, h3, -, -, -, -⟩ := hb.four
  have HW := Lib.hid (within_any s 0 64 w)
  have hk : (decide (0 ≤ s) && decide (s ≤ 64)) = kB s 0 64 := rfl
  rw [hk] at HW
  clear hk
  generalize kB s 0 64 = b at *
  go_enter Tryz.func30, Tryz.ntmps30
  go_wp2_with fail
  refine HW.out.mono ?_
  rintro e w1 ⟨rfl, rfl⟩
  go_wp2_with fail
  refine (when_any (!b) 1 _).mono ?_
  rintro e w1 ⟨rfl, rfl⟩
  go_wp2_with fail
  go_ret
  exact ⟨rfl, Below.refl _ _⟩
theorem right3_any (hb : Box w g 24 #[.int .i64 k, .int .i64 s, .int .i64 c, .slice A l d]) :
    Calls Tryz.prog 31 #[.pointer (some ⟨g, 0, none⟩)] w fun e w' => e = .returned (.int .i64 (whenI (!kB c 1 64) 1)) ∧ Below w.heap.size w w' := by
  obtain ⟨h0, h1, h2, h3, -, -, -, -⟩ := hb.four
  have HW := Lib.hid (within_any c 1 64 w)
  have hk : (decide (1 ≤ c) && decide (c ≤ 64)) = kB c 1 64 := rfl
  rw [hk] at HW
  clear hk
  generalize kB c 1 64 = b at *
  go_enter Tryz.func31, Tryz.ntmps31
  go_wp2_with fail
  refine HW.out.mono ?_
  rintro e w1 ⟨rfl, rfl⟩
  go_wp2_with fail
  refine (when_any (!b) 1 _).mono ?_
  rintro e w1 ⟨rfl, rfl⟩
  go_wp2_with fail
  go_ret
  exact ⟨rfl, Below.refl _ _⟩
theorem right4_any (hb : Box w g 24 #[.int .i64 k, .int .i64 s, .int .i64 c, .slice A l d]) :
    Calls Tryz.prog 32 #[.pointer (some ⟨g, 0, none⟩)] w fun e w' => e = .returned (.int .i64 (whenI (decide (c < (l : Int))) 1)) ∧ Below w.heap.size w w' := by
  obtain ⟨h0, h1, h2, h3, -, -, -, -⟩ := hb.four
  by_cases hlt : c < (l : Int)
  · have ht : decide (c < (l : Int)) = true := decide_eq_true hlt
    rw [ht]
    go_enter Tryz.func32, Tryz.ntmps32
    go_wp2_with fail
    refine (when_any true 1 _).mono ?_
    rintro e w1 ⟨rfl, rfl⟩
    go_wp2_with fail
    go_ret
    exact ⟨rfl, Below.refl _ _⟩
  · have ht : decide (c < (l : Int)) = false := decide_eq_false hlt
    rw [ht]
    go_enter Tryz.func32, Tryz.ntmps32
    go_wp2_with fail
    refine (when_any false 1 _).mono ?_
    rintro e w1 ⟨rfl, rfl⟩
    go_wp2_with fail
    go_ret
    exact ⟨rfl, Below.refl _ _⟩
theorem right5_any (hb : Box w g 24 #[.int .i64 k, .int .i64 s, .int .i64 c, .slice A l d]) (hx : Syms w A l xs) (hl : l ≤ maxLen) :
    Calls Tryz.prog 33 #[.pointer (some ⟨g, 0, none⟩)] w fun e w' => e = .returned (.int .i64 (whenI (!allB s xs) 1)) ∧ Below w.heap.size w w' := by
  obtain ⟨h0, h1, h2, h3, -, -, -, -⟩ := hb.four
  have HA := Lib.hid (eallHave_any s A l d xs w hx hl)
  generalize allB s xs = b at *
  clear hx
  go_enter Tryz.func33, Tryz.ntmps33
  go_wp2_with fail
  refine HA.out.mono ?_
  rintro e w1 ⟨rfl, hb1⟩
  go_wp2_with fail
  refine (when_any (!b) 1 _).mono ?_
  rintro e w1 ⟨rfl, rfl⟩
  go_wp2_with fail
  go_ret
  exact ⟨rfl, hb1⟩
theorem right6_any (hb : Box w g 24 #[.int .i64 k, .int .i64 s, .int .i64 c, .slice A l d]) (hx : Syms w A l xs) (hl : l ≤ d) (hd : d ≤ maxLen) :
    Calls Tryz.prog 35 #[.pointer (some ⟨g, 0, none⟩)] w fun e w' => e = .returned (.int .i64 (whenI (twiceB xs) 1)) ∧ Below w.heap.size w w' := by
  obtain ⟨h0, h1, h2, h3, -, -, -, -⟩ := hb.four
  have HA := Lib.hid (twice_any A l d xs w hx hl hd)
  generalize twiceB xs = b at *
  clear hx
  go_enter Tryz.func35, Tryz.ntmps35
  go_wp2_with fail
  refine HA.out.mono ?_
  rintro e w1 ⟨rfl, hb1⟩
  go_wp2_with fail
  refine (when_any b 1 _).mono ?_
  rintro e w1 ⟨rfl, rfl⟩
  go_wp2_with fail
  go_ret
  exact ⟨rfl, hb1⟩
end
def rightAns (k s c : Int) (xs : List SymR) : List Int := [whenI (!kB k 1 64) 1, whenI (!kB s 0 64) 1, whenI (!kB c 1 64) 1, whenI (decide (c < (xs.length : Int))) 1, whenI (!allB s xs) 1, whenI (twiceB xs) 1]
theorem rightAns_ok (k s c : Int) (xs : List SymR) : (firstI (rightAns k s c xs) == 0) = storeB k s c xs := by
  unfold rightAns storeB
  have e : decide ((xs.length : Int) ≤ c) = !decide (c < (xs.length : Int)) := by rw [Bool.eq_iff_iff]; simp
  rw [e]
  cases kB k 1 64 <;> cases kB s 0 64 <;> cases kB c 1 64 <;> cases decide (c < (xs.length : Int)) <;> cases allB s xs <;> cases twiceB xs <;> rfl
def rightFs (g : Nat) : Nat → Nat × Array Value := fun j => ([27, 30, 31, 32, 33, 35].getD j 0, #[.pointer (some ⟨g, 0, none⟩)])
set_option maxHeartbeats 1000000 in
theorem eright_any (k s c : Int) (A : Option Addr) (l d : Nat) (xs : List SymR) (w : World) (hx : Syms w A l xs) (hl : l ≤ d) (hd : d ≤ maxLen) :
    Calls Tryz.prog 17 #[.agg #[.int .i64 k, .int .i64 s, .int .i64 c, .slice A l d]] w fun e w' => e = .returned (.bool (storeB k s c xs)) ∧ Below w.heap.size w w' := by
  have b1 : Below w.heap.size w ((w.alloc (.cells #[.int .i64 k, .int .i64 s, .int .i64 c, .slice A l d] 24)).alloc (.cells #[.func (.func 27) #[] #[.pointer (some ⟨w.heap.size, 0, none⟩)], .func (.func 30) #[] #[.pointer (some ⟨w.heap.size, 0, none⟩)], .func (.func 31) #[] #[.pointer (some ⟨w.heap.size, 0, none⟩)], .func (.func 32) #[] #[.pointer (some ⟨w.heap.size, 0, none⟩)], .func (.func 33) #[] #[.pointer (some ⟨w.heap.size, 0, none⟩)], .func (.func 35) #[] #[.pointer (some ⟨w.heap.size, 0, none⟩)]] 61)) := ((Below.refl _ _).alloc (Nat.le_refl _) _).alloc (by simp) _
  have Q := (Box.new w 24 #[.int .i64 k, .int .i64 s, .int .i64 c, .slice A l d]).alloc (.cells #[.func (.func 27) #[] #[.pointer (some ⟨w.heap.size, 0, none⟩)], .func (.func 30) #[] #[.pointer (some ⟨w.heap.size, 0, none⟩)], .func (.func 31) #[] #[.pointer (some ⟨w.heap.size, 0, none⟩)], .func (.func 32) #[] #[.pointer (some ⟨w.heap.size, 0, none⟩)], .func (.func 33) #[] #[.pointer (some ⟨w.heap.size, 0, none⟩)], .func (.func 35) #[] #[.pointer (some ⟨w.heap.size, 0, none⟩)]] 61)
  have F := Box.new (w.alloc (.cells #[.int .i64 k, .int .i64 s, .int .i64 c, .slice A l d] 24)) 61 #[.func (.func 27) #[] #[.pointer (some ⟨w.heap.size, 0, none⟩)], .func (.func 30) #[] #[.pointer (some ⟨w.heap.size, 0, none⟩)], .func (.func 31) #[] #[.pointer (some ⟨w.heap.size, 0, none⟩)], .func (.func 32) #[] #[.pointer (some ⟨w.heap.size, 0, none⟩)], .func (.func 33) #[] #[.pointer (some ⟨w.heap.size, 0, none⟩)], .func (.func 35) #[] #[.pointer (some ⟨w.heap.size, 0, none⟩)]]
  simp only [World.size_alloc] at F
  have hX := hx.below b1
  have hxl := hx.1
  have hA : AskedOf Tryz.prog ((w.alloc (.cells #[.int .i64 k, .int .i64 s, .int .i64 c, .slice A l d] 24)).alloc (.cells #[.func (.func 27) #[] #[.pointer (some ⟨w.heap.size, 0, none⟩)], .func (.func 30) #[] #[.pointer (some ⟨w.heap.size, 0, none⟩)], .func (.func 31) #[] #[.pointer (some ⟨w.heap.size, 0, none⟩)], .func (.func 32) #[] #[.pointer (some ⟨w.heap.size, 0, none⟩)], .func (.func 33) #[] #[.pointer (some ⟨w.heap.size, 0, none⟩)], .func (.func 35) #[] #[.pointer (some ⟨w.heap.size, 0, none⟩)]] 61)) (w.heap.size + 1) 0 (rightFs w.heap.size) (rightAns k s c xs) := by
    refine ⟨F.lt, ?_, ?_, ?_⟩
    · intro j hj
      have hj : j < 6 := hj
      rw [Nat.zero_add, F.cell j]
      match j, hj with
      | 0, _ => rfl
      | 1, _ => rfl
      | 2, _ => rfl
      | 3, _ => rfl
      | 4, _ => rfl
      | 5, _ => rfl
    · intro j hj
      have hj : j < 6 := hj
      match j, hj with
      | 0, _ => exact enters_of Tryz.func27 (by kernel_rfl) rfl
      | 1, _ => exact enters_of Tryz.func30 (by kernel_rfl) rfl
      | 2, _ => exact enters_of Tryz.func31 (by kernel_rfl) rfl
      | 3, _ => exact enters_of Tryz.func32 (by kernel_rfl) rfl
      | 4, _ => exact enters_of Tryz.func33 (by kernel_rfl) rfl
      | 5, _ => exact enters_of Tryz.func35 (by kernel_rfl) rfl
    · intro j hj w' hb _
      have hj : j < 6 := hj
      have q := Q.keep hb
      have hX' := hX.below hb
      match j, hj with
      | 0, _ => exact right1_any k s c A l d w.heap.size w' q
      | 1, _ => exact right2_any k s c A l d w.heap.size w' q
      | 2, _ => exact right3_any k s c A l d w.heap.size w' q
      | 3, _ =>
        have h := right4_any k s c A l d w.heap.size w' q
        rw [← hxl] at h
        rw [← hxl] at q
        exact right4_any k s c A xs.length d w.heap.size w' q
      | 4, _ => exact right5_any k s c A l d w.heap.size w' xs q hX' (Nat.le_trans hl hd)
      | 5, _ => exact right6_any k s c A l d w.heap.size w' xs q hX' hl hd
  have HC := Lib.hid (efirst_any (w.heap.size + 1) 0 6 (rightFs w.heap.size) (rightAns k s c xs) _ (by show 6 ≤ 100; omega) hA)
  have HR := Lib.hid (rightAns_ok k s c xs)
  have HB := Lib.hid b1
  rw [show (rightAns k s c xs).length = 6 from rfl] at HC
  generalize firstI (rightAns k s c xs) = r at *
  clear hA hX hx b1 Q F
  go_enter Tryz.func17, Tryz.ntmps17
  go_wp2_with fail
  refine HC.out.mono ?_
  rintro e w1 ⟨rfl, hb⟩
  have HB := Lib.hid (chain HB.out hb)
  clear hb
  go_wp2_with fail
  go_ret
  exact ⟨by rw [← HR.out]; rfl, HB.out⟩
end
section
/- Contracts of layer 12: New, Add. -/
set_option linter.unusedVariables false
set_option linter.unusedSimpArgs false
open Go.RowKit
set_option maxRecDepth 100000
theorem Box.put4 {w : World} {g : Nat} {t : TypeId} {a b c d a' b' c' d' : Value} (h : Box w g t #[a, b, c, d]) :
    Box ((((w.setCell ⟨g, 0, none⟩ a').setCell ⟨g, 1, none⟩ b').setCell ⟨g, 2, none⟩ c').setCell ⟨g, 3, none⟩ d') g t #[a', b', c', d'] := (((h.put 0 a').put 1 b').put 2 c').put 3 d'
theorem below_set4 {B : Nat} {w x : World} (h : Below B w x) {g : Nat} (hg : B ≤ g) (a b c d : Value) : Below B w ((((x.setCell ⟨g, 0, none⟩ a).setCell ⟨g, 1, none⟩ b).setCell ⟨g, 2, none⟩ c).setCell ⟨g, 3, none⟩ d) :=
  (((h.setCell (p := ⟨g, 0, none⟩) hg a).setCell (p := ⟨g, 1, none⟩) hg b).setCell (p := ⟨g, 2, none⟩) hg c).setCell (p := ⟨g, 3, none⟩) hg d
theorem Recs.far4 {α : Type} [Inhabited α] {enc : α → List Value} {sz : Nat} {w : World} {A : Option Addr} {len : Nat} {xs : List α} (h : Recs enc sz w A len xs) {g : Nat} (hne : ∀ b off, A = some ⟨b, off, none⟩ → 0 < len → b ≠ g) (a b c d : Value) :
    Recs enc sz ((((w.setCell ⟨g, 0, none⟩ a).setCell ⟨g, 1, none⟩ b).setCell ⟨g, 2, none⟩ c).setCell ⟨g, 3, none⟩ d) A len xs := (((h.farB hne 0 a).farB hne 1 b).farB hne 2 c).farB hne 3 d
/-- A store and an error are returned. -/
def StoreOut (k s c : Int) (xs : List SymR) (er : Int) (w : World) (e : Ending) (w' : World) : Prop :=
  ∃ A d, e = .returned (.tuple #[.agg #[.int .i64 k, .int .i64 s, .int .i64 c, .slice A xs.length d], .int .i64 er]) ∧ Syms w' A xs.length xs ∧ xs.length ≤ d ∧ d ≤ maxLen ∧ (A = none → d = 0) ∧ Below w.heap.size w w'
def newK (b : Bool) (x : Int) : Int := if b then x else 0
def newE (b : Bool) : Int := if b then 0 else 2
section
variable (k s c : Int) (A : Option Addr) (l d g gx : Nat) (w : World) (xs : List SymR) (x : SymR)
theorem add1_any (hb : Box w g 24 #[.int .i64 k, .int .i64 s, .int .i64 c, .slice A l d]) (hx : Syms w A l xs) (hl : l ≤ d) (hd : d ≤ maxLen) :
    Calls Tryz.prog 40 #[.pointer (some ⟨g, 0, none⟩)] w fun e w' => e = .returned (.int .i64 (whenI (!storeB k s c xs) 1)) ∧ Below w.heap.size w w' := by
  obtain ⟨h0, h1, h2, h3, -, -, -, -⟩ := hb.four
  have HA := Lib.hid (eright_any k s c A l d xs w hx hl hd)
  generalize storeB k s c xs = b at *
  clear hx
  go_enter Tryz.func40, Tryz.ntmps40
  go_wp2_with fail
  refine HA.out.mono ?_
  rintro e w1 ⟨rfl, hb1⟩
  go_wp2_with fail
  refine (when_any (!b) 1 _).mono ?_
  rintro e w1 ⟨rfl, rfl⟩
  go_wp2_with fail
  go_ret
  exact ⟨rfl, hb1⟩
theorem add2_any (hb : Box w g 24 #[.int .i64 k, .int .i64 s, .int .i64 c, .slice A l d]) (hbx : Box w gx 46 #[.int .u64 (x.1 : Int), .string x.2]) :
    Calls Tryz.prog 41 #[.pointer (some ⟨gx, 0, none⟩), .pointer (some ⟨g, 0, none⟩)] w fun e w' => e = .returned (.int .i64 (whenI ((x.2.size : Int) != s) 2)) ∧ Below w.heap.size w w' := by
  obtain ⟨h0, h1, h2, h3, -, -, -, -⟩ := hb.four
  obtain ⟨z0, z1, -, -⟩ := hbx.two
  have HW := Lib.hid (when_any ((x.2.size : Int) != s) 2 w)
  generalize ht : ((x.2.size : Int) != s) = t at *
  go_enter Tryz.func41, Tryz.ntmps41
  go_wp2_with fail
  refine HW.out.mono ?_
  rintro e w1 ⟨rfl, rfl⟩
  go_wp2_with fail
  go_ret
  exact ⟨rfl, Below.refl _ _⟩
theorem add3_any (hb : Box w g 24 #[.int .i64 k, .int .i64 s, .int .i64 c, .slice A l d]) (hbx : Box w gx 46 #[.int .u64 (x.1 : Int), .string x.2]) (hx : Syms w A l xs) (hl : l ≤ maxLen) :
    Calls Tryz.prog 42 #[.pointer (some ⟨g, 0, none⟩), .pointer (some ⟨gx, 0, none⟩)] w fun e w' => e = .returned (.int .i64 (whenI (hasI xs x.1) 8)) ∧ Below w.heap.size w w' := by
  obtain ⟨h0, h1, h2, h3, -, -, -, -⟩ := hb.four
  obtain ⟨z0, z1, -, -⟩ := hbx.two
  have HA := Lib.hid (ehas_any x.1 A l d xs w hx hl)
  generalize hasI xs x.1 = t at *
  clear hx
  go_enter Tryz.func42, Tryz.ntmps42
  go_wp2_with fail
  refine HA.out.mono ?_
  rintro e w1 ⟨rfl, hb1⟩
  go_wp2_with fail
  refine (when_any t 8 _).mono ?_
  rintro e w1 ⟨rfl, rfl⟩
  go_wp2_with fail
  go_ret
  exact ⟨rfl, hb1⟩
theorem add4_any (hb : Box w g 24 #[.int .i64 k, .int .i64 s, .int .i64 c, .slice A l d]) :
    Calls Tryz.prog 44 #[.pointer (some ⟨g, 0, none⟩)] w fun e w' => e = .returned (.int .i64 (whenI ((l : Int) == c) 7)) ∧ Below w.heap.size w w' := by
  obtain ⟨h0, h1, h2, h3, -, -, -, -⟩ := hb.four
  have HW := Lib.hid (when_any ((l : Int) == c) 7 w)
  generalize ht : ((l : Int) == c) = t at *
  go_enter Tryz.func44, Tryz.ntmps44
  go_wp2_with fail
  refine HW.out.mono ?_
  rintro e w1 ⟨rfl, rfl⟩
  go_wp2_with fail
  go_ret
  exact ⟨rfl, Below.refl _ _⟩
end
end
end Go.Proofs.YtmfhimeffmpgaaaGreat
