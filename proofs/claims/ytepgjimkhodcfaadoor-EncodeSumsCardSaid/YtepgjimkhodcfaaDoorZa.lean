/- Parts: Words, RndM, Rnd1, RngC, Rnd3. -/
import Derived.Deep.Draws
import Derived.IntWalk
import Derived.Lib.Hide
import Derived.LoopIn
import Derived.LoopNIn
import Derived.Outline
import Derived.OwnWalkIn
import Derived.RangeFuncBound
import Derived.RangeFuncBox
import Derived.RangeFuncCalls
import Derived.RangeFuncLeaves
import Derived.RangeFuncNested
import Derived.Shelf.Abstract
import Derived.Shelf.RegionOpen
import Derived.Sort.LoopGhostIn
import Derived.TacticsInMore
import Derived.Test.YtepgjimkhodcfaaDoorChecked
import Derived.WalkKit
namespace Go.Proofs.YtepgjimkhodcfaaDoor
section
/- Rows of 64-bit words in memory: what a slice of words reads, kept while old memory is kept. No program. -/
set_option linter.unusedVariables false
set_option linter.unusedSimpArgs false
open Go.RowKit
/-- The slice at A of len words reads ws, in blocks that are there. -/
def Words (w : World) (A : Option Addr) (len : Nat) (ws : List Nat) : Prop :=
  ws.length = len ∧ (∀ j, ws.getD j 0 < 18446744073709551616) ∧
    (0 < len → ∃ b off, A = some ⟨b, off, none⟩ ∧ b < w.heap.size ∧ ∀ j, j < len → w.cell? ⟨b, off + j, none⟩ = some (.int .u64 (ws.getD j 0 : Nat)))
theorem Words.below {w w' : World} {A : Option Addr} {len : Nat} {ws : List Nat} (h : Words w A len ws) (hb : Below w.heap.size w w') : Words w' A len ws := by
  refine ⟨h.1, h.2.1, fun hp => ?_⟩
  obtain ⟨b, off, rfl, hlt, hc⟩ := h.2.2 hp
  exact ⟨b, off, rfl, Nat.lt_of_lt_of_le hlt hb.size, fun j hj => (hb.cell (p := ⟨b, off + j, none⟩) hlt).trans (hc j hj)⟩
theorem Words.nil (w : World) (A : Option Addr) : Words w A 0 [] := ⟨rfl, by simp, fun h => by omega⟩
theorem Words.take {w : World} {A : Option Addr} {len : Nat} {ws : List Nat} (h : Words w A len ws) (k : Nat) (hk : k ≤ len) : Words w A k (ws.take k) := by
  refine ⟨by simp [h.1]; omega, fun j => ?_, fun hp => ?_⟩
  · by_cases hj : j < k
    · have := h.2.1 j
      simpa [List.getD, List.getElem?_take, hj] using this
    · simp [List.getD, List.getElem?_take, hj]
  · obtain ⟨b, off, rfl, hlt, hc⟩ := h.2.2 (by omega)
    refine ⟨b, off, rfl, hlt, fun j hj => ?_⟩
    rw [hc j (by omega)]
    simp [List.getD, List.getElem?_take, hj]
theorem Words.drew {w : World} {A : Option Addr} {len : Nat} {ws : List Nat} (h : Words w A len ws) : Words w.drew A len ws := h
theorem Words.alloc {w : World} {A : Option Addr} {len : Nat} {ws : List Nat} (h : Words w A len ws) (o : Obj) : Words (w.alloc o) A len ws :=
  h.below ((Below.refl _ _).alloc (Nat.le_refl _) _)
theorem Words.mono {w w' : World} {A : Option Addr} {len : Nat} {ws : List Nat} (h : Words w A len ws) {B : Nat} (hB : w.heap.size ≤ B) (hb : Below B w w') : Words w' A len ws :=
  h.below (hb.mono hB)
theorem bdN {B : Nat} {a w : World} (h : Below B a w) (n : Nat) : Below B a (w.drewN n) := ⟨h.os, h.tape, h.output, h.size, h.block⟩
/-- A chain of worlds that keep all that was there. -/
theorem chain {w w1 w2 : World} (h : Below w.heap.size w w1) (h2 : Below w1.heap.size w1 w2) : Below w.heap.size w w2 := h.trans (h2.mono h.size)
/-- A block that is known whole, and not frozen. -/
def Box (w : World) (g : Nat) (t : TypeId) (cs : Array Value) : Prop := w.heap[g]? = some (.cells cs t (0, 0))
section
variable {w w' : World} {g : Nat} {t : TypeId} {cs : Array Value}
theorem Box.lt (h : Box w g t cs) : g < w.heap.size := by
  rcases Nat.lt_or_ge g w.heap.size with hl | hg
  · exact hl
  · unfold Box at h; rw [Array.getElem?_eq_none hg] at h; cases h
theorem Box.cell (h : Box w g t cs) (i : Nat) : w.cell? ⟨g, i, none⟩ = cs[i]? := cell_of_row w g i cs t (0, 0) h
theorem Box.free (h : Box w g t cs) (i : Nat) : w.frozen? ⟨g, i, none⟩ = false := frozen_of_row w g i cs t h
theorem Box.new (w : World) (t : TypeId) (cs : Array Value) : Box (w.alloc (.cells cs t)) w.heap.size t cs := heap_alloc_new w _
theorem Box.alloc (h : Box w g t cs) (o : Obj) : Box (w.alloc o) g t cs := (Below.heap_alloc w o g h.lt).trans h
theorem Box.drew (h : Box w g t cs) : Box w.drew g t cs := h
theorem Box.drewN (h : Box w g t cs) (n : Nat) : Box (w.drewN n) g t cs := h
theorem Box.below {B : Nat} (h : Box w g t cs) (hb : Below B w w') (hg : g < B) : Box w' g t cs := (hb.block g hg).trans h
theorem Box.keep (h : Box w g t cs) (hb : Below w.heap.size w w') : Box w' g t cs := h.below hb h.lt
theorem Box.far (h : Box w g t cs) {p : Addr} (hp : g ≠ p.block) (u : Value) : Box (w.setCell p u) g t cs := (heap_setCell_other w p g u hp).trans h
theorem Box.put (h : Box w g t cs) (i : Nat) (u : Value) : Box (w.setCell ⟨g, i, none⟩ u) g t (cs.setIfInBounds i u) := heap_setCell_same w g i cs t u h
theorem Box.two {a b : Value} (h : Box w g t #[a, b]) : w.cell? ⟨g, 0, none⟩ = some a ∧ w.cell? ⟨g, 1, none⟩ = some b ∧ w.frozen? ⟨g, 0, none⟩ = false ∧ w.frozen? ⟨g, 1, none⟩ = false :=
  ⟨h.cell 0, h.cell 1, h.free 0, h.free 1⟩
/-- Both cells of a box stored anew. -/
theorem Box.put2 {a b u v : Value} (h : Box w g t #[a, b]) : Box ((w.setCell ⟨g, 0, none⟩ u).setCell ⟨g, 1, none⟩ v) g t #[u, v] := (h.put 0 u).put 1 v
end
/-- Numbers as cells. -/
def numsA (zs : List Nat) : Array Value := (zs.map fun (x : Nat) => Value.int .u64 (x : Int)).toArray
theorem numsA_get (zs : List Nat) (j : Nat) (h : j < zs.length) : (numsA zs)[j]? = some (.int .u64 (zs.getD j 0 : Nat)) := by
  simp [numsA, List.getD, h]
theorem numsA_set (zs : List Nat) (k x : Nat) : (numsA zs).setIfInBounds k (.int .u64 (x : Int)) = numsA (zs.set k x) := by
  simp [numsA, List.map_set]
theorem numsA_zero (n : Nat) : Array.replicate n (Value.int .u64 0) = numsA (List.replicate n 0) := by
  simp [numsA]
theorem Box.words {w : World} {g : Nat} {t : TypeId} {zs : List Nat} (h : Box w g t (numsA zs)) (hz : ∀ j, zs.getD j 0 < 18446744073709551616) : Words w (some ⟨g, 0, none⟩) zs.length zs :=
  ⟨rfl, hz, fun _ => ⟨g, 0, rfl, h.lt, fun j hj => by rw [Nat.zero_add, h.cell j, numsA_get zs j hj]⟩⟩
theorem make_words {P : Program} (t e : TypeId) (i : TypeInfo) (ht : P.underlying t = some (.slice e)) (hi : P.info? e = some i) (hz : i.zero = some (.int .u64 0)) (hs : i.size = 1) (hb : i.bytes = 8) (n : Nat) (hn : n ≤ 1000000) (w : World) :
    (Instr.makeSlice t (.int .i64 (n : Int)) (.int .i64 (n : Int))).run P w = .ok (.slice (some ⟨w.heap.size, 0, none⟩) n n) (w.alloc (.cells (numsA (List.replicate n 0)) e)) := by
  have hr := run_make (P := P) w t e i _ ht hi hz .i64 .i64 n n (by omega) (by omega) (by rw [hb]; omega) (by omega)
  simp only [Int.toNat_natCast, hs, Nat.mul_one] at hr
  rw [hr, ← numsA_zero]
  have : madeCells (Value.int .u64 0).cells n = Array.replicate n (Value.int .u64 0) := by
    apply Array.toList_inj.1
    have := toList_madeCells_one (Value.int .u64 0) n
    simpa [Value.cells] using this
  rw [this]
/-- Words lie in no box of a row. -/
theorem Words.off {w : World} {A : Option Addr} {len : Nat} {ws : List Nat} {g : Nat} {t : TypeId} {x : Int} {S : Option Addr} {p q : Nat} (h : Words w A len ws) (hb : Box w g t #[.int .i64 x, .slice S p q]) (b off : Nat) (hA : A = some ⟨b, off, none⟩) (hl : 0 < len) : b ≠ g := by
  intro e
  obtain ⟨b', off', hA', _, hc⟩ := h.2.2 hl
  rw [hA] at hA'
  injection hA' with hA'
  injection hA' with e1 e2
  subst e1 e2 e
  have c := hc 0 hl
  rw [hb.cell] at c
  match off, c with
  | 0, c => simp at c
  | 1, c => simp at c
  | k + 2, c => simp at c
theorem Words.put2 {w : World} {A : Option Addr} {len : Nat} {ws : List Nat} {g : Nat} {t : TypeId} {x : Int} {S : Option Addr} {p q : Nat} (h : Words w A len ws) (hb : Box w g t #[.int .i64 x, .slice S p q]) (u v : Value) :
    Words ((w.setCell ⟨g, 0, none⟩ u).setCell ⟨g, 1, none⟩ v) A len ws := by
  refine ⟨h.1, h.2.1, fun hp => ?_⟩
  obtain ⟨b, off, rfl, hlt, hc⟩ := h.2.2 hp
  have hne := h.off hb b off rfl hp
  refine ⟨b, off, rfl, by simpa [World.setCell] using hlt, fun j hj => ?_⟩
  rw [World.cell?_setCell_other _ _ _ _ (by intro e; injection e; omega), World.cell?_setCell_other _ _ _ _ (by intro e; injection e; omega)]
  exact hc j hj
/-- A return of a struct in a cell and a plain value. -/
theorem close_cell {P : Program} {fn : Func} {R : Ending → World → Prop} {a : Act} {W : World} {p q : Tmp} {T : TypeId} {g : Nat} {cs : Array Value} {d : TypeDesc} {v : Value} (hr : fn.results = #[.cell p T, .tmp q])
    (hp : a.tmps.getD p undef = .pointer (some ⟨g, 0, none⟩)) (hq : a.tmps.getD q undef = v) (hd : a.defers = []) (hbox : Box W g T cs) (hu : P.underlying T = some d)
    (hk : (match d with | .struct _ | .array _ _ => true | _ => false) = true) (hi : (P.info? T).map (·.size) = some cs.size)
    (hR : R (.returned (.tuple #[.agg cs, v])) W) : bodyPost P fn R .ret a W := by
  subst hq
  refine bodyPost_ret ?_ hd hR
  have hp' : a.tmps[p]?.getD undef = .pointer (some ⟨g, 0, none⟩) := by simpa using hp
  simp [results, hr, hp', asAddr, run_loadVar_row W g T T cs (0, 0) d hbox hu hk hi]
/-- A return of a struct in a cell. -/
theorem close_one {P : Program} {fn : Func} {R : Ending → World → Prop} {a : Act} {W : World} {p : Tmp} {T : TypeId} {g : Nat} {cs : Array Value} {d : TypeDesc} (hr : fn.results = #[.cell p T])
    (hp : a.tmps.getD p undef = .pointer (some ⟨g, 0, none⟩)) (hd : a.defers = []) (hbox : Box W g T cs) (hu : P.underlying T = some d)
    (hk : (match d with | .struct _ | .array _ _ => true | _ => false) = true) (hi : (P.info? T).map (·.size) = some cs.size)
    (hR : R (.returned (.agg cs)) W) : bodyPost P fn R .ret a W :=
  bodyPost_ret (results_cell_row hr _ _ g T cs (0, 0) d hp hbox hu hk hi) hd hR
/-- The slice at A of len ints reads zs. -/
def Ints (w : World) (A : Option Addr) (len : Nat) (zs : List Int) : Prop :=
  zs.length = len ∧ (∀ j, -9223372036854775808 ≤ zs.getD j 0 ∧ zs.getD j 0 ≤ 9223372036854775807) ∧
    (0 < len → ∃ b off, A = some ⟨b, off, none⟩ ∧ b < w.heap.size ∧ ∀ j, j < len → w.cell? ⟨b, off + j, none⟩ = some (.int .i64 (zs.getD j 0)))
theorem Ints.below {w w' : World} {A : Option Addr} {len : Nat} {zs : List Int} (h : Ints w A len zs) (hb : Below w.heap.size w w') : Ints w' A len zs := by
  refine ⟨h.1, h.2.1, fun hp => ?_⟩
  obtain ⟨b, off, rfl, hlt, hc⟩ := h.2.2 hp
  exact ⟨b, off, rfl, Nat.lt_of_lt_of_le hlt hb.size, fun j hj => (hb.cell (p := ⟨b, off + j, none⟩) hlt).trans (hc j hj)⟩
theorem Ints.nil (w : World) (A : Option Addr) : Ints w A 0 [] := ⟨rfl, by simp, fun h => by omega⟩
/-- Three boxes of rows, stored anew one after the other. -/
theorem three_rows {x : World} {g1 g2 g3 : Nat} {t : TypeId} {i1 i2 i3 j1 j2 j3 : Int} {S1 S2 S3 T1 T2 T3 : Option Addr} {p1 q1 p2 q2 p3 q3 l1 c1 l2 c2 l3 c3 : Nat}
    (h1 : Box x g1 t #[.int .i64 i1, .slice S1 p1 q1]) (h2 : Box x g2 t #[.int .i64 i2, .slice S2 p2 q2]) (h3 : Box x g3 t #[.int .i64 i3, .slice S3 p3 q3]) (n12 : g1 ≠ g2) (n13 : g1 ≠ g3) (n23 : g2 ≠ g3)
    {w : World} (hb : Below w.heap.size w x) (b1 : w.heap.size ≤ g1) (b2 : w.heap.size ≤ g2) (b3 : w.heap.size ≤ g3)
    {xa bs cs : List Nat} (u1 : Words x T1 l1 xa) (u2 : Words x T2 l2 bs) (u3 : Words x T3 l3 cs) :
    let y := (((((x.setCell ⟨g1, 0, none⟩ (.int .i64 j1)).setCell ⟨g1, 1, none⟩ (.slice T1 l1 c1)).setCell ⟨g2, 0, none⟩ (.int .i64 j2)).setCell ⟨g2, 1, none⟩ (.slice T2 l2 c2)).setCell ⟨g3, 0, none⟩ (.int .i64 j3)).setCell ⟨g3, 1, none⟩ (.slice T3 l3 c3)
    Box y g1 t #[.int .i64 j1, .slice T1 l1 c1] ∧ Box y g2 t #[.int .i64 j2, .slice T2 l2 c2] ∧ Box y g3 t #[.int .i64 j3, .slice T3 l3 c3] ∧ Words y T1 l1 xa ∧ Words y T2 l2 bs ∧ Words y T3 l3 cs ∧ Below w.heap.size w y := by
  have k1 : Box ((x.setCell ⟨g1, 0, none⟩ (.int .i64 j1)).setCell ⟨g1, 1, none⟩ (.slice T1 l1 c1)) g1 t #[.int .i64 j1, .slice T1 l1 c1] := h1.put2
  have k2 := (h2.far (p := ⟨g1, 0, none⟩) n12.symm (.int .i64 j1)).far (p := ⟨g1, 1, none⟩) n12.symm (.slice T1 l1 c1)
  have k3 := (h3.far (p := ⟨g1, 0, none⟩) n13.symm (.int .i64 j1)).far (p := ⟨g1, 1, none⟩) n13.symm (.slice T1 l1 c1)
  have v1 := u1.put2 h1 (.int .i64 j1) (.slice T1 l1 c1)
  have v2 := u2.put2 h1 (.int .i64 j1) (.slice T1 l1 c1)
  have v3 := u3.put2 h1 (.int .i64 j1) (.slice T1 l1 c1)
  have m1 := (k1.far (p := ⟨g2, 0, none⟩) n12 (.int .i64 j2)).far (p := ⟨g2, 1, none⟩) n12 (.slice T2 l2 c2)
  have m2 : Box _ g2 t #[.int .i64 j2, .slice T2 l2 c2] := k2.put2
  have m3 := (k3.far (p := ⟨g2, 0, none⟩) n23.symm (.int .i64 j2)).far (p := ⟨g2, 1, none⟩) n23.symm (.slice T2 l2 c2)
  have v1' := v1.put2 k2 (.int .i64 j2) (.slice T2 l2 c2)
  have v2' := v2.put2 k2 (.int .i64 j2) (.slice T2 l2 c2)
  have v3' := v3.put2 k2 (.int .i64 j2) (.slice T2 l2 c2)
  exact ⟨(m1.far (p := ⟨g3, 0, none⟩) n13 (.int .i64 j3)).far (p := ⟨g3, 1, none⟩) n13 (.slice T3 l3 c3), (m2.far (p := ⟨g3, 0, none⟩) n23 (.int .i64 j3)).far (p := ⟨g3, 1, none⟩) n23 (.slice T3 l3 c3), m3.put2,
    v1'.put2 m3 _ _, v2'.put2 m3 _ _, v3'.put2 m3 _ _,
    (((((hb.setCell (p := ⟨g1, 0, none⟩) b1 _).setCell (p := ⟨g1, 1, none⟩) b1 _).setCell (p := ⟨g2, 0, none⟩) b2 _).setCell (p := ⟨g2, 1, none⟩) b2 _).setCell (p := ⟨g3, 0, none⟩) b3 _).setCell (p := ⟨g3, 1, none⟩) b3 _⟩
/-- A row of the call's own and a box of another type are two blocks. -/
theorem own_ne {w : World} {base e size n g : Nat} {t : TypeId} {v : Value} {xs : List Value} {cs : Array Value} (h : w.ownsRow base e size v n xs) (hb : Box w g t cs) (hne : e ≠ t) : v.ownBlock ≠ some g := by
  rcases h.2 with ⟨rfl, _⟩ | ⟨g', cap, cur, rfl, _, hh, _⟩
  · simp [Value.ownBlock]
  · intro he
    have : g' = g := by simpa [Value.ownBlock] using he
    subst this
    unfold Box at hb
    rw [hb] at hh
    injection hh with hh
    injection hh with _ ht
    exact hne ht.symm
theorem Box.grown {w w' : World} {g : Nat} {t : TypeId} {cs : Array Value} {row : Option Nat} (h : Box w g t cs) (hg : w.grownBy w' row) (hne : row ≠ some g) : Box w' g t cs := (hg.block g h.lt (Ne.symm hne)).trans h
/-- The slice value of a row of the call's own. -/
theorem own_form {w : World} {base e size n : Nat} {v : Value} {xs : List Value} (h : w.ownsRow base e size v n xs) : ∃ A c, v = .slice A n c ∧ (A = none → n = 0 ∧ c = 0) := by
  rcases h.2 with ⟨rfl, rfl⟩ | ⟨g, cap, cur, rfl, _⟩
  · exact ⟨none, 0, rfl, fun _ => ⟨rfl, rfl⟩⟩
  · exact ⟨_, _, rfl, fun h => by cases h⟩
theorem own_words {w : World} {base e n : Nat} {A : Option Addr} {c : Nat} {zs : List Nat} (h : w.ownsRow base e 1 (.slice A n c) n (zs.map fun (x : Nat) => Value.int .u64 (x : Int))) (hz : ∀ j, zs.getD j 0 < 18446744073709551616) : Words w A n zs := by
  have hl : zs.length = n := by have := h.1; simpa using this
  refine ⟨hl, hz, fun hp => ?_⟩
  rcases h.2 with ⟨_, h0⟩ | ⟨g, cap, cur, hv, hb, hh, hn, hm, hs, hx⟩
  · omega
  · injection hv with hA _ _
    subst hA
    have hbx : Box w g e cur := hh
    refine ⟨g, 0, rfl, hbx.lt, fun j hj => ?_⟩
    rw [Nat.zero_add, hbx.cell j]
    have e1 : (cur.toList.take (n * 1))[j]? = (zs.map fun (x : Nat) => Value.int .u64 (x : Int))[j]? := by rw [hx]
    rw [Nat.mul_one, List.getElem?_take, if_pos hj] at e1
    have hjz : j < zs.length := by omega
    simp only [List.getElem?_map, List.getElem?_eq_getElem hjz, Option.map_some] at e1
    rw [← Array.getElem?_toList, e1]
    simp [List.getD, hjz]
theorem own_ints {w : World} {base e n : Nat} {A : Option Addr} {c : Nat} {zs : List Int} (h : w.ownsRow base e 1 (.slice A n c) n (zs.map (Value.int .i64))) (hz : ∀ j, -9223372036854775808 ≤ zs.getD j 0 ∧ zs.getD j 0 ≤ 9223372036854775807) : Ints w A n zs := by
  have hl : zs.length = n := by have := h.1; simpa using this
  refine ⟨hl, hz, fun hp => ?_⟩
  rcases h.2 with ⟨_, h0⟩ | ⟨g, cap, cur, hv, hb, hh, hn, hm, hs, hx⟩
  · omega
  · injection hv with hA _ _
    subst hA
    have hbx : Box w g e cur := hh
    refine ⟨g, 0, rfl, hbx.lt, fun j hj => ?_⟩
    rw [Nat.zero_add, hbx.cell j]
    have e1 : (cur.toList.take (n * 1))[j]? = (zs.map (Value.int .i64))[j]? := by rw [hx]
    rw [Nat.mul_one, List.getElem?_take, if_pos hj] at e1
    have hjz : j < zs.length := by omega
    simp only [List.getElem?_map, List.getElem?_eq_getElem hjz, Option.map_some] at e1
    rw [← Array.getElem?_toList, e1]
    simp [List.getD, hjz]
/-- A store into a box of another type leaves a row of the call's own. -/
theorem own_far {w : World} {base e size n g : Nat} {t : TypeId} {v : Value} {xs : List Value} {cs : Array Value} (h : w.ownsRow base e size v n xs) (hb : Box w g t cs) (hne : e ≠ t) (i : Nat) (u : Value) : (w.setCell ⟨g, i, none⟩ u).ownsRow base e size v n xs := by
  have hn := own_ne h hb hne
  refine ⟨h.1, ?_⟩
  rcases h.2 with ⟨rfl, rfl⟩ | ⟨g', cap, cur, rfl, h1, hh, h3⟩
  · exact .inl ⟨rfl, rfl⟩
  · refine .inr ⟨g', cap, cur, rfl, h1, ?_, h3⟩
    rw [heap_setCell_other _ _ _ _ (fun e => hn (by rw [← show g' = g from e]; rfl))]
    exact hh
theorem own_empty (W : World) (base e : Nat) (hb : base ≤ W.heap.size) : (W.alloc (.cells #[] e)).ownsRow base e 1 (.slice (some ⟨W.heap.size, 0, none⟩) 0 0) 0 [] :=
  ⟨by simp, .inr ⟨W.heap.size, 0, #[], rfl, hb, heap_alloc_new W _, Nat.le_refl _, Nat.zero_le _, by simp, by simp⟩⟩
theorem own_keep {w w' : World} {base e size n : Nat} {v : Value} {xs : List Value} (h : w.ownsRow base e size v n xs) (hb : Below w.heap.size w w') : w'.ownsRow base e size v n xs := by
  refine ⟨h.1, ?_⟩
  rcases h.2 with ⟨rfl, rfl⟩ | ⟨g', cap, cur, rfl, h1, hh, h3⟩
  · exact .inl ⟨rfl, rfl⟩
  · have hx : Box w g' e cur := hh
    exact .inr ⟨g', cap, cur, rfl, h1, hx.keep hb, h3⟩
end
section
/- Layer 6, its arithmetic: mixed is one to one, so some number of a state is below whatever the bound leaves out. No program. -/
set_option linter.unusedVariables false
set_option linter.unusedSimpArgs false
def M64 : Nat := 18446744073709551616
def mixA (z : Nat) : Nat := ((z ^^^ z / 1073741824) * 13787848793156543929) % 18446744073709551616
def mixB (z : Nat) : Nat := ((z ^^^ z / 134217728) * 10723151780598845931) % 18446744073709551616
def mixN (z : Nat) : Nat := mixB (mixA z) ^^^ mixB (mixA z) / 2147483648
theorem shx_inj (k : Nat) (hk : 1 ≤ k) (x y : Nat) (h : x ^^^ x / 2 ^ k = y ^^^ y / 2 ^ k) : x = y := by
  have hd : (x ^^^ y) = (x ^^^ y) / 2 ^ k := by
    apply Nat.eq_of_testBit_eq
    intro i
    have h1 := congrArg (fun z => Nat.testBit z i) h
    simp only [Nat.testBit_xor, Nat.testBit_div_two_pow] at h1 ⊢
    revert h1
    cases x.testBit i <;> cases y.testBit i <;> cases x.testBit (i + k) <;> cases y.testBit (i + k) <;> decide
  have h0 : x ^^^ y = 0 := by
    rcases Nat.eq_zero_or_pos (x ^^^ y) with e | e
    · exact e
    · have : (x ^^^ y) / 2 ^ k < x ^^^ y := Nat.div_lt_self e (Nat.one_lt_two_pow (by omega))
      omega
  apply Nat.eq_of_testBit_eq
  intro i
  have h1 := congrArg (fun z => Nat.testBit z i) h0
  simp only [Nat.testBit_xor, Nat.zero_testBit] at h1
  revert h1
  cases x.testBit i <;> cases y.testBit i <;> decide
theorem mul_inj (c d q : Nat) (hcd : c * d = 1 + q * 18446744073709551616) (x y : Nat) (hx : x < 18446744073709551616) (hy : y < 18446744073709551616) (h : x * c % 18446744073709551616 = y * c % 18446744073709551616) : x = y := by
  have k : ∀ z, z < 18446744073709551616 → (z * c % 18446744073709551616) * d % 18446744073709551616 = z := fun z hz => by
    rw [Nat.mod_mul_mod, Nat.mul_assoc, hcd, Nat.mul_add, Nat.mul_one, ← Nat.mul_assoc, Nat.add_mul_mod_self_right, Nat.mod_eq_of_lt hz]
  rw [← k x hx, h, k y hy]
theorem xor_lt (x k : Nat) (hx : x < 18446744073709551616) : x ^^^ x / k < 18446744073709551616 :=
  Nat.xor_lt_two_pow (n := 64) hx (Nat.lt_of_le_of_lt (Nat.div_le_self _ _) hx)
theorem mixA_lt (z : Nat) : mixA z < 18446744073709551616 := Nat.mod_lt _ (by omega)
theorem mixB_lt (z : Nat) : mixB z < 18446744073709551616 := Nat.mod_lt _ (by omega)
theorem mixN_lt (z : Nat) : mixN z < 18446744073709551616 := xor_lt _ _ (mixB_lt _)
theorem mixA_inj (x y : Nat) (hx : x < 18446744073709551616) (hy : y < 18446744073709551616) (h : mixA x = mixA y) : x = y :=
  shx_inj 30 (by omega) x y (mul_inj 13787848793156543929 10871156337175269513 8125545580553827436 (by decide) _ _ (xor_lt x _ hx) (xor_lt y _ hy) h)
theorem mixB_inj (x y : Nat) (hx : x < 18446744073709551616) (hy : y < 18446744073709551616) (h : mixB x = mixB y) : x = y :=
  shx_inj 27 (by omega) x y (mul_inj 10723151780598845931 3573116690164977347 2077064247507883091 (by decide) _ _ (xor_lt x _ hx) (xor_lt y _ hy) h)
theorem mixN_inj (x y : Nat) (hx : x < 18446744073709551616) (hy : y < 18446744073709551616) (h : mixN x = mixN y) : x = y :=
  mixA_inj x y hx hy (mixB_inj _ _ (mixA_lt x) (mixA_lt y) (shx_inj 31 (by omega) _ _ h))
/-- The next state. -/
def nextS (s : Nat) : Nat := (s + 11400714819323198485) % 18446744073709551616
theorem nextS_lt (s : Nat) : nextS s < 18446744073709551616 := Nat.mod_lt _ (by omega)
/-- The state behind so many numbers. -/
def stN (s j : Nat) : Nat := (s + j * 11400714819323198485) % 18446744073709551616
theorem stN_succ (s j : Nat) : stN s (j + 1) = nextS (stN s j) := by
  unfold stN nextS
  rw [Nat.mod_add_mod, Nat.succ_mul, Nat.add_assoc]
theorem add_cancel (s a b : Nat) (h : (s + a) % 18446744073709551616 = (s + b) % 18446744073709551616) : a % 18446744073709551616 = b % 18446744073709551616 := by omega
theorem stN_next (s j : Nat) : stN (nextS s) j = stN s (j + 1) := by
  unfold stN nextS
  rw [Nat.mod_add_mod, Nat.succ_mul, Nat.add_assoc, Nat.add_comm 11400714819323198485]
theorem stN_lt (s j : Nat) : stN s j < 18446744073709551616 := Nat.mod_lt _ (by omega)
theorem stN_inj (s i j : Nat) (hi : i < 1000) (hj : j < 1000) (h : stN s i = stN s j) : i = j := by
  have h1 : i < 18446744073709551616 := by omega
  have h2 : j < 18446744073709551616 := by omega
  exact mul_inj 11400714819323198485 17428512612931826493 10771413168148108919 (by decide) i j h1 h2 (add_cancel _ _ _ h)
theorem pigeon : ∀ (n : Nat) (f : Nat → Nat), (∀ i, i ≤ n → f i < n) → ∃ i j, i < j ∧ j ≤ n ∧ f i = f j
  | 0, f, h => absurd (h 0 (Nat.le_refl _)) (Nat.not_lt_zero _)
  | n + 1, f, h => by
    by_cases hc : ∃ i, i ≤ n ∧ f i = f (n + 1)
    · obtain ⟨i, hi, e⟩ := hc
      exact ⟨i, n + 1, by omega, Nat.le_refl _, e⟩
    · have hne : ∀ i, i ≤ n → f i ≠ f (n + 1) := fun i hi e => hc ⟨i, hi, e⟩
      have hv := h (n + 1) (Nat.le_refl _)
      obtain ⟨i, j, hij, hj, e⟩ := pigeon n (fun i => if f i = n then f (n + 1) else f i) (fun i hi => by
        have h1 := h i (by omega)
        have h2 := hne i hi
        by_cases h3 : f i = n
        · simp only [if_pos h3]; omega
        · simp only [if_neg h3]; omega)
      have h1 := hne i (by omega)
      have h2 := hne j hj
      refine ⟨i, j, hij, by omega, ?_⟩
      by_cases h3 : f i = n <;> by_cases h4 : f j = n
      · rw [h3, h4]
      · simp only [if_pos h3, if_neg h4] at e; exact absurd e.symm h2
      · simp only [if_neg h3, if_pos h4] at e; exact absurd e h1
      · simpa only [if_neg h3, if_neg h4] using e
/-- A state whose next number serves. -/
def good (over s : Nat) : Prop := mixN (nextS s) + over < 18446744073709551616
instance (over s : Nat) : Decidable (good over s) := inferInstanceAs (Decidable (_ < _))
/-- One of the next so many serves. -/
def gw (over : Nat) : Nat → Nat → Prop
  | 0, _ => False
  | k + 1, s => good over s ∨ gw over k (nextS s)
theorem stN_zero (s : Nat) (hs : s < 18446744073709551616) : stN s 0 = s := by
  unfold stN
  rw [Nat.zero_mul, Nat.add_zero, Nat.mod_eq_of_lt hs]
theorem gw_of (over k : Nat) : ∀ (s j : Nat), j < k → good over (stN s j) → s < 18446744073709551616 → gw over k s := by
  induction k with
  | zero => exact fun s j h _ _ => absurd h (Nat.not_lt_zero _)
  | succ k ih =>
    intro s j h hg hs
    cases j with
    | zero => exact .inl (by rwa [stN_zero s hs] at hg)
    | succ j => exact .inr (ih (nextS s) j (Nat.lt_of_succ_lt_succ h) (by rw [stN_next]; exact hg) (nextS_lt s))
theorem diff_lt {a b m : Nat} (h1 : a < m) (h2 : m ≤ a + b) : a + b - m < b := by omega
theorem diff_inj {a c b m : Nat} (h1 : m ≤ a + b) (h2 : m ≤ c + b) (e : a + b - m = c + b - m) : a = c := by omega
theorem gw_all (over s : Nat) (ho : over < 512) (hs : s < 18446744073709551616) : gw over 512 s := by
  by_cases h : ∃ j, j < 512 ∧ good over (stN s j)
  · obtain ⟨j, hj, hg⟩ := h
    exact gw_of over 512 s j hj hg hs
  · exfalso
    have hb : ∀ j, j < 512 → 18446744073709551616 ≤ mixN (stN s (j + 1)) + over := fun j hj => by
      have h1 : ¬ good over (stN s j) := fun hg => h ⟨j, hj, hg⟩
      unfold good at h1
      rw [← stN_succ] at h1
      exact Nat.le_of_not_lt h1
    obtain ⟨i, j, hij, hj, e⟩ := pigeon over (fun j => mixN (stN s (j + 1)) + over - 18446744073709551616) (fun j hj => diff_lt (mixN_lt _) (hb j (Nat.lt_of_le_of_lt hj ho)))
    have hj2 : j < 512 := Nat.lt_of_le_of_lt hj ho
    have hi2 : i < 512 := Nat.lt_trans hij hj2
    have h3 := mixN_inj _ _ (stN_lt s (i + 1)) (stN_lt s (j + 1)) (diff_inj (hb i hi2) (hb j hj2) e)
    have h4 := stN_inj s (i + 1) (j + 1) (Nat.lt_trans (Nat.succ_lt_succ hi2) (by decide)) (Nat.lt_trans (Nat.succ_lt_succ hj2) (by decide)) h3
    have h5 : i = j := Nat.succ.inj h4
    exact absurd hij (by rw [h5]; exact Nat.lt_irrefl _)
/-- The number below n, and the state behind it; at most so many tries. -/
def belowF (n over : Nat) : Nat → Nat → Nat × Nat
  | 0, s => (s, 0)
  | k + 1, s => if good over s then (nextS s, mixN (nextS s) % n) else belowF n over k (nextS s)
def belowN (n s : Nat) : Nat × Nat := belowF n (18446744073709551616 % n) 512 s
theorem over_lt (n : Nat) (h1 : 1 ≤ n) (h2 : n ≤ 512) : 18446744073709551616 % n < 512 := Nat.lt_of_lt_of_le (Nat.mod_lt _ (by omega)) h2
theorem belowF_lt (n over : Nat) (hn : 1 ≤ n) (k : Nat) : ∀ (s : Nat), s < 18446744073709551616 → (belowF n over k s).1 < 18446744073709551616 ∧ (belowF n over k s).2 < n := by
  induction k with
  | zero => exact fun s hs => ⟨hs, hn⟩
  | succ k ih =>
    intro s hs
    unfold belowF
    split
    · exact ⟨nextS_lt s, Nat.mod_lt _ hn⟩
    · exact ih (nextS s) (nextS_lt s)
theorem belowN_lt (n s : Nat) (hn : 1 ≤ n) (hs : s < 18446744073709551616) : (belowN n s).1 < 18446744073709551616 ∧ (belowN n s).2 < n := belowF_lt n _ hn 512 s hs
end
section
/- Contracts of layer 6: mixed, Next, Start, boundMayBe; the reference's Mixed, rest. -/
set_option linter.unusedVariables false
set_option linter.unusedSimpArgs false
open Go.RowKit
theorem xor_cast (x k : Nat) (hx : x < 18446744073709551616) : bits BinOp.xor IntKind.u64 (x : Int) ((x / k : Nat) : Int) = ((x ^^^ x / k : Nat) : Int) :=
  u64_xor_nat _ _ (by omega) (by have := Nat.div_le_self x k; omega)
theorem div_cast (x k : Nat) : (x : Int) / (k : Int) = ((x / k : Nat) : Int) := by simp
theorem mixA_int (z : Nat) (hz : z < 18446744073709551616) : IntKind.u64.wrap (bits BinOp.xor IntKind.u64 (z : Int) ((z : Int) / 1073741824) * 13787848793156543929) = ((mixA z : Nat) : Int) := by
  rw [show (z : Int) / 1073741824 = ((z / 1073741824 : Nat) : Int) from div_cast z 1073741824, xor_cast z _ hz, IntKind.wrap_u64, mixA, Int.natCast_emod, Int.natCast_mul]
  rfl
theorem mixB_int (z : Nat) (hz : z < 18446744073709551616) : IntKind.u64.wrap (bits BinOp.xor IntKind.u64 (z : Int) ((z : Int) / 134217728) * 10723151780598845931) = ((mixB z : Nat) : Int) := by
  rw [show (z : Int) / 134217728 = ((z / 134217728 : Nat) : Int) from div_cast z 134217728, xor_cast z _ hz, IntKind.wrap_u64, mixB, Int.natCast_emod, Int.natCast_mul]
  rfl
theorem mixN_int (z : Nat) : bits BinOp.xor IntKind.u64 ((mixB (mixA z) : Nat) : Int) (((mixB (mixA z) : Nat) : Int) / 2147483648) = ((mixN z : Nat) : Int) := by
  rw [show ((mixB (mixA z) : Nat) : Int) / 2147483648 = ((mixB (mixA z) / 2147483648 : Nat) : Int) from div_cast _ 2147483648, xor_cast _ _ (mixB_lt _), mixN]
theorem tdiv_wrap (x k : Nat) (hx : x < 18446744073709551616) : IntKind.u64.wrap ((x : Int).tdiv (k : Int)) = (x : Int) / (k : Int) := by
  rw [Int.tdiv_eq_ediv_of_nonneg (Int.natCast_nonneg x), div_cast]
  exact IntWalk.u64_in _ ⟨Int.natCast_nonneg _, by have := Nat.div_le_self x k; omega⟩
theorem rest_int (n : Nat) (h1 : 1 ≤ n) (h2 : n ≤ 512) : (IntKind.u64.wrap (18446744073709551615 % (n : Int) + 1)).tmod (n : Int) = ((18446744073709551616 % n : Nat) : Int) := by
  have e : (18446744073709551615 : Int) % (n : Int) = ((18446744073709551615 % n : Nat) : Int) := rfl
  have hl : 18446744073709551615 % n < n := Nat.mod_lt _ h1
  have e2 : (18446744073709551615 % n + 1) % n = 18446744073709551616 % n := Nat.mod_add_mod _ _ _
  rw [e]
  generalize 18446744073709551615 % n = r at *
  generalize 18446744073709551616 % n = m at *
  rw [IntWalk.u64_in _ (by omega), Int.tmod_eq_emod_of_nonneg (by omega), ← e2]
  rfl
theorem ret_u64 (x y : Int) (h : x = y) : Ending.returned (.int .u64 x) = .returned (.int .u64 y) := by rw [h]
set_option maxHeartbeats 1000000 in
theorem mixed_any (z : Nat) (hz : z < 18446744073709551616) (w : World) : Calls Tryd.prog 81 #[.int .u64 z] w fun e w' => e = .returned (.int .u64 (mixN z : Nat)) ∧ w = w' := by
  go_enter Tryd.func81, Tryd.ntmps81
  go_wp2
  go_ret
  exact ⟨ret_u64 _ _ (by rw [mixA_int z hz, mixB_int _ (mixA_lt z), mixN_int]), rfl⟩
theorem refMixed_any (z : Nat) (hz : z < 18446744073709551616) (w : World) : Calls Tryd.prog 57 #[.int .u64 z] w fun e w' => e = .returned (.int .u64 (mixN z : Nat)) ∧ w = w' := by
  go_enter Tryd.func57, Tryd.ntmps57
  go_wp2
  go_ret
  exact ⟨ret_u64 _ _ (by rw [mixA_int z hz, show IntKind.u64.wrap (((mixA z : Nat) : Int).tdiv 134217728) = ((mixA z : Nat) : Int) / 134217728 from tdiv_wrap _ 134217728 (mixA_lt z), mixB_int _ (mixA_lt z), show IntKind.u64.wrap (((mixB (mixA z) : Nat) : Int).tdiv 2147483648) = ((mixB (mixA z) : Nat) : Int) / 2147483648 from tdiv_wrap _ 2147483648 (mixB_lt _), mixN_int]), rfl⟩
theorem bound_any (n : Int) (w : World) : Calls Tryd.prog 87 #[.int .i64 n] w fun e w' => e = .returned (.bool (decide (1 ≤ n ∧ n ≤ 512))) ∧ w = w' := by
  by_cases h : 1 ≤ n
  · by_cases h2 : n ≤ 512
    · rw [decide_eq_true ⟨h, h2⟩]
      go_enter Tryd.func87, Tryd.ntmps87
      go_wp2
      go_ret
      exact ⟨rfl, rfl⟩
    · rw [decide_eq_false (fun x => h2 x.2)]
      have t : decide (n ≤ 512) = false := by simpa using h2
      go_enter Tryd.func87, Tryd.ntmps87
      go_wp2
      go_ret
      exact ⟨by simp, rfl⟩
  · rw [decide_eq_false (fun x => h x.1)]
    have t : decide (1 ≤ n) = false := by simpa using h
    go_enter Tryd.func87, Tryd.ntmps87
    go_wp2
    go_ret
    exact ⟨by simp, rfl⟩
theorem rest_any (n : Nat) (h1 : 1 ≤ n) (h2 : n ≤ 512) (w : World) : Calls Tryd.prog 102 #[.int .u64 n] w fun e w' => e = .returned (.int .u64 (18446744073709551616 % n : Nat)) ∧ w = w' := by
  have g : (1 : Int) ≤ n := by omega
  go_enter Tryd.func102, Tryd.ntmps102
  go_wp2
  go_ret
  exact ⟨ret_u64 _ _ (rest_int n h1 h2), rfl⟩
theorem next_any (s : Nat) (hs : s < 18446744073709551616) (w : World) : Calls Tryd.prog 68 #[.int .u64 s] w fun e w' => e = .returned (.tuple #[.int .u64 (nextS s : Nat), .int .u64 (mixN (nextS s) : Nat)]) ∧ w = w' := by
  have e : IntKind.u64.wrap ((s : Int) + 11400714819323198485) = ((nextS s : Nat) : Int) := by
    rw [IntKind.wrap_u64, nextS]; rfl
  have HM := Lib.hid (mixed_any (nextS s) (nextS_lt s))
  generalize nextS s = t at *
  go_enter Tryd.func68, Tryd.ntmps68
  go_wp2_with fail
  refine (HM.out _).mono ?_
  rintro e' w1 ⟨rfl, rfl⟩
  go_wp2_with fail
  go_ret2
  exact ⟨rfl, rfl⟩
theorem start_any (s : Nat) (hs : s < 18446744073709551616) (w : World) : Calls Tryd.prog 69 #[.int .u64 s] w fun e w' => e = .returned (.int .u64 (mixN s : Nat)) ∧ w = w' := by
  have HM := Lib.hid (mixed_any s hs)
  go_enter Tryd.func69, Tryd.ntmps69
  go_wp2_with fail
  refine (HM.out _).mono ?_
  rintro e' w1 ⟨rfl, rfl⟩
  go_wp2_with fail
  go_ret
  exact ⟨rfl, rfl⟩
end
section
/- A law of one's own for 'for .. := range seq' where the iterator keeps its state in a box of its own (a captured variable), and ends only when the body does. No program. -/
set_option linter.unusedVariables false
set_option linter.unusedSimpArgs false
open Go.RowKit
variable {F : Fence} {n : Nat} {P : Program}
/-- What such an iterator promises: s is its state, B its box, next what a round is handed; k rounds at most are to come. -/
def SeqCell {σ : Type} (F : Fence) (n : Nat) (P : Program) (g : Nat) (lb : Array Value) (encs : σ → Array Value) (next : σ → σ) (B : Nat) (T : TypeId) (val : σ → Value) : Prop :=
  ∀ (l : Nat) (J : Nat → σ → World → Prop) (Jx : World → Prop) (k₀ : Nat) (s₀ : σ) (W : World),
    (∀ k s W v, J k s W → J k s (W.setCell ⟨B, 0, none⟩ v)) → (∀ k s W, J k s W → J k s W.drew) → (∀ s W, ¬ J 0 s W) →
    (∀ k s W, J (k + 1) s W → YieldAt F (n - 1) P l (encs (next s)) W fun e W' => (e = .returned (.bool true) ∧ J k (next s) W' ∧ W'.heap[B]? = W.heap[B]?) ∨ (e = .returned (.bool false) ∧ Jx W')) →
    J k₀ s₀ W → Boxed W B T (val s₀) →
    CallsIn F n P g (#[.func (.yield l) #[] #[]] ++ lb) W fun e W' => (∃ v, e = .returned v) ∧ Jx W'
/-- How a round may be left. -/
def postCell {σ : Type} (A B : Nat) (I : Nat → σ → World → Prop) (Ix : World → Prop) (k : Nat) (s : σ) (W : World) : Exit → Act → World → Prop
  | .normal, _, W' => KeepsFrom A W W' ∧ W'.heap[B]? = W.heap[B]? ∧ I k s W'
  | .ret, _, W' => KeepsFrom A W W' ∧ Ix W'
  | .exit _, _, _ => False
  | .goto _, _, _ => False
  | .panic _, _, _ => False
  | .outgrown, _, _ => False
theorem drew_own {β : Type} {B : Nat} {I : β → World → Prop} (h : OwnFrom B I) {s : β} {W : World} (hs : I s W) : I s W.drew :=
  h s W W.drew none hs ⟨rfl, rfl, rfl, Nat.le_refl _, fun _ _ _ => rfl⟩ (fun r e => by cases e)
theorem range_cell {σ : Type} {g : Operand} {ps : Array Tmp} {assign body : Code} {Q : Exit → Act → World → Prop} {a : Act} {w : World}
    (hro : F.round = none) (h1 : 1 ≤ n) {gf : Nat} {lb : Array Value} (hg : a.eval g = .func (.func gf) #[] lb) (hFg : F.fn gf) (eg : ∀ args w, (callFunc gf args).run P w = .ok (.enter gf args) w)
    {encs : σ → Array Value} {next : σ → σ} {B : Nat} {T : TypeId} {val : σ → Value} (hseq : SeqCell F (n - 1) P gf lb encs next B T val) (hps : ∀ x, (encs x).size = ps.size)
    (I : Nat → σ → World → Prop) (Ix : World → Prop) (hI : OwnFrom w.heap.size (fun (p : Nat × σ) W => I p.1 p.2 W)) (hIx : OwnFrom w.heap.size (fun (_ : Unit) W => Ix W))
    (hIB : ∀ k s W v, I k s W → I k s (W.setCell ⟨B, 0, none⟩ v)) (hI0 : ∀ s W, ¬ I 0 s W) (k₀ : Nat) (s₀ : σ) (h0 : I k₀ s₀ w) (hbox : Boxed w B T (val s₀)) (a₁ : σ → Act)
    (hassign : ∀ (l : Nat) (x : σ) (W : World) (K : Act → World → Prop), K (a₁ x) W →
      assign.wpIn (F.inRound l) (n - 1 - 1) P (Exit.then K (fun _ _ _ => False)) { tmps := (ps.zip (encs x)).foldl (fun t (p, v) => t.setIfInBounds p v) a.tmps, defers := [] } W)
    (hbody : ∀ (l k : Nat) (s : σ) (W : World), I (k + 1) s W → body.wpIn (F.inRound l) (n - 1 - 1) P (postCell w.heap.size B I Ix k (next s) W) (a₁ (next s)) W)
    (hstop : ∀ (D : Nat) (W : World), w.heap.size ≤ D → Ix W → W.heap[D]? = some (.deferred (some [])) → Code.ret.wpIn F n P Q { a with defers := { target := .collected D, args := #[] } :: a.defers } W) :
    (Code.rangeFunc g ps assign body).wpIn F n P Q a w := by
  have hBlt : B < w.heap.size := hbox.lt
  refine wpIn_rangeFunc ?_
  intro fn hfn
  rw [hro]
  obtain ⟨rc, hrc⟩ : ∃ rc : LoopState → Option Code → Loop, rc = fun st pe => { state := st, pending := pe, fn, tmps := a.tmps, params := ps, assign, body, defers := w.heap.size } := ⟨_, rfl⟩
  obtain ⟨W1, hW1⟩ : ∃ W1, (w.alloc (.deferred (some []))).alloc (.loop (rc .ready none)) = W1 := ⟨_, rfl⟩
  have hL1 : W1.heap[w.heap.size + 1]? = some (.loop (rc .ready none)) := by
    rw [← hW1]; have := World.alloc_heap_new (w.alloc (.deferred (some []))) (.loop (rc .ready none)); rwa [World.size_alloc] at this
  have hK1 : W1.heap[w.heap.size]? = some (.deferred (some [])) := by
    rw [← hW1]; exact (Below.heap_alloc _ _ _ (by simp)).trans (World.alloc_heap_new w _)
  have hI1 : I k₀ s₀ W1 := by rw [← hW1]; exact hI.alloc (s := (k₀, s₀)) _ (hI.alloc (s := (k₀, s₀)) _ h0)
  have hB1 : Boxed W1 B T (val s₀) := by rw [← hW1]; exact (hbox.alloc _).alloc _
  refine ⟨w.heap.size + 1, [{ target := .collected w.heap.size, args := #[] }], W1, { target := .fn (.func gf) lb, args := #[.func (.yield (w.heap.size + 1)) #[] #[]] }, W1, gf,
    #[.func (.yield (w.heap.size + 1)) #[] #[]] ++ lb, W1, ?_, ?_, ?_, ?_, fun _ => h1, ?_⟩
  · rw [← hW1, hrc]; exact run_enterLoop_outer _ _ _ _ _
  · simp only [resolve, hg]
    simp [go_sem]
  · intro f' hf'; simp [Target.leads] at hf'; subst hf'; exact hFg
  · simp [invoke, go_sem, eg]
  · have other : ∀ (k : Nat) (W : World) (v : Value), w.heap.size ≤ k → (W.setCell ⟨B, 0, none⟩ v).heap[k]? = W.heap[k]? := fun k W v hk => Below.heap_setCell W ⟨B, 0, none⟩ v k (by show k ≠ B; omega)
    refine (hseq (w.heap.size + 1)
      (fun k s W => I k s W ∧ W.heap[w.heap.size + 1]? = some (.loop (rc .ready none)) ∧ W.heap[w.heap.size]? = some (.deferred (some [])))
      (fun W => Ix W ∧ W.heap[w.heap.size + 1]? = some (.loop (rc .done (some .ret))) ∧ W.heap[w.heap.size]? = some (.deferred (some [])))
      k₀ s₀ W1
      (fun k s W v hs => ⟨hIB k s W v hs.1, (other _ W v (by omega)).trans hs.2.1, (other _ W v (Nat.le_refl _)).trans hs.2.2⟩)
      (fun k s W hs => ⟨drew_own hI (s := (k, s)) hs.1, hs.2.1, hs.2.2⟩)
      (fun s W hs => hI0 s W hs.1) ?_ ⟨hI1, hL1, hK1⟩ hB1).mono ?_
    · rintro k s W ⟨hi, hl, hk⟩
      have hlt : w.heap.size + 1 < W.heap.size := (Array.getElem?_eq_some_iff.1 hl).1
      have hy := run_yield (P := P) (args := encs (next s)) hl (by rw [hrc]; exact hps _)
      rw [hrc] at hy
      refine ⟨fn, _, assign, body, hy, roundIn_of_wpIn hfn (hassign _ (next s) W _ ⟨_, run_beginRound hl (by rw [hrc]), ?_⟩)⟩
      have hl2 : (W.putObj (w.heap.size + 1) (.loop { rc .ready none with state := .busy })).heap[w.heap.size + 1]? = some (.loop { rc .ready none with state := .busy }) := World.putObj_heap_same hlt
      have hk2 : (W.putObj (w.heap.size + 1) (.loop { rc .ready none with state := .busy })).heap[w.heap.size]? = some (.deferred (some [])) := (World.putObj_heap_other (by omega)).trans hk
      have hb2 : ∀ (V : World) (o : Obj), (V.putObj (w.heap.size + 1) o).heap[B]? = V.heap[B]? := fun V o => World.putObj_heap_other (by omega)
      refine wpIn_mono (hbody _ k s _ (hI.putObj (s := (k + 1, s)) _ hi (by omega) hl rfl)) ?_
      have fin : ∀ (jump : Option Code) (W3 : World), KeepsFrom w.heap.size (W.putObj (w.heap.size + 1) (.loop { rc .ready none with state := .busy })) W3 →
          (Instr.endRound (w.heap.size + 1) jump).run P W3 = .ok (.bool jump.isNone) (W3.putObj (w.heap.size + 1) (.loop (rc (if jump.isNone then .ready else .done) jump))) ∧
          W3.heap[w.heap.size + 1]? = some (.loop { rc .ready none with state := .busy }) ∧
          (W3.putObj (w.heap.size + 1) (.loop (rc (if jump.isNone then .ready else .done) jump))).heap[w.heap.size + 1]? = some (.loop (rc (if jump.isNone then .ready else .done) jump)) ∧
          (W3.putObj (w.heap.size + 1) (.loop (rc (if jump.isNone then .ready else .done) jump))).heap[w.heap.size]? = some (.deferred (some [])) := fun jump W3 hk3 => by
        have hl3 := hk3.same _ _ (by omega) hl2 rfl
        have := run_endRound (P := P) jump hl3
        rw [hrc] at this ⊢
        exact ⟨this, by rw [hrc] at hl3; exact hl3, World.putObj_heap_same (Array.getElem?_eq_some_iff.1 hl3).1, (World.putObj_heap_other (by omega)).trans (hk3.same _ _ (Nat.le_refl _) hk2 rfl)⟩
      rintro e a3 W3 hp
      cases e with
      | normal =>
        obtain ⟨hk3, hkp3, hi3⟩ := hp
        obtain ⟨hr, hl3, hl4, hk4⟩ := fin none W3 hk3
        exact ⟨_, _, hr, .inl ⟨rfl, ⟨hI.putObj (s := (k, next s)) _ hi3 (by omega) hl3 rfl, hl4, hk4⟩, (hb2 _ _).trans (hkp3.trans (hb2 _ _))⟩⟩
      | ret =>
        obtain ⟨hk3, hi3⟩ := hp
        obtain ⟨hr, hl3, hl4, hk4⟩ := fin (some .ret) W3 hk3
        exact ⟨_, _, hr, .inr ⟨rfl, hIx.putObj (s := ()) _ hi3 (by omega) hl3 rfl, hl4, hk4⟩⟩
      | exit id => exact hp.elim
      | goto t => exact hp.elim
      | panic ch => exact hp.elim
      | outgrown => exact hp.elim
    · rintro e W2 ⟨⟨v, rfl⟩, hi, hl, hk⟩
      exact ⟨some .ret, _, by have := run_endLoop (P := P) hl (by rw [hrc]; simp); rw [hrc] at this; exact this, hstop _ _ (Nat.le_refl _) (hIx.putObj (s := ()) _ hi (by omega) hl rfl) ((World.putObj_heap_other (by omega)).trans hk)⟩
end
section
/- Contract of layer 6: the iterator of the numbers. -/
set_option linter.unusedVariables false
set_option linter.unusedSimpArgs false
open Go.RowKit Go.Shelf
attribute [local go_sem] Oper.semAt_some
theorem step_wrap' (s : Nat) : IntKind.u64.wrap ((s : Int) + 11400714819323198485) = ((nextS s : Nat) : Int) := by
  rw [IntKind.wrap_u64, nextS]; rfl
/-- A state. -/
def St : Type := { s : Nat // s < 18446744073709551616 }
def St.next (s : St) : St := ⟨nextS s.1, nextS_lt s.1⟩
def St.val (s : St) : Value := .int .u64 (s.1 : Int)
def St.encs (s : St) : Array Value := #[.int .u64 (s.1 : Int), .int .u64 (mixN s.1 : Nat)]
set_option maxRecDepth 100000 in
set_option maxHeartbeats 4000000 in
theorem numbers_cell (n : Nat) (hn : 1 ≤ n) (B : Nat) : SeqCell Fence.wide n Tryd.prog 116 #[.pointer (some ⟨B, 0, none⟩)] St.encs St.next B 35 St.val := by
  intro l J Jx k₀ s₀ W hJB hJd hJ0 hY h0 hbox
  refine callsIn_of_wp Tryd.func116 rfl trivial ?_ rfl
  simp only [Tryd.ntmps116, List.size_toArray, List.length_cons, List.length_nil, Nat.reduceAdd, Nat.reduceSub, Array.replicate_succ, Array.replicate_zero, List.push_toArray, List.append_toArray, List.nil_append, List.cons_append]
  gi_wp2
  gi_loopg [3] k₀ (fun k s3 wr => ∃ s : St, J k s wr ∧ Boxed wr B 35 s.val)
  case atStart => exact ⟨s₀, h0, hbox⟩
  case round =>
    obtain ⟨s, hs, hb⟩ := hrel
    cases gk with
    | zero => exact (hJ0 s wr hs).elim
    | succ k =>
      have HY := hY k s (wr.setCell ⟨B, 0, none⟩ (.int .u64 (nextS s.1 : Nat))) (hJB _ _ _ _ hs)
      have hb2 : Boxed (wr.setCell ⟨B, 0, none⟩ (.int .u64 (nextS s.1 : Nat))) B 35 (.int .u64 (nextS s.1 : Nat)) := hb.set _
      have HN := Lib.hid (next_any s.1 s.2)
      have e1 := hb.cell
      have e2 := hb.frozen
      have e3 := hb2.cell
      have HB2 := Lib.hid hb2
      have HNX := Lib.hid (show (St.next s).val = .int .u64 (nextS s.1 : Nat) from rfl)
      simp only [St.val] at e1
      obtain ⟨fn, tmps, assign, body, hy, hR⟩ := HY
      simp only [St.encs, St.next] at hy
      clear hb hb2 hs
      generalize hV : wr.setCell ⟨B, 0, none⟩ (.int .u64 (nextS s.1 : Nat)) = V at *
      have HV := Lib.hid hV
      have hR' := Lib.hid hR
      clear hR
      gi_wp2_with (refine ⟨trivial, ?_⟩; gi_at_call 68; refine (callsIn_wide.2 (HN.out _)).mono ?_; rintro e w' ⟨rfl, rfl⟩)
      refine RoundIn.mono hR'.out ?_
      rintro e W3 (⟨rfl, hJ3, hk3⟩ | ⟨rfl, hJx3⟩)
      · gi_wp2
        gi_roundg k
        case rel => exact ⟨s.next, hJ3, by rw [HNX.out]; exact hk3.trans HB2.out⟩
        case measure => omega
      · gi_wp2
        refine bodyPost_ret (results_none rfl _ _ _) rfl ?_
        exact ⟨⟨_, rfl⟩, hJx3⟩
end
end Go.Proofs.YtepgjimkhodcfaaDoor
