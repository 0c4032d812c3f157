/- Parts: Words, Bitrow1, Few, OpenV, Mat1, Block1, Ref1, Mat2. -/
import Derived.BigQuiet
import Derived.Deep.Draws
import Derived.Deep.QuietTactic
import Derived.Deep.RegionHeld3
import Derived.Deep.SlicePairs
import Derived.Laws.IdiomStrings
import Derived.Lib.Hide
import Derived.Lib.SmallJoins
import Derived.OpenShut
import Derived.Outline
import Derived.ProofKit
import Derived.Test.YtljooknodnblbaaDoorRows
import Derived.WalkKit
namespace Go.Proofs.YtljooknodnblbaaDoor
section
/- Rows of 64-bit words in memory: what a slice of words reads, kept while old memory is kept. No program. -/
set_option linter.unusedVariables false
set_option linter.unusedSimpArgs false
open Go.RowKit
/-- The slice at A of len words reads ws, in blocks that are there. -/
def Words (w : World) (A : Option Addr) (len : Nat) (ws : List Nat) : Prop :=
  ws.length = len ∧ (∀ j, ws.getD j 0 < 18446744073709551616) ∧
    (0 < len → ∃ b off, A = some ⟨b, off, none⟩ ∧ b < w.heap.size ∧ ∀ j, j < len → w.cell? ⟨b, off + j, none⟩ = some (.int .u64 (ws.getD j 0 : Nat)))
theorem Words.below {w w' : World} {A : Option Addr} {len : Nat} {ws : List Nat} (h : Words w A len ws) (hb : Below w.heap.size w w') : Words w' A len ws := by
  refine ⟨h.1, h.2.1, fun hp => ?_⟩
  obtain ⟨b, off, rfl, hlt, hc⟩ := h.2.2 hp
  exact ⟨b, off, rfl, Nat.lt_of_lt_of_le hlt hb.size, fun j hj => (hb.cell (p := ⟨b, off + j, none⟩) hlt).trans (hc j hj)⟩
theorem Words.nil (w : World) (A : Option Addr) : Words w A 0 [] := ⟨rfl, by simp, fun h => by omega⟩
theorem Words.take {w : World} {A : Option Addr} {len : Nat} {ws : List Nat} (h : Words w A len ws) (k : Nat) (hk : k ≤ len) : Words w A k (ws.take k) := by
  refine ⟨by simp [h.1]; omega, fun j => ?_, fun hp => ?_⟩
  · by_cases hj : j < k
    · have := h.2.1 j
      simpa [List.getD, List.getElem?_take, hj] using this
    · simp [List.getD, List.getElem?_take, hj]
  · obtain ⟨b, off, rfl, hlt, hc⟩ := h.2.2 (by omega)
    refine ⟨b, off, rfl, hlt, fun j hj => ?_⟩
    rw [hc j (by omega)]
    simp [List.getD, List.getElem?_take, hj]
theorem Words.drew {w : World} {A : Option Addr} {len : Nat} {ws : List Nat} (h : Words w A len ws) : Words w.drew A len ws := h
theorem Words.alloc {w : World} {A : Option Addr} {len : Nat} {ws : List Nat} (h : Words w A len ws) (o : Obj) : Words (w.alloc o) A len ws :=
  h.below ((Below.refl _ _).alloc (Nat.le_refl _) _)
theorem Words.mono {w w' : World} {A : Option Addr} {len : Nat} {ws : List Nat} (h : Words w A len ws) {B : Nat} (hB : w.heap.size ≤ B) (hb : Below B w w') : Words w' A len ws :=
  h.below (hb.mono hB)
theorem bdN {B : Nat} {a w : World} (h : Below B a w) (n : Nat) : Below B a (w.drewN n) := ⟨h.os, h.tape, h.output, h.size, h.block⟩
/-- A chain of worlds that keep all that was there. -/
theorem chain {w w1 w2 : World} (h : Below w.heap.size w w1) (h2 : Below w1.heap.size w1 w2) : Below w.heap.size w w2 := h.trans (h2.mono h.size)
/-- A block that is known whole, and not frozen. -/
def Box (w : World) (g : Nat) (t : TypeId) (cs : Array Value) : Prop := w.heap[g]? = some (.cells cs t (0, 0))
section
variable {w w' : World} {g : Nat} {t : TypeId} {cs : Array Value}
theorem Box.lt (h : Box w g t cs) : g < w.heap.size := by
  rcases Nat.lt_or_ge g w.heap.size with hl | hg
  · exact hl
  · unfold Box at h; rw [Array.getElem?_eq_none hg] at h; cases h
theorem Box.cell (h : Box w g t cs) (i : Nat) : w.cell? ⟨g, i, none⟩ = cs[i]? := cell_of_row w g i cs t (0, 0) h
theorem Box.free (h : Box w g t cs) (i : Nat) : w.frozen? ⟨g, i, none⟩ = false := frozen_of_row w g i cs t h
theorem Box.new (w : World) (t : TypeId) (cs : Array Value) : Box (w.alloc (.cells cs t)) w.heap.size t cs := heap_alloc_new w _
theorem Box.alloc (h : Box w g t cs) (o : Obj) : Box (w.alloc o) g t cs := (Below.heap_alloc w o g h.lt).trans h
theorem Box.drew (h : Box w g t cs) : Box w.drew g t cs := h
theorem Box.drewN (h : Box w g t cs) (n : Nat) : Box (w.drewN n) g t cs := h
theorem Box.below {B : Nat} (h : Box w g t cs) (hb : Below B w w') (hg : g < B) : Box w' g t cs := (hb.block g hg).trans h
theorem Box.keep (h : Box w g t cs) (hb : Below w.heap.size w w') : Box w' g t cs := h.below hb h.lt
theorem Box.far (h : Box w g t cs) {p : Addr} (hp : g ≠ p.block) (u : Value) : Box (w.setCell p u) g t cs := (heap_setCell_other w p g u hp).trans h
theorem Box.put (h : Box w g t cs) (i : Nat) (u : Value) : Box (w.setCell ⟨g, i, none⟩ u) g t (cs.setIfInBounds i u) := heap_setCell_same w g i cs t u h
theorem Box.two {a b : Value} (h : Box w g t #[a, b]) : w.cell? ⟨g, 0, none⟩ = some a ∧ w.cell? ⟨g, 1, none⟩ = some b ∧ w.frozen? ⟨g, 0, none⟩ = false ∧ w.frozen? ⟨g, 1, none⟩ = false :=
  ⟨h.cell 0, h.cell 1, h.free 0, h.free 1⟩
/-- Both cells of a box stored anew. -/
theorem Box.put2 {a b u v : Value} (h : Box w g t #[a, b]) : Box ((w.setCell ⟨g, 0, none⟩ u).setCell ⟨g, 1, none⟩ v) g t #[u, v] := (h.put 0 u).put 1 v
end
/-- Numbers as cells. -/
def numsA (zs : List Nat) : Array Value := (zs.map fun (x : Nat) => Value.int .u64 (x : Int)).toArray
theorem numsA_get (zs : List Nat) (j : Nat) (h : j < zs.length) : (numsA zs)[j]? = some (.int .u64 (zs.getD j 0 : Nat)) := by
  simp [numsA, List.getD, h]
theorem numsA_set (zs : List Nat) (k x : Nat) : (numsA zs).setIfInBounds k (.int .u64 (x : Int)) = numsA (zs.set k x) := by
  simp [numsA, List.map_set]
theorem numsA_zero (n : Nat) : Array.replicate n (Value.int .u64 0) = numsA (List.replicate n 0) := by
  simp [numsA]
theorem Box.words {w : World} {g : Nat} {t : TypeId} {zs : List Nat} (h : Box w g t (numsA zs)) (hz : ∀ j, zs.getD j 0 < 18446744073709551616) : Words w (some ⟨g, 0, none⟩) zs.length zs :=
  ⟨rfl, hz, fun _ => ⟨g, 0, rfl, h.lt, fun j hj => by rw [Nat.zero_add, h.cell j, numsA_get zs j hj]⟩⟩
theorem make_words {P : Program} (t e : TypeId) (i : TypeInfo) (ht : P.underlying t = some (.slice e)) (hi : P.info? e = some i) (hz : i.zero = some (.int .u64 0)) (hs : i.size = 1) (hb : i.bytes = 8) (n : Nat) (hn : n ≤ 1000000) (w : World) :
    (Instr.makeSlice t (.int .i64 (n : Int)) (.int .i64 (n : Int))).run P w = .ok (.slice (some ⟨w.heap.size, 0, none⟩) n n) (w.alloc (.cells (numsA (List.replicate n 0)) e)) := by
  have hr := run_make (P := P) w t e i _ ht hi hz .i64 .i64 n n (by omega) (by omega) (by rw [hb]; omega) (by omega)
  simp only [Int.toNat_natCast, hs, Nat.mul_one] at hr
  rw [hr, ← numsA_zero]
  have : madeCells (Value.int .u64 0).cells n = Array.replicate n (Value.int .u64 0) := by
    apply Array.toList_inj.1
    have := toList_madeCells_one (Value.int .u64 0) n
    simpa [Value.cells] using this
  rw [this]
/-- Words lie in no box of a row. -/
theorem Words.off {w : World} {A : Option Addr} {len : Nat} {ws : List Nat} {g : Nat} {t : TypeId} {x : Int} {S : Option Addr} {p q : Nat} (h : Words w A len ws) (hb : Box w g t #[.int .i64 x, .slice S p q]) (b off : Nat) (hA : A = some ⟨b, off, none⟩) (hl : 0 < len) : b ≠ g := by
  intro e
  obtain ⟨b', off', hA', _, hc⟩ := h.2.2 hl
  rw [hA] at hA'
  injection hA' with hA'
  injection hA' with e1 e2
  subst e1 e2 e
  have c := hc 0 hl
  rw [hb.cell] at c
  match off, c with
  | 0, c => simp at c
  | 1, c => simp at c
  | k + 2, c => simp at c
theorem Words.put2 {w : World} {A : Option Addr} {len : Nat} {ws : List Nat} {g : Nat} {t : TypeId} {x : Int} {S : Option Addr} {p q : Nat} (h : Words w A len ws) (hb : Box w g t #[.int .i64 x, .slice S p q]) (u v : Value) :
    Words ((w.setCell ⟨g, 0, none⟩ u).setCell ⟨g, 1, none⟩ v) A len ws := by
  refine ⟨h.1, h.2.1, fun hp => ?_⟩
  obtain ⟨b, off, rfl, hlt, hc⟩ := h.2.2 hp
  have hne := h.off hb b off rfl hp
  refine ⟨b, off, rfl, by simpa [World.setCell] using hlt, fun j hj => ?_⟩
  rw [World.cell?_setCell_other _ _ _ _ (by intro e; injection e; omega), World.cell?_setCell_other _ _ _ _ (by intro e; injection e; omega)]
  exact hc j hj
/-- A return of a struct in a cell and a plain value. -/
theorem close_cell {P : Program} {fn : Func} {R : Ending → World → Prop} {a : Act} {W : World} {p q : Tmp} {T : TypeId} {g : Nat} {cs : Array Value} {d : TypeDesc} {v : Value} (hr : fn.results = #[.cell p T, .tmp q])
    (hp : a.tmps.getD p undef = .pointer (some ⟨g, 0, none⟩)) (hq : a.tmps.getD q undef = v) (hd : a.defers = []) (hbox : Box W g T cs) (hu : P.underlying T = some d)
    (hk : (match d with | .struct _ | .array _ _ => true | _ => false) = true) (hi : (P.info? T).map (·.size) = some cs.size)
    (hR : R (.returned (.tuple #[.agg cs, v])) W) : bodyPost P fn R .ret a W := by
  subst hq
  refine bodyPost_ret ?_ hd hR
  have hp' : a.tmps[p]?.getD undef = .pointer (some ⟨g, 0, none⟩) := by simpa using hp
  simp [results, hr, hp', asAddr, run_loadVar_row W g T T cs (0, 0) d hbox hu hk hi]
/-- A return of a struct in a cell. -/
theorem close_one {P : Program} {fn : Func} {R : Ending → World → Prop} {a : Act} {W : World} {p : Tmp} {T : TypeId} {g : Nat} {cs : Array Value} {d : TypeDesc} (hr : fn.results = #[.cell p T])
    (hp : a.tmps.getD p undef = .pointer (some ⟨g, 0, none⟩)) (hd : a.defers = []) (hbox : Box W g T cs) (hu : P.underlying T = some d)
    (hk : (match d with | .struct _ | .array _ _ => true | _ => false) = true) (hi : (P.info? T).map (·.size) = some cs.size)
    (hR : R (.returned (.agg cs)) W) : bodyPost P fn R .ret a W :=
  bodyPost_ret (results_cell_row hr _ _ g T cs (0, 0) d hp hbox hu hk hi) hd hR
/-- The slice at A of len ints reads zs. -/
def Ints (w : World) (A : Option Addr) (len : Nat) (zs : List Int) : Prop :=
  zs.length = len ∧ (∀ j, -9223372036854775808 ≤ zs.getD j 0 ∧ zs.getD j 0 ≤ 9223372036854775807) ∧
    (0 < len → ∃ b off, A = some ⟨b, off, none⟩ ∧ b < w.heap.size ∧ ∀ j, j < len → w.cell? ⟨b, off + j, none⟩ = some (.int .i64 (zs.getD j 0)))
theorem Ints.below {w w' : World} {A : Option Addr} {len : Nat} {zs : List Int} (h : Ints w A len zs) (hb : Below w.heap.size w w') : Ints w' A len zs := by
  refine ⟨h.1, h.2.1, fun hp => ?_⟩
  obtain ⟨b, off, rfl, hlt, hc⟩ := h.2.2 hp
  exact ⟨b, off, rfl, Nat.lt_of_lt_of_le hlt hb.size, fun j hj => (hb.cell (p := ⟨b, off + j, none⟩) hlt).trans (hc j hj)⟩
theorem Ints.nil (w : World) (A : Option Addr) : Ints w A 0 [] := ⟨rfl, by simp, fun h => by omega⟩
/-- Three boxes of rows, stored anew one after the other. -/
theorem three_rows {x : World} {g1 g2 g3 : Nat} {t : TypeId} {i1 i2 i3 j1 j2 j3 : Int} {S1 S2 S3 T1 T2 T3 : Option Addr} {p1 q1 p2 q2 p3 q3 l1 c1 l2 c2 l3 c3 : Nat}
    (h1 : Box x g1 t #[.int .i64 i1, .slice S1 p1 q1]) (h2 : Box x g2 t #[.int .i64 i2, .slice S2 p2 q2]) (h3 : Box x g3 t #[.int .i64 i3, .slice S3 p3 q3]) (n12 : g1 ≠ g2) (n13 : g1 ≠ g3) (n23 : g2 ≠ g3)
    {w : World} (hb : Below w.heap.size w x) (b1 : w.heap.size ≤ g1) (b2 : w.heap.size ≤ g2) (b3 : w.heap.size ≤ g3)
    {xa bs cs : List Nat} (u1 : Words x T1 l1 xa) (u2 : Words x T2 l2 bs) (u3 : Words x T3 l3 cs) :
    let y := (((((x.setCell ⟨g1, 0, none⟩ (.int .i64 j1)).setCell ⟨g1, 1, none⟩ (.slice T1 l1 c1)).setCell ⟨g2, 0, none⟩ (.int .i64 j2)).setCell ⟨g2, 1, none⟩ (.slice T2 l2 c2)).setCell ⟨g3, 0, none⟩ (.int .i64 j3)).setCell ⟨g3, 1, none⟩ (.slice T3 l3 c3)
    Box y g1 t #[.int .i64 j1, .slice T1 l1 c1] ∧ Box y g2 t #[.int .i64 j2, .slice T2 l2 c2] ∧ Box y g3 t #[.int .i64 j3, .slice T3 l3 c3] ∧ Words y T1 l1 xa ∧ Words y T2 l2 bs ∧ Words y T3 l3 cs ∧ Below w.heap.size w y := by
  have k1 : Box ((x.setCell ⟨g1, 0, none⟩ (.int .i64 j1)).setCell ⟨g1, 1, none⟩ (.slice T1 l1 c1)) g1 t #[.int .i64 j1, .slice T1 l1 c1] := h1.put2
  have k2 := (h2.far (p := ⟨g1, 0, none⟩) n12.symm (.int .i64 j1)).far (p := ⟨g1, 1, none⟩) n12.symm (.slice T1 l1 c1)
  have k3 := (h3.far (p := ⟨g1, 0, none⟩) n13.symm (.int .i64 j1)).far (p := ⟨g1, 1, none⟩) n13.symm (.slice T1 l1 c1)
  have v1 := u1.put2 h1 (.int .i64 j1) (.slice T1 l1 c1)
  have v2 := u2.put2 h1 (.int .i64 j1) (.slice T1 l1 c1)
  have v3 := u3.put2 h1 (.int .i64 j1) (.slice T1 l1 c1)
  have m1 := (k1.far (p := ⟨g2, 0, none⟩) n12 (.int .i64 j2)).far (p := ⟨g2, 1, none⟩) n12 (.slice T2 l2 c2)
  have m2 : Box _ g2 t #[.int .i64 j2, .slice T2 l2 c2] := k2.put2
  have m3 := (k3.far (p := ⟨g2, 0, none⟩) n23.symm (.int .i64 j2)).far (p := ⟨g2, 1, none⟩) n23.symm (.slice T2 l2 c2)
  have v1' := v1.put2 k2 (.int .i64 j2) (.slice T2 l2 c2)
  have v2' := v2.put2 k2 (.int .i64 j2) (.slice T2 l2 c2)
  have v3' := v3.put2 k2 (.int .i64 j2) (.slice T2 l2 c2)
  exact ⟨(m1.far (p := ⟨g3, 0, none⟩) n13 (.int .i64 j3)).far (p := ⟨g3, 1, none⟩) n13 (.slice T3 l3 c3), (m2.far (p := ⟨g3, 0, none⟩) n23 (.int .i64 j3)).far (p := ⟨g3, 1, none⟩) n23 (.slice T3 l3 c3), m3.put2,
    v1'.put2 m3 _ _, v2'.put2 m3 _ _, v3'.put2 m3 _ _,
    (((((hb.setCell (p := ⟨g1, 0, none⟩) b1 _).setCell (p := ⟨g1, 1, none⟩) b1 _).setCell (p := ⟨g2, 0, none⟩) b2 _).setCell (p := ⟨g2, 1, none⟩) b2 _).setCell (p := ⟨g3, 0, none⟩) b3 _).setCell (p := ⟨g3, 1, none⟩) b3 _⟩
/-- A row of the call's own and a box of another type are two blocks. -/
theorem own_ne {w : World} {base e size n g : Nat} {t : TypeId} {v : Value} {xs : List Value} {cs : Array Value} (h : w.ownsRow base e size v n xs) (hb : Box w g t cs) (hne : e ≠ t) : v.ownBlock ≠ some g := by
  rcases h.2 with ⟨rfl, _⟩ | ⟨g', cap, cur, rfl, _, hh, _⟩
  · simp [Value.ownBlock]
  · intro he
    have : g' = g := by simpa [Value.ownBlock] using he
    subst this
    unfold Box at hb
    rw [hb] at hh
    injection hh with hh
    injection hh with _ ht
    exact hne ht.symm
theorem Box.grown {w w' : World} {g : Nat} {t : TypeId} {cs : Array Value} {row : Option Nat} (h : Box w g t cs) (hg : w.grownBy w' row) (hne : row ≠ some g) : Box w' g t cs := (hg.block g h.lt (Ne.symm hne)).trans h
/-- The slice value of a row of the call's own. -/
theorem own_form {w : World} {base e size n : Nat} {v : Value} {xs : List Value} (h : w.ownsRow base e size v n xs) : ∃ A c, v = .slice A n c ∧ (A = none → n = 0 ∧ c = 0) := by
  rcases h.2 with ⟨rfl, rfl⟩ | ⟨g, cap, cur, rfl, _⟩
  · exact ⟨none, 0, rfl, fun _ => ⟨rfl, rfl⟩⟩
  · exact ⟨_, _, rfl, fun h => by cases h⟩
theorem own_words {w : World} {base e n : Nat} {A : Option Addr} {c : Nat} {zs : List Nat} (h : w.ownsRow base e 1 (.slice A n c) n (zs.map fun (x : Nat) => Value.int .u64 (x : Int))) (hz : ∀ j, zs.getD j 0 < 18446744073709551616) : Words w A n zs := by
  have hl : zs.length = n := by have := h.1; simpa using this
  refine ⟨hl, hz, fun hp => ?_⟩
  rcases h.2 with ⟨_, h0⟩ | ⟨g, cap, cur, hv, hb, hh, hn, hm, hs, hx⟩
  · omega
  · injection hv with hA _ _
    subst hA
    have hbx : Box w g e cur := hh
    refine ⟨g, 0, rfl, hbx.lt, fun j hj => ?_⟩
    rw [Nat.zero_add, hbx.cell j]
    have e1 : (cur.toList.take (n * 1))[j]? = (zs.map fun (x : Nat) => Value.int .u64 (x : Int))[j]? := by rw [hx]
    rw [Nat.mul_one, List.getElem?_take, if_pos hj] at e1
    have hjz : j < zs.length := by omega
    simp only [List.getElem?_map, List.getElem?_eq_getElem hjz, Option.map_some] at e1
    rw [← Array.getElem?_toList, e1]
    simp [List.getD, hjz]
theorem own_ints {w : World} {base e n : Nat} {A : Option Addr} {c : Nat} {zs : List Int} (h : w.ownsRow base e 1 (.slice A n c) n (zs.map (Value.int .i64))) (hz : ∀ j, -9223372036854775808 ≤ zs.getD j 0 ∧ zs.getD j 0 ≤ 9223372036854775807) : Ints w A n zs := by
  have hl : zs.length = n := by have := h.1; simpa using this
  refine ⟨hl, hz, fun hp => ?_⟩
  rcases h.2 with ⟨_, h0⟩ | ⟨g, cap, cur, hv, hb, hh, hn, hm, hs, hx⟩
  · omega
  · injection hv with hA _ _
    subst hA
    have hbx : Box w g e cur := hh
    refine ⟨g, 0, rfl, hbx.lt, fun j hj => ?_⟩
    rw [Nat.zero_add, hbx.cell j]
    have e1 : (cur.toList.take (n * 1))[j]? = (zs.map (Value.int .i64))[j]? := by rw [hx]
    rw [Nat.mul_one, List.getElem?_take, if_pos hj] at e1
    have hjz : j < zs.length := by omega
    simp only [List.getElem?_map, List.getElem?_eq_getElem hjz, Option.map_some] at e1
    rw [← Array.getElem?_toList, e1]
    simp [List.getD, hjz]
/-- A store into a box of another type leaves a row of the call's own. -/
theorem own_far {w : World} {base e size n g : Nat} {t : TypeId} {v : Value} {xs : List Value} {cs : Array Value} (h : w.ownsRow base e size v n xs) (hb : Box w g t cs) (hne : e ≠ t) (i : Nat) (u : Value) : (w.setCell ⟨g, i, none⟩ u).ownsRow base e size v n xs := by
  have hn := own_ne h hb hne
  refine ⟨h.1, ?_⟩
  rcases h.2 with ⟨rfl, rfl⟩ | ⟨g', cap, cur, rfl, h1, hh, h3⟩
  · exact .inl ⟨rfl, rfl⟩
  · refine .inr ⟨g', cap, cur, rfl, h1, ?_, h3⟩
    rw [heap_setCell_other _ _ _ _ (fun e => hn (by rw [← show g' = g from e]; rfl))]
    exact hh
theorem own_empty (W : World) (base e : Nat) (hb : base ≤ W.heap.size) : (W.alloc (.cells #[] e)).ownsRow base e 1 (.slice (some ⟨W.heap.size, 0, none⟩) 0 0) 0 [] :=
  ⟨by simp, .inr ⟨W.heap.size, 0, #[], rfl, hb, heap_alloc_new W _, Nat.le_refl _, Nat.zero_le _, by simp, by simp⟩⟩
theorem own_keep {w w' : World} {base e size n : Nat} {v : Value} {xs : List Value} (h : w.ownsRow base e size v n xs) (hb : Below w.heap.size w w') : w'.ownsRow base e size v n xs := by
  refine ⟨h.1, ?_⟩
  rcases h.2 with ⟨rfl, rfl⟩ | ⟨g', cap, cur, rfl, h1, hh, h3⟩
  · exact .inl ⟨rfl, rfl⟩
  · have hx : Box w g' e cur := hh
    exact .inr ⟨g', cap, cur, rfl, h1, hx.keep hb, h3⟩
end
section
/- Contracts of package bitrow's small functions: lengthMayBe, wordsFor, isPlace, Right. -/
set_option linter.unusedVariables false
set_option linter.unusedSimpArgs false
open Go.RowKit
theorem quiet_w {P : Program} {f : FuncId} {args : Array Value} {w : World} {n : Nat} {v : Value}
    (h : Calls P f args (w.drewN n) fun e w' => e = .returned v ∧ w.drewN n = w') : Calls P f args (w.drewN n) fun e w'' => e = .returned v ∧ ∃ m, w'' = w.drewN m :=
  h.mono fun _ _ ⟨he, hm⟩ => ⟨he, n, hm.symm⟩
def lmb (n : Int) : Bool := decide (0 ≤ n) && decide (n ≤ 512)
theorem lmb_iff (n : Int) : lmb n = true ↔ 0 ≤ n ∧ n ≤ 512 := by simp [lmb]
theorem lmb_no (n : Int) : lmb n = false ↔ ¬ (0 ≤ n ∧ n ≤ 512) := by rw [← lmb_iff]; simp
theorem lengthMayBe_any (n : Int) (w : World) : Calls Tryd.prog 46 #[.int .i64 n] w fun e w' => e = .returned (.bool (lmb n)) ∧ w = w' := by
  by_cases h : 0 ≤ n
  · by_cases h2 : n ≤ 512
    · have e : lmb n = true := (lmb_iff n).2 ⟨h, h2⟩
      rw [e]; clear e
      go_enter Tryd.func46, Tryd.ntmps46
      go_wp2
      go_ret
      exact ⟨rfl, rfl⟩
    · have e : lmb n = false := (lmb_no n).2 (by omega)
      rw [e]; clear e
      have t : decide (n ≤ 512) = false := by simpa using h2
      go_enter Tryd.func46, Tryd.ntmps46
      go_wp2
      go_ret
      exact ⟨by simp, rfl⟩
  · have e : lmb n = false := (lmb_no n).2 (by omega)
    rw [e]; clear e
    have t : decide (0 ≤ n) = false := by simpa using h
    go_enter Tryd.func46, Tryd.ntmps46
    go_wp2
    go_ret
    exact ⟨by simp, rfl⟩
def nw (n : Nat) : Nat := (n + 63) / 64
theorem wordsFor_any (n : Nat) (h : n ≤ 512) (w : World) : Calls Tryd.prog 47 #[.int .i64 n] w fun e w' => e = .returned (.int .i64 (nw n)) ∧ w = w' := by
  go_enter Tryd.func47, Tryd.ntmps47
  go_wp2
  go_ret
  exact ⟨congrArg (fun z => Ending.returned (.int .i64 z)) (by unfold nw; omega), rfl⟩
theorem isPlace_any (n : Int) (A : Option Addr) (l c : Nat) (i : Int) (w : World) : Calls Tryd.prog 51 #[.agg #[.int .i64 n, .slice A l c], .int .i64 i] w fun e w' => e = .returned (.bool (decide (0 ≤ i) && decide (i < n))) ∧ Below w.heap.size w w' := by
  by_cases h : 0 ≤ i
  · have t : decide (0 ≤ i) = true := by simpa using h
    rw [t, Bool.true_and]; clear t
    go_enter Tryd.func51, Tryd.ntmps51
    go_wp2
    all_goals go_ret
    all_goals exact ⟨rfl, (Below.refl _ _).alloc (Nat.le_refl _) _⟩
  · have t : decide (0 ≤ i) = false := by simpa using h
    rw [t, Bool.false_and]
    go_enter Tryd.func51, Tryd.ntmps51
    go_wp2
    all_goals go_ret
    all_goals exact ⟨rfl, (Below.refl _ _).alloc (Nat.le_refl _) _⟩
def rightB (n : Int) (ws : List Nat) : Bool := lmb n && (ws.length == nw n.toNat) && (n.toNat % 64 == 0 || (ws.getD (ws.length - 1) 0) / 2 ^ (n.toNat % 64) == 0)
theorem shr_zero (x k : Nat) : (((x : Int) / 2 ^ k) == 0) = (x / 2 ^ k == 0) := by
  rw [Bool.eq_iff_iff]
  have e : (x : Int) / 2 ^ k = ((x / 2 ^ k : Nat) : Int) := by simp [Int.natCast_ediv]
  rw [e]
  simp only [beq_iff_eq]
  omega
theorem right_out (n : Int) (A : Option Addr) (l c : Nat) (h : lmb n = false) (w : World) :
    Calls Tryd.prog 33 #[.agg #[.int .i64 n, .slice A l c]] w fun e w' => e = .returned (.bool false) ∧ Below w.heap.size w w' := by
  have H := Lib.hid (lengthMayBe_any n)
  go_enter Tryd.func33, Tryd.ntmps33
  go_wp2_with fail
  go_quiet ((go_at_call 46; exact quiet_w (H.out _)))
  go_wp2
  go_ret
  exact ⟨rfl, bdN ((Below.refl _ _).alloc (Nat.le_refl _) _) _⟩
theorem right_len (n : Nat) (A : Option Addr) (l c : Nat) (h : lmb n = true) (hl : l ≠ nw n) (w : World) :
    Calls Tryd.prog 33 #[.agg #[.int .i64 n, .slice A l c]] w fun e w' => e = .returned (.bool false) ∧ Below w.heap.size w w' := by
  have hn := (lmb_iff n).1 h
  have H := Lib.hid (lengthMayBe_any n)
  have H2 := Lib.hid (wordsFor_any n (by omega))
  have t : ((l : Int) != (nw n : Int)) = true := by rw [bne_iff_ne]; omega
  go_enter Tryd.func33, Tryd.ntmps33
  go_wp2_with fail
  go_quiet ((first | (go_at_call 46; exact quiet_w (H.out _)) | (go_at_call 47; exact quiet_w (H2.out _))))
  go_wp2
  go_ret
  exact ⟨rfl, bdN ((Below.refl _ _).alloc (Nat.le_refl _) _) _⟩
theorem right_full (n : Nat) (A : Option Addr) (l c : Nat) (h : lmb n = true) (hl : l = nw n) (hm : n % 64 = 0) (w : World) :
    Calls Tryd.prog 33 #[.agg #[.int .i64 n, .slice A l c]] w fun e w' => e = .returned (.bool true) ∧ Below w.heap.size w w' := by
  have hn := (lmb_iff n).1 h
  have H := Lib.hid (lengthMayBe_any n)
  have H2 := Lib.hid (wordsFor_any n (by omega))
  subst hl
  have t : ((nw n : Int) != (nw n : Int)) = false := by simp
  have t2 : ((n : Int) % 64 == 0) = true := by simp; omega
  clear hm
  go_enter Tryd.func33, Tryd.ntmps33
  go_wp2_with fail
  go_quiet ((first | (go_at_call 46; exact quiet_w (H.out _)) | (go_at_call 47; exact quiet_w (H2.out _))))
  go_wp2
  go_ret
  exact ⟨rfl, bdN ((Below.refl _ _).alloc (Nat.le_refl _) _) _⟩
theorem right_part (n : Nat) (A : Option Addr) (l c : Nat) (ws : List Nat) (h : lmb n = true) (hl : l = nw n) (hm : n % 64 ≠ 0) (w : World) (hw : Words w A l ws) :
    Calls Tryd.prog 33 #[.agg #[.int .i64 n, .slice A l c]] w fun e w' => e = .returned (.bool (ws.getD (l - 1) 0 / 2 ^ (n % 64) == 0)) ∧ Below w.heap.size w w' := by
  have hn := (lmb_iff n).1 h
  have H := Lib.hid (lengthMayBe_any n)
  have H2 := Lib.hid (wordsFor_any n (by omega))
  have hp : 0 < nw n := by unfold nw; omega
  subst hl
  obtain ⟨b, off, rfl, hlt, hc⟩ := hw.2.2 hp
  have hx := hw.2.1 (nw n - 1)
  have c1 := hc (nw n - 1) (by omega)
  generalize ws.getD (nw n - 1) 0 = x at *
  have hnw : nw n ≤ 8 := by unfold nw; omega
  have t : ((nw n : Int) != (nw n : Int)) = false := by simp
  have t2 : ((n : Int) % 64 == 0) = false := by simp; omega
  clear hc hw
  go_enter Tryd.func33, Tryd.ntmps33
  go_wp2_with fail
  go_quiet ((first | (go_at_call 46; exact quiet_w (H.out _)) | (go_at_call 47; exact quiet_w (H2.out _))))
  go_wp2
  go_ret
  refine ⟨congrArg (fun z => Ending.returned (.bool z)) ?_, bdN ((Below.refl _ _).alloc (Nat.le_refl _) _) _⟩
  exact shr_zero x (n % 64)
theorem right_any (n : Int) (A : Option Addr) (l c : Nat) (ws : List Nat) (w : World) (hw : Words w A l ws) :
    Calls Tryd.prog 33 #[.agg #[.int .i64 n, .slice A l c]] w fun e w' => e = .returned (.bool (rightB n ws)) ∧ Below w.heap.size w w' := by
  unfold rightB
  cases h : lmb n with
  | false => simpa using right_out n A l c h w
  | true =>
    have hn := (lmb_iff n).1 h
    obtain ⟨m, rfl⟩ := Int.eq_ofNat_of_zero_le hn.1
    rw [Int.toNat_natCast, hw.1]
    by_cases hl : l = nw m
    · have e1 : (l == nw m) = true := by simpa using hl
      rw [e1]
      by_cases hm : m % 64 = 0
      · have e2 : (m % 64 == 0) = true := by simpa using hm
        rw [e2]
        exact right_full m A l c h hl hm w
      · have e2 : (m % 64 == 0) = false := by simpa using hm
        rw [e2]
        exact right_part m A l c ws h hl hm w hw
    · have e1 : (l == nw m) = false := by simpa using hl
      rw [e1]
      exact right_len m A l c h hl w
end
section
/- Contract of the statements' few: a row with at most ten words. -/
set_option linter.unusedVariables false
set_option linter.unusedSimpArgs false
open Go.RowKit
/-- What a call that answers a row leaves. -/
def OneRow (n : Int) (zs : List Nat) (w : World) (e : Ending) (w' : World) : Prop :=
  ∃ A l c, e = .returned (.agg #[.int .i64 n, .slice A l c]) ∧ Words w' A l zs ∧ Below w.heap.size w w'
/-- A slice value as Go has it: nil is empty, without capacity. -/
def SliceOk (A : Option Addr) (l c : Nat) : Prop := l ≤ c ∧ c ≤ maxLen ∧ (A = none → l = 0 ∧ c = 0)
end
section
/- How a slice of words and a slice of ints that came in are opened (without rows). -/
set_option linter.unusedVariables false
set_option linter.unusedSimpArgs false
open Go.RowKit Go.Joins Go.ChangeShapes Go.WideShapes
theorem cellsU64 : Tryd.prog.cellsOf 75 = 1 := by kernel_rfl
theorem cellsInt : Tryd.prog.cellsOf 3 = 1 := by kernel_rfl
theorem addr_at {w : World} {a : Addr} {v : Value} (h : w.cell? (a.add 0) = some v) : ∃ b o, a = ⟨b, o, none⟩ := by
  obtain ⟨b, o, s⟩ := a
  have := World.cell?_spot h
  simp [Addr.add] at this
  subst this
  exact ⟨b, o, rfl⟩
theorem open_words {H : Type} {enc : TypeId × Value → H} {W : World} {fuel : Nat} {cs : List Value} {x : DataW H × List MemPlace}
    (h : DataW.trod enc Tryd.prog W 0 (fun _ => true) true fuel 43 cs = some x) : ∃ A l c us, cs = [.slice A l c] ∧ SliceOk A l c ∧ Words W A l us := by
  rcases open_ints Tryd.underlying43 Tryd.underlying75 cellsU64 h with ⟨hcs, _⟩ | ⟨a, len, cap, zs, hcs, _, hl, hm, hz, _, hcell, hwz⟩
  · exact ⟨none, 0, 0, [], hcs, ⟨Nat.le_refl _, Nat.zero_le _, fun _ => ⟨rfl, rfl⟩⟩, Words.nil _ _⟩
  · have hz' : zs.length = cap := by simpa using hz
    refine ⟨some a, len, cap, (zs.take len).map Int.toNat, hcs, ⟨hl, hm, fun h => by cases h⟩, ?_⟩
    have hget : ∀ j, j < len → ((zs.take len).map Int.toNat).getD j 0 = (zs.getD j 0).toNat := fun j hj => by
      have : j < zs.length := by omega
      simp [List.getD, hj, this]
    have hbd := range_u64 hwz
    refine ⟨by simp; omega, fun j => ?_, fun hp => ?_⟩
    · by_cases hj : j < len
      · rw [hget j hj]
        have := hbd j
        simp only [List.getD]
        omega
      · have hn : ((zs.take len).map Int.toNat)[j]? = none := List.getElem?_eq_none (by simp; omega)
        simp only [List.getD, hn, Option.getD_none]
        omega
    · obtain ⟨b, o, rfl⟩ := addr_at (hcell 0 (by omega))
      have hadd : ∀ j, Addr.add { block := b, off := o } j = ⟨b, o + j, none⟩ := fun j => by
        by_cases h : j = 0 <;> simp [Addr.add, h]
      refine ⟨b, o, rfl, ?_, fun j hj => ?_⟩
      · have := block_lt_of_cell (hcell 0 (by omega))
        rw [hadd] at this
        exact this
      · have := hcell j (by omega)
        rw [hadd] at this
        rw [this, hget j hj]
        have := hbd j
        have e : ((zs.getD j 0).toNat : Int) = zs.getD j 0 := by simp only [List.getD]; omega
        rw [e]
theorem open_nums {H : Type} {enc : TypeId × Value → H} {W : World} {fuel : Nat} {cs : List Value} {x : DataW H × List MemPlace}
    (h : DataW.trod enc Tryd.prog W 0 (fun _ => true) true fuel 55 cs = some x) : ∃ A l c zs, cs = [.slice A l c] ∧ SliceOk A l c ∧ Ints W A l zs := by
  rcases open_ints Tryd.underlying55 Tryd.underlying3 cellsInt h with ⟨hcs, _⟩ | ⟨a, len, cap, zs, hcs, _, hl, hm, hz, _, hcell, hwz⟩
  · exact ⟨none, 0, 0, [], hcs, ⟨Nat.le_refl _, Nat.zero_le _, fun _ => ⟨rfl, rfl⟩⟩, Ints.nil _ _⟩
  · have hz' : zs.length = cap := by simpa using hz
    refine ⟨some a, len, cap, zs.take len, hcs, ⟨hl, hm, fun h => by cases h⟩, ?_⟩
    have hget : ∀ j, j < len → (zs.take len).getD j 0 = zs.getD j 0 := fun j hj => by
      simp [List.getD, hj]
    have hbd := range_i64 hwz
    refine ⟨by simp; omega, fun j => ?_, fun hp => ?_⟩
    · by_cases hj : j < len
      · rw [hget j hj]
        have := hbd j
        simpa only [List.getD] using this
      · have hn : (zs.take len)[j]? = none := List.getElem?_eq_none (by simp; omega)
        simp [List.getD, hn]
    · obtain ⟨b, o, rfl⟩ := addr_at (hcell 0 (by omega))
      have hadd : ∀ j, Addr.add { block := b, off := o } j = ⟨b, o + j, none⟩ := fun j => by
        by_cases h : j = 0 <;> simp [Addr.add, h]
      refine ⟨b, o, rfl, ?_, fun j hj => ?_⟩
      · have := block_lt_of_cell (hcell 0 (by omega))
        rw [hadd] at this
        exact this
      · have := hcell j (by omega)
        rw [hadd] at this
        rw [this, hget j hj]
end
section
/- Matrices in memory: a slice of rows, and what it reads. -/
set_option linter.unusedVariables false
set_option linter.unusedSimpArgs false
open Go.RowKit Go.Joins Go.ChangeShapes Go.WideShapes
/-- The row at a place reads so many bits, and these words. -/
def RowAt (w : World) (b off : Nat) (r : Int × List Nat) : Prop :=
  ∃ B l c, w.cell? ⟨b, off, none⟩ = some (.int .i64 r.1) ∧ w.cell? ⟨b, off + 1, none⟩ = some (.slice B l c) ∧ SliceOk B l c ∧ Words w B l r.2
/-- The slice at A of len rows reads ms; it lies in no block below lo. -/
def MatAt (w : World) (lo : Nat) (A : Option Addr) (len : Nat) (ms : List (Int × List Nat)) : Prop :=
  ms.length = len ∧ (0 < len → ∃ b off, A = some ⟨b, off, none⟩ ∧ lo ≤ b ∧ b < w.heap.size ∧ ∀ j, j < len → RowAt w b (off + j * 2) (ms.getD j (0, [])))
section
variable {w w' : World} {lo : Nat} {A : Option Addr} {len : Nat} {ms : List (Int × List Nat)}
theorem RowAt.below {b off : Nat} {r : Int × List Nat} (h : RowAt w b off r) (hl : b < w.heap.size) (hb : Below w.heap.size w w') : RowAt w' b off r := by
  obtain ⟨B, l, c, h0, h1, h2, h3⟩ := h
  exact ⟨B, l, c, (hb.cell (p := ⟨b, off, none⟩) hl).trans h0, (hb.cell (p := ⟨b, off + 1, none⟩) hl).trans h1, h2, h3.below hb⟩
theorem MatAt.below (h : MatAt w lo A len ms) (hb : Below w.heap.size w w') : MatAt w' lo A len ms := by
  refine ⟨h.1, fun hp => ?_⟩
  obtain ⟨b, off, rfl, h1, h2, h3⟩ := h.2 hp
  exact ⟨b, off, rfl, h1, Nat.lt_of_lt_of_le h2 hb.size, fun j hj => (h3 j hj).below h2 hb⟩
theorem MatAt.mono (h : MatAt w lo A len ms) {B : Nat} (hB : w.heap.size ≤ B) (hb : Below B w w') : MatAt w' lo A len ms := h.below (hb.mono hB)
theorem MatAt.alloc (h : MatAt w lo A len ms) (o : Obj) : MatAt (w.alloc o) lo A len ms := h.below ((Below.refl _ _).alloc (Nat.le_refl _) o)
theorem MatAt.drew (h : MatAt w lo A len ms) : MatAt w.drew lo A len ms := h
theorem MatAt.drewN (h : MatAt w lo A len ms) (n : Nat) : MatAt (w.drewN n) lo A len ms := h
theorem MatAt.low (h : MatAt w lo A len ms) {l2 : Nat} (hl : l2 ≤ lo) : MatAt w l2 A len ms := by
  refine ⟨h.1, fun hp => ?_⟩
  obtain ⟨b, off, rfl, h1, h2, h3⟩ := h.2 hp
  exact ⟨b, off, rfl, by omega, h2, h3⟩
theorem MatAt.nil (w : World) (lo : Nat) (A : Option Addr) : MatAt w lo A 0 [] := ⟨rfl, fun h => by omega⟩
theorem MatAt.at (h : MatAt w lo A len ms) (j : Nat) (hj : j < len) : ∃ b off B l c, A = some ⟨b, off, none⟩ ∧ b < w.heap.size ∧ w.cell? ⟨b, off + j * 2, none⟩ = some (.int .i64 (ms.getD j (0, [])).1) ∧ w.cell? ⟨b, off + j * 2 + 1, none⟩ = some (.slice B l c) ∧ SliceOk B l c ∧ Words w B l (ms.getD j (0, [])).2 := by
  obtain ⟨b, off, rfl, h1, h2, h3⟩ := h.2 (by omega)
  obtain ⟨B, l, c, r0, r1, r2, r3⟩ := h3 j hj
  exact ⟨b, off, B, l, c, rfl, h2, r0, r1, r2, r3⟩
/-- A store into a box of a row or a matrix below. -/
theorem MatAt.far (h : MatAt w lo A len ms) {g : Nat} {t : TypeId} {x : Int} {S : Option Addr} {p q : Nat} (hb : Box w g t #[.int .i64 x, .slice S p q]) (hg : g < lo) (i : Nat) (u : Value) : MatAt (w.setCell ⟨g, i, none⟩ u) lo A len ms := by
  refine ⟨h.1, fun hp => ?_⟩
  obtain ⟨b, off, rfl, h1, h2, h3⟩ := h.2 hp
  refine ⟨b, off, rfl, h1, by simpa [World.setCell] using h2, fun j hj => ?_⟩
  obtain ⟨B, l, c, r0, r1, r2, r3⟩ := h3 j hj
  refine ⟨B, l, c, ?_, ?_, r2, ?_⟩
  · rw [World.cell?_setCell_other _ _ _ _ (by intro e; injection e; omega)]; exact r0
  · rw [World.cell?_setCell_other _ _ _ _ (by intro e; injection e; omega)]; exact r1
  · refine ⟨r3.1, r3.2.1, fun hp => ?_⟩
    obtain ⟨b', off', rfl, hlt, hc⟩ := r3.2.2 hp
    have hne := r3.off hb b' off' rfl hp
    refine ⟨b', off', rfl, by simpa [World.setCell] using hlt, fun j hj => ?_⟩
    rw [World.cell?_setCell_other _ _ _ _ (by intro e; injection e; omega)]
    exact hc j hj
theorem MatAt.put2 (h : MatAt w lo A len ms) {g : Nat} {t : TypeId} {x y : Int} {S : Option Addr} {p q : Nat} (hb : Box w g t #[.int .i64 x, .slice S p q]) (hg : g < lo) (v : Value) : MatAt ((w.setCell ⟨g, 0, none⟩ (.int .i64 y)).setCell ⟨g, 1, none⟩ v) lo A len ms :=
  (h.far hb hg 0 _).far (hb.put 0 (.int .i64 y)) hg 1 v
theorem MatAt.take (h : MatAt w lo A len ms) (k : Nat) (hk : k ≤ len) : MatAt w lo A k (ms.take k) := by
  refine ⟨by simp [h.1]; omega, fun hp => ?_⟩
  obtain ⟨b, off, rfl, h1, h2, h3⟩ := h.2 (by omega)
  refine ⟨b, off, rfl, h1, h2, fun j hj => ?_⟩
  have := h3 j (by omega)
  simpa [List.getD, List.getElem?_take, hj] using this
theorem MatAt.lt (h : MatAt w lo A len ms) (j i : Nat) : (ms.getD j (0, [])).2.getD i 0 < 18446744073709551616 := by
  by_cases hj : j < len
  · obtain ⟨b, off, rfl, h1, h2, h3⟩ := h.2 (by omega)
    obtain ⟨B, l, c, r0, r1, r2, r3⟩ := h3 j hj
    exact r3.2.1 i
  · have : ms[j]? = none := List.getElem?_eq_none (by rw [h.1]; omega)
    simp [List.getD, this]
end
theorem cellsRowM : Tryd.prog.cellsOf 45 = 2 := by kernel_rfl
theorem cellsIntM : Tryd.prog.cellsOf 3 = 1 := by kernel_rfl
theorem cellsWsM : Tryd.prog.cellsOf 43 = 1 := by kernel_rfl
theorem cellsRowsM : Tryd.prog.cellsOf 22 = 1 := by kernel_rfl
theorem cellsMatM : Tryd.prog.cellsOf 24 = 2 := by kernel_rfl
/-- A slice of rows that came in. -/
theorem open_rows {H : Type} {enc : TypeId × Value → H} {W : World} {fuel : Nat} {cs : List Value} {x : DataW H × List MemPlace}
    (h : DataW.trod enc Tryd.prog W 0 (fun _ => true) true fuel 22 cs = some x) : ∃ A l c ms, cs = [.slice A l c] ∧ SliceOk A l c ∧ MatAt W 0 A l ms := by
  rcases Go.Deep.open_slice_pairs Tryd.underlying22 Tryd.underlying45 cellsRowM rfl rfl cellsIntM cellsWsM h with ⟨hcs, _⟩ | ⟨a, len, cap, m, n, V0, V1, D0, D1, P0, P1, hcs, _, hl, hm, hmm, _, hx⟩
  · exact ⟨none, 0, 0, [], hcs, ⟨Nat.le_refl _, Nat.zero_le _, fun _ => ⟨rfl, rfl⟩⟩, MatAt.nil _ _ _⟩
  · have hmm' : m = cap := by simpa using hmm
    have each : ∀ i, i < len → ∃ r : Int × List Nat, ∃ B l c, V0 i = .int .i64 r.1 ∧ V1 i = .slice B l c ∧ SliceOk B l c ∧ Words W B l r.2 := fun i hi => by
      obtain ⟨h0, h1, h2, h3⟩ := hx i (by omega)
      obtain ⟨z, e0, -, wz⟩ := DataW.trod_int Tryd.underlying3 h2
      obtain ⟨B, l, c, us, e1, s1, ws⟩ := open_words h3
      simp at e0 e1
      exact ⟨(z, us), B, l, c, e0, e1, s1, ws⟩
    obtain ⟨q, hq⟩ := Go.Deep.choose_lt each
    refine ⟨some a, len, cap, (List.range len).map q, hcs, ⟨hl, hm, fun h => by cases h⟩, by simp, fun hp => ?_⟩
    obtain ⟨b, o, ha⟩ : ∃ b o, a = ⟨b, o, none⟩ := by
      have := (hx 0 (by omega)).1
      exact addr_at (by simpa using this)
    subst ha
    have hadd : ∀ j, Addr.add { block := b, off := o } j = ⟨b, o + j, none⟩ := fun j => by
      by_cases h : j = 0 <;> simp [Addr.add, h]
    refine ⟨b, o, rfl, Nat.zero_le _, ?_, fun j hj => ?_⟩
    · have := block_lt_of_cell (hx 0 (by omega)).1
      rw [hadd] at this
      exact this
    · obtain ⟨h0, h1, -, -⟩ := hx j (by omega)
      rw [hadd] at h0 h1
      obtain ⟨B, l, c, e0, e1, s1, ws⟩ := hq j hj
      have hg : ((List.range len).map q).getD j (0, []) = q j := by simp [List.getD, hj]
      rw [hg]
      rw [e0] at h0
      rw [e1] at h1
      exact ⟨B, l, c, h0, h1, s1, ws⟩
/-- A matrix that came in. -/
theorem open_mat {H : Type} {enc : TypeId × Value → H} {W : World} {r : Reach} {b0 : Nat} {v : Value} {d : DataW H} {p : List MemPlace}
    (hv : Value.okWide Tryd.prog W r b0 24 v) (h : DataW.Trod enc Tryd.prog W 0 (fun _ => true) true 24 v d p) :
    ∃ n A l c ms, v = .agg #[.int .i64 n, .slice A l c] ∧ (Lit.int .i64 n).wf = true ∧ SliceOk A l c ∧ MatAt W 0 A l ms := by
  obtain ⟨c0, c1, y0, y1, m, rfl, rfl, rfl, hy0, hy1⟩ := open_agg2 Tryd.underlying24 (by kernel_rfl) cellsMatM hv h
  obtain ⟨a, e0, -, wa⟩ := DataW.trod_int Tryd.underlying3 hy0
  obtain ⟨A, l, c, ms, e1, hs, hw⟩ := open_rows hy1
  simp at e0 e1
  subst e0 e1
  exact ⟨a, A, l, c, ms, rfl, wa, hs, hw⟩
end
section
/- Contracts of layer 2: block.sizeMayBe, block.Zero, block.Nought, the reference's Nought, the law's cut. -/
set_option linter.unusedVariables false
set_option linter.unusedSimpArgs false
open Go.RowKit
def smb (n : Int) : Bool := decide (0 ≤ n) && decide (n ≤ 64)
theorem smb_iff (n : Int) : smb n = true ↔ 0 ≤ n ∧ n ≤ 64 := by simp [smb]
theorem smb_no (n : Int) : smb n = false ↔ ¬ (0 ≤ n ∧ n ≤ 64) := by rw [← smb_iff]; simp
theorem sizeMayBe_any (n : Int) (w : World) : Calls Tryd.prog 38 #[.int .i64 n] w fun e w' => e = .returned (.bool (smb n)) ∧ w = w' := by
  by_cases h : 0 ≤ n
  · by_cases h2 : n ≤ 64
    · have e : smb n = true := (smb_iff n).2 ⟨h, h2⟩
      rw [e]; clear e
      go_enter Tryd.func38, Tryd.ntmps38
      go_wp2
      go_ret
      exact ⟨rfl, rfl⟩
    · have e : smb n = false := (smb_no n).2 (by omega)
      rw [e]; clear e
      have t : decide (n ≤ 64) = false := by simpa using h2
      go_enter Tryd.func38, Tryd.ntmps38
      go_wp2
      go_ret
      exact ⟨by simp, rfl⟩
  · have e : smb n = false := (smb_no n).2 (by omega)
    rw [e]; clear e
    have t : decide (0 ≤ n) = false := by simpa using h
    go_enter Tryd.func38, Tryd.ntmps38
    go_wp2
    go_ret
    exact ⟨by simp, rfl⟩
/-- The first 70 bytes of a text. -/
def cutB (s : ByteArray) : ByteArray := s.extract 0 (min s.size 70)
theorem cutB_size (s : ByteArray) : (cutB s).size ≤ 70 := by simp [cutB, ByteArray.size_extract]; omega
theorem cutB_self (s : ByteArray) (h : s.size ≤ 70) : cutB s = s := by
  unfold cutB
  rw [Nat.min_eq_left h]
  apply ByteArray.ext; simp
/-- Are all bytes 0? -/
def noughtL (l : List UInt8) : Bool := l.all fun b => b == 0
theorem take_snoc (s : ByteArray) (k : Nat) (h : k < s.size) : s.data.toList.take (k + 1) = s.data.toList.take k ++ [s[k]] := by
  have hk : k < s.data.toList.length := by simpa using h
  rw [List.take_succ_eq_append_getElem hk]
  rfl
theorem nought_not (s : ByteArray) (k : Nat) (h : k < s.size) (hz : ¬ s[k] = 0) : noughtL s.data.toList = false := by
  rw [Bool.eq_false_iff]
  intro ha
  have := List.all_eq_true.1 ha (s[k]) (by rw [show s[k] = s.data.toList[k]'(by simpa using h) from rfl]; exact List.getElem_mem _)
  exact hz (by simpa using this)
theorem uint8_info : (Tryd.prog.info? 5).map (fun i => (i.zero, i.size, i.bytes)) = some (some (.int .u8 0), 1, 1) := by kernel_rfl
/-- A row of bytes in memory. -/
def bytesA (l : List UInt8) : Array Value := (l.map fun (x : UInt8) => Value.int .u8 (x.toNat : Int)).toArray
theorem bytesA_get (l : List UInt8) (j : Nat) (h : j < l.length) : (bytesA l)[j]? = some (.int .u8 ((l.getD j 0).toNat : Int)) := by
  simp [bytesA, List.getD, h]
theorem bytesA_set (l : List UInt8) (k : Nat) (x : UInt8) : (bytesA l).setIfInBounds k (.int .u8 (x.toNat : Int)) = bytesA (l.set k x) := by
  simp [bytesA, List.map_set]
theorem makeB_any (n : Nat) (hn : n ≤ 1000000) (w : World) :
    (Instr.makeSlice 71 (.int .i64 (n : Int)) (.int .i64 (n : Int))).run Tryd.prog w = .ok (.slice (some ⟨w.heap.size, 0, none⟩) n n) (w.alloc (.cells (bytesA (List.replicate n 0)) 5)) := by
  obtain ⟨i0, hi, hz0, hz1, hz2⟩ := info_parts uint8_info
  have hr := run_make (P := Tryd.prog) w _ _ i0 _ Tryd.underlying71 hi hz0 .i64 .i64 n n (by omega) (by omega) (by rw [hz2]; omega) (by omega)
  simp only [Int.toNat_natCast, hz1, Nat.mul_one] at hr
  rw [hr]
  have : madeCells (Value.int .u8 0).cells n = bytesA (List.replicate n 0) := by
    apply Array.toList_inj.1
    have := toList_madeCells_one (Value.int .u8 0) n
    simpa [Value.cells, bytesA] using this
  rw [this]
theorem backB {w : World} {g n : Nat} {t : TypeId} {l : List UInt8} (h : Box w g t (bytesA l)) (hn : l.length = n) :
    (convert 71 9 (.slice (some ⟨g, 0, none⟩) n n)).run Tryd.prog w = .ok (.string ⟨l.toArray⟩) w := by
  subst hn
  refine run_convert_bytes_back (P := Tryd.prog) w 71 9 5 ⟨g, 0, none⟩ _ l Tryd.underlying71 Tryd.underlying5 Tryd.underlying9 ?_
  intro j hj
  have hadd : Addr.add { block := g, off := 0 } j = ⟨g, j, none⟩ := by
    by_cases h : j = 0 <;> simp [Addr.add, h]
  rw [hadd, h.cell j, bytesA_get l j hj]
  simp [List.getD, hj]
def zeroB (n : Nat) : ByteArray := ⟨(List.replicate n (0 : UInt8)).toArray⟩
theorem zero_no (n : Int) (h : smb n = false) (w : World) : Calls Tryd.prog 40 #[.int .i64 n] w fun e w' => e = .returned (.tuple #[.string ⟨#[]⟩, .int .i64 2]) ∧ Below w.heap.size w w' := by
  have H := Lib.hid (sizeMayBe_any n)
  go_enter Tryd.func40, Tryd.ntmps40
  go_wp2_with fail
  refine (H.out _).mono ?_
  rintro e w1 ⟨rfl, rfl⟩
  go_wp2_with fail
  go_ret2
  exact ⟨rfl, Below.refl _ _⟩
theorem zero_yes (n : Nat) (h : smb n = true) (w : World) : Calls Tryd.prog 40 #[.int .i64 n] w fun e w' => e = .returned (.tuple #[.string (zeroB n), .int .i64 0]) ∧ Below w.heap.size w w' := by
  have H := Lib.hid (sizeMayBe_any n)
  have hn := (smb_iff n).1 h
  have m := makeB_any n (by omega) w
  have c := backB (Box.new w 5 (bytesA (List.replicate n 0))) (n := n) (by simp)
  go_enter Tryd.func40, Tryd.ntmps40
  go_wp2_with fail
  refine (H.out _).mono ?_
  rintro e w1 ⟨rfl, rfl⟩
  go_wp2_with fail
  go_ret2
  exact ⟨rfl, (Below.refl _ _).alloc (Nat.le_refl _) _⟩
end
section
/- Contracts of the reference's words, Bit and Right. -/
set_option linter.unusedVariables false
set_option linter.unusedSimpArgs false
open Go.RowKit
theorem refWords_any (n : Nat) (h : n ≤ 1000000) (w : World) : Calls Tryd.prog 42 #[.int .i64 n] w fun e w' => e = .returned (.int .i64 (nw n)) ∧ w = w' := by
  go_enter Tryd.func42, Tryd.ntmps42
  go_wp2
  go_ret
  exact ⟨congrArg (fun z => Ending.returned (.int .i64 z)) (by unfold nw; omega), rfl⟩
def bitAt (us : List Nat) (i : Nat) : Nat := us.getD (i / 64) 0 / 2 ^ (i % 64) % 2
theorem bit_any (n : Int) (A : Option Addr) (l c i : Nat) (us : List Nat) (w : World) (hu : Words w A l us) (hi : i < 64 * l) (hl : l ≤ 1000000) :
    Calls Tryd.prog 43 #[.agg #[.int .i64 n, .slice A l c], .int .i64 i] w fun e w' => e = .returned (.int .i64 (bitAt us i : Nat)) ∧ Below w.heap.size w w' := by
  obtain ⟨b, o, rfl, hlt, hc⟩ := hu.2.2 (by omega)
  have c1 := hc (i / 64) (by omega)
  have hx := hu.2.1 (i / 64)
  have HV : Hid ((((us.getD (i / 64) 0 : Nat) : Int) / 2 ^ (i % 64)) % 2 = ((bitAt us i : Nat) : Int)) := by
    show _ = _
    unfold bitAt
    have e : ((us.getD (i / 64) 0 : Nat) : Int) / 2 ^ (i % 64) = ((us.getD (i / 64) 0 / 2 ^ (i % 64) : Nat) : Int) := by simp [Int.natCast_ediv]
    rw [e]; omega
  generalize us.getD (i / 64) 0 = x at *
  have hle : (x : Int) / 2 ^ (i % 64) ≤ x := by
    have e : (x : Int) / 2 ^ (i % 64) = ((x / 2 ^ (i % 64) : Nat) : Int) := by simp [Int.natCast_ediv]
    rw [e]
    have := Nat.div_le_self x (2 ^ (i % 64))
    omega
  have hge : 0 ≤ (x : Int) / 2 ^ (i % 64) := by
    have e : (x : Int) / 2 ^ (i % 64) = ((x / 2 ^ (i % 64) : Nat) : Int) := by simp [Int.natCast_ediv]
    rw [e]; exact Int.natCast_nonneg _
  clear hc hu
  go_enter Tryd.func43, Tryd.ntmps43
  go_wp2
  go_ret
  exact ⟨congrArg (fun z => Ending.returned (.int .i64 z)) HV.out, (Below.refl _ _).alloc (Nat.le_refl _) _⟩
theorem rightB_core (n l : Nat) (us : List Nat) (h : lmb n = true) (hl : us.length = l) (hn : l = nw n) : rightB n us = (n % 64 == 0 || us.getD (l - 1) 0 / 2 ^ (n % 64) == 0) := by
  unfold rightB
  rw [h, Int.toNat_natCast, hl, hn]
  simp
theorem right_of_bits (n l : Nat) (us : List Nat) (h : lmb n = true) (hl : us.length = l) (hn : l = nw n) (hlt : ∀ j, us.getD j 0 < 18446744073709551616) (hb : ∀ i, n ≤ i → i < 64 * l → bitAt us i = 0) : rightB n us = true := by
  rw [rightB_core n l us h hl hn]
  by_cases h0 : n % 64 = 0
  · simp [h0]
  · have hp : 1 ≤ l := by rw [hn]; unfold nw; omega
    have hd : n / 64 = l - 1 := by rw [hn]; unfold nw; omega
    have : us.getD (l - 1) 0 < 2 ^ (n % 64) := by
      apply Nat.lt_pow_two_of_testBit
      intro i hi
      by_cases hi64 : i < 64
      · have := hb (64 * (l - 1) + i) (by omega) (by omega)
        unfold bitAt at this
        rw [show (64 * (l - 1) + i) / 64 = l - 1 by omega, show (64 * (l - 1) + i) % 64 = i by omega] at this
        rw [Nat.testBit_eq_decide_div_mod_eq, this]
        rfl
      · exact Nat.testBit_lt_two_pow (Nat.lt_of_lt_of_le (hlt (l - 1)) (show 2 ^ 64 ≤ 2 ^ i from Nat.pow_le_pow_right (by omega) (by omega)))
    have e : us.getD (l - 1) 0 / 2 ^ (n % 64) = 0 := Nat.div_eq_of_lt this
    rw [e]; simp
theorem not_right_of_bit (n l i : Nat) (us : List Nat) (h : lmb n = true) (hl : us.length = l) (hn : l = nw n) (h1 : n ≤ i) (h2 : i < 64 * l) (hb : bitAt us i = 1) : rightB n us = false := by
  rw [rightB_core n l us h hl hn]
  have hnw : nw n = (n + 63) / 64 := rfl
  have h0 : ¬ n % 64 = 0 := by omega
  have hd : i / 64 = l - 1 := by omega
  have hr : n % 64 ≤ i % 64 := by omega
  unfold bitAt at hb
  rw [hd] at hb
  have hne : us.getD (l - 1) 0 / 2 ^ (n % 64) ≠ 0 := by
    intro e
    have hp : 0 < 2 ^ (n % 64) := Nat.two_pow_pos _
    have hlt : us.getD (l - 1) 0 < 2 ^ (n % 64) := by
      rcases Nat.div_eq_zero_iff.1 e with h | h
      · omega
      · exact h
    have : us.getD (l - 1) 0 / 2 ^ (i % 64) = 0 := Nat.div_eq_of_lt (Nat.lt_of_lt_of_le hlt (Nat.pow_le_pow_right (by omega) hr))
    rw [this] at hb
    simp at hb
  have e1 : (n % 64 == 0) = false := by simpa using h0
  have e2 : (us.getD (l - 1) 0 / 2 ^ (n % 64) == 0) = false := by rw [beq_eq_false_iff_ne]; exact hne
  rw [e1, e2]; rfl
theorem bitAt_le (us : List Nat) (i : Nat) : bitAt us i = 0 ∨ bitAt us i = 1 := by unfold bitAt; omega
set_option maxHeartbeats 400000 in
theorem refRight_any (n : Int) (A : Option Addr) (l c : Nat) (us : List Nat) (w : World) (hw : Words w A l us) :
    Calls Tryd.prog 23 #[.agg #[.int .i64 n, .slice A l c]] w fun e w' => e = .returned (.bool (rightB n us)) ∧ Below w.heap.size w w' := by
  have Q := Lib.hid (Box.new w 45 #[.int .i64 n, .slice A l c])
  have HW := Lib.hid (show Below w.heap.size w (w.alloc (.cells #[.int .i64 n, .slice A l c] 45)) from (Below.refl _ _).alloc (Nat.le_refl _) _)
  have HU := Lib.hid hw
  clear hw
  by_cases h0 : n < 0
  · have HF : Hid (rightB n us = false) := by
      show rightB n us = false
      unfold rightB
      rw [(lmb_no n).2 (by omega)]; rfl
    have t : decide (n < 0) = true := by simpa using h0
    go_enter Tryd.func23, Tryd.ntmps23
    go_wp2_with fail
    go_quiet (fail)
    go_wp2
    go_ret
    exact ⟨by rw [HF.out]; rfl, bdN HW.out _⟩
  · have t : decide (n < 0) = false := by simpa using h0
    by_cases h1 : 512 < n
    · have HF : Hid (rightB n us = false) := by
        show rightB n us = false
        unfold rightB
        rw [(lmb_no n).2 (by omega)]; rfl
      have t1 : decide (512 < n) = true := by simpa using h1
      go_enter Tryd.func23, Tryd.ntmps23
      go_wp2_with fail
      go_quiet (fail)
      go_wp2
      go_ret
      exact ⟨by rw [HF.out]; rfl, bdN HW.out _⟩
    · obtain ⟨m, rfl⟩ := Int.eq_ofNat_of_zero_le (show 0 ≤ n by omega)
      have t1 : decide ((512 : Int) < (m : Int)) = false := by simpa using h1
      have hlm : lmb m = true := (lmb_iff m).2 ⟨by omega, by omega⟩
      have HLM := Lib.hid hlm
      have H2 := Lib.hid (refWords_any m (by omega))
      clear hlm
      by_cases hl : l = nw m
      · have t2 : ((l : Int) != (nw m : Int)) = false := by simp [hl]
        have hnw : nw m ≤ 8 := by unfold nw; omega
        have hl8 : l ≤ 8 := by omega
        have HL := Lib.hid hl
        clear hl hnw
        have hm64 : m ≤ 512 := by omega
        go_enter Tryd.func23, Tryd.ntmps23
        go_wp2_with fail
        go_quiet ((go_at_call 42; exact quiet_w (H2.out _)))
        go_wp2
        clear t t1 t2
        go_loopw [3] (fun s wr => ∃ i : Nat, m ≤ i ∧ i ≤ 64 * l + 1000 ∧ s = .int .i64 i ∧ (∀ k, m ≤ k → k < i → bitAt us k = 0) ∧ Box wr w.heap.size 45 #[.int .i64 m, .slice A l c] ∧ Below w.heap.size w wr)
          (fun s _ => 64 * l + 1000 - (intOf s).toNat)
        case atStart => exact ⟨m, Nat.le_refl _, by omega, rfl, fun k h1 h2 => by omega, Q.out.drewN _, bdN HW.out _⟩
        case round =>
          obtain ⟨i, hi1, hi2, rfl, hz, B0, hbel⟩ := hrel
          have R0 := Lib.hid B0
          have HB := Lib.hid hbel
          have HZ := Lib.hid hz
          clear B0 hbel hz Q HW
          obtain ⟨a0, a1, -, -⟩ := R0.out.two
          by_cases hlt : i < 64 * l
          · have hlt' : (i : Int) < 64 * (l : Int) := by omega
            go_wp2_with fail
            refine (bit_any _ A l c i us _ (HU.out.below HB.out) hlt (by omega)).mono ?_
            rintro e w1 ⟨rfl, hb⟩
            have R1 := Lib.hid (R0.out.keep hb)
            have HC := Lib.hid (chain HB.out hb)
            clear hb a0 a1
            rcases bitAt_le us i with hb | hb
            · have HV := Lib.hid hb
              rw [hb]
              clear hb
              go_wp2
              go_roundw
              case rel =>
                refine ⟨i + 1, by omega, by omega, by go_num, fun k h1 h2 => ?_, R1.out, HC.out⟩
                by_cases h : k = i
                · rw [h]; exact HV.out
                · exact HZ.out k h1 (by omega)
              case measure => simp [intOf]; omega
            · have HF := Lib.hid (not_right_of_bit m l i us HLM.out HU.out.1 HL.out hi1 hlt hb)
              rw [hb]
              clear hb
              go_wp2
              go_ret
              exact ⟨by rw [HF.out]; rfl, HC.out⟩
          · have hlt' : ¬ (i : Int) < 64 * (l : Int) := by omega
            have HF := Lib.hid (right_of_bits m l us HLM.out HU.out.1 HL.out HU.out.2.1 (fun k h1 h2 => HZ.out k h1 (by omega)))
            go_wp2
            go_ret
            exact ⟨by rw [HF.out]; rfl, HB.out⟩
      · have t2 : ((l : Int) != (nw m : Int)) = true := by rw [bne_iff_ne]; omega
        have HF : Hid (rightB m us = false) := by
          show rightB m us = false
          unfold rightB
          have : (us.length == nw m) = false := by rw [HU.out.1]; simpa using hl
          rw [HLM.out, Int.toNat_natCast, this]; rfl
        go_enter Tryd.func23, Tryd.ntmps23
        go_wp2_with fail
        go_quiet ((go_at_call 42; exact quiet_w (H2.out _)))
        go_wp2
        go_ret
        exact ⟨by rw [HF.out]; rfl, bdN HW.out _⟩
end
section
/- Contracts of layer 3: columnsMayBe, Right, the reference's Right. -/
set_option linter.unusedVariables false
set_option linter.unusedSimpArgs false
open Go.RowKit
theorem columnsMayBe_any (n : Int) (w : World) : Calls Tryd.prog 31 #[.int .i64 n] w fun e w' => e = .returned (.bool (smb n)) ∧ w = w' := by
  by_cases h : 0 ≤ n
  · by_cases h2 : n ≤ 64
    · have e : smb n = true := (smb_iff n).2 ⟨h, h2⟩
      rw [e]; clear e
      go_enter Tryd.func31, Tryd.ntmps31
      go_wp2
      go_ret
      exact ⟨rfl, rfl⟩
    · have e : smb n = false := (smb_no n).2 (by omega)
      rw [e]; clear e
      have t : decide (n ≤ 64) = false := by simpa using h2
      go_enter Tryd.func31, Tryd.ntmps31
      go_wp2
      go_ret
      exact ⟨by simp, rfl⟩
  · have e : smb n = false := (smb_no n).2 (by omega)
    rw [e]; clear e
    have t : decide (0 ≤ n) = false := by simpa using h
    go_enter Tryd.func31, Tryd.ntmps31
    go_wp2
    go_ret
    exact ⟨by simp, rfl⟩
/-- May a matrix be? -/
def rowsB (N : Int) (ms : List (Int × List Nat)) : Bool := ms.all fun r => (r.1 == N) && rightB r.1 r.2
def rightM (N : Int) (ms : List (Int × List Nat)) : Bool := smb N && decide (ms.length ≤ 64) && rowsB N ms
theorem rowsB_snoc (N : Int) (ms : List (Int × List Nat)) (j : Nat) (h : j < ms.length) : rowsB N (ms.take (j + 1)) = (rowsB N (ms.take j) && (((ms.getD j (0, [])).1 == N) && rightB (ms.getD j (0, [])).1 (ms.getD j (0, [])).2)) := by
  unfold rowsB
  rw [List.take_succ_eq_append_getElem h, List.all_append]
  simp [List.getD, h]
theorem rowsB_not (N : Int) (ms : List (Int × List Nat)) (j : Nat) (h : j < ms.length) (hz : (((ms.getD j (0, [])).1 == N) && rightB (ms.getD j (0, [])).1 (ms.getD j (0, [])).2) = false) : rowsB N ms = false := by
  rw [Bool.eq_false_iff]
  intro ha
  have := List.all_eq_true.1 ha (ms[j]) (List.getElem_mem _)
  rw [show ms.getD j (0, []) = ms[j] by simp [List.getD, h]] at hz
  rw [this] at hz; cases hz
theorem rightM_at {N : Int} {ms : List (Int × List Nat)} (h : rightM N ms = true) (j : Nat) (hj : j < ms.length) : (ms.getD j (0, [])).1 = N ∧ rightB N (ms.getD j (0, [])).2 = true := by
  simp only [rightM, Bool.and_eq_true] at h
  have := List.all_eq_true.1 h.2 (ms[j]) (List.getElem_mem _)
  rw [show ms.getD j (0, []) = ms[j] by simp [List.getD, hj]]
  simp only [Bool.and_eq_true, beq_iff_eq] at this
  exact ⟨this.1, this.1 ▸ this.2⟩
theorem rightM_bd {N : Int} {ms : List (Int × List Nat)} (h : rightM N ms = true) : 0 ≤ N ∧ N ≤ 64 ∧ ms.length ≤ 64 := by
  simp only [rightM, Bool.and_eq_true, decide_eq_true_eq] at h
  have := (smb_iff N).1 h.1.1
  exact ⟨this.1, this.2, h.1.2⟩
set_option maxHeartbeats 1000000 in
theorem mright_any (N : Int) (A : Option Addr) (l c lo : Nat) (ms : List (Int × List Nat)) (w : World) (hm : MatAt w lo A l ms) (hl : l ≤ maxLen) :
    Calls Tryd.prog 18 #[.agg #[.int .i64 N, .slice A l c]] w fun e w' => e = .returned (.bool (rightM N ms)) ∧ Below w.heap.size w w' := by
  unfold maxLen at hl
  have H := Lib.hid (columnsMayBe_any N)
  have Q := Lib.hid (Box.new w 24 #[.int .i64 N, .slice A l c])
  have HW := Lib.hid (show Below w.heap.size w (w.alloc (.cells #[.int .i64 N, .slice A l c] 24)) from (Below.refl _ _).alloc (Nat.le_refl _) _)
  have HM := Lib.hid hm
  have HL := Lib.hid hm.1
  clear hm
  obtain ⟨r0, r1, -, -⟩ := Q.out.two
  cases h : smb N with
  | false =>
    have HE := Lib.hid (show rightM N ms = false by simp [rightM, h])
    go_enter Tryd.func18, Tryd.ntmps18
    go_wp2_with fail
    refine (H.out _).mono ?_
    rintro e w1 ⟨rfl, rfl⟩
    go_wp2_with fail
    go_ret
    exact ⟨by rw [HE.out]; rfl, HW.out⟩
  | true =>
    by_cases h64 : l ≤ 64
    · have g1 : ¬ (64 : Int) < l := by omega
      go_enter Tryd.func18, Tryd.ntmps18
      go_wp2_with fail
      refine (H.out _).mono ?_
      rintro e w1 ⟨rfl, rfl⟩
      go_wp2_with fail
      have HSM := Lib.hid h
      clear h r0 r1 H
      go_loopw [18] (fun i wr => ∃ k : Nat, k ≤ l ∧ i = .int .i64 k ∧ Hid (rowsB N (ms.take k) = true) ∧ Box wr w.heap.size 24 #[.int .i64 N, .slice A l c] ∧ Below w.heap.size w wr) (fun i _ => l - (intOf i).toNat)
      case atStart => exact ⟨0, by omega, rfl, Lib.hid (by simp [rowsB]), Q.out, HW.out⟩
      case round =>
        obtain ⟨k, hk, rfl, HN, hbx, hbel⟩ := hrel
        have R := Lib.hid hbx
        have B := Lib.hid hbel
        clear hbx hbel Q HW
        obtain ⟨r0, r1, -, -⟩ := R.out.two
        by_cases hlt : k < l
        · have hlt' : (k : Int) < (l : Int) := by omega
          obtain ⟨b, off, B1, l1, c1, rfl, hb, x0, x1, hs, hw⟩ := (HM.out.mono (Nat.le_refl _) B.out).at k hlt
          have HS := Lib.hid (rowsB_snoc N ms k (by rw [HL.out]; exact hlt))
          have HNO := Lib.hid (rowsB_not N ms k (by rw [HL.out]; exact hlt))
          generalize (ms.getD k (0, [])).1 = n at *
          generalize (ms.getD k (0, [])).2 = us at *
          have R2 := Lib.hid (R.out.alloc (.cells #[.int .i64 n, .slice B1 l1 c1] 45))
          have B2 := Lib.hid (B.out.alloc B.out.size (.cells #[.int .i64 n, .slice B1 l1 c1] 45))
          have HW1 := Lib.hid (hw.alloc (.cells #[.int .i64 n, .slice B1 l1 c1] 45))
          have HR := Lib.hid (right_any n B1 l1 c1 us _ HW1.out)
          clear hw hs
          obtain ⟨r0, r1, -, -⟩ := R2.out.two
          by_cases hn : n = N
          · subst hn
            have t : (n != n) = false := by simp
            cases hr : rightB n us with
            | true =>
              rw [hr] at HR HS
              go_wp2_with fail
              refine HR.out.mono ?_
              rintro e w2 ⟨rfl, hb2⟩
              have B3 := Lib.hid (chain B2.out hb2)
              have R3 := Lib.hid (R2.out.keep hb2)
              clear hb2
              go_wp2_with fail
              go_roundw
              case rel => exact ⟨k + 1, by omega, by go_num, Lib.hid (by rw [HS.out, HN.out]; simp), R3.out, B3.out⟩
              case measure => simp [intOf]; omega
            | false =>
              rw [hr] at HR
              have HE := Lib.hid (show rightM n ms = false by rw [rightM, HNO.out (by simp [hr])]; simp)
              clear hr
              go_wp2_with fail
              refine HR.out.mono ?_
              rintro e w2 ⟨rfl, hb2⟩
              have B3 := Lib.hid (chain B2.out hb2)
              clear hb2
              go_wp2_with fail
              go_ret
              exact ⟨by rw [HE.out]; rfl, B3.out⟩
          · have t : (n != N) = true := by simpa using hn
            have t2 : (n == N) = false := by simpa using hn
            have HE := Lib.hid (show rightM N ms = false by rw [rightM, HNO.out (by simp [t2])]; simp)
            clear hn t2
            go_wp2_with fail
            go_ret
            exact ⟨by rw [HE.out]; rfl, B2.out⟩
        · obtain rfl : k = l := by omega
          have hlt' : ¬ (k : Int) < (k : Int) := by omega
          have HE := Lib.hid (show rightM N ms = true by
            have := HN.out
            rw [List.take_of_length_le (by rw [HL.out]; omega)] at this
            simp [rightM, HSM.out, this, HL.out, h64])
          go_wp2_with fail
          go_ret
          exact ⟨by rw [HE.out]; rfl, B.out⟩
    · have g1 : (64 : Int) < l := by omega
      have HE := Lib.hid (show rightM N ms = false by simp [rightM, HL.out, h64])
      go_enter Tryd.func18, Tryd.ntmps18
      go_wp2_with fail
      refine (H.out _).mono ?_
      rintro e w1 ⟨rfl, rfl⟩
      go_wp2_with fail
      go_ret
      exact ⟨by rw [HE.out]; rfl, HW.out⟩
end
end Go.Proofs.YtljooknodnblbaaDoor
