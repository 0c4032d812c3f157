/- Parts: Words, OwnU, Bitrow1, Bitrow2. -/
import Derived.Test.YtdfmogcgangdnaaZa
import Derived.BigQuiet
import Derived.Deep.DeepCutAuto
import Derived.Deep.Draws
import Derived.Deep.QuietTactic
import Derived.Deep.RegionHeld3
import Derived.Lib.Hide
import Derived.Outline
import Derived.StillTailTactics
import Derived.Test.YtdfmogcgangdnaaRows
import Derived.WalkKit
namespace Go.Proofs.Ytdfmogcgangdnaa
section
/- Rows of 64-bit words in memory: what a slice of words reads, kept while old memory is kept. No program. -/
set_option linter.unusedVariables false
set_option linter.unusedSimpArgs false
open Go.RowKit
/-- The slice at A of len words reads ws, in blocks that are there. -/
def Words (w : World) (A : Option Addr) (len : Nat) (ws : List Nat) : Prop :=
  ws.length = len ∧ (∀ j, ws.getD j 0 < 18446744073709551616) ∧
    (0 < len → ∃ b off, A = some ⟨b, off, none⟩ ∧ b < w.heap.size ∧ ∀ j, j < len → w.cell? ⟨b, off + j, none⟩ = some (.int .u64 (ws.getD j 0 : Nat)))
theorem Words.below {w w' : World} {A : Option Addr} {len : Nat} {ws : List Nat} (h : Words w A len ws) (hb : Below w.heap.size w w') : Words w' A len ws := by
  refine ⟨h.1, h.2.1, fun hp => ?_⟩
  obtain ⟨b, off, rfl, hlt, hc⟩ := h.2.2 hp
  exact ⟨b, off, rfl, Nat.lt_of_lt_of_le hlt hb.size, fun j hj => (hb.cell (p := ⟨b, off + j, none⟩) hlt).trans (hc j hj)⟩
theorem Words.nil (w : World) (A : Option Addr) : Words w A 0 [] := ⟨rfl, by simp, fun h => by omega⟩
theorem Words.take {w : World} {A : Option Addr} {len : Nat} {ws : List Nat} (h : Words w A len ws) (k : Nat) (hk : k ≤ len) : Words w A k (ws.take k) := by
  refine ⟨by simp [h.1]; omega, fun j => ?_, fun hp => ?_⟩
  · by_cases hj : j < k
    · have := h.2.1 j
      simpa [List.getD, List.getElem?_take, hj] using this
    · simp [List.getD, List.getElem?_take, hj]
  · obtain ⟨b, off, rfl, hlt, hc⟩ := h.2.2 (by omega)
    refine ⟨b, off, rfl, hlt, fun j hj => ?_⟩
    rw [hc j (by omega)]
    simp [List.getD, List.getElem?_take, hj]
theorem Words.drew {w : World} {A : Option Addr} {len : Nat} {ws : List Nat} (h : Words w A len ws) : Words w.drew A len ws := h
theorem Words.alloc {w : World} {A : Option Addr} {len : Nat} {ws : List Nat} (h : Words w A len ws) (o : Obj) : Words (w.alloc o) A len ws :=
  h.below ((Below.refl _ _).alloc (Nat.le_refl _) _)
theorem Words.mono {w w' : World} {A : Option Addr} {len : Nat} {ws : List Nat} (h : Words w A len ws) {B : Nat} (hB : w.heap.size ≤ B) (hb : Below B w w') : Words w' A len ws :=
  h.below (hb.mono hB)
theorem bdN {B : Nat} {a w : World} (h : Below B a w) (n : Nat) : Below B a (w.drewN n) := ⟨h.os, h.tape, h.output, h.size, h.block⟩
/-- A chain of worlds that keep all that was there. -/
theorem chain {w w1 w2 : World} (h : Below w.heap.size w w1) (h2 : Below w1.heap.size w1 w2) : Below w.heap.size w w2 := h.trans (h2.mono h.size)
/-- A block that is known whole, and not frozen. -/
def Box (w : World) (g : Nat) (t : TypeId) (cs : Array Value) : Prop := w.heap[g]? = some (.cells cs t (0, 0))
section
variable {w w' : World} {g : Nat} {t : TypeId} {cs : Array Value}
theorem Box.lt (h : Box w g t cs) : g < w.heap.size := by
  rcases Nat.lt_or_ge g w.heap.size with hl | hg
  · exact hl
  · unfold Box at h; rw [Array.getElem?_eq_none hg] at h; cases h
theorem Box.cell (h : Box w g t cs) (i : Nat) : w.cell? ⟨g, i, none⟩ = cs[i]? := cell_of_row w g i cs t (0, 0) h
theorem Box.free (h : Box w g t cs) (i : Nat) : w.frozen? ⟨g, i, none⟩ = false := frozen_of_row w g i cs t h
theorem Box.new (w : World) (t : TypeId) (cs : Array Value) : Box (w.alloc (.cells cs t)) w.heap.size t cs := heap_alloc_new w _
theorem Box.alloc (h : Box w g t cs) (o : Obj) : Box (w.alloc o) g t cs := (Below.heap_alloc w o g h.lt).trans h
theorem Box.drew (h : Box w g t cs) : Box w.drew g t cs := h
theorem Box.drewN (h : Box w g t cs) (n : Nat) : Box (w.drewN n) g t cs := h
theorem Box.below {B : Nat} (h : Box w g t cs) (hb : Below B w w') (hg : g < B) : Box w' g t cs := (hb.block g hg).trans h
theorem Box.keep (h : Box w g t cs) (hb : Below w.heap.size w w') : Box w' g t cs := h.below hb h.lt
theorem Box.far (h : Box w g t cs) {p : Addr} (hp : g ≠ p.block) (u : Value) : Box (w.setCell p u) g t cs := (heap_setCell_other w p g u hp).trans h
theorem Box.put (h : Box w g t cs) (i : Nat) (u : Value) : Box (w.setCell ⟨g, i, none⟩ u) g t (cs.setIfInBounds i u) := heap_setCell_same w g i cs t u h
theorem Box.two {a b : Value} (h : Box w g t #[a, b]) : w.cell? ⟨g, 0, none⟩ = some a ∧ w.cell? ⟨g, 1, none⟩ = some b ∧ w.frozen? ⟨g, 0, none⟩ = false ∧ w.frozen? ⟨g, 1, none⟩ = false :=
  ⟨h.cell 0, h.cell 1, h.free 0, h.free 1⟩
/-- Both cells of a box stored anew. -/
theorem Box.put2 {a b u v : Value} (h : Box w g t #[a, b]) : Box ((w.setCell ⟨g, 0, none⟩ u).setCell ⟨g, 1, none⟩ v) g t #[u, v] := (h.put 0 u).put 1 v
end
/-- Numbers as cells. -/
def numsA (zs : List Nat) : Array Value := (zs.map fun (x : Nat) => Value.int .u64 (x : Int)).toArray
theorem numsA_get (zs : List Nat) (j : Nat) (h : j < zs.length) : (numsA zs)[j]? = some (.int .u64 (zs.getD j 0 : Nat)) := by
  simp [numsA, List.getD, h]
theorem numsA_set (zs : List Nat) (k x : Nat) : (numsA zs).setIfInBounds k (.int .u64 (x : Int)) = numsA (zs.set k x) := by
  simp [numsA, List.map_set]
theorem numsA_zero (n : Nat) : Array.replicate n (Value.int .u64 0) = numsA (List.replicate n 0) := by
  simp [numsA]
theorem Box.words {w : World} {g : Nat} {t : TypeId} {zs : List Nat} (h : Box w g t (numsA zs)) (hz : ∀ j, zs.getD j 0 < 18446744073709551616) : Words w (some ⟨g, 0, none⟩) zs.length zs :=
  ⟨rfl, hz, fun _ => ⟨g, 0, rfl, h.lt, fun j hj => by rw [Nat.zero_add, h.cell j, numsA_get zs j hj]⟩⟩
theorem make_words {P : Program} (t e : TypeId) (i : TypeInfo) (ht : P.underlying t = some (.slice e)) (hi : P.info? e = some i) (hz : i.zero = some (.int .u64 0)) (hs : i.size = 1) (hb : i.bytes = 8) (n : Nat) (hn : n ≤ 1000000) (w : World) :
    (Instr.makeSlice t (.int .i64 (n : Int)) (.int .i64 (n : Int))).run P w = .ok (.slice (some ⟨w.heap.size, 0, none⟩) n n) (w.alloc (.cells (numsA (List.replicate n 0)) e)) := by
  have hr := run_make (P := P) w t e i _ ht hi hz .i64 .i64 n n (by omega) (by omega) (by rw [hb]; omega) (by omega)
  simp only [Int.toNat_natCast, hs, Nat.mul_one] at hr
  rw [hr, ← numsA_zero]
  have : madeCells (Value.int .u64 0).cells n = Array.replicate n (Value.int .u64 0) := by
    apply Array.toList_inj.1
    have := toList_madeCells_one (Value.int .u64 0) n
    simpa [Value.cells] using this
  rw [this]
/-- Words lie in no box of a row. -/
theorem Words.off {w : World} {A : Option Addr} {len : Nat} {ws : List Nat} {g : Nat} {t : TypeId} {x : Int} {S : Option Addr} {p q : Nat} (h : Words w A len ws) (hb : Box w g t #[.int .i64 x, .slice S p q]) (b off : Nat) (hA : A = some ⟨b, off, none⟩) (hl : 0 < len) : b ≠ g := by
  intro e
  obtain ⟨b', off', hA', _, hc⟩ := h.2.2 hl
  rw [hA] at hA'
  injection hA' with hA'
  injection hA' with e1 e2
  subst e1 e2 e
  have c := hc 0 hl
  rw [hb.cell] at c
  match off, c with
  | 0, c => simp at c
  | 1, c => simp at c
  | k + 2, c => simp at c
theorem Words.put2 {w : World} {A : Option Addr} {len : Nat} {ws : List Nat} {g : Nat} {t : TypeId} {x : Int} {S : Option Addr} {p q : Nat} (h : Words w A len ws) (hb : Box w g t #[.int .i64 x, .slice S p q]) (u v : Value) :
    Words ((w.setCell ⟨g, 0, none⟩ u).setCell ⟨g, 1, none⟩ v) A len ws := by
  refine ⟨h.1, h.2.1, fun hp => ?_⟩
  obtain ⟨b, off, rfl, hlt, hc⟩ := h.2.2 hp
  have hne := h.off hb b off rfl hp
  refine ⟨b, off, rfl, by simpa [World.setCell] using hlt, fun j hj => ?_⟩
  rw [World.cell?_setCell_other _ _ _ _ (by intro e; injection e; omega), World.cell?_setCell_other _ _ _ _ (by intro e; injection e; omega)]
  exact hc j hj
/-- A return of a struct in a cell and a plain value. -/
theorem close_cell {P : Program} {fn : Func} {R : Ending → World → Prop} {a : Act} {W : World} {p q : Tmp} {T : TypeId} {g : Nat} {cs : Array Value} {d : TypeDesc} {v : Value} (hr : fn.results = #[.cell p T, .tmp q])
    (hp : a.tmps.getD p undef = .pointer (some ⟨g, 0, none⟩)) (hq : a.tmps.getD q undef = v) (hd : a.defers = []) (hbox : Box W g T cs) (hu : P.underlying T = some d)
    (hk : (match d with | .struct _ | .array _ _ => true | _ => false) = true) (hi : (P.info? T).map (·.size) = some cs.size)
    (hR : R (.returned (.tuple #[.agg cs, v])) W) : bodyPost P fn R .ret a W := by
  subst hq
  refine bodyPost_ret ?_ hd hR
  have hp' : a.tmps[p]?.getD undef = .pointer (some ⟨g, 0, none⟩) := by simpa using hp
  simp [results, hr, hp', asAddr, run_loadVar_row W g T T cs (0, 0) d hbox hu hk hi]
/-- A return of a struct in a cell. -/
theorem close_one {P : Program} {fn : Func} {R : Ending → World → Prop} {a : Act} {W : World} {p : Tmp} {T : TypeId} {g : Nat} {cs : Array Value} {d : TypeDesc} (hr : fn.results = #[.cell p T])
    (hp : a.tmps.getD p undef = .pointer (some ⟨g, 0, none⟩)) (hd : a.defers = []) (hbox : Box W g T cs) (hu : P.underlying T = some d)
    (hk : (match d with | .struct _ | .array _ _ => true | _ => false) = true) (hi : (P.info? T).map (·.size) = some cs.size)
    (hR : R (.returned (.agg cs)) W) : bodyPost P fn R .ret a W :=
  bodyPost_ret (results_cell_row hr _ _ g T cs (0, 0) d hp hbox hu hk hi) hd hR
/-- The slice at A of len ints reads zs. -/
def Ints (w : World) (A : Option Addr) (len : Nat) (zs : List Int) : Prop :=
  zs.length = len ∧ (∀ j, -9223372036854775808 ≤ zs.getD j 0 ∧ zs.getD j 0 ≤ 9223372036854775807) ∧
    (0 < len → ∃ b off, A = some ⟨b, off, none⟩ ∧ b < w.heap.size ∧ ∀ j, j < len → w.cell? ⟨b, off + j, none⟩ = some (.int .i64 (zs.getD j 0)))
theorem Ints.below {w w' : World} {A : Option Addr} {len : Nat} {zs : List Int} (h : Ints w A len zs) (hb : Below w.heap.size w w') : Ints w' A len zs := by
  refine ⟨h.1, h.2.1, fun hp => ?_⟩
  obtain ⟨b, off, rfl, hlt, hc⟩ := h.2.2 hp
  exact ⟨b, off, rfl, Nat.lt_of_lt_of_le hlt hb.size, fun j hj => (hb.cell (p := ⟨b, off + j, none⟩) hlt).trans (hc j hj)⟩
theorem Ints.nil (w : World) (A : Option Addr) : Ints w A 0 [] := ⟨rfl, by simp, fun h => by omega⟩
/-- Three boxes of rows, stored anew one after the other. -/
theorem three_rows {x : World} {g1 g2 g3 : Nat} {t : TypeId} {i1 i2 i3 j1 j2 j3 : Int} {S1 S2 S3 T1 T2 T3 : Option Addr} {p1 q1 p2 q2 p3 q3 l1 c1 l2 c2 l3 c3 : Nat}
    (h1 : Box x g1 t #[.int .i64 i1, .slice S1 p1 q1]) (h2 : Box x g2 t #[.int .i64 i2, .slice S2 p2 q2]) (h3 : Box x g3 t #[.int .i64 i3, .slice S3 p3 q3]) (n12 : g1 ≠ g2) (n13 : g1 ≠ g3) (n23 : g2 ≠ g3)
    {w : World} (hb : Below w.heap.size w x) (b1 : w.heap.size ≤ g1) (b2 : w.heap.size ≤ g2) (b3 : w.heap.size ≤ g3)
    {xa bs cs : List Nat} (u1 : Words x T1 l1 xa) (u2 : Words x T2 l2 bs) (u3 : Words x T3 l3 cs) :
    let y := (((((x.setCell ⟨g1, 0, none⟩ (.int .i64 j1)).setCell ⟨g1, 1, none⟩ (.slice T1 l1 c1)).setCell ⟨g2, 0, none⟩ (.int .i64 j2)).setCell ⟨g2, 1, none⟩ (.slice T2 l2 c2)).setCell ⟨g3, 0, none⟩ (.int .i64 j3)).setCell ⟨g3, 1, none⟩ (.slice T3 l3 c3)
    Box y g1 t #[.int .i64 j1, .slice T1 l1 c1] ∧ Box y g2 t #[.int .i64 j2, .slice T2 l2 c2] ∧ Box y g3 t #[.int .i64 j3, .slice T3 l3 c3] ∧ Words y T1 l1 xa ∧ Words y T2 l2 bs ∧ Words y T3 l3 cs ∧ Below w.heap.size w y := by
  have k1 : Box ((x.setCell ⟨g1, 0, none⟩ (.int .i64 j1)).setCell ⟨g1, 1, none⟩ (.slice T1 l1 c1)) g1 t #[.int .i64 j1, .slice T1 l1 c1] := h1.put2
  have k2 := (h2.far (p := ⟨g1, 0, none⟩) n12.symm (.int .i64 j1)).far (p := ⟨g1, 1, none⟩) n12.symm (.slice T1 l1 c1)
  have k3 := (h3.far (p := ⟨g1, 0, none⟩) n13.symm (.int .i64 j1)).far (p := ⟨g1, 1, none⟩) n13.symm (.slice T1 l1 c1)
  have v1 := u1.put2 h1 (.int .i64 j1) (.slice T1 l1 c1)
  have v2 := u2.put2 h1 (.int .i64 j1) (.slice T1 l1 c1)
  have v3 := u3.put2 h1 (.int .i64 j1) (.slice T1 l1 c1)
  have m1 := (k1.far (p := ⟨g2, 0, none⟩) n12 (.int .i64 j2)).far (p := ⟨g2, 1, none⟩) n12 (.slice T2 l2 c2)
  have m2 : Box _ g2 t #[.int .i64 j2, .slice T2 l2 c2] := k2.put2
  have m3 := (k3.far (p := ⟨g2, 0, none⟩) n23.symm (.int .i64 j2)).far (p := ⟨g2, 1, none⟩) n23.symm (.slice T2 l2 c2)
  have v1' := v1.put2 k2 (.int .i64 j2) (.slice T2 l2 c2)
  have v2' := v2.put2 k2 (.int .i64 j2) (.slice T2 l2 c2)
  have v3' := v3.put2 k2 (.int .i64 j2) (.slice T2 l2 c2)
  exact ⟨(m1.far (p := ⟨g3, 0, none⟩) n13 (.int .i64 j3)).far (p := ⟨g3, 1, none⟩) n13 (.slice T3 l3 c3), (m2.far (p := ⟨g3, 0, none⟩) n23 (.int .i64 j3)).far (p := ⟨g3, 1, none⟩) n23 (.slice T3 l3 c3), m3.put2,
    v1'.put2 m3 _ _, v2'.put2 m3 _ _, v3'.put2 m3 _ _,
    (((((hb.setCell (p := ⟨g1, 0, none⟩) b1 _).setCell (p := ⟨g1, 1, none⟩) b1 _).setCell (p := ⟨g2, 0, none⟩) b2 _).setCell (p := ⟨g2, 1, none⟩) b2 _).setCell (p := ⟨g3, 0, none⟩) b3 _).setCell (p := ⟨g3, 1, none⟩) b3 _⟩
/-- A row of the call's own and a box of another type are two blocks. -/
theorem own_ne {w : World} {base e size n g : Nat} {t : TypeId} {v : Value} {xs : List Value} {cs : Array Value} (h : w.ownsRow base e size v n xs) (hb : Box w g t cs) (hne : e ≠ t) : v.ownBlock ≠ some g := by
  rcases h.2 with ⟨rfl, _⟩ | ⟨g', cap, cur, rfl, _, hh, _⟩
  · simp [Value.ownBlock]
  · intro he
    have : g' = g := by simpa [Value.ownBlock] using he
    subst this
    unfold Box at hb
    rw [hb] at hh
    injection hh with hh
    injection hh with _ ht
    exact hne ht.symm
theorem Box.grown {w w' : World} {g : Nat} {t : TypeId} {cs : Array Value} {row : Option Nat} (h : Box w g t cs) (hg : w.grownBy w' row) (hne : row ≠ some g) : Box w' g t cs := (hg.block g h.lt (Ne.symm hne)).trans h
/-- The slice value of a row of the call's own. -/
theorem own_form {w : World} {base e size n : Nat} {v : Value} {xs : List Value} (h : w.ownsRow base e size v n xs) : ∃ A c, v = .slice A n c ∧ (A = none → n = 0 ∧ c = 0) := by
  rcases h.2 with ⟨rfl, rfl⟩ | ⟨g, cap, cur, rfl, _⟩
  · exact ⟨none, 0, rfl, fun _ => ⟨rfl, rfl⟩⟩
  · exact ⟨_, _, rfl, fun h => by cases h⟩
theorem own_words {w : World} {base e n : Nat} {A : Option Addr} {c : Nat} {zs : List Nat} (h : w.ownsRow base e 1 (.slice A n c) n (zs.map fun (x : Nat) => Value.int .u64 (x : Int))) (hz : ∀ j, zs.getD j 0 < 18446744073709551616) : Words w A n zs := by
  have hl : zs.length = n := by have := h.1; simpa using this
  refine ⟨hl, hz, fun hp => ?_⟩
  rcases h.2 with ⟨_, h0⟩ | ⟨g, cap, cur, hv, hb, hh, hn, hm, hs, hx⟩
  · omega
  · injection hv with hA _ _
    subst hA
    have hbx : Box w g e cur := hh
    refine ⟨g, 0, rfl, hbx.lt, fun j hj => ?_⟩
    rw [Nat.zero_add, hbx.cell j]
    have e1 : (cur.toList.take (n * 1))[j]? = (zs.map fun (x : Nat) => Value.int .u64 (x : Int))[j]? := by rw [hx]
    rw [Nat.mul_one, List.getElem?_take, if_pos hj] at e1
    have hjz : j < zs.length := by omega
    simp only [List.getElem?_map, List.getElem?_eq_getElem hjz, Option.map_some] at e1
    rw [← Array.getElem?_toList, e1]
    simp [List.getD, hjz]
theorem own_ints {w : World} {base e n : Nat} {A : Option Addr} {c : Nat} {zs : List Int} (h : w.ownsRow base e 1 (.slice A n c) n (zs.map (Value.int .i64))) (hz : ∀ j, -9223372036854775808 ≤ zs.getD j 0 ∧ zs.getD j 0 ≤ 9223372036854775807) : Ints w A n zs := by
  have hl : zs.length = n := by have := h.1; simpa using this
  refine ⟨hl, hz, fun hp => ?_⟩
  rcases h.2 with ⟨_, h0⟩ | ⟨g, cap, cur, hv, hb, hh, hn, hm, hs, hx⟩
  · omega
  · injection hv with hA _ _
    subst hA
    have hbx : Box w g e cur := hh
    refine ⟨g, 0, rfl, hbx.lt, fun j hj => ?_⟩
    rw [Nat.zero_add, hbx.cell j]
    have e1 : (cur.toList.take (n * 1))[j]? = (zs.map (Value.int .i64))[j]? := by rw [hx]
    rw [Nat.mul_one, List.getElem?_take, if_pos hj] at e1
    have hjz : j < zs.length := by omega
    simp only [List.getElem?_map, List.getElem?_eq_getElem hjz, Option.map_some] at e1
    rw [← Array.getElem?_toList, e1]
    simp [List.getD, hjz]
/-- A store into a box of another type leaves a row of the call's own. -/
theorem own_far {w : World} {base e size n g : Nat} {t : TypeId} {v : Value} {xs : List Value} {cs : Array Value} (h : w.ownsRow base e size v n xs) (hb : Box w g t cs) (hne : e ≠ t) (i : Nat) (u : Value) : (w.setCell ⟨g, i, none⟩ u).ownsRow base e size v n xs := by
  have hn := own_ne h hb hne
  refine ⟨h.1, ?_⟩
  rcases h.2 with ⟨rfl, rfl⟩ | ⟨g', cap, cur, rfl, h1, hh, h3⟩
  · exact .inl ⟨rfl, rfl⟩
  · refine .inr ⟨g', cap, cur, rfl, h1, ?_, h3⟩
    rw [heap_setCell_other _ _ _ _ (fun e => hn (by rw [← show g' = g from e]; rfl))]
    exact hh
theorem own_empty (W : World) (base e : Nat) (hb : base ≤ W.heap.size) : (W.alloc (.cells #[] e)).ownsRow base e 1 (.slice (some ⟨W.heap.size, 0, none⟩) 0 0) 0 [] :=
  ⟨by simp, .inr ⟨W.heap.size, 0, #[], rfl, hb, heap_alloc_new W _, Nat.le_refl _, Nat.zero_le _, by simp, by simp⟩⟩
theorem own_keep {w w' : World} {base e size n : Nat} {v : Value} {xs : List Value} (h : w.ownsRow base e size v n xs) (hb : Below w.heap.size w w') : w'.ownsRow base e size v n xs := by
  refine ⟨h.1, ?_⟩
  rcases h.2 with ⟨rfl, rfl⟩ | ⟨g', cap, cur, rfl, h1, hh, h3⟩
  · exact .inl ⟨rfl, rfl⟩
  · have hx : Box w g' e cur := hh
    exact .inr ⟨g', cap, cur, rfl, h1, hx.keep hb, h3⟩
end
section
/- Words as values; rows of the call's own, from a lower base. No program. -/
set_option linter.unusedVariables false
set_option linter.unusedSimpArgs false
open Go.RowKit
def u64V (x : Nat) : Value := .int .u64 (x : Int)
theorem own_low {w : World} {base base' e size n : Nat} {v : Value} {xs : List Value} (h : w.ownsRow base e size v n xs) (hb : base' ≤ base) : w.ownsRow base' e size v n xs := by
  refine ⟨h.1, ?_⟩
  rcases h.2 with h0 | ⟨g, cap, cur, rfl, h1, h2⟩
  · exact .inl h0
  · exact .inr ⟨g, cap, cur, rfl, Nat.le_trans hb h1, h2⟩
end
section
/- Contracts of package bitrow's small functions: lengthMayBe, wordsFor, isPlace, Right. -/
set_option linter.unusedVariables false
set_option linter.unusedSimpArgs false
open Go.RowKit
theorem quiet_w {P : Program} {f : FuncId} {args : Array Value} {w : World} {n : Nat} {v : Value}
    (h : Calls P f args (w.drewN n) fun e w' => e = .returned v ∧ w.drewN n = w') : Calls P f args (w.drewN n) fun e w'' => e = .returned v ∧ ∃ m, w'' = w.drewN m :=
  h.mono fun _ _ ⟨he, hm⟩ => ⟨he, n, hm.symm⟩
def lmb (n : Int) : Bool := decide (0 ≤ n) && decide (n ≤ 512)
theorem lmb_iff (n : Int) : lmb n = true ↔ 0 ≤ n ∧ n ≤ 512 := by simp [lmb]
theorem lmb_no (n : Int) : lmb n = false ↔ ¬ (0 ≤ n ∧ n ≤ 512) := by rw [← lmb_iff]; simp
theorem lengthMayBe_any (n : Int) (w : World) : Calls Try.prog 56 #[.int .i64 n] w fun e w' => e = .returned (.bool (lmb n)) ∧ w = w' := by
  by_cases h : 0 ≤ n
  · by_cases h2 : n ≤ 512
    · have e : lmb n = true := (lmb_iff n).2 ⟨h, h2⟩
      rw [e]; clear e
      go_enter Try.func56, Try.ntmps56
      go_wp2
      go_ret
      exact ⟨rfl, rfl⟩
    · have e : lmb n = false := (lmb_no n).2 (by omega)
      rw [e]; clear e
      have t : decide (n ≤ 512) = false := by simpa using h2
      go_enter Try.func56, Try.ntmps56
      go_wp2
      go_ret
      exact ⟨by simp, rfl⟩
  · have e : lmb n = false := (lmb_no n).2 (by omega)
    rw [e]; clear e
    have t : decide (0 ≤ n) = false := by simpa using h
    go_enter Try.func56, Try.ntmps56
    go_wp2
    go_ret
    exact ⟨by simp, rfl⟩
def nw (n : Nat) : Nat := (n + 63) / 64
theorem wordsFor_any (n : Nat) (h : n ≤ 512) (w : World) : Calls Try.prog 57 #[.int .i64 n] w fun e w' => e = .returned (.int .i64 (nw n)) ∧ w = w' := by
  go_enter Try.func57, Try.ntmps57
  go_wp2
  go_ret
  exact ⟨congrArg (fun z => Ending.returned (.int .i64 z)) (by unfold nw; omega), rfl⟩
theorem isPlace_any (n : Int) (A : Option Addr) (l c : Nat) (i : Int) (w : World) : Calls Try.prog 70 #[.agg #[.int .i64 n, .slice A l c], .int .i64 i] w fun e w' => e = .returned (.bool (decide (0 ≤ i) && decide (i < n))) ∧ Below w.heap.size w w' := by
  by_cases h : 0 ≤ i
  · have t : decide (0 ≤ i) = true := by simpa using h
    rw [t, Bool.true_and]; clear t
    go_enter Try.func70, Try.ntmps70
    go_wp2
    all_goals go_ret
    all_goals exact ⟨rfl, (Below.refl _ _).alloc (Nat.le_refl _) _⟩
  · have t : decide (0 ≤ i) = false := by simpa using h
    rw [t, Bool.false_and]
    go_enter Try.func70, Try.ntmps70
    go_wp2
    all_goals go_ret
    all_goals exact ⟨rfl, (Below.refl _ _).alloc (Nat.le_refl _) _⟩
def rightB (n : Int) (ws : List Nat) : Bool := lmb n && (ws.length == nw n.toNat) && (n.toNat % 64 == 0 || (ws.getD (ws.length - 1) 0) / 2 ^ (n.toNat % 64) == 0)
theorem shr_zero (x k : Nat) : (((x : Int) / 2 ^ k) == 0) = (x / 2 ^ k == 0) := by
  rw [Bool.eq_iff_iff]
  have e : (x : Int) / 2 ^ k = ((x / 2 ^ k : Nat) : Int) := by simp [Int.natCast_ediv]
  rw [e]
  simp only [beq_iff_eq]
  omega
theorem right_out (n : Int) (A : Option Addr) (l c : Nat) (h : lmb n = false) (w : World) :
    Calls Try.prog 37 #[.agg #[.int .i64 n, .slice A l c]] w fun e w' => e = .returned (.bool false) ∧ Below w.heap.size w w' := by
  have H := Lib.hid (lengthMayBe_any n)
  go_enter Try.func37, Try.ntmps37
  go_wp2_with fail
  go_quiet ((go_at_call 56; exact quiet_w (H.out _)))
  go_wp2
  go_ret
  exact ⟨rfl, bdN ((Below.refl _ _).alloc (Nat.le_refl _) _) _⟩
theorem right_len (n : Nat) (A : Option Addr) (l c : Nat) (h : lmb n = true) (hl : l ≠ nw n) (w : World) :
    Calls Try.prog 37 #[.agg #[.int .i64 n, .slice A l c]] w fun e w' => e = .returned (.bool false) ∧ Below w.heap.size w w' := by
  have hn := (lmb_iff n).1 h
  have H := Lib.hid (lengthMayBe_any n)
  have H2 := Lib.hid (wordsFor_any n (by omega))
  have t : ((l : Int) != (nw n : Int)) = true := by rw [bne_iff_ne]; omega
  go_enter Try.func37, Try.ntmps37
  go_wp2_with fail
  go_quiet ((first | (go_at_call 56; exact quiet_w (H.out _)) | (go_at_call 57; exact quiet_w (H2.out _))))
  go_wp2
  go_ret
  exact ⟨rfl, bdN ((Below.refl _ _).alloc (Nat.le_refl _) _) _⟩
theorem right_full (n : Nat) (A : Option Addr) (l c : Nat) (h : lmb n = true) (hl : l = nw n) (hm : n % 64 = 0) (w : World) :
    Calls Try.prog 37 #[.agg #[.int .i64 n, .slice A l c]] w fun e w' => e = .returned (.bool true) ∧ Below w.heap.size w w' := by
  have hn := (lmb_iff n).1 h
  have H := Lib.hid (lengthMayBe_any n)
  have H2 := Lib.hid (wordsFor_any n (by omega))
  subst hl
  have t : ((nw n : Int) != (nw n : Int)) = false := by simp
  have t2 : ((n : Int) % 64 == 0) = true := by simp; omega
  clear hm
  go_enter Try.func37, Try.ntmps37
  go_wp2_with fail
  go_quiet ((first | (go_at_call 56; exact quiet_w (H.out _)) | (go_at_call 57; exact quiet_w (H2.out _))))
  go_wp2
  go_ret
  exact ⟨rfl, bdN ((Below.refl _ _).alloc (Nat.le_refl _) _) _⟩
theorem right_part (n : Nat) (A : Option Addr) (l c : Nat) (ws : List Nat) (h : lmb n = true) (hl : l = nw n) (hm : n % 64 ≠ 0) (w : World) (hw : Words w A l ws) :
    Calls Try.prog 37 #[.agg #[.int .i64 n, .slice A l c]] w fun e w' => e = .returned (.bool (ws.getD (l - 1) 0 / 2 ^ (n % 64) == 0)) ∧ Below w.heap.size w w' := by
  have hn := (lmb_iff n).1 h
  have H := Lib.hid (lengthMayBe_any n)
  have H2 := Lib.hid (wordsFor_any n (by omega))
  have hp : 0 < nw n := by unfold nw; omega
  subst hl
  obtain ⟨b, off, rfl, hlt, hc⟩ := hw.2.2 hp
  have hx := hw.2.1 (nw n - 1)
  have c1 := hc (nw n - 1) (by omega)
  generalize ws.getD (nw n - 1) 0 = x at *
  have hnw : nw n ≤ 8 := by unfold nw; omega
  have t : ((nw n : Int) != (nw n : Int)) = false := by simp
  have t2 : ((n : Int) % 64 == 0) = false := by simp; omega
  clear hc hw
  go_enter Try.func37, Try.ntmps37
  go_wp2_with fail
  go_quiet ((first | (go_at_call 56; exact quiet_w (H.out _)) | (go_at_call 57; exact quiet_w (H2.out _))))
  go_wp2
  go_ret
  refine ⟨congrArg (fun z => Ending.returned (.bool z)) ?_, bdN ((Below.refl _ _).alloc (Nat.le_refl _) _) _⟩
  exact shr_zero x (n % 64)
theorem right_any (n : Int) (A : Option Addr) (l c : Nat) (ws : List Nat) (w : World) (hw : Words w A l ws) :
    Calls Try.prog 37 #[.agg #[.int .i64 n, .slice A l c]] w fun e w' => e = .returned (.bool (rightB n ws)) ∧ Below w.heap.size w w' := by
  unfold rightB
  cases h : lmb n with
  | false => simpa using right_out n A l c h w
  | true =>
    have hn := (lmb_iff n).1 h
    obtain ⟨m, rfl⟩ := Int.eq_ofNat_of_zero_le hn.1
    rw [Int.toNat_natCast, hw.1]
    by_cases hl : l = nw m
    · have e1 : (l == nw m) = true := by simpa using hl
      rw [e1]
      by_cases hm : m % 64 = 0
      · have e2 : (m % 64 == 0) = true := by simpa using hm
        rw [e2]
        exact right_full m A l c h hl hm w
      · have e2 : (m % 64 == 0) = false := by simpa using hm
        rw [e2]
        exact right_part m A l c ws h hl hm w hw
    · have e1 : (l == nw m) = false := by simpa using hl
      rw [e1]
      exact right_len m A l c h hl w
end
section
/- Contracts of bitrow.joined, Xor, And. -/
set_option linter.unusedVariables false
set_option linter.unusedSimpArgs false
open Go.RowKit
def zrow : Value := .agg #[.int .i64 0, .slice none 0 0]
set_option maxHeartbeats 400000 in
/-- What a call that answers a row and an error leaves. -/
def RowOut (n : Int) (zs : List Nat) (er : Int) (w : World) (e : Ending) (w' : World) : Prop :=
  ∃ A l c, e = .returned (.tuple #[.agg #[.int .i64 n, .slice A l c], .int .i64 er]) ∧ Words w' A l zs ∧ Below w.heap.size w w'
theorem rightB_len8 {n : Int} {us : List Nat} (h : rightB n us = true) {l : Nat} (e : us.length = l) : l ≤ 8 := by
  simp only [rightB, Bool.and_eq_true, beq_iff_eq] at h
  have hn := (lmb_iff n).1 h.1.1
  have := h.1.2
  unfold nw at this
  omega
theorem rightB_len {n : Int} {us vs : List Nat} (h : rightB n us = true) (h2 : rightB n vs = true) {l k : Nat} (e : us.length = l) (e2 : vs.length = k) : k = l := by
  simp only [rightB, Bool.and_eq_true, beq_iff_eq] at h h2
  have := h.1.2
  have := h2.1.2
  omega
theorem joined_arg (f : Nat) (n m : Int) (A B : Option Addr) (l c k d : Nat) (us vs : List Nat) (w : World) (hu : Words w A l us) (hv : Words w B k vs) (h : rightB n us = false ∨ rightB m vs = false) :
    Calls Try.prog 42 #[.agg #[.int .i64 n, .slice A l c], .agg #[.int .i64 m, .slice B k d], .func (.func f) #[] #[]] w (RowOut 0 [] 1 w) := by
  have q0 := ((Box.new w 40 #[.int .i64 n, .slice A l c]).alloc (.cells #[.int .i64 m, .slice B k d] 40)).alloc (.cells #[.int .i64 0, .slice none 0 0] 40)
  have q1 := (Box.new (w.alloc (.cells #[.int .i64 n, .slice A l c] 40)) 40 #[.int .i64 m, .slice B k d]).alloc (.cells #[.int .i64 0, .slice none 0 0] 40)
  have q2 := Box.new ((w.alloc (.cells #[.int .i64 n, .slice A l c] 40)).alloc (.cells #[.int .i64 m, .slice B k d] 40)) 40 #[.int .i64 0, .slice none 0 0]
  have hW : Below w.heap.size w (((w.alloc (.cells #[.int .i64 n, .slice A l c] 40)).alloc (.cells #[.int .i64 m, .slice B k d] 40)).alloc (.cells #[.int .i64 0, .slice none 0 0] 40)) := (((Below.refl _ _).alloc (Nat.le_refl _) _).alloc (by simp) _).alloc (by simp; omega) _
  simp only [World.size_alloc] at q1 q2
  have hu1 := hu.below hW
  have hv1 := hv.below hW
  have Q0 := Lib.hid q0
  have Q1 := Lib.hid q1
  have Q2 := Lib.hid q2
  have HW := Lib.hid hW
  have HU := Lib.hid hu1
  have HV := Lib.hid hv1
  clear q0 q1 q2 hW hu1 hv1 hu hv
  go_enter Try.func42, Try.ntmps42
  go_wp2_with fail
  refine (right_any n A l c us _ HU.out).mono ?_
  rintro e x1 ⟨rfl, hb⟩
  have Q0 := Lib.hid (Q0.out.keep hb)
  have Q1 := Lib.hid (Q1.out.keep hb)
  have Q2 := Lib.hid (Q2.out.keep hb)
  have HV := Lib.hid (HV.out.below hb)
  have HW := Lib.hid (chain HW.out hb)
  clear HU hb
  obtain ⟨c0, c1, -, -⟩ := Q1.out.two
  obtain ⟨r0, r1, r2, r3⟩ := Q2.out.two
  cases h1 : rightB n us with
  | false =>
    clear h1 h
    go_wp2
    refine close_cell Try.results42 rfl rfl rfl Q2.out.put2 Try.underlying40 rfl (by kernel_rfl) ⟨_, _, _, rfl, Words.nil _ _, ?_⟩
    exact (HW.out.setCell (p := ⟨w.heap.size + 1 + 1, 0, none⟩) (by simp; omega) _).setCell (p := ⟨w.heap.size + 1 + 1, 1, none⟩) (by simp; omega) _
  | true =>
    have h2 : rightB m vs = false := by simpa [h1] using h
    go_wp2_with fail
    refine (right_any m B k d vs _ HV.out).mono ?_
    rintro e x2 ⟨rfl, hb⟩
    have Q2 := Lib.hid (Q2.out.keep hb)
    have HW := Lib.hid (chain HW.out hb)
    clear hb c0 c1 r0 r1 r2 r3
    obtain ⟨r0, r1, r2, r3⟩ := Q2.out.two
    go_wp2
    refine close_cell Try.results42 rfl rfl rfl Q2.out.put2 Try.underlying40 rfl (by kernel_rfl) ⟨_, _, _, rfl, Words.nil _ _, ?_⟩
    exact (HW.out.setCell (p := ⟨w.heap.size + 1 + 1, 0, none⟩) (by simp; omega) _).setCell (p := ⟨w.heap.size + 1 + 1, 1, none⟩) (by simp; omega) _
set_option maxHeartbeats 400000 in
theorem joined_size (f : Nat) (n m : Int) (A B : Option Addr) (l c k d : Nat) (us vs : List Nat) (w : World) (hu : Words w A l us) (hv : Words w B k vs) (h1 : rightB n us = true) (h2 : rightB m vs = true) (hnm : n ≠ m) :
    Calls Try.prog 42 #[.agg #[.int .i64 n, .slice A l c], .agg #[.int .i64 m, .slice B k d], .func (.func f) #[] #[]] w (RowOut 0 [] 2 w) := by
  have q0 := ((Box.new w 40 #[.int .i64 n, .slice A l c]).alloc (.cells #[.int .i64 m, .slice B k d] 40)).alloc (.cells #[.int .i64 0, .slice none 0 0] 40)
  have q1 := (Box.new (w.alloc (.cells #[.int .i64 n, .slice A l c] 40)) 40 #[.int .i64 m, .slice B k d]).alloc (.cells #[.int .i64 0, .slice none 0 0] 40)
  have q2 := Box.new ((w.alloc (.cells #[.int .i64 n, .slice A l c] 40)).alloc (.cells #[.int .i64 m, .slice B k d] 40)) 40 #[.int .i64 0, .slice none 0 0]
  have hW : Below w.heap.size w (((w.alloc (.cells #[.int .i64 n, .slice A l c] 40)).alloc (.cells #[.int .i64 m, .slice B k d] 40)).alloc (.cells #[.int .i64 0, .slice none 0 0] 40)) := (((Below.refl _ _).alloc (Nat.le_refl _) _).alloc (by simp) _).alloc (by simp; omega) _
  simp only [World.size_alloc] at q1 q2
  have hu1 := hu.below hW
  have hv1 := hv.below hW
  have Q0 := Lib.hid q0
  have Q1 := Lib.hid q1
  have Q2 := Lib.hid q2
  have HW := Lib.hid hW
  have HU := Lib.hid hu1
  have HV := Lib.hid hv1
  have HU0 := Lib.hid hu
  have HV0 := Lib.hid hv
  clear q0 q1 q2 hW hu1 hv1 hu hv
  go_enter Try.func42, Try.ntmps42
  go_wp2_with fail
  refine (right_any n A l c us _ HU.out).mono ?_
  rintro e x1 ⟨rfl, hb⟩
  have Q0 := Lib.hid (Q0.out.keep hb)
  have Q1 := Lib.hid (Q1.out.keep hb)
  have Q2 := Lib.hid (Q2.out.keep hb)
  have HV := Lib.hid (HV.out.below hb)
  have HW := Lib.hid (chain HW.out hb)
  clear HU hb
  obtain ⟨c0, c1, -, -⟩ := Q1.out.two
  go_wp2_with fail
  refine (right_any m B k d vs _ HV.out).mono ?_
  rintro e x2 ⟨rfl, hb⟩
  have Q0 := Lib.hid (Q0.out.keep hb)
  have Q1 := Lib.hid (Q1.out.keep hb)
  have Q2 := Lib.hid (Q2.out.keep hb)
  have HW := Lib.hid (chain HW.out hb)
  clear hb c0 c1 HV
  obtain ⟨r0, r1, r2, r3⟩ := Q2.out.two
  obtain ⟨a0, a1, -, -⟩ := Q0.out.two
  obtain ⟨b0, b1, -, -⟩ := Q1.out.two
  have t : (n != m) = true := by simpa using hnm
  go_wp2
  refine close_cell Try.results42 rfl rfl rfl Q2.out.put2 Try.underlying40 rfl (by kernel_rfl) ⟨_, _, _, rfl, Words.nil _ _, ?_⟩
  exact (HW.out.setCell (p := ⟨w.heap.size + 1 + 1, 0, none⟩) (by simp; omega) _).setCell (p := ⟨w.heap.size + 1 + 1, 1, none⟩) (by simp; omega) _
theorem uint64_info : (Try.prog.info? 68).map (fun i => (i.zero, i.size, i.bytes)) = some (some (.int .u64 0), 1, 8) := by kernel_rfl
theorem make_any (n : Nat) (hn : n ≤ 1000000) (w : World) :
    (Instr.makeSlice 38 (.int .i64 (n : Int)) (.int .i64 (n : Int))).run Try.prog w = .ok (.slice (some ⟨w.heap.size, 0, none⟩) n n) (w.alloc (.cells (numsA (List.replicate n 0)) 68)) := by
  obtain ⟨i0, hi, hz0, hz1, hz2⟩ := info_parts uint64_info
  exact make_words _ _ i0 Try.underlying38 hi hz0 hz1 hz2 n hn w
def part (g : Nat → Nat → Nat) (us vs : List Nat) (k : Nat) : List Nat := (List.zipWith g us vs).take k ++ List.replicate (us.length - k) 0
theorem part_zero (g : Nat → Nat → Nat) (us vs : List Nat) : part g us vs 0 = List.replicate us.length 0 := by simp [part]
theorem part_len (g : Nat → Nat → Nat) (us vs : List Nat) (j k : Nat) (hu : us.length = k) (hv : vs.length = k) : (part g us vs j).length = k := by
  simp [part]; omega
theorem part_get (g : Nat → Nat → Nat) (us vs : List Nat) (j i k : Nat) (hu : us.length = k) (hv : vs.length = k) (hi : i < k) (hj : j ≤ k) : (part g us vs j).getD i 0 = if i < j then g (us.getD i 0) (vs.getD i 0) else 0 := by
  unfold part
  have hl : ((List.zipWith g us vs).take j).length = j := by simp; omega
  by_cases h : i < j
  · rw [if_pos h]
    have h1 : i < us.length := by omega
    have h2 : i < vs.length := by omega
    simp only [List.getD, List.getElem?_append]
    rw [if_pos (by omega)]
    simp [h, h1, h2, List.getElem?_zipWith]
  · rw [if_neg h]
    simp only [List.getD, List.getElem?_append]
    rw [if_neg (by omega), List.getElem?_replicate]
    split <;> rfl
theorem part_fresh (g : Nat → Nat → Nat) (us vs : List Nat) (j k : Nat) (hu : us.length = k) (hv : vs.length = k) (hj : j < k) : (numsA (part g us vs j))[j]? = some (.int .u64 0) := by
  rw [numsA_get _ _ (by rw [part_len g us vs j k hu hv]; exact hj), part_get g us vs j j k hu hv hj (by omega)]
  simp
theorem part_set (g : Nat → Nat → Nat) (us vs : List Nat) (j k : Nat) (hu : us.length = k) (hv : vs.length = k) (hj : j < k) : (part g us vs j).set j (g (us.getD j 0) (vs.getD j 0)) = part g us vs (j + 1) := by
  apply List.ext_getElem
  · rw [List.length_set, part_len g us vs j k hu hv, part_len g us vs (j + 1) k hu hv]
  · intro i h1 h2
    have hi : i < k := by rw [part_len g us vs (j + 1) k hu hv] at h2; exact h2
    have e1 := part_get g us vs j i k hu hv hi (by omega)
    have e2 := part_get g us vs (j + 1) i k hu hv hi (by omega)
    have l1 : i < (part g us vs j).length := by rw [part_len g us vs j k hu hv]; exact hi
    simp only [List.getD, List.getElem?_eq_getElem l1, Option.getD_some] at e1
    simp only [List.getD, List.getElem?_eq_getElem h2, Option.getD_some] at e2
    rw [List.getElem_set, e2]
    by_cases e : j = i
    · subst e; simp [List.getD]
    · rw [if_neg e, e1]
      have : (i < j) ↔ (i < j + 1) := by omega
      simp only [this, List.getD]
theorem part_full (g : Nat → Nat → Nat) (us vs : List Nat) (k : Nat) (hu : us.length = k) (hv : vs.length = k) : part g us vs k = List.zipWith g us vs := by
  unfold part
  rw [List.take_of_length_le (by simp; omega), hu]
  simp
theorem part_lt (us vs : List Nat) (j i : Nat) (hu : ∀ j, us.getD j 0 < 18446744073709551616) (hv : ∀ j, vs.getD j 0 < 18446744073709551616) : (part (· ^^^ ·) us vs j).getD i 0 < 18446744073709551616 := by
  unfold part
  simp only [List.getD, List.getElem?_append]
  split
  · rw [List.getElem?_take]
    split
    · rw [List.getElem?_zipWith]
      have h1 := hu i
      have h2 := hv i
      simp only [List.getD] at h1 h2
      cases e1 : us[i]? <;> cases e2 : vs[i]? <;> simp [e1, e2] at h1 h2 ⊢
      exact Nat.xor_lt_two_pow (n := 64) h1 h2
    · simp
  · rw [List.getElem?_replicate]
    split <;> simp
theorem xor1_any (x y : Nat) (hx : x < 18446744073709551616) (hy : y < 18446744073709551616) (w : World) : Calls Try.prog 43 #[.int .u64 x, .int .u64 y] w fun e w' => e = .returned (.int .u64 ((x ^^^ y : Nat) : Int)) ∧ w = w' := by
  go_enter Try.func43, Try.ntmps43
  go_wp2
  go_ret
  exact ⟨congrArg (fun z => Ending.returned (.int .u64 z)) (u64_xor_nat x y hx hy), rfl⟩
set_option maxHeartbeats 400000 in
theorem joined_xor (n : Int) (A B : Option Addr) (l c k d : Nat) (us vs : List Nat) (w : World) (hu : Words w A l us) (hv : Words w B k vs) (h1 : rightB n us = true) (h2 : rightB n vs = true) :
    Calls Try.prog 42 #[.agg #[.int .i64 n, .slice A l c], .agg #[.int .i64 n, .slice B k d], .func (.func 43) #[] #[]] w (RowOut n (List.zipWith (· ^^^ ·) us vs) 0 w) := by
  have hl : l ≤ 8 := rightB_len8 h1 hu.1
  have hkl : k = l := rightB_len h1 h2 hu.1 hv.1
  subst hkl
  have q0 := ((Box.new w 40 #[.int .i64 n, .slice A k c]).alloc (.cells #[.int .i64 n, .slice B k d] 40)).alloc (.cells #[.int .i64 0, .slice none 0 0] 40)
  have q1 := (Box.new (w.alloc (.cells #[.int .i64 n, .slice A k c] 40)) 40 #[.int .i64 n, .slice B k d]).alloc (.cells #[.int .i64 0, .slice none 0 0] 40)
  have q2 := Box.new ((w.alloc (.cells #[.int .i64 n, .slice A k c] 40)).alloc (.cells #[.int .i64 n, .slice B k d] 40)) 40 #[.int .i64 0, .slice none 0 0]
  have hW : Below w.heap.size w (((w.alloc (.cells #[.int .i64 n, .slice A k c] 40)).alloc (.cells #[.int .i64 n, .slice B k d] 40)).alloc (.cells #[.int .i64 0, .slice none 0 0] 40)) := (((Below.refl _ _).alloc (Nat.le_refl _) _).alloc (by simp) _).alloc (by simp; omega) _
  simp only [World.size_alloc] at q1 q2
  have hu1 := hu.below hW
  have hv1 := hv.below hW
  have Q0 := Lib.hid q0
  have Q1 := Lib.hid q1
  have Q2 := Lib.hid q2
  have HW := Lib.hid hW
  have HU := Lib.hid hu1
  have HV := Lib.hid hv1
  have HU0 := Lib.hid hu
  have HV0 := Lib.hid hv
  clear q0 q1 q2 hW hu1 hv1 hu hv
  go_enter Try.func42, Try.ntmps42
  go_wp2_with fail
  refine (right_any n A k c us _ HU.out).mono ?_
  rintro e x1 ⟨rfl, hb⟩
  have Q0 := Lib.hid (Q0.out.keep hb)
  have Q1 := Lib.hid (Q1.out.keep hb)
  have Q2 := Lib.hid (Q2.out.keep hb)
  have HV := Lib.hid (HV.out.below hb)
  have HW := Lib.hid (chain HW.out hb)
  clear HU hb
  obtain ⟨c0, c1, -, -⟩ := Q1.out.two
  go_wp2_with fail
  refine (right_any n B k d vs _ HV.out).mono ?_
  rintro e x2 ⟨rfl, hb⟩
  have Q0 := Lib.hid (Q0.out.keep hb)
  have Q1 := Lib.hid (Q1.out.keep hb)
  have Q2 := Lib.hid (Q2.out.keep hb)
  have HW := Lib.hid (chain HW.out hb)
  clear hb c0 c1 HV
  obtain ⟨r0, r1, r2, r3⟩ := Q2.out.two
  obtain ⟨a0, a1, -, -⟩ := Q0.out.two
  obtain ⟨b0, b1, -, -⟩ := Q1.out.two
  have t : (n != n) = false := by simp
  have hmk := make_any k (by omega) x2
  have HX2 := Lib.hid Q2.out.lt
  have Q3 := Lib.hid (Box.new x2 68 (numsA (List.replicate k 0)))
  have Q0 := Lib.hid (Q0.out.alloc (.cells (numsA (List.replicate k 0)) 68))
  have Q1 := Lib.hid (Q1.out.alloc (.cells (numsA (List.replicate k 0)) 68))
  have Q2 := Lib.hid (Q2.out.alloc (.cells (numsA (List.replicate k 0)) 68))
  have HW := Lib.hid (HW.out.alloc HW.out.size (.cells (numsA (List.replicate k 0)) 68))
  go_wp2
  clear hmk t h1 h2 a0 a1 b0 b1 r0 r1 r2 r3
  go_loopw [31] (fun i wr => ∃ j : Nat, j ≤ k ∧ i = .int .i64 j ∧ Box wr x2.heap.size 68 (numsA (part (· ^^^ ·) us vs j)) ∧ Box wr w.heap.size 40 #[.int .i64 n, .slice A k c] ∧ Box wr (w.heap.size + 1) 40 #[.int .i64 n, .slice B k d] ∧ Box wr (w.heap.size + 1 + 1) 40 #[.int .i64 0, .slice none 0 0] ∧ Below w.heap.size w wr)
    (fun i _ => k - (intOf i).toNat)
  case atStart => exact ⟨0, by omega, rfl, by rw [part_zero, HU0.out.1]; exact Q3.out, Q0.out, Q1.out, Q2.out, HW.out⟩
  case round =>
    obtain ⟨j, hj, rfl, B3, B0, B1, B2, hbel⟩ := hrel
    have R3 := Lib.hid B3
    have R0 := Lib.hid B0
    have R1 := Lib.hid B1
    have R2 := Lib.hid B2
    have HB := Lib.hid hbel
    clear B3 B0 B1 B2 hbel Q0 Q1 Q2 Q3 HW
    obtain ⟨a0, a1, -, -⟩ := R0.out.two
    obtain ⟨b0, b1, -, -⟩ := R1.out.two
    by_cases hlt : j < k
    · obtain ⟨p, o, rfl, lt1, hc1⟩ := HU0.out.2.2 (by omega)
      obtain ⟨p2, o2, rfl, lt2, hc2⟩ := HV0.out.2.2 (by omega)
      have cu := (HB.out.cell (p := ⟨p, o + j, none⟩) lt1).trans (hc1 j hlt)
      have cv := (HB.out.cell (p := ⟨p2, o2 + j, none⟩) lt2).trans (hc2 j hlt)
      have hx := HU0.out.2.1 j
      have hy := HV0.out.2.1 j
      obtain ⟨x, ex⟩ : ∃ x, x = us.getD j 0 := ⟨_, rfl⟩
      obtain ⟨y, ey⟩ : ∃ y, y = vs.getD j 0 := ⟨_, rfl⟩
      rw [← ex] at cu hx
      rw [← ey] at cv hy
      have hxy := Lib.hid (And.intro ex ey)
      clear ex ey
      have cg : wr.cell? ⟨x2.heap.size, j, none⟩ = some (.int .u64 0) := by rw [R3.out.cell j]; exact part_fresh _ us vs j k HU0.out.1 HV0.out.1 hlt
      have fg := R3.out.free j
      clear hc1 hc2
      have hz := HX2.out
      have n1 : ¬ x2.heap.size = w.heap.size := by omega
      have n2 : ¬ x2.heap.size = w.heap.size + 1 := by omega
      have n3 : ¬ x2.heap.size = p := by omega
      have n4 : ¬ x2.heap.size = p2 := by omega
      have n1' : ¬ w.heap.size = x2.heap.size := by omega
      have n2' : ¬ w.heap.size + 1 = x2.heap.size := by omega
      have n3' : ¬ p = x2.heap.size := by omega
      have n4' : ¬ p2 = x2.heap.size := by omega
      have n5' : ¬ w.heap.size + 1 + 1 = x2.heap.size := by omega
      go_wp2
      go_region_held3 (fun w' => w'.cell? ⟨w.heap.size, 1, none⟩ = some (.slice (some ⟨p, o, none⟩) k c) ∧ w'.cell? ⟨w.heap.size + 1, 1, none⟩ = some (.slice (some ⟨p2, o2, none⟩) k d) ∧ w'.cell? ⟨p, o + j, none⟩ = some (.int .u64 x) ∧ w'.cell? ⟨p2, o2 + j, none⟩ = some (.int .u64 y)) (go_keep) (first | (go_at_call 43; refine (xor1_any x y hx hy _).mono ?_; rintro e w' ⟨rfl, rfl⟩))
      have P1 := Lib.hid ((R3.out.put j (.int .u64 ((x ^^^ y : Nat) : Int))).drew)
      have P0 := Lib.hid ((R0.out.far (p := ⟨x2.heap.size, j, none⟩) n1' (.int .u64 ((x ^^^ y : Nat) : Int))).drew)
      have P2 := Lib.hid ((R1.out.far (p := ⟨x2.heap.size, j, none⟩) n2' (.int .u64 ((x ^^^ y : Nat) : Int))).drew)
      have P3 := Lib.hid ((R2.out.far (p := ⟨x2.heap.size, j, none⟩) n5' (.int .u64 ((x ^^^ y : Nat) : Int))).drew)
      have P4 := Lib.hid ((HB.out.setCell (p := ⟨x2.heap.size, j, none⟩) (by simp; omega) (.int .u64 ((x ^^^ y : Nat) : Int))).drew)
      clear cg fg cu cv n1 n2 n3 n4 n1' n2' n3' n4' a0 a1 b0 b1
      generalize (wr.setCell ⟨x2.heap.size, j, none⟩ (.int .u64 ((x ^^^ y : Nat) : Int))).drew = wn at *
      go_wp2
      go_roundw
      case rel => exact ⟨j + 1, by omega, by go_num, by have := P1.out; rw [numsA_set, hxy.out.1, hxy.out.2, part_set _ us vs j k HU0.out.1 HV0.out.1 hlt] at this; exact this, P0.out, P2.out, P3.out, P4.out⟩
      case measure => simp [intOf]; omega
    · obtain ⟨r0, r1, r2, r3⟩ := R2.out.two
      have hz := HX2.out
      have n5' : ¬ w.heap.size + 1 + 1 = x2.heap.size := by omega
      obtain rfl : j = k := by omega
      go_wp2
      refine close_cell Try.results42 rfl rfl rfl R2.out.put2 Try.underlying40 rfl (by kernel_rfl) ?_
      have hp : part (· ^^^ ·) us vs j = List.zipWith (· ^^^ ·) us vs := part_full _ us vs j HU0.out.1 HV0.out.1
      have hw := (((R3.out.far (p := ⟨w.heap.size + 1 + 1, 0, none⟩) (by simp; omega) (.int .i64 n)).far (p := ⟨w.heap.size + 1 + 1, 1, none⟩) (by simp; omega) (.slice (some ⟨x2.heap.size, 0, none⟩) j j))).words (fun i => part_lt us vs j i HU0.out.2.1 HV0.out.2.1)
      rw [part_len _ us vs j j HU0.out.1 HV0.out.1, hp] at hw
      exact ⟨_, _, _, rfl, hw, (HB.out.setCell (p := ⟨w.heap.size + 1 + 1, 0, none⟩) (by simp; omega) _).setCell (p := ⟨w.heap.size + 1 + 1, 1, none⟩) (by simp; omega) _⟩
end
end Go.Proofs.Ytdfmogcgangdnaa
