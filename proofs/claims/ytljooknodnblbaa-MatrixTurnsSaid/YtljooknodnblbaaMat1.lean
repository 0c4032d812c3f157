/- Matrices in memory: a slice of rows, and what it reads. -/
import Derived.Test.YtljooknodnblbaaBitrow1
import Derived.Test.YtljooknodnblbaaFew
import Derived.Test.YtljooknodnblbaaOpenV
import Derived.Deep.SlicePairs
namespace Go.Proofs.Ytljooknodnblbaa
set_option linter.unusedVariables false
set_option linter.unusedSimpArgs false
open Go.RowKit Go.Joins Go.ChangeShapes Go.WideShapes
/-- The row at a place reads so many bits, and these words. -/
def RowAt (w : World) (b off : Nat) (r : Int × List Nat) : Prop :=
  ∃ B l c, w.cell? ⟨b, off, none⟩ = some (.int .i64 r.1) ∧ w.cell? ⟨b, off + 1, none⟩ = some (.slice B l c) ∧ SliceOk B l c ∧ Words w B l r.2
/-- The slice at A of len rows reads ms; it lies in no block below lo. -/
def MatAt (w : World) (lo : Nat) (A : Option Addr) (len : Nat) (ms : List (Int × List Nat)) : Prop :=
  ms.length = len ∧ (0 < len → ∃ b off, A = some ⟨b, off, none⟩ ∧ lo ≤ b ∧ b < w.heap.size ∧ ∀ j, j < len → RowAt w b (off + j * 2) (ms.getD j (0, [])))
section
variable {w w' : World} {lo : Nat} {A : Option Addr} {len : Nat} {ms : List (Int × List Nat)}
theorem RowAt.below {b off : Nat} {r : Int × List Nat} (h : RowAt w b off r) (hl : b < w.heap.size) (hb : Below w.heap.size w w') : RowAt w' b off r := by
  obtain ⟨B, l, c, h0, h1, h2, h3⟩ := h
  exact ⟨B, l, c, (hb.cell (p := ⟨b, off, none⟩) hl).trans h0, (hb.cell (p := ⟨b, off + 1, none⟩) hl).trans h1, h2, h3.below hb⟩
theorem MatAt.below (h : MatAt w lo A len ms) (hb : Below w.heap.size w w') : MatAt w' lo A len ms := by
  refine ⟨h.1, fun hp => ?_⟩
  obtain ⟨b, off, rfl, h1, h2, h3⟩ := h.2 hp
  exact ⟨b, off, rfl, h1, Nat.lt_of_lt_of_le h2 hb.size, fun j hj => (h3 j hj).below h2 hb⟩
theorem MatAt.mono (h : MatAt w lo A len ms) {B : Nat} (hB : w.heap.size ≤ B) (hb : Below B w w') : MatAt w' lo A len ms := h.below (hb.mono hB)
theorem MatAt.alloc (h : MatAt w lo A len ms) (o : Obj) : MatAt (w.alloc o) lo A len ms := h.below ((Below.refl _ _).alloc (Nat.le_refl _) o)
theorem MatAt.drew (h : MatAt w lo A len ms) : MatAt w.drew lo A len ms := h
theorem MatAt.drewN (h : MatAt w lo A len ms) (n : Nat) : MatAt (w.drewN n) lo A len ms := h
theorem MatAt.low (h : MatAt w lo A len ms) {l2 : Nat} (hl : l2 ≤ lo) : MatAt w l2 A len ms := by
  refine ⟨h.1, fun hp => ?_⟩
  obtain ⟨b, off, rfl, h1, h2, h3⟩ := h.2 hp
  exact ⟨b, off, rfl, by omega, h2, h3⟩
theorem MatAt.nil (w : World) (lo : Nat) (A : Option Addr) : MatAt w lo A 0 [] := ⟨rfl, fun h => by omega⟩
theorem MatAt.at (h : MatAt w lo A len ms) (j : Nat) (hj : j < len) : ∃ b off B l c, A = some ⟨b, off, none⟩ ∧ b < w.heap.size ∧ w.cell? ⟨b, off + j * 2, none⟩ = some (.int .i64 (ms.getD j (0, [])).1) ∧ w.cell? ⟨b, off + j * 2 + 1, none⟩ = some (.slice B l c) ∧ SliceOk B l c ∧ Words w B l (ms.getD j (0, [])).2 := by
  obtain ⟨b, off, rfl, h1, h2, h3⟩ := h.2 (by omega)
  obtain ⟨B, l, c, r0, r1, r2, r3⟩ := h3 j hj
  exact ⟨b, off, B, l, c, rfl, h2, r0, r1, r2, r3⟩
/-- A store into a box of a row or a matrix below. -/
theorem MatAt.far (h : MatAt w lo A len ms) {g : Nat} {t : TypeId} {x : Int} {S : Option Addr} {p q : Nat} (hb : Box w g t #[.int .i64 x, .slice S p q]) (hg : g < lo) (i : Nat) (u : Value) : MatAt (w.setCell ⟨g, i, none⟩ u) lo A len ms := by
  refine ⟨h.1, fun hp => ?_⟩
  obtain ⟨b, off, rfl, h1, h2, h3⟩ := h.2 hp
  refine ⟨b, off, rfl, h1, by simpa [World.setCell] using h2, fun j hj => ?_⟩
  obtain ⟨B, l, c, r0, r1, r2, r3⟩ := h3 j hj
  refine ⟨B, l, c, ?_, ?_, r2, ?_⟩
  · rw [World.cell?_setCell_other _ _ _ _ (by intro e; injection e; omega)]; exact r0
  · rw [World.cell?_setCell_other _ _ _ _ (by intro e; injection e; omega)]; exact r1
  · refine ⟨r3.1, r3.2.1, fun hp => ?_⟩
    obtain ⟨b', off', rfl, hlt, hc⟩ := r3.2.2 hp
    have hne := r3.off hb b' off' rfl hp
    refine ⟨b', off', rfl, by simpa [World.setCell] using hlt, fun j hj => ?_⟩
    rw [World.cell?_setCell_other _ _ _ _ (by intro e; injection e; omega)]
    exact hc j hj
theorem MatAt.put2 (h : MatAt w lo A len ms) {g : Nat} {t : TypeId} {x y : Int} {S : Option Addr} {p q : Nat} (hb : Box w g t #[.int .i64 x, .slice S p q]) (hg : g < lo) (v : Value) : MatAt ((w.setCell ⟨g, 0, none⟩ (.int .i64 y)).setCell ⟨g, 1, none⟩ v) lo A len ms :=
  (h.far hb hg 0 _).far (hb.put 0 (.int .i64 y)) hg 1 v
theorem MatAt.take (h : MatAt w lo A len ms) (k : Nat) (hk : k ≤ len) : MatAt w lo A k (ms.take k) := by
  refine ⟨by simp [h.1]; omega, fun hp => ?_⟩
  obtain ⟨b, off, rfl, h1, h2, h3⟩ := h.2 (by omega)
  refine ⟨b, off, rfl, h1, h2, fun j hj => ?_⟩
  have := h3 j (by omega)
  simpa [List.getD, List.getElem?_take, hj] using this
theorem MatAt.lt (h : MatAt w lo A len ms) (j i : Nat) : (ms.getD j (0, [])).2.getD i 0 < 18446744073709551616 := by
  by_cases hj : j < len
  · obtain ⟨b, off, rfl, h1, h2, h3⟩ := h.2 (by omega)
    obtain ⟨B, l, c, r0, r1, r2, r3⟩ := h3 j hj
    exact r3.2.1 i
  · have : ms[j]? = none := List.getElem?_eq_none (by rw [h.1]; omega)
    simp [List.getD, this]
end
theorem cellsRowM : Try.prog.cellsOf 37 = 2 := by kernel_rfl
theorem cellsIntM : Try.prog.cellsOf 3 = 1 := by kernel_rfl
theorem cellsWsM : Try.prog.cellsOf 35 = 1 := by kernel_rfl
theorem cellsRowsM : Try.prog.cellsOf 22 = 1 := by kernel_rfl
theorem cellsMatM : Try.prog.cellsOf 24 = 2 := by kernel_rfl
/-- A slice of rows that came in. -/
theorem open_rows {H : Type} {enc : TypeId × Value → H} {W : World} {fuel : Nat} {cs : List Value} {x : DataW H × List MemPlace}
    (h : DataW.trod enc Try.prog W 0 (fun _ => true) true fuel 22 cs = some x) : ∃ A l c ms, cs = [.slice A l c] ∧ SliceOk A l c ∧ MatAt W 0 A l ms := by
  rcases Go.Deep.open_slice_pairs Try.underlying22 Try.underlying37 cellsRowM rfl rfl cellsIntM cellsWsM h with ⟨hcs, _⟩ | ⟨a, len, cap, m, n, V0, V1, D0, D1, P0, P1, hcs, _, hl, hm, hmm, _, hx⟩
  · exact ⟨none, 0, 0, [], hcs, ⟨Nat.le_refl _, Nat.zero_le _, fun _ => ⟨rfl, rfl⟩⟩, MatAt.nil _ _ _⟩
  · have hmm' : m = cap := by simpa using hmm
    have each : ∀ i, i < len → ∃ r : Int × List Nat, ∃ B l c, V0 i = .int .i64 r.1 ∧ V1 i = .slice B l c ∧ SliceOk B l c ∧ Words W B l r.2 := fun i hi => by
      obtain ⟨h0, h1, h2, h3⟩ := hx i (by omega)
      obtain ⟨z, e0, -, wz⟩ := DataW.trod_int Try.underlying3 h2
      obtain ⟨B, l, c, us, e1, s1, ws⟩ := open_words h3
      simp at e0 e1
      exact ⟨(z, us), B, l, c, e0, e1, s1, ws⟩
    obtain ⟨q, hq⟩ := Go.Deep.choose_lt each
    refine ⟨some a, len, cap, (List.range len).map q, hcs, ⟨hl, hm, fun h => by cases h⟩, by simp, fun hp => ?_⟩
    obtain ⟨b, o, ha⟩ : ∃ b o, a = ⟨b, o, none⟩ := by
      have := (hx 0 (by omega)).1
      exact addr_at (by simpa using this)
    subst ha
    have hadd : ∀ j, Addr.add { block := b, off := o } j = ⟨b, o + j, none⟩ := fun j => by
      by_cases h : j = 0 <;> simp [Addr.add, h]
    refine ⟨b, o, rfl, Nat.zero_le _, ?_, fun j hj => ?_⟩
    · have := block_lt_of_cell (hx 0 (by omega)).1
      rw [hadd] at this
      exact this
    · obtain ⟨h0, h1, -, -⟩ := hx j (by omega)
      rw [hadd] at h0 h1
      obtain ⟨B, l, c, e0, e1, s1, ws⟩ := hq j hj
      have hg : ((List.range len).map q).getD j (0, []) = q j := by simp [List.getD, hj]
      rw [hg]
      rw [e0] at h0
      rw [e1] at h1
      exact ⟨B, l, c, h0, h1, s1, ws⟩
/-- A matrix that came in. -/
theorem open_mat {H : Type} {enc : TypeId × Value → H} {W : World} {r : Reach} {b0 : Nat} {v : Value} {d : DataW H} {p : List MemPlace}
    (hv : Value.okWide Try.prog W r b0 24 v) (h : DataW.Trod enc Try.prog W 0 (fun _ => true) true 24 v d p) :
    ∃ n A l c ms, v = .agg #[.int .i64 n, .slice A l c] ∧ (Lit.int .i64 n).wf = true ∧ SliceOk A l c ∧ MatAt W 0 A l ms := by
  obtain ⟨c0, c1, y0, y1, m, rfl, rfl, rfl, hy0, hy1⟩ := open_agg2 Try.underlying24 (by kernel_rfl) cellsMatM hv h
  obtain ⟨a, e0, -, wa⟩ := DataW.trod_int Try.underlying3 hy0
  obtain ⟨A, l, c, ms, e1, hs, hw⟩ := open_rows hy1
  simp at e0 e1
  subst e0 e1
  exact ⟨a, A, l, c, ms, rfl, wa, hs, hw⟩
end Go.Proofs.Ytljooknodnblbaa
