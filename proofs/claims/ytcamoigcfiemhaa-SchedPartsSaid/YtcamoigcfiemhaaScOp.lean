/- Layer 20: systems, threads, that came in. -/
import Derived.Test.YtcamoigcfiemhaaScFd
import Derived.Deep.SlicePairs
import Derived.Lib.SmallJoins
import Derived.ProofKit
import Derived.OpenShut
namespace Go.Proofs.Ytcamoigcfiemhaa
set_option linter.unusedVariables false
set_option linter.unusedSimpArgs false
open Go.RowKit Go.Shelf Go.Joins Go.ChangeShapes Go.WideShapes
set_option maxRecDepth 100000
theorem cellsInO : Try.prog.cellsOf 57 = 3 := by kernel_rfl
theorem cellsSlI : Try.prog.cellsOf 55 = 1 := by kernel_rfl
theorem cellsSlN : Try.prog.cellsOf 23 = 1 := by kernel_rfl
theorem cellsSysO : Try.prog.cellsOf 26 = 6 := by kernel_rfl
section
variable {H : Type} {enc : TypeId × Value → H} {W : World} {fuel : Nat} {cs : List Value} {x : DataW H × List MemPlace}
theorem open_inL (hl : cs.length = 3) (h : DataW.trod enc Try.prog W 0 (fun _ => true) true fuel 57 cs = some x) : ∃ c : InR, cs = encIn c := by
  match cs, hl with
  | [v0, v1, v2], _ =>
  obtain ⟨xs, n, -, -, -, hxl, hf⟩ := DataW.trod_struct Try.underlying57 h
  match xs, hxl with
  | [y0, y1, y2], _ =>
  have g0 := hf 0 _ rfl
  have g1 := hf 1 _ rfl
  have g2 := hf 2 _ rfl
  have ei : Try.prog.cellsOf 3 = 1 := by kernel_rfl
  simp [ei] at g0 g1 g2
  obtain ⟨a0, e0, -, w0⟩ := DataW.trod_int Try.underlying3 g0
  obtain ⟨a1, e1, -, w1⟩ := DataW.trod_int Try.underlying3 g1
  obtain ⟨a2, e2, -, w2⟩ := DataW.trod_int Try.underlying3 g2
  simp at e0 e1 e2
  subst e0 e1 e2
  exact ⟨(a0, a1, a2), rfl⟩
/-- A slice of instructions that came in. -/
theorem open_ins (h : DataW.trod enc Try.prog W 0 (fun _ => true) true fuel 55 cs = some x) : ∃ A l c xs, cs = [.slice A l c] ∧ SliceOk A l c ∧ Inss W A l xs := by
  rcases Go.Deep.open_slice Try.underlying55 h with ⟨hcs, _⟩ | ⟨a, len, cap, m, n, D, Pl, hcs, _, hl, hm, hmm, _, hx⟩
  · exact ⟨none, 0, 0, [], hcs, ⟨Nat.le_refl _, Nat.zero_le _, fun _ => ⟨rfl, rfl⟩⟩, Recs.nil _ _⟩
  · have hmm' : m = cap := by simpa using hmm
    have each : ∀ i, i < len → ∃ e : InR, ∀ k v, (encIn e)[k]? = some v → W.cell? ((a.add (i * 3)).add k) = some v := fun i hi => by
      obtain ⟨cs', h1, h2⟩ := hx i (by omega)
      rw [cellsInO] at h1
      obtain ⟨-, hlen, hcell⟩ := World.cells?_some h1
      obtain ⟨e, rfl⟩ := open_inL hlen h2
      refine ⟨e, fun k v hv => ?_⟩
      have hk : k < 3 := by have := (List.getElem?_eq_some_iff.1 hv).1; rwa [encIn_len] at this
      rw [hcell k hk, hv]
    obtain ⟨q, hq⟩ := Go.Deep.choose_lt each
    have hg : ∀ j, j < len → ((List.range len).map q).getD j default = q j := fun j hj => by simp [List.getD, hj]
    refine ⟨some a, len, cap, (List.range len).map q, hcs, ⟨hl, hm, fun h => by cases h⟩, ⟨by simp, fun hp => ?_⟩⟩
    have h00 := hq 0 hp 0 _ rfl
    have haa : ∀ i k, (a.add i).add k = a.add (i + k) := fun i k => Go.Deep.add_add a i k
    rw [haa] at h00
    obtain ⟨b, o, ha⟩ : ∃ b o, a = ⟨b, o, none⟩ := addr_at (by simpa using h00)
    subst ha
    refine ⟨b, o, rfl, ?_, fun j hj k v hv => ?_⟩
    · have := block_lt_of_cell h00
      rw [addP] at this
      exact this
    · rw [hg j hj] at hv
      have := hq j hj k v hv
      rw [haa, addP] at this
      rwa [Nat.add_assoc]
/-- Rows of rows that came in. -/
theorem open_rr {α : Type} {P : World → Option Addr → Nat → List α → Prop} {T E : TypeId} (hT : Try.prog.underlying T = some (.slice E)) (hE : Try.prog.cellsOf E = 1) (hn : ∀ A, P W A 0 [])
    (ho : ∀ {n : Nat} {cs : List Value} {y : DataW H × List MemPlace}, DataW.trod enc Try.prog W 0 (fun _ => true) true n E cs = some y → ∃ A l c xs, cs = [.slice A l c] ∧ SliceOk A l c ∧ P W A l xs)
    (h : DataW.trod enc Try.prog W 0 (fun _ => true) true fuel T cs = some x) : ∃ A l c xss, cs = [.slice A l c] ∧ SliceOk A l c ∧ RRow P W A l xss := by
  rcases Go.Deep.open_slice hT h with ⟨hcs, _⟩ | ⟨a, len, cap, m, n, D, Pl, hcs, _, hl, hm, hmm, _, hx⟩
  · exact ⟨none, 0, 0, [], hcs, ⟨Nat.le_refl _, Nat.zero_le _, fun _ => ⟨rfl, rfl⟩⟩, RRow.nil _ _⟩
  · have hmm' : m = cap := by simpa using hmm
    have each : ∀ i, i < len → ∃ e : (Option Addr × Nat × Nat) × List α, W.cell? (a.add i) = some (.slice e.1.1 e.1.2.1 e.1.2.2) ∧ SliceOk e.1.1 e.1.2.1 e.1.2.2 ∧ P W e.1.1 e.1.2.1 e.2 := fun i hi => by
      obtain ⟨cs', h1, h2⟩ := hx i (by omega)
      rw [hE, Nat.mul_one] at h1
      obtain ⟨-, hlen, hcell⟩ := World.cells?_some h1
      obtain ⟨A, l, c, xs, rfl, hs, hp⟩ := ho h2
      refine ⟨((A, l, c), xs), ?_, hs, hp⟩
      have := hcell 0 (by decide)
      rw [Go.Deep.add_add, Nat.add_zero] at this
      simpa using this
    obtain ⟨q, hq⟩ := Go.Deep.choose_lt each
    have hg : ∀ j, j < len → ((List.range len).map fun j => (q j).2).getD j [] = (q j).2 := fun j hj => by simp [List.getD, hj]
    refine ⟨some a, len, cap, (List.range len).map fun j => (q j).2, hcs, ⟨hl, hm, fun h => by cases h⟩, ⟨by simp, fun hp => ?_⟩⟩
    have h00 := (hq 0 hp).1
    obtain ⟨b, o, ha⟩ : ∃ b o, a = ⟨b, o, none⟩ := addr_at (by simpa using h00)
    subst ha
    refine ⟨b, o, rfl, ?_, fun j hj => ?_⟩
    · have := block_lt_of_cell h00
      rw [addP] at this
      exact this
    · obtain ⟨h1, h2, h3⟩ := hq j hj
      rw [addP] at h1
      exact ⟨_, _, _, h1, h2, by rw [hg j hj]; exact h3⟩
theorem open_thr (h : DataW.trod enc Try.prog W 0 (fun _ => true) true fuel 22 cs = some x) : ∃ A l c xss, cs = [.slice A l c] ∧ SliceOk A l c ∧ Thr W A l xss :=
  open_rr (P := Inss) Try.underlying22 cellsSlI (fun A => Recs.nil _ _) (fun h => open_ins h) h
theorem open_chs (h : DataW.trod enc Try.prog W 0 (fun _ => true) true fuel 24 cs = some x) : ∃ A l c xss, cs = [.slice A l c] ∧ SliceOk A l c ∧ Chs W A l xss :=
  open_rr (P := Ints) Try.underlying24 cellsSlN (fun A => Ints.nil _ _) (fun h => open_nums h) h
end
/-- A system that came in. -/
theorem open_sys {H : Type} {enc : TypeId × Value → H} {W : World} {r : Reach} {b0 : Nat} {v : Value} {d : DataW H} {p : List MemPlace}
    (hv : Value.okWide Try.prog W r b0 26 v) (h : DataW.Trod enc Try.prog W 0 (fun _ => true) true 26 v d p) : ∃ s : Sys, SysAt W v s := by
  obtain ⟨cs, rfl, hsz⟩ := okWide_struct Try.underlying26 hv
  obtain ⟨L, rfl, hL⟩ : ∃ L : List Value, cs = L.toArray ∧ L.length = 6 := ⟨cs.toList, by simp, by have := hsz.trans cellsSysO; simpa using this⟩
  match L, hL with
  | [v0, v1, v2, v3, v4, v5], _ =>
  obtain ⟨fuel, hf⟩ := h
  obtain ⟨xs, n, -, -, -, hxl, hf⟩ := DataW.trod_struct Try.underlying26 hf
  match xs, hxl with
  | [y0, y1, y2, y3, y4, y5], _ =>
  have g0 := hf 0 _ rfl
  have g1 := hf 1 _ rfl
  have g2 := hf 2 _ rfl
  have g3 := hf 3 _ rfl
  have g4 := hf 4 _ rfl
  have g5 := hf 5 _ rfl
  have et : Try.prog.cellsOf 22 = 1 := by kernel_rfl
  have ec : Try.prog.cellsOf 24 = 1 := by kernel_rfl
  simp [Value.cells, cellsSlN, et, ec] at g0 g1 g2 g3 g4 g5
  obtain ⟨A0, l0, c0, x0, e0, s0, h0⟩ := open_thr g0
  obtain ⟨A1, l1, c1, x1, e1, s1, h1⟩ := open_nums g1
  obtain ⟨A2, l2, c2, x2, e2, s2, h2⟩ := open_nums g2
  obtain ⟨A3, l3, c3, x3, e3, s3, h3⟩ := open_nums g3
  obtain ⟨A4, l4, c4, x4, e4, s4, h4⟩ := open_nums g4
  obtain ⟨A5, l5, c5, x5, e5, s5, h5⟩ := open_chs g5
  simp at e0 e1 e2 e3 e4 e5
  subst e0 e1 e2 e3 e4 e5
  exact ⟨⟨x0, x1, x2, x3, x4, x5⟩, A0, l0, c0, A1, l1, c1, A2, l2, c2, A3, l3, c3, A4, l4, c4, A5, l5, c5, rfl, s0, s1, s2, s3, s4, s5, h0, h1, h2, h3, h4, h5⟩
end Go.Proofs.Ytcamoigcfiemhaa
