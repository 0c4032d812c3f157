/- How stripes and a symbol that came in are opened. -/
import Derived.Test.YtehlebeeoeghmaaShM
import Derived.Test.YtehlebeeoeghmaaOpenV
import Derived.ShutString
import Derived.Deep.SlicePairs
import Derived.Lib.SmallJoins
import Derived.ProofKit
import Derived.OpenShut
namespace Go.Proofs.Ytehlebeeoeghmaa
set_option linter.unusedVariables false
set_option linter.unusedSimpArgs false
open Go.RowKit Go.Joins Go.ChangeShapes Go.WideShapes
set_option maxRecDepth 100000
theorem cellsSymO : Try.prog.cellsOf 27 = 2 := by kernel_rfl
theorem cellsStrO : Try.prog.cellsOf 9 = 1 := by kernel_rfl
theorem cellsU64S : Try.prog.cellsOf 25 = 1 := by kernel_rfl
theorem cellsShO : Try.prog.cellsOf 24 = 3 := by kernel_rfl
theorem cellsSlSO : Try.prog.cellsOf 43 = 1 := by kernel_rfl
theorem RRow.mono {α : Type} {P Q : World → Option Addr → Nat → List α → Prop} {w : World} {A : Option Addr} {len : Nat} {xss : List (List α)} (h : RRow P w A len xss) (hPQ : ∀ j, j < len → ∀ A l, P w A l (xss.getD j []) → Q w A l (xss.getD j [])) : RRow Q w A len xss := by
  refine ⟨h.1, fun hp => ?_⟩
  obtain ⟨b, off, e, hlt, hc⟩ := h.2 hp
  refine ⟨b, off, e, hlt, fun j hj => ?_⟩
  obtain ⟨B, l, c, h1, h2, h3⟩ := hc j hj
  exact ⟨B, l, c, h1, h2, hPQ j hj _ _ h3⟩
theorem array2O {α : Type} {cs : Array α} (h : cs.size = 2) : ∃ c0 c1, cs = #[c0, c1] := by
  obtain ⟨l⟩ := cs
  match l, h with
  | [c0, c1], _ => exact ⟨c0, c1, rfl⟩
theorem u64_nat {a : Int} (h : (Lit.int .u64 a).wf = true) : ∃ n : Nat, a = (n : Int) ∧ n < 18446744073709551616 := by
  have := bounds_u64 h
  exact ⟨a.toNat, by omega, by omega⟩
/-- A slice of symbols that came in. -/
theorem open_syms {H : Type} {enc : TypeId × Value → H} {W : World} {fuel : Nat} {cs : List Value} {x : DataW H × List MemPlace}
    (h : DataW.trod enc Try.prog W 0 (fun _ => true) true fuel 43 cs = some x) : ∃ A l c xs, cs = [.slice A l c] ∧ SliceOk A l c ∧ Syms W A l xs ∧ ∀ j, (xs.getD j default).1 < 18446744073709551616 := by
  rcases Go.Deep.open_slice_pairs Try.underlying43 Try.underlying27 cellsSymO rfl rfl cellsU64S cellsStrO h with ⟨hcs, _⟩ | ⟨a, len, cap, m, n, V0, V1, D0, D1, P0, P1, hcs, _, hl, hm, hmm, _, hx⟩
  · exact ⟨none, 0, 0, [], hcs, ⟨Nat.le_refl _, Nat.zero_le _, fun _ => ⟨rfl, rfl⟩⟩, Recs.nil _ _, fun j => by simp [default]⟩
  · have hmm' : m = cap := by simpa using hmm
    have each : ∀ i, i < len → ∃ r : SymR, V0 i = .int .u64 (r.1 : Nat) ∧ V1 i = .string r.2 ∧ r.1 < 18446744073709551616 := fun i hi => by
      obtain ⟨h0, h1, h2, h3⟩ := hx i (by omega)
      obtain ⟨z, e0, -, wz⟩ := DataW.trod_int Try.underlying25 h2
      obtain ⟨s, e1, -, ws⟩ := DataW.trod_string Try.underlying9 h3
      obtain ⟨k, rfl, hk⟩ := u64_nat wz
      simp at e0 e1
      exact ⟨(k, s), e0, e1, hk⟩
    obtain ⟨q, hq⟩ := Go.Deep.choose_lt each
    have hg : ∀ j, j < len → ((List.range len).map q).getD j default = q j := fun j hj => by simp [List.getD, hj]
    refine ⟨some a, len, cap, (List.range len).map q, hcs, ⟨hl, hm, fun h => by cases h⟩, ⟨by simp, fun hp => ?_⟩, fun j => ?_⟩
    · obtain ⟨b, o, ha⟩ : ∃ b o, a = ⟨b, o, none⟩ := by
        have := (hx 0 (by omega)).1
        exact addr_at (by simpa using this)
      subst ha
      have hadd : ∀ j, Addr.add { block := b, off := o } j = ⟨b, o + j, none⟩ := fun j => by
        by_cases h : j = 0 <;> simp [Addr.add, h]
      refine ⟨b, o, rfl, ?_, fun j hj k v hv => ?_⟩
      · have := block_lt_of_cell (hx 0 (by omega)).1
        rw [hadd] at this
        exact this
      · obtain ⟨h0, h1, -, -⟩ := hx j (by omega)
        rw [hadd] at h0 h1
        obtain ⟨e0, e1, -⟩ := hq j hj
        rw [hg j hj] at hv
        match k, hv with
        | 0, hv =>
          simp [encS] at hv
          rw [Nat.add_zero, h0, e0, hv]
        | 1, hv =>
          simp [encS] at hv
          rw [Nat.add_assoc, h1, e1, hv]
    · by_cases hj : j < len
      · rw [hg j hj]; exact (hq j hj).2.2
      · have e : ((List.range len).map q).getD j default = default := by
          simp only [List.getD]
          rw [List.getElem?_eq_none (by simp; omega)]; rfl
        rw [e]; decide
theorem open_sym {H : Type} {enc : TypeId × Value → H} {W : World} {r : Reach} {b0 : Nat} {v : Value} {d : DataW H} {p : List MemPlace}
    (hv : Value.okWide Try.prog W r b0 27 v) (h : DataW.Trod enc Try.prog W 0 (fun _ => true) true 27 v d p) :
    ∃ (i : Nat) (t : ByteArray), v = .agg #[.int .u64 (i : Int), .string t] ∧ i < 18446744073709551616 ∧ t.size ≤ maxLen := by
  obtain ⟨cs, rfl, hsz⟩ := okWide_struct Try.underlying27 hv
  obtain ⟨c0, c1, rfl⟩ := array2O (hsz.trans cellsSymO)
  obtain ⟨fuel, hf⟩ := h
  obtain ⟨z0, z1, n', hx', _, g0, g1⟩ := trod_struct2 Try.underlying27 hf
  simp [Value.cells, cellsU64S, cellsStrO] at g0 g1
  obtain ⟨a3, e3, -, w3⟩ := DataW.trod_int Try.underlying25 g0
  obtain ⟨a4, e4, -, w4⟩ := DataW.trod_string Try.underlying9 g1
  obtain ⟨k, rfl, hk⟩ := u64_nat w3
  simp at e3 e4
  subst e3 e4
  exact ⟨k, a4, rfl, hk, w4⟩
section
variable {H : Type} {enc : TypeId × Value → H} {W : World} {fuel : Nat} {cs : List Value} {x : DataW H × List MemPlace}
/-- Rows of rows that came in. -/
theorem open_rr {α : Type} {P : World → Option Addr → Nat → List α → Prop} {T E : TypeId} (hT : Try.prog.underlying T = some (.slice E)) (hE : Try.prog.cellsOf E = 1) (hn : ∀ A, P W A 0 [])
    (ho : ∀ {n : Nat} {cs : List Value} {y : DataW H × List MemPlace}, DataW.trod enc Try.prog W 0 (fun _ => true) true n E cs = some y → ∃ A l c xs, cs = [.slice A l c] ∧ SliceOk A l c ∧ P W A l xs)
    (h : DataW.trod enc Try.prog W 0 (fun _ => true) true fuel T cs = some x) : ∃ A l c xss, cs = [.slice A l c] ∧ SliceOk A l c ∧ RRow P W A l xss := by
  rcases Go.Deep.open_slice hT h with ⟨hcs, _⟩ | ⟨a, len, cap, m, n, D, Pl, hcs, _, hl, hm, hmm, _, hx⟩
  · exact ⟨none, 0, 0, [], hcs, ⟨Nat.le_refl _, Nat.zero_le _, fun _ => ⟨rfl, rfl⟩⟩, RRow.nil _ _⟩
  · have hmm' : m = cap := by simpa using hmm
    have each : ∀ i, i < len → ∃ e : (Option Addr × Nat × Nat) × List α, W.cell? (a.add i) = some (.slice e.1.1 e.1.2.1 e.1.2.2) ∧ SliceOk e.1.1 e.1.2.1 e.1.2.2 ∧ P W e.1.1 e.1.2.1 e.2 := fun i hi => by
      obtain ⟨cs', h1, h2⟩ := hx i (by omega)
      rw [hE, Nat.mul_one] at h1
      obtain ⟨-, hlen, hcell⟩ := World.cells?_some h1
      obtain ⟨A, l, c, xs, rfl, hs, hp⟩ := ho h2
      refine ⟨((A, l, c), xs), ?_, hs, hp⟩
      have := hcell 0 (by decide)
      rw [Go.Deep.add_add, Nat.add_zero] at this
      simpa using this
    obtain ⟨q, hq⟩ := Go.Deep.choose_lt each
    have hg : ∀ j, j < len → ((List.range len).map fun j => (q j).2).getD j [] = (q j).2 := fun j hj => by simp [List.getD, hj]
    refine ⟨some a, len, cap, (List.range len).map fun j => (q j).2, hcs, ⟨hl, hm, fun h => by cases h⟩, ⟨by simp, fun hp => ?_⟩⟩
    have h00 := (hq 0 hp).1
    obtain ⟨b, o, ha⟩ : ∃ b o, a = ⟨b, o, none⟩ := addr_at (by simpa using h00)
    subst ha
    refine ⟨b, o, rfl, ?_, fun j hj => ?_⟩
    · have := block_lt_of_cell h00
      rw [addP] at this
      exact this
    · obtain ⟨h1, h2, h3⟩ := hq j hj
      rw [addP] at h1
      exact ⟨_, _, _, h1, h2, by rw [hg j hj]; exact h3⟩
theorem open_lsts (h : DataW.trod enc Try.prog W 0 (fun _ => true) true fuel 22 cs = some x) : ∃ A l c xss, cs = [.slice A l c] ∧ SliceOk A l c ∧ Lsts W A l xss ∧ IdsOk xss := by
  obtain ⟨A, l, c, xss, e, hs, hr⟩ := open_rr (P := fun w A l xs => Syms w A l xs ∧ ∀ j : Nat, (xs.getD j (default : SymR)).1 < 18446744073709551616) Try.underlying22 cellsSlSO (fun A => ⟨Recs.nil _ _, fun j => by simp [default]⟩) (fun h => open_syms h) h
  refine ⟨A, l, c, xss, e, hs, hr.mono fun j _ A l h => h.1, fun j i => ?_⟩
  by_cases hj : j < xss.length
  · have hl : l = xss.length := hr.1.symm
    obtain ⟨b, off, -, -, hc⟩ := hr.2 (by omega)
    obtain ⟨B, l', c', -, -, hp⟩ := hc j (by omega)
    exact hp.2 i
  · have e : xss.getD j [] = [] := by
      simp only [List.getD]
      rw [List.getElem?_eq_none (by omega)]; rfl
    rw [e]
    show (default : SymR).1 < _
    decide
end
theorem array3O {α : Type} {cs : Array α} (h : cs.size = 3) : ∃ c0 c1 c2, cs = #[c0, c1, c2] := by
  obtain ⟨l⟩ := cs
  match l, h with
  | [c0, c1, c2], _ => exact ⟨c0, c1, c2, rfl⟩
theorem open_shards {H : Type} {enc : TypeId × Value → H} {W : World} {r : Reach} {b0 : Nat} {v : Value} {d : DataW H} {p : List MemPlace}
    (hv : Value.okWide Try.prog W r b0 24 v) (h : DataW.Trod enc Try.prog W 0 (fun _ => true) true 24 v d p) :
    ∃ (q z : Int) (A : Option Addr) (c : Nat) (ls : List (List SymR)), v = .agg #[.int .i64 q, .int .i64 z, .slice A ls.length c] ∧ SliceOk A ls.length c ∧ Lsts W A ls.length ls ∧ IdsOk ls := by
  obtain ⟨cs, rfl, hsz⟩ := okWide_struct Try.underlying24 hv
  obtain ⟨c0, c1, c2, rfl⟩ := array3O (hsz.trans cellsShO)
  obtain ⟨fuel, hf⟩ := h
  obtain ⟨xs, n, -, -, -, hxl, hf⟩ := DataW.trod_struct Try.underlying24 hf
  match xs, hxl with
  | [y0, y1, y2], _ =>
  have h0 := hf 0 _ rfl
  have h1 := hf 1 _ rfl
  have h2 := hf 2 _ rfl
  have eint : Try.prog.cellsOf 3 = 1 := by kernel_rfl
  have esl : Try.prog.cellsOf 22 = 1 := by kernel_rfl
  simp [Value.cells, eint, esl] at h0 h1 h2
  obtain ⟨a0, e0, -, w0⟩ := DataW.trod_int Try.underlying3 h0
  obtain ⟨a1, e1, -, w1⟩ := DataW.trod_int Try.underlying3 h1
  obtain ⟨A, l, c, xss, e2, hs, hw, hb⟩ := open_lsts h2
  simp at e0 e1 e2
  subst e0 e1 e2
  obtain rfl : xss.length = l := hw.1
  exact ⟨a0, a1, A, c, xss, rfl, hs, hw, hb⟩
end Go.Proofs.Ytehlebeeoeghmaa
