/- How a store and a symbol that came in are opened. -/
import Derived.Test.YtcikoaeiopbbbaaEq1
import Derived.Test.YtcikoaeiopbbbaaOpenV
import Derived.ShutString
import Derived.Deep.SlicePairs
namespace Go.Proofs.Ytcikoaeiopbbbaa
set_option linter.unusedVariables false
set_option linter.unusedSimpArgs false
open Go.RowKit Go.Joins Go.ChangeShapes Go.WideShapes
set_option maxRecDepth 100000
theorem cellsSymO : Try.prog.cellsOf 29 = 2 := by kernel_rfl
theorem cellsStrO : Try.prog.cellsOf 9 = 1 := by kernel_rfl
theorem cellsStoreO : Try.prog.cellsOf 25 = 4 := by kernel_rfl
theorem array4O {α : Type} {cs : Array α} (h : cs.size = 4) : ∃ c0 c1 c2 c3, cs = #[c0, c1, c2, c3] := by
  obtain ⟨l⟩ := cs
  match l, h with
  | [c0, c1, c2, c3], _ => exact ⟨c0, c1, c2, c3, rfl⟩
theorem array2O {α : Type} {cs : Array α} (h : cs.size = 2) : ∃ c0 c1, cs = #[c0, c1] := by
  obtain ⟨l⟩ := cs
  match l, h with
  | [c0, c1], _ => exact ⟨c0, c1, rfl⟩
theorem u64_nat {a : Int} (h : (Lit.int .u64 a).wf = true) : ∃ n : Nat, a = (n : Int) ∧ n < 18446744073709551616 := by
  have := bounds_u64 h
  exact ⟨a.toNat, by omega, by omega⟩
/-- A slice of symbols that came in. -/
theorem open_syms {H : Type} {enc : TypeId × Value → H} {W : World} {fuel : Nat} {cs : List Value} {x : DataW H × List MemPlace}
    (h : DataW.trod enc Try.prog W 0 (fun _ => true) true fuel 23 cs = some x) : ∃ A l c xs, cs = [.slice A l c] ∧ SliceOk A l c ∧ Syms W A l xs ∧ ∀ j, (xs.getD j default).1 < 18446744073709551616 := by
  rcases Go.Deep.open_slice_pairs Try.underlying23 Try.underlying29 cellsSymO rfl rfl cellsU64 cellsStrO h with ⟨hcs, _⟩ | ⟨a, len, cap, m, n, V0, V1, D0, D1, P0, P1, hcs, _, hl, hm, hmm, _, hx⟩
  · exact ⟨none, 0, 0, [], hcs, ⟨Nat.le_refl _, Nat.zero_le _, fun _ => ⟨rfl, rfl⟩⟩, Recs.nil _ _, fun j => by simp [default]⟩
  · have hmm' : m = cap := by simpa using hmm
    have each : ∀ i, i < len → ∃ r : SymR, V0 i = .int .u64 (r.1 : Nat) ∧ V1 i = .string r.2 ∧ r.1 < 18446744073709551616 := fun i hi => by
      obtain ⟨h0, h1, h2, h3⟩ := hx i (by omega)
      obtain ⟨z, e0, -, wz⟩ := DataW.trod_int Try.underlying22 h2
      obtain ⟨s, e1, -, ws⟩ := DataW.trod_string Try.underlying9 h3
      obtain ⟨k, rfl, hk⟩ := u64_nat wz
      simp at e0 e1
      exact ⟨(k, s), e0, e1, hk⟩
    obtain ⟨q, hq⟩ := Go.Deep.choose_lt each
    have hg : ∀ j, j < len → ((List.range len).map q).getD j default = q j := fun j hj => by simp [List.getD, hj]
    refine ⟨some a, len, cap, (List.range len).map q, hcs, ⟨hl, hm, fun h => by cases h⟩, ⟨by simp, fun hp => ?_⟩, fun j => ?_⟩
    · obtain ⟨b, o, ha⟩ : ∃ b o, a = ⟨b, o, none⟩ := by
        have := (hx 0 (by omega)).1
        exact addr_at (by simpa using this)
      subst ha
      have hadd : ∀ j, Addr.add { block := b, off := o } j = ⟨b, o + j, none⟩ := fun j => by
        by_cases h : j = 0 <;> simp [Addr.add, h]
      refine ⟨b, o, rfl, ?_, fun j hj k v hv => ?_⟩
      · have := block_lt_of_cell (hx 0 (by omega)).1
        rw [hadd] at this
        exact this
      · obtain ⟨h0, h1, -, -⟩ := hx j (by omega)
        rw [hadd] at h0 h1
        obtain ⟨e0, e1, -⟩ := hq j hj
        rw [hg j hj] at hv
        match k, hv with
        | 0, hv =>
          simp [encS] at hv
          rw [Nat.add_zero, h0, e0, hv]
        | 1, hv =>
          simp [encS] at hv
          rw [Nat.add_assoc, h1, e1, hv]
    · by_cases hj : j < len
      · rw [hg j hj]; exact (hq j hj).2.2
      · have e : ((List.range len).map q).getD j default = default := by
          simp only [List.getD]
          rw [List.getElem?_eq_none (by simp; omega)]; rfl
        rw [e]; decide
theorem open_store {H : Type} {enc : TypeId × Value → H} {W : World} {r : Reach} {b0 : Nat} {v : Value} {d : DataW H} {p : List MemPlace}
    (hv : Value.okWide Try.prog W r b0 25 v) (h : DataW.Trod enc Try.prog W 0 (fun _ => true) true 25 v d p) :
    ∃ (k s c : Int) (A : Option Addr) (l n : Nat) (xs : List SymR), v = .agg #[.int .i64 k, .int .i64 s, .int .i64 c, .slice A l n] ∧ (Lit.int .i64 k).wf = true ∧ (Lit.int .i64 s).wf = true ∧ (Lit.int .i64 c).wf = true ∧ SliceOk A l n ∧ Syms W A l xs ∧ ∀ j, (xs.getD j default).1 < 18446744073709551616 := by
  obtain ⟨cs, rfl, hsz⟩ := okWide_struct Try.underlying25 hv
  obtain ⟨c0, c1, c2, c3, rfl⟩ := array4O (hsz.trans cellsStoreO)
  obtain ⟨fuel, hf⟩ := h
  obtain ⟨y0, y1, y2, y3, n, hx, _, h0, h1, h2, h3⟩ := trod_struct4 Try.underlying25 hf
  have eint : Try.prog.cellsOf 3 = 1 := by kernel_rfl
  have esl : Try.prog.cellsOf 23 = 1 := by kernel_rfl
  simp [Value.cells, eint, esl] at h0 h1 h2 h3
  obtain ⟨a0, e0, -, w0⟩ := DataW.trod_int Try.underlying3 h0
  obtain ⟨a1, e1, -, w1⟩ := DataW.trod_int Try.underlying3 h1
  obtain ⟨a2, e2, -, w2⟩ := DataW.trod_int Try.underlying3 h2
  obtain ⟨A, l, c, xs, e3, hs, hw, hb⟩ := open_syms h3
  simp at e0 e1 e2 e3
  subst e0 e1 e2 e3
  exact ⟨a0, a1, a2, A, l, c, xs, rfl, w0, w1, w2, hs, hw, hb⟩
theorem open_sym {H : Type} {enc : TypeId × Value → H} {W : World} {r : Reach} {b0 : Nat} {v : Value} {d : DataW H} {p : List MemPlace}
    (hv : Value.okWide Try.prog W r b0 29 v) (h : DataW.Trod enc Try.prog W 0 (fun _ => true) true 29 v d p) :
    ∃ (i : Nat) (t : ByteArray), v = .agg #[.int .u64 (i : Int), .string t] ∧ i < 18446744073709551616 ∧ t.size ≤ maxLen := by
  obtain ⟨cs, rfl, hsz⟩ := okWide_struct Try.underlying29 hv
  obtain ⟨c0, c1, rfl⟩ := array2O (hsz.trans cellsSymO)
  obtain ⟨fuel, hf⟩ := h
  obtain ⟨z0, z1, n', hx', _, g0, g1⟩ := trod_struct2 Try.underlying29 hf
  simp [Value.cells, cellsU64, cellsStrO] at g0 g1
  obtain ⟨a3, e3, -, w3⟩ := DataW.trod_int Try.underlying22 g0
  obtain ⟨a4, e4, -, w4⟩ := DataW.trod_string Try.underlying9 g1
  obtain ⟨k, rfl, hk⟩ := u64_nat w3
  simp at e3 e4
  subst e3 e4
  exact ⟨k, a4, rfl, hk, w4⟩
end Go.Proofs.Ytcikoaeiopbbbaa
