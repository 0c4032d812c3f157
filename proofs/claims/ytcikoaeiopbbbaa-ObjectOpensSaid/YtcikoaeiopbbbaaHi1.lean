/- Layer 22: events, calls and spans as values and cells; how events that came in are opened; two calls compared. -/
import Derived.Test.YtcikoaeiopbbbaaRec
import Derived.Test.YtcikoaeiopbbbaaOpenT
import Derived.Test.YtcikoaeiopbbbaaSymE
import Derived.Test.YtcikoaeiopbbbaaFew
import Derived.Deep.Slices
import Derived.Laws.StructEq
namespace Go.Proofs.Ytcikoaeiopbbbaa
set_option linter.unusedVariables false
set_option linter.unusedSimpArgs false
open Go.RowKit Go.Joins Go.ChangeShapes Go.WideShapes
set_option maxRecDepth 100000
/-- A call: what, object, K, size, cap, the symbol's number and its data. -/
abbrev CallR := Int × Nat × Int × Int × Int × Nat × ByteArray
/-- A reply: why, n, and the slice of blocks. -/
structure RepR where
  why : Int
  n : Int
  A : Option Addr
  l : Nat
  c : Nat
structure EvR where
  c : Int
  b : Int
  n : Int
  call : CallR
  rep : RepR
instance : Inhabited RepR := ⟨⟨0, 0, none, 0, 0⟩⟩
instance : Inhabited EvR := ⟨⟨0, 0, 0, default, default⟩⟩
abbrev callL (c : CallR) : List Value := [.int .i64 c.1, .int .u64 (c.2.1 : Nat), .int .i64 c.2.2.1, .int .i64 c.2.2.2.1, .int .i64 c.2.2.2.2.1, .int .u64 (c.2.2.2.2.2.1 : Nat), .string c.2.2.2.2.2.2]
abbrev repL (r : RepR) : List Value := [.int .i64 r.why, .int .i64 r.n, .slice r.A r.l r.c]
def encE (e : EvR) : List Value := .int .i64 e.c :: .int .i64 e.b :: .int .i64 e.n :: (callL e.call ++ repL e.rep)
theorem encE_len (e : EvR) : (encE e).length = 13 := rfl
theorem encE_one (e : EvR) : ∀ u ∈ encE e, u.oneCell' = true := by
  intro u hu
  simp [encE] at hu
  rcases hu with rfl | rfl | rfl | rfl | rfl | rfl | rfl | rfl | rfl | rfl | rfl | rfl | rfl <;> rfl
/-- A reply whose blocks read as texts. -/
def RepOk (w : World) (r : RepR) : Prop := ∃ ss, Texts w r.A r.l ss ∧ r.l ≤ r.c ∧ r.c ≤ maxLen
theorem RepOk.below {w w' : World} {r : RepR} (h : RepOk w r) (hb : Below w.heap.size w w') : RepOk w' r := by
  obtain ⟨ss, h1, h2, h3⟩ := h
  exact ⟨ss, h1.below hb, h2, h3⟩
theorem RepOk.zero (w : World) : RepOk w default := ⟨[], Texts.nil _ _, Nat.le_refl _, Nat.zero_le _⟩
/-- A slice of events. -/
structure Evs (w : World) (A : Option Addr) (l : Nat) (xs : List EvR) : Prop where
  recs : Recs encE 13 w A l xs
  reps : ∀ j, RepOk w (xs.getD j default).rep
theorem Evs.below {w w' : World} {A : Option Addr} {l : Nat} {xs : List EvR} (h : Evs w A l xs) (hb : Below w.heap.size w w') : Evs w' A l xs := ⟨h.recs.below hb, fun j => (h.reps j).below hb⟩
theorem Evs.take {w : World} {A : Option Addr} {l : Nat} {xs : List EvR} (h : Evs w A l xs) (k : Nat) (hk : k ≤ l) : Evs w A k (xs.take k) := by
  refine ⟨h.recs.take k hk, fun j => ?_⟩
  by_cases hj : j < k
  · have e : (xs.take k).getD j default = xs.getD j default := by simp [List.getD, List.getElem?_take_of_lt hj]
    rw [e]; exact h.reps j
  · have e : (xs.take k).getD j default = default := by simp [List.getD, List.getElem?_take, hj]
    rw [e]; exact RepOk.zero w
theorem Evs.len {w : World} {A : Option Addr} {l : Nat} {xs : List EvR} (h : Evs w A l xs) : xs.length = l := h.recs.1
theorem u64_natH {a : Int} (h : (Lit.int .u64 a).wf = true) : ∃ n : Nat, a = (n : Int) ∧ n < 18446744073709551616 := by
  have := bounds_u64 h
  exact ⟨a.toNat, by omega, by omega⟩
section
variable {H : Type} {enc : TypeId × Value → H} {W : World} {fuel : Nat} {cs : List Value} {x : DataW H × List MemPlace}
theorem open_callL (hl : cs.length = 7) (h : DataW.trod enc Try.prog W 0 (fun _ => true) true fuel 31 cs = some x) : ∃ c : CallR, cs = callL c := by
  match cs, hl with
  | [v0, v1, v2, v3, v4, v5, v6], _ =>
  obtain ⟨xs, n, -, -, -, hxl, hf⟩ := DataW.trod_struct Try.underlying31 h
  match xs, hxl with
  | [y0, y1, y2, y3, y4, y5], _ =>
  have g0 := hf 0 _ rfl
  have g1 := hf 1 _ rfl
  have g2 := hf 2 _ rfl
  have g3 := hf 3 _ rfl
  have g4 := hf 4 _ rfl
  have g5 := hf 5 _ rfl
  have ei : Try.prog.cellsOf 3 = 1 := by kernel_rfl
  have eu : Try.prog.cellsOf 22 = 1 := by kernel_rfl
  have es : Try.prog.cellsOf 29 = 2 := by kernel_rfl
  simp [ei, eu, es] at g0 g1 g2 g3 g4 g5
  obtain ⟨a0, e0, -, w0⟩ := DataW.trod_int Try.underlying3 g0
  obtain ⟨a1, e1, -, w1⟩ := DataW.trod_int Try.underlying22 g1
  obtain ⟨a2, e2, -, w2⟩ := DataW.trod_int Try.underlying3 g2
  obtain ⟨a3, e3, -, w3⟩ := DataW.trod_int Try.underlying3 g3
  obtain ⟨a4, e4, -, w4⟩ := DataW.trod_int Try.underlying3 g4
  obtain ⟨z0, z1, n', -, -, k0, k1⟩ := trod_struct2 Try.underlying29 g5
  simp [eu, show Try.prog.cellsOf 9 = 1 by kernel_rfl] at k0 k1
  obtain ⟨a5, e5, -, w5⟩ := DataW.trod_int Try.underlying22 k0
  obtain ⟨a6, e6, -, w6⟩ := DataW.trod_string Try.underlying9 k1
  obtain ⟨q1, rfl, -⟩ := u64_natH w1
  obtain ⟨q5, rfl, -⟩ := u64_natH w5
  simp at e0 e1 e2 e3 e4 e5 e6
  subst e0 e1 e2 e3 e4 e5 e6
  exact ⟨(a0, q1, a2, a3, a4, q5, a6), rfl⟩
theorem open_repL (hl : cs.length = 3) (h : DataW.trod enc Try.prog W 0 (fun _ => true) true fuel 36 cs = some x) : ∃ r : RepR, cs = repL r ∧ RepOk W r := by
  match cs, hl with
  | [v0, v1, v2], _ =>
  obtain ⟨xs, n, -, -, -, hxl, hf⟩ := DataW.trod_struct Try.underlying36 h
  match xs, hxl with
  | [y0, y1, y2], _ =>
  have g0 := hf 0 _ rfl
  have g1 := hf 1 _ rfl
  have g2 := hf 2 _ rfl
  have ei : Try.prog.cellsOf 3 = 1 := by kernel_rfl
  have ee : Try.prog.cellsOf 33 = 1 := by kernel_rfl
  have es : Try.prog.cellsOf 34 = 1 := by kernel_rfl
  simp [ei, ee, es] at g0 g1 g2
  obtain ⟨a0, e0, -, w0⟩ := DataW.trod_int Try.underlying33 g0
  obtain ⟨a1, e1, -, w1⟩ := DataW.trod_int Try.underlying3 g1
  obtain ⟨A, l, c, ss, e2, hs, ht⟩ := open_texts g2
  simp at e0 e1 e2
  subst e0 e1 e2
  exact ⟨⟨a0, a1, A, l, c⟩, rfl, ss, ht, hs.1, hs.2.1⟩
end
/-- Two calls compared. -/
theorem call_equal (d : Nat) (p q : CallR) (w : World) : (Op.equalIn (d + 3) 31 (.agg (callL p).toArray) (.agg (callL q).toArray)).run Try.prog w = .ok (decide (p = q)) w := by
  obtain ⟨p0, p1, p2, p3, p4, p5, p6⟩ := p
  obtain ⟨q0, q1, q2, q3, q4, q5, q6⟩ := q
  rw [run_equalIn_struct w (d + 2) 31 _ _ (by kernel_rfl) (by kernel_rfl)]
  simp only [Program.fieldsOf, Try.underlying31]
  simp [Op.eqFields, Go.part, Go.isAgg, run_underlying Try.underlying22, run_underlying Try.underlying3, run_underlying Try.underlying29]
  have f0 := fun (w : World) => run_equalIn_int w (d + 1) 3 .i64 .i64 p0 q0 Try.underlying3
  have f1 := fun (w : World) => run_equalIn_int w (d + 1) 22 .u64 .u64 (p1 : Int) (q1 : Int) Try.underlying22
  have f2 := fun (w : World) => run_equalIn_int w (d + 1) 3 .i64 .i64 p2 q2 Try.underlying3
  have f3 := fun (w : World) => run_equalIn_int w (d + 1) 3 .i64 .i64 p3 q3 Try.underlying3
  have f4 := fun (w : World) => run_equalIn_int w (d + 1) 3 .i64 .i64 p4 q4 Try.underlying3
  have f5 := fun (w : World) => sym_equal d (p5 : Int) (q5 : Int) p6 q6 w
  rw [f0]
  have step : ∀ (b : Bool) (w : World) (f : World → Result Bool), (Result.ok b w).andThen (fun a w' => if a = false then Result.ok false w' else f w') = if b = false then Result.ok false w else f w := fun b w f => rfl
  rw [step]
  by_cases h0 : p0 = q0
  · rw [if_neg (by simp [h0]), f1, step]
    by_cases h1 : p1 = q1
    · rw [if_neg (by simp [h1]), f2, step]
      by_cases h2 : p2 = q2
      · rw [if_neg (by simp [h2]), f3, step]
        by_cases h3 : p3 = q3
        · rw [if_neg (by simp [h3]), f4, step]
          by_cases h4 : p4 = q4
          · rw [if_neg (by simp [h4]), f5, step]
            by_cases h5 : (p5, p6) = (q5, q6)
            · injection h5 with h5 h6
              subst h5 h6
              simp [h0, h1, h2, h3, h4]
            · have := symv_ne (p5, p6) (q5, q6) h5
              dsimp only at this
              rw [this]
              have h6 : (decide (p5 = q5) && decide (p6 = q6)) = false := by
                rw [← Bool.decide_and]
                exact decide_eq_false (fun ⟨a, b⟩ => h5 (by rw [a, b]))
              simp [h0, h1, h2, h3, h4, h6]
          · rw [if_pos (by simpa using h4)]; simp [h4]
        · rw [if_pos (by simpa using h3)]; simp [h3]
      · rw [if_pos (by simpa using h2)]; simp [h2]
    · rw [if_pos (by simp; omega)]; simp [h1]
  · rw [if_pos (by simpa using h0)]; simp [h0]
theorem call_neq (p q : CallR) (w : World) : (binOp .neq 31 (.agg (callL p).toArray) (.agg (callL q).toArray)).run Try.prog w = .ok (.bool (!decide (p = q))) w := by
  rw [run_neq_struct, show (10000 : Nat) = 9997 + 3 from rfl, call_equal]; rfl
theorem call_guard (op : BinOp) (p q : CallR) (x y : Operand) (w : World) : (eqGuard op 31 x y (.agg (callL p).toArray) (.agg (callL q).toArray)).run Try.prog w = .ok () w :=
  run_eqGuard_agg w op _ x y _ _ (by kernel_rfl)
end Go.Proofs.Ytcikoaeiopbbbaa
