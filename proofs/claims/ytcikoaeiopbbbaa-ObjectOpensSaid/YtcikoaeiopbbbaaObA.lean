/- Layer 18: objects, calls and replies as data and as values; how objects came in. -/
import Derived.Test.YtcikoaeiopbbbaaEq5
import Derived.Test.YtcikoaeiopbbbaaEq6
import Derived.Test.YtcikoaeiopbbbaaEaX
import Derived.Test.YtcikoaeiopbbbaaEqO
import Derived.Test.YtcikoaeiopbbbaaHi1
namespace Go.Proofs.Ytcikoaeiopbbbaa
set_option linter.unusedVariables false
set_option linter.unusedSimpArgs false
open Go.RowKit Go.Joins Go.ChangeShapes Go.WideShapes
set_option maxRecDepth 100000
/-- A store: K, size, cap, symbols. -/
abbrev StoR := Int × Int × Int × List SymR
/-- An object: its number, its store, whether it is closed. -/
abbrev ObR := Nat × StoR × Int
/-- A reply: why, a number, blocks. -/
abbrev ReplyR := Int × Int × List ByteArray
abbrev stA (s : StoR) (A : Option Addr) (d : Nat) : Array Value := #[.int .i64 s.1, .int .i64 s.2.1, .int .i64 s.2.2.1, .slice A s.2.2.2.length d]
abbrev obA (o : ObR) (A : Option Addr) (d : Nat) : Array Value := #[.int .u64 (o.1 : Nat), .int .i64 o.2.1.1, .int .i64 o.2.1.2.1, .int .i64 o.2.1.2.2.1, .slice A o.2.1.2.2.2.length d, .int .i64 o.2.2]
def ObAt (w : World) (v : Value) (o : ObR) : Prop := ∃ A d, v = .agg (obA o A d) ∧ SliceOk A o.2.1.2.2.2.length d ∧ Syms w A o.2.1.2.2.2.length o.2.1.2.2.2
theorem ObAt.below {w w' : World} {v : Value} {o : ObR} (h : ObAt w v o) (hb : Below w.heap.size w w') : ObAt w' v o := by
  obtain ⟨A, d, h1, h2, h3⟩ := h
  exact ⟨A, d, h1, h2, Recs.below h3 hb⟩
def RpAt (w : World) (v : Value) (r : ReplyR) : Prop := ∃ A c, v = .agg #[.int .i64 r.1, .int .i64 r.2.1, .slice A r.2.2.length c] ∧ Texts w A r.2.2.length r.2.2 ∧ r.2.2.length ≤ c ∧ c ≤ maxLen
theorem RpAt.below {w w' : World} {v : Value} {r : ReplyR} (h : RpAt w v r) (hb : Below w.heap.size w w') : RpAt w' v r := by
  obtain ⟨A, c, h1, h2, h3⟩ := h
  exact ⟨A, c, h1, h2.below hb, h3⟩
theorem RpAt.nil (w : World) (why n : Int) : RpAt w (.agg #[.int .i64 why, .int .i64 n, .slice none 0 0]) (why, n, []) := ⟨none, 0, rfl, Texts.nil _ _, Nat.le_refl _, Nat.zero_le _⟩
def rightO (o : ObR) : Bool := storeB o.2.1.1 o.2.1.2.1 o.2.1.2.2.1 o.2.1.2.2.2 && (decide (o.2.2 = 0) || decide (o.2.2 = 1))
instance decSto : DecidableEq StoR := inferInstanceAs (DecidableEq (Int × Int × Int × List (Nat × ByteArray)))
instance decOb : DecidableEq ObR := inferInstanceAs (DecidableEq (Nat × (Int × Int × Int × List (Nat × ByteArray)) × Int))
def likeO (a b : ObR) : Bool := decide (a = b)
theorem likeB_eq (k s c : Int) (xs : List SymR) (k2 s2 c2 : Int) (ys : List SymR) : likeB k s c xs k2 s2 c2 ys = decide ((k, s, c, xs) = ((k2, s2, c2, ys) : StoR)) := by
  unfold likeB
  rw [Bool.eq_iff_iff]
  simp only [Bool.and_eq_true, beq_iff_eq, decide_eq_true_eq, Prod.mk.injEq]
  constructor
  · rintro ⟨⟨⟨h1, h2⟩, h3⟩, h4⟩; exact ⟨h1, h2, h3, h4⟩
  · rintro ⟨h1, h2, h3, h4⟩; exact ⟨⟨⟨h1, h2⟩, h3⟩, h4⟩
def obZ : ObR := (0, (0, 0, 0, []), 0)
/-- What a call opens. -/
def openO (c : CallR) : ObR × ReplyR :=
  if c.1 = 0 then (if sizesB c.2.2.1 c.2.2.2.1 c.2.2.2.2.1 then ((c.2.1, (c.2.2.1, c.2.2.2.1, c.2.2.2.2.1, []), 0), (0, c.2.2.1, [])) else (obZ, (2, 0, []))) else (obZ, (1, 0, []))
theorem cellsObO : Try.prog.cellsOf 27 = 6 := by kernel_rfl
theorem array6O {α : Type} {cs : Array α} (h : cs.size = 6) : ∃ a b c d e f, cs = #[a, b, c, d, e, f] := by
  obtain ⟨l⟩ := cs
  match l, h with
  | [a, b, c, d, e, f], _ => exact ⟨a, b, c, d, e, f, rfl⟩
theorem array7O {α : Type} {cs : Array α} (h : cs.size = 7) : ∃ a b c d e f g, cs = #[a, b, c, d, e, f, g] := by
  obtain ⟨l⟩ := cs
  match l, h with
  | [a, b, c, d, e, f, g], _ => exact ⟨a, b, c, d, e, f, g, rfl⟩
/-- The numbers of symbols are of 64 bits. -/
def Ids (xs : List SymR) : Prop := ∀ j, (xs.getD j default).1 < 18446744073709551616
theorem open_obL {H : Type} {enc : TypeId × Value → H} {W : World} {fuel : Nat} {cs : List Value} {x : DataW H × List MemPlace} (hl : cs.length = 6)
    (h : DataW.trod enc Try.prog W 0 (fun _ => true) true fuel 27 cs = some x) : ∃ (o : ObR) (A : Option Addr) (d : Nat), cs = (obA o A d).toList ∧ SliceOk A o.2.1.2.2.2.length d ∧ Syms W A o.2.1.2.2.2.length o.2.1.2.2.2 ∧ Ids o.2.1.2.2.2 ∧ o.1 < 18446744073709551616 := by
  match cs, hl with
  | [v0, v1, v2, v3, v4, v5], _ =>
  obtain ⟨xs, n, -, -, -, hxl, hf⟩ := DataW.trod_struct Try.underlying27 h
  match xs, hxl with
  | [y0, y1, y2], _ =>
  have g0 := hf 0 _ rfl
  have g1 := hf 1 _ rfl
  have g2 := hf 2 _ rfl
  have ei : Try.prog.cellsOf 3 = 1 := by kernel_rfl
  have eu : Try.prog.cellsOf 22 = 1 := by kernel_rfl
  have es : Try.prog.cellsOf 25 = 4 := by kernel_rfl
  have esl : Try.prog.cellsOf 23 = 1 := by kernel_rfl
  simp [ei, eu, es] at g0 g1 g2
  obtain ⟨a0, e0, -, w0⟩ := DataW.trod_int Try.underlying22 g0
  obtain ⟨a2, e2, -, w2⟩ := DataW.trod_int Try.underlying3 g2
  obtain ⟨z0, z1, z2, z3, n', hx, _, h0, h1, h2, h3⟩ := trod_struct4 Try.underlying25 g1
  simp [ei, esl] at h0 h1 h2 h3
  obtain ⟨b0, f0, -, x0⟩ := DataW.trod_int Try.underlying3 h0
  obtain ⟨b1, f1, -, x1⟩ := DataW.trod_int Try.underlying3 h1
  obtain ⟨b2, f2, -, x2⟩ := DataW.trod_int Try.underlying3 h2
  obtain ⟨A, l, c, us, f3, hs, hw, hb⟩ := open_syms h3
  obtain ⟨q, rfl, hq⟩ := u64_nat w0
  simp at e0 e2 f0 f1 f2 f3
  subst e0 e2 f0 f1 f2 f3
  obtain rfl : us.length = l := hw.1
  exact ⟨(q, (b0, b1, b2, us), a2), A, c, rfl, hs, hw, hb, hq⟩
theorem open_object {H : Type} {enc : TypeId × Value → H} {W : World} {r : Reach} {b0 : Nat} {v : Value} {d : DataW H} {p : List MemPlace}
    (hv : Value.okWide Try.prog W r b0 27 v) (h : DataW.Trod enc Try.prog W 0 (fun _ => true) true 27 v d p) :
    ∃ o : ObR, ObAt W v o ∧ Ids o.2.1.2.2.2 ∧ o.1 < 18446744073709551616 := by
  obtain ⟨cs, rfl, hsz⟩ := okWide_struct Try.underlying27 hv
  obtain ⟨c0, c1, c2, c3, c4, c5, rfl⟩ := array6O (hsz.trans cellsObO)
  obtain ⟨fuel, hf⟩ := h
  obtain ⟨o, A, d, e, h1, h2, h3, h4⟩ := open_obL rfl hf
  exact ⟨o, ⟨A, d, congrArg (fun l : List Value => Value.agg l.toArray) e, h1, h2⟩, h3, h4⟩
theorem cellsCaO : Try.prog.cellsOf 31 = 7 := by kernel_rfl
abbrev callV (c : CallR) : Value := .agg (callL c).toArray
theorem open_callB {H : Type} {enc : TypeId × Value → H} {W : World} {fuel : Nat} {cs : List Value} {x : DataW H × List MemPlace} (hl : cs.length = 7) (h : DataW.trod enc Try.prog W 0 (fun _ => true) true fuel 31 cs = some x) : ∃ c : CallR, cs = callL c ∧ c.2.1 < 18446744073709551616 ∧ c.2.2.2.2.2.1 < 18446744073709551616 ∧ c.2.2.2.2.2.2.size ≤ maxLen := by
  match cs, hl with
  | [v0, v1, v2, v3, v4, v5, v6], _ =>
  obtain ⟨xs, n, -, -, -, hxl, hf⟩ := DataW.trod_struct Try.underlying31 h
  match xs, hxl with
  | [y0, y1, y2, y3, y4, y5], _ =>
  have g0 := hf 0 _ rfl
  have g1 := hf 1 _ rfl
  have g2 := hf 2 _ rfl
  have g3 := hf 3 _ rfl
  have g4 := hf 4 _ rfl
  have g5 := hf 5 _ rfl
  have ei : Try.prog.cellsOf 3 = 1 := by kernel_rfl
  have eu : Try.prog.cellsOf 22 = 1 := by kernel_rfl
  have es : Try.prog.cellsOf 29 = 2 := by kernel_rfl
  simp [ei, eu, es] at g0 g1 g2 g3 g4 g5
  obtain ⟨a0, e0, -, w0⟩ := DataW.trod_int Try.underlying3 g0
  obtain ⟨a1, e1, -, w1⟩ := DataW.trod_int Try.underlying22 g1
  obtain ⟨a2, e2, -, w2⟩ := DataW.trod_int Try.underlying3 g2
  obtain ⟨a3, e3, -, w3⟩ := DataW.trod_int Try.underlying3 g3
  obtain ⟨a4, e4, -, w4⟩ := DataW.trod_int Try.underlying3 g4
  obtain ⟨z0, z1, n', -, -, k0, k1⟩ := trod_struct2 Try.underlying29 g5
  simp [eu, show Try.prog.cellsOf 9 = 1 by kernel_rfl] at k0 k1
  obtain ⟨a5, e5, -, w5⟩ := DataW.trod_int Try.underlying22 k0
  obtain ⟨a6, e6, -, w6⟩ := DataW.trod_string Try.underlying9 k1
  obtain ⟨q1, rfl, hq1⟩ := u64_natH w1
  obtain ⟨q5, rfl, hq5⟩ := u64_natH w5
  simp at e0 e1 e2 e3 e4 e5 e6
  subst e0 e1 e2 e3 e4 e5 e6
  exact ⟨(a0, q1, a2, a3, a4, q5, a6), rfl, hq1, hq5, w6⟩
theorem open_call {H : Type} {enc : TypeId × Value → H} {W : World} {r : Reach} {b0 : Nat} {v : Value} {d : DataW H} {p : List MemPlace}
    (hv : Value.okWide Try.prog W r b0 31 v) (h : DataW.Trod enc Try.prog W 0 (fun _ => true) true 31 v d p) :
    ∃ c : CallR, v = callV c ∧ c.2.1 < 18446744073709551616 ∧ c.2.2.2.2.2.1 < 18446744073709551616 ∧ c.2.2.2.2.2.2.size ≤ maxLen := by
  obtain ⟨cs, rfl, hsz⟩ := okWide_struct Try.underlying31 hv
  obtain ⟨c0, c1, c2, c3, c4, c5, c6, rfl⟩ := array7O (hsz.trans cellsCaO)
  obtain ⟨fuel, hf⟩ := h
  obtain ⟨c, e, h1, h2, h3⟩ := open_callB rfl hf
  exact ⟨c, congrArg (fun l : List Value => Value.agg l.toArray) e, h1, h2, h3⟩
end Go.Proofs.Ytcikoaeiopbbbaa
