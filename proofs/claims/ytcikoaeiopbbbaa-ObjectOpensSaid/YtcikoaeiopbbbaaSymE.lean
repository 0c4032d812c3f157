/- Two symbols compared. -/
import Derived.Test.YtcikoaeiopbbbaaRows
import Derived.Test.YtcikoaeiopbbbaaWords
import Derived.Laws.StructEq
namespace Go.Proofs.Ytcikoaeiopbbbaa
set_option linter.unusedVariables false
set_option linter.unusedSimpArgs false
open Go.RowKit
theorem sym_equal (d : Nat) (a b : Int) (s t : ByteArray) (w : World) : (Op.equalIn (d + 2) 29 (.agg #[.int .u64 a, .string s]) (.agg #[.int .u64 b, .string t])).run Try.prog w = .ok (a == b && s.toList == t.toList) w := by
  rw [run_equalIn_struct w (d + 1) 29 _ _ (by kernel_rfl) (by kernel_rfl)]
  simp only [Program.fieldsOf, Try.underlying29]
  simp [Op.eqFields, Go.part, Go.isAgg, run_underlying Try.underlying22, run_underlying Try.underlying9]
  rw [run_equalIn_int w d 22 .u64 .u64 a b Try.underlying22]
  cases h : (a == b) with
  | false => simp [Result.andThen]
  | true =>
    simp only [Result.andThen_ok]
    rw [run_equalIn_string w d 9 s t Try.underlying9]
    cases h2 : (s.toList == t.toList) <;> simp [Result.andThen]
theorem sym_neq (a b : Int) (s t : ByteArray) (w : World) : (binOp .neq 29 (.agg #[.int .u64 a, .string s]) (.agg #[.int .u64 b, .string t])).run Try.prog w = .ok (.bool (!(a == b && s.toList == t.toList))) w := by
  rw [run_neq_struct, show (10000 : Nat) = 9998 + 2 from rfl, sym_equal]; rfl
theorem sym_guard (op : BinOp) (a b : Int) (s t : ByteArray) (x y : Operand) (w : World) : (eqGuard op 29 x y (.agg #[.int .u64 a, .string s]) (.agg #[.int .u64 b, .string t])).run Try.prog w = .ok () w :=
  run_eqGuard_agg w op _ x y _ _ (by kernel_rfl)
theorem toList_inj (s t : ByteArray) (h : s.toList = t.toList) : s = t := by
  rw [ByteArray.toList_eq, ByteArray.toList_eq] at h
  obtain ⟨⟨x⟩⟩ := s
  obtain ⟨⟨y⟩⟩ := t
  simp at h
  rw [h]
theorem symv_ne (p q : Nat × ByteArray) (h : ¬ p = q) : (((p.1 : Nat) : Int) == ((q.1 : Nat) : Int) && p.2.toList == q.2.toList) = false := by
  obtain ⟨a, s⟩ := p
  obtain ⟨b, t⟩ := q
  by_cases h1 : a = b
  · subst h1
    have h2 : ¬ s.toList = t.toList := fun e => h (by rw [toList_inj s t e])
    simp [h2]
  · have : ¬ ((a : Nat) : Int) = (b : Int) := by omega
    simp [this]
theorem symv_eq (p : Nat × ByteArray) : (((p.1 : Nat) : Int) == ((p.1 : Nat) : Int) && p.2.toList == p.2.toList) = true := by simp
end Go.Proofs.Ytcikoaeiopbbbaa
