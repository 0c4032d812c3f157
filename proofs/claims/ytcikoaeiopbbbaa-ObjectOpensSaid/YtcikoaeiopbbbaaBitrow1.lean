/- Contracts of package bitrow's small functions: lengthMayBe, wordsFor, isPlace, Right. -/
import Derived.Test.YtcikoaeiopbbbaaRows
import Derived.Test.YtcikoaeiopbbbaaWords
import Derived.Deep.QuietTactic
import Derived.BigQuiet
namespace Go.Proofs.Ytcikoaeiopbbbaa
set_option linter.unusedVariables false
set_option linter.unusedSimpArgs false
open Go.RowKit
theorem quiet_w {P : Program} {f : FuncId} {args : Array Value} {w : World} {n : Nat} {v : Value}
    (h : Calls P f args (w.drewN n) fun e w' => e = .returned v ∧ w.drewN n = w') : Calls P f args (w.drewN n) fun e w'' => e = .returned v ∧ ∃ m, w'' = w.drewN m :=
  h.mono fun _ _ ⟨he, hm⟩ => ⟨he, n, hm.symm⟩
def lmb (n : Int) : Bool := decide (0 ≤ n) && decide (n ≤ 512)
theorem lmb_iff (n : Int) : lmb n = true ↔ 0 ≤ n ∧ n ≤ 512 := by simp [lmb]
theorem lmb_no (n : Int) : lmb n = false ↔ ¬ (0 ≤ n ∧ n ≤ 512) := by rw [← lmb_iff]; simp
def nw (n : Nat) : Nat := (n + 63) / 64
def rightB (n : Int) (ws : List Nat) : Bool := lmb n && (ws.length == nw n.toNat) && (n.toNat % 64 == 0 || (ws.getD (ws.length - 1) 0) / 2 ^ (n.toNat % 64) == 0)
theorem shr_zero (x k : Nat) : (((x : Int) / 2 ^ k) == 0) = (x / 2 ^ k == 0) := by
  rw [Bool.eq_iff_iff]
  have e : (x : Int) / 2 ^ k = ((x / 2 ^ k : Nat) : Int) := by simp [Int.natCast_ediv]
  rw [e]
  simp only [beq_iff_eq]
  omega
end Go.Proofs.Ytcikoaeiopbbbaa
