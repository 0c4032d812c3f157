/- Layer 14: the heap's methods: Len, Less; how they are reached through the interface. -/
import Derived.Test.YtmfjbmojejplgaaRiF
import Derived.Deep.RegionHeld3
namespace Go.Proofs.Ytmfjbmojejplgaa
set_option linter.unusedVariables false
set_option linter.unusedSimpArgs false
open Go.RowKit Go.Sort
set_option maxRecDepth 100000
/-- A pointer to a row of drops, as the heap holds it. -/
abbrev hpV (gp : Nat) : Value := .iface 102 (.pointer (some ⟨gp, 0, none⟩))
theorem recvD (p : Addr) (w : World) (s : Option String) : (receiverAt 102 (.val (.pointer (some p))) false s).run Try.prog w = ((loadVar 48 p).run Try.prog w) := by cases s <;> kernel_rfl
theorem metLen (n : Nat) (p : Addr) (w : World) : (method (n + 1) 102 (.pointer (some p)) "Len").run Try.prog w = ((loadVar 48 p).run Try.prog w).andThen fun v w' => .ok (63, v) w' := by
  have e : (method (n + 1) 102 (.pointer (some p)) "Len").run Try.prog w = (do pure (63, ← receiverAt 102 (.val (.pointer (some p))) false (some (("Len".splitOn ".").getLastD "Len"))) : Sem (FuncId × Value)).run Try.prog w := by kernel_rfl
  rw [e]
  simp only [Sem.run_bind, Sem.run_pure, recvD]
theorem metLess (n : Nat) (p : Addr) (w : World) : (method (n + 1) 102 (.pointer (some p)) "Less").run Try.prog w = ((loadVar 48 p).run Try.prog w).andThen fun v w' => .ok (67, v) w' := by
  have e : (method (n + 1) 102 (.pointer (some p)) "Less").run Try.prog w = (do pure (67, ← receiverAt 102 (.val (.pointer (some p))) false (some (("Less".splitOn ".").getLastD "Less"))) : Sem (FuncId × Value)).run Try.prog w := by kernel_rfl
  rw [e]
  simp only [Sem.run_bind, Sem.run_pure, recvD]
theorem metSwap (n : Nat) (p : Addr) (w : World) : (method (n + 1) 102 (.pointer (some p)) "Swap").run Try.prog w = ((loadVar 48 p).run Try.prog w).andThen fun v w' => .ok (68, v) w' := by
  have e : (method (n + 1) 102 (.pointer (some p)) "Swap").run Try.prog w = (do pure (68, ← receiverAt 102 (.val (.pointer (some p))) false (some (("Swap".splitOn ".").getLastD "Swap"))) : Sem (FuncId × Value)).run Try.prog w := by kernel_rfl
  rw [e]
  simp only [Sem.run_bind, Sem.run_pure, recvD]
theorem metPush (n : Nat) (x : Value) (w : World) : (method (n + 1) 102 x "Push").run Try.prog w = .ok (71, x) w := by kernel_rfl
theorem metPop (n : Nat) (x : Value) (w : World) : (method (n + 1) 102 x "Pop").run Try.prog w = .ok (70, x) w := by kernel_rfl
theorem load_drops {p : Addr} {w : World} {A : Option Addr} {l c : Nat} (h : w.cell? p = some (.slice A l c)) : (loadVar 48 p).run Try.prog w = .ok (.slice A l c) w := by go_simp
theorem atLen {p : Addr} {w : World} {A : Option Addr} {l c : Nat} (h : w.cell? p = some (.slice A l c)) : (method 213 102 (.pointer (some p)) "Len").run Try.prog w = .ok (63, .slice A l c) w := by rw [metLen, load_drops h]; rfl
theorem atLess {p : Addr} {w : World} {A : Option Addr} {l c : Nat} (h : w.cell? p = some (.slice A l c)) : (method 213 102 (.pointer (some p)) "Less").run Try.prog w = .ok (67, .slice A l c) w := by rw [metLess, load_drops h]; rfl
theorem atSwap {p : Addr} {w : World} {A : Option Addr} {l c : Nat} (h : w.cell? p = some (.slice A l c)) : (method 213 102 (.pointer (some p)) "Swap").run Try.prog w = .ok (68, .slice A l c) w := by rw [metSwap, load_drops h]; rfl
theorem len_any (A : Option Addr) (l c : Nat) (w : World) : Calls Try.prog 63 #[.slice A l c] w fun e w' => e = .returned (.int .i64 (l : Int)) ∧ w' = w := by
  go_enter Try.func63, Try.ntmps63
  go_wp2_with fail
  go_ret
  exact ⟨rfl, rfl⟩
set_option maxHeartbeats 2000000 in
theorem less_any (A : Option Addr) (l c : Nat) (xs : List DrR) (i j : Nat) (hi : i < l) (hj : j < l) (hl : l ≤ 1000000) (w : World) (hH : Drs w A l xs) :
    Calls Try.prog 67 #[.slice A l c, .int .i64 (i : Int), .int .i64 (j : Int)] w fun e w' => e = .returned (.bool (befD (drAt xs i) (drAt xs j))) ∧ Below w.heap.size w w' := by
  obtain ⟨b, o, rfl, lt, d0, d1⟩ := Drs.cells hH (Below.refl _ _) i hi
  obtain ⟨b2, o2, he, lt2, e0, e1⟩ := Drs.cells hH (Below.refl _ _) j hj
  injection he with he
  injection he with he1 he2
  subst he1 he2
  have HB := Lib.hid (fun w' => before_any (drAt xs i) (drAt xs j) w')
  have HXk := Lib.hid (show ∀ x1, Below w.drew.heap.size w.drew x1 → x1.cell? ⟨b, o + i * 2, none⟩ = some (.int .i64 (drAt xs i).1) ∧ x1.cell? ⟨b, o + i * 2 + 1, none⟩ = some (.int .u64 ((drAt xs i).2 : Int)) ∧ x1.cell? ⟨b, o + j * 2, none⟩ = some (.int .i64 (drAt xs j).1) ∧ x1.cell? ⟨b, o + j * 2 + 1, none⟩ = some (.int .u64 ((drAt xs j).2 : Int)) from fun x1 hb =>
    ⟨(hb.cell (p := ⟨b, o + i * 2, none⟩) lt).trans d0, (hb.cell (p := ⟨b, o + i * 2 + 1, none⟩) lt).trans d1, (hb.cell (p := ⟨b, o + j * 2, none⟩) lt).trans e0, (hb.cell (p := ⟨b, o + j * 2 + 1, none⟩) lt).trans e1⟩)
  generalize drAt xs i = x at *
  generalize drAt xs j = y at *
  have i1 : (i : Int) < (l : Int) := Int.ofNat_lt.2 hi
  have j1 : (j : Int) < (l : Int) := Int.ofNat_lt.2 hj
  have i0 : (0 : Int) ≤ (i : Int) := Int.natCast_nonneg _
  have j0 : (0 : Int) ≤ (j : Int) := Int.natCast_nonneg _
  clear hH
  go_enter Try.func67, Try.ntmps67
  go_wp2_with fail
  go_region_held3 (fun (w' : World) => w'.cell? ⟨b, o + i * 2, none⟩ = some (.int .i64 x.1) ∧ w'.cell? ⟨b, o + i * 2 + 1, none⟩ = some (.int .u64 (x.2 : Int)) ∧ w'.cell? ⟨b, o + j * 2, none⟩ = some (.int .i64 y.1) ∧ w'.cell? ⟨b, o + j * 2 + 1, none⟩ = some (.int .u64 (y.2 : Int))) (go_keep) (first
    | (go_at_call 10; refine (HB.out _).mono ?_; rintro e1 x1 ⟨rfl, hb⟩; have HC1 := Lib.hid (chain (Below.refl w.heap.size w).drew hb); have c1 := HXk.out x1 hb; obtain ⟨f0, f1, f2, f3⟩ := c1; clear hb))
  go_wp2_with fail
  go_ret
  exact ⟨rfl, HC1.out⟩
end Go.Proofs.Ytmfjbmojejplgaa
