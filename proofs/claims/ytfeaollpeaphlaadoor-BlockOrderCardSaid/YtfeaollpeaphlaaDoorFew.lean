/- Contract of the statements' few: a row with at most ten words. -/
import Derived.Test.YtfeaollpeaphlaaDoorBitrow1
namespace Go.Proofs.YtfeaollpeaphlaaDoor
set_option linter.unusedVariables false
set_option linter.unusedSimpArgs false
open Go.RowKit
/-- What a call that answers a row leaves. -/
def OneRow (n : Int) (zs : List Nat) (w : World) (e : Ending) (w' : World) : Prop :=
  ∃ A l c, e = .returned (.agg #[.int .i64 n, .slice A l c]) ∧ Words w' A l zs ∧ Below w.heap.size w w'
theorem few_nil (n : Int) (w : World) : Calls Tryd.prog 7 #[.agg #[.int .i64 n, .slice none 0 0]] w (OneRow n [] w) := by
  go_enter Tryd.func7, Tryd.ntmps7
  go_wp2
  have q := Box.new (w.alloc (.cells #[.int .i64 n, .slice none 0 0] 24)) 24 #[.int .i64 n, .slice none 0 0]
  simp only [World.size_alloc] at q
  exact close_one Tryd.results7 rfl rfl q Tryd.underlying24 rfl (by kernel_rfl) ⟨_, _, _, rfl, Words.nil _ _, ((Below.refl _ _).alloc (Nat.le_refl _) _).alloc (by simp) _⟩
theorem few_some (n : Int) (ad : Addr) (l c : Nat) (hlc : l ≤ c) (hc : c ≤ maxLen) (us : List Nat) (w : World) (hu : Words w (some ad) l us) : Calls Tryd.prog 7 #[.agg #[.int .i64 n, .slice (some ad) l c]] w (OneRow n (us.take 10) w) := by
  unfold maxLen at hc
  by_cases h : l ≤ 10
  · have h1 : (l : Int) ≤ 10 := by omega
    go_enter Tryd.func7, Tryd.ntmps7
    go_wp2
    have q := Box.new (w.alloc (.cells #[.int .i64 n, .slice (some ad) l c] 24)) 24 #[.int .i64 n, .slice (some ad) l c]
    simp only [World.size_alloc] at q
    refine close_one Tryd.results7 rfl rfl q Tryd.underlying24 rfl (by kernel_rfl) ⟨_, _, _, rfl, ?_, ((Below.refl _ _).alloc (Nat.le_refl _) _).alloc (by simp) _⟩
    exact (((List.take_of_length_le (by rw [hu.1]; exact h) : us.take 10 = us) ▸ hu).alloc _).alloc _
  · have h1 : (10 : Int) < l := by omega
    go_enter Tryd.func7, Tryd.ntmps7
    go_wp2
    have q := Box.new (w.alloc (.cells #[.int .i64 n, .slice (some ad) 10 c] 24)) 24 #[.int .i64 n, .slice (some ad) 10 c]
    simp only [World.size_alloc] at q
    refine close_one Tryd.results7 rfl rfl q Tryd.underlying24 rfl (by kernel_rfl) ⟨_, _, _, rfl, ?_, ((Below.refl _ _).alloc (Nat.le_refl _) _).alloc (by simp) _⟩
    exact ((hu.take 10 (by omega)).alloc _).alloc _
/-- A slice value as Go has it: nil is empty, without capacity. -/
def SliceOk (A : Option Addr) (l c : Nat) : Prop := l ≤ c ∧ c ≤ maxLen ∧ (A = none → l = 0 ∧ c = 0)
theorem few_any (n : Int) (A : Option Addr) (l c : Nat) (hs : SliceOk A l c) (us : List Nat) (w : World) (hu : Words w A l us) : Calls Tryd.prog 7 #[.agg #[.int .i64 n, .slice A l c]] w (OneRow n (us.take 10) w) := by
  cases A with
  | none =>
    obtain ⟨rfl, rfl⟩ := hs.2.2 rfl
    have e : us = [] := List.eq_nil_of_length_eq_zero hu.1
    rw [e]
    exact few_nil n w
  | some ad => exact few_some n ad l c hs.1 hs.2.1 us w hu
end Go.Proofs.YtfeaollpeaphlaaDoor
