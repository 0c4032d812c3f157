/- Contracts of layer 12: Like, the reference's Same. -/
import Derived.Test.YtcikoaeiopbbbaaEq4
namespace Go.Proofs.Ytcikoaeiopbbbaa
set_option linter.unusedVariables false
set_option linter.unusedSimpArgs false
open Go.RowKit
set_option maxRecDepth 100000
def likeB (k s c : Int) (xs : List SymR) (k2 s2 c2 : Int) (ys : List SymR) : Bool := k == k2 && s == s2 && c == c2 && decide (xs = ys)
theorem likeB_self (k s c : Int) (xs : List SymR) : likeB k s c xs k s c xs = true := by simp [likeB]
set_option maxHeartbeats 1000000 in
theorem elike_any (k s c : Int) (A : Option Addr) (l d : Nat) (xs : List SymR) (k2 s2 c2 : Int) (A2 : Option Addr) (l2 d2 : Nat) (ys : List SymR) (w : World) (hx : Syms w A l xs) (hy : Syms w A2 l2 ys) (hl : l ≤ maxLen) (hl2 : l2 ≤ maxLen) :
    Calls Try.prog 19 #[.agg #[.int .i64 k, .int .i64 s, .int .i64 c, .slice A l d], .agg #[.int .i64 k2, .int .i64 s2, .int .i64 c2, .slice A2 l2 d2]] w fun e w' => e = .returned (.bool (likeB k s c xs k2 s2 c2 ys)) ∧ Below w.heap.size w w' := by
  have b1 : Below w.heap.size w ((w.alloc (.cells #[.int .i64 k, .int .i64 s, .int .i64 c, .slice A l d] 25)).alloc (.cells #[.int .i64 k2, .int .i64 s2, .int .i64 c2, .slice A2 l2 d2] 25)) := ((Below.refl _ _).alloc (Nat.le_refl _) _).alloc (by simp) _
  have Q0 := (Box.new w 25 #[.int .i64 k, .int .i64 s, .int .i64 c, .slice A l d]).alloc (.cells #[.int .i64 k2, .int .i64 s2, .int .i64 c2, .slice A2 l2 d2] 25)
  have q1 := Box.new (w.alloc (.cells #[.int .i64 k, .int .i64 s, .int .i64 c, .slice A l d] 25)) 25 #[.int .i64 k2, .int .i64 s2, .int .i64 c2, .slice A2 l2 d2]
  simp only [World.size_alloc] at q1
  obtain ⟨r0, r1, r2, r3, -, -, -, -⟩ := Q0.four
  obtain ⟨z0, z1, z2, z3, -, -, -, -⟩ := q1.four
  have HE := Lib.hid (slEq_any A A2 l l2 d d2 xs ys _ (hx.below b1) (hy.below b1) hl hl2)
  have HB := Lib.hid b1
  unfold likeB
  clear hx hy Q0 q1 b1
  cases h1 : (k == k2) with
  | false =>
    go_enter Try.func19, Try.ntmps19
    go_wp2_with fail
    go_ret
    exact ⟨rfl, HB.out⟩
  | true =>
    cases h2 : (s == s2) with
    | false =>
      go_enter Try.func19, Try.ntmps19
      go_wp2_with fail
      go_ret
      exact ⟨rfl, HB.out⟩
    | true =>
      cases h3 : (c == c2) with
      | false =>
        go_enter Try.func19, Try.ntmps19
        go_wp2_with fail
        go_ret
        exact ⟨rfl, HB.out⟩
      | true =>
        go_enter Try.func19, Try.ntmps19
        go_wp2_with fail
        refine HE.out.mono ?_
        rintro e w1 ⟨rfl, hb⟩
        go_wp2_with fail
        go_ret
        exact ⟨rfl, chain HB.out hb⟩
set_option maxHeartbeats 1000000 in
theorem refSame12_any (k s c : Int) (A : Option Addr) (l d : Nat) (xs : List SymR) (k2 s2 c2 : Int) (A2 : Option Addr) (l2 d2 : Nat) (ys : List SymR) (w : World) (hx : Syms w A l xs) (hy : Syms w A2 l2 ys) (hl : l ≤ maxLen) (hl2 : l2 ≤ maxLen) :
    Calls Try.prog 15 #[.agg #[.int .i64 k, .int .i64 s, .int .i64 c, .slice A l d], .agg #[.int .i64 k2, .int .i64 s2, .int .i64 c2, .slice A2 l2 d2]] w fun e w' => e = .returned (.bool (likeB k s c xs k2 s2 c2 ys)) ∧ Below w.heap.size w w' := by
  have b1 : Below w.heap.size w ((w.alloc (.cells #[.int .i64 k, .int .i64 s, .int .i64 c, .slice A l d] 25)).alloc (.cells #[.int .i64 k2, .int .i64 s2, .int .i64 c2, .slice A2 l2 d2] 25)) := ((Below.refl _ _).alloc (Nat.le_refl _) _).alloc (by simp) _
  have Q0 := (Box.new w 25 #[.int .i64 k, .int .i64 s, .int .i64 c, .slice A l d]).alloc (.cells #[.int .i64 k2, .int .i64 s2, .int .i64 c2, .slice A2 l2 d2] 25)
  have q1 := Box.new (w.alloc (.cells #[.int .i64 k, .int .i64 s, .int .i64 c, .slice A l d] 25)) 25 #[.int .i64 k2, .int .i64 s2, .int .i64 c2, .slice A2 l2 d2]
  simp only [World.size_alloc] at q1
  obtain ⟨r0, r1, r2, r3, -, -, -, -⟩ := Q0.four
  obtain ⟨z0, z1, z2, z3, -, -, -, -⟩ := q1.four
  have HE := Lib.hid (refSameL_any A A2 l l2 d d2 xs ys _ (hx.below b1) (hy.below b1) hl hl2)
  have HB := Lib.hid b1
  unfold likeB
  clear hx hy Q0 q1 b1
  cases h1 : (k == k2) with
  | false =>
    go_enter Try.func15, Try.ntmps15
    go_wp2_with fail
    go_ret
    exact ⟨rfl, HB.out⟩
  | true =>
    cases h2 : (s == s2) with
    | false =>
      go_enter Try.func15, Try.ntmps15
      go_wp2_with fail
      go_ret
      exact ⟨rfl, HB.out⟩
    | true =>
      cases h3 : (c == c2) with
      | false =>
        go_enter Try.func15, Try.ntmps15
        go_wp2_with fail
        go_ret
        exact ⟨rfl, HB.out⟩
      | true =>
        go_enter Try.func15, Try.ntmps15
        go_wp2_with fail
        refine HE.out.mono ?_
        rintro e w1 ⟨rfl, hb⟩
        go_wp2_with fail
        go_ret
        exact ⟨rfl, chain HB.out hb⟩
end Go.Proofs.Ytcikoaeiopbbbaa
