/- Contracts of layer 12: New, Add. -/
import Derived.Test.YtcikoaeiopbbbaaEq2
namespace Go.Proofs.Ytcikoaeiopbbbaa
set_option linter.unusedVariables false
set_option linter.unusedSimpArgs false
open Go.RowKit
set_option maxRecDepth 100000
theorem Box.put4 {w : World} {g : Nat} {t : TypeId} {a b c d a' b' c' d' : Value} (h : Box w g t #[a, b, c, d]) :
    Box ((((w.setCell ⟨g, 0, none⟩ a').setCell ⟨g, 1, none⟩ b').setCell ⟨g, 2, none⟩ c').setCell ⟨g, 3, none⟩ d') g t #[a', b', c', d'] := (((h.put 0 a').put 1 b').put 2 c').put 3 d'
theorem below_set4 {B : Nat} {w x : World} (h : Below B w x) {g : Nat} (hg : B ≤ g) (a b c d : Value) : Below B w ((((x.setCell ⟨g, 0, none⟩ a).setCell ⟨g, 1, none⟩ b).setCell ⟨g, 2, none⟩ c).setCell ⟨g, 3, none⟩ d) :=
  (((h.setCell (p := ⟨g, 0, none⟩) hg a).setCell (p := ⟨g, 1, none⟩) hg b).setCell (p := ⟨g, 2, none⟩) hg c).setCell (p := ⟨g, 3, none⟩) hg d
theorem Recs.far4 {α : Type} [Inhabited α] {enc : α → List Value} {sz : Nat} {w : World} {A : Option Addr} {len : Nat} {xs : List α} (h : Recs enc sz w A len xs) {g : Nat} (hne : ∀ b off, A = some ⟨b, off, none⟩ → 0 < len → b ≠ g) (a b c d : Value) :
    Recs enc sz ((((w.setCell ⟨g, 0, none⟩ a).setCell ⟨g, 1, none⟩ b).setCell ⟨g, 2, none⟩ c).setCell ⟨g, 3, none⟩ d) A len xs := (((h.farB hne 0 a).farB hne 1 b).farB hne 2 c).farB hne 3 d
/-- A store and an error are returned. -/
def StoreOut (k s c : Int) (xs : List SymR) (er : Int) (w : World) (e : Ending) (w' : World) : Prop :=
  ∃ A d, e = .returned (.tuple #[.agg #[.int .i64 k, .int .i64 s, .int .i64 c, .slice A xs.length d], .int .i64 er]) ∧ Syms w' A xs.length xs ∧ xs.length ≤ d ∧ d ≤ maxLen ∧ (A = none → d = 0) ∧ Below w.heap.size w w'
def newK (b : Bool) (x : Int) : Int := if b then x else 0
def newE (b : Bool) : Int := if b then 0 else 2
set_option maxHeartbeats 1000000 in
theorem enew_any (k s c : Int) (w : World) :
    Calls Try.prog 13 #[.int .i64 k, .int .i64 s, .int .i64 c] w (StoreOut (newK (storeB k s c []) k) (newK (storeB k s c []) s) (newK (storeB k s c []) c) [] (newE (storeB k s c [])) w) := by
  have b1 : Below w.heap.size w ((w.alloc (.cells #[.int .i64 0, .int .i64 0, .int .i64 0, .slice none 0 0] 25)).alloc (.cells #[.int .i64 k, .int .i64 s, .int .i64 c, .slice none 0 0] 25)) := ((Below.refl _ _).alloc (Nat.le_refl _) _).alloc (by simp) _
  have Q0 := Lib.hid ((Box.new w 25 #[.int .i64 0, .int .i64 0, .int .i64 0, .slice none 0 0]).alloc (.cells #[.int .i64 k, .int .i64 s, .int .i64 c, .slice none 0 0] 25))
  have q1 := Box.new (w.alloc (.cells #[.int .i64 0, .int .i64 0, .int .i64 0, .slice none 0 0] 25)) 25 #[.int .i64 k, .int .i64 s, .int .i64 c, .slice none 0 0]
  simp only [World.size_alloc] at q1
  have Q1 := Lib.hid q1
  have HB := Lib.hid b1
  have HR := Lib.hid (fun w' => eright_any k s c none 0 0 [] w' (Recs.nil _ _) (Nat.le_refl _) (by unfold maxLen; omega))
  clear q1 b1
  obtain ⟨r0, r1, r2, r3, -, -, -, -⟩ := Q1.out.four
  cases hb : storeB k s c [] with
  | true =>
    rw [hb] at HR
    clear hb
    go_enter Try.func13, Try.ntmps13
    go_wp2_with fail
    refine (HR.out _).mono ?_
    rintro e x1 ⟨rfl, hb⟩
    replace HB := Lib.hid (chain HB.out hb)
    replace Q0 := Lib.hid (Q0.out.keep hb)
    replace Q1 := Lib.hid (Q1.out.keep hb)
    clear hb r0 r1 r2 r3
    obtain ⟨r0, r1, r2, r3, -, -, -, -⟩ := Q1.out.four
    obtain ⟨s0, s1, s2, s3, f0, f1, f2, f3⟩ := Q0.out.four
    go_wp2_with fail
    refine close_cell Try.results13 rfl rfl rfl Q0.out.put4 Try.underlying25 rfl (by kernel_rfl) ⟨none, 0, rfl, Recs.nil _ _, Nat.le_refl _, Nat.zero_le _, fun _ => rfl, below_set4 HB.out (Nat.le_refl _) _ _ _ _⟩
  | false =>
    rw [hb] at HR
    clear hb
    go_enter Try.func13, Try.ntmps13
    go_wp2_with fail
    refine (HR.out _).mono ?_
    rintro e x1 ⟨rfl, hb⟩
    replace HB := Lib.hid (chain HB.out hb)
    replace Q0 := Lib.hid (Q0.out.keep hb)
    clear hb r0 r1 r2 r3
    obtain ⟨s0, s1, s2, s3, f0, f1, f2, f3⟩ := Q0.out.four
    go_wp2_with fail
    refine close_cell Try.results13 rfl rfl rfl Q0.out.put4 Try.underlying25 rfl (by kernel_rfl) ⟨none, 0, rfl, Recs.nil _ _, Nat.le_refl _, Nat.zero_le _, fun _ => rfl, below_set4 HB.out (Nat.le_refl _) _ _ _ _⟩
section
variable (k s c : Int) (A : Option Addr) (l d g gx : Nat) (w : World) (xs : List SymR) (x : SymR)
end
end Go.Proofs.Ytcikoaeiopbbbaa
