/- Contracts of layer 12: New, Add. -/
import Derived.Test.YtmfhimeffmpgaaaEq2
namespace Go.Proofs.Ytmfhimeffmpgaaa
set_option linter.unusedVariables false
set_option linter.unusedSimpArgs false
open Go.RowKit
set_option maxRecDepth 100000
theorem Box.put4 {w : World} {g : Nat} {t : TypeId} {a b c d a' b' c' d' : Value} (h : Box w g t #[a, b, c, d]) :
    Box ((((w.setCell ⟨g, 0, none⟩ a').setCell ⟨g, 1, none⟩ b').setCell ⟨g, 2, none⟩ c').setCell ⟨g, 3, none⟩ d') g t #[a', b', c', d'] := (((h.put 0 a').put 1 b').put 2 c').put 3 d'
theorem below_set4 {B : Nat} {w x : World} (h : Below B w x) {g : Nat} (hg : B ≤ g) (a b c d : Value) : Below B w ((((x.setCell ⟨g, 0, none⟩ a).setCell ⟨g, 1, none⟩ b).setCell ⟨g, 2, none⟩ c).setCell ⟨g, 3, none⟩ d) :=
  (((h.setCell (p := ⟨g, 0, none⟩) hg a).setCell (p := ⟨g, 1, none⟩) hg b).setCell (p := ⟨g, 2, none⟩) hg c).setCell (p := ⟨g, 3, none⟩) hg d
theorem Recs.far4 {α : Type} [Inhabited α] {enc : α → List Value} {sz : Nat} {w : World} {A : Option Addr} {len : Nat} {xs : List α} (h : Recs enc sz w A len xs) {g : Nat} (hne : ∀ b off, A = some ⟨b, off, none⟩ → 0 < len → b ≠ g) (a b c d : Value) :
    Recs enc sz ((((w.setCell ⟨g, 0, none⟩ a).setCell ⟨g, 1, none⟩ b).setCell ⟨g, 2, none⟩ c).setCell ⟨g, 3, none⟩ d) A len xs := (((h.farB hne 0 a).farB hne 1 b).farB hne 2 c).farB hne 3 d
/-- A store and an error are returned. -/
def StoreOut (k s c : Int) (xs : List SymR) (er : Int) (w : World) (e : Ending) (w' : World) : Prop :=
  ∃ A d, e = .returned (.tuple #[.agg #[.int .i64 k, .int .i64 s, .int .i64 c, .slice A xs.length d], .int .i64 er]) ∧ Syms w' A xs.length xs ∧ xs.length ≤ d ∧ d ≤ maxLen ∧ (A = none → d = 0) ∧ Below w.heap.size w w'
def newK (b : Bool) (x : Int) : Int := if b then x else 0
def newE (b : Bool) : Int := if b then 0 else 2
set_option maxHeartbeats 1000000 in
theorem enew_any (k s c : Int) (w : World) :
    Calls Try.prog 7 #[.int .i64 k, .int .i64 s, .int .i64 c] w (StoreOut (newK (storeB k s c []) k) (newK (storeB k s c []) s) (newK (storeB k s c []) c) [] (newE (storeB k s c [])) w) := by
  have b1 : Below w.heap.size w ((w.alloc (.cells #[.int .i64 0, .int .i64 0, .int .i64 0, .slice none 0 0] 24)).alloc (.cells #[.int .i64 k, .int .i64 s, .int .i64 c, .slice none 0 0] 24)) := ((Below.refl _ _).alloc (Nat.le_refl _) _).alloc (by simp) _
  have Q0 := Lib.hid ((Box.new w 24 #[.int .i64 0, .int .i64 0, .int .i64 0, .slice none 0 0]).alloc (.cells #[.int .i64 k, .int .i64 s, .int .i64 c, .slice none 0 0] 24))
  have q1 := Box.new (w.alloc (.cells #[.int .i64 0, .int .i64 0, .int .i64 0, .slice none 0 0] 24)) 24 #[.int .i64 k, .int .i64 s, .int .i64 c, .slice none 0 0]
  simp only [World.size_alloc] at q1
  have Q1 := Lib.hid q1
  have HB := Lib.hid b1
  have HR := Lib.hid (fun w' => eright_any k s c none 0 0 [] w' (Recs.nil _ _) (Nat.le_refl _) (by unfold maxLen; omega))
  clear q1 b1
  obtain ⟨r0, r1, r2, r3, -, -, -, -⟩ := Q1.out.four
  cases hb : storeB k s c [] with
  | true =>
    rw [hb] at HR
    clear hb
    go_enter Try.func7, Try.ntmps7
    go_wp2_with fail
    refine (HR.out _).mono ?_
    rintro e x1 ⟨rfl, hb⟩
    replace HB := Lib.hid (chain HB.out hb)
    replace Q0 := Lib.hid (Q0.out.keep hb)
    replace Q1 := Lib.hid (Q1.out.keep hb)
    clear hb r0 r1 r2 r3
    obtain ⟨r0, r1, r2, r3, -, -, -, -⟩ := Q1.out.four
    obtain ⟨s0, s1, s2, s3, f0, f1, f2, f3⟩ := Q0.out.four
    go_wp2_with fail
    refine close_cell Try.results7 rfl rfl rfl Q0.out.put4 Try.underlying24 rfl (by kernel_rfl) ⟨none, 0, rfl, Recs.nil _ _, Nat.le_refl _, Nat.zero_le _, fun _ => rfl, below_set4 HB.out (Nat.le_refl _) _ _ _ _⟩
  | false =>
    rw [hb] at HR
    clear hb
    go_enter Try.func7, Try.ntmps7
    go_wp2_with fail
    refine (HR.out _).mono ?_
    rintro e x1 ⟨rfl, hb⟩
    replace HB := Lib.hid (chain HB.out hb)
    replace Q0 := Lib.hid (Q0.out.keep hb)
    clear hb r0 r1 r2 r3
    obtain ⟨s0, s1, s2, s3, f0, f1, f2, f3⟩ := Q0.out.four
    go_wp2_with fail
    refine close_cell Try.results7 rfl rfl rfl Q0.out.put4 Try.underlying24 rfl (by kernel_rfl) ⟨none, 0, rfl, Recs.nil _ _, Nat.le_refl _, Nat.zero_le _, fun _ => rfl, below_set4 HB.out (Nat.le_refl _) _ _ _ _⟩
section
variable (k s c : Int) (A : Option Addr) (l d g gx : Nat) (w : World) (xs : List SymR) (x : SymR)
theorem add1_any (hb : Box w g 24 #[.int .i64 k, .int .i64 s, .int .i64 c, .slice A l d]) (hx : Syms w A l xs) (hl : l ≤ d) (hd : d ≤ maxLen) :
    Calls Try.prog 20 #[.pointer (some ⟨g, 0, none⟩)] w fun e w' => e = .returned (.int .i64 (whenI (!storeB k s c xs) 1)) ∧ Below w.heap.size w w' := by
  obtain ⟨h0, h1, h2, h3, -, -, -, -⟩ := hb.four
  have HA := Lib.hid (eright_any k s c A l d xs w hx hl hd)
  generalize storeB k s c xs = b at *
  clear hx
  go_enter Try.func20, Try.ntmps20
  go_wp2_with fail
  refine HA.out.mono ?_
  rintro e w1 ⟨rfl, hb1⟩
  go_wp2_with fail
  refine (when_any (!b) 1 _).mono ?_
  rintro e w1 ⟨rfl, rfl⟩
  go_wp2_with fail
  go_ret
  exact ⟨rfl, hb1⟩
theorem add2_any (hb : Box w g 24 #[.int .i64 k, .int .i64 s, .int .i64 c, .slice A l d]) (hbx : Box w gx 27 #[.int .u64 (x.1 : Int), .string x.2]) :
    Calls Try.prog 22 #[.pointer (some ⟨gx, 0, none⟩), .pointer (some ⟨g, 0, none⟩)] w fun e w' => e = .returned (.int .i64 (whenI ((x.2.size : Int) != s) 2)) ∧ Below w.heap.size w w' := by
  obtain ⟨h0, h1, h2, h3, -, -, -, -⟩ := hb.four
  obtain ⟨z0, z1, -, -⟩ := hbx.two
  have HW := Lib.hid (when_any ((x.2.size : Int) != s) 2 w)
  generalize ht : ((x.2.size : Int) != s) = t at *
  go_enter Try.func22, Try.ntmps22
  go_wp2_with fail
  refine HW.out.mono ?_
  rintro e w1 ⟨rfl, rfl⟩
  go_wp2_with fail
  go_ret
  exact ⟨rfl, Below.refl _ _⟩
theorem add3_any (hb : Box w g 24 #[.int .i64 k, .int .i64 s, .int .i64 c, .slice A l d]) (hbx : Box w gx 27 #[.int .u64 (x.1 : Int), .string x.2]) (hx : Syms w A l xs) (hl : l ≤ maxLen) :
    Calls Try.prog 23 #[.pointer (some ⟨g, 0, none⟩), .pointer (some ⟨gx, 0, none⟩)] w fun e w' => e = .returned (.int .i64 (whenI (hasI xs x.1) 8)) ∧ Below w.heap.size w w' := by
  obtain ⟨h0, h1, h2, h3, -, -, -, -⟩ := hb.four
  obtain ⟨z0, z1, -, -⟩ := hbx.two
  have HA := Lib.hid (ehas_any x.1 A l d xs w hx hl)
  generalize hasI xs x.1 = t at *
  clear hx
  go_enter Try.func23, Try.ntmps23
  go_wp2_with fail
  refine HA.out.mono ?_
  rintro e w1 ⟨rfl, hb1⟩
  go_wp2_with fail
  refine (when_any t 8 _).mono ?_
  rintro e w1 ⟨rfl, rfl⟩
  go_wp2_with fail
  go_ret
  exact ⟨rfl, hb1⟩
theorem add4_any (hb : Box w g 24 #[.int .i64 k, .int .i64 s, .int .i64 c, .slice A l d]) :
    Calls Try.prog 25 #[.pointer (some ⟨g, 0, none⟩)] w fun e w' => e = .returned (.int .i64 (whenI ((l : Int) == c) 7)) ∧ Below w.heap.size w w' := by
  obtain ⟨h0, h1, h2, h3, -, -, -, -⟩ := hb.four
  have HW := Lib.hid (when_any ((l : Int) == c) 7 w)
  generalize ht : ((l : Int) == c) = t at *
  go_enter Try.func25, Try.ntmps25
  go_wp2_with fail
  refine HW.out.mono ?_
  rintro e w1 ⟨rfl, rfl⟩
  go_wp2_with fail
  go_ret
  exact ⟨rfl, Below.refl _ _⟩
end
end Go.Proofs.Ytmfhimeffmpgaaa
