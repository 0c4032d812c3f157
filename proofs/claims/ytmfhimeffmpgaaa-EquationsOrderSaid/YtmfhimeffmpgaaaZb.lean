/- Parts: Eq2, Eq3, Eq6, Eq7, Eq8. -/
import Derived.Test.YtmfhimeffmpgaaaZa
import Derived.ArgAppend
import Derived.Deep.AppendLies
import Derived.Deep.RegionLaw
namespace Go.Proofs.Ytmfhimeffmpgaaa
section
/- Contracts of layer 12: Right. -/
set_option linter.unusedVariables false
set_option linter.unusedSimpArgs false
open Go.RowKit
set_option maxRecDepth 100000
def kB (x a b : Int) : Bool := decide (a ≤ x) && decide (x ≤ b)
def storeB (k s c : Int) (xs : List SymR) : Bool := kB k 1 64 && kB s 0 64 && kB c 1 64 && decide ((xs.length : Int) ≤ c) && allB s xs && !twiceB xs
/-- A store's box: four cells. -/
def storeC (k s c : Int) (A : Option Addr) (l d : Nat) : Array Value := #[.int .i64 k, .int .i64 s, .int .i64 c, .slice A l d]
theorem Box.four {w : World} {g : Nat} {t : TypeId} {a b c d : Value} (h : Box w g t #[a, b, c, d]) : w.cell? ⟨g, 0, none⟩ = some a ∧ w.cell? ⟨g, 1, none⟩ = some b ∧ w.cell? ⟨g, 2, none⟩ = some c ∧ w.cell? ⟨g, 3, none⟩ = some d ∧ w.frozen? ⟨g, 0, none⟩ = false ∧ w.frozen? ⟨g, 1, none⟩ = false ∧ w.frozen? ⟨g, 2, none⟩ = false ∧ w.frozen? ⟨g, 3, none⟩ = false :=
  ⟨h.cell 0, h.cell 1, h.cell 2, h.cell 3, h.free 0, h.free 1, h.free 2, h.free 3⟩
section
variable (k s c : Int) (A : Option Addr) (l d g : Nat) (w : World) (xs : List SymR)
theorem right1_any (hb : Box w g 24 #[.int .i64 k, .int .i64 s, .int .i64 c, .slice A l d]) :
    Calls Try.prog 26 #[.pointer (some ⟨g, 0, none⟩)] w fun e w' => e = .returned (.int .i64 (whenI (!kB k 1 64) 1)) ∧ Below w.heap.size w w' := by
  obtain ⟨h0, h1, h2, h3, -, -, -, -⟩ := hb.four
  have HW := Lib.hid (within_any k 1 64 w)
  have hk : (decide (1 ≤ k) && decide (k ≤ 64)) = kB k 1 64 := rfl
  rw [hk] at HW
  clear hk
  generalize kB k 1 64 = b at *
  go_enter Try.func26, Try.ntmps26
  go_wp2_with fail
  refine HW.out.mono ?_
  rintro e w1 ⟨rfl, rfl⟩
  go_wp2_with fail
  refine (when_any (!b) 1 _).mono ?_
  rintro e w1 ⟨rfl, rfl⟩
  go_wp2_with fail
  go_ret
  exact ⟨rfl, Below.refl _ _⟩
theorem right2_any (hb : Box w g 24 #[.int .i64 k, .int .i64 s, .int .i64 c, .slice A l d]) :
    Calls Try.prog 28 #[.pointer (some ⟨g, 0, none⟩)] w fun e w' => e = .returned (.int .i64 (whenI (!kB s 0 64) 1)) ∧ Below w.heap.size w w' := by
  obtain ⟨h0, h1, h2, h3, -, -, -, -⟩ := hb.four
  have HW := Lib.hid (within_any s 0 64 w)
  have hk : (decide (0 ≤ s) && decide (s ≤ 64)) = kB s 0 64 := rfl
  rw [hk] at HW
  clear hk
  generalize kB s 0 64 = b at *
  go_enter Try.func28, Try.ntmps28
  go_wp2_with fail
  refine HW.out.mono ?_
  rintro e w1 ⟨rfl, rfl⟩
  go_wp2_with fail
  refine (when_any (!b) 1 _).mono ?_
  rintro e w1 ⟨rfl, rfl⟩
  go_wp2_with fail
  go_ret
  exact ⟨rfl, Below.refl _ _⟩
theorem right3_any (hb : Box w g 24 #[.int .i64 k, .int .i64 s, .int .i64 c, .slice A l d]) :
    Calls Try.prog 29 #[.pointer (some ⟨g, 0, none⟩)] w fun e w' => e = .returned (.int .i64 (whenI (!kB c 1 64) 1)) ∧ Below w.heap.size w w' := by
  obtain ⟨h0, h1, h2, h3, -, -, -, -⟩ := hb.four
  have HW := Lib.hid (within_any c 1 64 w)
  have hk : (decide (1 ≤ c) && decide (c ≤ 64)) = kB c 1 64 := rfl
  rw [hk] at HW
  clear hk
  generalize kB c 1 64 = b at *
  go_enter Try.func29, Try.ntmps29
  go_wp2_with fail
  refine HW.out.mono ?_
  rintro e w1 ⟨rfl, rfl⟩
  go_wp2_with fail
  refine (when_any (!b) 1 _).mono ?_
  rintro e w1 ⟨rfl, rfl⟩
  go_wp2_with fail
  go_ret
  exact ⟨rfl, Below.refl _ _⟩
theorem right4_any (hb : Box w g 24 #[.int .i64 k, .int .i64 s, .int .i64 c, .slice A l d]) :
    Calls Try.prog 30 #[.pointer (some ⟨g, 0, none⟩)] w fun e w' => e = .returned (.int .i64 (whenI (decide (c < (l : Int))) 1)) ∧ Below w.heap.size w w' := by
  obtain ⟨h0, h1, h2, h3, -, -, -, -⟩ := hb.four
  by_cases hlt : c < (l : Int)
  · have ht : decide (c < (l : Int)) = true := decide_eq_true hlt
    rw [ht]
    go_enter Try.func30, Try.ntmps30
    go_wp2_with fail
    refine (when_any true 1 _).mono ?_
    rintro e w1 ⟨rfl, rfl⟩
    go_wp2_with fail
    go_ret
    exact ⟨rfl, Below.refl _ _⟩
  · have ht : decide (c < (l : Int)) = false := decide_eq_false hlt
    rw [ht]
    go_enter Try.func30, Try.ntmps30
    go_wp2_with fail
    refine (when_any false 1 _).mono ?_
    rintro e w1 ⟨rfl, rfl⟩
    go_wp2_with fail
    go_ret
    exact ⟨rfl, Below.refl _ _⟩
theorem right5_any (hb : Box w g 24 #[.int .i64 k, .int .i64 s, .int .i64 c, .slice A l d]) (hx : Syms w A l xs) (hl : l ≤ maxLen) :
    Calls Try.prog 31 #[.pointer (some ⟨g, 0, none⟩)] w fun e w' => e = .returned (.int .i64 (whenI (!allB s xs) 1)) ∧ Below w.heap.size w w' := by
  obtain ⟨h0, h1, h2, h3, -, -, -, -⟩ := hb.four
  have HA := Lib.hid (eallHave_any s A l d xs w hx hl)
  generalize allB s xs = b at *
  clear hx
  go_enter Try.func31, Try.ntmps31
  go_wp2_with fail
  refine HA.out.mono ?_
  rintro e w1 ⟨rfl, hb1⟩
  go_wp2_with fail
  refine (when_any (!b) 1 _).mono ?_
  rintro e w1 ⟨rfl, rfl⟩
  go_wp2_with fail
  go_ret
  exact ⟨rfl, hb1⟩
theorem right6_any (hb : Box w g 24 #[.int .i64 k, .int .i64 s, .int .i64 c, .slice A l d]) (hx : Syms w A l xs) (hl : l ≤ d) (hd : d ≤ maxLen) :
    Calls Try.prog 33 #[.pointer (some ⟨g, 0, none⟩)] w fun e w' => e = .returned (.int .i64 (whenI (twiceB xs) 1)) ∧ Below w.heap.size w w' := by
  obtain ⟨h0, h1, h2, h3, -, -, -, -⟩ := hb.four
  have HA := Lib.hid (twice_any A l d xs w hx hl hd)
  generalize twiceB xs = b at *
  clear hx
  go_enter Try.func33, Try.ntmps33
  go_wp2_with fail
  refine HA.out.mono ?_
  rintro e w1 ⟨rfl, hb1⟩
  go_wp2_with fail
  refine (when_any b 1 _).mono ?_
  rintro e w1 ⟨rfl, rfl⟩
  go_wp2_with fail
  go_ret
  exact ⟨rfl, hb1⟩
end
def rightAns (k s c : Int) (xs : List SymR) : List Int := [whenI (!kB k 1 64) 1, whenI (!kB s 0 64) 1, whenI (!kB c 1 64) 1, whenI (decide (c < (xs.length : Int))) 1, whenI (!allB s xs) 1, whenI (twiceB xs) 1]
theorem rightAns_ok (k s c : Int) (xs : List SymR) : (firstI (rightAns k s c xs) == 0) = storeB k s c xs := by
  unfold rightAns storeB
  have e : decide ((xs.length : Int) ≤ c) = !decide (c < (xs.length : Int)) := by rw [Bool.eq_iff_iff]; simp
  rw [e]
  cases kB k 1 64 <;> cases kB s 0 64 <;> cases kB c 1 64 <;> cases decide (c < (xs.length : Int)) <;> cases allB s xs <;> cases twiceB xs <;> rfl
def rightFs (g : Nat) : Nat → Nat × Array Value := fun j => ([26, 28, 29, 30, 31, 33].getD j 0, #[.pointer (some ⟨g, 0, none⟩)])
set_option maxHeartbeats 1000000 in
theorem eright_any (k s c : Int) (A : Option Addr) (l d : Nat) (xs : List SymR) (w : World) (hx : Syms w A l xs) (hl : l ≤ d) (hd : d ≤ maxLen) :
    Calls Try.prog 9 #[.agg #[.int .i64 k, .int .i64 s, .int .i64 c, .slice A l d]] w fun e w' => e = .returned (.bool (storeB k s c xs)) ∧ Below w.heap.size w w' := by
  have b1 : Below w.heap.size w ((w.alloc (.cells #[.int .i64 k, .int .i64 s, .int .i64 c, .slice A l d] 24)).alloc (.cells #[.func (.func 26) #[] #[.pointer (some ⟨w.heap.size, 0, none⟩)], .func (.func 28) #[] #[.pointer (some ⟨w.heap.size, 0, none⟩)], .func (.func 29) #[] #[.pointer (some ⟨w.heap.size, 0, none⟩)], .func (.func 30) #[] #[.pointer (some ⟨w.heap.size, 0, none⟩)], .func (.func 31) #[] #[.pointer (some ⟨w.heap.size, 0, none⟩)], .func (.func 33) #[] #[.pointer (some ⟨w.heap.size, 0, none⟩)]] 46)) := ((Below.refl _ _).alloc (Nat.le_refl _) _).alloc (by simp) _
  have Q := (Box.new w 24 #[.int .i64 k, .int .i64 s, .int .i64 c, .slice A l d]).alloc (.cells #[.func (.func 26) #[] #[.pointer (some ⟨w.heap.size, 0, none⟩)], .func (.func 28) #[] #[.pointer (some ⟨w.heap.size, 0, none⟩)], .func (.func 29) #[] #[.pointer (some ⟨w.heap.size, 0, none⟩)], .func (.func 30) #[] #[.pointer (some ⟨w.heap.size, 0, none⟩)], .func (.func 31) #[] #[.pointer (some ⟨w.heap.size, 0, none⟩)], .func (.func 33) #[] #[.pointer (some ⟨w.heap.size, 0, none⟩)]] 46)
  have F := Box.new (w.alloc (.cells #[.int .i64 k, .int .i64 s, .int .i64 c, .slice A l d] 24)) 46 #[.func (.func 26) #[] #[.pointer (some ⟨w.heap.size, 0, none⟩)], .func (.func 28) #[] #[.pointer (some ⟨w.heap.size, 0, none⟩)], .func (.func 29) #[] #[.pointer (some ⟨w.heap.size, 0, none⟩)], .func (.func 30) #[] #[.pointer (some ⟨w.heap.size, 0, none⟩)], .func (.func 31) #[] #[.pointer (some ⟨w.heap.size, 0, none⟩)], .func (.func 33) #[] #[.pointer (some ⟨w.heap.size, 0, none⟩)]]
  simp only [World.size_alloc] at F
  have hX := hx.below b1
  have hxl := hx.1
  have hA : AskedOf Try.prog ((w.alloc (.cells #[.int .i64 k, .int .i64 s, .int .i64 c, .slice A l d] 24)).alloc (.cells #[.func (.func 26) #[] #[.pointer (some ⟨w.heap.size, 0, none⟩)], .func (.func 28) #[] #[.pointer (some ⟨w.heap.size, 0, none⟩)], .func (.func 29) #[] #[.pointer (some ⟨w.heap.size, 0, none⟩)], .func (.func 30) #[] #[.pointer (some ⟨w.heap.size, 0, none⟩)], .func (.func 31) #[] #[.pointer (some ⟨w.heap.size, 0, none⟩)], .func (.func 33) #[] #[.pointer (some ⟨w.heap.size, 0, none⟩)]] 46)) (w.heap.size + 1) 0 (rightFs w.heap.size) (rightAns k s c xs) := by
    refine ⟨F.lt, ?_, ?_, ?_⟩
    · intro j hj
      have hj : j < 6 := hj
      rw [Nat.zero_add, F.cell j]
      match j, hj with
      | 0, _ => rfl
      | 1, _ => rfl
      | 2, _ => rfl
      | 3, _ => rfl
      | 4, _ => rfl
      | 5, _ => rfl
    · intro j hj
      have hj : j < 6 := hj
      match j, hj with
      | 0, _ => exact enters_of Try.func26 (by kernel_rfl) rfl
      | 1, _ => exact enters_of Try.func28 (by kernel_rfl) rfl
      | 2, _ => exact enters_of Try.func29 (by kernel_rfl) rfl
      | 3, _ => exact enters_of Try.func30 (by kernel_rfl) rfl
      | 4, _ => exact enters_of Try.func31 (by kernel_rfl) rfl
      | 5, _ => exact enters_of Try.func33 (by kernel_rfl) rfl
    · intro j hj w' hb _
      have hj : j < 6 := hj
      have q := Q.keep hb
      have hX' := hX.below hb
      match j, hj with
      | 0, _ => exact right1_any k s c A l d w.heap.size w' q
      | 1, _ => exact right2_any k s c A l d w.heap.size w' q
      | 2, _ => exact right3_any k s c A l d w.heap.size w' q
      | 3, _ =>
        have h := right4_any k s c A l d w.heap.size w' q
        rw [← hxl] at h
        rw [← hxl] at q
        exact right4_any k s c A xs.length d w.heap.size w' q
      | 4, _ => exact right5_any k s c A l d w.heap.size w' xs q hX' (Nat.le_trans hl hd)
      | 5, _ => exact right6_any k s c A l d w.heap.size w' xs q hX' hl hd
  have HC := Lib.hid (efirst_any (w.heap.size + 1) 0 6 (rightFs w.heap.size) (rightAns k s c xs) _ (by show 6 ≤ 100; omega) hA)
  have HR := Lib.hid (rightAns_ok k s c xs)
  have HB := Lib.hid b1
  rw [show (rightAns k s c xs).length = 6 from rfl] at HC
  generalize firstI (rightAns k s c xs) = r at *
  clear hA hX hx b1 Q F
  go_enter Try.func9, Try.ntmps9
  go_wp2_with fail
  refine HC.out.mono ?_
  rintro e w1 ⟨rfl, hb⟩
  have HB := Lib.hid (chain HB.out hb)
  clear hb
  go_wp2_with fail
  go_ret
  exact ⟨by rw [← HR.out]; rfl, HB.out⟩
end
section
/- Contracts of layer 12: New, Add. -/
set_option linter.unusedVariables false
set_option linter.unusedSimpArgs false
open Go.RowKit
set_option maxRecDepth 100000
theorem Box.put4 {w : World} {g : Nat} {t : TypeId} {a b c d a' b' c' d' : Value} (h : Box w g t #[a, b, c, d]) :
    Box ((((w.setCell ⟨g, 0, none⟩ a').setCell ⟨g, 1, none⟩ b').setCell ⟨g, 2, none⟩ c').setCell ⟨g, 3, none⟩ d') g t #[a', b', c', d'] := (((h.put 0 a').put 1 b').put 2 c').put 3 d'
theorem below_set4 {B : Nat} {w x : World} (h : Below B w x) {g : Nat} (hg : B ≤ g) (a b c d : Value) : Below B w ((((x.setCell ⟨g, 0, none⟩ a).setCell ⟨g, 1, none⟩ b).setCell ⟨g, 2, none⟩ c).setCell ⟨g, 3, none⟩ d) :=
  (((h.setCell (p := ⟨g, 0, none⟩) hg a).setCell (p := ⟨g, 1, none⟩) hg b).setCell (p := ⟨g, 2, none⟩) hg c).setCell (p := ⟨g, 3, none⟩) hg d
theorem Recs.far4 {α : Type} [Inhabited α] {enc : α → List Value} {sz : Nat} {w : World} {A : Option Addr} {len : Nat} {xs : List α} (h : Recs enc sz w A len xs) {g : Nat} (hne : ∀ b off, A = some ⟨b, off, none⟩ → 0 < len → b ≠ g) (a b c d : Value) :
    Recs enc sz ((((w.setCell ⟨g, 0, none⟩ a).setCell ⟨g, 1, none⟩ b).setCell ⟨g, 2, none⟩ c).setCell ⟨g, 3, none⟩ d) A len xs := (((h.farB hne 0 a).farB hne 1 b).farB hne 2 c).farB hne 3 d
/-- A store and an error are returned. -/
def StoreOut (k s c : Int) (xs : List SymR) (er : Int) (w : World) (e : Ending) (w' : World) : Prop :=
  ∃ A d, e = .returned (.tuple #[.agg #[.int .i64 k, .int .i64 s, .int .i64 c, .slice A xs.length d], .int .i64 er]) ∧ Syms w' A xs.length xs ∧ xs.length ≤ d ∧ d ≤ maxLen ∧ (A = none → d = 0) ∧ Below w.heap.size w w'
def newK (b : Bool) (x : Int) : Int := if b then x else 0
def newE (b : Bool) : Int := if b then 0 else 2
set_option maxHeartbeats 1000000 in
theorem enew_any (k s c : Int) (w : World) :
    Calls Try.prog 7 #[.int .i64 k, .int .i64 s, .int .i64 c] w (StoreOut (newK (storeB k s c []) k) (newK (storeB k s c []) s) (newK (storeB k s c []) c) [] (newE (storeB k s c [])) w) := by
  have b1 : Below w.heap.size w ((w.alloc (.cells #[.int .i64 0, .int .i64 0, .int .i64 0, .slice none 0 0] 24)).alloc (.cells #[.int .i64 k, .int .i64 s, .int .i64 c, .slice none 0 0] 24)) := ((Below.refl _ _).alloc (Nat.le_refl _) _).alloc (by simp) _
  have Q0 := Lib.hid ((Box.new w 24 #[.int .i64 0, .int .i64 0, .int .i64 0, .slice none 0 0]).alloc (.cells #[.int .i64 k, .int .i64 s, .int .i64 c, .slice none 0 0] 24))
  have q1 := Box.new (w.alloc (.cells #[.int .i64 0, .int .i64 0, .int .i64 0, .slice none 0 0] 24)) 24 #[.int .i64 k, .int .i64 s, .int .i64 c, .slice none 0 0]
  simp only [World.size_alloc] at q1
  have Q1 := Lib.hid q1
  have HB := Lib.hid b1
  have HR := Lib.hid (fun w' => eright_any k s c none 0 0 [] w' (Recs.nil _ _) (Nat.le_refl _) (by unfold maxLen; omega))
  clear q1 b1
  obtain ⟨r0, r1, r2, r3, -, -, -, -⟩ := Q1.out.four
  cases hb : storeB k s c [] with
  | true =>
    rw [hb] at HR
    clear hb
    go_enter Try.func7, Try.ntmps7
    go_wp2_with fail
    refine (HR.out _).mono ?_
    rintro e x1 ⟨rfl, hb⟩
    replace HB := Lib.hid (chain HB.out hb)
    replace Q0 := Lib.hid (Q0.out.keep hb)
    replace Q1 := Lib.hid (Q1.out.keep hb)
    clear hb r0 r1 r2 r3
    obtain ⟨r0, r1, r2, r3, -, -, -, -⟩ := Q1.out.four
    obtain ⟨s0, s1, s2, s3, f0, f1, f2, f3⟩ := Q0.out.four
    go_wp2_with fail
    refine close_cell Try.results7 rfl rfl rfl Q0.out.put4 Try.underlying24 rfl (by kernel_rfl) ⟨none, 0, rfl, Recs.nil _ _, Nat.le_refl _, Nat.zero_le _, fun _ => rfl, below_set4 HB.out (Nat.le_refl _) _ _ _ _⟩
  | false =>
    rw [hb] at HR
    clear hb
    go_enter Try.func7, Try.ntmps7
    go_wp2_with fail
    refine (HR.out _).mono ?_
    rintro e x1 ⟨rfl, hb⟩
    replace HB := Lib.hid (chain HB.out hb)
    replace Q0 := Lib.hid (Q0.out.keep hb)
    clear hb r0 r1 r2 r3
    obtain ⟨s0, s1, s2, s3, f0, f1, f2, f3⟩ := Q0.out.four
    go_wp2_with fail
    refine close_cell Try.results7 rfl rfl rfl Q0.out.put4 Try.underlying24 rfl (by kernel_rfl) ⟨none, 0, rfl, Recs.nil _ _, Nat.le_refl _, Nat.zero_le _, fun _ => rfl, below_set4 HB.out (Nat.le_refl _) _ _ _ _⟩
section
variable (k s c : Int) (A : Option Addr) (l d g gx : Nat) (w : World) (xs : List SymR) (x : SymR)
theorem add1_any (hb : Box w g 24 #[.int .i64 k, .int .i64 s, .int .i64 c, .slice A l d]) (hx : Syms w A l xs) (hl : l ≤ d) (hd : d ≤ maxLen) :
    Calls Try.prog 20 #[.pointer (some ⟨g, 0, none⟩)] w fun e w' => e = .returned (.int .i64 (whenI (!storeB k s c xs) 1)) ∧ Below w.heap.size w w' := by
  obtain ⟨h0, h1, h2, h3, -, -, -, -⟩ := hb.four
  have HA := Lib.hid (eright_any k s c A l d xs w hx hl hd)
  generalize storeB k s c xs = b at *
  clear hx
  go_enter Try.func20, Try.ntmps20
  go_wp2_with fail
  refine HA.out.mono ?_
  rintro e w1 ⟨rfl, hb1⟩
  go_wp2_with fail
  refine (when_any (!b) 1 _).mono ?_
  rintro e w1 ⟨rfl, rfl⟩
  go_wp2_with fail
  go_ret
  exact ⟨rfl, hb1⟩
theorem add2_any (hb : Box w g 24 #[.int .i64 k, .int .i64 s, .int .i64 c, .slice A l d]) (hbx : Box w gx 27 #[.int .u64 (x.1 : Int), .string x.2]) :
    Calls Try.prog 22 #[.pointer (some ⟨gx, 0, none⟩), .pointer (some ⟨g, 0, none⟩)] w fun e w' => e = .returned (.int .i64 (whenI ((x.2.size : Int) != s) 2)) ∧ Below w.heap.size w w' := by
  obtain ⟨h0, h1, h2, h3, -, -, -, -⟩ := hb.four
  obtain ⟨z0, z1, -, -⟩ := hbx.two
  have HW := Lib.hid (when_any ((x.2.size : Int) != s) 2 w)
  generalize ht : ((x.2.size : Int) != s) = t at *
  go_enter Try.func22, Try.ntmps22
  go_wp2_with fail
  refine HW.out.mono ?_
  rintro e w1 ⟨rfl, rfl⟩
  go_wp2_with fail
  go_ret
  exact ⟨rfl, Below.refl _ _⟩
theorem add3_any (hb : Box w g 24 #[.int .i64 k, .int .i64 s, .int .i64 c, .slice A l d]) (hbx : Box w gx 27 #[.int .u64 (x.1 : Int), .string x.2]) (hx : Syms w A l xs) (hl : l ≤ maxLen) :
    Calls Try.prog 23 #[.pointer (some ⟨g, 0, none⟩), .pointer (some ⟨gx, 0, none⟩)] w fun e w' => e = .returned (.int .i64 (whenI (hasI xs x.1) 8)) ∧ Below w.heap.size w w' := by
  obtain ⟨h0, h1, h2, h3, -, -, -, -⟩ := hb.four
  obtain ⟨z0, z1, -, -⟩ := hbx.two
  have HA := Lib.hid (ehas_any x.1 A l d xs w hx hl)
  generalize hasI xs x.1 = t at *
  clear hx
  go_enter Try.func23, Try.ntmps23
  go_wp2_with fail
  refine HA.out.mono ?_
  rintro e w1 ⟨rfl, hb1⟩
  go_wp2_with fail
  refine (when_any t 8 _).mono ?_
  rintro e w1 ⟨rfl, rfl⟩
  go_wp2_with fail
  go_ret
  exact ⟨rfl, hb1⟩
theorem add4_any (hb : Box w g 24 #[.int .i64 k, .int .i64 s, .int .i64 c, .slice A l d]) :
    Calls Try.prog 25 #[.pointer (some ⟨g, 0, none⟩)] w fun e w' => e = .returned (.int .i64 (whenI ((l : Int) == c) 7)) ∧ Below w.heap.size w w' := by
  obtain ⟨h0, h1, h2, h3, -, -, -, -⟩ := hb.four
  have HW := Lib.hid (when_any ((l : Int) == c) 7 w)
  generalize ht : ((l : Int) == c) = t at *
  go_enter Try.func25, Try.ntmps25
  go_wp2_with fail
  refine HW.out.mono ?_
  rintro e w1 ⟨rfl, rfl⟩
  go_wp2_with fail
  go_ret
  exact ⟨rfl, Below.refl _ _⟩
end
end
section
/- Contracts of layer 12's reference: Has, Sizes, Right, Why. -/
set_option linter.unusedVariables false
set_option linter.unusedSimpArgs false
open Go.RowKit
set_option maxRecDepth 100000
theorem refHas_any (id : Nat) (A : Option Addr) (l c : Nat) (xs : List SymR) (w : World) (hx : Syms w A l xs) (hl : l ≤ maxLen) :
    Calls Try.prog 35 #[.slice A l c, .int .u64 (id : Int)] w fun e w' => e = .returned (.bool (hasI xs id)) ∧ Below w.heap.size w w' := by
  unfold maxLen at hl
  have HX := Lib.hid hx
  have HXl := Lib.hid hx.1
  clear hx
  go_enter Try.func35, Try.ntmps35
  go_wp2_with fail
  go_loopw [9] (fun t wr => ∃ i : Nat, i ≤ l ∧ t = .int .i64 (i : Int) ∧ Hid (hasI (xs.take i) id = false) ∧ Hid (Below w.heap.size w wr)) (fun t _ => l - (intOf t).toNat)
  case atStart => exact ⟨0, Nat.zero_le _, rfl, Lib.hid rfl, Lib.hid (Below.refl _ _)⟩
  case round =>
    obtain ⟨i, hi, rfl, HS, HB⟩ := hrel
    by_cases hlt : i < l
    · have hlt' : (i : Int) < (l : Int) := Int.ofNat_lt.2 hlt
      obtain ⟨b, off, rfl, hb, x0, x1⟩ := Syms.two HX.out i hlt
      have x0 := (HB.out.cell (p := ⟨b, off + i * 2, none⟩) hb).trans x0
      have x1 := (HB.out.cell (p := ⟨b, off + i * 2 + 1, none⟩) hb).trans x1
      have HN := Lib.hid (hasI_snoc xs id i (by rw [HXl.out]; exact hlt))
      have HU := Lib.hid (hasI_up xs id (i + 1))
      have G := Lib.hid (Box.new wr 27 #[.int .u64 ((xs.getD i default).1 : Nat), .string (xs.getD i default).2])
      have HB := Lib.hid (HB.out.alloc HB.out.size (.cells #[.int .u64 ((xs.getD i default).1 : Nat), .string (xs.getD i default).2] 27))
      generalize xs.getD i default = p at *
      obtain ⟨p0, p1⟩ := p
      dsimp only at x0 x1 G HB HN
      obtain ⟨g0, g1, -, -⟩ := G.out.two
      have ei : (((p0 : Nat) : Int) == (id : Int)) = (p0 == id) := by rw [Bool.eq_iff_iff]; simp; omega
      cases hs : (p0 == id) with
      | true =>
        rw [hs] at HN ei
        have HE := Lib.hid (show hasI xs id = true from HU.out (by rw [HN.out]; simp))
        clear hs
        go_wp2_with fail
        go_ret
        exact ⟨by rw [HE.out]; rfl, HB.out⟩
      | false =>
        rw [hs] at HN ei
        have HN2 := Lib.hid (show hasI (xs.take (i + 1)) id = false by rw [HN.out, HS.out]; rfl)
        clear hs
        go_wp2_with fail
        go_roundw
        case rel => exact ⟨i + 1, hlt, by go_num, HN2, HB⟩
        case measure => simp [intOf] <;> omega
    · obtain rfl : i = l := Nat.le_antisymm hi (Nat.le_of_not_lt hlt)
      have hlt' : ¬ (i : Int) < (i : Int) := Int.lt_irrefl _
      have HE := Lib.hid (show hasI xs id = false by have := HS.out; rwa [List.take_of_length_le (by rw [HXl.out]; exact Nat.le_refl _)] at this)
      go_wp2_with fail
      go_ret
      exact ⟨by rw [HE.out]; rfl, HB.out⟩
def sizesB (k s c : Int) : Bool := kB k 1 64 && kB s 0 64 && kB c 1 64
theorem storeB_eq (k s c : Int) (xs : List SymR) : storeB k s c xs = (sizesB k s c && decide ((xs.length : Int) ≤ c) && (allB s xs && !twiceB xs)) := by
  unfold storeB sizesB
  cases kB k 1 64 <;> cases kB s 0 64 <;> cases kB c 1 64 <;> cases decide ((xs.length : Int) ≤ c) <;> cases allB s xs <;> cases twiceB xs <;> rfl
theorem refSizes_any (k s c : Int) (w : World) : Calls Try.prog 14 #[.int .i64 k, .int .i64 s, .int .i64 c] w fun e w' => e = .returned (.bool (sizesB k s c)) ∧ w = w' := by
  by_cases h0 : 1 ≤ k
  · by_cases h1 : k ≤ 64
    · by_cases h2 : 0 ≤ s
      · by_cases h3 : s ≤ 64
        · by_cases h4 : 1 ≤ c
          · by_cases h5 : c ≤ 64
            · go_enter Try.func14, Try.ntmps14
              go_wp2_with fail
              go_ret
              exact ⟨by simp [sizesB, kB, h0, h1, h2, h3, h4, h5], rfl⟩
            · have t : decide (c ≤ 64) = false := by simpa using h5
              go_enter Try.func14, Try.ntmps14
              go_wp2_with fail
              go_ret
              exact ⟨by unfold sizesB kB; rw [t]; simp, rfl⟩
          · have t : decide (1 ≤ c) = false := by simpa using h4
            go_enter Try.func14, Try.ntmps14
            go_wp2_with fail
            go_ret
            exact ⟨by unfold sizesB kB; rw [t]; simp, rfl⟩
        · have t : decide (s ≤ 64) = false := by simpa using h3
          go_enter Try.func14, Try.ntmps14
          go_wp2_with fail
          go_ret
          exact ⟨by unfold sizesB kB; rw [t]; simp, rfl⟩
      · have t : decide (0 ≤ s) = false := by simpa using h2
        go_enter Try.func14, Try.ntmps14
        go_wp2_with fail
        go_ret
        exact ⟨by unfold sizesB kB; rw [t]; simp, rfl⟩
    · have t : decide (k ≤ 64) = false := by simpa using h1
      go_enter Try.func14, Try.ntmps14
      go_wp2_with fail
      go_ret
      exact ⟨by unfold sizesB kB; rw [t]; simp, rfl⟩
  · have t : decide (1 ≤ k) = false := by simpa using h0
    go_enter Try.func14, Try.ntmps14
    go_wp2_with fail
    go_ret
    exact ⟨by unfold sizesB kB; rw [t]; simp, rfl⟩
def twiceTo (xs : List SymR) (k : Nat) : Bool := (List.range k).any fun i => hasI (xs.take i) (xs.getD i default).1
theorem twiceTo_snoc (xs : List SymR) (k : Nat) (h : k < xs.length) : twiceTo xs (k + 1) = (twiceTo xs k || hasI (xs.take k) (xs.getD k default).1) := twice_snoc xs k h
set_option maxHeartbeats 2000000 in
theorem refRight12_any (k s c : Int) (A : Option Addr) (l d : Nat) (xs : List SymR) (w : World) (hx : Syms w A l xs) (hl : l ≤ d) (hd : d ≤ maxLen) :
    Calls Try.prog 10 #[.agg #[.int .i64 k, .int .i64 s, .int .i64 c, .slice A l d]] w fun e w' => e = .returned (.bool (storeB k s c xs)) ∧ Below w.heap.size w w' := by
  have hd2 := hd
  unfold maxLen at hd
  have b1 : Below w.heap.size w (w.alloc (.cells #[.int .i64 k, .int .i64 s, .int .i64 c, .slice A l d] 24)) := (Below.refl _ _).alloc (Nat.le_refl _) _
  have Q := Lib.hid (Box.new w 24 #[.int .i64 k, .int .i64 s, .int .i64 c, .slice A l d])
  have HX := Lib.hid (hx.below b1)
  have HXl := Lib.hid hx.1
  have HB0 := Lib.hid b1
  have HST := Lib.hid (storeB_eq k s c xs)
  have HSZ := Lib.hid (fun w => refSizes_any k s c w)
  generalize sizesB k s c = sb at *
  obtain ⟨r0, r1, r2, r3, -, -, -, -⟩ := Q.out.four
  clear hx b1
  go_enter Try.func10, Try.ntmps10
  go_wp2_with fail
  go_loopw [8] (fun t wr => ∃ i : Nat, i ≤ l ∧ t = .int .i64 (i : Int) ∧ Hid (allB s (xs.take i) = true ∧ twiceTo xs i = false) ∧ Hid (Below (w.alloc (.cells #[.int .i64 k, .int .i64 s, .int .i64 c, .slice A l d] 24)).heap.size (w.alloc (.cells #[.int .i64 k, .int .i64 s, .int .i64 c, .slice A l d] 24)) wr)) (fun t _ => l - (intOf t).toNat)
  case atStart => exact ⟨0, Nat.zero_le _, rfl, Lib.hid ⟨rfl, rfl⟩, Lib.hid (Below.refl _ _)⟩
  case round =>
    obtain ⟨i, hi, rfl, HS, HB⟩ := hrel
    by_cases hlt : i < l
    · have hlt' : (i : Int) < (l : Int) := Int.ofNat_lt.2 hlt
      obtain ⟨b, off, rfl, hb, x0, x1⟩ := Syms.two HX.out i hlt
      have x0 := (HB.out.cell (p := ⟨b, off + i * 2, none⟩) hb).trans x0
      have x1 := (HB.out.cell (p := ⟨b, off + i * 2 + 1, none⟩) hb).trans x1
      have HN := Lib.hid (twiceTo_snoc xs i (by rw [HXl.out]; exact hlt))
      have HM := Lib.hid (allB_snoc s xs i (by rw [HXl.out]; exact hlt))
      have HU := Lib.hid (twice_up xs i (by rw [HXl.out]; exact hlt))
      have HV := Lib.hid (allB_up s xs (i + 1))
      have G := Lib.hid (Box.new wr 27 #[.int .u64 ((xs.getD i default).1 : Nat), .string (xs.getD i default).2])
      have Q := Lib.hid ((Q.out.keep HB.out).alloc (.cells #[.int .u64 ((xs.getD i default).1 : Nat), .string (xs.getD i default).2] 27))
      have HB := Lib.hid (HB.out.alloc HB.out.size (.cells #[.int .u64 ((xs.getD i default).1 : Nat), .string (xs.getD i default).2] 27))
      have HT := Lib.hid ((HX.out.take i (by omega)).mono (Nat.le_refl _) HB.out)
      have HH := Lib.hid (refHas_any (xs.getD i default).1 (some ⟨b, off, none⟩) i d (xs.take i) _ HT.out.drew (by unfold maxLen; omega))
      have i1 : (i : Int) ≤ (d : Int) := by omega
      have i2 : (i : Int) ≤ (l : Int) := by omega
      generalize xs.getD i default = p at *
      obtain ⟨p0, p1⟩ := p
      dsimp only at x0 x1 G HB HN HM HU HH Q
      generalize hW2 : wr.alloc (.cells #[.int .u64 (p0 : Nat), .string p1] 27) = W2 at *
      clear r0 r1 r2 r3
      obtain ⟨r0, r1, r2, r3, -, -, -, -⟩ := Q.out.four
      obtain ⟨g0, g1, -, -⟩ := G.out.two
      cases hs : ((p1.size : Int) == s) with
      | false =>
        rw [hs] at HM
        have hs2 : ((p1.size : Int) != s) = true := by simp [bne, hs]
        have HE := Lib.hid (show storeB k s c xs = false by rw [HST.out, HV.out (by rw [HM.out]; simp)]; simp)
        clear hs
        go_wp2_with fail
        clear hW2
        go_quiet (fail)
        go_wp2_with fail
        go_ret
        exact ⟨by rw [HE.out]; rfl, chain HB0.out (bdN HB.out _)⟩
      | true =>
        rw [hs] at HM
        have hs2 : ((p1.size : Int) != s) = false := by simp [bne, hs]
        clear hs
        cases ht : hasI (xs.take i) p0 with
        | true =>
          rw [ht] at HH
          have HE := Lib.hid (show storeB k s c xs = false by rw [HST.out, HU.out ht]; simp)
          clear ht
          go_wp2_with fail
          clear hW2
          go_region_with (go_at_call 35; refine HH.out.mono ?_; rintro e w1 ⟨rfl, hb1⟩; have HB := Lib.hid (chain HB.out.drew hb1); clear hb1)
          all_goals
            go_wp2_with fail
            go_ret
            exact ⟨by rw [HE.out]; rfl, chain HB0.out HB.out⟩
        | false =>
          rw [ht] at HH
          have HN2 := Lib.hid (show allB s (xs.take (i + 1)) = true ∧ twiceTo xs (i + 1) = false from ⟨by rw [HM.out, HS.out.1]; rfl, by rw [HN.out, HS.out.2, ht]; rfl⟩)
          clear ht
          go_wp2_with fail
          clear hW2
          go_region_with (go_at_call 35; refine HH.out.mono ?_; rintro e w1 ⟨rfl, hb1⟩; have HB := Lib.hid (chain HB.out.drew hb1); clear hb1)
          all_goals
            go_wp2_with fail
            go_roundw
            case rel => exact ⟨i + 1, hlt, by go_num, HN2, HB⟩
            case measure => simp [intOf] <;> omega
    · obtain rfl : i = l := Nat.le_antisymm hi (Nat.le_of_not_lt hlt)
      have hlt' : ¬ (i : Int) < (i : Int) := Int.lt_irrefl _
      have HA := Lib.hid (show allB s xs = true by have := HS.out.1; rwa [List.take_of_length_le (by rw [HXl.out]; exact Nat.le_refl _)] at this)
      have HW := Lib.hid (show twiceB xs = false by unfold twiceB; rw [HXl.out]; exact HS.out.2)
      have HS2 := Lib.hid (show storeB k s c xs = (sb && decide ((i : Int) ≤ c)) by rw [HST.out, HA.out, HW.out, HXl.out]; simp)
      have Q := Lib.hid (Q.out.keep HB.out)
      clear r0 r1 r2 r3
      obtain ⟨r0, r1, r2, r3, -, -, -, -⟩ := Q.out.four
      cases sb with
      | false =>
        go_wp2_with fail
        refine (HSZ.out _).mono ?_
        rintro e w1 ⟨rfl, rfl⟩
        go_wp2_with fail
        go_ret
        exact ⟨by rw [HS2.out]; rfl, chain HB0.out HB.out⟩
      | true =>
        by_cases hic : (i : Int) ≤ c
        · have t : decide ((i : Int) ≤ c) = true := decide_eq_true hic
          rw [t] at HS2
          go_wp2_with fail
          refine (HSZ.out _).mono ?_
          rintro e w1 ⟨rfl, rfl⟩
          go_wp2_with fail
          go_ret
          exact ⟨by rw [HS2.out]; rfl, chain HB0.out HB.out⟩
        · have t : decide ((i : Int) ≤ c) = false := decide_eq_false hic
          rw [t] at HS2
          go_wp2_with fail
          refine (HSZ.out _).mono ?_
          rintro e w1 ⟨rfl, rfl⟩
          go_wp2_with fail
          go_ret
          exact ⟨by rw [HS2.out]; rfl, chain HB0.out HB.out⟩
def whyI (s c : Int) (xs : List SymR) (x : SymR) : Int := if (x.2.size : Int) != s then 2 else if hasI xs x.1 then 8 else if (xs.length : Int) == c then 7 else 0
set_option maxHeartbeats 1000000 in
theorem refWhy_any (k s c : Int) (A : Option Addr) (l d : Nat) (xs : List SymR) (x : SymR) (w : World) (hx : Syms w A l xs) (hl : l ≤ maxLen) :
    Calls Try.prog 15 #[.agg #[.int .i64 k, .int .i64 s, .int .i64 c, .slice A l d], .agg #[.int .u64 (x.1 : Int), .string x.2]] w fun e w' => e = .returned (.int .i64 (whyI s c xs x)) ∧ Below w.heap.size w w' := by
  have b1 : Below w.heap.size w ((w.alloc (.cells #[.int .i64 k, .int .i64 s, .int .i64 c, .slice A l d] 24)).alloc (.cells #[.int .u64 (x.1 : Int), .string x.2] 27)) := ((Below.refl _ _).alloc (Nat.le_refl _) _).alloc (by simp) _
  have Q0 := Lib.hid ((Box.new w 24 #[.int .i64 k, .int .i64 s, .int .i64 c, .slice A l d]).alloc (.cells #[.int .u64 (x.1 : Int), .string x.2] 27))
  have q1 := Box.new (w.alloc (.cells #[.int .i64 k, .int .i64 s, .int .i64 c, .slice A l d] 24)) 27 #[.int .u64 (x.1 : Int), .string x.2]
  simp only [World.size_alloc] at q1
  obtain ⟨r0, r1, r2, r3, -, -, -, -⟩ := Q0.out.four
  obtain ⟨z0, z1, -, -⟩ := q1.two
  have HX := Lib.hid (refHas_any x.1 A l d xs _ (hx.below b1) hl)
  have HXl := Lib.hid hx.1
  have HB := Lib.hid b1
  clear hx q1 b1
  unfold whyI
  cases h1 : ((x.2.size : Int) != s) with
  | true =>
    go_enter Try.func15, Try.ntmps15
    go_wp2_with fail
    go_ret
    exact ⟨rfl, HB.out⟩
  | false =>
    cases h2 : hasI xs x.1 with
    | true =>
      rw [h2] at HX
      go_enter Try.func15, Try.ntmps15
      go_wp2_with fail
      refine HX.out.mono ?_
      rintro e w1 ⟨rfl, hb⟩
      have HB := Lib.hid (chain HB.out hb)
      clear hb
      go_wp2_with fail
      go_ret
      exact ⟨rfl, HB.out⟩
    | false =>
      rw [h2] at HX
      rw [HXl.out]
      cases h3 : ((l : Int) == c) with
      | true =>
        go_enter Try.func15, Try.ntmps15
        go_wp2_with fail
        refine HX.out.mono ?_
        rintro e w1 ⟨rfl, hb⟩
        have HB := Lib.hid (chain HB.out hb)
        have Q0 := Lib.hid (Q0.out.keep hb)
        clear hb r0 r1 r2 r3
        obtain ⟨r0, r1, r2, r3, -, -, -, -⟩ := Q0.out.four
        go_wp2_with fail
        go_ret
        exact ⟨rfl, HB.out⟩
      | false =>
        go_enter Try.func15, Try.ntmps15
        go_wp2_with fail
        refine HX.out.mono ?_
        rintro e w1 ⟨rfl, hb⟩
        have HB := Lib.hid (chain HB.out hb)
        have Q0 := Lib.hid (Q0.out.keep hb)
        clear hb r0 r1 r2 r3
        obtain ⟨r0, r1, r2, r3, -, -, -, -⟩ := Q0.out.four
        go_wp2_with fail
        go_ret
        exact ⟨rfl, HB.out⟩
end
section
/- Contracts of layer 12: Add. -/
set_option linter.unusedVariables false
set_option linter.unusedSimpArgs false
open Go.RowKit
set_option maxRecDepth 100000
theorem step_growsO {P : Program} {w : World} {ops : Array Oper} {o : Oper} {a : Act} {K : Act → World → Prop} {Q : Exit → Act → World → Prop} {E : Prop} (hgd : o.guard = none) (s x : Operand) (t : TypeId)
    (ho : o.op = .call { callee := .builtin .append, args := #[s, x], argTypes := #[t, t] })
    (e : TypeId) (i : TypeInfo) (z : Value) (size bytes : Nat) (ht : P.underlying t = some (.slice e)) (hi : P.info? e = some i) (hz : i.zero = some z)
    (hsize : i.size = size) (hby : i.bytes = bytes) (hzs : z.cells.size = size) (hsz : 0 < size)
    (ao : Option Addr) (n cap : Nat) (olds : List Value) (hs : a.eval s = .slice ao n cap) (hnone : ao = none → n = 0 ∧ cap = 0) (hlo : olds.length = n * size) (holds : ∀ b, ao = some b → ∀ j u, olds[j]? = some u → w.cell? (b.add j) = some u)
    (ad : Addr) (m c : Nat) (news : List Value) (hx : a.eval x = .slice (some ad) m c) (hl : news.length = m * size) (hnews : ∀ j u, news[j]? = some u → w.cell? (ad.add j) = some u) (h1c : ∀ u ∈ news, u.oneCell' = true)
    (hg : cap < n + m) (h63 : n + m ≤ maxLen) (hbytes : (n + m) * bytes ≤ 140737488355328)
    (h : ∀ v' w', w'.ownsRow w.heap.size e size v' (n + m) (olds ++ news) → w.grownBy w' none → K (a.put o.dst v') w') :
    if Region.wanted o (yielded ops a.tmps) = true then Oper.wp P o a w K Q else E := by
  have hw : Region.wanted o (yielded ops a.tmps) = true := by simp [Region.wanted, hgd]
  rw [if_pos hw]
  unfold Oper.wp execOp
  cases ao with
  | some b =>
    obtain ⟨v', w', hr, h2, h3⟩ := run_append_arg_grows (P := P) w t o.type e i z size bytes ht hi hz hsize hby hzs hsz b n cap olds hlo (holds b rfl) ad m c news hl hnews hg h63 hbytes
    simp only [ho, resolve, invoke, builtin, Sem.run_bind, Sem.run_pure, Result.andThen_ok, List.map_toArray, List.map_cons, List.map_nil, hs, hx, hr]
    exact h v' w' h2 h3
  | none =>
    obtain ⟨rfl, rfl⟩ := hnone rfl
    obtain rfl : olds = [] := List.eq_nil_of_length_eq_zero (by simpa using hlo)
    obtain ⟨v', w', hr, h2, h3, _⟩ := run_append_own (P := P) w w.heap.size t o.type e i z size bytes ht hi hz hsize hby hzs hsz (.slice none 0 0) 0 [] (World.ownsRow_nil w _ e size) ad m c news hl hnews h1c h63 hbytes (Nat.le_refl _)
    simp only [ho, resolve, invoke, builtin, Sem.run_bind, Sem.run_pure, Result.andThen_ok, List.map_toArray, List.map_cons, List.map_nil, hs, hx, hr]
    exact h v' w' h2 h3
theorem news_drew12 {x : World} {o : Obj} {g : Nat} {L : List Value} (h : ∀ j u, L[j]? = some u → (x.alloc o).cell? ((⟨g, 0, none⟩ : Addr).add j) = some u) : ∀ j u, L[j]? = some u → (x.alloc o).drew.cell? ((⟨g, 0, none⟩ : Addr).add j) = some u := h
theorem below_grown12 {x w : World} {o : Obj} (h : (x.alloc o).drew.grownBy w none) : Below x.heap.size x w :=
  (((Below.refl _ _).alloc (Nat.le_refl _) o).drew).grown h (by show _ ≤ (x.alloc o).heap.size; simp) (fun k hk => by cases hk)
theorem sym12_info : (Try.prog.info? 27).map (fun i => (i.zero, i.size, i.bytes)) = some (some (.agg #[.int .u64 0, .string ⟨#[]⟩]), 2, 24) := by kernel_rfl
def addAns (k s c : Int) (xs : List SymR) (x : SymR) : List Int := [whenI (!storeB k s c xs) 1, whenI ((x.2.size : Int) != s) 2, whenI (hasI xs x.1) 8, whenI ((xs.length : Int) == c) 7]
def addE (k s c : Int) (xs : List SymR) (x : SymR) : Int := if storeB k s c xs then whyI s c xs x else 1
theorem addAns_eq (k s c : Int) (xs : List SymR) (x : SymR) : firstI (addAns k s c xs x) = addE k s c xs x := by
  unfold addAns addE whyI
  cases storeB k s c xs <;> cases ((x.2.size : Int) != s) <;> cases hasI xs x.1 <;> cases ((xs.length : Int) == c) <;> rfl
def addFs (g : Nat) : Nat → Nat × Array Value := fun j => [(20, #[Value.pointer (some ⟨g, 0, none⟩)]), (22, #[.pointer (some ⟨g + 1, 0, none⟩), .pointer (some ⟨g, 0, none⟩)]), (23, #[.pointer (some ⟨g, 0, none⟩), .pointer (some ⟨g + 1, 0, none⟩)]), (25, #[.pointer (some ⟨g, 0, none⟩)])].getD j (0, #[])
def addCells (g : Nat) : Array Value := #[.func (.func 20) #[] #[.pointer (some ⟨g, 0, none⟩)], .func (.func 22) #[] #[.pointer (some ⟨g + 1, 0, none⟩), .pointer (some ⟨g, 0, none⟩)], .func (.func 23) #[] #[.pointer (some ⟨g, 0, none⟩), .pointer (some ⟨g + 1, 0, none⟩)], .func (.func 25) #[] #[.pointer (some ⟨g, 0, none⟩)]]
abbrev addW3 (k s c : Int) (A : Option Addr) (l d : Nat) (x : SymR) (w : World) : World :=
  ((w.alloc (.cells #[.int .i64 k, .int .i64 s, .int .i64 c, .slice A l d] 24)).alloc (.cells #[.int .u64 (x.1 : Int), .string x.2] 27)).alloc (.cells #[.int .i64 0, .int .i64 0, .int .i64 0, .slice none 0 0] 24)
abbrev addW (k s c : Int) (A : Option Addr) (l d : Nat) (x : SymR) (w : World) : World :=
  (addW3 k s c A l d x w).alloc (.cells (addCells w.heap.size) 46)
theorem addW_three (k s c : Int) (A : Option Addr) (l d : Nat) (x : SymR) (w : World) :
    Box (addW k s c A l d x w) w.heap.size 24 #[.int .i64 k, .int .i64 s, .int .i64 c, .slice A l d] ∧ Box (addW k s c A l d x w) (w.heap.size + 1) 27 #[.int .u64 (x.1 : Int), .string x.2] ∧ Box (addW k s c A l d x w) (w.heap.size + 2) 24 #[.int .i64 0, .int .i64 0, .int .i64 0, .slice none 0 0] ∧ Box (addW k s c A l d x w) (w.heap.size + 3) 46 (addCells w.heap.size) ∧ Below w.heap.size w (addW k s c A l d x w) := by
  refine ⟨?_, ?_, ?_, ?_, ?_⟩
  · exact (((Box.new w _ _).alloc _).alloc _).alloc _
  · have q := ((Box.new (w.alloc (.cells #[.int .i64 k, .int .i64 s, .int .i64 c, .slice A l d] 24)) 27 #[.int .u64 (x.1 : Int), .string x.2]).alloc (.cells #[.int .i64 0, .int .i64 0, .int .i64 0, .slice none 0 0] 24)).alloc (.cells (addCells w.heap.size) 46)
    simpa only [World.size_alloc] using q
  · have q := (Box.new ((w.alloc (.cells #[.int .i64 k, .int .i64 s, .int .i64 c, .slice A l d] 24)).alloc (.cells #[.int .u64 (x.1 : Int), .string x.2] 27)) 24 #[.int .i64 0, .int .i64 0, .int .i64 0, .slice none 0 0]).alloc (.cells (addCells w.heap.size) 46)
    simpa only [World.size_alloc] using q
  · have q := Box.new (addW3 k s c A l d x w) 46 (addCells w.heap.size)
    simpa only [World.size_alloc] using q
  · exact ((((Below.refl _ _).alloc (Nat.le_refl _) _).alloc (by simp) _).alloc (by simp; omega) _).alloc (by simp; omega) _
theorem addAsked (k s c : Int) (A : Option Addr) (l d : Nat) (xs : List SymR) (x : SymR) (w : World) (hx : Syms w A l xs) (hl : l ≤ d) (hd : d ≤ maxLen) :
    AskedOf Try.prog (addW k s c A l d x w) (w.heap.size + 3) 0 (addFs w.heap.size) (addAns k s c xs x) := by
  obtain ⟨Q0, Q1, -, F, b1⟩ := addW_three k s c A l d x w
  have hX := hx.below b1
  have hxl := hx.1
  refine ⟨F.lt, ?_, ?_, ?_⟩
  · intro j hj
    have hj : j < 4 := hj
    rw [Nat.zero_add, F.cell j]
    match j, hj with
    | 0, _ => rfl
    | 1, _ => rfl
    | 2, _ => rfl
    | 3, _ => rfl
  · intro j hj
    have hj : j < 4 := hj
    match j, hj with
    | 0, _ => exact enters_of Try.func20 (by kernel_rfl) rfl
    | 1, _ => exact enters_of Try.func22 (by kernel_rfl) rfl
    | 2, _ => exact enters_of Try.func23 (by kernel_rfl) rfl
    | 3, _ => exact enters_of Try.func25 (by kernel_rfl) rfl
  · intro j hj w' hb _
    have hj : j < 4 := hj
    have q := Q0.keep hb
    have q1 := Q1.keep hb
    have hX' := hX.below hb
    match j, hj with
    | 0, _ => exact add1_any k s c A l d w.heap.size w' xs q hX' hl hd
    | 1, _ => exact add2_any k s c A l d w.heap.size (w.heap.size + 1) w' x q q1
    | 2, _ => exact add3_any k s c A l d w.heap.size (w.heap.size + 1) w' xs x q q1 hX' (Nat.le_trans hl hd)
    | 3, _ =>
      rw [← hxl] at q
      exact add4_any k s c A xs.length d w.heap.size w' q
def zI (e v : Int) : Int := if e = 0 then v else 0
theorem addE_ok {k s c : Int} {xs : List SymR} {x : SymR} (h : addE k s c xs x = 0) : storeB k s c xs = true ∧ (x.2.size : Int) = s ∧ hasI xs x.1 = false ∧ (xs.length : Int) < c ∧ c ≤ 64 := by
  unfold addE at h
  split at h
  case isFalse => cases h
  case isTrue hs =>
    unfold whyI at h
    split at h
    case isTrue => cases h
    case isFalse h1 =>
      split at h
      case isTrue => cases h
      case isFalse h2 =>
        split at h
        case isTrue => cases h
        case isFalse h3 =>
          have h4 := hs
          unfold storeB kB at h4
          simp only [Bool.and_eq_true, decide_eq_true_eq] at h4
          simp at h1 h2 h3
          exact ⟨hs, h1, by simpa using h2, by omega, h4.1.1.1.2.2⟩
set_option maxHeartbeats 2000000 in
theorem eadd_no (k s c : Int) (A : Option Addr) (l d : Nat) (xs : List SymR) (x : SymR) (w : World) (hx : Syms w A l xs) (hl : l ≤ d) (hd : d ≤ maxLen) (he : addE k s c xs x ≠ 0) :
    Calls Try.prog 8 #[.agg #[.int .i64 k, .int .i64 s, .int .i64 c, .slice A l d], .agg #[.int .u64 (x.1 : Int), .string x.2]] w (StoreOut 0 0 0 [] (addE k s c xs x) w) := by
  obtain ⟨Q0, Q1, Q2, F, b1⟩ := addW_three k s c A l d x w
  have HC := Lib.hid (efirst_any (w.heap.size + 3) 0 4 (addFs w.heap.size) (addAns k s c xs x) _ (by show 4 ≤ 100; omega) (addAsked k s c A l d xs x w hx hl hd))
  rw [addAns_eq, show (addAns k s c xs x).length = 4 from rfl] at HC
  have HB := Lib.hid b1
  have HQ2 := Lib.hid Q2
  generalize addE k s c xs x = er at *
  have t1 : (er != 0) = true := by simpa using he
  clear hx b1 Q0 Q1 Q2 F he
  go_enter Try.func8, Try.ntmps8
  go_wp2_with fail
  refine HC.out.mono ?_
  rintro e w1 ⟨rfl, hb⟩
  replace HB := Lib.hid (chain HB.out hb)
  replace HQ2 := Lib.hid (HQ2.out.keep hb)
  clear hb HC
  obtain ⟨s0, s1, s2, s3, f0, f1, f2, f3⟩ := HQ2.out.four
  go_wp2_with fail
  refine close_cell Try.results8 rfl rfl rfl HQ2.out.put4 Try.underlying24 rfl (by kernel_rfl) ⟨none, 0, rfl, Recs.nil _ _, Nat.le_refl _, Nat.zero_le _, fun _ => rfl, below_set4 HB.out (by omega) _ _ _ _⟩
theorem own_cap {w : World} {base e size n c : Nat} {A : Option Addr} {xs : List Value} (h : w.ownsRow base e size (.slice A n c) n xs) : n ≤ c ∧ c ≤ maxLen ∧ (A = none → c = 0) ∧ (∀ b, A = some b → base ≤ b.block) := by
  rcases h.2 with ⟨hv, h0⟩ | ⟨g, cap, cur, hv, hb, hh, hn, hm, -⟩
  · injection hv with h1 h2 h3
    subst h1 h3 h0
    exact ⟨Nat.le_refl _, Nat.zero_le _, fun _ => rfl, fun b hb => by cases hb⟩
  · injection hv with h1 h2 h3
    subst h1 h3
    exact ⟨hn, hm, fun h => (by cases h), fun b hb2 => by injection hb2 with hb2; subst hb2; exact hb⟩
theorem add_own {x w5 : World} {o : Obj} {g n c5 : Nat} {A5 : Option Addr} {xs : List SymR} {y : SymR} {e : TypeId} (h : w5.ownsRow (x.alloc o).drew.heap.size e 2 (.slice A5 n c5) n (xs.flatMap encS ++ encS y)) (hg : g + 4 ≤ x.heap.size) :
    Syms w5 A5 n (xs ++ [y]) ∧ n ≤ c5 ∧ c5 ≤ maxLen ∧ (A5 = none → c5 = 0) ∧ ∀ b off, A5 = some ⟨b, off, none⟩ → g + 4 ≤ b := by
  obtain ⟨h1, h2, h3, h4⟩ := own_cap h
  rw [← flat_snoc] at h
  refine ⟨own_recs encS_len h (by omega), h1, h2, h3, fun b off hb => ?_⟩
  have := h4 _ hb
  have e1 : (x.alloc o).drew.heap.size = x.heap.size + 1 := by show (x.alloc o).heap.size = _; simp
  rw [e1] at this
  have : x.heap.size + 1 ≤ b := this
  omega
theorem add_close {w w6 : World} {g n c5 : Nat} {A5 : Option Addr} {k s c : Int} {zs : List SymR} {u0 u1 u2 u3 : Value} (hg : w.heap.size = g) (hb : Below g w w6) (hs : Syms w6 A5 n zs) (h1 : n ≤ c5) (h2 : c5 ≤ maxLen) (h3 : A5 = none → c5 = 0) (h4 : ∀ b off, A5 = some ⟨b, off, none⟩ → g + 4 ≤ b) (hz : zs.length = n) :
    StoreOut k s c zs 0 w (.returned (.tuple #[.agg #[.int .i64 k, .int .i64 s, .int .i64 c, .slice A5 n c5], .int .i64 0])) ((((w6.setCell ⟨g + 2, 0, none⟩ u0).setCell ⟨g + 2, 1, none⟩ u1).setCell ⟨g + 2, 2, none⟩ u2).setCell ⟨g + 2, 3, none⟩ u3) := by
  subst hz
  subst hg
  refine ⟨A5, c5, rfl, Recs.far4 hs (fun b off hb _ => by have := h4 b off hb; omega) _ _ _ _, h1, h2, h3, below_set4 hb (by omega) _ _ _ _⟩
set_option maxHeartbeats 4000000 in
theorem eadd_yes (k s c : Int) (A : Option Addr) (l d : Nat) (xs : List SymR) (x : SymR) (w : World) (hx : Syms w A l xs) (hl : l ≤ d) (hd : d ≤ maxLen) (hn : A = none → d = 0) (he : addE k s c xs x = 0) :
    Calls Try.prog 8 #[.agg #[.int .i64 k, .int .i64 s, .int .i64 c, .slice A l d], .agg #[.int .u64 (x.1 : Int), .string x.2]] w (StoreOut k s c (xs ++ [x]) 0 w) := by
  obtain ⟨Q0, Q1, Q2, F, b1⟩ := addW_three k s c A l d x w
  have HC := Lib.hid (efirst_any (w.heap.size + 3) 0 4 (addFs w.heap.size) (addAns k s c xs x) _ (by show 4 ≤ 100; omega) (addAsked k s c A l d xs x w hx hl hd))
  rw [addAns_eq, show (addAns k s c xs x).length = 4 from rfl, he] at HC
  obtain ⟨-, -, -, hlc, hc64⟩ := addE_ok he
  rw [hx.1] at hlc
  have HL := Lib.hid hx.1
  have hl64 : l < 64 := by omega
  have HB := Lib.hid b1
  have HQ0 := Lib.hid Q0
  have HQ1 := Lib.hid Q1
  have HQ2 := Lib.hid Q2
  have HX := Lib.hid (hx.below b1)
  obtain ⟨i0, hi, hz0, hz1, hz2⟩ := info_parts sym12_info
  have HI := Lib.hid hi
  have HZ0 := Lib.hid hz0
  have HZ1 := Lib.hid hz1
  have HZ2 := Lib.hid hz2
  have hld : (l : Int) ≤ (d : Int) := by omega
  have hl0 : (0 : Int) ≤ (l : Int) := by omega
  have LO := Lib.hid (show (xs.flatMap encS).length = l * 2 by rw [flat_len encS_len, HL.out])
  have LN := Lib.hid (show (encS x).length = 1 * 2 from rfl)
  have a1 : l < l + 1 := by omega
  have a2 : l + 1 ≤ maxLen := by unfold maxLen; omega
  have a3 : (l + 1) * 24 ≤ 140737488355328 := by omega
  have HA0 := Lib.hid (show A = none → l = 0 ∧ l = 0 from fun h => by have := hn h; omega)
  have HAd := Lib.hid (show ∀ ad : Addr, ad.add 0 = ad from fun ad => by unfold Addr.add; simp)
  clear hx b1 Q0 Q1 Q2 F he hi hz0 hz1 hz2 hd hc64 hlc
  go_enter Try.func8, Try.ntmps8
  go_wp2_with fail
  refine HC.out.mono ?_
  rintro e w1 ⟨rfl, hb⟩
  have HSZ := Lib.hid (show w.heap.size + 4 ≤ w1.heap.size by have := hb.size; simpa using this)
  replace HB := Lib.hid (chain HB.out hb)
  replace HQ0 := Lib.hid (HQ0.out.keep hb)
  replace HQ1 := Lib.hid (HQ1.out.keep hb)
  replace HQ2 := Lib.hid (HQ2.out.keep hb)
  replace HX := Lib.hid (HX.out.below hb)
  clear hb HC
  obtain ⟨r0, r1, r2, r3, e0, e1, e2, e3⟩ := HQ0.out.four
  obtain ⟨z0, z1, -, -⟩ := HQ1.out.two
  go_wp2_with fail
  have LH := Lib.hid ((HX.out.alloc (.cells #[.int .u64 (x.1 : Int), .string x.2] 27)).drew.news encS_len (by omega))
  have NH := Lib.hid (news_drew12 (World.news_of_block (Box.new w1 27 #[.int .u64 (x.1 : Int), .string x.2])))
  have NE := Lib.hid (encS_one x)
  obtain ⟨-, -, -, q3, -, -, -, -⟩ := (HQ0.out.alloc (.cells #[.int .u64 (x.1 : Int), .string x.2] 27)).four
  cases A with
  | none =>
    obtain ⟨hl1, -⟩ := HA0.out rfl
    subst hl1
    go_region_law (first
      | (refine step_growsO rfl (.tmp 25) (.tmp 27) 22 rfl 27 i0 (.agg #[.int .u64 0, .string ⟨#[]⟩]) 2 24 Try.underlying22 HI.out HZ0.out HZ1.out HZ2.out rfl (by decide) none 0 0 (xs.flatMap encS) ?_ HA0.out LO.out LH.out ⟨w1.heap.size, 0, none⟩ 1 1 (encS x) ?_ LN.out NH.out NE.out a1 a2 a3 ?_; simp [Act.eval, Act.put]; simp [Act.eval, Act.put]; intro v5 w5 hown hgrow; obtain ⟨A5, c5, rfl, -⟩ := own_form hown; have hb5 := below_grown12 hgrow; have HB5 := Lib.hid (chain HB.out hb5); have P0 := Lib.hid (HQ0.out.keep hb5); have P2 := Lib.hid (HQ2.out.keep hb5); have HO := Lib.hid (add_own hown HSZ.out); clear hown hgrow hb5; obtain ⟨y0, y1, y2, y3, f0, f1, f2, f3⟩ := P0.out.four))
    all_goals
      have HB6 := Lib.hid (HB5.out.setCell (p := ⟨w.heap.size, 3, none⟩) (Nat.le_refl _) (.slice A5 (1) c5))
      have HS6 := Lib.hid (Recs.farB HO.out.1 (g := w.heap.size) (fun b off hb _ => by have := HO.out.2.2.2.2 b off hb; omega) 3 (.slice A5 (1) c5))
      have P0 := Lib.hid (show Box (w5.setCell ⟨w.heap.size, 3, none⟩ (.slice A5 (1) c5)) w.heap.size 24 #[.int .i64 k, .int .i64 s, .int .i64 c, .slice A5 (1) c5] from P0.out.put 3 (.slice A5 (1) c5))
      have P2 := Lib.hid (P2.out.far (p := ⟨w.heap.size, 3, none⟩) (by simp) (.slice A5 (1) c5))
      clear y0 y1 y2 y3 f0 f1 f2 f3 r0 r1 r2 r3 e0 e1 e2 e3 q3
      generalize w5.setCell ⟨w.heap.size, 3, none⟩ (.slice A5 (1) c5) = w6 at *
      obtain ⟨r0, r1, r2, r3, -, -, -, -⟩ := P0.out.four
      obtain ⟨s0, s1, s2, s3, f0, f1, f2, f3⟩ := P2.out.four
      go_wp2_with fail
      refine close_cell Try.results8 rfl rfl rfl P2.out.put4 Try.underlying24 rfl (by kernel_rfl) (add_close rfl HB6.out HS6.out HO.out.2.1 HO.out.2.2.1 HO.out.2.2.2.1 HO.out.2.2.2.2 (by rw [List.length_append, HL.out]; rfl))
  | some ad =>
    go_region_law (first
      | (refine step_growsO rfl (.tmp 25) (.tmp 27) 22 rfl 27 i0 (.agg #[.int .u64 0, .string ⟨#[]⟩]) 2 24 Try.underlying22 HI.out HZ0.out HZ1.out HZ2.out rfl (by decide) (some ad) l l (xs.flatMap encS) ?_ HA0.out LO.out LH.out ⟨w1.heap.size, 0, none⟩ 1 1 (encS x) ?_ LN.out NH.out NE.out a1 a2 a3 ?_; simp [Act.eval, Act.put]; simp [Act.eval, Act.put]; intro v5 w5 hown hgrow; obtain ⟨A5, c5, rfl, -⟩ := own_form hown; have hb5 := below_grown12 hgrow; have HB5 := Lib.hid (chain HB.out hb5); have P0 := Lib.hid (HQ0.out.keep hb5); have P2 := Lib.hid (HQ2.out.keep hb5); have HO := Lib.hid (add_own hown HSZ.out); clear hown hgrow hb5; obtain ⟨y0, y1, y2, y3, f0, f1, f2, f3⟩ := P0.out.four))
    all_goals
      have HB6 := Lib.hid (HB5.out.setCell (p := ⟨w.heap.size, 3, none⟩) (Nat.le_refl _) (.slice A5 (l + 1) c5))
      have HS6 := Lib.hid (Recs.farB HO.out.1 (g := w.heap.size) (fun b off hb _ => by have := HO.out.2.2.2.2 b off hb; omega) 3 (.slice A5 (l + 1) c5))
      have P0 := Lib.hid (show Box (w5.setCell ⟨w.heap.size, 3, none⟩ (.slice A5 (l + 1) c5)) w.heap.size 24 #[.int .i64 k, .int .i64 s, .int .i64 c, .slice A5 (l + 1) c5] from P0.out.put 3 (.slice A5 (l + 1) c5))
      have P2 := Lib.hid (P2.out.far (p := ⟨w.heap.size, 3, none⟩) (by simp) (.slice A5 (l + 1) c5))
      clear y0 y1 y2 y3 f0 f1 f2 f3 r0 r1 r2 r3 e0 e1 e2 e3 q3
      generalize w5.setCell ⟨w.heap.size, 3, none⟩ (.slice A5 (l + 1) c5) = w6 at *
      obtain ⟨r0, r1, r2, r3, -, -, -, -⟩ := P0.out.four
      obtain ⟨s0, s1, s2, s3, f0, f1, f2, f3⟩ := P2.out.four
      go_wp2_with fail
      refine close_cell Try.results8 rfl rfl rfl P2.out.put4 Try.underlying24 rfl (by kernel_rfl) (add_close rfl HB6.out HS6.out HO.out.2.1 HO.out.2.2.1 HO.out.2.2.2.1 HO.out.2.2.2.2 (by rw [List.length_append, HL.out]; rfl))
end
section
/- Contracts of layer 12: the reference's Add, Bytes. -/
set_option linter.unusedVariables false
set_option linter.unusedSimpArgs false
open Go.RowKit
set_option maxRecDepth 100000
theorem Syms.news1 {w : World} {A : Option Addr} {l : Nat} {xs : List SymR} (h : Syms w A l xs) : ∀ ad, A = some ad → ∀ j u, (xs.flatMap encS)[j]? = some u → w.cell? (ad.add j) = some u := Recs.news h encS_len (by omega)
/-- A store is returned. -/
def StoreOne (k s c : Int) (xs : List SymR) (w : World) (e : Ending) (w' : World) : Prop :=
  ∃ A d, e = .returned (.agg #[.int .i64 k, .int .i64 s, .int .i64 c, .slice A xs.length d]) ∧ Syms w' A xs.length xs ∧ xs.length ≤ d ∧ d ≤ maxLen ∧ (A = none → d = 0) ∧ (∀ b off, A = some ⟨b, off, none⟩ → w.heap.size ≤ b) ∧ Below w.heap.size w w'
abbrev raW (k s c : Int) (A : Option Addr) (l d : Nat) (x : SymR) (w : World) : World :=
  (addW3 k s c A l d x w).alloc (.cells #[.int .i64 k, .int .i64 s, .int .i64 c, .slice none 0 0] 24)
theorem raW_four (k s c : Int) (A : Option Addr) (l d : Nat) (x : SymR) (w : World) :
    Box (raW k s c A l d x w) w.heap.size 24 #[.int .i64 k, .int .i64 s, .int .i64 c, .slice A l d] ∧ Box (raW k s c A l d x w) (w.heap.size + 1) 27 #[.int .u64 (x.1 : Int), .string x.2] ∧ Box (raW k s c A l d x w) (w.heap.size + 2) 24 #[.int .i64 0, .int .i64 0, .int .i64 0, .slice none 0 0] ∧ Box (raW k s c A l d x w) (w.heap.size + 3) 24 #[.int .i64 k, .int .i64 s, .int .i64 c, .slice none 0 0] ∧ Below w.heap.size w (raW k s c A l d x w) := by
  refine ⟨?_, ?_, ?_, ?_, ?_⟩
  · exact (((Box.new w _ _).alloc _).alloc _).alloc _
  · have q := ((Box.new (w.alloc (.cells #[.int .i64 k, .int .i64 s, .int .i64 c, .slice A l d] 24)) 27 #[.int .u64 (x.1 : Int), .string x.2]).alloc (.cells #[.int .i64 0, .int .i64 0, .int .i64 0, .slice none 0 0] 24)).alloc (.cells #[.int .i64 k, .int .i64 s, .int .i64 c, .slice none 0 0] 24)
    simpa only [World.size_alloc] using q
  · have q := (Box.new ((w.alloc (.cells #[.int .i64 k, .int .i64 s, .int .i64 c, .slice A l d] 24)).alloc (.cells #[.int .u64 (x.1 : Int), .string x.2] 27)) 24 #[.int .i64 0, .int .i64 0, .int .i64 0, .slice none 0 0]).alloc (.cells #[.int .i64 k, .int .i64 s, .int .i64 c, .slice none 0 0] 24)
    simpa only [World.size_alloc] using q
  · have q := Box.new (addW3 k s c A l d x w) 24 #[.int .i64 k, .int .i64 s, .int .i64 c, .slice none 0 0]
    simpa only [World.size_alloc] using q
  · exact ((((Below.refl _ _).alloc (Nat.le_refl _) _).alloc (by simp) _).alloc (by simp; omega) _).alloc (by simp; omega) _
theorem raW_size (k s c : Int) (A : Option Addr) (l d : Nat) (x : SymR) (w : World) : (raW k s c A l d x w).heap.size = w.heap.size + 4 := by simp
theorem own_row_ne {w : World} {base e size n g : Nat} {v : Value} {xs : List Value} (h : w.ownsRow base e size v n xs) (hg : g < base) : v.ownBlock ≠ some g := fun e => absurd (h.lt g e).1 (by omega)
theorem own_row_le {w : World} {base e size n : Nat} {v : Value} {xs : List Value} (h : w.ownsRow (base + 4) e size v n xs) : ∀ k, v.ownBlock = some k → base ≤ k := fun k hk => by have := (h.lt k hk).1; omega
theorem own_out {w5 : World} {g n c5 : Nat} {A5 : Option Addr} {xs : List SymR} {y : SymR} {e : TypeId} (h : w5.ownsRow (g + 4) e 2 (.slice A5 n c5) n (xs.flatMap encS ++ encS y)) :
    Syms w5 A5 n (xs ++ [y]) ∧ n ≤ c5 ∧ c5 ≤ maxLen ∧ (A5 = none → c5 = 0) ∧ ∀ b off, A5 = some ⟨b, off, none⟩ → g + 4 ≤ b := by
  obtain ⟨h1, h2, h3, h4⟩ := own_cap h
  rw [← flat_snoc] at h
  exact ⟨own_recs encS_len h (by omega), h1, h2, h3, fun b off hb => h4 _ hb⟩
theorem second_append {w w5 : World} {A5 : Option Addr} {l c5 : Nat} {cs1 cs2 cs3 : Array Value} {T1 T2 T3 e : TypeId} {xs : List SymR} {x : SymR} (hz : w.heap.size + 4 ≤ w5.heap.size) (hb : Below w.heap.size w w5) (p1 : Box w5 (w.heap.size + 1) T1 cs1) (p2 : Box w5 (w.heap.size + 2) T2 cs2) (p3 : Box w5 (w.heap.size + 3) T3 cs3)
    (ho : w5.ownsRow (w.heap.size + 4) e 2 (.slice A5 l c5) l (xs.flatMap encS)) (hne : e ≠ T3) :
    ((w5.setCell ⟨w.heap.size + 3, 3, none⟩ (.slice A5 l c5)).alloc (.cells #[.int .u64 (x.1 : Int), .string x.2] 27)).ownsRow (w.heap.size + 4) e 2 (.slice A5 l c5) l (xs.flatMap encS) ∧
    (∀ j u, (encS x)[j]? = some u → ((w5.setCell ⟨w.heap.size + 3, 3, none⟩ (.slice A5 l c5)).alloc (.cells #[.int .u64 (x.1 : Int), .string x.2] 27)).cell? ((⟨w5.heap.size, 0, none⟩ : Addr).add j) = some u) ∧
    w.heap.size + 4 ≤ ((w5.setCell ⟨w.heap.size + 3, 3, none⟩ (.slice A5 l c5)).alloc (.cells #[.int .u64 (x.1 : Int), .string x.2] 27)).heap.size ∧
    Box ((w5.setCell ⟨w.heap.size + 3, 3, none⟩ (.slice A5 l c5)).alloc (.cells #[.int .u64 (x.1 : Int), .string x.2] 27)) (w.heap.size + 2) T2 cs2 ∧
    Box ((w5.setCell ⟨w.heap.size + 3, 3, none⟩ (.slice A5 l c5)).alloc (.cells #[.int .u64 (x.1 : Int), .string x.2] 27)) (w.heap.size + 3) T3 (cs3.setIfInBounds 3 (.slice A5 l c5)) ∧
    Below w.heap.size w ((w5.setCell ⟨w.heap.size + 3, 3, none⟩ (.slice A5 l c5)).alloc (.cells #[.int .u64 (x.1 : Int), .string x.2] 27)) := by
  have e1 : (w5.setCell ⟨w.heap.size + 3, 3, none⟩ (.slice A5 l c5)).heap.size = w5.heap.size := by simp [World.setCell]
  refine ⟨World.ownsRow.alloc (own_far ho p3 hne 3 _) _, ?_, ?_, (p2.far (p := ⟨w.heap.size + 3, 3, none⟩) (by simp) _).alloc _, (p3.put 3 _).alloc _, ?_⟩
  · have := World.news_of_block (Box.new (w5.setCell ⟨w.heap.size + 3, 3, none⟩ (.slice A5 l c5)) 27 #[.int .u64 (x.1 : Int), .string x.2])
    rw [e1] at this
    exact this
  · rw [World.size_alloc, e1]; omega
  · refine (hb.setCell (p := ⟨w.heap.size + 3, 3, none⟩) (by show w.heap.size ≤ w.heap.size + 3; omega) _).alloc ?_ _
    rw [e1]; omega
theorem add_close1 {w w7 : World} {l c7 : Nat} {A7 : Option Addr} {k s c : Int} {xs : List SymR} {x : SymR} {u0 u1 u2 u3 u : Value} (hb : Below w.heap.size w w7) (h : Syms w7 A7 (l + 1) (xs ++ [x]) ∧ l + 1 ≤ c7 ∧ c7 ≤ maxLen ∧ (A7 = none → c7 = 0) ∧ ∀ b off, A7 = some ⟨b, off, none⟩ → w.heap.size + 4 ≤ b) (hl : xs.length = l) :
    StoreOne k s c (xs ++ [x]) w (.returned (.agg #[.int .i64 k, .int .i64 s, .int .i64 c, .slice A7 (l + 1) c7])) (((((w7.setCell ⟨w.heap.size + 3, 3, none⟩ u).setCell ⟨w.heap.size + 2, 0, none⟩ u0).setCell ⟨w.heap.size + 2, 1, none⟩ u1).setCell ⟨w.heap.size + 2, 2, none⟩ u2).setCell ⟨w.heap.size + 2, 3, none⟩ u3) := by
  have e : (xs ++ [x]).length = l + 1 := by rw [List.length_append, hl]; rfl
  unfold StoreOne
  rw [e]
  refine ⟨A7, c7, rfl, Recs.far4 (Recs.farB h.1 (fun b off hb _ => ?_) _ _) (fun b off hb _ => ?_) _ _ _ _, h.2.1, h.2.2.1, h.2.2.2.1, fun b off hb => by (have := h.2.2.2.2 b off hb; omega), below_set4 (hb.setCell (p := ⟨w.heap.size + 3, 3, none⟩) (by show w.heap.size ≤ w.heap.size + 3; omega) _) (by omega) _ _ _ _⟩
  · have := h.2.2.2.2 b off hb; omega
  · have := h.2.2.2.2 b off hb; omega
set_option maxHeartbeats 4000000 in
theorem refAdd12_any (k s c : Int) (A : Option Addr) (l d : Nat) (xs : List SymR) (x : SymR) (w : World) (hx : Syms w A l xs) (hl : l ≤ 64) :
    Calls Try.prog 16 #[.agg #[.int .i64 k, .int .i64 s, .int .i64 c, .slice A l d], .agg #[.int .u64 (x.1 : Int), .string x.2]] w (StoreOne k s c (xs ++ [x]) w) := by
  obtain ⟨Q0, Q1, Q2, Q3, b1⟩ := raW_four k s c A l d x w
  have SZ := Lib.hid (raW_size k s c A l d x w)
  have HL := Lib.hid hx.1
  have HN := Lib.hid (show A = none → l = 0 from fun h => by subst h; exact hx.none_.1)
  have HX := Lib.hid (hx.below b1)
  have HB := Lib.hid b1
  have HQ1 := Lib.hid Q1
  have HQ2 := Lib.hid Q2
  have HQ3 := Lib.hid Q3
  have HE1 := Lib.hid (flat_one (xs := xs) encS_one)
  have HE2 := Lib.hid (encS_one x)
  obtain ⟨i0, hi, hz0, hz1, hz2⟩ := info_parts sym12_info
  have HI := Lib.hid hi
  have HZ0 := Lib.hid hz0
  have HZ1 := Lib.hid hz1
  have HZ2 := Lib.hid hz2
  have LO := Lib.hid (show (xs.flatMap encS).length = l * 2 by rw [flat_len encS_len, HL.out])
  have LN := Lib.hid (show (encS x).length = 1 * 2 from rfl)
  have a1 : 0 + l ≤ maxLen := by unfold maxLen; omega
  have a2 : (0 + l) * 24 ≤ 140737488355328 := by omega
  have a3 : l + 1 ≤ maxLen := by unfold maxLen; omega
  have a4 : (l + 1) * 24 ≤ 140737488355328 := by omega
  have NH := Lib.hid (Syms.news1 HX.out)
  have ON := Lib.hid (World.ownsRow_nil (raW k s c A l d x w) (w.heap.size + 4) 27 2)
  obtain ⟨r0, r1, r2, r3, -, -, -, -⟩ := Q0.four
  obtain ⟨y0, y1, y2, y3, f0, f1, f2, f3⟩ := Q3.four
  clear hx b1 Q0 Q1 Q2 Q3 hi hz0 hz1 hz2
  go_enter Try.func16, Try.ntmps16
  go_wp2_with (first
    | (at_builtin; refine wpList_opt rfl _ _ 22 rfl (w.heap.size + 4) 27 i0 (.agg #[.int .u64 0, .string ⟨#[]⟩]) 2 24 Try.underlying22 HI.out HZ0.out HZ1.out HZ2.out rfl (by decide) (.slice none 0 0) 0 [] ?_ ON.out A l d (xs.flatMap encS) ?_ LO.out HN.out NH.out HE1.out a1 a2 (Nat.le_of_eq SZ.out.symm) ?_; simp [Act.eval, Act.put]; simp [Act.eval, Act.put]; intro v5 w5 hown hgrow; rw [Nat.zero_add, List.nil_append] at hown; obtain ⟨A5, c5, rfl, -⟩ := own_form hown; have P1 := Lib.hid (HQ1.out.grown hgrow (by intro h; cases h)); have P2 := Lib.hid (HQ2.out.grown hgrow (by intro h; cases h)); have P3 := Lib.hid (HQ3.out.grown hgrow (by intro h; cases h)); have HB5 := Lib.hid (HB.out.grown hgrow HB.out.size (fun k hk => by cases hk)); have SZ5 := Lib.hid (show w.heap.size + 4 ≤ w5.heap.size by have := hgrow.size; simp only [World.size_alloc] at this; omega); have M := Lib.hid (second_append (x := x) SZ5.out HB5.out P1.out P2.out P3.out hown (by decide)); clear hown hgrow r0 r1 r2 r3 y0 y1 y2 y3 f0 f1 f2 f3; obtain ⟨y0, y1, y2, y3, f0, f1, f2, f3⟩ := P3.out.four; obtain ⟨z0, z1, -, -⟩ := P1.out.two)
    | (at_builtin; refine wpList_append_own _ rfl _ _ 22 rfl (w.heap.size + 4) 27 i0 (.agg #[.int .u64 0, .string ⟨#[]⟩]) 2 24 Try.underlying22 HI.out HZ0.out HZ1.out HZ2.out rfl (by decide) (.slice A5 l c5) l (xs.flatMap encS) ?_ M.out.1 ⟨w5.heap.size, 0, none⟩ 1 1 (encS x) ?_ LN.out M.out.2.1 HE2.out a3 a4 M.out.2.2.1 ?_; simp [Act.eval, Act.put]; simp [Act.eval, Act.put]; intro v7 w7 hown hgrow _; obtain ⟨A7, c7, rfl, -⟩ := own_form hown; have R2 := Lib.hid (M.out.2.2.2.1.grown hgrow (own_row_ne M.out.1 (by omega))); have R3 := Lib.hid (M.out.2.2.2.2.1.grown hgrow (own_row_ne M.out.1 (by omega))); have HB7 := Lib.hid (M.out.2.2.2.2.2.grown hgrow M.out.2.2.2.2.2.size (own_row_le M.out.1)); have HO7 := Lib.hid (own_out hown); clear hown hgrow y0 y1 y2 y3 f0 f1 f2 f3; obtain ⟨y0, y1, y2, y3, f0, f1, f2, f3⟩ := R3.out.four; obtain ⟨s0, s1, s2, s3, g0, g1, g2, g3⟩ := R2.out.four))
  refine close_one Try.results16 rfl rfl (R2.out.far (p := ⟨w.heap.size + 3, 3, none⟩) (by simp) (.slice A7 (l + 1) c7)).put4 Try.underlying24 rfl (by kernel_rfl) ?_
  exact add_close1 HB7.out HO7.out HL.out
end
end Go.Proofs.Ytmfhimeffmpgaaa
