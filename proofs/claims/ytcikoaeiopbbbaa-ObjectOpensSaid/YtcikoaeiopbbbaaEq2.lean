/- Contracts of layer 12: Right. -/
import Derived.Test.YtcikoaeiopbbbaaEq1
namespace Go.Proofs.Ytcikoaeiopbbbaa
set_option linter.unusedVariables false
set_option linter.unusedSimpArgs false
open Go.RowKit
set_option maxRecDepth 100000
def kB (x a b : Int) : Bool := decide (a ≤ x) && decide (x ≤ b)
def storeB (k s c : Int) (xs : List SymR) : Bool := kB k 1 64 && kB s 0 64 && kB c 1 64 && decide ((xs.length : Int) ≤ c) && allB s xs && !twiceB xs
/-- A store's box: four cells. -/
def storeC (k s c : Int) (A : Option Addr) (l d : Nat) : Array Value := #[.int .i64 k, .int .i64 s, .int .i64 c, .slice A l d]
theorem Box.four {w : World} {g : Nat} {t : TypeId} {a b c d : Value} (h : Box w g t #[a, b, c, d]) : w.cell? ⟨g, 0, none⟩ = some a ∧ w.cell? ⟨g, 1, none⟩ = some b ∧ w.cell? ⟨g, 2, none⟩ = some c ∧ w.cell? ⟨g, 3, none⟩ = some d ∧ w.frozen? ⟨g, 0, none⟩ = false ∧ w.frozen? ⟨g, 1, none⟩ = false ∧ w.frozen? ⟨g, 2, none⟩ = false ∧ w.frozen? ⟨g, 3, none⟩ = false :=
  ⟨h.cell 0, h.cell 1, h.cell 2, h.cell 3, h.free 0, h.free 1, h.free 2, h.free 3⟩
section
variable (k s c : Int) (A : Option Addr) (l d g : Nat) (w : World) (xs : List SymR)
theorem right1_any (hb : Box w g 25 #[.int .i64 k, .int .i64 s, .int .i64 c, .slice A l d]) :
    Calls Try.prog 22 #[.pointer (some ⟨g, 0, none⟩)] w fun e w' => e = .returned (.int .i64 (whenI (!kB k 1 64) 1)) ∧ Below w.heap.size w w' := by
  obtain ⟨h0, h1, h2, h3, -, -, -, -⟩ := hb.four
  have HW := Lib.hid (within_any k 1 64 w)
  have hk : (decide (1 ≤ k) && decide (k ≤ 64)) = kB k 1 64 := rfl
  rw [hk] at HW
  clear hk
  generalize kB k 1 64 = b at *
  go_enter Try.func22, Try.ntmps22
  go_wp2_with fail
  refine HW.out.mono ?_
  rintro e w1 ⟨rfl, rfl⟩
  go_wp2_with fail
  refine (when_any (!b) 1 _).mono ?_
  rintro e w1 ⟨rfl, rfl⟩
  go_wp2_with fail
  go_ret
  exact ⟨rfl, Below.refl _ _⟩
theorem right2_any (hb : Box w g 25 #[.int .i64 k, .int .i64 s, .int .i64 c, .slice A l d]) :
    Calls Try.prog 25 #[.pointer (some ⟨g, 0, none⟩)] w fun e w' => e = .returned (.int .i64 (whenI (!kB s 0 64) 1)) ∧ Below w.heap.size w w' := by
  obtain ⟨h0, h1, h2, h3, -, -, -, -⟩ := hb.four
  have HW := Lib.hid (within_any s 0 64 w)
  have hk : (decide (0 ≤ s) && decide (s ≤ 64)) = kB s 0 64 := rfl
  rw [hk] at HW
  clear hk
  generalize kB s 0 64 = b at *
  go_enter Try.func25, Try.ntmps25
  go_wp2_with fail
  refine HW.out.mono ?_
  rintro e w1 ⟨rfl, rfl⟩
  go_wp2_with fail
  refine (when_any (!b) 1 _).mono ?_
  rintro e w1 ⟨rfl, rfl⟩
  go_wp2_with fail
  go_ret
  exact ⟨rfl, Below.refl _ _⟩
theorem right3_any (hb : Box w g 25 #[.int .i64 k, .int .i64 s, .int .i64 c, .slice A l d]) :
    Calls Try.prog 26 #[.pointer (some ⟨g, 0, none⟩)] w fun e w' => e = .returned (.int .i64 (whenI (!kB c 1 64) 1)) ∧ Below w.heap.size w w' := by
  obtain ⟨h0, h1, h2, h3, -, -, -, -⟩ := hb.four
  have HW := Lib.hid (within_any c 1 64 w)
  have hk : (decide (1 ≤ c) && decide (c ≤ 64)) = kB c 1 64 := rfl
  rw [hk] at HW
  clear hk
  generalize kB c 1 64 = b at *
  go_enter Try.func26, Try.ntmps26
  go_wp2_with fail
  refine HW.out.mono ?_
  rintro e w1 ⟨rfl, rfl⟩
  go_wp2_with fail
  refine (when_any (!b) 1 _).mono ?_
  rintro e w1 ⟨rfl, rfl⟩
  go_wp2_with fail
  go_ret
  exact ⟨rfl, Below.refl _ _⟩
theorem right4_any (hb : Box w g 25 #[.int .i64 k, .int .i64 s, .int .i64 c, .slice A l d]) :
    Calls Try.prog 27 #[.pointer (some ⟨g, 0, none⟩)] w fun e w' => e = .returned (.int .i64 (whenI (decide (c < (l : Int))) 1)) ∧ Below w.heap.size w w' := by
  obtain ⟨h0, h1, h2, h3, -, -, -, -⟩ := hb.four
  by_cases hlt : c < (l : Int)
  · have ht : decide (c < (l : Int)) = true := decide_eq_true hlt
    rw [ht]
    go_enter Try.func27, Try.ntmps27
    go_wp2_with fail
    refine (when_any true 1 _).mono ?_
    rintro e w1 ⟨rfl, rfl⟩
    go_wp2_with fail
    go_ret
    exact ⟨rfl, Below.refl _ _⟩
  · have ht : decide (c < (l : Int)) = false := decide_eq_false hlt
    rw [ht]
    go_enter Try.func27, Try.ntmps27
    go_wp2_with fail
    refine (when_any false 1 _).mono ?_
    rintro e w1 ⟨rfl, rfl⟩
    go_wp2_with fail
    go_ret
    exact ⟨rfl, Below.refl _ _⟩
theorem right5_any (hb : Box w g 25 #[.int .i64 k, .int .i64 s, .int .i64 c, .slice A l d]) (hx : Syms w A l xs) (hl : l ≤ maxLen) :
    Calls Try.prog 28 #[.pointer (some ⟨g, 0, none⟩)] w fun e w' => e = .returned (.int .i64 (whenI (!allB s xs) 1)) ∧ Below w.heap.size w w' := by
  obtain ⟨h0, h1, h2, h3, -, -, -, -⟩ := hb.four
  have HA := Lib.hid (eallHave_any s A l d xs w hx hl)
  generalize allB s xs = b at *
  clear hx
  go_enter Try.func28, Try.ntmps28
  go_wp2_with fail
  refine HA.out.mono ?_
  rintro e w1 ⟨rfl, hb1⟩
  go_wp2_with fail
  refine (when_any (!b) 1 _).mono ?_
  rintro e w1 ⟨rfl, rfl⟩
  go_wp2_with fail
  go_ret
  exact ⟨rfl, hb1⟩
theorem right6_any (hb : Box w g 25 #[.int .i64 k, .int .i64 s, .int .i64 c, .slice A l d]) (hx : Syms w A l xs) (hl : l ≤ d) (hd : d ≤ maxLen) :
    Calls Try.prog 30 #[.pointer (some ⟨g, 0, none⟩)] w fun e w' => e = .returned (.int .i64 (whenI (twiceB xs) 1)) ∧ Below w.heap.size w w' := by
  obtain ⟨h0, h1, h2, h3, -, -, -, -⟩ := hb.four
  have HA := Lib.hid (twice_any A l d xs w hx hl hd)
  generalize twiceB xs = b at *
  clear hx
  go_enter Try.func30, Try.ntmps30
  go_wp2_with fail
  refine HA.out.mono ?_
  rintro e w1 ⟨rfl, hb1⟩
  go_wp2_with fail
  refine (when_any b 1 _).mono ?_
  rintro e w1 ⟨rfl, rfl⟩
  go_wp2_with fail
  go_ret
  exact ⟨rfl, hb1⟩
end
def rightAns (k s c : Int) (xs : List SymR) : List Int := [whenI (!kB k 1 64) 1, whenI (!kB s 0 64) 1, whenI (!kB c 1 64) 1, whenI (decide (c < (xs.length : Int))) 1, whenI (!allB s xs) 1, whenI (twiceB xs) 1]
theorem rightAns_ok (k s c : Int) (xs : List SymR) : (firstI (rightAns k s c xs) == 0) = storeB k s c xs := by
  unfold rightAns storeB
  have e : decide ((xs.length : Int) ≤ c) = !decide (c < (xs.length : Int)) := by rw [Bool.eq_iff_iff]; simp
  rw [e]
  cases kB k 1 64 <;> cases kB s 0 64 <;> cases kB c 1 64 <;> cases decide (c < (xs.length : Int)) <;> cases allB s xs <;> cases twiceB xs <;> rfl
def rightFs (g : Nat) : Nat → Nat × Array Value := fun j => ([22, 25, 26, 27, 28, 30].getD j 0, #[.pointer (some ⟨g, 0, none⟩)])
set_option maxHeartbeats 1000000 in
theorem eright_any (k s c : Int) (A : Option Addr) (l d : Nat) (xs : List SymR) (w : World) (hx : Syms w A l xs) (hl : l ≤ d) (hd : d ≤ maxLen) :
    Calls Try.prog 17 #[.agg #[.int .i64 k, .int .i64 s, .int .i64 c, .slice A l d]] w fun e w' => e = .returned (.bool (storeB k s c xs)) ∧ Below w.heap.size w w' := by
  have b1 : Below w.heap.size w ((w.alloc (.cells #[.int .i64 k, .int .i64 s, .int .i64 c, .slice A l d] 25)).alloc (.cells #[.func (.func 22) #[] #[.pointer (some ⟨w.heap.size, 0, none⟩)], .func (.func 25) #[] #[.pointer (some ⟨w.heap.size, 0, none⟩)], .func (.func 26) #[] #[.pointer (some ⟨w.heap.size, 0, none⟩)], .func (.func 27) #[] #[.pointer (some ⟨w.heap.size, 0, none⟩)], .func (.func 28) #[] #[.pointer (some ⟨w.heap.size, 0, none⟩)], .func (.func 30) #[] #[.pointer (some ⟨w.heap.size, 0, none⟩)]] 56)) := ((Below.refl _ _).alloc (Nat.le_refl _) _).alloc (by simp) _
  have Q := (Box.new w 25 #[.int .i64 k, .int .i64 s, .int .i64 c, .slice A l d]).alloc (.cells #[.func (.func 22) #[] #[.pointer (some ⟨w.heap.size, 0, none⟩)], .func (.func 25) #[] #[.pointer (some ⟨w.heap.size, 0, none⟩)], .func (.func 26) #[] #[.pointer (some ⟨w.heap.size, 0, none⟩)], .func (.func 27) #[] #[.pointer (some ⟨w.heap.size, 0, none⟩)], .func (.func 28) #[] #[.pointer (some ⟨w.heap.size, 0, none⟩)], .func (.func 30) #[] #[.pointer (some ⟨w.heap.size, 0, none⟩)]] 56)
  have F := Box.new (w.alloc (.cells #[.int .i64 k, .int .i64 s, .int .i64 c, .slice A l d] 25)) 56 #[.func (.func 22) #[] #[.pointer (some ⟨w.heap.size, 0, none⟩)], .func (.func 25) #[] #[.pointer (some ⟨w.heap.size, 0, none⟩)], .func (.func 26) #[] #[.pointer (some ⟨w.heap.size, 0, none⟩)], .func (.func 27) #[] #[.pointer (some ⟨w.heap.size, 0, none⟩)], .func (.func 28) #[] #[.pointer (some ⟨w.heap.size, 0, none⟩)], .func (.func 30) #[] #[.pointer (some ⟨w.heap.size, 0, none⟩)]]
  simp only [World.size_alloc] at F
  have hX := hx.below b1
  have hxl := hx.1
  have hA : AskedOf Try.prog ((w.alloc (.cells #[.int .i64 k, .int .i64 s, .int .i64 c, .slice A l d] 25)).alloc (.cells #[.func (.func 22) #[] #[.pointer (some ⟨w.heap.size, 0, none⟩)], .func (.func 25) #[] #[.pointer (some ⟨w.heap.size, 0, none⟩)], .func (.func 26) #[] #[.pointer (some ⟨w.heap.size, 0, none⟩)], .func (.func 27) #[] #[.pointer (some ⟨w.heap.size, 0, none⟩)], .func (.func 28) #[] #[.pointer (some ⟨w.heap.size, 0, none⟩)], .func (.func 30) #[] #[.pointer (some ⟨w.heap.size, 0, none⟩)]] 56)) (w.heap.size + 1) 0 (rightFs w.heap.size) (rightAns k s c xs) := by
    refine ⟨F.lt, ?_, ?_, ?_⟩
    · intro j hj
      have hj : j < 6 := hj
      rw [Nat.zero_add, F.cell j]
      match j, hj with
      | 0, _ => rfl
      | 1, _ => rfl
      | 2, _ => rfl
      | 3, _ => rfl
      | 4, _ => rfl
      | 5, _ => rfl
    · intro j hj
      have hj : j < 6 := hj
      match j, hj with
      | 0, _ => exact enters_of Try.func22 (by kernel_rfl) rfl
      | 1, _ => exact enters_of Try.func25 (by kernel_rfl) rfl
      | 2, _ => exact enters_of Try.func26 (by kernel_rfl) rfl
      | 3, _ => exact enters_of Try.func27 (by kernel_rfl) rfl
      | 4, _ => exact enters_of Try.func28 (by kernel_rfl) rfl
      | 5, _ => exact enters_of Try.func30 (by kernel_rfl) rfl
    · intro j hj w' hb _
      have hj : j < 6 := hj
      have q := Q.keep hb
      have hX' := hX.below hb
      match j, hj with
      | 0, _ => exact right1_any k s c A l d w.heap.size w' q
      | 1, _ => exact right2_any k s c A l d w.heap.size w' q
      | 2, _ => exact right3_any k s c A l d w.heap.size w' q
      | 3, _ =>
        have h := right4_any k s c A l d w.heap.size w' q
        rw [← hxl] at h
        rw [← hxl] at q
        exact right4_any k s c A xs.length d w.heap.size w' q
      | 4, _ => exact right5_any k s c A l d w.heap.size w' xs q hX' (Nat.le_trans hl hd)
      | 5, _ => exact right6_any k s c A l d w.heap.size w' xs q hX' hl hd
  have HC := Lib.hid (efirst_any (w.heap.size + 1) 0 6 (rightFs w.heap.size) (rightAns k s c xs) _ (by show 6 ≤ 100; omega) hA)
  have HR := Lib.hid (rightAns_ok k s c xs)
  have HB := Lib.hid b1
  rw [show (rightAns k s c xs).length = 6 from rfl] at HC
  generalize firstI (rightAns k s c xs) = r at *
  clear hA hX hx b1 Q F
  go_enter Try.func17, Try.ntmps17
  go_wp2_with fail
  refine HC.out.mono ?_
  rintro e w1 ⟨rfl, hb⟩
  have HB := Lib.hid (chain HB.out hb)
  clear hb
  go_wp2_with fail
  go_ret
  exact ⟨by rw [← HR.out]; rfl, HB.out⟩
end Go.Proofs.Ytcikoaeiopbbbaa
