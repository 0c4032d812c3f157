/- Contracts of layer 12's reference: Has, Sizes, Right, Why. -/
import Derived.Test.YtcikoaeiopbbbaaEq2
namespace Go.Proofs.Ytcikoaeiopbbbaa
set_option linter.unusedVariables false
set_option linter.unusedSimpArgs false
open Go.RowKit
set_option maxRecDepth 100000
theorem refHas_any (id : Nat) (A : Option Addr) (l c : Nat) (xs : List SymR) (w : World) (hx : Syms w A l xs) (hl : l ≤ maxLen) :
    Calls Try.prog 32 #[.slice A l c, .int .u64 (id : Int)] w fun e w' => e = .returned (.bool (hasI xs id)) ∧ Below w.heap.size w w' := by
  unfold maxLen at hl
  have HX := Lib.hid hx
  have HXl := Lib.hid hx.1
  clear hx
  go_enter Try.func32, Try.ntmps32
  go_wp2_with fail
  go_loopw [9] (fun t wr => ∃ i : Nat, i ≤ l ∧ t = .int .i64 (i : Int) ∧ Hid (hasI (xs.take i) id = false) ∧ Hid (Below w.heap.size w wr)) (fun t _ => l - (intOf t).toNat)
  case atStart => exact ⟨0, Nat.zero_le _, rfl, Lib.hid rfl, Lib.hid (Below.refl _ _)⟩
  case round =>
    obtain ⟨i, hi, rfl, HS, HB⟩ := hrel
    by_cases hlt : i < l
    · have hlt' : (i : Int) < (l : Int) := Int.ofNat_lt.2 hlt
      obtain ⟨b, off, rfl, hb, x0, x1⟩ := Syms.two HX.out i hlt
      have x0 := (HB.out.cell (p := ⟨b, off + i * 2, none⟩) hb).trans x0
      have x1 := (HB.out.cell (p := ⟨b, off + i * 2 + 1, none⟩) hb).trans x1
      have HN := Lib.hid (hasI_snoc xs id i (by rw [HXl.out]; exact hlt))
      have HU := Lib.hid (hasI_up xs id (i + 1))
      have G := Lib.hid (Box.new wr 29 #[.int .u64 ((xs.getD i default).1 : Nat), .string (xs.getD i default).2])
      have HB := Lib.hid (HB.out.alloc HB.out.size (.cells #[.int .u64 ((xs.getD i default).1 : Nat), .string (xs.getD i default).2] 29))
      generalize xs.getD i default = p at *
      obtain ⟨p0, p1⟩ := p
      dsimp only at x0 x1 G HB HN
      obtain ⟨g0, g1, -, -⟩ := G.out.two
      have ei : (((p0 : Nat) : Int) == (id : Int)) = (p0 == id) := by rw [Bool.eq_iff_iff]; simp; omega
      cases hs : (p0 == id) with
      | true =>
        rw [hs] at HN ei
        have HE := Lib.hid (show hasI xs id = true from HU.out (by rw [HN.out]; simp))
        clear hs
        go_wp2_with fail
        go_ret
        exact ⟨by rw [HE.out]; rfl, HB.out⟩
      | false =>
        rw [hs] at HN ei
        have HN2 := Lib.hid (show hasI (xs.take (i + 1)) id = false by rw [HN.out, HS.out]; rfl)
        clear hs
        go_wp2_with fail
        go_roundw
        case rel => exact ⟨i + 1, hlt, by go_num, HN2, HB⟩
        case measure => simp [intOf] <;> omega
    · obtain rfl : i = l := Nat.le_antisymm hi (Nat.le_of_not_lt hlt)
      have hlt' : ¬ (i : Int) < (i : Int) := Int.lt_irrefl _
      have HE := Lib.hid (show hasI xs id = false by have := HS.out; rwa [List.take_of_length_le (by rw [HXl.out]; exact Nat.le_refl _)] at this)
      go_wp2_with fail
      go_ret
      exact ⟨by rw [HE.out]; rfl, HB.out⟩
def sizesB (k s c : Int) : Bool := kB k 1 64 && kB s 0 64 && kB c 1 64
theorem storeB_eq (k s c : Int) (xs : List SymR) : storeB k s c xs = (sizesB k s c && decide ((xs.length : Int) ≤ c) && (allB s xs && !twiceB xs)) := by
  unfold storeB sizesB
  cases kB k 1 64 <;> cases kB s 0 64 <;> cases kB c 1 64 <;> cases decide ((xs.length : Int) ≤ c) <;> cases allB s xs <;> cases twiceB xs <;> rfl
theorem refSizes_any (k s c : Int) (w : World) : Calls Try.prog 14 #[.int .i64 k, .int .i64 s, .int .i64 c] w fun e w' => e = .returned (.bool (sizesB k s c)) ∧ w = w' := by
  by_cases h0 : 1 ≤ k
  · by_cases h1 : k ≤ 64
    · by_cases h2 : 0 ≤ s
      · by_cases h3 : s ≤ 64
        · by_cases h4 : 1 ≤ c
          · by_cases h5 : c ≤ 64
            · go_enter Try.func14, Try.ntmps14
              go_wp2_with fail
              go_ret
              exact ⟨by simp [sizesB, kB, h0, h1, h2, h3, h4, h5], rfl⟩
            · have t : decide (c ≤ 64) = false := by simpa using h5
              go_enter Try.func14, Try.ntmps14
              go_wp2_with fail
              go_ret
              exact ⟨by unfold sizesB kB; rw [t]; simp, rfl⟩
          · have t : decide (1 ≤ c) = false := by simpa using h4
            go_enter Try.func14, Try.ntmps14
            go_wp2_with fail
            go_ret
            exact ⟨by unfold sizesB kB; rw [t]; simp, rfl⟩
        · have t : decide (s ≤ 64) = false := by simpa using h3
          go_enter Try.func14, Try.ntmps14
          go_wp2_with fail
          go_ret
          exact ⟨by unfold sizesB kB; rw [t]; simp, rfl⟩
      · have t : decide (0 ≤ s) = false := by simpa using h2
        go_enter Try.func14, Try.ntmps14
        go_wp2_with fail
        go_ret
        exact ⟨by unfold sizesB kB; rw [t]; simp, rfl⟩
    · have t : decide (k ≤ 64) = false := by simpa using h1
      go_enter Try.func14, Try.ntmps14
      go_wp2_with fail
      go_ret
      exact ⟨by unfold sizesB kB; rw [t]; simp, rfl⟩
  · have t : decide (1 ≤ k) = false := by simpa using h0
    go_enter Try.func14, Try.ntmps14
    go_wp2_with fail
    go_ret
    exact ⟨by unfold sizesB kB; rw [t]; simp, rfl⟩
def twiceTo (xs : List SymR) (k : Nat) : Bool := (List.range k).any fun i => hasI (xs.take i) (xs.getD i default).1
theorem twiceTo_snoc (xs : List SymR) (k : Nat) (h : k < xs.length) : twiceTo xs (k + 1) = (twiceTo xs k || hasI (xs.take k) (xs.getD k default).1) := twice_snoc xs k h
set_option maxHeartbeats 2000000 in
theorem refRight12_any (k s c : Int) (A : Option Addr) (l d : Nat) (xs : List SymR) (w : World) (hx : Syms w A l xs) (hl : l ≤ d) (hd : d ≤ maxLen) :
    Calls Try.prog 18 #[.agg #[.int .i64 k, .int .i64 s, .int .i64 c, .slice A l d]] w fun e w' => e = .returned (.bool (storeB k s c xs)) ∧ Below w.heap.size w w' := by
  have hd2 := hd
  unfold maxLen at hd
  have b1 : Below w.heap.size w (w.alloc (.cells #[.int .i64 k, .int .i64 s, .int .i64 c, .slice A l d] 25)) := (Below.refl _ _).alloc (Nat.le_refl _) _
  have Q := Lib.hid (Box.new w 25 #[.int .i64 k, .int .i64 s, .int .i64 c, .slice A l d])
  have HX := Lib.hid (hx.below b1)
  have HXl := Lib.hid hx.1
  have HB0 := Lib.hid b1
  have HST := Lib.hid (storeB_eq k s c xs)
  have HSZ := Lib.hid (fun w => refSizes_any k s c w)
  generalize sizesB k s c = sb at *
  obtain ⟨r0, r1, r2, r3, -, -, -, -⟩ := Q.out.four
  clear hx b1
  go_enter Try.func18, Try.ntmps18
  go_wp2_with fail
  go_loopw [8] (fun t wr => ∃ i : Nat, i ≤ l ∧ t = .int .i64 (i : Int) ∧ Hid (allB s (xs.take i) = true ∧ twiceTo xs i = false) ∧ Hid (Below (w.alloc (.cells #[.int .i64 k, .int .i64 s, .int .i64 c, .slice A l d] 25)).heap.size (w.alloc (.cells #[.int .i64 k, .int .i64 s, .int .i64 c, .slice A l d] 25)) wr)) (fun t _ => l - (intOf t).toNat)
  case atStart => exact ⟨0, Nat.zero_le _, rfl, Lib.hid ⟨rfl, rfl⟩, Lib.hid (Below.refl _ _)⟩
  case round =>
    obtain ⟨i, hi, rfl, HS, HB⟩ := hrel
    by_cases hlt : i < l
    · have hlt' : (i : Int) < (l : Int) := Int.ofNat_lt.2 hlt
      obtain ⟨b, off, rfl, hb, x0, x1⟩ := Syms.two HX.out i hlt
      have x0 := (HB.out.cell (p := ⟨b, off + i * 2, none⟩) hb).trans x0
      have x1 := (HB.out.cell (p := ⟨b, off + i * 2 + 1, none⟩) hb).trans x1
      have HN := Lib.hid (twiceTo_snoc xs i (by rw [HXl.out]; exact hlt))
      have HM := Lib.hid (allB_snoc s xs i (by rw [HXl.out]; exact hlt))
      have HU := Lib.hid (twice_up xs i (by rw [HXl.out]; exact hlt))
      have HV := Lib.hid (allB_up s xs (i + 1))
      have G := Lib.hid (Box.new wr 29 #[.int .u64 ((xs.getD i default).1 : Nat), .string (xs.getD i default).2])
      have Q := Lib.hid ((Q.out.keep HB.out).alloc (.cells #[.int .u64 ((xs.getD i default).1 : Nat), .string (xs.getD i default).2] 29))
      have HB := Lib.hid (HB.out.alloc HB.out.size (.cells #[.int .u64 ((xs.getD i default).1 : Nat), .string (xs.getD i default).2] 29))
      have HT := Lib.hid ((HX.out.take i (by omega)).mono (Nat.le_refl _) HB.out)
      have HH := Lib.hid (refHas_any (xs.getD i default).1 (some ⟨b, off, none⟩) i d (xs.take i) _ HT.out.drew (by unfold maxLen; omega))
      have i1 : (i : Int) ≤ (d : Int) := by omega
      have i2 : (i : Int) ≤ (l : Int) := by omega
      generalize xs.getD i default = p at *
      obtain ⟨p0, p1⟩ := p
      dsimp only at x0 x1 G HB HN HM HU HH Q
      generalize hW2 : wr.alloc (.cells #[.int .u64 (p0 : Nat), .string p1] 29) = W2 at *
      clear r0 r1 r2 r3
      obtain ⟨r0, r1, r2, r3, -, -, -, -⟩ := Q.out.four
      obtain ⟨g0, g1, -, -⟩ := G.out.two
      cases hs : ((p1.size : Int) == s) with
      | false =>
        rw [hs] at HM
        have hs2 : ((p1.size : Int) != s) = true := by simp [bne, hs]
        have HE := Lib.hid (show storeB k s c xs = false by rw [HST.out, HV.out (by rw [HM.out]; simp)]; simp)
        clear hs
        go_wp2_with fail
        clear hW2
        go_quiet (fail)
        go_wp2_with fail
        go_ret
        exact ⟨by rw [HE.out]; rfl, chain HB0.out (bdN HB.out _)⟩
      | true =>
        rw [hs] at HM
        have hs2 : ((p1.size : Int) != s) = false := by simp [bne, hs]
        clear hs
        cases ht : hasI (xs.take i) p0 with
        | true =>
          rw [ht] at HH
          have HE := Lib.hid (show storeB k s c xs = false by rw [HST.out, HU.out ht]; simp)
          clear ht
          go_wp2_with fail
          clear hW2
          go_region_with (go_at_call 32; refine HH.out.mono ?_; rintro e w1 ⟨rfl, hb1⟩; have HB := Lib.hid (chain HB.out.drew hb1); clear hb1)
          all_goals
            go_wp2_with fail
            go_ret
            exact ⟨by rw [HE.out]; rfl, chain HB0.out HB.out⟩
        | false =>
          rw [ht] at HH
          have HN2 := Lib.hid (show allB s (xs.take (i + 1)) = true ∧ twiceTo xs (i + 1) = false from ⟨by rw [HM.out, HS.out.1]; rfl, by rw [HN.out, HS.out.2, ht]; rfl⟩)
          clear ht
          go_wp2_with fail
          clear hW2
          go_region_with (go_at_call 32; refine HH.out.mono ?_; rintro e w1 ⟨rfl, hb1⟩; have HB := Lib.hid (chain HB.out.drew hb1); clear hb1)
          all_goals
            go_wp2_with fail
            go_roundw
            case rel => exact ⟨i + 1, hlt, by go_num, HN2, HB⟩
            case measure => simp [intOf] <;> omega
    · obtain rfl : i = l := Nat.le_antisymm hi (Nat.le_of_not_lt hlt)
      have hlt' : ¬ (i : Int) < (i : Int) := Int.lt_irrefl _
      have HA := Lib.hid (show allB s xs = true by have := HS.out.1; rwa [List.take_of_length_le (by rw [HXl.out]; exact Nat.le_refl _)] at this)
      have HW := Lib.hid (show twiceB xs = false by unfold twiceB; rw [HXl.out]; exact HS.out.2)
      have HS2 := Lib.hid (show storeB k s c xs = (sb && decide ((i : Int) ≤ c)) by rw [HST.out, HA.out, HW.out, HXl.out]; simp)
      have Q := Lib.hid (Q.out.keep HB.out)
      clear r0 r1 r2 r3
      obtain ⟨r0, r1, r2, r3, -, -, -, -⟩ := Q.out.four
      cases sb with
      | false =>
        go_wp2_with fail
        refine (HSZ.out _).mono ?_
        rintro e w1 ⟨rfl, rfl⟩
        go_wp2_with fail
        go_ret
        exact ⟨by rw [HS2.out]; rfl, chain HB0.out HB.out⟩
      | true =>
        by_cases hic : (i : Int) ≤ c
        · have t : decide ((i : Int) ≤ c) = true := decide_eq_true hic
          rw [t] at HS2
          go_wp2_with fail
          refine (HSZ.out _).mono ?_
          rintro e w1 ⟨rfl, rfl⟩
          go_wp2_with fail
          go_ret
          exact ⟨by rw [HS2.out]; rfl, chain HB0.out HB.out⟩
        · have t : decide ((i : Int) ≤ c) = false := decide_eq_false hic
          rw [t] at HS2
          go_wp2_with fail
          refine (HSZ.out _).mono ?_
          rintro e w1 ⟨rfl, rfl⟩
          go_wp2_with fail
          go_ret
          exact ⟨by rw [HS2.out]; rfl, chain HB0.out HB.out⟩
def whyI (s c : Int) (xs : List SymR) (x : SymR) : Int := if (x.2.size : Int) != s then 2 else if hasI xs x.1 then 8 else if (xs.length : Int) == c then 7 else 0
end Go.Proofs.Ytcikoaeiopbbbaa
