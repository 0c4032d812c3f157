/- Layer 13: byNumber, its closure, slices.BinarySearchFunc. -/
import Derived.Test.YtehlebeeoeghmaaShG
import Derived.Deep.RegionHeld3
namespace Go.Proofs.Ytehlebeeoeghmaa
set_option linter.unusedVariables false
set_option linter.unusedSimpArgs false
open Go.RowKit Go.Lib
set_option maxRecDepth 100000
def cmpI (x y : Int) : Int := if x < y then -1 else if y < x then 1 else 0
theorem cmpI_lt (x y : Int) : cmpI x y < 0 ↔ x < y := by unfold cmpI; split <;> (try split) <;> constructor <;> intro h <;> omega
theorem cmpI_zero (x y : Int) : cmpI x y = 0 ↔ x = y := by unfold cmpI; split <;> (try split) <;> constructor <;> intro h <;> omega
set_option maxHeartbeats 1000000 in
theorem cmpNat_any (x y : Nat) (w : World) : Calls Try.prog 44 #[.int .u64 (x : Int), .int .u64 (y : Int)] w fun e w' => e = .returned (.int .i64 (cmpI x y)) ∧ w = w' := by
  have tx : ((x : Int) != x) = false := by simp
  have ty : ((y : Int) != y) = false := by simp
  go_enter Try.func44, Try.ntmps44
  by_cases h1 : (x : Int) < y
  · have HE := Lib.hid (show cmpI x y = -1 from if_pos h1)
    go_wp2
    go_ret
    exact ⟨by rw [HE.out]; rfl, rfl⟩
  · by_cases h2 : (y : Int) < x
    · have HE := Lib.hid (show cmpI x y = 1 by unfold cmpI; rw [if_neg h1, if_pos h2])
      go_wp2
      go_ret
      exact ⟨by rw [HE.out]; rfl, rfl⟩
    · have HE := Lib.hid (show cmpI x y = 0 by unfold cmpI; rw [if_neg h1, if_neg h2])
      go_wp2
      go_ret
      exact ⟨by rw [HE.out]; rfl, rfl⟩
theorem number_any (x : SymR) (w : World) : Calls Try.prog 29 #[.agg (smA x)] w fun e w' => e = .returned (.int .u64 (x.1 : Int)) ∧ Below w.heap.size w w' := by
  have W1 := Lib.hid ((Below.refl w.heap.size w).alloc (Nat.le_refl _) (.cells (smA x) 63))
  have Q := Lib.hid (Box.new w 63 (smA x))
  obtain ⟨x0, x1⟩ := x
  obtain ⟨g0, g1, -, -⟩ := Q.out.two
  go_enter Try.func29, Try.ntmps29
  go_wp2_with fail
  go_ret
  exact ⟨rfl, W1.out⟩
abbrev numF : Value := .func (.func 29) #[] #[]
abbrev cmpF (g : Nat) : Value := .func (.func 43) #[] #[.pointer (some ⟨g, 0, none⟩)]
theorem byNumber_any (w : World) : Calls Try.prog 28 #[numF] w fun e w' => e = .returned (cmpF w.heap.size) ∧ w' = w.alloc (.cells #[numF] 61) := by
  go_enter Try.func28, Try.ntmps28
  go_wp2_with fail
  go_ret
  exact ⟨rfl, rfl⟩
set_option maxHeartbeats 4000000 in
theorem cmpS_any (g : Nat) (a b : SymR) (w : World) (hg : Box w g 61 #[numF]) : Calls Try.prog 43 (#[.agg (smA a), .agg (smA b)] ++ #[.pointer (some ⟨g, 0, none⟩)]) w fun e w' => e = .returned (.int .i64 (cmpI (a.1 : Int) (b.1 : Int))) ∧ Below w.heap.size w w' := by
  have eg : ∀ args w, (callFunc 29 args).run Try.prog w = .ok (.enter 29 args) w := enters_of Try.func29 (by kernel_rfl) rfl
  have hb1 : Below w.heap.size w (w.alloc (.cells (smA a) 27)) := (Below.refl w.heap.size w).alloc (Nat.le_refl _) _
  have W1 := Lib.hid (hb1.alloc hb1.size (.cells (smA b) 27)).drew
  have QA := Lib.hid ((Box.new w 27 (smA a)).alloc (.cells (smA b) 27)).drew
  have QB0 := Box.new (w.alloc (.cells (smA a) 27)) 27 (smA b)
  simp only [World.size_alloc] at QB0
  have QB := Lib.hid QB0.drew
  have HG := Lib.hid (hg.keep W1.out)
  have HNa := Lib.hid (fun w => number_any a w)
  have HNb := Lib.hid (fun w => number_any b w)
  have HCm := Lib.hid (fun w => cmpNat_any a.1 b.1 w)
  clear hg hb1 QB0
  obtain ⟨a0, a1⟩ := a
  obtain ⟨b0, b1⟩ := b
  obtain ⟨r0, r1, -, -⟩ := QA.out.two
  obtain ⟨s0, s1, -, -⟩ := QB.out.two
  have g0 := HG.out.cell 0
  go_enter Try.func43, Try.ntmps43
  go_upto_region 1 with (fail)
  go_region_held3 (fun (w' : World) => w'.cell? ⟨g, 0, none⟩ = some numF ∧ w'.cell? ⟨w.heap.size, 0, none⟩ = some (.int .u64 (a0 : Int)) ∧ w'.cell? ⟨w.heap.size, 1, none⟩ = some (.string a1) ∧ w'.cell? ⟨w.heap.size + 1, 0, none⟩ = some (.int .u64 (b0 : Int)) ∧ w'.cell? ⟨w.heap.size + 1, 1, none⟩ = some (.string b1)) (go_keep) (first
    | (go_at_call 44; ((with_reducible refine (HCm.out _).mono ?_); rintro e w3 ⟨rfl, rfl⟩))
    | (go_at_call 29; ((with_reducible refine (HNa.out _).mono ?_); rintro e wa ⟨rfl, hb⟩; have W2 := Lib.hid (chain W1.out hb); have QA2 := Lib.hid (QA.out.keep hb); have QB2 := Lib.hid (QB.out.keep hb); have HG2 := Lib.hid (HG.out.keep hb); clear hb; obtain ⟨p0, p1, -, -⟩ := QA2.out.two; obtain ⟨q0, q1, -, -⟩ := QB2.out.two; have n0 := HG2.out.cell 0))
    | (go_at_call 29; ((with_reducible refine (HNb.out _).mono ?_); rintro e wb ⟨rfl, hb⟩; have W3 := Lib.hid (chain W2.out hb); have QA3 := Lib.hid (QA2.out.keep hb); have QB3 := Lib.hid (QB2.out.keep hb); have HG3 := Lib.hid (HG2.out.keep hb); clear hb; obtain ⟨p0, p1, -, -⟩ := QA3.out.two; obtain ⟨q0, q1, -, -⟩ := QB3.out.two; have n0 := HG3.out.cell 0)))
  go_wp2_with fail
  go_ret
  exact ⟨rfl, W3.out⟩
/-- The place at which a number stands, or would. -/
def PlaceOf (xs : List SymR) (id i : Nat) : Prop := i ≤ xs.length ∧ (∀ k, k < i → (xs.getD k default).1 < id) ∧ ∀ k, i ≤ k → k < xs.length → id ≤ (xs.getD k default).1
theorem pw_lt {xs : List SymR} (hp : xs.Pairwise ltS) {i j : Nat} (hij : i < j) (hj : j < xs.length) : (xs.getD i default).1 < (xs.getD j default).1 := by
  have h := List.pairwise_iff_getElem.1 hp i j (by omega) hj hij
  have e1 : xs.getD i default = xs[i] := by simp [List.getD, show i < xs.length by omega]
  have e2 : xs.getD j default = xs[j] := by simp [List.getD, hj]
  rw [e1, e2]
  exact h
theorem has_place {xs : List SymR} {id i : Nat} (h : PlaceOf xs id i) (hp : xs.Pairwise ltS) : hasI xs id = (decide (i < xs.length) && decide ((xs.getD i default).1 = id)) := by
  rw [Bool.eq_iff_iff]
  unfold hasI
  rw [List.any_eq_true, Bool.and_eq_true, decide_eq_true_eq, decide_eq_true_eq]
  constructor
  · rintro ⟨y, hy, e⟩
    obtain ⟨k, hk, rfl⟩ := List.mem_iff_getElem.1 hy
    have e1 : xs.getD k default = xs[k] := by simp [List.getD, hk]
    have e2 : (xs[k]).1 = id := by simpa using e
    have hki : i ≤ k := by
      rcases Nat.lt_or_ge k i with q | q
      · have := h.2.1 k q
        rw [e1] at this
        omega
      · exact q
    have hkk : k = i := by
      rcases Nat.lt_or_ge i k with q | q
      · have h1 := pw_lt hp q hk
        have h2 := h.2.2 i (Nat.le_refl _) (by omega)
        rw [e1] at h1
        omega
      · omega
    subst hkk
    exact ⟨hk, by rw [e1]; exact e2⟩
  · rintro ⟨h1, h2⟩
    have e1 : xs.getD i default = xs[i] := by simp [List.getD, h1]
    exact ⟨xs[i], List.getElem_mem _, by rw [← e1, h2]; simp⟩
theorem with_place {xs : List SymR} {x : SymR} {i : Nat} (h : PlaceOf xs x.1 i) (hn : hasI xs x.1 = false) : withS xs x = xs.take i ++ x :: xs.drop i := by
  have hne : ∀ y ∈ xs, y.1 ≠ x.1 := fun y hy e => by
    have : hasI xs x.1 = true := by unfold hasI; rw [List.any_eq_true]; exact ⟨y, hy, by simp [e]⟩
    rw [hn] at this
    cases this
  have h1 : ∀ y ∈ xs.take i, y.1 < x.1 := fun y hy => by
    obtain ⟨k, hk, rfl⟩ := List.mem_iff_getElem.1 hy
    rw [List.length_take] at hk
    have := h.2.1 k (by omega)
    rw [List.getElem_take]
    have e1 : xs.getD k default = xs[k] := by simp [List.getD, show k < xs.length by omega]
    rw [e1] at this
    exact this
  have h2 : ∀ y ∈ xs.drop i, x.1 < y.1 := fun y hy => by
    have hm := List.mem_of_mem_drop hy
    obtain ⟨k, hk, rfl⟩ := List.mem_iff_getElem.1 hy
    rw [List.length_drop] at hk
    have h3 := h.2.2 (i + k) (by omega) (by omega)
    rw [List.getElem_drop] at hm ⊢
    have e1 : xs.getD (i + k) default = xs[i + k] := by simp [List.getD, show i + k < xs.length by omega]
    rw [e1] at h3
    have := hne _ hm
    omega
  unfold withS
  have e1 : xs.filter (fun y => decide (y.1 < x.1)) = xs.take i := by
    conv => lhs; rw [← List.take_append_drop i xs]
    rw [List.filter_append, List.filter_eq_self.2 (fun y hy => by simpa using h1 y hy), List.filter_eq_nil_iff.2 (fun y hy => by have := h2 y hy; simp; omega), List.append_nil]
  have e2 : xs.filter (fun y => decide (x.1 < y.1)) = xs.drop i := by
    conv => lhs; rw [← List.take_append_drop i xs]
    rw [List.filter_append, List.filter_eq_nil_iff.2 (fun y hy => by have := h1 y hy; simp; omega), List.filter_eq_self.2 (fun y hy => by simpa using h2 y hy), List.nil_append]
  rw [e1, e2]
def FindOut (xs : List SymR) (id : Nat) (w : World) (e : Ending) (w' : World) : Prop := ∃ i : Nat, e = .returned (.tuple #[.int .i64 (i : Int), .bool (hasI xs id)]) ∧ PlaceOf xs id i ∧ Below w.heap.size w w'
set_option maxHeartbeats 8000000 in
theorem find_any (g : Nat) (A : Option Addr) (l c : Nat) (xs : List SymR) (x : SymR) (w : World) (hg : Box w g 61 #[numF]) (hx : Syms w A l xs) (hl : l ≤ 1000) (hp : xs.Pairwise ltS) :
    Calls Try.prog 27 #[.slice A l c, .agg (smA x), cmpF g] w (FindOut xs x.1 w) := by
  have HX := Lib.hid hx
  have HXl := Lib.hid hx.1
  have HP := Lib.hid hp
  have HB1 := Lib.hid ((Below.refl w.heap.size w).alloc (Nat.le_refl _) (.cells (smA x) 27))
  have QX := Lib.hid (Box.new w 27 (smA x))
  have HG := Lib.hid (hg.keep HB1.out)
  have HC := Lib.hid (fun a wy (h : Box wy g 61 #[numF]) => cmpS_any g a x wy h)
  have eg : ∀ args w, (callFunc 43 args).run Try.prog w = .ok (.enter 43 args) w := enters_of Try.func43 (by kernel_rfl) rfl
  have HPl := Lib.hid (fun i (h : PlaceOf xs x.1 i) => has_place h hp)
  obtain ⟨x0, x1⟩ := x
  clear hx hp hg
  go_enter Try.func27, Try.ntmps27
  go_wp2_with fail
  go_loopw [9, 10] (fun s t wr => ∃ i j : Nat, i ≤ j ∧ j ≤ l ∧ s = .int .i64 (i : Int) ∧ t = .int .i64 (j : Int) ∧ Hid (∀ k, k < i → (xs.getD k default).1 < x0) ∧ Hid (∀ k, j ≤ k → k < l → x0 ≤ (xs.getD k default).1) ∧ Hid (Box wr w.heap.size 27 (smA (x0, x1))) ∧ Hid (Box wr g 61 #[numF]) ∧ Hid (Below w.heap.size w wr)) (fun s t _ => (Go.RowKit.intOf t).toNat - (Go.RowKit.intOf s).toNat)
  case atStart => exact ⟨0, l, Nat.zero_le _, Nat.le_refl _, rfl, rfl, Lib.hid (fun k h => absurd h (by omega)), Lib.hid (fun k h1 h2 => absurd h1 (by omega)), QX, HG, HB1⟩
  case round =>
    obtain ⟨i, j, hij, hj, rfl, rfl, HL, HR, Q, G, HB⟩ := hrel
    by_cases hlt : i < j
    · have hlt' : (i : Int) < (j : Int) := by omega
      have hw1 : IntKind.i64.wrap ((i : Int) + (j : Int)) = ((i + j : Nat) : Int) := by rw [IntWalk.i64_in _ (by omega)]; push_cast; rfl
      have hw2 : IntKind.u64.wrap ((i + j : Nat) : Int) = ((i + j : Nat) : Int) := by rw [IntKind.wrap_u64]; omega
      have hw3 : ((i + j : Nat) : Int) / 2 = ((((i + j) / 2 : Nat)) : Int) := by omega
      have hw4 : IntKind.i64.wrap (((i + j) / 2 : Nat) : Int) = (((i + j) / 2 : Nat) : Int) := by rw [IntWalk.i64_in _ (by omega)]
      obtain ⟨s, hs⟩ : ∃ s, s = i + j := ⟨_, rfl⟩
      rw [← hs] at hw1 hw2 hw3 hw4
      obtain ⟨h, hh⟩ : ∃ h, h = s / 2 := ⟨_, rfl⟩
      rw [← hh] at hw3 hw4
      have h1 : i ≤ h := by omega
      have h2 : h < j := by omega
      clear hs hh
      have hhl : (h : Int) < (l : Int) := by omega
      have hh0 : (0 : Int) ≤ (h : Int) := by omega
      go_upto_region 5 with (fail)
      obtain ⟨b, off, rfl, hb, y0c, y1c⟩ := HX.out.two h (by omega)
      have Y0 := Lib.hid (fun w' (hw : Below w.heap.size w w') => (hw.cell (p := ⟨b, off + h * 2, none⟩) hb).trans y0c)
      have Y1 := Lib.hid (fun w' (hw : Below w.heap.size w w') => (hw.cell (p := ⟨b, off + h * 2 + 1, none⟩) hb).trans y1c)
      clear y0c y1c
      obtain ⟨yy, hyy⟩ : ∃ y, y = xs.getD h default := ⟨_, rfl⟩
      have HYY := Lib.hid hyy
      rw [← hyy] at Y0 Y1
      clear hyy
      obtain ⟨y0, y1⟩ := yy
      have c0 := Y0.out _ HB.out
      have c1 := Y1.out _ HB.out
      obtain ⟨q0, q1, -, -⟩ := Q.out.two
      have g0 := G.out.cell 0
      have HCq := Lib.hid (show Calls Try.prog 43 #[.agg #[.int .u64 (y0 : Int), .string y1], .agg #[.int .u64 (x0 : Int), .string x1], .pointer (some ⟨g, 0, none⟩)] wr.drew (fun e w' => e = .returned (.int .i64 (cmpI (y0 : Int) (x0 : Int))) ∧ Below wr.drew.heap.size wr.drew w') from HC.out (y0, y1) wr.drew G.out.drew)
      by_cases hv : y0 < x0
      · have hc : cmpI (y0 : Int) (x0 : Int) < 0 := (cmpI_lt _ _).2 (by omega)
        have HL2 := Lib.hid (show ∀ k, k < h + 1 → (xs.getD k default).1 < x0 from fun k hk => by
          by_cases e : k = h
          · rw [e, ← HYY.out]; exact hv
          · have h9 : (xs.getD k default).1 < (xs.getD h default).1 := pw_lt HP.out (by omega) (by rw [HXl.out]; omega)
            rw [← HYY.out] at h9
            exact Nat.lt_trans h9 hv)
        generalize cmpI (y0 : Int) (x0 : Int) = cc at *
        clear hv HL HYY
        go_region_held3 (fun (w' : World) => w'.cell? ⟨b, off + h * 2, none⟩ = some (.int .u64 (y0 : Int)) ∧ w'.cell? ⟨b, off + h * 2 + 1, none⟩ = some (.string y1) ∧ w'.cell? ⟨w.heap.size, 0, none⟩ = some (.int .u64 (x0 : Int)) ∧ w'.cell? ⟨w.heap.size, 1, none⟩ = some (.string x1) ∧ w'.cell? ⟨g, 0, none⟩ = some numF) (go_keep) (first
        | (go_at_call 43; ((with_reducible refine HCq.out.mono ?_); rintro e w7 ⟨rfl, hb7⟩; have HB7 := Lib.hid (chain HB.out.drew hb7); have Q7 := Lib.hid (Q.out.drew.keep hb7); have G7 := Lib.hid (G.out.drew.keep hb7); clear hb7; obtain ⟨p0, p1, -, -⟩ := Q7.out.two; have n0 := G7.out.cell 0; have d0 := Y0.out _ HB7.out; have d1 := Y1.out _ HB7.out)))
        go_wp2_with fail
        go_roundw
        case rel => exact ⟨h + 1, j, by omega, hj, by go_num, rfl, HL2, HR, Q7, G7, HB7⟩
        case measure => simp [Go.RowKit.intOf] <;> omega
      · have hc : ¬ cmpI (y0 : Int) (x0 : Int) < 0 := fun h => by have := (cmpI_lt _ _).1 h; omega
        have HR2 := Lib.hid (show ∀ k, h ≤ k → k < l → x0 ≤ (xs.getD k default).1 from fun k hk hk2 => by
          by_cases e : k = h
          · rw [e, ← HYY.out]; show x0 ≤ y0; omega
          · have h9 : (xs.getD h default).1 < (xs.getD k default).1 := pw_lt HP.out (by omega) (by rw [HXl.out]; omega)
            rw [← HYY.out] at h9
            have h10 : y0 < (xs.getD k default).1 := h9
            omega)
        generalize cmpI (y0 : Int) (x0 : Int) = cc at *
        clear hv HR HYY
        go_region_held3 (fun (w' : World) => w'.cell? ⟨b, off + h * 2, none⟩ = some (.int .u64 (y0 : Int)) ∧ w'.cell? ⟨b, off + h * 2 + 1, none⟩ = some (.string y1) ∧ w'.cell? ⟨w.heap.size, 0, none⟩ = some (.int .u64 (x0 : Int)) ∧ w'.cell? ⟨w.heap.size, 1, none⟩ = some (.string x1) ∧ w'.cell? ⟨g, 0, none⟩ = some numF) (go_keep) (first
        | (go_at_call 43; ((with_reducible refine HCq.out.mono ?_); rintro e w7 ⟨rfl, hb7⟩; have HB7 := Lib.hid (chain HB.out.drew hb7); have Q7 := Lib.hid (Q.out.drew.keep hb7); have G7 := Lib.hid (G.out.drew.keep hb7); clear hb7; obtain ⟨p0, p1, -, -⟩ := Q7.out.two; have n0 := G7.out.cell 0; have d0 := Y0.out _ HB7.out; have d1 := Y1.out _ HB7.out)))
        go_wp2_with fail
        go_roundw
        case rel => exact ⟨i, h, by omega, by omega, rfl, rfl, HL, HR2, Q7, G7, HB7⟩
        case measure => simp [Go.RowKit.intOf] <;> omega
    · obtain rfl : i = j := by omega
      have hlt' : ¬ (i : Int) < (i : Int) := Int.lt_irrefl _
      have HPc := Lib.hid (show PlaceOf xs x0 i from ⟨by rw [HXl.out]; exact hj, HL.out, fun k h1 h2 => HR.out k h1 (by rw [← HXl.out]; exact h2)⟩)
      have HHs := Lib.hid (HPl.out i HPc.out)
      go_upto_region 8 with (fail)
      by_cases hil : i < l
      · have hil' : (i : Int) < (l : Int) := by omega
        have hi0 : (0 : Int) ≤ (i : Int) := by omega
        obtain ⟨b, off, rfl, hb, y0c, y1c⟩ := HX.out.two i (by omega)
        have Y0 := Lib.hid (fun w' (hw : Below w.heap.size w w') => (hw.cell (p := ⟨b, off + i * 2, none⟩) hb).trans y0c)
        have Y1 := Lib.hid (fun w' (hw : Below w.heap.size w w') => (hw.cell (p := ⟨b, off + i * 2 + 1, none⟩) hb).trans y1c)
        clear y0c y1c
        obtain ⟨yy, hyy⟩ : ∃ y, y = xs.getD i default := ⟨_, rfl⟩
        have HYY := Lib.hid hyy
        rw [← hyy] at Y0 Y1
        clear hyy
        obtain ⟨y0, y1⟩ := yy
        have c0 := Y0.out _ HB.out
        have c1 := Y1.out _ HB.out
        obtain ⟨q0, q1, -, -⟩ := Q.out.two
        have g0 := G.out.cell 0
        have HCq := Lib.hid (show Calls Try.prog 43 #[.agg #[.int .u64 (y0 : Int), .string y1], .agg #[.int .u64 (x0 : Int), .string x1], .pointer (some ⟨g, 0, none⟩)] wr.drew (fun e w' => e = .returned (.int .i64 (cmpI (y0 : Int) (x0 : Int))) ∧ Below wr.drew.heap.size wr.drew w') from HC.out (y0, y1) wr.drew G.out.drew)
        by_cases hv : y0 = x0
        · have hc : (cmpI (y0 : Int) (x0 : Int) == 0) = true := by rw [(cmpI_zero _ _).2 (by omega)]; rfl
          have HF := Lib.hid (show hasI xs x0 = true from HHs.out.trans (by rw [← HYY.out, HXl.out]; simp [hil, hv]))
          generalize cmpI (y0 : Int) (x0 : Int) = cc at *
          clear hv HYY
          go_region_held3 (fun (w' : World) => w'.cell? ⟨b, off + i * 2, none⟩ = some (.int .u64 (y0 : Int)) ∧ w'.cell? ⟨b, off + i * 2 + 1, none⟩ = some (.string y1) ∧ w'.cell? ⟨w.heap.size, 0, none⟩ = some (.int .u64 (x0 : Int)) ∧ w'.cell? ⟨w.heap.size, 1, none⟩ = some (.string x1) ∧ w'.cell? ⟨g, 0, none⟩ = some numF) (go_keep) (first
        | (go_at_call 43; ((with_reducible refine HCq.out.mono ?_); rintro e w7 ⟨rfl, hb7⟩; have HB7 := Lib.hid (chain HB.out.drew hb7); have Q7 := Lib.hid (Q.out.drew.keep hb7); have G7 := Lib.hid (G.out.drew.keep hb7); clear hb7; obtain ⟨p0, p1, -, -⟩ := Q7.out.two; have n0 := G7.out.cell 0; have d0 := Y0.out _ HB7.out; have d1 := Y1.out _ HB7.out)))
          go_wp2_with fail
          go_ret2
          exact ⟨i, by rw [HF.out]; rfl, HPc.out, HB7.out⟩
        · have hc : (cmpI (y0 : Int) (x0 : Int) == 0) = false := by
            rw [beq_eq_false_iff_ne]
            exact fun h => hv (by have := (cmpI_zero _ _).1 h; omega)
          have HF := Lib.hid (show hasI xs x0 = false from HHs.out.trans (by rw [← HYY.out, HXl.out]; simp [hv]))
          generalize cmpI (y0 : Int) (x0 : Int) = cc at *
          clear hv HYY
          go_region_held3 (fun (w' : World) => w'.cell? ⟨b, off + i * 2, none⟩ = some (.int .u64 (y0 : Int)) ∧ w'.cell? ⟨b, off + i * 2 + 1, none⟩ = some (.string y1) ∧ w'.cell? ⟨w.heap.size, 0, none⟩ = some (.int .u64 (x0 : Int)) ∧ w'.cell? ⟨w.heap.size, 1, none⟩ = some (.string x1) ∧ w'.cell? ⟨g, 0, none⟩ = some numF) (go_keep) (first
        | (go_at_call 43; ((with_reducible refine HCq.out.mono ?_); rintro e w7 ⟨rfl, hb7⟩; have HB7 := Lib.hid (chain HB.out.drew hb7); have Q7 := Lib.hid (Q.out.drew.keep hb7); have G7 := Lib.hid (G.out.drew.keep hb7); clear hb7; obtain ⟨p0, p1, -, -⟩ := Q7.out.two; have n0 := G7.out.cell 0; have d0 := Y0.out _ HB7.out; have d1 := Y1.out _ HB7.out)))
          go_wp2_with fail
          go_ret2
          exact ⟨i, by rw [HF.out]; rfl, HPc.out, HB7.out⟩
      · obtain rfl : i = l := by omega
        have HF := Lib.hid (show hasI xs x0 = false from HHs.out.trans (by rw [HXl.out]; simp))
        have hil' : ¬ (i : Int) < (i : Int) := Int.lt_irrefl _
        go_quiet (fail)
        go_wp2_with fail
        go_ret2
        exact ⟨i, by rw [HF.out]; rfl, HPc.out, bdN HB.out _⟩
end Go.Proofs.Ytehlebeeoeghmaa
