/- Contracts of layer 12: within, when, allHave, has, twice, first. -/
import Derived.Test.YtcikoaeiopbbbaaRows
import Derived.Test.YtcikoaeiopbbbaaWords
import Derived.Test.YtcikoaeiopbbbaaRec
import Derived.Deep.QuietTactic
import Derived.BigQuiet
import Derived.RegionTactic
import Derived.Shelf.Abstract
import Derived.Deep.RegionHeld3
import Derived.OpenShut
namespace Go.Proofs.Ytcikoaeiopbbbaa
set_option linter.unusedVariables false
set_option linter.unusedSimpArgs false
open Go.RowKit
set_option maxRecDepth 100000
abbrev SymR := Nat × ByteArray
def encS (r : SymR) : List Value := [.int .u64 (r.1 : Int), .string r.2]
theorem encS_len (r : SymR) : (encS r).length = 2 := rfl
theorem encS_one (r : SymR) : ∀ u ∈ encS r, u.oneCell' = true := by intro u hu; simp [encS] at hu; rcases hu with rfl | rfl <;> rfl
abbrev Syms (w : World) (A : Option Addr) (l : Nat) (xs : List SymR) : Prop := Recs encS 2 w A l xs
theorem Syms.two {w : World} {A : Option Addr} {l : Nat} {xs : List SymR} (h : Syms w A l xs) (j : Nat) (hj : j < l) : ∃ b off, A = some ⟨b, off, none⟩ ∧ b < w.heap.size ∧ w.cell? ⟨b, off + j * 2, none⟩ = some (.int .u64 ((xs.getD j default).1 : Nat)) ∧ w.cell? ⟨b, off + j * 2 + 1, none⟩ = some (.string (xs.getD j default).2) := by
  obtain ⟨b, off, hA, hb, hc⟩ := h.at j hj
  exact ⟨b, off, hA, hb, hc 0 _ rfl, hc 1 _ rfl⟩
def hasI (xs : List SymR) (id : Nat) : Bool := xs.any fun x => x.1 == id
def allB (s : Int) (xs : List SymR) : Bool := xs.all fun x => (x.2.size : Int) == s
def twiceB (xs : List SymR) : Bool := (List.range xs.length).any fun i => hasI (xs.take i) (xs.getD i default).1
theorem hasI_snoc (xs : List SymR) (id k : Nat) (h : k < xs.length) : hasI (xs.take (k + 1)) id = (hasI (xs.take k) id || (xs.getD k default).1 == id) := by
  rw [take_snocD xs k h]; simp [hasI]
theorem allB_snoc (s : Int) (xs : List SymR) (k : Nat) (h : k < xs.length) : allB s (xs.take (k + 1)) = (allB s (xs.take k) && ((xs.getD k default).2.size : Int) == s) := by
  rw [take_snocD xs k h]; simp [allB]
theorem hasI_up (xs : List SymR) (id k : Nat) (h : hasI (xs.take k) id = true) : hasI xs id = true := by
  unfold hasI at *
  simp only [List.any_eq_true] at *
  obtain ⟨x, hx, hi⟩ := h
  exact ⟨x, List.mem_of_mem_take hx, hi⟩
theorem allB_up (s : Int) (xs : List SymR) (k : Nat) (h : allB s (xs.take k) = false) : allB s xs = false := by
  rw [Bool.eq_false_iff] at *
  intro h2
  refine h ?_
  unfold allB at *
  simp only [List.all_eq_true] at *
  exact fun x hx => h2 x (List.mem_of_mem_take hx)
theorem within_any (x a b : Int) (w : World) : Calls Try.prog 24 #[.int .i64 x, .int .i64 a, .int .i64 b] w fun e w' => e = .returned (.bool (decide (a ≤ x) && decide (x ≤ b))) ∧ w = w' := by
  by_cases h1 : a ≤ x
  · by_cases h2 : x ≤ b
    · go_enter Try.func24, Try.ntmps24
      go_wp2
      go_ret
      exact ⟨by simp [h1, h2], rfl⟩
    · have t : decide (x ≤ b) = false := by simpa using h2
      go_enter Try.func24, Try.ntmps24
      go_wp2
      go_ret
      exact ⟨by simp [h2], rfl⟩
  · have t : decide (a ≤ x) = false := by simpa using h1
    go_enter Try.func24, Try.ntmps24
    go_wp2
    go_ret
    exact ⟨by simp [h1], rfl⟩
def whenI (b : Bool) (e : Int) : Int := if b then e else 0
theorem when_any (b : Bool) (x : Int) (w : World) : Calls Try.prog 23 #[.bool b, .int .i64 x] w fun e w' => e = .returned (.int .i64 (whenI b x)) ∧ w = w' := by
  cases b with
  | true =>
    go_enter Try.func23, Try.ntmps23
    go_wp2
    go_ret
    exact ⟨rfl, rfl⟩
  | false =>
    go_enter Try.func23, Try.ntmps23
    go_wp2
    go_ret
    exact ⟨rfl, rfl⟩
theorem eallHave_any (s : Int) (A : Option Addr) (l c : Nat) (xs : List SymR) (w : World) (hx : Syms w A l xs) (hl : l ≤ maxLen) :
    Calls Try.prog 29 #[.int .i64 s, .slice A l c] w fun e w' => e = .returned (.bool (allB s xs)) ∧ Below w.heap.size w w' := by
  unfold maxLen at hl
  have HX := Lib.hid hx
  have HXl := Lib.hid hx.1
  clear hx
  go_enter Try.func29, Try.ntmps29
  go_wp2_with fail
  go_loopw [9] (fun t wr => ∃ i : Nat, i ≤ l ∧ t = .int .i64 (i : Int) ∧ Hid (allB s (xs.take i) = true) ∧ Hid (Below w.heap.size w wr)) (fun t _ => l - (intOf t).toNat)
  case atStart => exact ⟨0, Nat.zero_le _, rfl, Lib.hid rfl, Lib.hid (Below.refl _ _)⟩
  case round =>
    obtain ⟨i, hi, rfl, HS, HB⟩ := hrel
    by_cases hlt : i < l
    · have hlt' : (i : Int) < (l : Int) := Int.ofNat_lt.2 hlt
      obtain ⟨b, off, rfl, hb, x0, x1⟩ := HX.out.two i hlt
      have x0 := (HB.out.cell (p := ⟨b, off + i * 2, none⟩) hb).trans x0
      have x1 := (HB.out.cell (p := ⟨b, off + i * 2 + 1, none⟩) hb).trans x1
      have HN := Lib.hid (allB_snoc s xs i (by rw [HXl.out]; exact hlt))
      have HU := Lib.hid (allB_up s xs (i + 1))
      have G := Lib.hid (Box.new wr 29 #[.int .u64 ((xs.getD i default).1 : Nat), .string (xs.getD i default).2])
      have HB := Lib.hid (HB.out.alloc HB.out.size (.cells #[.int .u64 ((xs.getD i default).1 : Nat), .string (xs.getD i default).2] 29))
      generalize xs.getD i default = p at *
      obtain ⟨p0, p1⟩ := p
      dsimp only at x0 x1 G HB HN
      obtain ⟨g0, g1, -, -⟩ := G.out.two
      cases hs : ((p1.size : Int) == s) with
      | true =>
        rw [hs] at HN
        have hs2 : ((p1.size : Int) != s) = false := by simp [bne, hs]
        have HN2 := Lib.hid (show allB s (xs.take (i + 1)) = true by rw [HN.out, HS.out]; rfl)
        clear hs
        go_wp2_with fail
        go_roundw
        case rel => exact ⟨i + 1, hlt, by go_num, HN2, HB⟩
        case measure => simp [intOf] <;> omega
      | false =>
        rw [hs] at HN
        have hs2 : ((p1.size : Int) != s) = true := by simp [bne, hs]
        have HE := Lib.hid (show allB s xs = false from HU.out (by rw [HN.out]; simp))
        clear hs
        go_wp2_with fail
        go_ret
        exact ⟨by rw [HE.out]; rfl, HB.out⟩
    · obtain rfl : i = l := Nat.le_antisymm hi (Nat.le_of_not_lt hlt)
      have hlt' : ¬ (i : Int) < (i : Int) := Int.lt_irrefl _
      have HE := Lib.hid (show allB s xs = true by have := HS.out; rwa [List.take_of_length_le (by rw [HXl.out]; exact Nat.le_refl _)] at this)
      go_wp2_with fail
      go_ret
      exact ⟨by rw [HE.out]; rfl, HB.out⟩
theorem has1_any (id q : Nat) (s : ByteArray) (g : Nat) (w : World) (hc : w.cell? ⟨g, 0, none⟩ = some (.int .u64 (id : Int))) (hg : g < w.heap.size) :
    Calls Try.prog 36 (#[.agg #[.int .u64 (q : Int), .string s]] ++ #[.pointer (some ⟨g, 0, none⟩)]) w fun e w' => e = .returned (.bool (q == id)) ∧ Below w.heap.size w w' := by
  have G := Lib.hid (Box.new w 29 #[.int .u64 (q : Int), .string s])
  have HB := Lib.hid (show Below w.heap.size w (w.alloc (.cells #[.int .u64 (q : Int), .string s] 29)) from (Below.refl _ _).alloc (Nat.le_refl _) _)
  have hc2 := (HB.out.cell (p := ⟨g, 0, none⟩) hg).trans hc
  obtain ⟨g0, g1, -, -⟩ := G.out.two
  have e : ((q : Int) == (id : Int)) = (q == id) := by rw [Bool.eq_iff_iff]; simp; omega
  clear hc
  cases hq : (q == id) with
  | true =>
    rw [hq] at e
    go_enter Try.func36, Try.ntmps36
    go_wp2_with fail
    go_ret
    exact ⟨by simp_all, HB.out⟩
  | false =>
    rw [hq] at e
    go_enter Try.func36, Try.ntmps36
    go_wp2_with fail
    go_ret
    exact ⟨by simp_all, HB.out⟩
/-- Where an id is first. -/
def idxI (xs : List SymR) (id : Nat) (i : Int) : Prop := if hasI xs id then 0 ≤ i else i = -1
theorem indexF_any (id g : Nat) (A : Option Addr) (l c : Nat) (xs : List SymR) (w : World) (hx : Syms w A l xs) (hl : l ≤ maxLen) (hc : w.cell? ⟨g, 0, none⟩ = some (.int .u64 (id : Int))) (hg : g < w.heap.size) :
    Calls Try.prog 37 #[.slice A l c, .func (.func 36) #[] #[.pointer (some ⟨g, 0, none⟩)]] w fun e w' => (∃ i : Int, idxI xs id i ∧ e = .returned (.int .i64 i)) ∧ Below w.heap.size w w' := by
  unfold maxLen at hl
  have HX := Lib.hid hx
  have HXl := Lib.hid hx.1
  have HC := Lib.hid hc
  have eg : ∀ args w, (callFunc 36 args).run Try.prog w = .ok (.enter 36 args) w := enters_of Try.func36 (by kernel_rfl) rfl
  clear hx hc
  go_enter Try.func37, Try.ntmps37
  go_wp2_with fail
  go_loopw [8] (fun t wr => ∃ i : Nat, i ≤ l ∧ t = .int .i64 (i : Int) ∧ Hid (hasI (xs.take i) id = false) ∧ Hid (Below w.heap.size w wr)) (fun t _ => l - (intOf t).toNat)
  case atStart => exact ⟨0, Nat.zero_le _, rfl, Lib.hid rfl, Lib.hid (Below.refl _ _)⟩
  case round =>
    obtain ⟨i, hi, rfl, HS, HB⟩ := hrel
    by_cases hlt : i < l
    · have hlt' : (i : Int) < (l : Int) := Int.ofNat_lt.2 hlt
      obtain ⟨b, off, rfl, hb, x0, x1⟩ := HX.out.two i hlt
      have x0 := (HB.out.cell (p := ⟨b, off + i * 2, none⟩) hb).trans x0
      have x1 := (HB.out.cell (p := ⟨b, off + i * 2 + 1, none⟩) hb).trans x1
      have HN := Lib.hid (hasI_snoc xs id i (by rw [HXl.out]; exact hlt))
      have HU := Lib.hid (hasI_up xs id (i + 1))
      have HH := Lib.hid (has1_any id (xs.getD i default).1 (xs.getD i default).2 g wr ((HB.out.cell (p := ⟨g, 0, none⟩) hg).trans HC.out) (Nat.lt_of_lt_of_le hg HB.out.size))
      generalize xs.getD i default = p at *
      obtain ⟨p0, p1⟩ := p
      dsimp only at x0 x1 HN HH
      cases hs : (p0 == id) with
      | true =>
        rw [hs] at HN HH
        have HE := Lib.hid (show hasI xs id = true from HU.out (by rw [HN.out]; simp))
        clear hs
        go_wp2_with fail
        refine HH.out.mono ?_
        rintro e w1 ⟨rfl, hb1⟩
        have HB := Lib.hid (chain HB.out hb1)
        clear hb1
        go_wp2_with fail
        go_ret
        exact ⟨⟨i, by unfold idxI; rw [if_pos HE.out]; omega, rfl⟩, HB.out⟩
      | false =>
        rw [hs] at HN HH
        have HN2 := Lib.hid (show hasI (xs.take (i + 1)) id = false by rw [HN.out, HS.out]; rfl)
        clear hs
        go_wp2_with fail
        refine HH.out.mono ?_
        rintro e w1 ⟨rfl, hb1⟩
        have HB := Lib.hid (chain HB.out hb1)
        clear hb1
        go_wp2_with fail
        go_roundw
        case rel => exact ⟨i + 1, hlt, by go_num, HN2, HB⟩
        case measure => simp [intOf] <;> omega
    · obtain rfl : i = l := Nat.le_antisymm hi (Nat.le_of_not_lt hlt)
      have hlt' : ¬ (i : Int) < (i : Int) := Int.lt_irrefl _
      have HE := Lib.hid (show hasI xs id = false by have := HS.out; rwa [List.take_of_length_le (by rw [HXl.out]; exact Nat.le_refl _)] at this)
      go_wp2_with fail
      go_ret
      exact ⟨⟨-1, by unfold idxI; rw [HE.out]; rfl, rfl⟩, HB.out⟩
theorem containsF_any (id g : Nat) (A : Option Addr) (l c : Nat) (xs : List SymR) (w : World) (hx : Syms w A l xs) (hl : l ≤ maxLen) (hc : w.cell? ⟨g, 0, none⟩ = some (.int .u64 (id : Int))) (hg : g < w.heap.size) :
    Calls Try.prog 35 #[.slice A l c, .func (.func 36) #[] #[.pointer (some ⟨g, 0, none⟩)]] w fun e w' => e = .returned (.bool (hasI xs id)) ∧ Below w.heap.size w w' := by
  have HI := Lib.hid (indexF_any id g A l c xs w hx hl hc hg)
  clear hx hc
  go_enter Try.func35, Try.ntmps35
  go_wp2_with fail
  refine HI.out.mono ?_
  rintro e w1 ⟨⟨i, hi, rfl⟩, hb⟩
  unfold idxI at hi
  cases hh : hasI xs id with
  | true =>
    rw [hh, if_pos rfl] at hi
    go_wp2_with fail
    go_ret
    exact ⟨by simp [hi, hh], hb⟩
  | false =>
    rw [hh] at hi
    have hi : i = -1 := hi
    subst hi
    go_wp2_with fail
    go_ret
    exact ⟨by simp [hh], hb⟩
theorem ehas_any (id : Nat) (A : Option Addr) (l c : Nat) (xs : List SymR) (w : World) (hx : Syms w A l xs) (hl : l ≤ maxLen) :
    Calls Try.prog 34 #[.slice A l c, .int .u64 (id : Int)] w fun e w' => e = .returned (.bool (hasI xs id)) ∧ Below w.heap.size w w' := by
  have b1 : Below w.heap.size w (w.alloc (.cells #[.int .u64 (id : Int)] 22)) := (Below.refl _ _).alloc (Nat.le_refl _) _
  have B := Box.new w 22 #[.int .u64 (id : Int)]
  have HC := Lib.hid (containsF_any id w.heap.size A l c xs _ (hx.below b1) hl (B.cell 0) B.lt)
  have HB := Lib.hid b1
  clear hx b1 B
  go_enter Try.func34, Try.ntmps34
  go_wp2_with fail
  refine HC.out.mono ?_
  rintro e w1 ⟨rfl, hb⟩
  have HB := Lib.hid (chain HB.out hb)
  clear hb
  go_wp2_with fail
  go_ret
  exact ⟨by simp, HB.out⟩
theorem twice_snoc (xs : List SymR) (k : Nat) (h : k < xs.length) : (List.range (k + 1)).any (fun i => hasI (xs.take i) (xs.getD i default).1) = ((List.range k).any (fun i => hasI (xs.take i) (xs.getD i default).1) || hasI (xs.take k) (xs.getD k default).1) := by
  rw [List.range_succ]; simp
theorem twice_up (xs : List SymR) (k : Nat) (hk : k < xs.length) (h : hasI (xs.take k) (xs.getD k default).1 = true) : twiceB xs = true := by
  unfold twiceB
  rw [List.any_eq_true]
  exact ⟨k, List.mem_range.2 hk, h⟩
theorem twice_any (A : Option Addr) (l c : Nat) (xs : List SymR) (w : World) (hx : Syms w A l xs) (hl : l ≤ c) (hc : c ≤ maxLen) :
    Calls Try.prog 31 #[.slice A l c] w fun e w' => e = .returned (.bool (twiceB xs)) ∧ Below w.heap.size w w' := by
  have hcm := hc
  unfold maxLen at hc
  have HX := Lib.hid hx
  have HXl := Lib.hid hx.1
  clear hx
  go_enter Try.func31, Try.ntmps31
  go_wp2_with fail
  go_loopw [7] (fun t wr => ∃ i : Nat, i ≤ l ∧ t = .int .i64 (i : Int) ∧ Hid ((List.range i).any (fun i => hasI (xs.take i) (xs.getD i default).1) = false) ∧ Hid (Below w.heap.size w wr)) (fun t _ => l - (intOf t).toNat)
  case atStart => exact ⟨0, Nat.zero_le _, rfl, Lib.hid rfl, Lib.hid (Below.refl _ _)⟩
  case round =>
    obtain ⟨i, hi, rfl, HS, HB⟩ := hrel
    by_cases hlt : i < l
    · have hlt' : (i : Int) < (l : Int) := Int.ofNat_lt.2 hlt
      obtain ⟨b, off, rfl, hb, x0, x1⟩ := HX.out.two i hlt
      have x0 := (HB.out.cell (p := ⟨b, off + i * 2, none⟩) hb).trans x0
      have x1 := (HB.out.cell (p := ⟨b, off + i * 2 + 1, none⟩) hb).trans x1
      have HN := Lib.hid (twice_snoc xs i (by rw [HXl.out]; exact hlt))
      have HU := Lib.hid (twice_up xs i (by rw [HXl.out]; exact hlt))
      have G := Lib.hid (Box.new wr 29 #[.int .u64 ((xs.getD i default).1 : Nat), .string (xs.getD i default).2])
      have HB := Lib.hid (HB.out.alloc HB.out.size (.cells #[.int .u64 ((xs.getD i default).1 : Nat), .string (xs.getD i default).2] 29))
      have HT := Lib.hid ((HX.out.take i (by omega)).mono (Nat.le_refl _) HB.out)
      have HH := Lib.hid (ehas_any (xs.getD i default).1 (some ⟨b, off, none⟩) i c (xs.take i) _ HT.out.drew (by omega))
      obtain ⟨g0, g1, -, -⟩ := G.out.two
      have i1 : (i : Int) ≤ (c : Int) := by omega
      generalize xs.getD i default = p at *
      obtain ⟨p0, p1⟩ := p
      dsimp only at x0 x1 G HB HN HU HH g0 g1
      cases hs : hasI (xs.take i) p0 with
      | true =>
        rw [hs] at HH
        have HE := Lib.hid (HU.out hs)
        clear hs
        go_wp2_with fail
        go_region_with (go_at_call 34; refine HH.out.mono ?_; rintro e w1 ⟨rfl, hb1⟩; have HB := Lib.hid (chain HB.out.drew hb1); clear hb1)
        all_goals
          go_wp2_with fail
          go_ret
          exact ⟨by rw [HE.out]; rfl, HB.out⟩
      | false =>
        rw [hs] at HN HH
        have HN2 := Lib.hid (show (List.range (i + 1)).any (fun i => hasI (xs.take i) (xs.getD i default).1) = false by rw [HN.out, HS.out]; rfl)
        clear hs
        go_wp2_with fail
        go_region_with (go_at_call 34; refine HH.out.mono ?_; rintro e w1 ⟨rfl, hb1⟩; have HB := Lib.hid (chain HB.out.drew hb1); clear hb1)
        all_goals
          go_wp2_with fail
          go_roundw
          case rel => exact ⟨i + 1, hlt, by go_num, HN2, HB⟩
          case measure => simp [intOf] <;> omega
    · obtain rfl : i = l := Nat.le_antisymm hi (Nat.le_of_not_lt hlt)
      have hlt' : ¬ (i : Int) < (i : Int) := Int.lt_irrefl _
      have HE := Lib.hid (show twiceB xs = false by unfold twiceB; rw [HXl.out]; exact HS.out)
      go_wp2_with fail
      go_ret
      exact ⟨by rw [HE.out]; rfl, HB.out⟩
/-- What is told first. -/
def firstI : List Int → Int
  | [] => 0
  | a :: t => if a = 0 then firstI t else a
theorem firstI_at (ans : List Int) (k : Nat) (h : k < ans.length) (h0 : ∀ i, i < k → ans.getD i 0 = 0) (hk : ans.getD k 0 ≠ 0) : firstI ans = ans.getD k 0 := by
  induction ans generalizing k with
  | nil => cases h
  | cons a t ih =>
    cases k with
    | zero => unfold firstI; rw [if_neg (by simpa using hk)]; rfl
    | succ k =>
      have ha : a = 0 := h0 0 (by omega)
      unfold firstI
      rw [if_pos ha, ih k (by simpa using h) (fun i hi => h0 (i + 1) (by omega)) (by simpa using hk)]; rfl
theorem firstI_none (ans : List Int) (h0 : ∀ i, i < ans.length → ans.getD i 0 = 0) : firstI ans = 0 := by
  induction ans with
  | nil => rfl
  | cons a t ih =>
    have ha : a = 0 := h0 0 (by simp)
    unfold firstI
    rw [if_pos ha, ih (fun i hi => h0 (i + 1) (by simpa using hi))]
/-- What first asks of those that it asks. -/
structure AskedOf (P : Program) (w : World) (b off : Nat) (fs : Nat → Nat × Array Value) (ans : List Int) : Prop where
  lt : b < w.heap.size
  cell : ∀ j, j < ans.length → w.cell? ⟨b, off + j, none⟩ = some (.func (.func (fs j).1) #[] (fs j).2)
  enters : ∀ j, j < ans.length → ∀ args w, (callFunc (fs j).1 args).run P w = .ok (.enter (fs j).1 args) w
  tells : ∀ j, j < ans.length → ∀ w', Below w.heap.size w w' → (∀ i, i < j → ans.getD i 0 = 0) → Calls P (fs j).1 (fs j).2 w' fun e w'' => e = .returned (.int .i64 (ans.getD j 0)) ∧ Below w'.heap.size w' w''
theorem efirst_any (b off c : Nat) (fs : Nat → Nat × Array Value) (ans : List Int) (w : World) (hl : ans.length ≤ 100) (h : AskedOf Try.prog w b off fs ans) :
    Calls Try.prog 21 #[.slice (some ⟨b, off, none⟩) ans.length c] w fun e w' => e = .returned (.int .i64 (firstI ans)) ∧ Below w.heap.size w w' := by
  have H := Lib.hid h
  have hblt := h.lt
  clear h
  have F1 := Lib.hid (firstI_at ans)
  have F2 := Lib.hid (firstI_none ans)
  generalize firstI ans = r at *
  go_enter Try.func21, Try.ntmps21
  go_wp2_with fail
  go_loopw [8] (fun t wr => ∃ i : Nat, i ≤ ans.length ∧ t = .int .i64 (i : Int) ∧ Hid (∀ j, j < i → ans.getD j 0 = 0) ∧ Hid (Below w.heap.size w wr)) (fun t _ => ans.length - (intOf t).toNat)
  case atStart => exact ⟨0, Nat.zero_le _, rfl, Lib.hid (fun j hj => absurd hj (Nat.not_lt_zero _)), Lib.hid (Below.refl _ _)⟩
  case round =>
    obtain ⟨i, hi, rfl, HS, HB⟩ := hrel
    by_cases hlt : i < ans.length
    · have hlt' : (i : Int) < (ans.length : Int) := Int.ofNat_lt.2 hlt
      have x0 := (HB.out.cell (p := ⟨b, off + i, none⟩) hblt).trans (H.out.cell i hlt)
      have eg := H.out.enters i hlt
      have HT := Lib.hid (H.out.tells i hlt wr HB.out HS.out)
      have HF := Lib.hid (F1.out i hlt HS.out)
      obtain ⟨v, ev⟩ : ∃ v, ans.getD i 0 = v := ⟨_, rfl⟩
      have HS2 := Lib.hid (fun (h0 : v = 0) j (hj : j < i + 1) => show ans.getD j 0 = 0 by
        by_cases hji : j < i
        · exact HS.out j hji
        · rw [show j = i by omega, ev]; exact h0)
      rw [ev] at HT HF
      clear ev
      generalize (fs i).1 = g at *
      generalize (fs i).2 = cb at *
      by_cases hv : v = 0
      · have HS3 := Lib.hid (HS2.out hv)
        subst hv
        go_wp2_with (go_at_fn g; refine HT.out.mono ?_; rintro e w1 ⟨rfl, hb1⟩; have HB := Lib.hid (chain HB.out hb1); clear hb1)
        go_roundw
        case rel => exact ⟨i + 1, hlt, by go_num, HS3, HB⟩
        case measure => simp [intOf] <;> omega
      · have hv2 : (v == 0) = false := by simpa using hv
        have hv3 : (v != 0) = true := by simp [bne, hv2]
        have HE := Lib.hid (HF.out hv)
        clear hv
        go_wp2_with (go_at_fn g; refine HT.out.mono ?_; rintro e w1 ⟨rfl, hb1⟩; have HB := Lib.hid (chain HB.out hb1); clear hb1)
        go_ret
        exact ⟨by rw [HE.out]; rfl, HB.out⟩
    · obtain rfl : i = ans.length := Nat.le_antisymm hi (Nat.le_of_not_lt hlt)
      have hlt' : ¬ (ans.length : Int) < (ans.length : Int) := Int.lt_irrefl _
      have HE := Lib.hid (F2.out HS.out)
      go_wp2_with fail
      go_ret
      exact ⟨by rw [HE.out]; rfl, HB.out⟩
end Go.Proofs.Ytcikoaeiopbbbaa
