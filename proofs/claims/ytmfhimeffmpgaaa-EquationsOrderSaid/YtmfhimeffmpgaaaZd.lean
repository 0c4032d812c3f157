/- Parts: RndS, RndR2, RndR3, RefNums, RndH, OwnU, DegM, Deg1, DegW1, QTail, DegW2, DegW3. -/
import Derived.Test.YtmfhimeffmpgaaaZc
import Derived.BigQuiet
import Derived.BigRegion
import Derived.Deep.LoopGhost
import Derived.Deep.QuietTactic
import Derived.IntWalk
import Derived.Lib.BitFns
import Derived.Lib.Hide
import Derived.Lib.Slices
import Derived.Lib.Small
import Derived.Lib.Strings
import Derived.Lib.Walk
import Derived.LoopIn
import Derived.LoopNIn
import Derived.Maps.AppendAt
import Derived.OwnWalkIn
import Derived.RangeFuncBound
import Derived.RangeFuncBox
import Derived.RangeFuncCalls
import Derived.RangeFuncLeaves
import Derived.RangeFuncNested
import Derived.RegionTactic
import Derived.Shelf.Abstract
import Derived.Shelf.RegionOpen
import Derived.Sort.QuietIn
import Derived.Sort.QuietTacIn
import Derived.Sort.QuietThIn
import Derived.StillTail
import Derived.TacticsIn
import Derived.TacticsInMore
import Derived.Test.YtmfhimeffmpgaaaChecked
import Derived.Test.YtmfhimeffmpgaaaRows
import Derived.Test.YtmfhimeffmpgaaaShelf
import Derived.WalkKit
namespace Go.Proofs.Ytmfhimeffmpgaaa
section
/- Layer 6, its lists: an order has each number once; so many of them, rising. No program. -/
set_option linter.unusedVariables false
set_option linter.unusedSimpArgs false
theorem swapN_perm (l : List Nat) (i j : Nat) (hi : i < l.length) (hj : j < l.length) : (swapN l i j).Perm l := by
  rw [List.perm_iff_count]
  intro a
  have g1 : l.getD j 0 = l[j] := by simp [List.getD, hj]
  have g2 : l.getD i 0 = l[i] := by simp [List.getD, hi]
  have hj2 : j < (l.set i l[j]).length := by simpa using hj
  have e : (l.set i l[j])[j] = l[j] := by
    rw [List.getElem_set]
    split
    · rfl
    · rfl
  unfold swapN
  rw [g1, g2, List.count_set hj2, e, List.count_set hi]
  have p1 : (if l[i] == a then 1 else 0) ≤ l.count a := by
    split
    · rename_i h
      have : l[i] = a := by simpa using h
      rw [← this]
      exact List.count_pos_iff.2 (List.getElem_mem hi)
    · omega
  generalize hx : (if l[i] == a then 1 else 0) = x at *
  generalize hy : (if l[j] == a then 1 else 0) = y at *
  omega
theorem shufF_perm : ∀ (i s : Nat) (l : List Nat), i < l.length → s < 18446744073709551616 → (shufF i s l).2.Perm l ∧ (shufF i s l).1 < 18446744073709551616
  | 0, s, l, _, hs => ⟨List.Perm.refl _, hs⟩
  | i + 1, s, l, h, hs => by
    have hb := belowN_lt (i + 2) s (by omega) hs
    have ih := shufF_perm i (belowN (i + 2) s).1 (swapN l (i + 1) (belowN (i + 2) s).2) (by rw [swapN_len]; omega) hb.1
    exact ⟨ih.1.trans (swapN_perm _ _ _ h (by omega)), ih.2⟩
theorem shufN_perm (n s : Nat) (hn : 1 ≤ n) (hs : s < 18446744073709551616) : (shufN n s).2.Perm (List.range n) ∧ (shufN n s).1 < 18446744073709551616 :=
  shufF_perm (n - 1) s (List.range n) (by simp; omega) hs
/-- So many of an order, rising. -/
def someN (n many s : Nat) : List Nat := (List.range n).filter fun i => ((shufN n s).2.take many).contains i
theorem range_sorted (n : Nat) : (List.range n).Pairwise (· < ·) := List.pairwise_lt_range
theorem nodup_shuf (n s : Nat) (hn : 1 ≤ n) (hs : s < 18446744073709551616) : (shufN n s).2.Nodup :=
  (shufN_perm n s hn hs).1.nodup_iff.2 List.nodup_range
theorem some_perm (n many s : Nat) (hn : 1 ≤ n) (hs : s < 18446744073709551616) : (someN n many s).Perm ((shufN n s).2.take many) := by
  have hp := (shufN_perm n s hn hs).1
  have hnd : ((shufN n s).2.take many).Nodup := (nodup_shuf n s hn hs).sublist (List.take_sublist _ _)
  rw [List.perm_iff_count]
  intro a
  have hnd2 : (someN n many s).Nodup := List.nodup_range.sublist List.filter_sublist
  rw [hnd.count, hnd2.count]
  have hm : a ∈ someN n many s ↔ a ∈ (shufN n s).2.take many := by
    unfold someN
    rw [List.mem_filter]
    constructor
    · rintro ⟨_, h⟩; simpa using h
    · intro h
      exact ⟨hp.mem_iff.1 (List.mem_of_mem_take h), by simpa using h⟩
  simp only [hm]
theorem some_sort (n many s : Nat) (hn : 1 ≤ n) (hs : s < 18446744073709551616) : ((shufN n s).2.take many).mergeSort (fun x y => decide (x ≤ y)) = someN n many s := by
  have h1 : (((shufN n s).2.take many).mergeSort (fun x y => decide (x ≤ y))).Perm (someN n many s) := (List.mergeSort_perm _ _).trans (some_perm n many s hn hs).symm
  refine List.Perm.eq_of_pairwise (le := fun x y => x ≤ y) (fun a b _ _ h1 h2 => Nat.le_antisymm h1 h2) ?_ ?_ h1
  · have := List.pairwise_mergeSort (le := fun x y : Nat => decide (x ≤ y)) (by intro a b c; simp; omega) (by intro a b; simp; omega) ((shufN n s).2.take many)
    simpa using this
  · exact ((range_sorted n).sublist List.filter_sublist).imp (fun h => Nat.le_of_lt h)
theorem some_len (n many s : Nat) (hn : 1 ≤ n) (hs : s < 18446744073709551616) (hm : many ≤ n) : (someN n many s).length = many := by
  rw [(some_perm n many s hn hs).length_eq, List.length_take, (shufN_perm n s hn hs).1.length_eq, List.length_range]
  omega
theorem some_int (n many s : Nat) (hn : 1 ≤ n) (hs : s < 18446744073709551616) : (((shufN n s).2.take many).map fun x : Nat => (x : Int)).mergeSort (fun x y => decide (x ≤ y)) = (someN n many s).map fun x : Nat => (x : Int) := by
  rw [← some_sort n many s hn hs]
  refine (List.map_mergeSort ?_).symm
  intro a _ b _
  simp
end
section
/- Contracts of layer 6's reference: in, Some. -/
set_option linter.unusedVariables false
set_option linter.unusedSimpArgs false
open Go.RowKit
theorem contains_take_succ (zs : List Nat) (i x : Nat) (hi : i < zs.length) : (zs.take (i + 1)).contains x = ((zs.take i).contains x || (zs.getD i 0 == x)) := by
  rw [List.take_succ_eq_append_getElem hi]
  have : zs.getD i 0 = zs[i] := by simp [List.getD, hi]
  rw [this, Bool.eq_iff_iff]
  simp only [List.contains_iff_mem, List.mem_append, List.mem_singleton, Bool.or_eq_true, beq_iff_eq]
  exact or_congr Iff.rfl eq_comm
/-- Is a number in a row? -/
def hasN (l : List Nat) (x : Nat) : Bool := l.contains x
theorem own_lower {w : World} {base base' e size n : Nat} {v : Value} {xs : List Value} (h : w.ownsRow base e size v n xs) (hb : base' ≤ base) : w.ownsRow base' e size v n xs := by
  refine ⟨h.1, ?_⟩
  rcases h.2 with h0 | ⟨g, cap, cur, rfl, h1, h2⟩
  · exact .inl h0
  · exact .inr ⟨g, cap, cur, rfl, Nat.le_trans hb h1, h2⟩
theorem range_filter_succ (p : Nat → Bool) (k : Nat) : (List.range (k + 1)).filter p = (List.range k).filter p ++ (if p k = true then [k] else []) := by
  rw [List.range_succ, List.filter_append, List.filter_cons, List.filter_nil]
/-- What the reference's Some hands back. -/
def RSomeOut (n many s : Nat) (w : World) (e : Ending) (w' : World) : Prop :=
  ∃ v, e = .returned (.agg #[.int .u64 ((shufN n s).1 : Nat), v]) ∧ w'.ownsRow w.heap.size 3 1 v (someN n many s).length ((someN n many s).map natV) ∧ Below w.heap.size w w'
end
section
/- Contract of layer 6: Some (over the shelf's contracts of slices.Clone and slices.Sort). -/
set_option linter.unusedVariables false
set_option linter.unusedSimpArgs false
open Go.RowKit Go.Sort
/-- A row of the call's own that is not nil, as a row that may be written. -/
theorem own_nats' {w : World} {base e n : Nat} {v : Value} {zs : List Nat} (h : w.ownsRow base e 1 v n (zs.map natV)) (hne : v ≠ .slice none 0 0) : ∃ g c, v = .slice (some ⟨g, 0, none⟩) n c ∧ n ≤ c ∧ base ≤ g ∧ g < w.heap.size ∧ NatsAt w g zs ∧ zs.length = n := by
  have hl : zs.length = n := by have := h.1; simpa using this
  rcases h.2 with ⟨h0, _⟩ | ⟨g, cap, cur, rfl, hb, hh, hcap, hm, hs, hx⟩
  · exact absurd h0 hne
  · have hbx : Box w g e cur := hh
    refine ⟨g, cap, rfl, hcap, hb, hbx.lt, fun j hj => ?_, hl⟩
    rw [hbx.cell j, hbx.free j]
    refine ⟨?_, rfl⟩
    have e1 : (cur.toList.take (n * 1))[j]? = (zs.map natV)[j]? := by rw [hx]
    rw [Nat.mul_one, List.getElem?_take, if_pos (by omega)] at e1
    simp only [List.getElem?_map, List.getElem?_eq_getElem hj, Option.map_some] at e1
    rw [← Array.getElem?_toList, e1]
    simp [List.getD, hj, natV]
theorem mapBlock_other (w : World) (blk k : Nat) (f : Array Value → Array Value) (h : k ≠ blk) : (mapBlock w blk f).heap[k]? = w.heap[k]? := by
  simp only [mapBlock, Array.getElem?_modify]
  rw [if_neg (fun e => h e.symm)]
/-- The world behind a sort. -/
theorem sorted_below (w : World) (n blk off : Nat) (d : Array Int) (os : Array Obj) (h : blk < w.heap.size) : Below blk w (grow (putRow (Value.int .i64) (Sort.ahead w n) blk off d) os) :=
  ⟨rfl, rfl, rfl, by simp, fun k hk => by
    rw [heap_grow_old _ _ (by simp; omega)]
    exact mapBlock_other _ _ _ _ (by omega)⟩
theorem holds_nats {w : World} {g : Nat} {zs : List Nat} (h : NatsAt w g zs) : Holds (Value.int .i64) w g 0 (zs.map fun x : Nat => (x : Int)).toArray := by
  intro j hj
  have hj' : j < zs.length := by simpa using hj
  obtain ⟨h1, h2⟩ := h j hj'
  rw [Nat.zero_add]
  refine ⟨?_, h2⟩
  rw [h1]
  simp [List.getD, hj']
theorem nats_holds {w : World} {g : Nat} {zs : List Nat} (h : Holds (Value.int .i64) w g 0 (zs.map fun x : Nat => (x : Int)).toArray) : NatsAt w g zs := by
  intro j hj
  obtain ⟨h1, h2⟩ := h j (by simpa using hj)
  rw [Nat.zero_add] at h1 h2
  refine ⟨?_, h2⟩
  rw [h1]
  simp [List.getD, hj]
/-- slices.Sort at a row of small numbers. -/
theorem sort_nats (g c k : Nat) (zs zs' : List Nat) (hz : zs.length = k) (w : World) (h : NatsAt w g zs) (hg : g < w.heap.size) (hs : (zs.map fun x : Nat => (x : Int)).mergeSort (fun x y => decide (x ≤ y)) = zs'.map fun x : Nat => (x : Int)) (hk : k ≤ 512) :
    Calls Try.prog 79 #[.slice (some ⟨g, 0, none⟩) k c] w fun e w' => e = .returned (.tuple #[]) ∧ NatsAt w' g zs' ∧ Below g w w' := by
  have hl : (zs.map fun x : Nat => (x : Int)).length = k := by simpa using hz
  have hl2 : zs'.length = zs.length := by
    have := congrArg List.length hs
    simpa using this.symm
  have := Try.slices_Sort_int g 0 c (zs.map fun x : Nat => (x : Int)) w (holds_nats h) hg (by omega)
  rw [hl] at this
  refine this.mono ?_
  rintro e w' ⟨rfl, n, os, rfl⟩
  refine ⟨rfl, ?_, sorted_below w n g 0 _ os hg⟩
  rw [hs]
  refine nats_holds (holds_grow _ _ _ _ _ _ (by simpa using hg) ?_)
  exact holds_putRow _ (Sort.ahead w n) g 0 (zs.map fun x : Nat => (x : Int)).toArray _ (holds_nats h) (by simp [hl2])
theorem some_no (s n many : Int) (h : ¬ ((1 ≤ n ∧ n ≤ 512) ∧ 0 ≤ many ∧ many ≤ n)) (w : World) : Calls Try.prog 64 #[.int .u64 s, .int .i64 n, .int .i64 many] w fun e w' => e = .returned (.tuple #[.int .u64 0, .slice none 0 0, .int .i64 2]) ∧ Below w.heap.size w w' := by
  have H := Lib.hid (bound_any n)
  by_cases hn : 1 ≤ n ∧ n ≤ 512
  · rw [decide_eq_true hn] at H
    by_cases h0 : many < 0
    · go_enter Try.func64, Try.ntmps64
      go_wp2_with fail
      refine (H.out _).mono ?_
      rintro e w1 ⟨rfl, rfl⟩
      go_wp2_with fail
      go_ret3
      exact ⟨rfl, Below.refl _ _⟩
    · have h1 : n < many := by omega
      go_enter Try.func64, Try.ntmps64
      go_wp2_with fail
      refine (H.out _).mono ?_
      rintro e w1 ⟨rfl, rfl⟩
      go_wp2_with fail
      go_ret3
      exact ⟨rfl, Below.refl _ _⟩
  · rw [decide_eq_false hn] at H
    go_enter Try.func64, Try.ntmps64
    go_wp2_with fail
    refine (H.out _).mono ?_
    rintro e w1 ⟨rfl, rfl⟩
    go_wp2_with fail
    go_ret3
    exact ⟨rfl, Below.refl _ _⟩
/-- What Some hands back. -/
def SomeOut (n many s : Nat) (w : World) (e : Ending) (w' : World) : Prop :=
  ∃ g c, e = .returned (.tuple #[.int .u64 ((shufN n s).1 : Nat), .slice (some ⟨g, 0, none⟩) many c, .int .i64 0]) ∧ many ≤ c ∧ NatsAt w' g (someN n many s) ∧ (someN n many s).length = many ∧ w.heap.size ≤ g ∧ g < w'.heap.size ∧ Below w.heap.size w w'
set_option maxRecDepth 100000 in
set_option maxHeartbeats 2000000 in
theorem some_yes (s n many : Nat) (hs : s < 18446744073709551616) (h1 : 1 ≤ n) (h2 : n ≤ 512) (hm : many ≤ n) (w : World) : Calls Try.prog 64 #[.int .u64 s, .int .i64 n, .int .i64 many] w (SomeOut n many s w) := by
  have H := Lib.hid (bound_any n)
  rw [decide_eq_true (p := 1 ≤ (n : Int) ∧ (n : Int) ≤ 512) (by omega)] at H
  have HSI := Lib.hid (some_int n many s h1 hs)
  have HSL := Lib.hid (some_len n many s h1 hs hm)
  have hm0 : ¬ (many : Int) < 0 := by omega
  have hm1 : ¬ (n : Int) < many := by omega
  have hm2 : (many : Int) ≤ n := by omega
  go_enter Try.func64, Try.ntmps64
  go_wp2_with fail
  refine (H.out _).mono ?_
  rintro e w1 ⟨rfl, rfl⟩
  go_wp2_with fail
  refine (shuffle_yes s n hs h1 h2 _).mono ?_
  rintro e w1 ⟨g, rfl, hna, hzl, hg0, hg1, hb⟩
  have HNA := Lib.hid hna
  have HZL := Lib.hid hzl
  have B1 := Lib.hid hb
  clear hna hzl hb
  go_wp2_with fail
  have HCL := Try.slices_Clone_int g 0 many n ((shufN n s).2.map fun x : Nat => (x : Int)) w1 (by simp [HZL.out]; exact hm) (by omega) (fun j hj => by
    have hj' : j < (shufN n s).2.length := by simpa using hj
    rw [Nat.zero_add, (HNA.out j hj').1]
    simp [List.getD, hj'])
  refine HCL.mono ?_
  clear HCL
  rintro e w2 ⟨v, rfl, hown, hne, hb⟩
  have hown2 : w2.ownsRow w1.heap.size 3 1 v many (((shufN n s).2.take many).map natV) := by
    rw [← List.map_take, List.map_map] at hown
    exact hown
  obtain ⟨g2, c2, rfl, hc2, hg2, hg3, hn2, hl2⟩ := own_nats' hown2 hne
  have B2 := Lib.hid (chain B1.out hb)
  have HN2 := Lib.hid hn2
  have HL2 := Lib.hid hl2
  have hw1 := B1.out.size
  clear hown hown2 hne hb hn2 hl2 HNA HZL
  have HS : ∀ W, Hid (W = w2) → Calls Try.prog 79 #[.slice (some ⟨g2, 0, none⟩) many c2] W fun e w' => e = .returned (.tuple #[]) ∧ NatsAt w' g2 (someN n many s) ∧ Below g2 W w' := by
    rintro W hW
    have hW : W = w2 := hW
    subst hW
    by_cases h0 : many = 0
    · subst h0
      refine (Try.slices_Sort_int_none (some ⟨g2, 0, none⟩) c2 W).mono ?_
      rintro e w' ⟨rfl, rfl⟩
      refine ⟨rfl, ?_, Below.refl _ _⟩
      have := HSL.out
      intro j hj
      omega
    · exact sort_nats g2 c2 many _ _ HL2.out W HN2.out hg3 HSI.out (by omega)
  have HS := Lib.hid HS
  go_wp2_with fail
  refine (HS.out w2 (Lib.hid rfl)).mono ?_
  rintro e w3 ⟨rfl, hn3, hb⟩
  go_wp2_with fail
  go_ret3
  exact ⟨g2, c2, rfl, hc2, hn3, HSL.out, by omega, Nat.lt_of_lt_of_le hg3 hb.size, B2.out.trans (hb.mono (by omega))⟩
end
section
/- Contract of the reference's Numbers: are two rows the same? -/
set_option linter.unusedVariables false
set_option linter.unusedSimpArgs false
open Go.RowKit
theorem take_eq_succ {xs ys : List Int} {i : Nat} (ha : i < xs.length) (hb : i < ys.length) (h : xs.take i = ys.take i) (e : xs.getD i 0 = ys.getD i 0) : xs.take (i + 1) = ys.take (i + 1) := by
  rw [List.take_succ_eq_append_getElem ha, List.take_succ_eq_append_getElem hb, h]
  have h1 : xs.getD i 0 = xs[i] := by simp [List.getD, ha]
  have h2 : ys.getD i 0 = ys[i] := by simp [List.getD, hb]
  rw [h1, h2] at e
  rw [e]
/-- Are two rows of numbers the same? -/
def sameZ (xs ys : List Int) : Bool := decide (xs = ys)
end
section
/- Layer 6: rows of small numbers as rows of ints. -/
set_option linter.unusedVariables false
set_option linter.unusedSimpArgs false
open Go.RowKit
def castZ (zs : List Nat) : List Int := zs.map fun x : Nat => (x : Int)
theorem castZ_getD (zs : List Nat) (j : Nat) : (castZ zs).getD j 0 = ((zs.getD j 0 : Nat) : Int) := by
  by_cases h : j < zs.length
  · simp [castZ, List.getD, h]
  · simp [castZ, List.getD, List.getElem?_eq_none (Nat.le_of_not_lt h)]
theorem nats_ints {w : World} {g k : Nat} {zs : List Nat} (h : NatsAt w g zs) (hz : zs.length = k) (hg : g < w.heap.size) (hb : ∀ x ∈ zs, x ≤ 1000000) : Ints w (some ⟨g, 0, none⟩) k (castZ zs) := by
  refine ⟨by simpa [castZ] using hz, fun j => ?_, fun _ => ⟨g, 0, rfl, hg, fun j hj => ?_⟩⟩
  · rw [castZ_getD]
    have : zs.getD j 0 ≤ 1000000 := by
      by_cases hj : j < zs.length
      · have : zs.getD j 0 = zs[j] := by simp [List.getD, hj]
        rw [this]; exact hb _ (List.getElem_mem hj)
      · simp [List.getD, List.getElem?_eq_none (Nat.le_of_not_lt hj)]
    omega
  · rw [castZ_getD, Nat.zero_add]
    exact (h j (by omega)).1
theorem shuf_bound (n s : Nat) (h1 : 1 ≤ n) (h2 : n ≤ 512) (hs : s < 18446744073709551616) : ∀ x ∈ (shufN n s).2, x ≤ 1000000 := by
  intro x hx
  have := (shufN_perm n s h1 hs).1.mem_iff.1 hx
  have : x < n := by simpa using this
  omega
theorem some_bound (n many s : Nat) (h2 : n ≤ 512) : ∀ x ∈ someN n many s, x ≤ 1000000 := by
  intro x hx
  have := List.mem_filter.1 hx
  have : x < n := by simpa using this.1
  omega
theorem sameZ_self (xs : List Int) : sameZ xs xs = true := decide_eq_true rfl
theorem own_natInts {w : World} {base n : Nat} {A : Option Addr} {c : Nat} {zs : List Nat} (h : w.ownsRow base 3 1 (.slice A n c) n (zs.map natV)) (hb : ∀ x ∈ zs, x ≤ 1000000) : Ints w A n (castZ zs) := by
  have h' : w.ownsRow base 3 1 (.slice A n c) n ((castZ zs).map (Value.int .i64)) := by
    have : (castZ zs).map (Value.int .i64) = zs.map natV := by simp [castZ, natV, Function.comp_def]
    rw [this]; exact h
  refine own_ints h' (fun j => ?_)
  rw [castZ_getD]
  have : zs.getD j 0 ≤ 1000000 := by
    by_cases hj : j < zs.length
    · have : zs.getD j 0 = zs[j] := by simp [List.getD, hj]
      rw [this]; exact hb _ (List.getElem_mem hj)
    · simp [List.getD, List.getElem?_eq_none (Nat.le_of_not_lt hj)]
  omega
end
section
/- Words as values; rows of the call's own, from a lower base. No program. -/
set_option linter.unusedVariables false
set_option linter.unusedSimpArgs false
open Go.RowKit
def u64V (x : Nat) : Value := .int .u64 (x : Int)
theorem own_low {w : World} {base base' e size n : Nat} {v : Value} {xs : List Value} (h : w.ownsRow base e size v n xs) (hb : base' ≤ base) : w.ownsRow base' e size v n xs := by
  refine ⟨h.1, ?_⟩
  rcases h.2 with h0 | ⟨g, cap, cur, rfl, h1, h2⟩
  · exact .inl h0
  · exact .inr ⟨g, cap, cur, rfl, Nat.le_trans hb h1, h2⟩
end
section
/- Plain mathematics of layer 7: roots, tables. No program. -/
set_option linter.unusedVariables false
set_option linter.unusedSimpArgs false
theorem countP_lt (n m : Nat) : (List.range n).countP (fun i => decide (i < m)) = min n m := by
  induction n with
  | zero => simp
  | succ n ih =>
    rw [List.range_succ, List.countP_append, ih]
    by_cases h : n < m
    · simp [h]; omega
    · simp [h]; omega
/-- How many of the numbers below 65536 have squares of at most k. -/
def cnt (k : Nat) : Nat := (List.range 65536).countP (fun i => !decide (k < i * i))
theorem exists_root (k : Nat) : ∃ s, s * s ≤ k ∧ k < (s + 1) * (s + 1) := by
  induction k with
  | zero => exact ⟨0, by omega, by omega⟩
  | succ k ih =>
    obtain ⟨s, h1, h2⟩ := ih
    by_cases h : k + 1 < (s + 1) * (s + 1)
    · exact ⟨s, by omega, h⟩
    · refine ⟨s + 1, by omega, ?_⟩
      have e : (s + 1 + 1) * (s + 1 + 1) = (s + 1) * (s + 1) + 2 * s + 3 := by
        simp only [Nat.add_mul, Nat.mul_add]; omega
      omega
theorem sq_le {a b : Nat} (h : a ≤ b) : a * a ≤ b * b := Nat.mul_le_mul h h
theorem cnt_of (k s : Nat) (h1 : s * s ≤ k) (h2 : k < (s + 1) * (s + 1)) (hs : s < 65536) : cnt k = s + 1 := by
  unfold cnt
  have : (List.range 65536).countP (fun i => !decide (k < i * i)) = (List.range 65536).countP (fun i => decide (i < s + 1)) := by
    apply List.countP_congr
    intro i _
    have : (k < i * i) ↔ ¬ (i < s + 1) := by
      constructor
      · intro h h3
        have := sq_le (show i ≤ s by omega)
        omega
      · intro h
        have := sq_le (show s + 1 ≤ i by omega)
        omega
    simp [this]
  rw [this, countP_lt]
  omega
/-- A number's square root, rounded down. -/
def root (k : Nat) : Nat := cnt k - 1
theorem root_of (k s : Nat) (h1 : s * s ≤ k) (h2 : k < (s + 1) * (s + 1)) (hk : k ≤ 2147483647) : root k = s ∧ cnt k = s + 1 := by
  have hs : s < 65536 := by
    rcases Nat.lt_or_ge s 65536 with h | h
    · exact h
    · have := sq_le h; omega
  have := cnt_of k s h1 h2 hs
  exact ⟨by unfold root; omega, this⟩
theorem root_spec (k : Nat) (hk : k ≤ 2147483647) : root k * root k ≤ k ∧ k < (root k + 1) * (root k + 1) ∧ cnt k = root k + 1 ∧ root k < 65536 := by
  obtain ⟨s, h1, h2⟩ := exists_root k
  obtain ⟨e, e2⟩ := root_of k s h1 h2 hk
  have hs : s < 65536 := by
    rcases Nat.lt_or_ge s 65536 with h | h
    · exact h
    · have := sq_le h; omega
  rw [e, e2]
  exact ⟨h1, h2, rfl, hs⟩
theorem root_next (k : Nat) (hk : k + 1 ≤ 2147483647) : root (k + 1) = root k ∨ root (k + 1) = root k + 1 := by
  obtain ⟨a1, a2, _⟩ := root_spec k (by omega)
  generalize root k = s at *
  by_cases h : k + 1 < (s + 1) * (s + 1)
  · left; exact (root_of (k + 1) s (by omega) h hk).1
  · right
    refine (root_of (k + 1) (s + 1) (by omega) ?_ hk).1
    have e : (s + 1 + 1) * (s + 1 + 1) = (s + 1) * (s + 1) + 2 * s + 3 := by
      simp only [Nat.add_mul, Nat.mul_add]; omega
    omega
theorem root_sq (n : Nat) (hn : n < 46340) : root (n * n) = n ∧ root (n * n + 2 * n) = n := by
  have h := sq_le (show n ≤ 46339 by omega)
  have e : (n + 1) * (n + 1) = n * n + 2 * n + 1 := by simp only [Nat.add_mul, Nat.mul_add]; omega
  exact ⟨(root_of _ n (by omega) (by omega) (by omega)).1, (root_of _ n (by omega) (by omega) (by omega)).1⟩
/-- May a table be? -/
def risesFrom : Nat → List Nat → Bool
  | _, [] => true
  | a, x :: l => decide (a < x) && risesFrom x l
def tabB (ws : List Nat) : Bool := decide (1 ≤ ws.length) && decide (ws.length ≤ 64) && risesFrom 0 ws
theorem rises_at : ∀ (ws : List Nat) (a k : Nat), risesFrom a ws = true → k < ws.length → a < ws.getD k 0 ∧ (k + 1 < ws.length → ws.getD k 0 < ws.getD (k + 1) 0)
  | [], _, _, _, h => by simp at h
  | x :: l, a, k, h, hk => by
    simp only [risesFrom, Bool.and_eq_true, decide_eq_true_eq] at h
    cases k with
    | zero =>
      refine ⟨by simpa using h.1, fun hl => ?_⟩
      have := (rises_at l x 0 h.2 (by simpa using hl)).1
      simpa using this
    | succ k =>
      have := rises_at l x k h.2 (by simpa using hk)
      simp only [List.length_cons] at hk
      refine ⟨by have := this.1; simp only [List.getD_cons_succ]; omega, fun hl => ?_⟩
      simpa using this.2 (by simpa using hl)
theorem rises_mono (ws : List Nat) (h : risesFrom 0 ws = true) (a b : Nat) (hab : a ≤ b) (hb : b < ws.length) : ws.getD a 0 ≤ ws.getD b 0 := by
  induction b with
  | zero => obtain rfl : a = 0 := by omega
            exact Nat.le_refl _
  | succ b ih =>
    by_cases e : a = b + 1
    · rw [e]; exact Nat.le_refl _
    · have h1 := ih (by omega) (by omega)
      have h2 := (rises_at ws 0 b h (by omega)).2 hb
      omega
theorem rises_take (ws : List Nat) (a k : Nat) (hk : k < ws.length) : risesFrom a (ws.take (k + 1)) = (risesFrom a (ws.take k) && decide ((if k = 0 then a else ws.getD (k - 1) 0) < ws.getD k 0)) := by
  induction ws generalizing a k with
  | nil => simp at hk
  | cons x l ih =>
    cases k with
    | zero => simp [risesFrom]
    | succ k =>
      rw [List.take_succ_cons, List.take_succ_cons, risesFrom, risesFrom, ih x k (by simpa using hk), Bool.and_assoc]
      cases k with
      | zero => simp
      | succ k => simp
theorem rises_stop (ws : List Nat) (k : Nat) (hk : k ≤ ws.length) (h : risesFrom 0 (ws.take k) = false) : risesFrom 0 ws = false := by
  rw [Bool.eq_false_iff]
  intro ha
  have : ∀ j, j ≤ ws.length → risesFrom 0 (ws.take j) = true := by
    intro j hj
    have hz := List.take_append_drop j ws
    generalize ws.take j = p at *
    generalize ws.drop j = q at *
    subst hz
    clear h hk hj
    have : ∀ (p : List Nat) (a : Nat), risesFrom a (p ++ q) = true → risesFrom a p = true := by
      intro p
      induction p with
      | nil => intro a _; rfl
      | cons x p ih =>
        intro a h
        simp only [List.cons_append, risesFrom, Bool.and_eq_true] at h ⊢
        exact ⟨h.1, ih x h.2⟩
    exact this p 0 ha
  rw [this k hk] at h
  cases h
/-- The degree that a number picks. -/
def pickN (ws : List Nat) (n : Nat) : Nat := (List.range ws.length).countP (fun i => !decide (n < ws.getD i 0))
theorem pickN_of (ws : List Nat) (n s : Nat) (h1 : ∀ i, i < s → ws.getD i 0 ≤ n) (h2 : ∀ i, s ≤ i → i < ws.length → n < ws.getD i 0) (hs : s ≤ ws.length) : pickN ws n = s := by
  unfold pickN
  have : (List.range ws.length).countP (fun i => !decide (n < ws.getD i 0)) = (List.range ws.length).countP (fun i => decide (i < s)) := by
    apply List.countP_congr
    intro i hi
    have hi' : i < ws.length := by simpa using hi
    by_cases h : i < s
    · have := h1 i h
      simp [h]
      simp [List.getD] at this
      omega
    · have := h2 i (by omega) hi'
      simp [h]
      simp [List.getD] at this
      omega
  rw [this, countP_lt]
  omega
end
section
/- Contracts of layer 7: sort.Search with a predicate that leaves old memory; Root. -/
set_option linter.unusedVariables false
set_option linter.unusedSimpArgs false
open Go.RowKit
/-- What a search asks of its predicate. -/
def Asks (P : Program) (g : Nat) (cb : Array Value) (n : Nat) (p : Nat → Bool) (w : World) : Prop :=
  ∀ (W : World) (i : Nat), i < n → Below w.heap.size w W → Calls P g (#[.int .i64 i] ++ cb) W fun e W' => e = .returned (.bool (p i)) ∧ Below w.heap.size w W'
def Parted (n : Nat) (p : Nat → Bool) (lo hi : Nat) : Prop := (∀ t, t < lo → p t = false) ∧ (∀ t, hi ≤ t → t < n → p t = true)
theorem parted_count (n : Nat) (p : Nat → Bool) (k : Nat) (hk : k ≤ n) (h : Parted n p k k) : (List.range n).countP (fun i => !p i) = k := by
  have : (List.range n).countP (fun i => !p i) = (List.range n).countP (fun i => decide (i < k)) := by
    apply List.countP_congr
    intro i hi
    have hi' : i < n := by simpa using hi
    by_cases e : i < k
    · simp [e, h.1 i e]
    · simp [e, h.2 i (by omega) hi']
  rw [this, countP_lt]; omega
set_option maxHeartbeats 2000000 in
theorem search_any (g : Nat) (cb : Array Value) (n : Nat) (p : Nat → Bool) (w : World) (eg : ∀ args w, (callFunc g args).run Try.prog w = .ok (.enter g args) w) (hsz : n < 4611686018427387904)
    (hf : Asks Try.prog g cb n p w) (hmono : ∀ a b, a ≤ b → b < n → p a = true → p b = true) :
    Calls Try.prog 74 #[.int .i64 n, .func (.func g) #[] cb] w fun e w' => e = .returned (.int .i64 ((List.range n).countP (fun i => !p i) : Nat)) ∧ Below w.heap.size w w' := by
  have M := Lib.hid hmono
  have CN := Lib.hid (parted_count n p)
  clear hmono
  generalize (List.range n).countP (fun i => !p i) = cnt at *
  go_enter Try.func74, Try.ntmps74
  go_wp2
  go_loopg [5, 6] n (fun kx s5 s6 wr => ∃ (lo hi : Nat), s5 = .int .i64 lo ∧ s6 = .int .i64 hi ∧ lo ≤ hi ∧ hi ≤ n ∧ hi - lo ≤ kx ∧ Below w.heap.size w wr ∧ Parted n p lo hi)
  case atStart => exact ⟨0, n, rfl, rfl, Nat.zero_le _, Nat.le_refl _, by omega, Below.refl _ _, ⟨fun t ht => absurd ht (Nat.not_lt_zero _), fun t h1 h2 => by omega⟩⟩
  case round =>
    obtain ⟨lo, hi, rfl, rfl, hlh, hin, hg, hbel, I⟩ := hrel
    by_cases hlt : lo < hi
    · have hc := hf _ ((lo + hi) / 2) (by omega) hbel
      rw [show (((lo + hi) / 2 : Nat) : Int) = ((lo : Int) + (hi : Int)) / 2 by omega] at hc
      cases hp : p ((lo + hi) / 2) <;> rw [hp] at hc
      · have HP := Lib.hid hp
        clear hp
        go_wp2_with (go_at_fn g; refine hc.mono ?_; rintro e w' ⟨rfl, hb2⟩)
        go_roundg (hi - ((lo + hi) / 2 + 1))
        case measure => omega
        case rel =>
          have I2 : Parted n p ((lo + hi) / 2 + 1) hi := ⟨fun t ht => (by
            cases h : p t with
            | false => rfl
            | true => have := M.out t ((lo + hi) / 2) (by omega) (by omega) h; rw [HP.out] at this; cases this), I.2⟩
          exact ⟨(lo + hi) / 2 + 1, hi, by rw [show ((lo : Int) + (hi : Int)) / 2 + 1 = (((lo + hi) / 2 + 1 : Nat) : Int) by omega], rfl, by omega, hin, Nat.le_refl _, hb2, I2⟩
      · have HP := Lib.hid hp
        clear hp
        go_wp2_with (go_at_fn g; refine hc.mono ?_; rintro e w' ⟨rfl, hb2⟩)
        go_roundg ((lo + hi) / 2 - lo)
        case measure => omega
        case rel =>
          have I2 : Parted n p lo ((lo + hi) / 2) := ⟨I.1, fun t ht htn => M.out ((lo + hi) / 2) t ht htn HP.out⟩
          exact ⟨lo, (lo + hi) / 2, rfl, by rw [show ((lo : Int) + (hi : Int)) / 2 = (((lo + hi) / 2 : Nat) : Int) by omega], by omega, by omega, Nat.le_refl _, hb2, I2⟩
    · obtain rfl : hi = lo := by omega
      have ecnt := CN.out hi hin I
      subst ecnt
      go_wp2
      go_ret
      exact ⟨rfl, hbel⟩
theorem sq_cast (i : Nat) : (i : Int) * (i : Int) = ((i * i : Nat) : Int) := by simp
theorem rootF_any (bk k i : Nat) (W : World) (hi : i < 65536) (hk : k ≤ 2147483647) (hc : W.cell? ⟨bk, 0, none⟩ = some (.int .i64 k)) :
    Calls Try.prog 87 (#[.int .i64 i] ++ #[.pointer (some ⟨bk, 0, none⟩)]) W fun e w' => e = .returned (.bool (decide (k < i * i))) ∧ ∃ q, w' = W.drewN q := by
  have h1 : i * i ≤ 4294836225 := Nat.mul_le_mul (show i ≤ 65535 by omega) (show i ≤ 65535 by omega)
  have h2 : (i : Int) * (i : Int) ≤ 4294836225 := by rw [sq_cast]; omega
  have h3 : 0 ≤ (i : Int) * (i : Int) := by rw [sq_cast]; omega
  have e : decide (k < i * i) = decide ((k : Int) < (i : Int) * (i : Int)) := decide_eq_decide.2 (by rw [sq_cast]; omega)
  rw [e]
  clear e h1
  go_enter Try.func87, Try.ntmps87
  go_wp2
  go_ret
  exact ⟨rfl, 0, rfl⟩
theorem root_no (k : Int) (h : k < 0 ∨ 2147483647 < k) (w : World) :
    Calls Try.prog 80 #[.int .i64 k] w fun e w' => e = .returned (.tuple #[.int .i64 0, .int .i64 2]) ∧ Below w.heap.size w w' := by
  rcases h with h | h
  · have t : decide (k < 0) = true := by simpa using h
    go_enter Try.func80, Try.ntmps80
    go_wp2
    go_ret2
    exact ⟨rfl, (Below.refl _ _).alloc (Nat.le_refl _) _⟩
  · have t : decide (k < 0) = false := by simp; omega
    have t2 : decide (2147483647 < k) = true := by simpa using h
    go_enter Try.func80, Try.ntmps80
    go_wp2
    go_ret2
    exact ⟨rfl, (Below.refl _ _).alloc (Nat.le_refl _) _⟩
theorem below_new {w W : World} {o : Obj} (h : Below (w.alloc o).heap.size (w.alloc o) W) : Below w.heap.size w W := chain ((Below.refl _ _).alloc (Nat.le_refl _) o) h
set_option maxHeartbeats 1000000 in
theorem root_yes (k : Nat) (hk : k ≤ 2147483647) (w : World) :
    Calls Try.prog 80 #[.int .i64 k] w fun e w' => e = .returned (.tuple #[.int .i64 (root k : Nat), .int .i64 0]) ∧ Below w.heap.size w w' := by
  obtain ⟨W0, hW0⟩ : ∃ W0, W0 = w.alloc (.cells #[.int .i64 k] 3) := ⟨_, rfl⟩
  have hB0 : Below w.heap.size w W0 := by rw [hW0]; exact (Below.refl _ _).alloc (Nat.le_refl _) _
  have bx : Box W0 w.heap.size 3 #[.int .i64 k] := by rw [hW0]; exact Box.new _ _ _
  have eg : ∀ args w, (callFunc 87 args).run Try.prog w = .ok (.enter 87 args) w := enters_of Try.func87 (by kernel_rfl) rfl
  have hf : Asks Try.prog 87 #[.pointer (some ⟨w.heap.size, 0, none⟩)] 65536 (fun i => decide (k < i * i)) W0 := fun W i hi hb =>
    (rootF_any w.heap.size k i W hi hk ((bx.keep hb).cell 0)).mono fun _ _ ⟨he, q, hq⟩ => ⟨he, by rw [hq]; exact bdN hb q⟩
  have hS := search_any 87 _ 65536 _ W0 eg (by omega) hf (fun a b hab _ h => by have := sq_le hab; simp at h ⊢; omega)
  have hc := (root_spec k hk).2.2
  rw [show (List.range 65536).countP (fun i => !decide (k < i * i)) = root k + 1 from hc.1] at hS
  have hr : root k < 65536 := hc.2
  have HS := Lib.hid hS
  have HW0 := Lib.hid hW0
  have HB := Lib.hid hB0
  generalize root k = r at *
  clear hc hS hf bx hB0 hW0
  have t2 : ¬ (2147483647 : Int) < k := by omega
  go_enter Try.func80, Try.ntmps80
  go_wp2_with fail
  rw [← HW0.out]
  refine HS.out.mono ?_
  rintro e w' ⟨rfl, hb⟩
  go_wp2_with fail
  go_ret2
  exact ⟨by simp, chain HB.out hb⟩
end
section
/- Contracts of layer 7: plain, more, math/bits.Len64 at small numbers. -/
set_option linter.unusedVariables false
set_option linter.unusedSimpArgs false
open Go.RowKit
def plainN (d k : Nat) : Nat := if d = 1 then 4294967296 / k else 4294967296 / (d * (d - 1))
def moreN (d p t k : Nat) : Nat := if d < p then 4294967296 * t / (d * k) else if d = p then 4294967296 * t * Lib.bitLen t / k else 0
theorem mul_cast (a b : Nat) : (a : Int) * (b : Int) = ((a * b : Nat) : Int) := by simp
theorem tab_size : Lib.len8tab.size = 256 := by decide +kernel
theorem len_tab : ∀ n : Fin 256, wrap64 (wrap64 ((Lib.len8tab[n.val]'(by rw [tab_size]; exact n.isLt)).toNat : Int)) = (Lib.bitLen n.val : Int) := by decide +kernel
set_option maxHeartbeats 4000000 in
set_option maxRecDepth 100000 in
theorem len64_int (x : Int) (w : World) (h0 : 0 ≤ x) (h1 : x < 256) : Calls Try.prog 88 #[.int .u64 x] w fun e w' => e = .returned (.int .i64 (Lib.bitLen x.toNat)) ∧ w = w' := by
  go_enter Try.func88, Try.ntmps88
  go_wp2
  go_ret
  refine ⟨congrArg Ending.returned (congrArg (Value.int IntKind.i64) ?_), rfl⟩
  exact len_tab ⟨x.toNat, by omega⟩
theorem len64_any (x : Nat) (hx : x < 256) (w : World) : Calls Try.prog 88 #[.int .u64 x] w fun e w' => e = .returned (.int .i64 (Lib.bitLen x : Nat)) ∧ w = w' := by
  have := len64_int x w (by omega) (by omega)
  rwa [Int.toNat_natCast] at this
theorem bitLen_le (x : Nat) (hx : x < 256) : Lib.bitLen x ≤ 8 := by
  have := Lib.bitLen_le8' (x : Int) (by omega) (by omega)
  rw [Int.toNat_natCast] at this
  omega
theorem plain_any (d k : Nat) (h1 : 1 ≤ d) (h2 : d ≤ 64) (h3 : 1 ≤ k) (h4 : k ≤ 64) (w : World) :
    Calls Try.prog 82 #[.int .u64 d, .int .u64 k] w fun e w' => e = .returned (.int .u64 (plainN d k : Nat)) ∧ w = w' := by
  by_cases hd : d = 1
  · subst hd
    have g : (1 : Int) ≤ k := by omega
    go_enter Try.func82, Try.ntmps82
    go_wp2
    go_ret
    exact ⟨rfl, rfl⟩
  · obtain ⟨c, rfl⟩ : ∃ c, d = c + 1 := ⟨d - 1, by omega⟩
    have t : (((c + 1 : Nat) : Int) == 1) = false := beq_eq_false_iff_ne.2 (by omega)
    have e : plainN (c + 1) k = 4294967296 / ((c + 1) * c) := by rw [plainN, if_neg hd]; rfl
    rw [e]
    have q0 : 1 * 1 ≤ (c + 1) * c := Nat.mul_le_mul (by omega) (by omega)
    have q1 : (c + 1) * c ≤ 64 * 63 := Nat.mul_le_mul (by omega) (by omega)
    have q2 : ((c : Int) + 1) * (c : Int) = (((c + 1) * c : Nat) : Int) := by simp
    have q3 : 1 ≤ ((c : Int) + 1) * (c : Int) := by rw [q2]; omega
    have q4 : ((c : Int) + 1) * (c : Int) ≤ 4032 := by rw [q2]; omega
    have HQ := Lib.hid q2
    clear q2 e
    go_enter Try.func82, Try.ntmps82
    go_wp2
    go_ret
    exact ⟨congrArg (fun z => Ending.returned (.int .u64 z)) (by rw [HQ.out]; simp), rfl⟩
set_option maxHeartbeats 1000000 in
theorem more_any (d p t k : Nat) (h1 : 1 ≤ d) (h2 : d ≤ 64) (h3 : 1 ≤ k) (h4 : k ≤ 64) (h5 : 1 ≤ t) (h6 : t ≤ 64) (h7 : p ≤ 64) (w : World) :
    Calls Try.prog 83 #[.int .u64 d, .int .u64 p, .int .u64 t, .int .u64 k] w fun e w' => e = .returned (.int .u64 (moreN d p t k : Nat)) ∧ w = w' := by
  have g1 : (1 : Int) ≤ k := by omega
  by_cases hd : d < p
  · have e : moreN d p t k = 4294967296 * t / (d * k) := by rw [moreN, if_pos hd]
    rw [e]
    have g : (d : Int) < p := by omega
    have q0 : 1 * 1 ≤ d * k := Nat.mul_le_mul (by omega) (by omega)
    have q1 : d * k ≤ 64 * 64 := Nat.mul_le_mul (by omega) (by omega)
    have q2 : (d : Int) * (k : Int) = ((d * k : Nat) : Int) := by simp
    have q3 : 1 ≤ (d : Int) * (k : Int) := by rw [q2]; omega
    have q4 : (d : Int) * (k : Int) ≤ 4096 := by rw [q2]; omega
    have HQ := Lib.hid q2
    clear q2 e
    go_enter Try.func83, Try.ntmps83
    go_wp2
    go_ret
    exact ⟨congrArg (fun z => Ending.returned (.int .u64 z)) (by rw [HQ.out]; simp), rfl⟩
  · have g : ¬ (d : Int) < p := by omega
    by_cases hp : d = p
    · have e : moreN d p t k = 4294967296 * t * Lib.bitLen t / k := by rw [moreN, if_neg hd, if_pos hp]
      rw [e]
      have g2 : ((d : Int) == (p : Int)) = true := beq_iff_eq.2 (by omega)
      have HL := Lib.hid (len64_any t (by omega) w)
      have hb := bitLen_le t (by omega)
      generalize Lib.bitLen t = z at *
      have q1 : t * z ≤ 64 * 8 := Nat.mul_le_mul (by omega) (by omega)
      have q2 : 4294967296 * (t : Int) * (z : Int) = ((4294967296 * (t * z) : Nat) : Int) := by rw [Int.mul_assoc, mul_cast]; simp
      have q3 : 0 ≤ 4294967296 * (t : Int) * (z : Int) := by rw [q2]; omega
      have q4 : 4294967296 * (t : Int) * (z : Int) ≤ 2199023255552 := by rw [q2]; omega
      have HQ := Lib.hid q2
      clear q2 e hp hd
      go_enter Try.func83, Try.ntmps83
      go_wp2_with fail
      refine HL.out.mono ?_
      rintro e w1 ⟨rfl, rfl⟩
      go_wp2
      go_ret
      exact ⟨congrArg (fun z => Ending.returned (.int .u64 z)) (by rw [HQ.out, Nat.mul_assoc]; simp), rfl⟩
    · have e : moreN d p t k = 0 := by rw [moreN, if_neg hd, if_neg hp]
      rw [e]
      have g2 : ((d : Int) == (p : Int)) = false := beq_eq_false_iff_ne.2 (by omega)
      clear e hp
      go_enter Try.func83, Try.ntmps83
      go_wp2
      go_ret
      exact ⟨rfl, rfl⟩
end
section
/- A law of one's own for a region that draws its order inside a fence: its first operations and calls leave the world alone but for draws, the rest come one after the other (a call that writes among them). One walk serves every order. No program. -/
set_option linter.unusedVariables false
set_option linter.unusedSimpArgs false
section
variable {F : Fence} {n : Nat} {P : Program} {ops : Array Oper} {md : Region.Mode} {C : World → Prop}
/-- Whatever order the first m operations take, f of them are still to come; L at the end. -/
def headIn (F : Fence) (n : Nat) (P : Program) (md : Region.Mode) (ops : Array Oper) (C : World → Prop) (m : Nat) (L : Array Bool → Act → Prop) : Nat → Array Bool → Act → Prop
  | 0, listed, a => L listed a
  | f + 1, listed, a => Region.ready md ops listed ≠ [] ∧ ∀ i ∈ Region.ready md ops listed, i < m ∧ qOpIn F n P ops C i (headIn F n P md ops C m L f (listed.setIfInBounds i true)) a
theorem any_of_head {m g : Nat} {L : Array Bool → Act → Prop} {Q : Exit → Act → World → Prop} (hro : F.round = none) (hL : ∀ listed a w, C w → L listed a → wpAnyIn F n P md ops Q g listed a w) :
    ∀ (f : Nat) (listed : Array Bool) (a : Act) (w : World), C w → headIn F n P md ops C m L f listed a → wpAnyIn F n P md ops Q (f + g) listed a w
  | 0, listed, a, w, hw, h => by rw [Nat.zero_add]; exact hL _ _ _ hw h
  | f + 1, listed, a, w, hw, h => by
    rw [show f + 1 + g = (f + g) + 1 by omega]
    exact ⟨fun h0 => absurd h0 h.1, fun i hi => wpOpIn_of_qOpIn hro hw (fun a' w' hw' h' => any_of_head hro hL f _ a' w' hw' h') (h.2 i hi).2⟩
theorem head_first {m i : Nat} {oi : Oper} {v : Value} {L : Array Bool → Act → Prop} (hi : ops[i]? = some oi) (hsel : ∀ (j : Nat) (o : Oper) cs b, ops[j]? = some o → o.op ≠ .select cs b)
    (hs : Region.sinkB md ops m = true) (hc : Region.chainB md ops m = true) (hm : m < ops.size) (him : i < m) (hdone : ∀ listed a, L listed a → ∀ j ∈ Region.ready md ops listed, m ≤ j) :
    ∀ (f : Nat) (listed : Array Bool) (a : Act), HeadInv md ops m listed →
      (∀ j oj, ops[j]? = some oj → j ≠ i → listed.getD j true = false → (∀ e ∈ oj.after, Region.binds md e = true → e.on ≠ i) → oi.apart ops oj = true) →
      i ∈ Region.ready md ops listed → YieldsQuiet F n P ops C oi v a →
      headIn F n P md ops C m L f (listed.setIfInBounds i true) (a.put oi.dst v) → headIn F n P md ops C m L (f + 1) listed a := by
  intro f
  induction f with
  | zero =>
    intro listed a inv _ hr hy H
    have hun := (mem_ready.1 hr).1
    refine ⟨fun h => (by rw [h] at hr; cases hr), fun j hj => ?_⟩
    have hjm : j < m := by
      rcases Nat.lt_or_ge j m with h | h
      · exact h
      · exact absurd hj (tail_waits hs hc hm inv _ i rfl him hun j h)
    refine ⟨hjm, ?_⟩
    by_cases hji : j = i
    · subst hji; exact hy.qOpIn hi H
    · have := hdone _ _ H j (ready_mono hj hji)
      omega
  | succ f ih =>
    intro listed a inv hfree hr hy H
    have hun := (mem_ready.1 hr).1
    refine ⟨fun h => (by rw [h] at hr; cases hr), fun j hj => ?_⟩
    have hjm : j < m := by
      rcases Nat.lt_or_ge j m with h | h
      · exact h
      · exact absurd hj (tail_waits hs hc hm inv _ i rfl him hun j h)
    refine ⟨hjm, ?_⟩
    by_cases hji : j = i
    · subst hji; exact hy.qOpIn hi H
    · have h1 := (H.2 j (ready_mono hj hji)).2
      obtain ⟨hjun, oj, hoj, hall⟩ := mem_ready.1 hj
      have hnot : ∀ e ∈ oj.after, Region.binds md e = true → e.on ≠ i := fun e he hb heq => by
        have h1 := hall e he hb
        rw [heq, getD_both hun] at h1
        cases h1
      have h2 := qOpIn_put hoj (hfree j oj hoj hji hjun hnot) (fun cs b => hsel i oi cs b hi) (fun cs b => hsel j oj cs b hoj) hy h1
      have hfree' : ∀ k ok, ops[k]? = some ok → k ≠ i → (listed.setIfInBounds j true).getD k true = false →
          (∀ e ∈ ok.after, Region.binds md e = true → e.on ≠ i) → oi.apart ops ok = true := fun k ok hk hki hun hno => by
        refine hfree k ok hk hki ?_ hno
        by_cases hjk : j = k
        · subst hjk; exact hjun
        · rw [getD_set_ne true hjk] at hun; exact hun
      refine qOpIn_mono (fun a' h3 => ih (listed.setIfInBounds j true) a' (inv.set hj hjm) hfree' (ready_mono hr (Ne.symm hji)) h3.1 ?_) h2
      rw [Array.setIfInBounds_comm _ _ hji]
      exact h3.2
theorem any_of_list {Q : Exit → Act → World → Prop} : ∀ (l : List Oper) (k : Nat) (listed : Array Bool) (a : Act) (w : World), (∀ j, l[j]? = ops[k + j]?) →
    Region.seqB md ops l.length k listed = true → wpListIn F n P ops Q l a w → wpAnyIn F n P md ops Q l.length listed a w
  | [], _, _, _, _, _, hB, h => ⟨by simpa [Region.seqB] using hB, h⟩
  | o :: l, k, listed, a, w, hl, hB, h => by
    have h0 : ops[k]? = some o := by simpa using (hl 0).symm
    simp only [List.length_cons, Region.seqB, Bool.and_eq_true, decide_eq_true_eq] at hB
    refine ⟨fun h1 => (by rw [hB.1] at h1; cases h1), fun i hi => ?_⟩
    rw [hB.1] at hi
    have hik : i = k := by simpa using hi
    subst hik
    have hw : wpOpIn F n P ops Q i (wpListIn F n P ops Q l) a w := by unfold wpOpIn; simp only [h0]; exact h
    exact wpOpIn_mono (fun a' w' h' => any_of_list l (i + 1) _ a' w' (fun j => by have := hl (j + 1); simpa [Nat.add_assoc, Nat.add_comm 1 j] using this) hB.2 h') hw
theorem head_lex {m g : Nat} {Lq : Act → Prop} (hsel : Region.noSelect ops = true) (hs : Region.sinkB md ops m = true) (hc : Region.chainB md ops m = true) (hm : m < ops.size) :
    ∀ (l : List Oper) (k : Nat) (listed : Array Bool) (a : Act), (∀ j, j < l.length → l[j]? = ops[k + j]?) → k + l.length = m → HeadInv md ops m listed →
    Region.lexHead md ops g l.length k listed = true → wpQuietIn F n P ops C Lq l a →
    headIn F n P md ops C m (fun listed' a' => Region.seqB md ops g m listed' = true ∧ Lq a') l.length listed a
  | [], k, listed, a, _, hk, _, hB, h => by
    have : k = m := by simpa using hk
    subst this
    exact ⟨by simpa [Region.lexHead] using hB, h⟩
  | o :: l, k, listed, a, hl, hk, inv, hB, h => by
    have h0 : ops[k]? = some o := by simpa using (hl 0 (by simp)).symm
    simp only [List.length_cons, Region.lexHead, Bool.and_eq_true] at hB
    obtain ⟨⟨hr, hf⟩, hB'⟩ := hB
    have hkm : k < m := by simp only [List.length_cons] at hk; omega
    have hr' : k ∈ Region.ready md ops listed := by simpa using hr
    have hst : qOpIn F n P ops C k (wpQuietIn F n P ops C Lq l) a := by unfold qOpIn; simp only [h0]; exact h
    obtain ⟨v, hy, hK⟩ := yieldsQuiet_of_qOpIn h0 hst
    exact head_first h0 (Region.noSelect_spec hsel) hs hc hm hkm (fun listed' a' hL => seqB_ready hL.1) l.length listed a inv (Region.free_spec h0 hf) hr' hy
      (head_lex hsel hs hc hm l (k + 1) _ _ (fun j hj => by have := hl (j + 1) (by simp; omega); simpa [Nat.add_assoc, Nat.add_comm 1 j] using this) (by simp only [List.length_cons] at hk; omega) (inv.set hr' hkm) hB' hK)
/-- ONE WALK: the first m operations quietly, whatever world some draws leave; the rest in their order. -/
theorem wpIn_quiet_tail {id : Nat} {Q : Exit → Act → World → Prop} {a : Act} {w : World} {l : List Oper} (m : Nat) (hro : F.round = none) (hmx : P.follows .mixedOrders = true) (hB : Region.lexTailB .any l.toArray m = true)
    (h : wpQuietIn F n P l.toArray (fun w' => ∃ d, w' = w.drewN d) (fun a' => ∀ w', (∃ d, w' = w.drewN d) → wpListIn F n P l.toArray Q (l.drop m) a' w') (l.take m) a) : (Code.region id l.toArray true).wpIn F n P Q a w := by
  simp only [Region.lexTailB, Bool.and_eq_true, decide_eq_true_eq] at hB
  obtain ⟨⟨⟨⟨hsel, hm⟩, hs⟩, hc⟩, hlex⟩ := hB
  have hm' : m < l.length := by simpa using hm
  have htl : (l.take m).length = m := by simp; omega
  have hdl : (l.drop m).length = l.toArray.size - m := by simp
  have inv0 : HeadInv .any l.toArray m (Array.replicate l.toArray.size false) :=
    ⟨by simp, fun j oj _ hl => (by rw [getD_replicate_false] at hl; cases hl), fun t _ ht => getD_in (by simpa using ht) (getD_replicate_false _ _)⟩
  have H := head_lex (F := F) (n := n) (C := fun w' => ∃ d, w' = w.drewN d) (md := .any) (g := l.toArray.size - m) hsel hs hc hm (l.take m) 0 _ a (fun j hj => by
    have hj' : j < m := by rw [htl] at hj; exact hj
    simp [hj']) (by simpa using htl) inv0 (by rw [htl]; exact hlex) h
  refine wpIn_region_any hmx ?_
  have := any_of_head (Q := Q) (g := l.toArray.size - m) hro (fun listed a' w' hw' hL => by
    have := any_of_list (F := F) (n := n) (md := .any) (Q := Q) (l.drop m) m listed a' w' (fun j => by simp [List.getElem?_drop]) (by rw [hdl]; exact hL.1) (hL.2 w' hw')
    rwa [hdl] at this) _ _ _ { w with drawn := w.drawn + 1 } ⟨1, rfl⟩ H
  rw [htl, show m + (l.toArray.size - m) = l.toArray.size by omega] at this
  exact this
end
end
section
/- Contracts of layer 7: the iterator of the weights. -/
set_option linter.unusedVariables false
set_option linter.unusedSimpArgs false
open Go.RowKit Go.Shelf
attribute [local go_sem] Oper.semAt_some
/-- The weight of degree d of k blocks. -/
def wgt (k d : Nat) : Nat := plainN d k + moreN d (k / root k) (root k) k
def wgts (k j : Nat) : List Nat := (List.range j).map fun i => wgt k (i + 1)
theorem wgts_succ (k j : Nat) : wgts k (j + 1) = wgts k j ++ [wgt k (j + 1)] := by simp [wgts, List.range_succ]
theorem wgts_len (k j : Nat) : (wgts k j).length = j := by simp [wgts]
theorem abides_drew {β : Type} {B : Nat} {J : β → World → Prop} (h : AbidesFrom B J) {s : β} {W : World} (hs : J s W) : J s W.drew :=
  h s W W.drew none hs ⟨rfl, rfl, rfl, Nat.le_refl _, fun _ _ _ => rfl⟩ (fun r e => by cases e)
theorem abides_drewN {β : Type} {B : Nat} {J : β → World → Prop} (h : AbidesFrom B J) {s : β} {W : World} (hs : J s W) (d : Nat) : J s (W.drewN d) :=
  h s W (W.drewN d) none hs ⟨rfl, rfl, rfl, Nat.le_refl _, fun _ _ _ => rfl⟩ (fun r e => by cases e)
theorem quietIn_w {F : Fence} {n : Nat} {P : Program} {f : FuncId} {args : Array Value} {w : World} {k : Nat} {v : Value}
    (h : CallsIn F n P f args (w.drewN k) fun e w' => e = .returned v ∧ w.drewN k = w') : CallsIn F n P f args (w.drewN k) fun e w'' => e = .returned v ∧ ∃ m, w'' = w.drewN m :=
  h.mono fun _ _ ⟨he, hm⟩ => ⟨he, k, hm.symm⟩
/-- What the iterator asks of a round: its three boxes stay. -/
def Kp3 (B1 B2 B3 : Nat) (W W' : World) : Prop := ∀ b, b = B1 ∨ b = B2 ∨ b = B3 → W'.heap[b]? = W.heap[b]?
theorem Kp3.trans {B1 B2 B3 : Nat} {A B C : World} (h : Kp3 B1 B2 B3 A B) (k : Kp3 B1 B2 B3 B C) : Kp3 B1 B2 B3 A C := fun b hb => (k b hb).trans (h b hb)
theorem Kp3.refl (B1 B2 B3 : Nat) (A : World) : Kp3 B1 B2 B3 A A := fun _ _ => rfl
/-- How a round ends: it goes on, or it says 'no more'. -/
def Rnd (B1 B2 B3 : Nat) (J Jx : List Nat → World → Prop) (ys : List Nat) (W : World) (b : Bool) (W' : World) : Prop := (b = true → J ys W' ∧ Kp3 B1 B2 B3 W W') ∧ (b = false → Jx ys W')
def RndE (B1 B2 B3 : Nat) (J Jx : List Nat → World → Prop) (ys : List Nat) (W : World) (e : Ending) (W' : World) : Prop := ∃ b : Bool, e = .returned (.bool b) ∧ Rnd B1 B2 B3 J Jx ys W b W'
theorem rnd_of {B1 B2 B3 : Nat} {J Jx : List Nat → World → Prop} {ys : List Nat} {W : World} (e : Ending) (W' : World) (h : (e = .returned (.bool true) ∧ J ys W' ∧ Kp3 B1 B2 B3 W W') ∨ (e = .returned (.bool false) ∧ Jx ys W')) : RndE B1 B2 B3 J Jx ys W e W' := by
  rcases h with ⟨rfl, h1, h2⟩ | ⟨rfl, h1⟩
  · exact ⟨true, rfl, fun _ => ⟨h1, h2⟩, (fun h => by cases h)⟩
  · exact ⟨false, rfl, (fun h => by cases h), fun _ => h1⟩
set_option maxRecDepth 100000 in
set_option maxHeartbeats 4000000 in
theorem weights1_in (F : Fence) (hF : F = Fence.wide) (n : Nat) (hn : 1 ≤ n) (l B1 B2 B3 k p t : Nat) (hk1 : 1 ≤ k) (hk : k ≤ 64) (ht1 : 1 ≤ t) (ht : t ≤ 64) (hp : p ≤ 64)
    (hbd : ∀ d, d ≤ k → plainN d k + moreN d p t k < 18446744073709551616) (J Jx : List Nat → World → Prop) (m₀ : Nat) (hJ : AbidesFrom m₀ J)
    (hY : ∀ (pre : List Nat) (x : Nat) (W : World), J pre W → pre.length < k → YieldAt F (n - 1) Try.prog l #[.int .u64 (x : Int)] W fun e W' =>
      (e = .returned (.bool true) ∧ J (pre ++ [x]) W' ∧ Kp3 B1 B2 B3 W W') ∨ (e = .returned (.bool false) ∧ Jx (pre ++ [x]) W'))
    (W : World) (h1 : W.cell? ⟨B1, 0, none⟩ = some (.int .u64 k)) (h2 : W.cell? ⟨B2, 0, none⟩ = some (.int .u64 p)) (h3 : W.cell? ⟨B3, 0, none⟩ = some (.int .u64 t)) (h0 : J [] W) :
    CallsIn F n Try.prog 81 #[.func (.yield l) #[] #[], .pointer (some ⟨B1, 0, none⟩), .pointer (some ⟨B2, 0, none⟩), .pointer (some ⟨B3, 0, none⟩)] W fun e W' => (∃ v, e = .returned v) ∧
      ((∃ ys, ys = (List.range k).map (fun i : Nat => plainN (i + 1) k + moreN (i + 1) p t k) ∧ J ys W') ∨ (∃ pre, (∃ j, j ≤ k ∧ pre = (List.range j).map (fun i : Nat => plainN (i + 1) k + moreN (i + 1) p t k)) ∧ Jx pre W')) := by
  subst hF
  refine callsIn_of_wp Try.func81 rfl trivial ?_ rfl
  simp only [Try.ntmps81, List.size_toArray, List.length_cons, List.length_nil, Nat.reduceAdd, Nat.reduceSub, Array.replicate_succ, Array.replicate_zero, List.push_toArray, List.append_toArray, List.nil_append, List.cons_append]
  gi_wp2
  gi_loopw [5] (fun i wr => ∃ e : Nat, 1 ≤ e ∧ e ≤ k + 1 ∧ i = .int .u64 (e : Nat) ∧ J ((List.range (e - 1)).map (fun i : Nat => plainN (i + 1) k + moreN (i + 1) p t k)) wr ∧ Kp3 B1 B2 B3 W wr)
    (fun i _ => k + 1 - (intOf i).toNat)
  case atStart => exact ⟨1, Nat.le_refl _, by omega, rfl, h0, Kp3.refl _ _ _ _⟩
  case round =>
    obtain ⟨e, he1, he, rfl, hJs, hnx⟩ := hrel
    have HNX := Lib.hid hnx
    have c1 := (World.cell?_of_block (a := ⟨B1, 0, none⟩) (hnx B1 (.inl rfl))).trans h1
    have c2 := (World.cell?_of_block (a := ⟨B2, 0, none⟩) (hnx B2 (.inr (.inl rfl)))).trans h2
    have c3 := (World.cell?_of_block (a := ⟨B3, 0, none⟩) (hnx B3 (.inr (.inr rfl)))).trans h3
    by_cases hlt : e ≤ k
    · have hsn : (List.range (e + 1 - 1)).map (fun i : Nat => plainN (i + 1) k + moreN (i + 1) p t k) = (List.range (e - 1)).map (fun i : Nat => plainN (i + 1) k + moreN (i + 1) p t k) ++ [plainN e k + moreN e p t k] := by
        obtain ⟨d, rfl⟩ : ∃ d, e = d + 1 := ⟨e - 1, by omega⟩
        simp [List.range_succ]
      have hlen : ((List.range (e - 1)).map (fun i : Nat => plainN (i + 1) k + moreN (i + 1) p t k)).length < k := by simp; omega
      have HYe := Lib.hid (fun W hW => hY _ (plainN e k + moreN e p t k) W hW hlen)
      have g : (e : Int) ≤ k := by omega
      have hb := hbd e hlt
      clear hnx hlen hY
      have HA := Lib.hid (plain_any e k (by omega) (by omega) hk1 hk)
      have HM := Lib.hid (more_any e p t k (by omega) (by omega) hk1 hk ht1 ht hp)
      have HSN := Lib.hid hsn
      have hmx : Try.prog.follows .mixedOrders = true := by kernel_rfl
      clear hsn
      generalize plainN e k = a at *
      generalize moreN e p t k = b at *
      have hwr : IntKind.u64.wrap ((a : Int) + (b : Int)) = (a : Int) + (b : Int) := IntWalk.u64_in _ (by omega)
      gi_wp2
      refine wpIn_quiet_tail 10 rfl (by kernel_rfl) (by kernel_rfl) ?_
      simp only [List.take_succ_cons, List.take_zero, List.drop_succ_cons, List.drop_zero]
      repeat
        refine wpQuietIn_step (fun _ _ _ _ => trivial) (fun K hK => ?_)
        go_simp
        first
          | (refine hK _ ?_; clear hK K)
          | (apply Exists.intro
             refine ⟨fun _ => ?_, hK _ ?_⟩
             (first | (gi_at_call 82; exact quietIn_w (callsIn_wide.2 (HA.out _))) | (gi_at_call 83; exact quietIn_w (callsIn_wide.2 (HM.out _))))
             clear hK K)
      refine wpQuietIn_nil ?_
      intro _ hw'
      obtain ⟨nq, rfl⟩ := hw'
      obtain ⟨fn, tmps, assign, body, hy, hR⟩ := HYe.out _ (abides_drewN hJ hJs nq)
      simp only [Int.natCast_add] at hy
      have hR' := Lib.hid (hR.mono rnd_of)
      clear hR
      gi_wp2
      refine RoundIn.mono hR'.out ?_
      rintro e' W3 ⟨bv, rfl, hP⟩
      cases bv
      · gi_wp2
        refine bodyPost_ret (results_none rfl _ _ _) rfl ?_
        exact ⟨⟨_, rfl⟩, .inr ⟨_, ⟨e, hlt, HSN.out.symm⟩, hP.2 rfl⟩⟩
      · gi_wp2
        go_roundw
        case rel => exact ⟨e + 1, by omega, by omega, by go_num, by rw [HSN.out]; exact (hP.1 rfl).1, Kp3.trans (B := wr.drewN nq) (fun b hb => HNX.out b hb) (hP.1 rfl).2⟩
        case measure => simp [intOf]; omega
    · obtain rfl : e = k + 1 := by omega
      have g : ¬ (((k + 1 : Nat) : Int) ≤ k) := by omega
      gi_wp2
      go_end0
      first
        | exact ⟨⟨_, rfl⟩, .inl hJs⟩
        | exact .inl hJs
        | exact ⟨⟨_, rfl⟩, .inl ⟨_, rfl, hJs⟩⟩
end
section
/- Contracts of layer 7: blocksMayBe, weights, Weights. -/
set_option linter.unusedVariables false
set_option linter.unusedSimpArgs false
open Go.RowKit Go.Shelf
attribute [local go_sem] Oper.semAt_some
def kmb (n : Int) : Bool := decide (1 ≤ n) && decide (n ≤ 64)
theorem kmb_yes {n : Int} (h : 1 ≤ n ∧ n ≤ 64) : kmb n = true := by simp [kmb, h]
theorem kmb_no {n : Int} (h : ¬ (1 ≤ n ∧ n ≤ 64)) : kmb n = false := by
  rw [Bool.eq_false_iff]; intro e; simp [kmb] at e; exact h e
theorem kmb_any (n : Int) (w : World) : Calls Try.prog 71 #[.int .i64 n] w fun e w' => e = .returned (.bool (kmb n)) ∧ w = w' := by
  by_cases h : 1 ≤ n
  · by_cases h2 : n ≤ 64
    · rw [kmb_yes ⟨h, h2⟩]
      go_enter Try.func71, Try.ntmps71
      go_wp2
      go_ret
      exact ⟨rfl, rfl⟩
    · rw [kmb_no (fun x => h2 x.2)]
      have t : decide (n ≤ 64) = false := by simpa using h2
      go_enter Try.func71, Try.ntmps71
      go_wp2
      go_ret
      exact ⟨by simp, rfl⟩
  · rw [kmb_no (fun x => h x.1)]
    have t : decide (1 ≤ n) = false := by simpa using h
    go_enter Try.func71, Try.ntmps71
    go_wp2
    go_ret
    exact ⟨by simp, rfl⟩
theorem root_small : ∀ k : Fin 65, 1 ≤ k.val → 1 ≤ root k.val ∧ root k.val ≤ 8 := by
  intro k h
  obtain ⟨h1, h2, _, _⟩ := root_spec k.val (by omega)
  have hk := k.isLt
  constructor
  · rcases Nat.eq_zero_or_pos (root k.val) with e | e
    · rw [e] at h2; omega
    · exact e
  · rcases Nat.lt_or_ge 8 (root k.val) with e | e
    · have := sq_le (show 9 ≤ root k.val from e); omega
    · exact e
/-- The iterator that weights hands back: its three boxes. -/
def ItOut (k : Nat) (w : World) (e : Ending) (w' : World) : Prop :=
  ∃ B1 B2 B3, e = .returned (.func (.func 81) #[] #[.pointer (some ⟨B1, 0, none⟩), .pointer (some ⟨B2, 0, none⟩), .pointer (some ⟨B3, 0, none⟩)]) ∧ Box w' B1 25 #[.int .u64 k] ∧ Box w' B2 25 #[.int .u64 (k / root k : Nat)] ∧ Box w' B3 25 #[.int .u64 (root k : Nat)] ∧ (w.heap.size ≤ B1 ∧ w.heap.size ≤ B2 ∧ w.heap.size ≤ B3) ∧ Below w.heap.size w w'
theorem weights_any (k : Nat) (h1 : 1 ≤ k) (h2 : k ≤ 64) (w : World) : Calls Try.prog 72 #[.int .i64 k] w (ItOut k w) := by
  have hr := root_small ⟨k, by omega⟩ h1
  simp only at hr
  have HR := Lib.hid (root_yes k (by omega) w)
  have HX := Lib.hid (show IntKind.u64.wrap ((k : Int) / (root k : Int)) = ((k / root k : Nat) : Int) by
    have : (k : Int) / (root k : Int) = ((k / root k : Nat) : Int) := by simp
    rw [this]; have h := Nat.div_le_self k (root k); generalize k / root k = q at *; exact IntWalk.u64_in _ (by omega))
  unfold ItOut
  generalize root k = r at *
  obtain ⟨g1, g2⟩ := hr
  go_enter Try.func72, Try.ntmps72
  go_wp2_with fail
  refine HR.out.mono ?_
  rintro e w1 ⟨rfl, hb⟩
  have HB := Lib.hid hb
  clear hb
  go_wp2
  go_ret
  rw [HX.out]
  have b1 := ((Box.new w1 25 #[.int .u64 k]).alloc (.cells #[.int .u64 r] 25)).alloc (.cells #[.int .u64 (k / r : Nat)] 25)
  have b3 := (Box.new (w1.alloc (.cells #[.int .u64 k] 25)) 25 #[.int .u64 r]).alloc (.cells #[.int .u64 (k / r : Nat)] 25)
  have b2 := Box.new ((w1.alloc (.cells #[.int .u64 k] 25)).alloc (.cells #[.int .u64 r] 25)) 25 #[.int .u64 (k / r : Nat)]
  simp only [World.size_alloc] at b2 b3
  have hsz := HB.out.size
  exact ⟨_, _, _, rfl, b1, b2, b3, ⟨by omega, by omega, by omega⟩, chain HB.out ((((Below.refl _ w1).alloc (Nat.le_refl _) _).alloc (by simp) _).alloc (by simp; omega) _)⟩
/-- Weights and sums are small. -/
theorem wgt_small (k d : Nat) (hk : 1 ≤ k) (hk2 : k ≤ 64) (t p : Nat) (ht : t ≤ 8) : plainN d k + moreN d p t k ≤ 300000000000 := by
  have h1 : plainN d k ≤ 4294967296 := by
    unfold plainN; split <;> exact Nat.div_le_self _ _
  have h2 : moreN d p t k ≤ 4294967296 * 64 := by
    unfold moreN
    have hb : Lib.bitLen t ≤ 8 := bitLen_le t (by omega)
    split
    · exact Nat.le_trans (Nat.div_le_self _ _) (Nat.mul_le_mul (Nat.le_refl _) (by omega))
    · split
      · refine Nat.le_trans (Nat.div_le_self _ _) ?_
        rw [Nat.mul_assoc]
        exact Nat.mul_le_mul (Nat.le_refl _) (Nat.mul_le_mul ht hb)
      · omega
  omega
theorem weights_stops (n : Nat) (hn : 1 ≤ n) (B1 B2 B3 k : Nat) (hk1 : 1 ≤ k) (hk : k ≤ 64) (w : World) (b1 : Box w B1 25 #[.int .u64 k]) (b2 : Box w B2 25 #[.int .u64 (k / root k : Nat)]) (b3 : Box w B3 25 #[.int .u64 (root k : Nat)]) :
    SeqStopsK Fence.wide n Try.prog 81 #[.pointer (some ⟨B1, 0, none⟩), .pointer (some ⟨B2, 0, none⟩), .pointer (some ⟨B3, 0, none⟩)] (fun x : Nat => #[Value.int .u64 (x : Int)]) (Kp3 B1 B2 B3) (fun ys => ys = wgts k k) (fun _ => True) k w := fun l J Jx W hW hJ _ hY h0 => by
  have hr := root_small ⟨k, by omega⟩ hk1
  simp only at hr
  refine (weights1_in Fence.wide rfl n hn l B1 B2 B3 k (k / root k) (root k) hk1 hk hr.1 (by omega) (Nat.le_trans (Nat.div_le_self _ _) hk) (fun d hd => by have := wgt_small k d hk1 hk (root k) (k / root k) hr.2; omega) J Jx W.heap.size hJ hY W ((b1.keep hW).cell 0) ((b2.keep hW).cell 0) ((b3.keep hW).cell 0) h0).mono ?_
  rintro e W' ⟨he, ⟨ys, rfl, hj⟩ | ⟨pre, _, hj⟩⟩
  · exact ⟨he, .inl ⟨_, rfl, hj⟩⟩
  · exact ⟨he, .inr ⟨_, trivial, hj⟩⟩
theorem u64_infoW : (Try.prog.info? 25).map (fun i => (i.zero, i.size, i.bytes)) = some (some (.int .u64 0), 1, 8) := by kernel_rfl
/-- A slice of words, and no error, is returned. -/
def WordsOut (zs : List Nat) (w : World) (e : Ending) (w' : World) : Prop := ∃ v, e = .returned (.tuple #[v, .int .i64 0]) ∧ w'.ownsRow w.heap.size 25 1 v zs.length (zs.map u64V) ∧ Below w.heap.size w w'
theorem keep3 {W w1 : World} {B B1 B2 B3 n1 : Nat} {v v' : Value} {e k : Nat} {xs : List Value} {tmp : Obj} (hrow : W.ownsRow n1 e 1 v k xs) (hgrow : (W.alloc tmp).grownBy w1 v.ownBlock) (hs : n1 ≤ W.heap.size)
    (h1 : B1 < n1) (h2 : B2 < n1) (h3 : B3 < n1) (q1 : B1 ≠ B) (q2 : B2 ≠ B) (q3 : B3 ≠ B) : Kp3 B1 B2 B3 W (w1.setCell ⟨B, 0, none⟩ v') := by
  intro b hb
  have hbn : b < n1 ∧ b ≠ B := by rcases hb with rfl | rfl | rfl <;> exact ⟨‹_›, ‹_›⟩
  have hne : some b ≠ v.ownBlock := fun e => by have := (hrow.lt b e.symm).1; omega
  rw [heap_setCell_other w1 ⟨B, 0, none⟩ b v' hbn.2, hgrow.block b (by simp; omega) hne, Below.heap_alloc W tmp b (by omega)]
theorem kp3_put {B1 B2 B3 : Nat} {w : World} (h1 : B1 < w.heap.size) (h2 : B2 < w.heap.size) (h3 : B3 < w.heap.size) (W : World) (l : Nat) (o o' : Obj) (hl : w.heap.size ≤ l) (_ : W.heap[l]? = some o) (_ : o.isCells = false) (_ : o.isWalk = false) : Kp3 B1 B2 B3 W (W.putObj l o') := by
  intro b hb
  exact World.putObj_heap_other (by rcases hb with rfl | rfl | rfl <;> omega)
theorem box_ne {W : World} {a b : Nat} {t u : TypeId} {x y : Array Value} (h : Box W a t x) (k : Box W b u y) (hne : t ≠ u) : a ≠ b := by
  intro e
  subst e
  unfold Box at h k
  rw [h] at k
  injection k with k
  injection k with _ ht
  exact hne ht
/-- The sum of weights, modulo 2^64. -/
def sumN (xs : List Nat) : Nat := xs.foldl (fun s x => (s + x) % 18446744073709551616) 0
theorem sumN_snoc (xs : List Nat) (x : Nat) : sumN (xs ++ [x]) = (sumN xs + x) % 18446744073709551616 := by simp [sumN]
/-- The sums of the first weights, one by one. -/
def tbl (xs : List Nat) : List Nat := (List.range xs.length).map fun i => sumN (xs.take (i + 1))
theorem tbl_snoc (xs : List Nat) (x : Nat) : tbl (xs ++ [x]) = tbl xs ++ [sumN (xs ++ [x])] := by
  unfold tbl
  rw [List.length_append, List.length_singleton, List.range_succ, List.map_append]
  congr 1
  · apply List.map_congr_left
    intro i hi
    have : i < xs.length := by simpa using hi
    rw [List.take_append_of_le_length (by omega)]
  · simp [List.take_of_length_le]
theorem wrap_nat (s x : Nat) : IntKind.u64.wrap ((s : Int) + (x : Int)) = (((s + x) % 18446744073709551616 : Nat) : Int) := by
  rw [IntKind.wrap_u64]; omega
theorem tbl_len (xs : List Nat) : (tbl xs).length = xs.length := by simp [tbl]
theorem tableN_no (n : Int) (h : kmb n = false) (w : World) : Calls Try.prog 62 #[.int .i64 n] w fun e w' => e = .returned (.tuple #[.slice none 0 0, .int .i64 2]) ∧ Below w.heap.size w w' := by
  have H := Lib.hid (kmb_any n w)
  rw [h] at H
  go_enter Try.func62, Try.ntmps62
  go_wp2_with fail
  refine H.out.mono ?_
  rintro e w1 ⟨rfl, rfl⟩
  go_wp2_with fail
  go_ret2
  exact ⟨rfl, Below.refl _ _⟩
set_option maxRecDepth 100000 in
set_option maxHeartbeats 4000000 in
theorem tableN_in (k : Nat) (hk1 : 1 ≤ k) (hk : k ≤ 64) (w : World) : CallsIn Fence.wide 5 Try.prog 62 #[.int .i64 k] w (WordsOut (tbl (wgts k k)) w) := by
  obtain ⟨i0, hi, hz0, hz1, hz2⟩ := info_parts u64_infoW
  have H := Lib.hid (kmb_any k w)
  rw [kmb_yes (n := (k : Int)) (by omega)] at H
  have HWt := Lib.hid (weights_any k hk1 hk ((w.alloc (.cells #[.slice none 0 0] 60)).alloc (.cells #[.int .u64 0] 25)))
  refine callsIn_of_wp_marks Try.func62 rfl trivial ?_ rfl
  simp only [Try.ntmps62, List.size_toArray, List.length_cons, List.length_nil, Nat.reduceAdd, Nat.reduceSub, Array.replicate_succ, Array.replicate_zero, List.push_toArray, List.append_toArray, List.nil_append, List.cons_append]
  gi_wp2_with (refine ⟨trivial, ?_⟩; first | (gi_at_call 71; refine (callsIn_wide.2 H.out).mono ?_; rintro e w' ⟨rfl, rfl⟩) | (gi_at_call 72; refine (callsIn_wide.2 HWt.out).mono ?_; rintro e w1 ⟨B1, B2, B3, rfl, b1, b2, b3, hge, hb⟩))
  have bO : Boxed w1 w.heap.size 60 (.slice none 0 0) := ((Box.new w 60 #[.slice none 0 0]).alloc (.cells #[.int .u64 0] 25)).keep hb
  have bS : Boxed w1 (w.heap.size + 1) 25 (.int .u64 0) := by
    have := (Box.new (w.alloc (.cells #[.slice none 0 0] 60)) 25 #[.int .u64 0]).keep hb
    rwa [World.size_alloc] at this
  have hB0 : Below w.heap.size w w1 := chain (((Below.refl w.heap.size w).alloc (Nat.le_refl _) (.cells #[.slice none 0 0] 60)).alloc (by simp) (.cells #[.int .u64 0] 25)) hb
  simp only [World.size_alloc] at hge
  obtain ⟨p1, p2, p3⟩ := hge
  have l1 := b1.lt
  have l2 := b2.lt
  have l3 := b3.lt
  have lO := bO.lt
  have lS := bS.lt
  clear hb
  refine wpIn_rangeFunc_ownG rfl (by omega) (gf := 81) (lb := #[.pointer (some ⟨B1, 0, none⟩), .pointer (some ⟨B2, 0, none⟩), .pointer (some ⟨B3, 0, none⟩)]) rfl trivial (enters_of Try.func81 (by kernel_rfl) rfl)
    (weights_stops (5 - 1) (by omega) B1 B2 B3 k hk1 hk w1 b1 b2 b3) Kp3.trans (kp3_put l1 l2 l3) (Below.refl _ _) (fun _ => rfl)
    (fun pre W => (∃ v, Boxed W w.heap.size 60 v ∧ W.ownsRow w1.heap.size 25 1 v (tbl pre).length ((tbl pre).map u64V) ∧ True) ∧ (Boxed W (w.heap.size + 1) 25 (.int .u64 (sumN pre : Nat))) ∧ Below w.heap.size w W ∧ w1.heap.size ≤ W.heap.size)
    (fun _ _ _ => False)
    (OwnFrom.and (Own.from (holdsRow_own w1.heap.size w.heap.size 60 25 1 (fun pre : List Nat => (tbl pre).length) (fun pre : List Nat => (tbl pre).map u64V) (fun _ _ => True)) _) (OwnFrom.and (Own.from (boxed_own (w.heap.size + 1) 25 (fun pre : List Nat => .int .u64 (sumN pre : Nat))) _) (OwnFrom.and (ownFrom_below (Nat.le_refl _) (by omega)) (fun _ _ _ _ hs hg _ => Nat.le_trans hs hg.size))))
    (fun _ _ _ _ _ hs _ _ => hs)
    ⟨⟨_, bO, World.ownsRow_nil _ _ _ _, trivial⟩, bS, hB0, Nat.le_refl _⟩
    (fun x => { tmps := #[.int .i64 k, undef, .slice none 0 0, .int .i64 0, .pointer (some ⟨w.heap.size, 0, none⟩), .pointer (some ⟨w.heap.size + 1, 0, none⟩), .int .u64 (x : Int), .int .i64 k, .bool true, .bool false, .int .i64 k, .func (.func 81) #[] #[.pointer (some ⟨B1, 0, none⟩), .pointer (some ⟨B2, 0, none⟩), .pointer (some ⟨B3, 0, none⟩)], .int .u64 (x : Int), undef, undef, undef, undef, undef, undef, undef, undef], defers := [] }) ?assign ?body ?done ?stop
  case assign =>
    intro l x W K hK
    gi_wp2
    exact hK
  case body =>
    rintro l pre x W ⟨⟨v, hv, hrow, _⟩, hS, hB, hsz⟩ hlt
    have hq : some (w.heap.size + 1) ≠ v.ownBlock := fun e => by have := (hrow.lt _ e.symm).1; omega
    have HN := Lib.hid (sumN_snoc pre x)
    have HT := Lib.hid (tbl_snoc pre x)
    have HTL := Lib.hid (tbl_len pre)
    have hwn := wrap_nat (sumN pre) x
    rw [← HN.out] at hwn
    generalize hs' : sumN (pre ++ [x]) = s' at *
    have HE := Lib.hid hs'
    clear hs'
    generalize sumN pre = s0 at *
    have hv' := hv.other (B' := w.heap.size + 1) (by omega) (.int .u64 (s' : Int))
    have hS' : Boxed (W.setCell ⟨w.heap.size + 1, 0, none⟩ (.int .u64 (s' : Int))) (w.heap.size + 1) 25 (.int .u64 (s' : Int)) := hS.set _
    have hrow' := hrow.kept (grownBy_setCell' W (w.heap.size + 1) (.int .u64 (s' : Int))) (.inr hq.symm)
    have hB' := hB.setCell (p := ⟨w.heap.size + 1, 0, none⟩) (by simp) (.int .u64 (s' : Int))
    have hko : KeepsOthers W (W.setCell ⟨w.heap.size + 1, 0, none⟩ (.int .u64 (s' : Int))) := KeepsOthers.setCell _ _ _
    have hk1 : Kp3 B1 B2 B3 W (W.setCell ⟨w.heap.size + 1, 0, none⟩ (.int .u64 (s' : Int))) := fun b hb => heap_setCell_other _ _ _ _ (by rcases hb with rfl | rfl | rfl <;> (show _ ≠ w.heap.size + 1; omega))
    have hsz' : w1.heap.size ≤ (W.setCell ⟨w.heap.size + 1, 0, none⟩ (.int .u64 (s' : Int))).heap.size := Nat.le_trans hsz hko.size
    have e1 := hS.cell
    have e2 := hS.frozen
    have e3 := hv'.cell
    have e4 := hS'.cell
    have HKO := Lib.hid hko
    have HK1 := Lib.hid hk1
    have HTL2 := Lib.hid (show (tbl pre).length = pre.length from HTL.out)
    clear hk1 hko
    rw [HTL.out] at hrow'
    generalize hW' : W.setCell ⟨w.heap.size + 1, 0, none⟩ (.int .u64 (s' : Int)) = W' at *
    have HW' := Lib.hid hW'
    gi_wp2_with (gi_at_builtin; refine wpListIn_append_own _ rfl _ _ 60 rfl w1.heap.size 25 i0 (.int .u64 0) 1 8 Try.underlying60 hi hz0 hz1 hz2 rfl (by decide) _ _ _ rfl (hrow'.alloc _) ⟨W'.heap.size, 0, none⟩ 1 1 [.int .u64 (s' : Int)] rfl rfl (cell_one_new _ _ _) (by simp [Value.oneCell']) (by simp [maxLen]; omega) (by omega) (by simp; omega) ?_; intro v' w2 hown' hgrow _; obtain ⟨g', cap', rfl⟩ := ownsRow_succ hown'; obtain ⟨hv1, hv2, hr2, hk2, hb2⟩ := hv'.appended (by decide) (own_low hrow' (by omega)) hB'.size (Nat.le_refl _) (own_low hown' (by omega)) hgrow; have hr3 := hown'.kept (grownBy_setCell' w2 w.heap.size (.slice (some ⟨g', 0, none⟩) (pre.length + 1) cap')) (.inr (hv1.not_row (by decide) hown').symm); have hkp := keep3 (B := w.heap.size) (v' := .slice (some ⟨g', 0, none⟩) (pre.length + 1) cap') hrow' hgrow hsz' l1 l2 l3 (by omega) (by omega) (by omega); have hc1 := hv1.cell; have hf1 := hv1.frozen)
    have hS3 := ((hS'.alloc _).kept hgrow hq).other (B' := w.heap.size) (by omega) (.slice (some ⟨g', 0, none⟩) (pre.length + 1) cap')
    refine ⟨(HKO.out.trans hk2).from _, HK1.out.trans hkp, ⟨_, hv2, ?_, trivial⟩, ?_, hB'.trans hb2, Nat.le_trans hsz' hk2.size⟩
    · rw [HT.out, List.length_append, HTL.out, List.map_append]
      exact hr3
    · rw [HE.out]; exact hS3
  case done =>
    rintro D ys W hD rfl ⟨⟨v, hv, hrow, _⟩, hS, hB, hsz⟩ hK
    have hc := hv.cell
    gi_wp2
    refine ⟨by simp, .inl ⟨_, _, rfl, run_takeDeferred hK, ?_⟩⟩
    exact ⟨_, results_tmp2 rfl _ _ _, v, rfl, own_low (ownsRow_putObj hrow _ hK rfl) (by omega), hB.trans (belowK_b (w := w) (Nat.le_refl _) W D _ _ (by omega) hK rfl rfl)⟩
  case stop =>
    rintro D c pre W _ _ h _
    exact h.elim
theorem tableN_any (k : Nat) (hk1 : 1 ≤ k) (hk : k ≤ 64) (w : World) : Calls Try.prog 62 #[.int .i64 k] w (WordsOut (tbl (wgts k k)) w) := callsIn_wide.1 (tableN_in k hk1 hk w)
end
end Go.Proofs.Ytmfhimeffmpgaaa
