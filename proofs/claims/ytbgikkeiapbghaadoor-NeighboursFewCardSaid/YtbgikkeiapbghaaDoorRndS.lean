/- Layer 6, its lists: an order has each number once; so many of them, rising. No program. -/
import Derived.Test.YtbgikkeiapbghaaDoorRnd5
namespace Go.Proofs.YtbgikkeiapbghaaDoor
theorem swapN_perm (l : List Nat) (i j : Nat) (hi : i < l.length) (hj : j < l.length) : (swapN l i j).Perm l := by
  rw [List.perm_iff_count]
  intro a
  have g1 : l.getD j 0 = l[j] := by simp [List.getD, hj]
  have g2 : l.getD i 0 = l[i] := by simp [List.getD, hi]
  have hj2 : j < (l.set i l[j]).length := by simpa using hj
  have e : (l.set i l[j])[j] = l[j] := by
    rw [List.getElem_set]
    split
    · rfl
    · rfl
  unfold swapN
  rw [g1, g2, List.count_set hj2, e, List.count_set hi]
  have p1 : (if l[i] == a then 1 else 0) ≤ l.count a := by
    split
    · rename_i h
      have : l[i] = a := by simpa using h
      rw [← this]
      exact List.count_pos_iff.2 (List.getElem_mem hi)
    · omega
  generalize hx : (if l[i] == a then 1 else 0) = x at *
  generalize hy : (if l[j] == a then 1 else 0) = y at *
  omega
theorem shufF_perm : ∀ (i s : Nat) (l : List Nat), i < l.length → s < 18446744073709551616 → (shufF i s l).2.Perm l ∧ (shufF i s l).1 < 18446744073709551616
  | 0, s, l, _, hs => ⟨List.Perm.refl _, hs⟩
  | i + 1, s, l, h, hs => by
    have hb := belowN_lt (i + 2) s (by omega) hs
    have ih := shufF_perm i (belowN (i + 2) s).1 (swapN l (i + 1) (belowN (i + 2) s).2) (by rw [swapN_len]; omega) hb.1
    exact ⟨ih.1.trans (swapN_perm _ _ _ h (by omega)), ih.2⟩
theorem shufN_perm (n s : Nat) (hn : 1 ≤ n) (hs : s < 18446744073709551616) : (shufN n s).2.Perm (List.range n) ∧ (shufN n s).1 < 18446744073709551616 :=
  shufF_perm (n - 1) s (List.range n) (by simp; omega) hs
/-- So many of an order, rising. -/
def someN (n many s : Nat) : List Nat := (List.range n).filter fun i => ((shufN n s).2.take many).contains i
theorem range_sorted (n : Nat) : (List.range n).Pairwise (· < ·) := List.pairwise_lt_range
theorem nodup_shuf (n s : Nat) (hn : 1 ≤ n) (hs : s < 18446744073709551616) : (shufN n s).2.Nodup :=
  (shufN_perm n s hn hs).1.nodup_iff.2 List.nodup_range
theorem some_perm (n many s : Nat) (hn : 1 ≤ n) (hs : s < 18446744073709551616) : (someN n many s).Perm ((shufN n s).2.take many) := by
  have hp := (shufN_perm n s hn hs).1
  have hnd : ((shufN n s).2.take many).Nodup := (nodup_shuf n s hn hs).sublist (List.take_sublist _ _)
  rw [List.perm_iff_count]
  intro a
  have hnd2 : (someN n many s).Nodup := List.nodup_range.sublist List.filter_sublist
  rw [hnd.count, hnd2.count]
  have hm : a ∈ someN n many s ↔ a ∈ (shufN n s).2.take many := by
    unfold someN
    rw [List.mem_filter]
    constructor
    · rintro ⟨_, h⟩; simpa using h
    · intro h
      exact ⟨hp.mem_iff.1 (List.mem_of_mem_take h), by simpa using h⟩
  simp only [hm]
theorem some_sort (n many s : Nat) (hn : 1 ≤ n) (hs : s < 18446744073709551616) : ((shufN n s).2.take many).mergeSort (fun x y => decide (x ≤ y)) = someN n many s := by
  have h1 : (((shufN n s).2.take many).mergeSort (fun x y => decide (x ≤ y))).Perm (someN n many s) := (List.mergeSort_perm _ _).trans (some_perm n many s hn hs).symm
  refine List.Perm.eq_of_pairwise (le := fun x y => x ≤ y) (fun a b _ _ h1 h2 => Nat.le_antisymm h1 h2) ?_ ?_ h1
  · have := List.pairwise_mergeSort (le := fun x y : Nat => decide (x ≤ y)) (by intro a b c; simp; omega) (by intro a b; simp; omega) ((shufN n s).2.take many)
    simpa using this
  · exact ((range_sorted n).sublist List.filter_sublist).imp (fun h => Nat.le_of_lt h)
theorem some_len (n many s : Nat) (hn : 1 ≤ n) (hs : s < 18446744073709551616) (hm : many ≤ n) : (someN n many s).length = many := by
  rw [(some_perm n many s hn hs).length_eq, List.length_take, (shufN_perm n s hn hs).1.length_eq, List.length_range]
  omega
theorem some_int (n many s : Nat) (hn : 1 ≤ n) (hs : s < 18446744073709551616) : (((shufN n s).2.take many).map fun x : Nat => (x : Int)).mergeSort (fun x y => decide (x ≤ y)) = (someN n many s).map fun x : Nat => (x : Int) := by
  rw [← some_sort n many s hn hs]
  refine (List.map_mergeSort ?_).symm
  intro a _ b _
  simp
end Go.Proofs.YtbgikkeiapbghaaDoor
