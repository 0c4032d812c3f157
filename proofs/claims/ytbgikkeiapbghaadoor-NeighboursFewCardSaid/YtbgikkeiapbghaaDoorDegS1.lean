/- Plain mathematics of DegreeSums. -/
import Derived.Test.YtbgikkeiapbghaaDoorDegW3
import Derived.Test.YtbgikkeiapbghaaDoorDeg2
namespace Go.Proofs.YtbgikkeiapbghaaDoor
open Go.RowKit
/-- The root of small numbers. -/
def rootS (k : Nat) : Nat := if k < 1 then 0 else if k < 4 then 1 else if k < 9 then 2 else if k < 16 then 3 else if k < 25 then 4 else if k < 36 then 5 else if k < 49 then 6 else if k < 64 then 7 else 8
theorem root_rootS (k : Nat) (hk : k ≤ 64) : root k = rootS k := by
  unfold rootS
  repeat' split
  all_goals exact (root_of k _ (by omega) (by omega) (by omega)).1
def wgtS (k d : Nat) : Nat := plainN d k + moreN d (k / rootS k) (rootS k) k
theorem wgts_S (k : Nat) (hk : k ≤ 64) : wgts k k = (List.range k).map fun i => wgtS k (i + 1) := by
  unfold wgts wgt wgtS
  rw [root_rootS k hk]
theorem tab_all : ∀ k : Fin 65, 1 ≤ k.val → tabB (tbl ((List.range k.val).map fun i => wgtS k.val (i + 1))) = true := by decide +kernel
theorem tab_k (k : Nat) (h1 : 1 ≤ k) (h2 : k ≤ 64) : tabB (tbl (wgts k k)) = true := by
  rw [wgts_S k h2]; exact tab_all ⟨k, by omega⟩ h1
theorem pick_range {ts : List Nat} (h : tabB ts = true) (n : Nat) : 1 ≤ pickD ts n ∧ pickD ts n ≤ ts.length := by
  obtain ⟨h1, _, hr⟩ := tab_at h
  have hp := last_pos h
  have hm := Nat.mod_lt n hp
  unfold pickD
  refine ⟨by omega, ?_⟩
  have : pickN ts (n % ts.getD (ts.length - 1) 0) < ts.length := by
    unfold pickN
    have hc := List.countP_le_length (p := fun i => !decide (n % ts.getD (ts.length - 1) 0 < ts.getD i 0)) (l := List.range ts.length)
    rcases Nat.lt_or_ge ((List.range ts.length).countP (fun i => !decide (n % ts.getD (ts.length - 1) 0 < ts.getD i 0))) ts.length with h | h
    · exact h
    · exfalso
      have e : (List.range ts.length).countP (fun i => !decide (n % ts.getD (ts.length - 1) 0 < ts.getD i 0)) = (List.range ts.length).length := Nat.le_antisymm hc (by rw [List.length_range]; exact h)
      have := List.countP_eq_length.1 e (ts.length - 1) (by simp; omega)
      simp at this
      have hm' : n % ts.getD (ts.length - 1) 0 < ts.getD (ts.length - 1) 0 := hm
      simp [List.getD] at hm'
      omega
  omega
theorem pick_own {ts : List Nat} (h : tabB ts = true) (i : Nat) (hi : i < ts.length) : pickD ts (ts.getD i 0 - 1) = i + 1 := by
  obtain ⟨h1, _, hr⟩ := tab_at h
  have hle := rises_mono ts hr i (ts.length - 1) (by omega) (by omega)
  have h0 := (rises_at ts 0 i hr hi).1
  unfold pickD
  rw [Nat.mod_eq_of_lt (by omega), pickN_of ts _ i (fun j hj => ?_) (fun j h1 h2 => ?_) (by omega)]
  · have := rises_mono ts hr (j + 1) i (by omega) hi
    have := (rises_at ts 0 j hr (by omega)).2 (by omega)
    omega
  · have := rises_mono ts hr i j h1 h2
    omega
theorem pick_next {ts : List Nat} (h : tabB ts = true) (i : Nat) (hi : i < ts.length) : pickD ts (ts.getD i 0) = if i = ts.length - 1 then 1 else i + 2 := by
  obtain ⟨h1, _, hr⟩ := tab_at h
  have hle := rises_mono ts hr i (ts.length - 1) (by omega) (by omega)
  unfold pickD
  by_cases e : i = ts.length - 1
  · rw [if_pos e, ← e, Nat.mod_self, pickN_of ts 0 0 (fun j hj => by omega) (fun j _ h2 => (rises_at ts 0 j hr h2).1) (by omega)]
  · have hs := (rises_at ts 0 i hr hi).2 (by omega)
    have hle2 := rises_mono ts hr (i + 1) (ts.length - 1) (by omega) (by omega)
    rw [if_neg e, Nat.mod_eq_of_lt (by omega), pickN_of ts _ (i + 1) (fun j hj => rises_mono ts hr j i (by omega) hi) (fun j h1 h2 => ?_) (by omega)]
    have := rises_mono ts hr (i + 1) j h1 h2
    omega
theorem tbl_at (xs : List Nat) (i : Nat) (hi : i < xs.length) : (tbl xs).getD i 0 = sumN (xs.take (i + 1)) := by simp [tbl, List.getD, hi]
theorem sumN_take (xs : List Nat) (i : Nat) (hi : i < xs.length) : sumN (xs.take (i + 1)) = (sumN (xs.take i) + xs.getD i 0) % 18446744073709551616 := by
  rw [List.take_succ_eq_append_getElem hi, sumN_snoc]
  simp [List.getD, hi]
theorem sumN_lt (xs : List Nat) : sumN xs < 18446744073709551616 := by
  rcases List.eq_nil_or_concat xs with rfl | ⟨l, x, rfl⟩
  · simp [sumN]
  · rw [List.concat_eq_append, sumN_snoc]; exact Nat.mod_lt _ (by omega)
theorem wgt_ne {xs : List Nat} (h : tabB (tbl xs) = true) (i : Nat) (hi : i < xs.length) : xs.getD i 0 ≠ 0 := by
  obtain ⟨h1, _, hr⟩ := tab_at h
  have hl := tbl_len xs
  intro e
  have hs : sumN (xs.take (i + 1)) = sumN (xs.take i) := by
    rw [sumN_take xs i hi, e]
    have := sumN_lt (xs.take i)
    omega
  cases i with
  | zero =>
    have := (rises_at (tbl xs) 0 0 hr (by omega)).1
    have h2 := (tbl_at xs 0 hi).trans hs
    rw [h2] at this
    simp [sumN] at this
  | succ i =>
    have := (rises_at (tbl xs) 0 i hr (by omega)).2 (by omega)
    rw [tbl_at xs i (by omega), tbl_at xs (i + 1) hi, hs] at this
    omega
theorem own_slice {w : World} {base e n : Nat} {v : Value} {zs : List Nat} (h : w.ownsRow base e 1 v n (zs.map u64V)) (hz : ∀ j, zs.getD j 0 < 18446744073709551616) : ∃ A c, v = .slice A n c ∧ n ≤ c ∧ c ≤ maxLen ∧ Words w A n zs := by
  rcases h.2 with ⟨rfl, h0⟩ | ⟨g, cap, cur, rfl, hb, hh, hn, hm, hs, hx⟩
  · have hl : zs.length = n := by have := h.1; simpa using this
    subst h0
    obtain rfl : zs = [] := List.length_eq_zero_iff.1 hl
    exact ⟨none, 0, rfl, Nat.le_refl _, Nat.zero_le _, Words.nil _ _⟩
  · exact ⟨_, _, rfl, hn, hm, own_words h hz⟩
theorem tbl_lt (xs : List Nat) (j : Nat) : (tbl xs).getD j 0 < 18446744073709551616 := by
  by_cases h : j < xs.length
  · rw [tbl_at xs j h]; exact sumN_lt _
  · have : (tbl xs)[j]? = none := List.getElem?_eq_none (by rw [tbl_len]; omega)
    simp [List.getD, this]
theorem wgts_lt (k : Nat) (h1 : 1 ≤ k) (h2 : k ≤ 64) (j : Nat) : (wgts k k).getD j 0 < 18446744073709551616 := by
  by_cases h : j < k
  · have hr := (root_small ⟨k, by omega⟩ h1).2
    have := wgt_small k (j + 1) h1 h2 (root k) (k / root k) hr
    have e : (wgts k k).getD j 0 = wgt k (j + 1) := by simp [wgts, List.getD, h]
    rw [e, wgt]; omega
  · have : (wgts k k)[j]? = none := List.getElem?_eq_none (by rw [wgts_len]; omega)
    simp [List.getD, this]
end Go.Proofs.YtbgikkeiapbghaaDoor
