/- Layer 20: the law's closure: picks, cut or filled up with zeros to the number of steps. -/
import Derived.Test.YtcamoigcfiemhaaScRo
import Derived.Test.YtcamoigcfiemhaaApZ
namespace Go.Proofs.Ytcamoigcfiemhaa
set_option linter.unusedVariables false
set_option linter.unusedSimpArgs false
open Go.RowKit Go.Lib
set_option maxRecDepth 100000
def fullL (ps : List Int) (m : Nat) : List Int := ps.take m ++ List.replicate (m - ps.length) 0
theorem fullL_len (ps : List Int) (m : Nat) : (fullL ps m).length = m := by simp [fullL]; omega
def FullOut (ps : List Int) (m : Nat) (w : World) (e : Ending) (w' : World) : Prop := ∃ B d, e = .returned (.slice B m d) ∧ SliceOk B m d ∧ Ints w' B m (fullL ps m) ∧ Below w.heap.size w w'
theorem fullL_in {ps : List Int} (h : In64 ps) (m : Nat) : In64 (fullL ps m) := by
  intro j
  by_cases q : j < (fullL ps m).length
  · rw [List.getD_eq_getElem?_getD, List.getElem?_eq_getElem q, Option.getD_some]
    rcases List.mem_append.1 (List.getElem_mem q : (fullL ps m)[j] ∈ ps.take m ++ List.replicate (m - ps.length) 0) with h1 | h1
    · obtain ⟨i, hi, e⟩ := List.mem_iff_getElem.1 (List.mem_of_mem_take h1)
      have := h i
      rw [List.getD_eq_getElem?_getD, List.getElem?_eq_getElem hi, Option.getD_some, e] at this
      exact this
    · rw [List.eq_of_mem_replicate h1]
      omega
  · rw [List.getD_eq_getElem?_getD, List.getElem?_eq_none (by omega)]
    simp
theorem full_end {w w1 w2 : World} {A : Option Addr} {l kk m : Nat} {ps : List Int} (hp : Ints w A l ps) (hk : kk = min l m) {v1 v2 : Value} {xs : List Value} (hx : xs = (ps.take kk).map (Value.int .i64))
    (h1 : w1.ownsRow w.heap.size 3 1 v1 kk xs) (hb : Below w.heap.size w w1)
    (h2 : w2.ownsRow w.heap.size 3 1 v2 (kk + (m - kk)) (xs ++ List.replicate (m - kk) (.int .i64 0))) (hg : w1.grownBy w2 v1.ownBlock) : FullOut ps m w (.returned v2) w2 := by
  have hpl := hp.1
  have e1 : kk + (m - kk) = m := by omega
  rw [e1] at h2
  have e2 : xs ++ List.replicate (m - kk) (Value.int .i64 0) = (fullL ps m).map (Value.int .i64) := by
    rw [hx]
    unfold fullL
    rw [List.map_append, List.map_replicate, hpl, show m - kk = m - l by omega]
    congr 2
    by_cases q : m ≤ l
    · rw [show kk = m by omega]
    · rw [List.take_of_length_le (by omega), List.take_of_length_le (by omega)]
  rw [e2] at h2
  obtain ⟨B, d', rfl, hB⟩ := own_form h2
  refine ⟨B, d', rfl, own_cap h2, own_ints h2 (fullL_in hp.2.1 m), hb.grown hg hb.size (fun k hk => (h1.lt k hk).1)⟩
set_option maxHeartbeats 4000000 in
theorem full_any (ps : List Int) (A : Option Addr) (l c g m : Nat) (w : World) (hs : SliceOk A l c) (hp : Ints w A l ps) (hg : Box w g 3 #[.int .i64 (m : Int)]) (hm : m ≤ 72) : Calls Try.prog 27 (#[.slice A l c] ++ #[.pointer (some ⟨g, 0, none⟩)]) w (FullOut ps m w) := by
  obtain ⟨i0, hi, hz0, hz1, hz2⟩ := info_parts int_infoS
  have HA := Lib.hid (fun (w1 : World) (base : Nat) v n xs (ho : w1.ownsRow base 3 1 v n xs) k h1 h2 hb => run_append_own_make (P := Try.prog) w1 base 23 3 23 3 i0 (.int .i64 0) .i64 .i64 8 Try.underlying23 Try.underlying3 hi hz0 hz1 hz2 rfl rfl v n xs ho k h1 h2 (by decide) hb)
  clear hi hz0 hz1 hz2
  have HP := Lib.hid hp
  have HG := Lib.hid hg
  have r0 := hg.cell 0
  obtain ⟨h1, h2, h3⟩ := hs
  obtain ⟨kk, hk⟩ : ∃ k, k = min l m := ⟨_, rfl⟩
  have HK := Lib.hid hk
  have hm2 : min (l : Int) (m : Int) = (kk : Int) := by omega
  have hkk : kk ≤ 72 := by omega
  have hsub : (m : Int) - (kk : Int) = ((m - kk : Nat) : Int) := by omega
  have HC := Lib.hid (fun (hA : A = none → kk = 0 ∧ c = 0) => clone_ints A kk c ((ps.take kk).map (Value.int .i64)) w hA (by have := hp.1; simp; omega) (ints_news (Ints.take hp kk (by omega)) (Below.refl _ _)) (ints_one _) (by omega))
  clear hp hg
  cases A with
  | none =>
    obtain ⟨rfl, rfl⟩ := h3 rfl
    obtain rfl : kk = 0 := by omega
    have HC2 := Lib.hid (HC.out (fun _ => ⟨rfl, rfl⟩))
    clear HC
    clear hk h1 h2 h3 hm2
    have hm2 : min (0 : Int) (m : Int) = 0 := by omega
    go_enter Try.func27, Try.ntmps27
    go_wp2_with fail
    refine HC2.out.mono ?_
    rintro e w1 ⟨B, d, rfl, ho, hb⟩
    have HO := Lib.hid ho
    have HB := Lib.hid hb
    clear ho hb r0 HC2
    have r0 := (HG.out.keep HB.out).cell 0
    obtain ⟨v', w2, hr, hn, hgr⟩ := HA.out w1 w.heap.size _ _ _ HO.out (m - 0) (by omega) (by omega) HB.out.size
    have HF := Lib.hid (full_end HP.out HK.out rfl HO.out HB.out hn hgr)
    clear hn hgr HA hsub
    rw [Nat.sub_zero] at hr
    go_wp2_with (at_builtin; refine Lib.wpList_append_run _ rfl _ _ _ _ rfl _ _ rfl rfl _ _ hr ?_)
    go_ret
    exact HF.out
  | some ad =>
    have HC2 := Lib.hid (HC.out (fun e => by cases e))
    clear HC
    have g1 : (kk : Int) ≤ (c : Int) := by omega
    have g2 : (0 : Int) ≤ (kk : Int) := by omega
    clear hk h1 h2 h3
    go_enter Try.func27, Try.ntmps27
    go_wp2_with fail
    refine HC2.out.mono ?_
    rintro e w1 ⟨B, d, rfl, ho, hb⟩
    have HO := Lib.hid ho
    have HB := Lib.hid hb
    clear ho hb r0 HC2
    have r0 := (HG.out.keep HB.out).cell 0
    obtain ⟨v', w2, hr, hn, hgr⟩ := HA.out w1 w.heap.size _ _ _ HO.out (m - kk) (by omega) (by omega) HB.out.size
    have HF := Lib.hid (full_end HP.out HK.out rfl HO.out HB.out hn hgr)
    clear hn hgr HA
    rw [← hsub] at hr
    clear hsub
    go_wp2_with (at_builtin; refine Lib.wpList_append_run _ rfl _ _ _ _ rfl _ _ rfl rfl _ _ hr ?_)
    go_ret
    exact HF.out
end Go.Proofs.Ytcamoigcfiemhaa
