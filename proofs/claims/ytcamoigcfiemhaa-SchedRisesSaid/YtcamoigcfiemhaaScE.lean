/- Layer 20: slices.Clone; rows of rows of the call's own; copiedLists. -/
import Derived.Test.YtcamoigcfiemhaaScD
import Derived.Lib.SliceRun
import Derived.Laws.OwnMore
namespace Go.Proofs.Ytcamoigcfiemhaa
set_option linter.unusedVariables false
set_option linter.unusedSimpArgs false
open Go.RowKit Go.Lib
set_option maxRecDepth 100000
theorem int_infoS : (Try.prog.info? 3).map (fun i => (i.zero, i.size, i.bytes)) = some (some (.int .i64 0), 1, 8) := by kernel_rfl
theorem in_infoS : (Try.prog.info? 57).map (fun i => (i.zero, i.size, i.bytes)) = some (some (.agg #[.int .i64 0, .int .i64 0, .int .i64 0]), 3, 24) := by kernel_rfl
theorem sl_infoS : (Try.prog.info? 23).map (fun i => (i.zero, i.size, i.bytes)) = some (some (.slice none 0 0), 1, 24) := by kernel_rfl
theorem sli_infoS : (Try.prog.info? 55).map (fun i => (i.zero, i.size, i.bytes)) = some (some (.slice none 0 0), 1, 24) := by kernel_rfl
theorem own_emptyS (w : World) (base e size : Nat) (h : base ≤ w.heap.size) : (w.alloc (.cells #[] e)).ownsRow base e size (.slice (some ⟨w.heap.size, 0, none⟩) 0 0) 0 [] := own_of_box0 (Box.new w e #[]) h
/-- What slices.Clone hands back. -/
def CloneS (e size n : Nat) (news : List Value) (w : World) (en : Ending) (w' : World) : Prop := ∃ A c, en = .returned (.slice A n c) ∧ w'.ownsRow w.heap.size e size (.slice A n c) n news ∧ Below w.heap.size w w'
set_option maxHeartbeats 1000000 in
theorem clone_ints (A : Option Addr) (l cp : Nat) (news : List Value) (w : World) (hA : A = none → l = 0 ∧ cp = 0) (hn : news.length = l * 1) (hc : ∀ ad, A = some ad → ∀ j u, news[j]? = some u → w.cell? (ad.add j) = some u) (h1 : ∀ u ∈ news, u.oneCell' = true) (hl : l ≤ 1000000) :
    Calls Try.prog 28 #[.slice A l cp] w (CloneS 3 1 l news w) := by
  cases A with
  | none =>
    obtain ⟨rfl, rfl⟩ := hA rfl
    obtain rfl : news = [] := List.eq_nil_of_length_eq_zero (by simpa using hn)
    have q22 : ∀ (w : World) (a : Option Addr) (n c n' c' : Nat), (binOp .eql 23 (.slice a n c) (.slice none n' c')).run Try.prog w = .ok (.bool a.isNone) w := fun w a n c n' c' => Lib.run_eql_slice_nil w _ _ a n c n' c' Try.underlying23
    clear hA hn hc h1 hl
    go_enter Try.func28, Try.ntmps28
    go_wp2_with fail
    go_ret
    exact ⟨none, 0, rfl, World.ownsRow_nil _ _ _ _, Below.refl _ _⟩
  | some ad =>
    obtain ⟨i0, hi, hz0, hz1, hz2⟩ := info_parts int_infoS
    have hb1 : Below w.heap.size w (w.alloc (.cells #[] 3)) := (Below.refl _ _).alloc (Nat.le_refl _) _
    have ZO := Lib.hid (own_emptyS w w.heap.size 3 1 (Nat.le_refl _))
    have HI := Lib.hid hi
    have HZ0 := Lib.hid hz0
    have HZ1 := Lib.hid hz1
    have HZ2 := Lib.hid hz2
    have HB := Lib.hid hb1
    have HN := Lib.hid hn
    have HO1 := Lib.hid h1
    have NW := Lib.hid (show ∀ j u, news[j]? = some u → (w.alloc (.cells #[] 3)).cell? (ad.add j) = some u from fun j u hu => by
      have h := hc ad rfl j u hu
      exact (hb1.cell (block_lt_of_cell h)).trans h)
    clear hA hn hc h1 hi hz0 hz1 hz2 hb1
    have q22 : ∀ (w : World) (a : Option Addr) (n c n' c' : Nat), (binOp .eql 23 (.slice a n c) (.slice none n' c')).run Try.prog w = .ok (.bool a.isNone) w := fun w a n c n' c' => Lib.run_eql_slice_nil w _ _ a n c n' c' Try.underlying23
    go_enter Try.func28, Try.ntmps28
    go_wp2_with (at_builtin; refine wpList_append_own _ rfl _ _ 23 rfl w.heap.size 3 i0 (.int .i64 0) 1 8 Try.underlying23 HI.out HZ0.out HZ1.out HZ2.out rfl (by decide) _ _ _ rfl ZO.out ad l cp news rfl HN.out NW.out HO1.out (by simp [maxLen]; omega) (by omega) HB.out.size ?_; intro v' w2 hown' hgrow hnil; have HC2 := Lib.hid (HB.out.grown hgrow HB.out.size (fun g hg => (ZO.out.lt g hg).1)); have HO2 := Lib.hid hown'; clear hown' hgrow hnil)
    have HO3 := HO2.out
    rw [Nat.zero_add, List.nil_append] at HO3
    obtain ⟨A', c', hv, -⟩ := own_form HO3
    subst hv
    go_ret
    exact ⟨A', c', rfl, HO3, HC2.out⟩
set_option maxHeartbeats 1000000 in
theorem clone_ins (A : Option Addr) (l cp : Nat) (news : List Value) (w : World) (hA : A = none → l = 0 ∧ cp = 0) (hn : news.length = l * 3) (hc : ∀ ad, A = some ad → ∀ j u, news[j]? = some u → w.cell? (ad.add j) = some u) (h1 : ∀ u ∈ news, u.oneCell' = true) (hl : l ≤ 1000000) :
    Calls Try.prog 62 #[.slice A l cp] w (CloneS 57 3 l news w) := by
  cases A with
  | none =>
    obtain ⟨rfl, rfl⟩ := hA rfl
    obtain rfl : news = [] := List.eq_nil_of_length_eq_zero (by simpa using hn)
    have q22 : ∀ (w : World) (a : Option Addr) (n c n' c' : Nat), (binOp .eql 55 (.slice a n c) (.slice none n' c')).run Try.prog w = .ok (.bool a.isNone) w := fun w a n c n' c' => Lib.run_eql_slice_nil w _ _ a n c n' c' Try.underlying55
    clear hA hn hc h1 hl
    go_enter Try.func62, Try.ntmps62
    go_wp2_with fail
    go_ret
    exact ⟨none, 0, rfl, World.ownsRow_nil _ _ _ _, Below.refl _ _⟩
  | some ad =>
    obtain ⟨i0, hi, hz0, hz1, hz2⟩ := info_parts in_infoS
    have hb1 : Below w.heap.size w (w.alloc (.cells #[] 57)) := (Below.refl _ _).alloc (Nat.le_refl _) _
    have ZO := Lib.hid (own_emptyS w w.heap.size 57 3 (Nat.le_refl _))
    have HI := Lib.hid hi
    have HZ0 := Lib.hid hz0
    have HZ1 := Lib.hid hz1
    have HZ2 := Lib.hid hz2
    have HB := Lib.hid hb1
    have HN := Lib.hid hn
    have HO1 := Lib.hid h1
    have NW := Lib.hid (show ∀ j u, news[j]? = some u → (w.alloc (.cells #[] 57)).cell? (ad.add j) = some u from fun j u hu => by
      have h := hc ad rfl j u hu
      exact (hb1.cell (block_lt_of_cell h)).trans h)
    clear hA hn hc h1 hi hz0 hz1 hz2 hb1
    have q22 : ∀ (w : World) (a : Option Addr) (n c n' c' : Nat), (binOp .eql 55 (.slice a n c) (.slice none n' c')).run Try.prog w = .ok (.bool a.isNone) w := fun w a n c n' c' => Lib.run_eql_slice_nil w _ _ a n c n' c' Try.underlying55
    go_enter Try.func62, Try.ntmps62
    go_wp2_with (at_builtin; refine wpList_append_own _ rfl _ _ 55 rfl w.heap.size 57 i0 (.agg #[.int .i64 0, .int .i64 0, .int .i64 0]) 3 24 Try.underlying55 HI.out HZ0.out HZ1.out HZ2.out rfl (by decide) _ _ _ rfl ZO.out ad l cp news rfl HN.out NW.out HO1.out (by simp [maxLen]; omega) (by omega) HB.out.size ?_; intro v' w2 hown' hgrow hnil; have HC2 := Lib.hid (HB.out.grown hgrow HB.out.size (fun g hg => (ZO.out.lt g hg).1)); have HO2 := Lib.hid hown'; clear hown' hgrow hnil)
    have HO3 := HO2.out
    rw [Nat.zero_add, List.nil_append] at HO3
    obtain ⟨A', c', hv, -⟩ := own_form HO3
    subst hv
    go_ret
    exact ⟨A', c', rfl, HO3, HC2.out⟩
set_option maxHeartbeats 1000000 in
theorem clone_ints2 (A : Option Addr) (l cp : Nat) (news : List Value) (w : World) (hA : A = none → l = 0 ∧ cp = 0) (hn : news.length = l * 1) (hc : ∀ ad, A = some ad → ∀ j u, news[j]? = some u → w.cell? (ad.add j) = some u) (h1 : ∀ u ∈ news, u.oneCell' = true) (hl : l ≤ 1000000) :
    Calls Try.prog 63 #[.slice A l cp] w (CloneS 23 1 l news w) := by
  cases A with
  | none =>
    obtain ⟨rfl, rfl⟩ := hA rfl
    obtain rfl : news = [] := List.eq_nil_of_length_eq_zero (by simpa using hn)
    have q22 : ∀ (w : World) (a : Option Addr) (n c n' c' : Nat), (binOp .eql 24 (.slice a n c) (.slice none n' c')).run Try.prog w = .ok (.bool a.isNone) w := fun w a n c n' c' => Lib.run_eql_slice_nil w _ _ a n c n' c' Try.underlying24
    clear hA hn hc h1 hl
    go_enter Try.func63, Try.ntmps63
    go_wp2_with fail
    go_ret
    exact ⟨none, 0, rfl, World.ownsRow_nil _ _ _ _, Below.refl _ _⟩
  | some ad =>
    obtain ⟨i0, hi, hz0, hz1, hz2⟩ := info_parts sl_infoS
    have hb1 : Below w.heap.size w (w.alloc (.cells #[] 23)) := (Below.refl _ _).alloc (Nat.le_refl _) _
    have ZO := Lib.hid (own_emptyS w w.heap.size 23 1 (Nat.le_refl _))
    have HI := Lib.hid hi
    have HZ0 := Lib.hid hz0
    have HZ1 := Lib.hid hz1
    have HZ2 := Lib.hid hz2
    have HB := Lib.hid hb1
    have HN := Lib.hid hn
    have HO1 := Lib.hid h1
    have NW := Lib.hid (show ∀ j u, news[j]? = some u → (w.alloc (.cells #[] 23)).cell? (ad.add j) = some u from fun j u hu => by
      have h := hc ad rfl j u hu
      exact (hb1.cell (block_lt_of_cell h)).trans h)
    clear hA hn hc h1 hi hz0 hz1 hz2 hb1
    have q22 : ∀ (w : World) (a : Option Addr) (n c n' c' : Nat), (binOp .eql 24 (.slice a n c) (.slice none n' c')).run Try.prog w = .ok (.bool a.isNone) w := fun w a n c n' c' => Lib.run_eql_slice_nil w _ _ a n c n' c' Try.underlying24
    go_enter Try.func63, Try.ntmps63
    go_wp2_with (at_builtin; refine wpList_append_own _ rfl _ _ 24 rfl w.heap.size 23 i0 (.slice none 0 0) 1 24 Try.underlying24 HI.out HZ0.out HZ1.out HZ2.out rfl (by decide) _ _ _ rfl ZO.out ad l cp news rfl HN.out NW.out HO1.out (by simp [maxLen]; omega) (by omega) HB.out.size ?_; intro v' w2 hown' hgrow hnil; have HC2 := Lib.hid (HB.out.grown hgrow HB.out.size (fun g hg => (ZO.out.lt g hg).1)); have HO2 := Lib.hid hown'; clear hown' hgrow hnil)
    have HO3 := HO2.out
    rw [Nat.zero_add, List.nil_append] at HO3
    obtain ⟨A', c', hv, -⟩ := own_form HO3
    subst hv
    go_ret
    exact ⟨A', c', rfl, HO3, HC2.out⟩
set_option maxHeartbeats 1000000 in
theorem clone_ins2 (A : Option Addr) (l cp : Nat) (news : List Value) (w : World) (hA : A = none → l = 0 ∧ cp = 0) (hn : news.length = l * 1) (hc : ∀ ad, A = some ad → ∀ j u, news[j]? = some u → w.cell? (ad.add j) = some u) (h1 : ∀ u ∈ news, u.oneCell' = true) (hl : l ≤ 1000000) :
    Calls Try.prog 61 #[.slice A l cp] w (CloneS 55 1 l news w) := by
  cases A with
  | none =>
    obtain ⟨rfl, rfl⟩ := hA rfl
    obtain rfl : news = [] := List.eq_nil_of_length_eq_zero (by simpa using hn)
    have q22 : ∀ (w : World) (a : Option Addr) (n c n' c' : Nat), (binOp .eql 22 (.slice a n c) (.slice none n' c')).run Try.prog w = .ok (.bool a.isNone) w := fun w a n c n' c' => Lib.run_eql_slice_nil w _ _ a n c n' c' Try.underlying22
    clear hA hn hc h1 hl
    go_enter Try.func61, Try.ntmps61
    go_wp2_with fail
    go_ret
    exact ⟨none, 0, rfl, World.ownsRow_nil _ _ _ _, Below.refl _ _⟩
  | some ad =>
    obtain ⟨i0, hi, hz0, hz1, hz2⟩ := info_parts sli_infoS
    have hb1 : Below w.heap.size w (w.alloc (.cells #[] 55)) := (Below.refl _ _).alloc (Nat.le_refl _) _
    have ZO := Lib.hid (own_emptyS w w.heap.size 55 1 (Nat.le_refl _))
    have HI := Lib.hid hi
    have HZ0 := Lib.hid hz0
    have HZ1 := Lib.hid hz1
    have HZ2 := Lib.hid hz2
    have HB := Lib.hid hb1
    have HN := Lib.hid hn
    have HO1 := Lib.hid h1
    have NW := Lib.hid (show ∀ j u, news[j]? = some u → (w.alloc (.cells #[] 55)).cell? (ad.add j) = some u from fun j u hu => by
      have h := hc ad rfl j u hu
      exact (hb1.cell (block_lt_of_cell h)).trans h)
    clear hA hn hc h1 hi hz0 hz1 hz2 hb1
    have q22 : ∀ (w : World) (a : Option Addr) (n c n' c' : Nat), (binOp .eql 22 (.slice a n c) (.slice none n' c')).run Try.prog w = .ok (.bool a.isNone) w := fun w a n c n' c' => Lib.run_eql_slice_nil w _ _ a n c n' c' Try.underlying22
    go_enter Try.func61, Try.ntmps61
    go_wp2_with (at_builtin; refine wpList_append_own _ rfl _ _ 22 rfl w.heap.size 55 i0 (.slice none 0 0) 1 24 Try.underlying22 HI.out HZ0.out HZ1.out HZ2.out rfl (by decide) _ _ _ rfl ZO.out ad l cp news rfl HN.out NW.out HO1.out (by simp [maxLen]; omega) (by omega) HB.out.size ?_; intro v' w2 hown' hgrow hnil; have HC2 := Lib.hid (HB.out.grown hgrow HB.out.size (fun g hg => (ZO.out.lt g hg).1)); have HO2 := Lib.hid hown'; clear hown' hgrow hnil)
    have HO3 := HO2.out
    rw [Nat.zero_add, List.nil_append] at HO3
    obtain ⟨A', c', hv, -⟩ := own_form HO3
    subst hv
    go_ret
    exact ⟨A', c', rfl, HO3, HC2.out⟩
end Go.Proofs.Ytcamoigcfiemhaa
