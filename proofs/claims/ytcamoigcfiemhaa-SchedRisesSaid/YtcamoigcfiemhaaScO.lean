/- Layer 20: the reference's zeros, set, Done, instrs. -/
import Derived.Test.YtcamoigcfiemhaaScN
namespace Go.Proofs.Ytcamoigcfiemhaa
set_option linter.unusedVariables false
set_option linter.unusedSimpArgs false
open Go.RowKit Go.Lib
set_option maxRecDepth 100000
theorem rep_snoc (i : Nat) : List.replicate (i + 1) (0 : Int) = List.replicate i 0 ++ [0] := by rw [List.replicate_succ']
set_option maxHeartbeats 4000000 in
theorem zeros_any (n : Nat) (hn : n ≤ 1000) (w : World) : Calls Try.prog 44 #[.int .i64 (n : Int)] w (OwnOut (List.replicate n 0) w) := by
  obtain ⟨i0, hi, hz0, hz1, hz2⟩ := info_parts int_infoS
  have HI := Lib.hid hi
  have HZ0 := Lib.hid hz0
  have HZ1 := Lib.hid hz1
  have HZ2 := Lib.hid hz2
  clear hi hz0 hz1 hz2
  have W2 := Lib.hid ((Below.refl w.heap.size w).alloc (Nat.le_refl _) (.cells #[] 3))
  go_enter Try.func44, Try.ntmps44
  go_wp2_with fail
  go_loopw [3, 4] (fun v t wr => ∃ i : Nat, i ≤ n ∧ t = .int .i64 (i : Int) ∧ Hid (wr.ownsRow w.heap.size 3 1 v (List.replicate i (0 : Int)).length ((List.replicate i (0 : Int)).map (Value.int .i64))) ∧ Hid (Below w.heap.size w wr)) (fun _ t _ => n - (Go.RowKit.intOf t).toNat)
  case atStart => exact ⟨0, Nat.zero_le _, rfl, Lib.hid (own_emptyS _ _ _ _ (Nat.le_refl _)), W2⟩
  case round =>
    obtain ⟨i, hi, rfl, HO, HB⟩ := hrel
    clear W2
    by_cases hlt : i < n
    · have hlt' : (i : Int) < (n : Int) := by omega
      have HE := Lib.hid (rep_snoc i)
      have hel : (List.replicate i (0 : Int)).length = i := List.length_replicate
      have XO := Lib.hid (HO.out.alloc (.cells #[.int .i64 0] 3))
      have XB := Lib.hid (HB.out.alloc HB.out.size (.cells #[.int .i64 0] 3))
      have N2 := Lib.hid (fun k hk => (HO.out.lt k hk).1)
      go_wp2_with (at_builtin; refine wpList_append_own _ rfl _ _ 23 rfl w.heap.size 3 i0 (.int .i64 0) 1 8 Try.underlying23 HI.out HZ0.out HZ1.out HZ2.out rfl (by decide) _ _ _ rfl XO.out ⟨wr.heap.size, 0, none⟩ 1 1 [.int .i64 0] rfl rfl (cell_one_new _ _ _) (by simp [Value.oneCell']) (by simp [maxLen]; omega) (by omega) XB.out.size ?_; intro v' w2 hown' hgrow _; have HC2 := Lib.hid (XB.out.grown hgrow XB.out.size N2.out); have HO2 := Lib.hid hown'; clear hown' hgrow)
      go_roundw
      case rel =>
        refine ⟨i + 1, by omega, by go_num, Lib.hid ?_, HC2⟩
        rw [HE.out, List.map_append, List.length_append]
        exact HO2.out
      case measure => simp [Go.RowKit.intOf] <;> omega
    · obtain rfl : i = n := by omega
      have hlt' : ¬ (i : Int) < (i : Int) := by omega
      obtain ⟨A', c', rfl, hA'⟩ := own_form HO.out
      go_wp2_with fail
      go_ret
      exact ⟨A', c', by rw [List.length_replicate]; rfl, HO.out, HB.out⟩
theorem set_take_yes {α : Type} [Inhabited α] (xs : List α) (k at_ : Nat) (n : α) (h : k < xs.length) (e : k = at_) : (xs.take (k + 1)).set at_ n = (xs.take k).set at_ n ++ [n] := by
  subst e
  have hl : (xs.take k).length = k := by simp; omega
  have e1 : (xs.take k).set k n = xs.take k := List.set_eq_of_length_le (by omega)
  rw [take_snocD xs k h, List.set_append, if_neg (by omega), hl, Nat.sub_self, e1]
  rfl
theorem set_take_no {α : Type} [Inhabited α] (xs : List α) (k at_ : Nat) (n : α) (h : k < xs.length) (e : ¬ k = at_) : (xs.take (k + 1)).set at_ n = (xs.take k).set at_ n ++ [xs.getD k default] := by
  have hl : (xs.take k).length = k := by simp; omega
  rw [take_snocD xs k h, List.set_append]
  by_cases q : at_ < k
  · rw [if_pos (by omega)]
  · have e1 : (xs.take k).set at_ n = xs.take k := List.set_eq_of_length_le (by omega)
    have e2 : [xs.getD k default].set (at_ - (xs.take k).length) n = [xs.getD k default] := List.set_eq_of_length_le (by simp; omega)
    rw [if_neg (by omega), e1, e2]
set_option maxHeartbeats 4000000 in
theorem refSet_any (A : Option Addr) (l c : Nat) (zs : List Int) (w : World) (h : Ints w A l zs) (hl : l ≤ 1000) (a : Nat) (n : Int) : Calls Try.prog 49 #[.slice A l c, .int .i64 (a : Int), .int .i64 n] w (OwnOut (zs.set a n) w) := by
  obtain ⟨i0, hi, hz0, hz1, hz2⟩ := info_parts int_infoS
  have HI := Lib.hid hi
  have HZ0 := Lib.hid hz0
  have HZ1 := Lib.hid hz1
  have HZ2 := Lib.hid hz2
  have HS := Lib.hid h
  have HL := Lib.hid h.1
  clear hi hz0 hz1 hz2 h
  have W2 := Lib.hid ((Below.refl w.heap.size w).alloc (Nat.le_refl _) (.cells #[] 3))
  go_enter Try.func49, Try.ntmps49
  go_wp2_with fail
  go_loopw [7, 13] (fun v t wr => ∃ i : Nat, i ≤ l ∧ t = .int .i64 (i : Int) ∧ Hid (wr.ownsRow w.heap.size 3 1 v ((zs.take i).set a n).length (((zs.take i).set a n).map (Value.int .i64))) ∧ Hid (Below w.heap.size w wr)) (fun _ t _ => l - (Go.RowKit.intOf t).toNat)
  case atStart => exact ⟨0, Nat.zero_le _, rfl, Lib.hid (own_emptyS _ _ _ _ (Nat.le_refl _)), W2⟩
  case round =>
    obtain ⟨i, hi, rfl, HO, HB⟩ := hrel
    clear W2
    by_cases hlt : i < l
    · have hlt' : (i : Int) < (l : Int) := by omega
      obtain ⟨b, off, rfl, hb, hc⟩ := (HS.out.below HB.out).2.2 (by omega)
      have c0 := hc i hlt
      have hel : ((zs.take i).set a n).length ≤ i := by simp; omega
      have N2 := Lib.hid (fun k hk => (HO.out.lt k hk).1)
      clear hc
      by_cases q : i = a
      · have t0 : ((i : Int) == (a : Int)) = true := by simp; omega
        have HE := Lib.hid (set_take_yes zs i a n (by rw [HL.out]; exact hlt) q)
        have XO := Lib.hid (HO.out.alloc (.cells #[.int .i64 n] 3))
        have XB := Lib.hid (HB.out.alloc HB.out.size (.cells #[.int .i64 n] 3))
        clear q
        go_wp2_with (at_builtin; refine wpList_append_own _ rfl _ _ 23 rfl w.heap.size 3 i0 (.int .i64 0) 1 8 Try.underlying23 HI.out HZ0.out HZ1.out HZ2.out rfl (by decide) _ _ _ rfl XO.out ⟨wr.heap.size, 0, none⟩ 1 1 [.int .i64 n] rfl rfl (cell_one_new _ _ _) (by simp [Value.oneCell']) (by simp only [maxLen]; omega) (by omega) XB.out.size ?_; intro v' w2 hown' hgrow _; have HC2 := Lib.hid (XB.out.grown hgrow XB.out.size N2.out); have HO2 := Lib.hid hown'; clear hown' hgrow)
        go_roundw
        case rel =>
          refine ⟨i + 1, by omega, by go_num, Lib.hid ?_, HC2⟩
          rw [HE.out, List.map_append, List.length_append]
          exact HO2.out
        case measure => simp [Go.RowKit.intOf] <;> omega
      · have t0 : ((i : Int) == (a : Int)) = false := by simp; omega
        have HE := Lib.hid (set_take_no zs i a n (by rw [HL.out]; exact hlt) q)
        have hd : (default : Int) = 0 := rfl
        rw [hd] at HE
        obtain ⟨x, hx⟩ : ∃ x, x = zs.getD i 0 := ⟨_, rfl⟩
        rw [← hx] at HE c0
        have XO := Lib.hid (HO.out.alloc (.cells #[.int .i64 x] 3))
        have XB := Lib.hid (HB.out.alloc HB.out.size (.cells #[.int .i64 x] 3))
        clear q hx hd
        go_wp2_with (at_builtin; refine wpList_append_own _ rfl _ _ 23 rfl w.heap.size 3 i0 (.int .i64 0) 1 8 Try.underlying23 HI.out HZ0.out HZ1.out HZ2.out rfl (by decide) _ _ _ rfl XO.out ⟨wr.heap.size, 0, none⟩ 1 1 [.int .i64 x] rfl rfl (cell_one_new _ _ _) (by simp [Value.oneCell']) (by simp only [maxLen]; omega) (by omega) XB.out.size ?_; intro v' w2 hown' hgrow _; have HC2 := Lib.hid (XB.out.grown hgrow XB.out.size N2.out); have HO2 := Lib.hid hown'; clear hown' hgrow)
        go_roundw
        case rel =>
          refine ⟨i + 1, by omega, by go_num, Lib.hid ?_, HC2⟩
          rw [HE.out, List.map_append, List.length_append]
          exact HO2.out
        case measure => simp [Go.RowKit.intOf] <;> omega
    · obtain rfl : i = l := by omega
      have hlt' : ¬ (i : Int) < (i : Int) := by omega
      have e : zs.take i = zs := List.take_of_length_le (by rw [HL.out]; exact Nat.le_refl _)
      have HO' := Lib.hid (by have := HO.out; rw [e] at this; exact this)
      clear HO e
      obtain ⟨A', c', rfl, hA'⟩ := own_form HO'.out
      go_wp2_with fail
      go_ret
      exact ⟨A', c', by rw [List.length_set]; rfl, HO'.out, HB.out⟩
end Go.Proofs.Ytcamoigcfiemhaa
