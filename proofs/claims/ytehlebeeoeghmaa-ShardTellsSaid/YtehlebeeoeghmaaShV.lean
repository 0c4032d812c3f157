/- Layer 13: the stripes that numbers need: the reference's. -/
import Derived.Test.YtehlebeeoeghmaaShQ
namespace Go.Proofs.Ytehlebeeoeghmaa
set_option linter.unusedVariables false
set_option linter.unusedSimpArgs false
open Go.RowKit Go.Lib
set_option maxRecDepth 100000
def seenB (n : Nat) (ids : List Nat) (k : Nat) : Bool := ids.any fun id => id % n == k
def lockL (n : Nat) (ids : List Nat) (i : Nat) : List Int := ((List.range i).filter (seenB n ids)).map fun (k : Nat) => (k : Int)
theorem lockL_yes (n : Nat) (ids : List Nat) (i : Nat) (h : seenB n ids i = true) : lockL n ids (i + 1) = lockL n ids i ++ [(i : Int)] := by
  unfold lockL; rw [List.range_succ, List.filter_append, List.filter_cons_of_pos h, List.map_append]; rfl
theorem lockL_no (n : Nat) (ids : List Nat) (i : Nat) (h : seenB n ids i = false) : lockL n ids (i + 1) = lockL n ids i := by
  unfold lockL; rw [List.range_succ, List.filter_append, List.filter_cons_of_neg (by simp [h])]; simp
theorem lockL_len (n : Nat) (ids : List Nat) (i : Nat) : (lockL n ids i).length ≤ i := by
  have h1 := List.length_filter_le (seenB n ids) (List.range i)
  rw [List.length_range] at h1
  unfold lockL; rw [List.length_map]; exact h1
theorem lockL_bd (n : Nat) (ids : List Nat) (i : Nat) (hi : i ≤ 100) : ∀ j, -9223372036854775808 ≤ (lockL n ids i).getD j 0 ∧ (lockL n ids i).getD j 0 ≤ 9223372036854775807 := fun j => by
  by_cases hj : j < (lockL n ids i).length
  · have e : (lockL n ids i).getD j 0 = (lockL n ids i)[j] := by simp [List.getD, hj]
    have hm := List.getElem_mem hj
    rw [← e] at hm
    unfold lockL at hm
    obtain ⟨k, hk, e2⟩ := List.mem_map.1 hm
    have := List.mem_range.1 (List.mem_filter.1 hk).1
    unfold lockL
    omega
  · have e : (lockL n ids i).getD j 0 = 0 := by simp only [List.getD]; rw [List.getElem?_eq_none (by omega)]; rfl
    rw [e]; omega
theorem seen_snoc (n : Nat) (ids : List Nat) (k j : Nat) (h : j < ids.length) : seenB n (ids.take (j + 1)) k = (seenB n (ids.take j) k || ids.getD j 0 % n == k) := by
  have e : ids.take (j + 1) = ids.take j ++ [ids.getD j 0] := take_snocD ids j h
  rw [e]; simp [seenB]
theorem intS_info : (Try.prog.info? 3).map (fun i => (i.zero, i.size, i.bytes)) = some (some (.int .i64 0), 1, 8) := by kernel_rfl
theorem own_empty1 (W : World) (base e : Nat) (hb : base ≤ W.heap.size) : (W.alloc (.cells #[] e)).ownsRow base e 1 (.slice (some ⟨W.heap.size, 0, none⟩) 0 0) 0 [] :=
  ⟨by simp, .inr ⟨W.heap.size, 0, #[], rfl, hb, heap_alloc_new W _, Nat.le_refl _, Nat.zero_le _, by simp, by simp⟩⟩
def NumsR (ys : List Int) (w : World) (e : Ending) (w' : World) : Prop := ∃ A c, e = .returned (.slice A ys.length c) ∧ Ints w' A ys.length ys ∧ Below w.heap.size w w'
set_option maxHeartbeats 8000000 in
theorem refLocks13_any (q z : Int) (A : Option Addr) (c n : Nat) (B : Option Addr) (l d : Nat) (ids : List Nat) (w : World) (hn : n ≤ 100) (hi : Words w B l ids) (hl : l ≤ 1000) :
    Calls Try.prog 23 #[.agg #[.int .i64 q, .int .i64 z, .slice A n c], .slice B l d] w (NumsR (lockL n ids n) w) := by
  obtain ⟨i0, hi0, hz0, hz1, hz2⟩ := info_parts intS_info
  have HI := Lib.hid hi0
  have HZ0 := Lib.hid hz0
  have HZ1 := Lib.hid hz1
  have HZ2 := Lib.hid hz2
  have HX := Lib.hid hi
  have HXl := Lib.hid hi.1
  have hb1 : Below w.heap.size w (w.alloc (.cells #[.int .i64 q, .int .i64 z, .slice A n c] 24)) := (Below.refl w.heap.size w).alloc (Nat.le_refl _) _
  have W1 := Lib.hid (hb1.alloc hb1.size (.cells #[] 3))
  have Q := Lib.hid ((Box.new w 24 #[.int .i64 q, .int .i64 z, .slice A n c]).alloc (.cells #[] 3))
  have S1O := Lib.hid (own_empty1 (w.alloc (.cells #[.int .i64 q, .int .i64 z, .slice A n c] 24)) w.heap.size 3 hb1.size)
  have HLn := Lib.hid (lockL_len n ids)
  obtain ⟨r0, r1, r2⟩ := Q.out.tri
  clear hi hi0 hz0 hz1 hz2 hb1
  go_enter Try.func23, Try.ntmps23
  go_wp2_with fail
  clear r0 r1 r2
  go_loopw [5, 14] (fun v t wr => ∃ i : Nat, i ≤ n ∧ t = .int .i64 (i : Int) ∧ Hid (wr.ownsRow w.heap.size 3 1 v (lockL n ids i).length ((lockL n ids i).map (Value.int .i64))) ∧ Hid (Box wr w.heap.size 24 #[.int .i64 q, .int .i64 z, .slice A n c]) ∧ Hid (Below w.heap.size w wr)) (fun _ t _ => n - (Go.RowKit.intOf t).toNat)
  case atStart => exact ⟨0, Nat.zero_le _, rfl, by have h9 := S1O.out; simp only [World.size_alloc] at h9; exact Lib.hid h9, Q, W1⟩
  case round =>
    clear S1O Q W1
    obtain ⟨i, hi, rfl, HW, HQ, HB⟩ := hrel
    by_cases hlt : i < n
    · have hlt' : (i : Int) < (n : Int) := Int.ofNat_lt.2 hlt
      have hi5 : (i : Int) < 1000000 := by omega
      have HOf := Lib.hid (fun id wy => refOf13_any q z A c n id wy (by omega) hn)
      go_wp2_with fail
      go_loopw [7, 19] (fun s t wr => ∃ j : Nat, j ≤ l ∧ t = .int .i64 (j : Int) ∧ s = .bool (seenB n (ids.take j) i) ∧ Hid (wr.ownsRow w.heap.size 3 1 _ (lockL n ids i).length ((lockL n ids i).map (Value.int .i64))) ∧ Hid (Box wr w.heap.size 24 #[.int .i64 q, .int .i64 z, .slice A n c]) ∧ Hid (Below w.heap.size w wr)) (fun _ t _ => l - (Go.RowKit.intOf t).toNat)
      case atStart => exact ⟨0, Nat.zero_le _, rfl, rfl, HW, HQ, HB⟩
      case round =>
        clear HW HQ HB
        obtain ⟨j, hj, rfl, rfl, HW, HQ, HB⟩ := hrel
        by_cases hjl : j < l
        · have hjl' : (j : Int) < (l : Int) := Int.ofNat_lt.2 hjl
          obtain ⟨b1, off1, rfl, hb1, hc1⟩ := HX.out.2.2 (by omega)
          have y0 := (HB.out.cell (p := ⟨b1, off1 + j, none⟩) hb1).trans (hc1 j hjl)
          have HSn := Lib.hid (seen_snoc n ids i j (by rw [HXl.out]; exact hjl))
          clear hc1
          generalize ids.getD j 0 = id at *
          generalize seenB n (ids.take j) i = sv at *
          cases sv with
          | true =>
            have HE := Lib.hid (show seenB n (ids.take (j + 1)) i = true by rw [HSn.out]; rfl)
            clear HSn
            go_wp2_with fail
            go_roundw
            case rel => exact ⟨j + 1, hjl, by go_num, by rw [HE.out], HW, HQ, HB⟩
            case measure => simp [Go.RowKit.intOf] <;> omega
          | false =>
            have HE := Lib.hid (show seenB n (ids.take (j + 1)) i = (((id % n : Nat) : Int) == (i : Int)) by
              rw [HSn.out, Bool.false_or, Bool.eq_iff_iff]
              simp only [beq_iff_eq]
              omega)
            obtain ⟨r0, r1, r2⟩ := HQ.out.tri
            have HOi := Lib.hid (HOf.out id wr)
            clear HSn
            generalize id % n = m at *
            go_wp2_with fail
            refine HOi.out.mono ?_
            rintro e w2 ⟨rfl, hb⟩
            have HW2 := Lib.hid (own_keepB HW.out hb)
            have HQ2 := Lib.hid (HQ.out.keep hb)
            have HB2 := Lib.hid (chain HB.out hb)
            clear hb r0 r1 r2 HW HQ HB HOi y0
            go_wp2_with fail
            go_roundw
            case rel => exact ⟨j + 1, hjl, by go_num, by rw [HE.out], HW2, HQ2, HB2⟩
            case measure => simp [Go.RowKit.intOf] <;> omega
        · obtain rfl : j = l := by omega
          have hjl' : ¬ (j : Int) < (j : Int) := Int.lt_irrefl _
          have hte : ids.take j = ids := List.take_of_length_le (by rw [HXl.out]; exact Nat.le_refl _)
          rw [hte]
          clear hte
          have HSy := Lib.hid (lockL_yes n ids i)
          have HSo := Lib.hid (lockL_no n ids i)
          have hll := HLn.out i
          generalize seenB n ids i = sv at *
          cases sv with
          | false =>
            have HE := Lib.hid (HSo.out rfl)
            clear HSy HSo
            go_wp2_with fail
            go_roundw
            case rel => exact ⟨i + 1, hlt, by go_num, by rw [HE.out]; exact HW, HQ, HB⟩
            case measure => simp [Go.RowKit.intOf] <;> omega
          | true =>
            have HE := Lib.hid (HSy.out rfl)
            clear HSy HSo
            obtain ⟨w5, rfl⟩ : ∃ w5 : World, w5 = wr := ⟨_, rfl⟩
            have c1 : Below w5.heap.size w5 (w5.alloc (.cells #[.int .i64 (i : Int)] 3)) := (Below.refl _ _).alloc (Nat.le_refl _) _
            have ZO := Lib.hid (own_keepB HW.out c1)
            have ZQ := Lib.hid (HQ.out.keep c1)
            have ZB := Lib.hid (HB.out.trans (c1.mono HB.out.size))
            have N2 := Lib.hid (fun g hg => (ZO.out.lt g hg).1)
            have NW := Lib.hid (World.news_of_block (Box.new w5 3 #[.int .i64 (i : Int)]))
            clear c1 HW HQ HB
            go_wp2_with (at_builtin; go_loud (refine wpList_append_own _ rfl _ _ 46 rfl w.heap.size 3 i0 (.int .i64 0) 1 8 Try.underlying46 HI.out HZ0.out HZ1.out HZ2.out rfl (by decide) _ _ _ rfl ZO.out ⟨w5.heap.size, 0, none⟩ 1 1 [.int .i64 (i : Int)] rfl rfl NW.out (by simp [Value.oneCell']) (by simp only [maxLen, List.length_map]; omega) (by omega) ZB.out.size ?_); intro v' w2 hown' hgrow _; go_loud (have HC2 := Lib.hid (ZB.out.grown hgrow ZB.out.size N2.out); have HQ2 := Lib.hid (Box.grown ZQ.out hgrow (own_ne ZO.out ZQ.out (by decide))); have HO2 := Lib.hid hown'); clear hown' hgrow)
            go_roundw
            case rel =>
              refine ⟨i + 1, hlt, by go_num, ?_, HQ2, HC2⟩
              rw [HE.out, List.length_append, List.map_append]
              exact HO2
            case measure => simp [Go.RowKit.intOf] <;> omega
    · obtain rfl : i = n := by omega
      have hlt' : ¬ (i : Int) < (i : Int) := Int.lt_irrefl _
      have HBd := Lib.hid (lockL_bd i ids i hn)
      obtain ⟨A9, c9, hv9⟩ := own_formS HW.out
      subst hv9
      have HR := Lib.hid (own_ints HW.out HBd.out)
      generalize lockL i ids i = ys at *
      go_wp2_with fail
      go_ret
      exact ⟨A9, c9, rfl, HR.out, HB.out⟩
end Go.Proofs.Ytehlebeeoeghmaa
