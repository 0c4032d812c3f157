/- Law 13: alive; why a symbol may not come: program and reference agree. -/
import Derived.Test.YtehlebeeoeghmaaShL
namespace Go.Proofs.Ytehlebeeoeghmaa
set_option linter.unusedVariables false
set_option linter.unusedSimpArgs false
open Go.RowKit Go.Lib
set_option maxRecDepth 100000
theorem hasI_append (a b : List SymR) (id : Nat) : hasI (a ++ b) id = (hasI a id || hasI b id) := by simp [hasI]
theorem hasI_filter (l : List SymR) (p : SymR → Bool) (id : Nat) (h : ∀ y : SymR, y.1 = id → p y = true) : hasI (l.filter p) id = hasI l id := by
  unfold hasI
  rw [Bool.eq_iff_iff, List.any_eq_true, List.any_eq_true]
  constructor
  · rintro ⟨y, hy, e⟩
    exact ⟨y, (List.mem_filter.1 hy).1, e⟩
  · rintro ⟨y, hy, e⟩
    exact ⟨y, List.mem_filter.2 ⟨hy, h y (by simpa using e)⟩, e⟩
theorem hasI_with (l : List SymR) (x : SymR) (id : Nat) : hasI (withS l x) id = (hasI l id || x.1 == id) := by
  unfold withS
  rw [hasI_append]
  have hc : ∀ m : List SymR, hasI (x :: m) id = (x.1 == id || hasI m id) := fun m => by simp [hasI]
  rw [hc]
  by_cases e : x.1 = id
  · simp [e]
  · have e2 : (x.1 == id) = false := by simpa using e
    rw [e2, Bool.false_or, Bool.or_false]
    rcases Nat.lt_or_ge id x.1 with q | q
    · rw [hasI_filter l _ id (fun y hy => by simp [hy, q])]
      have h0 : hasI (l.filter (fun y => decide (x.1 < y.1))) id = false := by
        rw [Bool.eq_false_iff]
        unfold hasI
        intro h
        rw [List.any_eq_true] at h
        obtain ⟨y, hy, e3⟩ := h
        have h4 := (List.mem_filter.1 hy).2
        have h5 : y.1 = id := by simpa using e3
        rw [decide_eq_true_eq] at h4
        omega
      rw [h0, Bool.or_false]
    · have h0 : hasI (l.filter (fun y => decide (y.1 < x.1))) id = false := by
        rw [Bool.eq_false_iff]
        unfold hasI
        intro h
        rw [List.any_eq_true] at h
        obtain ⟨y, hy, e3⟩ := h
        have h4 := (List.mem_filter.1 hy).2
        have h5 : y.1 = id := by simpa using e3
        rw [decide_eq_true_eq] at h4
        omega
      rw [h0, Bool.false_or, hasI_filter l _ id (fun y hy => by simp [hy]; omega)]
theorem hasI_fold : ∀ (l acc : List SymR) (id : Nat), hasI (l.foldl withS acc) id = (hasI acc id || hasI l id)
  | [], acc, id => by simp [hasI]
  | x :: l, acc, id => by
    rw [List.foldl_cons, hasI_fold l (withS acc x) id, hasI_with]
    have hc : hasI (x :: l) id = (x.1 == id || hasI l id) := by simp [hasI]
    rw [hc, Bool.or_assoc]
theorem hasI_all (ls : List (List SymR)) (id : Nat) : hasI (allS ls) id = ls.any fun l => hasI l id := by
  unfold allS
  rw [hasI_fold]
  have h0 : hasI [] id = false := rfl
  rw [h0, Bool.false_or]
  induction ls with
  | nil => rfl
  | cons a l ih => rw [List.flatten_cons, hasI_append, ih, List.any_cons]
/-- In stripes that may be a number stands in its own stripe alone. -/
theorem own_all {q z : Int} {ls : List (List SymR)} (h : rightSh (q, z, ls) = true) (id : Nat) : hasI (allS ls) id = hasI (ls.getD (id % ls.length) []) id := by
  have h9 : (inK (ls.length : Int) 1 16 && (inK z 0 64 && inK q 1 64) && decide ((cntS ls : Int) ≤ q) && rowsB ls.length z ls ls.length) = true := h
  simp only [Bool.and_eq_true] at h9
  have hlen : 0 < ls.length := by have := h9.1.1.1; unfold inK at this; simp at this; omega
  have hrow := h9.2
  unfold rowsB at hrow
  rw [List.all_eq_true] at hrow
  have hm : id % ls.length < ls.length := Nat.mod_lt _ hlen
  rw [hasI_all, Bool.eq_iff_iff, List.any_eq_true]
  constructor
  · rintro ⟨l, hl, hi⟩
    obtain ⟨k, hk, rfl⟩ := List.mem_iff_getElem.1 hl
    have e1 : ls.getD k [] = ls[k] := by simp [List.getD, hk]
    have h1 := hrow k (List.mem_range.2 hk)
    rw [e1] at h1
    unfold strB at h1
    rw [Bool.and_eq_true, List.all_eq_true] at h1
    have hi2 := hi
    unfold hasI at hi2
    rw [List.any_eq_true] at hi2
    obtain ⟨y, hy, e⟩ := hi2
    have h2 := h1.1 y hy
    unfold elB at h2
    rw [Bool.and_eq_true] at h2
    have h3 : ((y.1 % ls.length : Nat) : Int) = (k : Int) := by simpa using h2.2
    have h4 : y.1 = id := by simpa using e
    have hk2 : id % ls.length = k := by rw [h4] at h3; omega
    rw [hk2, e1]
    exact hi
  · intro hi
    have e1 : ls.getD (id % ls.length) [] = ls[id % ls.length] := by simp [List.getD, hm]
    rw [e1] at hi
    exact ⟨_, List.getElem_mem _, hi⟩
theorem addE_ref (s : ShR) (x : SymR) : addE s x = if rightSh s then whySh s x else 1 := by
  obtain ⟨q, z, ls⟩ := s
  unfold addE whySh
  by_cases h : rightSh (q, z, ls) = true
  · rw [if_pos h, if_pos h]
    show (if _ then (if hasI (ls.getD (x.1 % ls.length) []) x.1 = true then _ else _) else _) = (if _ then (if hasI (allS ls) x.1 = true then _ else _) else _)
    rw [own_all h]
  · rw [if_neg h, if_neg h]
theorem ShOut.lit {s : ShR} {er : Int} {w w' : World} {e : Ending} (h : ShOut s er w e w') : ∃ A c, e = .returned (.tuple #[.agg #[.int .i64 s.1, .int .i64 s.2.1, .slice A s.2.2.length c], .int .i64 er]) ∧ SpS w w.heap.size w' (.slice A s.2.2.length c) s.2.2 ∧ Below w.heap.size w w' := by
  obtain ⟨v, h1, h2, h3⟩ := h
  obtain ⟨A, c, rfl⟩ := h2.form
  exact ⟨A, c, h1, h2, h3⟩
abbrev okS1 : ShR := (9, 1, [[], [], [], []])
abbrev okX : SymR := (10, ⟨#[97]⟩)
abbrev okS2 : ShR := (9, 1, [[], [], [okX], []])
theorem ok_new : newSh 4 1 9 = okS1 := by decide +kernel
theorem ok_add : addE okS1 okX = 0 ∧ addR okS1 okX = okS2 := by decide +kernel
theorem ok_in : (if inK 4 1 16 && szB 1 9 then (0 : Int) else 2) = 0 := by decide +kernel
theorem ok_row (j : Nat) : ([[], [], [], []] : List (List SymR)).getD j [] = [] := by
  match j with
  | 0 | 1 | 2 | 3 => rfl
  | n + 4 => rfl
theorem ok_sh : OkSh okS1.2.2 := ⟨by decide, fun j => by rw [show okS1.2.2.getD j [] = [] from ok_row j]; exact Nat.zero_le _, fun j i => by
  rw [show okS1.2.2.getD j [] = [] from ok_row j]
  show (default : SymR).1 < _
  decide⟩
set_option maxHeartbeats 4000000 in
theorem alive13_any (w : World) : Calls Try.prog 12 #[] w fun e w' => e = .returned (.bool true) ∧ Below w.heap.size w w' := by
  have hN := shNew_any 4 1 9 w
  rw [ok_new, ok_in] at hN
  have HN := Lib.hid (show Calls Try.prog 6 #[.int .i64 4, .int .i64 1, .int .i64 9] w (fun e w' => ∃ A c, e = .returned (.tuple #[.agg #[.int .i64 9, .int .i64 1, .slice A 4 c], .int .i64 0]) ∧ SpS w w.heap.size w' (.slice A 4 c) okS1.2.2 ∧ Below w.heap.size w w') from hN.mono fun e w' h => h.lit)
  clear hN
  go_enter Try.func12, Try.ntmps12
  go_wp2_with fail
  refine HN.out.mono ?_
  rintro e w1 ⟨A, c, rfl, hv, hb⟩
  have hV : ShAt w1 (.agg #[.int .i64 9, .int .i64 1, .slice A 4 c]) okS1 := hv.at hb 9 1
  have ab : Below w1.heap.size w1 (w1.alloc (.cells #[.int .i64 9, .int .i64 1, .slice A 4 c] 24)) := (Below.refl _ _).alloc (Nat.le_refl _) _
  have HB := Lib.hid (chain hb ab)
  have Q := Lib.hid (Box.new w1 24 #[.int .i64 9, .int .i64 1, .slice A 4 c])
  have hA := shAdd_any _ okS1 okX _ (hV.below ab) ok_sh
  rw [ok_add.1, ok_add.2] at hA
  have HW := Lib.hid (show w.heap.size ≤ w1.heap.size from hb.size)
  obtain ⟨wa, hwa⟩ : ∃ y, y = w1.alloc (.cells #[.int .i64 9, .int .i64 1, .slice A 4 c] 24) := ⟨_, rfl⟩
  rw [← hwa] at hA Q HB
  have HA := Lib.hid (show Calls Try.prog 7 #[.agg #[.int .i64 9, .int .i64 1, .slice A 4 c], .agg #[.int .u64 10, .string ⟨#[97]⟩]] wa (fun e w' => ∃ A c, e = .returned (.tuple #[.agg #[.int .i64 9, .int .i64 1, .slice A 4 c], .int .i64 0]) ∧ SpS wa wa.heap.size w' (.slice A 4 c) okS2.2.2 ∧ Below wa.heap.size wa w') from hA.mono fun e w' h => h.lit)
  have HWa := Lib.hid hwa
  clear hb hV hv ab HN hA hwa
  obtain ⟨r0, r1, r2⟩ := Q.out.tri
  go_upto_region 2 with (fail)
  rw [← HWa.out]
  clear HWa
  go_wp2_with fail
  refine HA.out.mono ?_
  rintro e w2 ⟨A2, c2, rfl, hv2, hb2⟩
  have Q2 := Lib.hid (Q.out.keep hb2)
  have HB2 := Lib.hid (HB.out.trans (hb2.mono HB.out.size))
  have S1 := hv2.far Q2.out (by decide) (by decide) 0 (.int .i64 9)
  have S2 := S1.far (Q2.out.put 0 (.int .i64 9)) (by decide) (by decide) 1 (.int .i64 1)
  have S3 := S2.far ((Q2.out.put 0 (.int .i64 9)).put 1 (.int .i64 1)) (by decide) (by decide) 2 (.slice A2 4 c2)
  have HB3 := Lib.hid (below3 HB2.out HW.out (.int .i64 9) (.int .i64 1) (.slice A2 4 c2))
  have Q3 := Lib.hid (Q2.out.put3S (u := .int .i64 9) (v := .int .i64 1) (x := .slice A2 4 c2))
  obtain ⟨rs, h1, h2, h3⟩ := S3
  have hr2 : (rs.getD 2 sl0).2.1 = 1 := (h3 2 (by decide)).1
  obtain ⟨gA, rfl, -, hlt⟩ := own_addr h2 (by decide)
  have hc := World.ownsRow.cellAt h2 2 (by decide)
  rw [map_slV_at rs 2 (by rw [h1]; decide)] at hc
  obtain ⟨r9, hr9⟩ : ∃ r, r = rs.getD 2 sl0 := ⟨_, rfl⟩
  rw [← hr9] at hc hr2
  obtain ⟨B9, l9, d9⟩ := r9
  have hl9 : l9 = 1 := hr2
  subst hl9
  have HC := Lib.hid hc
  clear S1 S2 h1 h2 h3 hv2 hb2 hlt hc hr2 hr9 HA r0 r1 r2
  obtain ⟨r0, r1, r2⟩ := Q2.out.tri
  have f0 := Q2.out.free 0
  have f1 := Q2.out.free 1
  have f2 := Q2.out.free 2
  obtain ⟨w3, hw3⟩ : ∃ y, y = ((w2.setCell ⟨w1.heap.size, 0, none⟩ (.int .i64 9)).setCell ⟨w1.heap.size, 1, none⟩ (.int .i64 1)).setCell ⟨w1.heap.size, 2, none⟩ (.slice (some ⟨gA, 0, none⟩) 4 c2) := ⟨_, rfl⟩
  rw [← hw3] at HC HB3 Q3
  go_upto_region 3 with (fail)
  rw [← hw3]
  clear hw3 r0 r1 r2 f0 f1 f2
  obtain ⟨r0, r1, r2⟩ := Q3.out.tri
  have c9 : w3.cell? ⟨gA, 2, none⟩ = some (.slice B9 1 d9) := HC.out
  go_wp2_with fail
  go_ret
  exact ⟨rfl, HB3.out⟩
end Go.Proofs.Ytehlebeeoeghmaa
