/- Layer 20: systems that go on, as data; what each instruction waits for; canGoOn, enabled. -/
import Derived.Test.YtcamoigcfiemhaaScG
import Derived.BigRegion
import Derived.RegionTactic
namespace Go.Proofs.Ytcamoigcfiemhaa
set_option linter.unusedVariables false
set_option linter.unusedSimpArgs false
open Go.RowKit Go.Lib
set_option maxRecDepth 100000
/-- A thread's next instruction. -/
def insAt (s : Sys) (t : Nat) : InR := (s.th.getD t []).getD (s.pc.getD t 0).toNat default
def endS (s : Sys) (t : Nat) : Bool := s.pc.getD t 0 == ((s.th.getD t []).length : Int)
def canI (s : Sys) (x : InR) : Bool :=
  if x.1 = 0 then s.lo.getD x.2.1.toNat 0 == -1
  else if x.1 = 3 then decide (((s.ch.getD x.2.1.toNat []).length : Int) < 2)
  else if x.1 = 4 then decide (0 < ((s.ch.getD x.2.1.toNat []).length : Int)) else true
def canS (s : Sys) (t : Nat) : Bool := !endS s t && canI s (insAt s t)
def doI (s : Sys) (t : Nat) (x : InR) : Sys :=
  if x.1 = 0 then { s with lo := s.lo.set x.2.1.toNat (t : Int) }
  else if x.1 = 1 then (if s.lo.getD x.2.1.toNat 0 = (t : Int) then { s with lo := s.lo.set x.2.1.toNat (-1) } else s)
  else if x.1 = 2 then { s with ce := s.ce.set x.2.1.toNat (s.ce.getD x.2.1.toNat 0 + x.2.2) }
  else if x.1 = 3 then { s with ch := s.ch.set x.2.1.toNat (s.ch.getD x.2.1.toNat [] ++ [x.2.2]) }
  else { s with su := s.su.set t (s.su.getD t 0 + (s.ch.getD x.2.1.toNat []).getD 0 0), ch := s.ch.set x.2.1.toNat ((s.ch.getD x.2.1.toNat []).drop 1) }
def bumpS (s : Sys) (t : Nat) : Sys := { s with pc := s.pc.set t (s.pc.getD t 0 + 1) }
def stepS (s : Sys) (t : Nat) : Sys := doI (bumpS s t) t (insAt s t)
def bndL (k : Nat) (l : List Int) : Prop := ∀ j, -(1073741824 * ((k : Int) + 1)) < l.getD j 0 ∧ l.getD j 0 < 1073741824 * ((k : Int) + 1)
/-- What holds of a system that may be, some steps later. -/
structure WR (k : Nat) (s : Sys) : Prop where
  n8 : s.th.length ≤ 8
  pcl : s.pc.length = s.th.length
  sul : s.su.length = s.th.length
  lol : s.lo.length = 4
  cel : s.ce.length = 4
  chl : s.ch.length = 4
  row : ∀ j, j < s.th.length → (s.th.getD j []).length ≤ 16 ∧ 0 ≤ s.pc.getD j 0 ∧ s.pc.getD j 0 ≤ ((s.th.getD j []).length : Int)
  ins : ∀ j i, i < (s.th.getD j []).length → inB ((s.th.getD j []).getD i default) = true
  sub : bndL k s.su
  ceb : bndL k s.ce
  lob : ∀ j, j < 4 → -1 ≤ s.lo.getD j 0 ∧ s.lo.getD j 0 ≤ (s.th.length : Int) - 1
  chb : ∀ j, (s.ch.getD j []).length ≤ 2 ∧ ∀ i, -1073741824 < (s.ch.getD j []).getD i 0 ∧ (s.ch.getD j []).getD i 0 < 1073741824
theorem smL_at {l : List Int} (h : smL l = true) (j : Nat) : -1073741824 < l.getD j 0 ∧ l.getD j 0 < 1073741824 := by
  by_cases hj : j < l.length
  · have := List.all_eq_true.1 h _ (List.getElem_mem hj)
    simp [smB] at this
    simpa [List.getD, hj] using this
  · have : l[j]? = none := List.getElem?_eq_none (by omega)
    simp [List.getD, this]
theorem WR.of {s : Sys} (h : rightS s = true) : WR 0 s := by
  simp only [rightS, Bool.and_eq_true] at h
  obtain ⟨⟨h1, h2⟩, ⟨⟨h3, h4⟩, h5⟩, h6⟩ := h
  obtain ⟨n0, n1, n2, n3, n4, n5⟩ := shape_parts h1
  have ht : ∀ j, j < s.th.length → thr1B (s.th.getD j []) (s.pc.getD j 0) = true := fun j hj => List.all_eq_true.1 h2 j (List.mem_range.2 hj)
  refine ⟨n0, n1, n2, n3, n4, n5, fun j hj => ?_, fun j i hi => ?_, fun j => ?_, fun j => ?_, fun j hj => ?_, fun j => ?_⟩
  · have := ht j hj
    simp only [thr1B, Bool.and_eq_true, decide_eq_true_eq] at this
    exact ⟨this.1.1, this.1.2.1, this.1.2.2⟩
  · by_cases hj : j < s.th.length
    · have := ht j hj
      simp only [thr1B, Bool.and_eq_true] at this
      have h9 := List.all_eq_true.1 this.2 _ (List.getElem_mem hi)
      have e : (s.th.getD j []).getD i default = (s.th.getD j [])[i] := by rw [List.getD, List.getElem?_eq_getElem hi]; rfl
      rw [e]; exact h9
    · have : s.th[j]? = none := List.getElem?_eq_none (by omega)
      simp [List.getD, this] at hi
  · have := smL_at h5 j
    omega
  · have := smL_at h6 j
    omega
  · have := List.all_eq_true.1 h3 (s.lo.getD j 0) (by
      have hj' : j < s.lo.length := by omega
      have e : s.lo.getD j 0 = s.lo[j] := by simp [List.getD, hj']
      rw [e]; exact List.getElem_mem _)
    simpa using this
  · by_cases hj : j < s.ch.length
    · have e : s.ch.getD j [] = s.ch[j] := by simp [List.getD, hj]
      have := List.all_eq_true.1 h4 _ (List.getElem_mem hj)
      rw [← e] at this
      simp only [ch1B, Bool.and_eq_true, decide_eq_true_eq] at this
      exact ⟨this.1, fun i => smL_at this.2 i⟩
    · have : s.ch[j]? = none := List.getElem?_eq_none (by omega)
      simp [List.getD, this]
theorem getD_set (l : List Int) (i j : Nat) (x : Int) : (l.set i x).getD j 0 = if i = j ∧ j < l.length then x else l.getD j 0 := by
  simp only [List.getD, List.getElem?_set]
  by_cases h : i = j
  · subst h
    by_cases hl : i < l.length
    · simp [hl]
    · simp [hl, List.getElem?_eq_none (Nat.le_of_not_lt hl)]
  · simp [h]
theorem getD_setL {α : Type} (l : List (List α)) (i j : Nat) (x : List α) : (l.set i x).getD j [] = if i = j ∧ j < l.length then x else l.getD j [] := by
  simp only [List.getD, List.getElem?_set]
  by_cases h : i = j
  · subst h
    by_cases hl : i < l.length
    · simp [hl]
    · simp [hl, List.getElem?_eq_none (Nat.le_of_not_lt hl)]
  · simp [h]
theorem inB_parts {x : InR} (h : inB x = true) : 0 ≤ x.1 ∧ x.1 ≤ 4 ∧ 0 ≤ x.2.1 ∧ x.2.1 ≤ 3 ∧ -1000 ≤ x.2.2 ∧ x.2.2 ≤ 1000 := by
  simp [inB] at h
  omega
theorem WR.next {k : Nat} {s : Sys} (h : WR k s) {t : Nat} (ht : t < s.th.length) (he : endS s t = false) : (s.pc.getD t 0).toNat < (s.th.getD t []).length ∧ inB (insAt s t) = true := by
  have r := h.row t ht
  have : s.pc.getD t 0 ≠ ((s.th.getD t []).length : Int) := by simpa [endS] using he
  have hlt : (s.pc.getD t 0).toNat < (s.th.getD t []).length := by omega
  exact ⟨hlt, h.ins t _ hlt⟩
theorem bndL.up {k : Nat} {l : List Int} (h : bndL k l) : bndL (k + 1) l := fun j => by
  have := h j
  omega
theorem bndL.set {k : Nat} {l : List Int} (h : bndL k l) (i : Nat) {x : Int} (hx : -1073741824 < x ∧ x < 1073741824) : bndL (k + 1) (l.set i (l.getD i 0 + x)) := fun j => by
  rw [getD_set]
  have h1 := h j
  have h2 := h i
  split <;> omega
theorem WR.up {k : Nat} {s : Sys} (h : WR k s) : WR (k + 1) s := ⟨h.n8, h.pcl, h.sul, h.lol, h.cel, h.chl, h.row, h.ins, h.sub.up, h.ceb.up, h.lob, h.chb⟩
theorem WR.bump {k : Nat} {s : Sys} (h : WR k s) {t : Nat} (hlt : t < s.th.length → (s.pc.getD t 0).toNat < (s.th.getD t []).length) : WR k (bumpS s t) := by
  refine ⟨h.n8, (List.length_set ..).trans h.pcl, h.sul, h.lol, h.cel, h.chl, fun j hj => ?_, h.ins, h.sub, h.ceb, h.lob, h.chb⟩
  have hj' : j < s.th.length := hj
  have r := h.row j hj'
  have g : (s.pc.set t (s.pc.getD t 0 + 1)).getD j 0 = if t = j ∧ j < s.pc.length then s.pc.getD t 0 + 1 else s.pc.getD j 0 := getD_set _ _ _ _
  show (s.th.getD j []).length ≤ 16 ∧ 0 ≤ (s.pc.set t (s.pc.getD t 0 + 1)).getD j 0 ∧ (s.pc.set t (s.pc.getD t 0 + 1)).getD j 0 ≤ ((s.th.getD j []).length : Int)
  rw [g]
  split
  · next e =>
    obtain ⟨rfl, -⟩ := e
    have := hlt hj'
    exact ⟨r.1, by omega, by omega⟩
  · exact r
theorem WR.lo_ {k : Nat} {s : Sys} (h : WR k s) (a : Nat) (x : Int) (hx : -1 ≤ x ∧ x ≤ (s.th.length : Int) - 1) : WR k { s with lo := s.lo.set a x } := by
  refine ⟨h.n8, h.pcl, h.sul, (List.length_set ..).trans h.lol, h.cel, h.chl, h.row, h.ins, h.sub, h.ceb, fun j hj => ?_, h.chb⟩
  show -1 ≤ (s.lo.set a x).getD j 0 ∧ (s.lo.set a x).getD j 0 ≤ (s.th.length : Int) - 1
  rw [getD_set]
  split
  · exact hx
  · exact h.lob j hj
theorem WR.ce_ {k : Nat} {s : Sys} (h : WR k s) (a : Nat) (x : Int) (hx : -1073741824 < x ∧ x < 1073741824) : WR (k + 1) { s with ce := s.ce.set a (s.ce.getD a 0 + x) } :=
  ⟨h.n8, h.pcl, h.sul, h.lol, (List.length_set ..).trans h.cel, h.chl, h.row, h.ins, h.sub.up, h.ceb.set _ hx, h.lob, h.chb⟩
theorem WR.su_ {k : Nat} {s : Sys} (h : WR k s) (a : Nat) (x : Int) (hx : -1073741824 < x ∧ x < 1073741824) : WR (k + 1) { s with su := s.su.set a (s.su.getD a 0 + x) } :=
  ⟨h.n8, h.pcl, (List.length_set ..).trans h.sul, h.lol, h.cel, h.chl, h.row, h.ins, h.sub.set _ hx, h.ceb.up, h.lob, h.chb⟩
theorem WR.ch_ {k : Nat} {s : Sys} (h : WR k s) (a : Nat) (l : List Int) (hl : l.length ≤ 2 ∧ ∀ i, -1073741824 < l.getD i 0 ∧ l.getD i 0 < 1073741824) : WR k { s with ch := s.ch.set a l } := by
  refine ⟨h.n8, h.pcl, h.sul, h.lol, h.cel, (List.length_set ..).trans h.chl, h.row, h.ins, h.sub, h.ceb, h.lob, fun j => ?_⟩
  show ((s.ch.set a l).getD j []).length ≤ 2 ∧ ∀ i, -1073741824 < ((s.ch.set a l).getD j []).getD i 0 ∧ ((s.ch.set a l).getD j []).getD i 0 < 1073741824
  rw [getD_setL]
  split
  · exact hl
  · exact h.chb j
theorem WR.doI {k : Nat} {s : Sys} (h : WR k s) {t : Nat} (ht : t < s.th.length) {x : InR} (hin : inB x = true) (hci : canI s x = true) : WR (k + 1) (doI s t x) := by
  obtain ⟨i0, i1, i2, i3, i4, i5⟩ := inB_parts hin
  have hch := h.chb x.2.1.toNat
  unfold Go.Proofs.Ytcamoigcfiemhaa.doI
  split
  · exact (h.lo_ _ _ (by omega)).up
  · split
    · split
      · exact (h.lo_ _ _ (by omega)).up
      · exact h.up
    · split
      · exact h.ce_ _ _ (by omega)
      · split
        · have hl : (s.ch.getD x.2.1.toNat []).length < 2 := by
            have e : canI s x = decide (((s.ch.getD x.2.1.toNat []).length : Int) < 2) := by unfold canI; rw [if_neg ‹¬ x.1 = 0›, if_pos ‹x.1 = 3›]
            rw [e] at hci
            have := of_decide_eq_true hci
            omega
          refine (h.ch_ _ _ ⟨by rw [List.length_append, List.length_singleton]; omega, fun i => ?_⟩).up
          have := hch.2 i
          generalize s.ch.getD x.2.1.toNat [] = l at *
          by_cases e : i < l.length
          · rw [show (l ++ [x.2.2]).getD i 0 = l.getD i 0 by simp only [List.getD]; rw [List.getElem?_append_left e]]; exact this
          · by_cases e2 : i = l.length
            · rw [show (l ++ [x.2.2]).getD i 0 = x.2.2 by subst e2; simp [List.getD]]; omega
            · rw [show (l ++ [x.2.2]).getD i 0 = 0 by simp only [List.getD]; rw [List.getElem?_eq_none (by rw [List.length_append, List.length_singleton]; omega)]; rfl]; omega
        · refine WR.ch_ (h.su_ t _ (hch.2 0)) _ _ ⟨by rw [List.length_drop]; omega, fun i => ?_⟩
          rw [show ((s.ch.getD x.2.1.toNat []).drop 1).getD i 0 = (s.ch.getD x.2.1.toNat []).getD (i + 1) 0 by simp [List.getD, List.getElem?_drop, Nat.add_comm]]
          exact hch.2 _
theorem canI_bump (s : Sys) (t : Nat) (x : InR) : canI (bumpS s t) x = canI s x := rfl
theorem WR.step {k : Nat} {s : Sys} (h : WR k s) {t : Nat} (ht : t < s.th.length) (hc : canS s t = true) : WR (k + 1) (stepS s t) := by
  have hc' : endS s t = false ∧ canI s (insAt s t) = true := by simpa [canS] using hc
  obtain ⟨hlt, hin⟩ := h.next ht hc'.1
  exact WR.doI (h.bump fun _ => hlt) ht hin hc'.2
theorem WR.nums {k : Nat} {s : Sys} (h : WR k s) (hk : k ≤ 1000) : Nums s := by
  refine ⟨fun j => ?_, fun j => ?_, fun j => ?_, fun j => ?_, fun j hj i => ?_⟩
  · by_cases hj : j < s.th.length
    · have := h.row j hj; omega
    · have : s.pc[j]? = none := List.getElem?_eq_none (by rw [h.pcl]; omega)
      simp [List.getD, this]
  · have := h.sub j; omega
  · by_cases hj : j < 4
    · have := h.lob j hj; have := h.n8; omega
    · have : s.lo[j]? = none := List.getElem?_eq_none (by rw [h.lol]; omega)
      simp [List.getD, this]
  · have := h.ceb j; omega
  · have := (h.chb j).2 i; omega
set_option maxHeartbeats 2000000 in
theorem isFree_any (v : Value) (s : Sys) (w : World) (h : SysAt w v s) (op nu : Int) (a : Nat) (ha : a < s.lo.length) (ha4 : a < 4) : Calls Try.prog 69 #[v, .agg #[.int .i64 op, .int .i64 (a : Int), .int .i64 nu]] w fun e w' => e = .returned (.bool (s.lo.getD a 0 == -1)) ∧ Below w.heap.size w w' := by
  obtain ⟨A0, l0, c0, A1, l1, c1, A2, l2, c2, A3, l3, c3, A4, l4, c4, A5, l5, c5, rfl, s0, s1, s2, s3, s4, s5, h0, h1, h2, h3, h4, h5⟩ := h
  have hal : (a : Int) < (l3 : Int) := by have := h3.1; omega
  obtain ⟨b3, o3, rfl, hb3, hc3⟩ := h3.2.2 (by omega)
  have g3 := (((Below.refl w.heap.size w).alloc (Nat.le_refl _) (.cells #[.slice A0 l0 c0, .slice A1 l1 c1, .slice A2 l2 c2, .slice (some ⟨b3, o3, none⟩) l3 c3, .slice A4 l4 c4, .slice A5 l5 c5] 26)).alloc (by simp) (.cells #[.int .i64 op, .int .i64 (a : Int), .int .i64 nu] 57)).cell (p := ⟨b3, o3 + a, none⟩) hb3 |>.trans (hc3 a (by omega))
  obtain ⟨x, hx⟩ : ∃ x, x = s.lo.getD a 0 := ⟨_, rfl⟩
  rw [← hx] at g3
  rw [← hx]
  clear hc3 hx
  have W2 := Lib.hid (((Below.refl w.heap.size w).alloc (Nat.le_refl _) (.cells #[.slice A0 l0 c0, .slice A1 l1 c1, .slice A2 l2 c2, .slice (some ⟨b3, o3, none⟩) l3 c3, .slice A4 l4 c4, .slice A5 l5 c5] 26)).alloc (by simp) (.cells #[.int .i64 op, .int .i64 (a : Int), .int .i64 nu] 57))
  have q1 := Box.new (w.alloc (.cells #[.slice A0 l0 c0, .slice A1 l1 c1, .slice A2 l2 c2, .slice (some ⟨b3, o3, none⟩) l3 c3, .slice A4 l4 c4, .slice A5 l5 c5] 26)) 57 #[.int .i64 op, .int .i64 (a : Int), .int .i64 nu]
  simp only [World.size_alloc] at q1
  have Q0 := Lib.hid ((Box.new w 26 #[.slice A0 l0 c0, .slice A1 l1 c1, .slice A2 l2 c2, .slice (some ⟨b3, o3, none⟩) l3 c3, .slice A4 l4 c4, .slice A5 l5 c5]).alloc (.cells #[.int .i64 op, .int .i64 (a : Int), .int .i64 nu] 57))
  have Q1 := Lib.hid q1
  clear q1
  obtain ⟨r0, r1, r2, r3, r4, r5⟩ := Q0.out.six
  obtain ⟨y0, y1, y2⟩ := Q1.out.three3
  clear h0 h1 h2 h3 h4 h5 s0 s1 s2 s3 s4 s5
  go_enter Try.func69, Try.ntmps69
  go_wp2_with fail
  go_ret
  exact ⟨rfl, W2.out⟩
set_option maxHeartbeats 2000000 in
theorem hasRoom_any (v : Value) (s : Sys) (w : World) (h : SysAt w v s) (op nu : Int) (a : Nat) (ha : a < s.ch.length) (ha4 : a < 4) : Calls Try.prog 74 #[v, .agg #[.int .i64 op, .int .i64 (a : Int), .int .i64 nu]] w fun e w' => e = .returned (.bool (decide (((s.ch.getD a []).length : Int) < 2))) ∧ Below w.heap.size w w' := by
  obtain ⟨A0, l0, c0, A1, l1, c1, A2, l2, c2, A3, l3, c3, A4, l4, c4, A5, l5, c5, rfl, s0, s1, s2, s3, s4, s5, h0, h1, h2, h3, h4, h5⟩ := h
  have hal : (a : Int) < (l5 : Int) := by have := h5.1; omega
  obtain ⟨b5, o5, B, n, d, rfl, hb5, g5, -, hp⟩ := h5.at a (by omega)
  have g5 := (((Below.refl w.heap.size w).alloc (Nat.le_refl _) (.cells #[.slice A0 l0 c0, .slice A1 l1 c1, .slice A2 l2 c2, .slice A3 l3 c3, .slice A4 l4 c4, .slice (some ⟨b5, o5, none⟩) l5 c5] 26)).alloc (by simp) (.cells #[.int .i64 op, .int .i64 (a : Int), .int .i64 nu] 57)).cell (p := ⟨b5, o5 + a, none⟩) hb5 |>.trans g5
  have hn := hp.1
  rw [hn]
  clear hp hn
  have W2 := Lib.hid (((Below.refl w.heap.size w).alloc (Nat.le_refl _) (.cells #[.slice A0 l0 c0, .slice A1 l1 c1, .slice A2 l2 c2, .slice A3 l3 c3, .slice A4 l4 c4, .slice (some ⟨b5, o5, none⟩) l5 c5] 26)).alloc (by simp) (.cells #[.int .i64 op, .int .i64 (a : Int), .int .i64 nu] 57))
  have q1 := Box.new (w.alloc (.cells #[.slice A0 l0 c0, .slice A1 l1 c1, .slice A2 l2 c2, .slice A3 l3 c3, .slice A4 l4 c4, .slice (some ⟨b5, o5, none⟩) l5 c5] 26)) 57 #[.int .i64 op, .int .i64 (a : Int), .int .i64 nu]
  simp only [World.size_alloc] at q1
  have Q0 := Lib.hid ((Box.new w 26 #[.slice A0 l0 c0, .slice A1 l1 c1, .slice A2 l2 c2, .slice A3 l3 c3, .slice A4 l4 c4, .slice (some ⟨b5, o5, none⟩) l5 c5]).alloc (.cells #[.int .i64 op, .int .i64 (a : Int), .int .i64 nu] 57))
  have Q1 := Lib.hid q1
  clear q1
  obtain ⟨r0, r1, r2, r3, r4, r5⟩ := Q0.out.six
  obtain ⟨y0, y1, y2⟩ := Q1.out.three3
  clear h0 h1 h2 h3 h4 h5 s0 s1 s2 s3 s4 s5
  go_enter Try.func74, Try.ntmps74
  go_wp2_with fail
  go_ret
  exact ⟨by simp, W2.out⟩
set_option maxHeartbeats 2000000 in
theorem hasNumber_any (v : Value) (s : Sys) (w : World) (h : SysAt w v s) (op nu : Int) (a : Nat) (ha : a < s.ch.length) (ha4 : a < 4) : Calls Try.prog 76 #[v, .agg #[.int .i64 op, .int .i64 (a : Int), .int .i64 nu]] w fun e w' => e = .returned (.bool (decide (0 < ((s.ch.getD a []).length : Int)))) ∧ Below w.heap.size w w' := by
  obtain ⟨A0, l0, c0, A1, l1, c1, A2, l2, c2, A3, l3, c3, A4, l4, c4, A5, l5, c5, rfl, s0, s1, s2, s3, s4, s5, h0, h1, h2, h3, h4, h5⟩ := h
  have hal : (a : Int) < (l5 : Int) := by have := h5.1; omega
  obtain ⟨b5, o5, B, n, d, rfl, hb5, g5, -, hp⟩ := h5.at a (by omega)
  have g5 := (((Below.refl w.heap.size w).alloc (Nat.le_refl _) (.cells #[.slice A0 l0 c0, .slice A1 l1 c1, .slice A2 l2 c2, .slice A3 l3 c3, .slice A4 l4 c4, .slice (some ⟨b5, o5, none⟩) l5 c5] 26)).alloc (by simp) (.cells #[.int .i64 op, .int .i64 (a : Int), .int .i64 nu] 57)).cell (p := ⟨b5, o5 + a, none⟩) hb5 |>.trans g5
  have hn := hp.1
  rw [hn]
  clear hp hn
  have W2 := Lib.hid (((Below.refl w.heap.size w).alloc (Nat.le_refl _) (.cells #[.slice A0 l0 c0, .slice A1 l1 c1, .slice A2 l2 c2, .slice A3 l3 c3, .slice A4 l4 c4, .slice (some ⟨b5, o5, none⟩) l5 c5] 26)).alloc (by simp) (.cells #[.int .i64 op, .int .i64 (a : Int), .int .i64 nu] 57))
  have q1 := Box.new (w.alloc (.cells #[.slice A0 l0 c0, .slice A1 l1 c1, .slice A2 l2 c2, .slice A3 l3 c3, .slice A4 l4 c4, .slice (some ⟨b5, o5, none⟩) l5 c5] 26)) 57 #[.int .i64 op, .int .i64 (a : Int), .int .i64 nu]
  simp only [World.size_alloc] at q1
  have Q0 := Lib.hid ((Box.new w 26 #[.slice A0 l0 c0, .slice A1 l1 c1, .slice A2 l2 c2, .slice A3 l3 c3, .slice A4 l4 c4, .slice (some ⟨b5, o5, none⟩) l5 c5]).alloc (.cells #[.int .i64 op, .int .i64 (a : Int), .int .i64 nu] 57))
  have Q1 := Lib.hid q1
  clear q1
  obtain ⟨r0, r1, r2, r3, r4, r5⟩ := Q0.out.six
  obtain ⟨y0, y1, y2⟩ := Q1.out.three3
  clear h0 h1 h2 h3 h4 h5 s0 s1 s2 s3 s4 s5
  go_enter Try.func76, Try.ntmps76
  go_wp2_with fail
  go_ret
  exact ⟨by simp, W2.out⟩
set_option maxHeartbeats 2000000 in
theorem always_any (v : Value) (s : Sys) (w : World) (h : SysAt w v s) (op nu : Int) (a : Nat)  : Calls Try.prog 71 #[v, .agg #[.int .i64 op, .int .i64 (a : Int), .int .i64 nu]] w fun e w' => e = .returned (.bool (true)) ∧ Below w.heap.size w w' := by
  obtain ⟨A0, l0, c0, A1, l1, c1, A2, l2, c2, A3, l3, c3, A4, l4, c4, A5, l5, c5, rfl, s0, s1, s2, s3, s4, s5, h0, h1, h2, h3, h4, h5⟩ := h
  have W2 := Lib.hid (((Below.refl w.heap.size w).alloc (Nat.le_refl _) (.cells #[.slice A0 l0 c0, .slice A1 l1 c1, .slice A2 l2 c2, .slice A3 l3 c3, .slice A4 l4 c4, .slice A5 l5 c5] 26)).alloc (by simp) (.cells #[.int .i64 op, .int .i64 (a : Int), .int .i64 nu] 57))
  have q1 := Box.new (w.alloc (.cells #[.slice A0 l0 c0, .slice A1 l1 c1, .slice A2 l2 c2, .slice A3 l3 c3, .slice A4 l4 c4, .slice A5 l5 c5] 26)) 57 #[.int .i64 op, .int .i64 (a : Int), .int .i64 nu]
  simp only [World.size_alloc] at q1
  have Q0 := Lib.hid ((Box.new w 26 #[.slice A0 l0 c0, .slice A1 l1 c1, .slice A2 l2 c2, .slice A3 l3 c3, .slice A4 l4 c4, .slice A5 l5 c5]).alloc (.cells #[.int .i64 op, .int .i64 (a : Int), .int .i64 nu] 57))
  have Q1 := Lib.hid q1
  clear q1
  obtain ⟨r0, r1, r2, r3, r4, r5⟩ := Q0.out.six
  obtain ⟨y0, y1, y2⟩ := Q1.out.three3
  clear h0 h1 h2 h3 h4 h5 s0 s1 s2 s3 s4 s5
  go_enter Try.func71, Try.ntmps71
  go_wp2_with fail
  go_ret
  exact ⟨rfl, W2.out⟩
theorem store_fn {W : World} {g i : Nat} {t : TypeId} {cs : Array Value} (h : Box W g t cs) (hi : i < cs.size) (f : Fn) : Sem.run Try.prog (store ⟨g, i, none⟩ (.func f #[] #[])) W = .ok () (W.setCell ⟨g, i, none⟩ (.func f #[] #[])) := by
  rw [run_store _ _ _ _ _ rfl, h.cell i, Array.getElem?_eq_getElem hi]
  simp [h.free i]
/-- The pairs, each at its kind's place. -/
abbrev tabA : Array Value := #[.func (.func 69) #[] #[], .func (.func 70) #[] #[], .func (.func 71) #[] #[], .func (.func 72) #[] #[], .func (.func 71) #[] #[], .func (.func 73) #[] #[], .func (.func 74) #[] #[], .func (.func 75) #[] #[], .func (.func 76) #[] #[], .func (.func 77) #[] #[]]
set_option maxHeartbeats 2000000 in
theorem instrs_any (w : World) : Calls Try.prog 60 #[] w fun e w' => e = .returned (.agg tabA) ∧ Below w.heap.size w w' := by
  have X1 := Lib.hid (Box.new w 84 #[.nilFunc, .nilFunc, .nilFunc, .nilFunc, .nilFunc, .nilFunc, .nilFunc, .nilFunc, .nilFunc, .nilFunc])
  have HB := Lib.hid ((Below.refl w.heap.size w).alloc (Nat.le_refl _) (.cells #[.nilFunc, .nilFunc, .nilFunc, .nilFunc, .nilFunc, .nilFunc, .nilFunc, .nilFunc, .nilFunc, .nilFunc] 84))
  go_enter Try.func60, Try.ntmps60
  go_wp2_with fail
  rw [store_fn (i := 0) (X1.out) (by decide) (.func 69)]
  simp only [Result.andThen_ok]
  rw [store_fn (i := 1) ((X1.out).put 0 (.func (.func 69) #[] #[])) (by decide) (.func 70)]
  simp only [Result.andThen_ok]
  rw [store_fn (i := 2) (((X1.out).put 0 (.func (.func 69) #[] #[])).put 1 (.func (.func 70) #[] #[])) (by decide) (.func 71)]
  simp only [Result.andThen_ok]
  rw [store_fn (i := 3) ((((X1.out).put 0 (.func (.func 69) #[] #[])).put 1 (.func (.func 70) #[] #[])).put 2 (.func (.func 71) #[] #[])) (by decide) (.func 72)]
  simp only [Result.andThen_ok]
  rw [store_fn (i := 4) (((((X1.out).put 0 (.func (.func 69) #[] #[])).put 1 (.func (.func 70) #[] #[])).put 2 (.func (.func 71) #[] #[])).put 3 (.func (.func 72) #[] #[])) (by decide) (.func 71)]
  simp only [Result.andThen_ok]
  rw [store_fn (i := 5) ((((((X1.out).put 0 (.func (.func 69) #[] #[])).put 1 (.func (.func 70) #[] #[])).put 2 (.func (.func 71) #[] #[])).put 3 (.func (.func 72) #[] #[])).put 4 (.func (.func 71) #[] #[])) (by decide) (.func 73)]
  simp only [Result.andThen_ok]
  rw [store_fn (i := 6) (((((((X1.out).put 0 (.func (.func 69) #[] #[])).put 1 (.func (.func 70) #[] #[])).put 2 (.func (.func 71) #[] #[])).put 3 (.func (.func 72) #[] #[])).put 4 (.func (.func 71) #[] #[])).put 5 (.func (.func 73) #[] #[])) (by decide) (.func 74)]
  simp only [Result.andThen_ok]
  rw [store_fn (i := 7) ((((((((X1.out).put 0 (.func (.func 69) #[] #[])).put 1 (.func (.func 70) #[] #[])).put 2 (.func (.func 71) #[] #[])).put 3 (.func (.func 72) #[] #[])).put 4 (.func (.func 71) #[] #[])).put 5 (.func (.func 73) #[] #[])).put 6 (.func (.func 74) #[] #[])) (by decide) (.func 75)]
  simp only [Result.andThen_ok]
  rw [store_fn (i := 8) (((((((((X1.out).put 0 (.func (.func 69) #[] #[])).put 1 (.func (.func 70) #[] #[])).put 2 (.func (.func 71) #[] #[])).put 3 (.func (.func 72) #[] #[])).put 4 (.func (.func 71) #[] #[])).put 5 (.func (.func 73) #[] #[])).put 6 (.func (.func 74) #[] #[])).put 7 (.func (.func 75) #[] #[])) (by decide) (.func 76)]
  simp only [Result.andThen_ok]
  rw [store_fn (i := 9) ((((((((((X1.out).put 0 (.func (.func 69) #[] #[])).put 1 (.func (.func 70) #[] #[])).put 2 (.func (.func 71) #[] #[])).put 3 (.func (.func 72) #[] #[])).put 4 (.func (.func 71) #[] #[])).put 5 (.func (.func 73) #[] #[])).put 6 (.func (.func 74) #[] #[])).put 7 (.func (.func 75) #[] #[])).put 8 (.func (.func 76) #[] #[])) (by decide) (.func 77)]
  simp only [Result.andThen_ok]
  go_wp2_with fail
  exact close_one Try.results60 rfl rfl (Box.new w 84 #[.func (.func 69) #[] #[], .func (.func 70) #[] #[], .func (.func 71) #[] #[], .func (.func 72) #[] #[], .func (.func 71) #[] #[], .func (.func 73) #[] #[], .func (.func 74) #[] #[], .func (.func 75) #[] #[], .func (.func 76) #[] #[], .func (.func 77) #[] #[]]) Try.underlying84 rfl (by kernel_rfl) ⟨rfl, (Below.refl _ _).alloc (Nat.le_refl _) _⟩
set_option maxHeartbeats 2000000 in
theorem atEnd_any (v : Value) (s : Sys) (w : World) (h : SysAt w v s) (t : Nat) (ht : t < s.th.length) (hp : t < s.pc.length) (h64 : t < 1000) : Calls Try.prog 48 #[v, .int .i64 (t : Int)] w fun e w' => e = .returned (.bool (endS s t)) ∧ Below w.heap.size w w' := by
  obtain ⟨A0, l0, c0, A1, l1, c1, A2, l2, c2, A3, l3, c3, A4, l4, c4, A5, l5, c5, rfl, s0, s1, s2, s3, s4, s5, h0, h1, h2, h3, h4, h5⟩ := h
  have hb := (Below.refl w.heap.size w).alloc (Nat.le_refl _) (.cells #[.slice A0 l0 c0, .slice A1 l1 c1, .slice A2 l2 c2, .slice A3 l3 c3, .slice A4 l4 c4, .slice A5 l5 c5] 26)
  have t0 : (t : Int) < (l0 : Int) := by have := h0.1; omega
  have t1 : (t : Int) < (l1 : Int) := by have := h1.1; omega
  obtain ⟨b0, o0, B, n, d, rfl, hb0, g0, -, hq⟩ := (Thr.below h0 hb).at t (by omega)
  obtain ⟨b1, o1, rfl, hb1, hc1⟩ := (h1.below hb).2.2 (by omega)
  have g1 := hc1 t (by omega)
  have HE := Lib.hid (show endS s t = (s.pc.getD t 0 == (n : Int)) by unfold endS; rw [hq.1])
  obtain ⟨x, hx⟩ : ∃ x, x = s.pc.getD t 0 := ⟨_, rfl⟩
  rw [← hx] at g1 HE
  clear hc1 hx hq hb
  have W2 := Lib.hid ((Below.refl w.heap.size w).alloc (Nat.le_refl _) (.cells #[.slice (some ⟨b0, o0, none⟩) l0 c0, .slice (some ⟨b1, o1, none⟩) l1 c1, .slice A2 l2 c2, .slice A3 l3 c3, .slice A4 l4 c4, .slice A5 l5 c5] 26))
  have Q0 := Lib.hid (Box.new w 26 #[.slice (some ⟨b0, o0, none⟩) l0 c0, .slice (some ⟨b1, o1, none⟩) l1 c1, .slice A2 l2 c2, .slice A3 l3 c3, .slice A4 l4 c4, .slice A5 l5 c5])
  obtain ⟨r0, r1, r2, r3, r4, r5⟩ := Q0.out.six
  clear h0 h1 h2 h3 h4 h5 s0 s1 s2 s3 s4 s5
  go_enter Try.func48, Try.ntmps48
  go_wp2_with fail
  go_region
  all_goals
    go_wp2_with fail
    go_ret
    exact ⟨by rw [HE.out]; rfl, W2.out.drew⟩
end Go.Proofs.Ytcamoigcfiemhaa
