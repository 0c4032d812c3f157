/- Layer 20: what each instruction does. -/
import Derived.Test.YtcamoigcfiemhaaScJ
import Derived.Test.YtcamoigcfiemhaaHTail
import Derived.Test.YtcamoigcfiemhaaShelf
import Derived.Lib.OwnBridge
import Derived.Deep.AppendLies
import Derived.Lib.SliceRun
import Derived.OwnWalk
namespace Go.Proofs.Ytcamoigcfiemhaa
set_option linter.unusedVariables false
set_option linter.unusedSimpArgs false
open Go.RowKit Go.Lib
set_option maxRecDepth 100000
/-- What an instruction leaves. -/
def DoesOut (M : Nat → Prop) (w : World) (v : Value) (s' : Sys) (e : Ending) (w' : World) : Prop :=
  e = .returned (.tuple #[]) ∧ ∃ N : Nat → Prop, OwnM N w' v s' ∧ FrM M w w' ∧ ∀ g, N g → M g ∨ (w.heap.size ≤ g ∧ g < w'.heap.size)
theorem set_len {f : List Int} {i : Nat} {x : Int} : (f.set i x).length = f.length := List.length_set ..
set_option maxHeartbeats 4000000 in
theorem lock_any (M : Nat → Prop) (v : Value) (s : Sys) (w : World) (h : OwnM M w v s) (t : Nat) (a : Nat) (nu : Int) (ha : a < 4) (hl : s.lo.length = 4) :
    Calls Try.prog 70 #[v, .int .i64 (t : Int), .agg #[.int .i64 0, .int .i64 (a : Int), .int .i64 nu]] w (DoesOut M w v { s with lo := s.lo.set a (t : Int) }) := by
  obtain ⟨A0, c0, A1, c1, A2, c2, A3, c3, A4, c4, A5, c5, rs0, rs5, rfl, P⟩ := h
  obtain ⟨g, rfl, -, -⟩ := own_addr P.lo (by omega)
  have hai : (a : Int) < (s.lo.length : Int) := by omega
  have hl4 : (s.lo.length : Int) ≤ 1000 := by omega
  have han : a < s.lo.length := by omega
  clear hl
  have hb2 : Below w.heap.size w ((w.alloc (.cells #[.slice A0 s.th.length c0, .slice A1 s.pc.length c1, .slice A2 s.su.length c2, .slice (some ⟨g, 0, none⟩) s.lo.length c3, .slice A4 s.ce.length c4, .slice A5 s.ch.length c5] 26)).alloc (.cells #[.int .i64 0, .int .i64 (a : Int), .int .i64 nu] 57)) := ((Below.refl w.heap.size w).alloc (Nat.le_refl _) _).alloc (by simp) _
  have q1 := Box.new (w.alloc (.cells #[.slice A0 s.th.length c0, .slice A1 s.pc.length c1, .slice A2 s.su.length c2, .slice (some ⟨g, 0, none⟩) s.lo.length c3, .slice A4 s.ce.length c4, .slice A5 s.ch.length c5] 26)) 57 #[.int .i64 0, .int .i64 (a : Int), .int .i64 nu]
  simp only [World.size_alloc] at q1
  have Q0 := Lib.hid ((Box.new w 26 #[.slice A0 s.th.length c0, .slice A1 s.pc.length c1, .slice A2 s.su.length c2, .slice (some ⟨g, 0, none⟩) s.lo.length c3, .slice A4 s.ce.length c4, .slice A5 s.ch.length c5]).alloc (.cells #[.int .i64 0, .int .i64 (a : Int), .int .i64 nu] 57))
  have Q1 := Lib.hid q1
  have P1 := Lib.hid (P.keepB hb2)
  have W2 := Lib.hid hb2
  clear q1 hb2
  obtain ⟨r0, r1, r2, r3, r4, r5⟩ := Q0.out.six
  obtain ⟨y0, y1, y2⟩ := Q1.out.three3
  have c := World.ownsRow.cellAt P1.out.lo a (by omega)
  have f := World.ownsRow.frozenAt P1.out.lo a
  rw [List.getElem?_map, show s.lo[a]? = some (s.lo.getD a 0) by rw [List.getD, List.getElem?_eq_getElem (by omega)]; rfl] at c
  replace c : ((w.alloc (.cells #[.slice A0 s.th.length c0, .slice A1 s.pc.length c1, .slice A2 s.su.length c2, .slice (some ⟨g, 0, none⟩) s.lo.length c3, .slice A4 s.ce.length c4, .slice A5 s.ch.length c5] 26)).alloc (.cells #[.int .i64 0, .int .i64 (a : Int), .int .i64 nu] 57)).cell? ⟨g, a, none⟩ = some (.int .i64 (s.lo.getD a 0)) := c
  have ST := Lib.hid (P1.out.set_lo a ((t : Int)))
  clear P
  go_enter Try.func70, Try.ntmps70
  go_wp2_with fail
  go_end0
  refine ⟨rfl, M, ⟨A0, c0, A1, c1, A2, c2, some ⟨g, 0, none⟩, c3, A4, c4, A5, c5, rs0, rs5, by simp only [List.length_set], ST.out.1⟩, (FrM.of W2.out).trans (FrM.grown ST.out.2.1 ST.out.2.2) (fun g h => .inl h), fun g h => .inl h⟩
set_option maxHeartbeats 4000000 in
theorem unlock_yes (M : Nat → Prop) (v : Value) (s : Sys) (w : World) (h : OwnM M w v s) (t : Nat) (a : Nat) (nu : Int) (ha : a < 4) (hl : s.lo.length = 4) (he : s.lo.getD a 0 = (t : Int)) :
    Calls Try.prog 72 #[v, .int .i64 (t : Int), .agg #[.int .i64 1, .int .i64 (a : Int), .int .i64 nu]] w (DoesOut M w v { s with lo := s.lo.set a (-1) }) := by
  obtain ⟨A0, c0, A1, c1, A2, c2, A3, c3, A4, c4, A5, c5, rs0, rs5, rfl, P⟩ := h
  obtain ⟨g, rfl, -, -⟩ := own_addr P.lo (by omega)
  have hai : (a : Int) < (s.lo.length : Int) := by omega
  have hl4 : (s.lo.length : Int) ≤ 1000 := by omega
  have han : a < s.lo.length := by omega
  clear hl
  have hb2 : Below w.heap.size w ((w.alloc (.cells #[.slice A0 s.th.length c0, .slice A1 s.pc.length c1, .slice A2 s.su.length c2, .slice (some ⟨g, 0, none⟩) s.lo.length c3, .slice A4 s.ce.length c4, .slice A5 s.ch.length c5] 26)).alloc (.cells #[.int .i64 1, .int .i64 (a : Int), .int .i64 nu] 57)) := ((Below.refl w.heap.size w).alloc (Nat.le_refl _) _).alloc (by simp) _
  have q1 := Box.new (w.alloc (.cells #[.slice A0 s.th.length c0, .slice A1 s.pc.length c1, .slice A2 s.su.length c2, .slice (some ⟨g, 0, none⟩) s.lo.length c3, .slice A4 s.ce.length c4, .slice A5 s.ch.length c5] 26)) 57 #[.int .i64 1, .int .i64 (a : Int), .int .i64 nu]
  simp only [World.size_alloc] at q1
  have Q0 := Lib.hid ((Box.new w 26 #[.slice A0 s.th.length c0, .slice A1 s.pc.length c1, .slice A2 s.su.length c2, .slice (some ⟨g, 0, none⟩) s.lo.length c3, .slice A4 s.ce.length c4, .slice A5 s.ch.length c5]).alloc (.cells #[.int .i64 1, .int .i64 (a : Int), .int .i64 nu] 57))
  have Q1 := Lib.hid q1
  have P1 := Lib.hid (P.keepB hb2)
  have W2 := Lib.hid hb2
  clear q1 hb2
  obtain ⟨r0, r1, r2, r3, r4, r5⟩ := Q0.out.six
  obtain ⟨y0, y1, y2⟩ := Q1.out.three3
  have c := World.ownsRow.cellAt P1.out.lo a (by omega)
  have f := World.ownsRow.frozenAt P1.out.lo a
  rw [List.getElem?_map, show s.lo[a]? = some (s.lo.getD a 0) by rw [List.getD, List.getElem?_eq_getElem (by omega)]; rfl] at c
  replace c : ((w.alloc (.cells #[.slice A0 s.th.length c0, .slice A1 s.pc.length c1, .slice A2 s.su.length c2, .slice (some ⟨g, 0, none⟩) s.lo.length c3, .slice A4 s.ce.length c4, .slice A5 s.ch.length c5] 26)).alloc (.cells #[.int .i64 1, .int .i64 (a : Int), .int .i64 nu] 57)).cell? ⟨g, a, none⟩ = some (.int .i64 (s.lo.getD a 0)) := c
  rw [he] at c
  have ST := Lib.hid (P1.out.set_lo a (-1))
  clear P
  go_enter Try.func72, Try.ntmps72
  go_wp2_with fail
  go_end0
  refine ⟨rfl, M, ⟨A0, c0, A1, c1, A2, c2, some ⟨g, 0, none⟩, c3, A4, c4, A5, c5, rs0, rs5, by simp only [List.length_set], ST.out.1⟩, (FrM.of W2.out).trans (FrM.grown ST.out.2.1 ST.out.2.2) (fun g h => .inl h), fun g h => .inl h⟩
set_option maxHeartbeats 4000000 in
theorem unlock_no (M : Nat → Prop) (v : Value) (s : Sys) (w : World) (h : OwnM M w v s) (t : Nat) (a : Nat) (nu : Int) (ha : a < 4) (hl : s.lo.length = 4) (he : ¬ s.lo.getD a 0 = (t : Int)) :
    Calls Try.prog 72 #[v, .int .i64 (t : Int), .agg #[.int .i64 1, .int .i64 (a : Int), .int .i64 nu]] w (DoesOut M w v s) := by
  obtain ⟨A0, c0, A1, c1, A2, c2, A3, c3, A4, c4, A5, c5, rs0, rs5, rfl, P⟩ := h
  obtain ⟨g, rfl, -, -⟩ := own_addr P.lo (by omega)
  have hai : (a : Int) < (s.lo.length : Int) := by omega
  have hl4 : (s.lo.length : Int) ≤ 1000 := by omega
  have han : a < s.lo.length := by omega
  clear hl
  have hb2 : Below w.heap.size w ((w.alloc (.cells #[.slice A0 s.th.length c0, .slice A1 s.pc.length c1, .slice A2 s.su.length c2, .slice (some ⟨g, 0, none⟩) s.lo.length c3, .slice A4 s.ce.length c4, .slice A5 s.ch.length c5] 26)).alloc (.cells #[.int .i64 1, .int .i64 (a : Int), .int .i64 nu] 57)) := ((Below.refl w.heap.size w).alloc (Nat.le_refl _) _).alloc (by simp) _
  have q1 := Box.new (w.alloc (.cells #[.slice A0 s.th.length c0, .slice A1 s.pc.length c1, .slice A2 s.su.length c2, .slice (some ⟨g, 0, none⟩) s.lo.length c3, .slice A4 s.ce.length c4, .slice A5 s.ch.length c5] 26)) 57 #[.int .i64 1, .int .i64 (a : Int), .int .i64 nu]
  simp only [World.size_alloc] at q1
  have Q0 := Lib.hid ((Box.new w 26 #[.slice A0 s.th.length c0, .slice A1 s.pc.length c1, .slice A2 s.su.length c2, .slice (some ⟨g, 0, none⟩) s.lo.length c3, .slice A4 s.ce.length c4, .slice A5 s.ch.length c5]).alloc (.cells #[.int .i64 1, .int .i64 (a : Int), .int .i64 nu] 57))
  have Q1 := Lib.hid q1
  have P1 := Lib.hid (P.keepB hb2)
  have W2 := Lib.hid hb2
  clear q1 hb2
  obtain ⟨r0, r1, r2, r3, r4, r5⟩ := Q0.out.six
  obtain ⟨y0, y1, y2⟩ := Q1.out.three3
  have c := World.ownsRow.cellAt P1.out.lo a (by omega)
  rw [List.getElem?_map, show s.lo[a]? = some (s.lo.getD a 0) by rw [List.getD, List.getElem?_eq_getElem (by omega)]; rfl] at c
  obtain ⟨x, hx⟩ : ∃ x, x = s.lo.getD a 0 := ⟨_, rfl⟩
  rw [← hx] at c he
  replace c : ((w.alloc (.cells #[.slice A0 s.th.length c0, .slice A1 s.pc.length c1, .slice A2 s.su.length c2, .slice (some ⟨g, 0, none⟩) s.lo.length c3, .slice A4 s.ce.length c4, .slice A5 s.ch.length c5] 26)).alloc (.cells #[.int .i64 1, .int .i64 (a : Int), .int .i64 nu] 57)).cell? ⟨g, a, none⟩ = some (.int .i64 x) := c
  have hbe : (x == (t : Int)) = false := by simpa using he
  clear P hx
  go_enter Try.func72, Try.ntmps72
  go_wp2_with fail
  go_end0
  refine ⟨rfl, M, ⟨A0, c0, A1, c1, A2, c2, some ⟨g, 0, none⟩, c3, A4, c4, A5, c5, rs0, rs5, rfl, P1.out⟩, FrM.of W2.out, fun g h => .inl h⟩
set_option maxHeartbeats 4000000 in
theorem add_any (M : Nat → Prop) (v : Value) (s : Sys) (w : World) (h : OwnM M w v s) (t : Nat) (a : Nat) (nu : Int) (ha : a < 4) (hl : s.ce.length = 4) (hx : -4611686018427387904 < s.ce.getD a 0 ∧ s.ce.getD a 0 < 4611686018427387904) (hn : -1000 ≤ nu ∧ nu ≤ 1000) :
    Calls Try.prog 73 #[v, .int .i64 (t : Int), .agg #[.int .i64 2, .int .i64 (a : Int), .int .i64 nu]] w (DoesOut M w v { s with ce := s.ce.set a (s.ce.getD a 0 + nu) }) := by
  obtain ⟨A0, c0, A1, c1, A2, c2, A3, c3, A4, c4, A5, c5, rs0, rs5, rfl, P⟩ := h
  obtain ⟨g, rfl, -, -⟩ := own_addr P.ce (by omega)
  have hai : (a : Int) < (s.ce.length : Int) := by omega
  have hl4 : (s.ce.length : Int) ≤ 1000 := by omega
  have han : a < s.ce.length := by omega
  clear hl
  have hb2 : Below w.heap.size w ((w.alloc (.cells #[.slice A0 s.th.length c0, .slice A1 s.pc.length c1, .slice A2 s.su.length c2, .slice A3 s.lo.length c3, .slice (some ⟨g, 0, none⟩) s.ce.length c4, .slice A5 s.ch.length c5] 26)).alloc (.cells #[.int .i64 2, .int .i64 (a : Int), .int .i64 nu] 57)) := ((Below.refl w.heap.size w).alloc (Nat.le_refl _) _).alloc (by simp) _
  have q1 := Box.new (w.alloc (.cells #[.slice A0 s.th.length c0, .slice A1 s.pc.length c1, .slice A2 s.su.length c2, .slice A3 s.lo.length c3, .slice (some ⟨g, 0, none⟩) s.ce.length c4, .slice A5 s.ch.length c5] 26)) 57 #[.int .i64 2, .int .i64 (a : Int), .int .i64 nu]
  simp only [World.size_alloc] at q1
  have Q0 := Lib.hid ((Box.new w 26 #[.slice A0 s.th.length c0, .slice A1 s.pc.length c1, .slice A2 s.su.length c2, .slice A3 s.lo.length c3, .slice (some ⟨g, 0, none⟩) s.ce.length c4, .slice A5 s.ch.length c5]).alloc (.cells #[.int .i64 2, .int .i64 (a : Int), .int .i64 nu] 57))
  have Q1 := Lib.hid q1
  have P1 := Lib.hid (P.keepB hb2)
  have W2 := Lib.hid hb2
  clear q1 hb2
  obtain ⟨r0, r1, r2, r3, r4, r5⟩ := Q0.out.six
  obtain ⟨y0, y1, y2⟩ := Q1.out.three3
  have c := World.ownsRow.cellAt P1.out.ce a (by omega)
  have f := World.ownsRow.frozenAt P1.out.ce a
  rw [List.getElem?_map, show s.ce[a]? = some (s.ce.getD a 0) by rw [List.getD, List.getElem?_eq_getElem (by omega)]; rfl] at c
  replace c : ((w.alloc (.cells #[.slice A0 s.th.length c0, .slice A1 s.pc.length c1, .slice A2 s.su.length c2, .slice A3 s.lo.length c3, .slice (some ⟨g, 0, none⟩) s.ce.length c4, .slice A5 s.ch.length c5] 26)).alloc (.cells #[.int .i64 2, .int .i64 (a : Int), .int .i64 nu] 57)).cell? ⟨g, a, none⟩ = some (.int .i64 (s.ce.getD a 0)) := c
  obtain ⟨x, hxe⟩ : ∃ x, x = s.ce.getD a 0 := ⟨_, rfl⟩
  rw [← hxe] at c hx
  rw [← hxe]
  have hwx : IntKind.i64.wrap (x + nu) = x + nu := IntWalk.i64_in _ (by omega)
  clear hxe
  have ST := Lib.hid (P1.out.set_ce a (x + nu))
  clear P
  go_enter Try.func73, Try.ntmps73
  go_wp2_with fail
  have PD := Lib.hid (ST.out.1.keepB ((Below.refl _ _).drew))
  have FD := Lib.hid (((FrM.of W2.out).trans (FrM.grown ST.out.2.1 ST.out.2.2) (fun g h => .inl h)).trans (FrM.of (M := M) ((Below.refl _ _).drew)) (fun g h => .inl h))
  go_region
  all_goals
    go_end0
    refine ⟨rfl, M, ⟨A0, c0, A1, c1, A2, c2, A3, c3, some ⟨g, 0, none⟩, c4, A5, c5, rs0, rs5, by simp only [List.length_set], PD.out⟩, FD.out, fun g h => .inl h⟩
theorem FrM.grownO {M : Nat → Prop} {w w' : World} {r : Option Nat} (h : w.grownBy w' r) (hr : ∀ g, r = some g → M g) : FrM M w w' := ⟨h.os, h.tape, h.output, h.size, fun k hk hn => h.block k hk (fun e => hn (hr k e.symm))⟩
set_option maxHeartbeats 4000000 in
theorem send_any (M : Nat → Prop) (v : Value) (s : Sys) (w : World) (h : OwnM M w v s) (t : Nat) (a : Nat) (nu : Int) (ha : a < 4) (hl : s.ch.length = 4) (HLN : (s.ch.getD a []).length ≤ 2) (hnu : -1000 ≤ nu ∧ nu ≤ 1000) :
    Calls Try.prog 75 #[v, .int .i64 (t : Int), .agg #[.int .i64 3, .int .i64 (a : Int), .int .i64 nu]] w (DoesOut M w v { s with ch := s.ch.set a (s.ch.getD a [] ++ [nu]) }) := by
  obtain ⟨A0, c0, A1, c1, A2, c2, A3, c3, A4, c4, A5, c5, rs0, rs5, rfl, P⟩ := h
  obtain ⟨g, rfl, -, -⟩ := own_addr P.ch.2.1 (by omega)
  have hai : (a : Int) < (s.ch.length : Int) := by omega
  have hl4 : (s.ch.length : Int) ≤ 1000 := by omega
  have han : a < s.ch.length := by omega
  clear hl
  have hb2 : Below w.heap.size w ((w.alloc (.cells #[.slice A0 s.th.length c0, .slice A1 s.pc.length c1, .slice A2 s.su.length c2, .slice A3 s.lo.length c3, .slice A4 s.ce.length c4, .slice (some ⟨g, 0, none⟩) s.ch.length c5] 26)).alloc (.cells #[.int .i64 3, .int .i64 (a : Int), .int .i64 nu] 57)) := ((Below.refl w.heap.size w).alloc (Nat.le_refl _) _).alloc (by simp) _
  have q1 := Box.new (w.alloc (.cells #[.slice A0 s.th.length c0, .slice A1 s.pc.length c1, .slice A2 s.su.length c2, .slice A3 s.lo.length c3, .slice A4 s.ce.length c4, .slice (some ⟨g, 0, none⟩) s.ch.length c5] 26)) 57 #[.int .i64 3, .int .i64 (a : Int), .int .i64 nu]
  simp only [World.size_alloc] at q1
  have Q0 := Lib.hid ((Box.new w 26 #[.slice A0 s.th.length c0, .slice A1 s.pc.length c1, .slice A2 s.su.length c2, .slice A3 s.lo.length c3, .slice A4 s.ce.length c4, .slice (some ⟨g, 0, none⟩) s.ch.length c5]).alloc (.cells #[.int .i64 3, .int .i64 (a : Int), .int .i64 nu] 57))
  have Q1 := Lib.hid q1
  have P1 := Lib.hid (P.keepB hb2)
  have W2 := Lib.hid hb2
  clear q1 hb2
  obtain ⟨r0, r1, r2, r3, r4, r5⟩ := Q0.out.six
  obtain ⟨y0, y1, y2⟩ := Q1.out.three3
  have cc := World.ownsRow.cellAt P1.out.ch.2.1 a (by omega)
  have ff := World.ownsRow.frozenAt P1.out.ch.2.1 a
  rw [map_slV_at rs5 a (by rw [P1.out.ch.1]; exact han)] at cc
  have hr2 := (P1.out.ch.2.2.1 a han).1
  have hown := (P1.out.ch.2.2.1 a han).2
  have hmr := P1.out.mr a han
  obtain ⟨r, hre⟩ : ∃ r, r = rs5.getD a sl0 := ⟨_, rfl⟩
  obtain ⟨cl, hcl⟩ : ∃ cl, cl = s.ch.getD a [] := ⟨_, rfl⟩
  have HRe := Lib.hid hre
  have HCl := Lib.hid hcl
  rw [← hre] at cc hr2 hown hmr
  rw [← hcl] at hr2 hown HLN
  rw [← hcl]
  obtain ⟨B, n, d⟩ := r
  have hn : n = cl.length := hr2
  subst hn
  rw [encZ_map] at hown
  replace cc : ((w.alloc (.cells #[.slice A0 s.th.length c0, .slice A1 s.pc.length c1, .slice A2 s.su.length c2, .slice A3 s.lo.length c3, .slice A4 s.ce.length c4, .slice (some ⟨g, 0, none⟩) s.ch.length c5] 26)).alloc (.cells #[.int .i64 3, .int .i64 (a : Int), .int .i64 nu] 57)).cell? ⟨g, a, none⟩ = some (.slice B cl.length d) := cc
  obtain ⟨i0, hi, hz0, hz1, hz2⟩ := info_parts int_infoS
  have HI := Lib.hid hi
  have HZ0 := Lib.hid hz0
  have HZ1 := Lib.hid hz1
  have HZ2 := Lib.hid hz2
  have HLN2 := Lib.hid HLN
  have HMr := Lib.hid hmr
  have b3 : Below ((w.alloc (.cells #[.slice A0 s.th.length c0, .slice A1 s.pc.length c1, .slice A2 s.su.length c2, .slice A3 s.lo.length c3, .slice A4 s.ce.length c4, .slice (some ⟨g, 0, none⟩) s.ch.length c5] 26)).alloc (.cells #[.int .i64 3, .int .i64 (a : Int), .int .i64 nu] 57)).heap.size ((w.alloc (.cells #[.slice A0 s.th.length c0, .slice A1 s.pc.length c1, .slice A2 s.su.length c2, .slice A3 s.lo.length c3, .slice A4 s.ce.length c4, .slice (some ⟨g, 0, none⟩) s.ch.length c5] 26)).alloc (.cells #[.int .i64 3, .int .i64 (a : Int), .int .i64 nu] 57)) (((w.alloc (.cells #[.slice A0 s.th.length c0, .slice A1 s.pc.length c1, .slice A2 s.su.length c2, .slice A3 s.lo.length c3, .slice A4 s.ce.length c4, .slice (some ⟨g, 0, none⟩) s.ch.length c5] 26)).alloc (.cells #[.int .i64 3, .int .i64 (a : Int), .int .i64 nu] 57)).alloc (.cells #[.int .i64 nu] 3)).drew := ((Below.refl _ _).alloc (Nat.le_refl _) _).drew
  have B3 := Lib.hid b3
  have O3 := Lib.hid (own_keepB hown b3)
  have P3 := Lib.hid (P1.out.keepB b3)
  have NX := Box.new ((w.alloc (.cells #[.slice A0 s.th.length c0, .slice A1 s.pc.length c1, .slice A2 s.su.length c2, .slice A3 s.lo.length c3, .slice A4 s.ce.length c4, .slice (some ⟨g, 0, none⟩) s.ch.length c5] 26)).alloc (.cells #[.int .i64 3, .int .i64 (a : Int), .int .i64 nu] 57)) 3 #[.int .i64 nu]
  have NW := Lib.hid (show ∀ j u, ([.int .i64 nu] : List Value)[j]? = some u → (((w.alloc (.cells #[.slice A0 s.th.length c0, .slice A1 s.pc.length c1, .slice A2 s.su.length c2, .slice A3 s.lo.length c3, .slice A4 s.ce.length c4, .slice (some ⟨g, 0, none⟩) s.ch.length c5] 26)).alloc (.cells #[.int .i64 3, .int .i64 (a : Int), .int .i64 nu] 57)).alloc (.cells #[.int .i64 nu] 3)).drew.cell? ((⟨w.heap.size + 1 + 1, 0, none⟩ : Addr).add j) = some u from fun j u hu => by
    have := World.news_of_block (show Box _ ((w.alloc (.cells #[.slice A0 s.th.length c0, .slice A1 s.pc.length c1, .slice A2 s.su.length c2, .slice A3 s.lo.length c3, .slice A4 s.ce.length c4, .slice (some ⟨g, 0, none⟩) s.ch.length c5] 26)).alloc (.cells #[.int .i64 3, .int .i64 (a : Int), .int .i64 nu] 57)).heap.size 3 #[.int .i64 nu] from NX) j u (by simpa using hu)
    simpa using this)
  have Q3 := Lib.hid (Q0.out.keep b3)
  have Q4 := Lib.hid (Q1.out.keep b3)
  have NE3 := Lib.hid (own_ne O3.out Q3.out (by decide))
  have NE4 := Lib.hid (own_ne O3.out Q4.out (by decide))
  obtain ⟨r0', r1', r2', r3', r4', r5'⟩ := Q3.out.six
  obtain ⟨y0', y1', y2'⟩ := Q4.out.three3
  have cc' : (((w.alloc (.cells #[.slice A0 s.th.length c0, .slice A1 s.pc.length c1, .slice A2 s.su.length c2, .slice A3 s.lo.length c3, .slice A4 s.ce.length c4, .slice (some ⟨g, 0, none⟩) s.ch.length c5] 26)).alloc (.cells #[.int .i64 3, .int .i64 (a : Int), .int .i64 nu] 57)).alloc (.cells #[.int .i64 nu] 3)).cell? ⟨g, a, none⟩ = some (.slice B cl.length d) := (b3.cell (p := ⟨g, a, none⟩) (block_lt_of_cell cc)).trans cc
  have HS3 := Lib.hid (show w.heap.size ≤ (((w.alloc (.cells #[.slice A0 s.th.length c0, .slice A1 s.pc.length c1, .slice A2 s.su.length c2, .slice A3 s.lo.length c3, .slice A4 s.ce.length c4, .slice (some ⟨g, 0, none⟩) s.ch.length c5] 26)).alloc (.cells #[.int .i64 3, .int .i64 (a : Int), .int .i64 nu] 57)).alloc (.cells #[.int .i64 nu] 3)).drew.heap.size by show w.heap.size ≤ (((w.alloc (.cells #[.slice A0 s.th.length c0, .slice A1 s.pc.length c1, .slice A2 s.su.length c2, .slice A3 s.lo.length c3, .slice A4 s.ce.length c4, .slice (some ⟨g, 0, none⟩) s.ch.length c5] 26)).alloc (.cells #[.int .i64 3, .int .i64 (a : Int), .int .i64 nu] 57)).alloc _).heap.size; simp; omega)
  clear hi hz0 hz1 hz2 hown NX hre hcl hr2 hmr P b3 HLN
  go_enter Try.func75, Try.ntmps75
  go_wp2_with fail
  refine wp_held_tail (S := (fun (w' : World) => w'.cell? ⟨w.heap.size, 5, none⟩ = some (.slice (some ⟨g, 0, none⟩) s.ch.length c5) ∧ w'.cell? ⟨w.heap.size + 1, 1, none⟩ = some (.int .i64 (a : Int)) ∧ w'.cell? ⟨w.heap.size + 1, 2, none⟩ = some (.int .i64 nu) ∧ w'.cell? ⟨g, a, none⟩ = some (.slice B cl.length d))) 14 (by kernel_rfl) (by decide) ?_
  have hS : (fun (w' : World) => w'.cell? ⟨w.heap.size, 5, none⟩ = some (.slice (some ⟨g, 0, none⟩) s.ch.length c5) ∧ w'.cell? ⟨w.heap.size + 1, 1, none⟩ = some (.int .i64 (a : Int)) ∧ w'.cell? ⟨w.heap.size + 1, 2, none⟩ = some (.int .i64 nu) ∧ w'.cell? ⟨g, a, none⟩ = some (.slice B cl.length d)) ((w.alloc (.cells #[.slice A0 s.th.length c0, .slice A1 s.pc.length c1, .slice A2 s.su.length c2, .slice A3 s.lo.length c3, .slice A4 s.ce.length c4, .slice (some ⟨g, 0, none⟩) s.ch.length c5] 26)).alloc (.cells #[.int .i64 3, .int .i64 (a : Int), .int .i64 nu] 57)).drew := ⟨r5, y1, y2, cc⟩
  refine headH_take (i := 0) (v := ?_) rfl (by kernel_rfl) (fun _ _ _ h => h) (fun _ _ _ h => seqB_ready h.1) (Or.inl ⟨by rfl, ?hz1⟩) hS ?rst1
  case hz1 => intro w hSw; (try dsimp only at hSw); obtain ⟨hc0, hc1, hc2, hc3⟩ := hSw; go_simp; try (with_reducible rfl)
  case rst1 =>
  try simp only [Act.put, List.setIfInBounds_toArray, List.set_cons_zero, List.set_cons_succ]
  refine headH_take (i := 1) (v := ?_) rfl (by kernel_rfl) (fun _ _ _ h => h) (fun _ _ _ h => seqB_ready h.1) (Or.inl ⟨by rfl, ?hz2⟩) hS ?rst2
  case hz2 => intro w hSw; (try dsimp only at hSw); obtain ⟨hc0, hc1, hc2, hc3⟩ := hSw; go_simp; try (with_reducible rfl)
  case rst2 =>
  try simp only [Act.put, List.setIfInBounds_toArray, List.set_cons_zero, List.set_cons_succ]
  refine headH_take (i := 2) (v := ?_) rfl (by kernel_rfl) (fun _ _ _ h => h) (fun _ _ _ h => seqB_ready h.1) (Or.inl ⟨by rfl, ?hz3⟩) hS ?rst3
  case hz3 => intro w hSw; (try dsimp only at hSw); obtain ⟨hc0, hc1, hc2, hc3⟩ := hSw; go_simp; try (with_reducible rfl)
  case rst3 =>
  try simp only [Act.put, List.setIfInBounds_toArray, List.set_cons_zero, List.set_cons_succ]
  refine headH_take (i := 3) (v := ?_) rfl (by kernel_rfl) (fun _ _ _ h => h) (fun _ _ _ h => seqB_ready h.1) (Or.inl ⟨by rfl, ?hz4⟩) hS ?rst4
  case hz4 => intro w hSw; (try dsimp only at hSw); obtain ⟨hc0, hc1, hc2, hc3⟩ := hSw; go_simp; try (with_reducible rfl)
  case rst4 =>
  try simp only [Act.put, List.setIfInBounds_toArray, List.set_cons_zero, List.set_cons_succ]
  refine headH_take (i := 4) (v := ?_) rfl (by kernel_rfl) (fun _ _ _ h => h) (fun _ _ _ h => seqB_ready h.1) (Or.inl ⟨by rfl, ?hz5⟩) hS ?rst5
  case hz5 => intro w hSw; (try dsimp only at hSw); obtain ⟨hc0, hc1, hc2, hc3⟩ := hSw; go_simp; try (with_reducible rfl)
  case rst5 =>
  try simp only [Act.put, List.setIfInBounds_toArray, List.set_cons_zero, List.set_cons_succ]
  refine headH_take (i := 5) (v := ?_) rfl (by kernel_rfl) (fun _ _ _ h => h) (fun _ _ _ h => seqB_ready h.1) (Or.inl ⟨by rfl, ?hz6⟩) hS ?rst6
  case hz6 => intro w hSw; (try dsimp only at hSw); obtain ⟨hc0, hc1, hc2, hc3⟩ := hSw; go_simp; try (with_reducible rfl)
  case rst6 =>
  try simp only [Act.put, List.setIfInBounds_toArray, List.set_cons_zero, List.set_cons_succ]
  refine headH_take (i := 6) (v := ?_) rfl (by kernel_rfl) (fun _ _ _ h => h) (fun _ _ _ h => seqB_ready h.1) (Or.inl ⟨by rfl, ?hz7⟩) hS ?rst7
  case hz7 => intro w hSw; (try dsimp only at hSw); obtain ⟨hc0, hc1, hc2, hc3⟩ := hSw; go_simp; try (with_reducible rfl)
  case rst7 =>
  try simp only [Act.put, List.setIfInBounds_toArray, List.set_cons_zero, List.set_cons_succ]
  refine headH_take (i := 7) (v := ?_) rfl (by kernel_rfl) (fun _ _ _ h => h) (fun _ _ _ h => seqB_ready h.1) (Or.inl ⟨by rfl, ?hz8⟩) hS ?rst8
  case hz8 => intro w hSw; (try dsimp only at hSw); obtain ⟨hc0, hc1, hc2, hc3⟩ := hSw; go_simp; try (with_reducible rfl)
  case rst8 =>
  try simp only [Act.put, List.setIfInBounds_toArray, List.set_cons_zero, List.set_cons_succ]
  refine headH_take (i := 8) (v := ?_) rfl (by kernel_rfl) (fun _ _ _ h => h) (fun _ _ _ h => seqB_ready h.1) (Or.inl ⟨by rfl, ?hz9⟩) hS ?rst9
  case hz9 => intro w hSw; (try dsimp only at hSw); obtain ⟨hc0, hc1, hc2, hc3⟩ := hSw; go_simp; try (with_reducible rfl)
  case rst9 =>
  try simp only [Act.put, List.setIfInBounds_toArray, List.set_cons_zero, List.set_cons_succ]
  refine headH_take (i := 9) (v := ?_) rfl (by kernel_rfl) (fun _ _ _ h => h) (fun _ _ _ h => seqB_ready h.1) (Or.inl ⟨by rfl, ?hz10⟩) hS ?rst10
  case hz10 => intro w hSw; (try dsimp only at hSw); obtain ⟨hc0, hc1, hc2, hc3⟩ := hSw; go_simp; try (with_reducible rfl)
  case rst10 =>
  try simp only [Act.put, List.setIfInBounds_toArray, List.set_cons_zero, List.set_cons_succ]
  refine headH_take (i := 10) (v := ?_) rfl (by kernel_rfl) (fun _ _ _ h => h) (fun _ _ _ h => seqB_ready h.1) (Or.inl ⟨by rfl, ?hz11⟩) hS ?rst11
  case hz11 => intro w hSw; (try dsimp only at hSw); obtain ⟨hc0, hc1, hc2, hc3⟩ := hSw; go_simp; try (with_reducible rfl)
  case rst11 =>
  try simp only [Act.put, List.setIfInBounds_toArray, List.set_cons_zero, List.set_cons_succ]
  refine headH_take (i := 11) (v := ?_) rfl (by kernel_rfl) (fun _ _ _ h => h) (fun _ _ _ h => seqB_ready h.1) (Or.inl ⟨by rfl, ?hz12⟩) hS ?rst12
  case hz12 => intro w hSw; (try dsimp only at hSw); obtain ⟨hc0, hc1, hc2, hc3⟩ := hSw; go_simp; try (with_reducible rfl)
  case rst12 =>
  try simp only [Act.put, List.setIfInBounds_toArray, List.set_cons_zero, List.set_cons_succ]
  refine headH_one (i := 12) (by kernel_rfl) rfl (fun K hK => ?_)
  go_simp
  refine hK.out _ _ (show (fun (w' : World) => w'.cell? ⟨w.heap.size, 5, none⟩ = some (.slice (some ⟨g, 0, none⟩) s.ch.length c5) ∧ w'.cell? ⟨w.heap.size + 1, 1, none⟩ = some (.int .i64 (a : Int)) ∧ w'.cell? ⟨w.heap.size + 1, 2, none⟩ = some (.int .i64 nu) ∧ w'.cell? ⟨g, a, none⟩ = some (.slice B cl.length d)) (((w.alloc (.cells #[.slice A0 s.th.length c0, .slice A1 s.pc.length c1, .slice A2 s.su.length c2, .slice A3 s.lo.length c3, .slice A4 s.ce.length c4, .slice (some ⟨g, 0, none⟩) s.ch.length c5] 26)).alloc (.cells #[.int .i64 3, .int .i64 (a : Int), .int .i64 nu] 57)).alloc (.cells #[.int .i64 nu] 3)).drew from ⟨r5', y1', y2', cc'⟩) (fun hS => ?_)
  clear hK K
  try simp only [Act.put, List.setIfInBounds_toArray, List.set_cons_zero, List.set_cons_succ]
  refine headH_one (i := 13) (by kernel_rfl) rfl (fun K hK => ?_)
  refine step_append_lies _ rfl (.tmp 15) (.tmp 18) 23 rfl 0 3 i0 (.int .i64 0) 1 8 Try.underlying23 HI.out HZ0.out HZ1.out HZ2.out rfl (by decide) (.slice B cl.length d) cl.length (cl.map (Value.int .i64)) (by simp [Act.eval, Act.put]) O3.out ⟨w.heap.size + 1 + 1, 0, none⟩ 1 1 [.int .i64 nu] (by simp [Act.eval, Act.put]) rfl NW.out (by simp [Value.oneCell']) (by omega) (by have := HLN2.out; simp [maxLen]; omega) (by have := HLN2.out; omega) (Nat.zero_le _) _ rfl ?_
  intro g9 cap w1 hown hgrow hat hlt
  have HO2 := Lib.hid hown
  have HGr := Lib.hid hgrow
  have HAt := Lib.hid hat
  have HLt := Lib.hid hlt
  have KO := World.ownsRow.kept P3.out.ch.2.1 hgrow (by rcases Classical.em ((Value.slice (some ⟨g, 0, none⟩) s.ch.length c5).ownBlock = (Value.slice B cl.length d).ownBlock) with e | e; exact absurd e (fun e => nosh_types P3.out.ch.2.1 O3.out (by decide) g rfl e.symm); exact .inr e)
  have z0 := World.ownsRow.cellAt KO a (by omega)
  have z1 := World.ownsRow.frozenAt KO a
  rw [map_slV_at rs5 a (by rw [P3.out.ch.1]; exact han), ← HRe.out] at z0
  replace z0 : w1.cell? ⟨g, a, none⟩ = some (.slice B cl.length d) := z0
  obtain ⟨v0, v1, v2, v3, v4, v5⟩ := (Box.grown Q3.out hgrow NE3.out).six
  obtain ⟨x0, x1, x2⟩ := (Box.grown Q4.out hgrow NE4.out).three3
  clear hown hgrow hat hlt KO
  refine hK.out _ _ (show (fun (w' : World) => w'.cell? ⟨w.heap.size, 5, none⟩ = some (.slice (some ⟨g, 0, none⟩) s.ch.length c5) ∧ w'.cell? ⟨w.heap.size + 1, 1, none⟩ = some (.int .i64 (a : Int)) ∧ w'.cell? ⟨w.heap.size + 1, 2, none⟩ = some (.int .i64 nu) ∧ w'.cell? ⟨g, a, none⟩ = some (.slice B cl.length d)) w1 from ⟨v5, x1, x2, z0⟩) (fun hS => ?_)
  clear hK K
  try simp only [Act.put, List.setIfInBounds_toArray, List.set_cons_zero, List.set_cons_succ]
  refine ⟨by kernel_rfl, ?_⟩
  go_wp2_with fail
  · have HO9 := HO2.out
    have hN : InM (fun k => M k ∨ (w.heap.size ≤ k ∧ k < w1.heap.size)) (slV (some ⟨g9, 0, none⟩, cl.length + 1, cap)) := fun k hk => by
      have hk : some g9 = some k := hk
      injection hk with hk
      subst hk
      rcases HAt.out with e | e
      · exact .inl (HMr.out _ e)
      · exact .inr ⟨by rw [e]; exact HS3.out, HLt.out⟩
    have PF := P3.out.set_ch (N := fun k => M k ∨ (w.heap.size ≤ k ∧ k < w1.heap.size)) han (some ⟨g9, 0, none⟩, cl.length + 1, cap) (cl ++ [nu]) (by simp) (by rw [← HRe.out]; exact HGr.out) (by rw [List.length_append, List.map_append]; exact HO9) (fun k hk => by
      have hk : some g9 = some k := hk
      injection hk with hk
      subst hk
      rw [← HRe.out]
      rcases HAt.out with e | e
      · exact .inl e
      · exact .inr (by rw [e]; exact Nat.le_refl _)) (fun k h => .inl h) hN
    have FF := (((FrM.of (W2.out.trans (B3.out.mono W2.out.size))).trans (FrM.grownO (M := M) HGr.out (fun k e => HMr.out k e)) (fun k h => .inl h)).trans (FrM.grown (M := M) (grown_set w1 g a (.slice (some ⟨g9, 0, none⟩) (cl.length + 1) cap)) (P3.out.m5 g rfl)) (fun k h => .inl h))
    go_end0
    refine ⟨rfl, _, ⟨A0, c0, A1, c1, A2, c2, A3, c3, A4, c4, some ⟨g, 0, none⟩, c5, rs0, _, by simp only [List.length_set], PF⟩, FF, fun k hk => ?_⟩
    rcases hk with h | ⟨h1, h2⟩
    · exact .inl h
    · exact .inr ⟨h1, by simpa [World.setCell] using h2⟩
theorem delete_any {w : World} {g n cap : Nat} {zs : List Int} (h : w.ownsRow 0 3 1 (.slice (some ⟨g, 0, none⟩) n cap) n (zs.map (Value.int .i64))) (hn : 0 < n) :
    Calls Try.prog 79 #[.slice (some ⟨g, 0, none⟩) n cap, .int .i64 0, .int .i64 1] w fun e w' => e = .returned (.slice (some ⟨g, 0, none⟩) (n - 1) cap) ∧ w'.ownsRow 0 3 1 (.slice (some ⟨g, 0, none⟩) (n - 1) cap) (n - 1) ((zs.drop 1).map (Value.int .i64)) ∧ w.grownBy w' (some g) := by
  have hl : zs.length = n := by have := h.1; simpa using this
  obtain ⟨-, hcap, hm⟩ : True ∧ n ≤ cap ∧ cap ≤ maxLen := ⟨trivial, (own_cap h).1, (own_cap h).2.1⟩
  have hH : Go.Sort.Holds (Value.int .i64) w g 0 zs.toArray := by
    intro j hj
    have hj' : j < zs.length := by simpa using hj
    have c := World.ownsRow.cellAt h j (by omega)
    have f := World.ownsRow.frozenAt h j
    rw [Nat.zero_add, c, f, List.getElem?_map, List.getElem?_eq_getElem hj']
    simp [getElem!_pos, hj']
  have hc := Try.slices_Delete_int g 0 cap 0 1 zs w hH (by omega) (by unfold maxLen at hm; omega) (by omega) (by omega)
  rw [hl] at hc
  refine hc.mono ?_
  rintro e w' ⟨rfl, q, rfl⟩
  refine ⟨rfl, ?_, ?_⟩
  · have := ownsRow_putRow (q := q) (k := n - 1) (ys := zs.take 0 ++ zs.drop 1 ++ List.replicate (1 - 0) 0) h (by simp; omega) (by omega)
    have e1 : (zs.take 0 ++ zs.drop 1 ++ List.replicate (1 - 0) (0 : Int)).take (n - 1) = zs.drop 1 := by
      rw [List.take_zero, List.nil_append, List.take_append_of_le_length (by simp; omega), List.take_of_length_le (by simp; omega)]
    rw [e1] at this
    exact this
  · refine ⟨rfl, rfl, rfl, by simp [Go.Sort.putRow, Go.Sort.mapBlock, Go.Sort.ahead], fun k hk hne => ?_⟩
    simp [Go.Sort.putRow, Go.Sort.mapBlock, Go.Sort.ahead, Array.getElem?_modify, show g ≠ k from fun e => hne (by rw [e])]
set_option maxHeartbeats 4000000 in
theorem receive_any (M : Nat → Prop) (v : Value) (s : Sys) (w : World) (h : OwnM M w v s) (t : Nat) (a : Nat) (nu : Int) (ht : t < s.su.length) (h8 : s.su.length ≤ 8) (ha : a < 4) (hl : s.ch.length = 4) (HLN : (s.ch.getD a []).length ≤ 2) (HN : 0 < (s.ch.getD a []).length) (hb1 : -4611686018427387904 < s.su.getD t 0 ∧ s.su.getD t 0 < 4611686018427387904) (hb2 : -1073741824 < (s.ch.getD a []).getD 0 0 ∧ (s.ch.getD a []).getD 0 0 < 1073741824) :
    Calls Try.prog 77 #[v, .int .i64 (t : Int), .agg #[.int .i64 4, .int .i64 (a : Int), .int .i64 nu]] w (DoesOut M w v { s with su := s.su.set t (s.su.getD t 0 + (s.ch.getD a []).getD 0 0), ch := s.ch.set a ((s.ch.getD a []).drop 1) }) := by
  obtain ⟨A0, c0, A1, c1, A2, c2, A3, c3, A4, c4, A5, c5, rs0, rs5, rfl, P⟩ := h
  obtain ⟨g, rfl, -, -⟩ := own_addr P.ch.2.1 (by omega)
  have hai : (a : Int) < (s.ch.length : Int) := by omega
  have hl4 : (s.ch.length : Int) ≤ 1000 := by omega
  have han : a < s.ch.length := by omega
  clear hl
  obtain ⟨g2, rfl, -, -⟩ := own_addr P.su (by omega)
  have hsi : (t : Int) < (s.su.length : Int) := by omega
  have hb2 : Below w.heap.size w ((w.alloc (.cells #[.slice A0 s.th.length c0, .slice A1 s.pc.length c1, .slice (some ⟨g2, 0, none⟩) s.su.length c2, .slice A3 s.lo.length c3, .slice A4 s.ce.length c4, .slice (some ⟨g, 0, none⟩) s.ch.length c5] 26)).alloc (.cells #[.int .i64 4, .int .i64 (a : Int), .int .i64 nu] 57)) := ((Below.refl w.heap.size w).alloc (Nat.le_refl _) _).alloc (by simp) _
  have q1 := Box.new (w.alloc (.cells #[.slice A0 s.th.length c0, .slice A1 s.pc.length c1, .slice (some ⟨g2, 0, none⟩) s.su.length c2, .slice A3 s.lo.length c3, .slice A4 s.ce.length c4, .slice (some ⟨g, 0, none⟩) s.ch.length c5] 26)) 57 #[.int .i64 4, .int .i64 (a : Int), .int .i64 nu]
  simp only [World.size_alloc] at q1
  have Q0 := Lib.hid ((Box.new w 26 #[.slice A0 s.th.length c0, .slice A1 s.pc.length c1, .slice (some ⟨g2, 0, none⟩) s.su.length c2, .slice A3 s.lo.length c3, .slice A4 s.ce.length c4, .slice (some ⟨g, 0, none⟩) s.ch.length c5]).alloc (.cells #[.int .i64 4, .int .i64 (a : Int), .int .i64 nu] 57))
  have Q1 := Lib.hid q1
  have P1 := Lib.hid (P.keepB hb2)
  have W2 := Lib.hid hb2
  clear q1 hb2
  obtain ⟨r0, r1, r2, r3, r4, r5⟩ := Q0.out.six
  obtain ⟨y0, y1, y2⟩ := Q1.out.three3
  have cc := World.ownsRow.cellAt P1.out.ch.2.1 a (by omega)
  have ff := World.ownsRow.frozenAt P1.out.ch.2.1 a
  rw [map_slV_at rs5 a (by rw [P1.out.ch.1]; exact han)] at cc
  have hr2 := (P1.out.ch.2.2.1 a han).1
  have hown := (P1.out.ch.2.2.1 a han).2
  have hmr := P1.out.mr a han
  obtain ⟨r, hre⟩ : ∃ r, r = rs5.getD a sl0 := ⟨_, rfl⟩
  obtain ⟨cl, hcl⟩ : ∃ cl, cl = s.ch.getD a [] := ⟨_, rfl⟩
  have HRe := Lib.hid hre
  have HCl := Lib.hid hcl
  rw [← hre] at cc hr2 hown hmr
  rw [← hcl] at hr2 hown HLN HN hb2
  rw [← hcl]
  obtain ⟨B, n, d⟩ := r
  have hn : n = cl.length := hr2
  subst hn
  rw [encZ_map] at hown
  obtain ⟨gc, rfl, -, -⟩ := own_addr hown HN
  replace cc : ((w.alloc (.cells #[.slice A0 s.th.length c0, .slice A1 s.pc.length c1, .slice (some ⟨g2, 0, none⟩) s.su.length c2, .slice A3 s.lo.length c3, .slice A4 s.ce.length c4, .slice (some ⟨g, 0, none⟩) s.ch.length c5] 26)).alloc (.cells #[.int .i64 4, .int .i64 (a : Int), .int .i64 nu] 57)).cell? ⟨g, a, none⟩ = some (.slice (some ⟨gc, 0, none⟩) cl.length d) := cc
  have cs := World.ownsRow.cellAt P1.out.su t (by omega)
  have fs := World.ownsRow.frozenAt P1.out.su t
  rw [List.getElem?_map, show s.su[t]? = some (s.su.getD t 0) by rw [List.getD, List.getElem?_eq_getElem ht]; rfl] at cs
  replace cs : ((w.alloc (.cells #[.slice A0 s.th.length c0, .slice A1 s.pc.length c1, .slice (some ⟨g2, 0, none⟩) s.su.length c2, .slice A3 s.lo.length c3, .slice A4 s.ce.length c4, .slice (some ⟨g, 0, none⟩) s.ch.length c5] 26)).alloc (.cells #[.int .i64 4, .int .i64 (a : Int), .int .i64 nu] 57)).cell? ⟨g2, t, none⟩ = some (.int .i64 (s.su.getD t 0)) := cs
  have cq := World.ownsRow.cellAt hown 0 (by omega)
  rw [List.getElem?_map, show cl[0]? = some (cl.getD 0 0) by rw [List.getD, List.getElem?_eq_getElem HN]; rfl] at cq
  replace cq : ((w.alloc (.cells #[.slice A0 s.th.length c0, .slice A1 s.pc.length c1, .slice (some ⟨g2, 0, none⟩) s.su.length c2, .slice A3 s.lo.length c3, .slice A4 s.ce.length c4, .slice (some ⟨g, 0, none⟩) s.ch.length c5] 26)).alloc (.cells #[.int .i64 4, .int .i64 (a : Int), .int .i64 nu] 57)).cell? ⟨gc, 0, none⟩ = some (.int .i64 (cl.getD 0 0)) := cq
  obtain ⟨x, hx⟩ : ∃ x, x = s.su.getD t 0 := ⟨_, rfl⟩
  obtain ⟨y, hy⟩ : ∃ y, y = cl.getD 0 0 := ⟨_, rfl⟩
  rw [← hx] at cs hb1
  rw [← hy] at cq hb2
  rw [← hx, ← hy]
  have hwx : IntKind.i64.wrap (x + y) = x + y := IntWalk.i64_in _ (by omega)
  have HMr := Lib.hid hmr
  have HN0 := Lib.hid HN
  have hn0 : (0 : Int) < (cl.length : Int) := by omega
  have P2 := P1.out.set_su t (x + y)
  have b3 : Below (((w.alloc (.cells #[.slice A0 s.th.length c0, .slice A1 s.pc.length c1, .slice (some ⟨g2, 0, none⟩) s.su.length c2, .slice A3 s.lo.length c3, .slice A4 s.ce.length c4, .slice (some ⟨g, 0, none⟩) s.ch.length c5] 26)).alloc (.cells #[.int .i64 4, .int .i64 (a : Int), .int .i64 nu] 57)).setCell ⟨g2, t, none⟩ (.int .i64 (x + y))).heap.size (((w.alloc (.cells #[.slice A0 s.th.length c0, .slice A1 s.pc.length c1, .slice (some ⟨g2, 0, none⟩) s.su.length c2, .slice A3 s.lo.length c3, .slice A4 s.ce.length c4, .slice (some ⟨g, 0, none⟩) s.ch.length c5] 26)).alloc (.cells #[.int .i64 4, .int .i64 (a : Int), .int .i64 nu] 57)).setCell ⟨g2, t, none⟩ (.int .i64 (x + y))) (((w.alloc (.cells #[.slice A0 s.th.length c0, .slice A1 s.pc.length c1, .slice (some ⟨g2, 0, none⟩) s.su.length c2, .slice A3 s.lo.length c3, .slice A4 s.ce.length c4, .slice (some ⟨g, 0, none⟩) s.ch.length c5] 26)).alloc (.cells #[.int .i64 4, .int .i64 (a : Int), .int .i64 nu] 57)).setCell ⟨g2, t, none⟩ (.int .i64 (x + y))).drew := (Below.refl _ _).drew
  have PD := Lib.hid (P2.1.keepB b3)
  have FD := Lib.hid (((FrM.of W2.out).trans (FrM.grown P2.2.1 P2.2.2) (fun g h => .inl h)).trans (FrM.of (M := M) b3) (fun g h => .inl h))
  have n0 := own_ne P1.out.su Q0.out (by decide)
  have n1 := own_ne P1.out.su Q1.out (by decide)
  have Q3 := Lib.hid (Box.keep (Box.grown Q0.out P2.2.1 (fun e => n0 e)) b3)
  have Q4 := Lib.hid (Box.keep (Box.grown Q1.out P2.2.1 (fun e => n1 e)) b3)
  have hown3 := (PD.out.ch.2.2.1 a han).2
  rw [← HRe.out] at hown3
  have e9 : ({ s with su := s.su.set t (x + y) } : Sys).ch.getD a [] = cl := HCl.out.symm
  rw [e9, encZ_map] at hown3
  have HO3 := Lib.hid (show World.ownsRow _ 0 3 1 (.slice (some ⟨gc, 0, none⟩) cl.length d) cl.length (cl.map (Value.int .i64)) from hown3)
  have NE3 := Lib.hid (own_ne HO3.out Q3.out (by decide))
  have NE4 := Lib.hid (own_ne HO3.out Q4.out (by decide))
  clear hown hre hcl hr2 hmr P HLN hx hy hb1 hb2 HN P2 n0 n1 hown3 e9 ht h8
  go_enter Try.func77, Try.ntmps77
  go_wp2_with fail
  go_region
  all_goals
    clear hwx cs fs cq r0 r1 r2 r3 r4 r5 y0 y1 y2 cc b3
    have hw3 : ∃ w3, w3 = (((w.alloc (.cells #[.slice A0 s.th.length c0, .slice A1 s.pc.length c1, .slice (some ⟨g2, 0, none⟩) s.su.length c2, .slice A3 s.lo.length c3, .slice A4 s.ce.length c4, .slice (some ⟨g, 0, none⟩) s.ch.length c5] 26)).alloc (.cells #[.int .i64 4, .int .i64 (a : Int), .int .i64 nu] 57)).setCell ⟨g2, t, none⟩ (.int .i64 (x + y))).drew := ⟨_, rfl⟩
    obtain ⟨r0, r1, r2, r3, r4, r5⟩ := Q3.out.six
    obtain ⟨y0, y1, y2⟩ := Q4.out.three3
    have cc := World.ownsRow.cellAt PD.out.ch.2.1 a (by show a < s.ch.length * 1; omega)
    rw [map_slV_at rs5 a (by rw [P1.out.ch.1]; exact han), ← HRe.out] at cc
    generalize (((w.alloc (.cells #[.slice A0 s.th.length c0, .slice A1 s.pc.length c1, .slice (some ⟨g2, 0, none⟩) s.su.length c2, .slice A3 s.lo.length c3, .slice A4 s.ce.length c4, .slice (some ⟨g, 0, none⟩) s.ch.length c5] 26)).alloc (.cells #[.int .i64 4, .int .i64 (a : Int), .int .i64 nu] 57)).setCell ⟨g2, t, none⟩ (.int .i64 (x + y))).drew = w3 at *
    replace cc : w3.cell? ⟨g, a, none⟩ = some (.slice (some ⟨gc, 0, none⟩) cl.length d) := cc
    clear hw3
    have b4 : Below w3.heap.size w3 w3.drew := (Below.refl _ _).drew
    replace PD := Lib.hid (PD.out.keepB b4)
    replace FD := Lib.hid (FD.out.trans (FrM.of (M := M) b4) (fun g h => .inl h))
    replace Q3 := Lib.hid (Q3.out.keep b4)
    replace Q4 := Lib.hid (Q4.out.keep b4)
    replace HO3 := Lib.hid (own_keepB HO3.out b4)
    go_upto_region 2 with (fail)
    refine wp_held_tail (S := (fun (w' : World) => w'.cell? ⟨w.heap.size, 5, none⟩ = some (.slice (some ⟨g, 0, none⟩) s.ch.length c5) ∧ w'.cell? ⟨w.heap.size + 1, 1, none⟩ = some (.int .i64 (a : Int)) ∧ w'.cell? ⟨g, a, none⟩ = some (.slice (some ⟨gc, 0, none⟩) cl.length d))) 11 (by kernel_rfl) (by decide) ?_
    have hS : (fun (w' : World) => w'.cell? ⟨w.heap.size, 5, none⟩ = some (.slice (some ⟨g, 0, none⟩) s.ch.length c5) ∧ w'.cell? ⟨w.heap.size + 1, 1, none⟩ = some (.int .i64 (a : Int)) ∧ w'.cell? ⟨g, a, none⟩ = some (.slice (some ⟨gc, 0, none⟩) cl.length d)) w3.drew := ⟨r5, y1, cc⟩
    refine headH_take (i := 0) (v := ?_) rfl (by kernel_rfl) (fun _ _ _ h => h) (fun _ _ _ h => seqB_ready h.1) (Or.inl ⟨by rfl, ?hz13⟩) hS ?rst13
    case hz13 => intro w hSw; (try dsimp only at hSw); obtain ⟨hc0, hc1, hc2⟩ := hSw; go_simp; try (with_reducible rfl)
    case rst13 =>
    try simp only [Act.put, List.setIfInBounds_toArray, List.set_cons_zero, List.set_cons_succ]
    refine headH_take (i := 1) (v := ?_) rfl (by kernel_rfl) (fun _ _ _ h => h) (fun _ _ _ h => seqB_ready h.1) (Or.inl ⟨by rfl, ?hz14⟩) hS ?rst14
    case hz14 => intro w hSw; (try dsimp only at hSw); obtain ⟨hc0, hc1, hc2⟩ := hSw; go_simp; try (with_reducible rfl)
    case rst14 =>
    try simp only [Act.put, List.setIfInBounds_toArray, List.set_cons_zero, List.set_cons_succ]
    refine headH_take (i := 2) (v := ?_) rfl (by kernel_rfl) (fun _ _ _ h => h) (fun _ _ _ h => seqB_ready h.1) (Or.inl ⟨by rfl, ?hz15⟩) hS ?rst15
    case hz15 => intro w hSw; (try dsimp only at hSw); obtain ⟨hc0, hc1, hc2⟩ := hSw; go_simp; try (with_reducible rfl)
    case rst15 =>
    try simp only [Act.put, List.setIfInBounds_toArray, List.set_cons_zero, List.set_cons_succ]
    refine headH_take (i := 3) (v := ?_) rfl (by kernel_rfl) (fun _ _ _ h => h) (fun _ _ _ h => seqB_ready h.1) (Or.inl ⟨by rfl, ?hz16⟩) hS ?rst16
    case hz16 => intro w hSw; (try dsimp only at hSw); obtain ⟨hc0, hc1, hc2⟩ := hSw; go_simp; try (with_reducible rfl)
    case rst16 =>
    try simp only [Act.put, List.setIfInBounds_toArray, List.set_cons_zero, List.set_cons_succ]
    refine headH_take (i := 4) (v := ?_) rfl (by kernel_rfl) (fun _ _ _ h => h) (fun _ _ _ h => seqB_ready h.1) (Or.inl ⟨by rfl, ?hz17⟩) hS ?rst17
    case hz17 => intro w hSw; (try dsimp only at hSw); obtain ⟨hc0, hc1, hc2⟩ := hSw; go_simp; try (with_reducible rfl)
    case rst17 =>
    try simp only [Act.put, List.setIfInBounds_toArray, List.set_cons_zero, List.set_cons_succ]
    refine headH_take (i := 5) (v := ?_) rfl (by kernel_rfl) (fun _ _ _ h => h) (fun _ _ _ h => seqB_ready h.1) (Or.inl ⟨by rfl, ?hz18⟩) hS ?rst18
    case hz18 => intro w hSw; (try dsimp only at hSw); obtain ⟨hc0, hc1, hc2⟩ := hSw; go_simp; try (with_reducible rfl)
    case rst18 =>
    try simp only [Act.put, List.setIfInBounds_toArray, List.set_cons_zero, List.set_cons_succ]
    refine headH_take (i := 6) (v := ?_) rfl (by kernel_rfl) (fun _ _ _ h => h) (fun _ _ _ h => seqB_ready h.1) (Or.inl ⟨by rfl, ?hz19⟩) hS ?rst19
    case hz19 => intro w hSw; (try dsimp only at hSw); obtain ⟨hc0, hc1, hc2⟩ := hSw; go_simp; try (with_reducible rfl)
    case rst19 =>
    try simp only [Act.put, List.setIfInBounds_toArray, List.set_cons_zero, List.set_cons_succ]
    refine headH_take (i := 7) (v := ?_) rfl (by kernel_rfl) (fun _ _ _ h => h) (fun _ _ _ h => seqB_ready h.1) (Or.inl ⟨by rfl, ?hz20⟩) hS ?rst20
    case hz20 => intro w hSw; (try dsimp only at hSw); obtain ⟨hc0, hc1, hc2⟩ := hSw; go_simp; try (with_reducible rfl)
    case rst20 =>
    try simp only [Act.put, List.setIfInBounds_toArray, List.set_cons_zero, List.set_cons_succ]
    refine headH_take (i := 8) (v := ?_) rfl (by kernel_rfl) (fun _ _ _ h => h) (fun _ _ _ h => seqB_ready h.1) (Or.inl ⟨by rfl, ?hz21⟩) hS ?rst21
    case hz21 => intro w hSw; (try dsimp only at hSw); obtain ⟨hc0, hc1, hc2⟩ := hSw; go_simp; try (with_reducible rfl)
    case rst21 =>
    try simp only [Act.put, List.setIfInBounds_toArray, List.set_cons_zero, List.set_cons_succ]
    refine headH_take (i := 9) (v := ?_) rfl (by kernel_rfl) (fun _ _ _ h => h) (fun _ _ _ h => seqB_ready h.1) (Or.inl ⟨by rfl, ?hz22⟩) hS ?rst22
    case hz22 => intro w hSw; (try dsimp only at hSw); obtain ⟨hc0, hc1, hc2⟩ := hSw; go_simp; try (with_reducible rfl)
    case rst22 =>
    try simp only [Act.put, List.setIfInBounds_toArray, List.set_cons_zero, List.set_cons_succ]
    refine headH_one (i := 10) (by kernel_rfl) rfl (fun K hK => ?_)
    go_simp
    refine (delete_any HO3.out HN0.out).mono ?_
    rintro e w1 ⟨rfl, hown, hgrow⟩
    have HO2 := Lib.hid hown
    have HGr := Lib.hid hgrow
    have KO := World.ownsRow.kept PD.out.ch.2.1 hgrow (.inr fun e => nosh_types PD.out.ch.2.1 HO3.out (by decide) gc e rfl)
    have z0 := World.ownsRow.cellAt KO a (by show a < s.ch.length * 1; omega)
    have z1 := World.ownsRow.frozenAt KO a
    rw [map_slV_at rs5 a (by rw [P1.out.ch.1]; exact han), ← HRe.out] at z0
    replace z0 : w1.cell? ⟨g, a, none⟩ = some (.slice (some ⟨gc, 0, none⟩) cl.length d) := z0
    obtain ⟨v0, v1, v2, v3, v4, v5⟩ := (Box.grown Q3.out hgrow NE3.out).six
    obtain ⟨x0, x1, x2⟩ := (Box.grown Q4.out hgrow NE4.out).three3
    clear hown hgrow KO
    refine hK.out _ _ (show (fun (w' : World) => w'.cell? ⟨w.heap.size, 5, none⟩ = some (.slice (some ⟨g, 0, none⟩) s.ch.length c5) ∧ w'.cell? ⟨w.heap.size + 1, 1, none⟩ = some (.int .i64 (a : Int)) ∧ w'.cell? ⟨g, a, none⟩ = some (.slice (some ⟨gc, 0, none⟩) cl.length d)) w1 from ⟨v5, x1, z0⟩) (fun hS => ?_)
    clear hK K
    try simp only [Act.put, List.setIfInBounds_toArray, List.set_cons_zero, List.set_cons_succ]
    refine ⟨by kernel_rfl, ?_⟩
    go_wp2_with fail
    have HO9 := HO2.out
    have PF := PD.out.set_ch (N := M) han (some ⟨gc, 0, none⟩, cl.length - 1, d) (cl.drop 1) (by simp) (by rw [← HRe.out]; exact HGr.out) (by rw [List.length_drop]; exact HO9) (fun k hk => by rw [← HRe.out]; exact .inl hk) (fun k h => h) (fun k hk => HMr.out k hk)
    rw [List.drop_one] at PF
    have FF := ((FD.out.trans (FrM.grown (M := M) HGr.out (HMr.out gc rfl)) (fun k h => .inl h)).trans (FrM.grown (M := M) (grown_set w1 g a (.slice (some ⟨gc, 0, none⟩) (cl.length - 1) d)) (PD.out.m5 g rfl)) (fun k h => .inl h))
    go_end0
    exact ⟨rfl, M, ⟨A0, c0, A1, c1, some ⟨g2, 0, none⟩, c2, A3, c3, A4, c4, some ⟨g, 0, none⟩, c5, rs0, _, by simp only [List.length_set], PF⟩, FF, fun k hk => .inl hk⟩
end Go.Proofs.Ytcamoigcfiemhaa
