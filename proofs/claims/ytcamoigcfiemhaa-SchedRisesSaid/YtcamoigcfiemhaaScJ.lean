/- Layer 20: a system that may be written: its parts; stores into them. -/
import Derived.Test.YtcamoigcfiemhaaScI
namespace Go.Proofs.Ytcamoigcfiemhaa
set_option linter.unusedVariables false
set_option linter.unusedSimpArgs false
open Go.RowKit Go.Lib
set_option maxRecDepth 100000
/-- A row's block, if it has one, is one of these. -/
def InM (M : Nat → Prop) (v : Value) : Prop := ∀ g, v.ownBlock = some g → M g
/-- A system's rows, each its own; all that may be written lie in blocks of M. -/
structure PartsM (M : Nat → Prop) (w : World) (s : Sys) (A0 : Option Addr) (c0 : Nat) (A1 : Option Addr) (c1 : Nat) (A2 : Option Addr) (c2 : Nat) (A3 : Option Addr) (c3 : Nat) (A4 : Option Addr) (c4 : Nat) (A5 : Option Addr) (c5 : Nat) (rs0 rs5 : List SlT) : Prop where
  th : OwnRR encIn 55 57 3 0 w (.slice A0 s.th.length c0) s.th rs0
  pc : OwnI 0 w (.slice A1 s.pc.length c1) s.pc
  su : OwnI 0 w (.slice A2 s.su.length c2) s.su
  lo : OwnI 0 w (.slice A3 s.lo.length c3) s.lo
  ce : OwnI 0 w (.slice A4 s.ce.length c4) s.ce
  ch : OwnRR encZ 23 3 1 0 w (.slice A5 s.ch.length c5) s.ch rs5
  ap : Apart (.slice A1 s.pc.length c1) (.slice A2 s.su.length c2) (.slice A3 s.lo.length c3) (.slice A4 s.ce.length c4) s.ch.length rs5
  m1 : InM M (.slice A1 s.pc.length c1)
  m2 : InM M (.slice A2 s.su.length c2)
  m3 : InM M (.slice A3 s.lo.length c3)
  m4 : InM M (.slice A4 s.ce.length c4)
  m5 : InM M (.slice A5 s.ch.length c5)
  mr : ∀ j, j < s.ch.length → InM M (slV (rs5.getD j sl0))
def OwnM (M : Nat → Prop) (w : World) (v : Value) (s : Sys) : Prop :=
  ∃ A0 c0 A1 c1 A2 c2 A3 c3 A4 c4 A5 c5 rs0 rs5, v = .agg #[.slice A0 s.th.length c0, .slice A1 s.pc.length c1, .slice A2 s.su.length c2, .slice A3 s.lo.length c3, .slice A4 s.ce.length c4, .slice A5 s.ch.length c5] ∧ PartsM M w s A0 c0 A1 c1 A2 c2 A3 c3 A4 c4 A5 c5 rs0 rs5
theorem OwnSys.toM {base : Nat} {w : World} {v : Value} {s : Sys} (h : OwnSys base w v s) : OwnM (fun g => base ≤ g ∧ g < w.heap.size) w v s := by
  obtain ⟨A0, c0, A1, c1, A2, c2, A3, c3, A4, c4, A5, c5, rs0, rs5, rfl, h0, h1, h2, h3, h4, h5, h6⟩ := h
  exact ⟨A0, c0, A1, c1, A2, c2, A3, c3, A4, c4, A5, c5, rs0, rs5, rfl, ⟨h0.low (Nat.zero_le _), own_low h1 (Nat.zero_le _), own_low h2 (Nat.zero_le _), own_low h3 (Nat.zero_le _), own_low h4 (Nat.zero_le _), h5.low (Nat.zero_le _), h6, h1.lt, h2.lt, h3.lt, h4.lt, h5.2.1.lt, fun j hj => (h5.2.2.1 j hj).2.lt⟩⟩
theorem OwnM.sys {M : Nat → Prop} {w : World} {v : Value} {s : Sys} (h : OwnM M w v s) : OwnSys 0 w v s := by
  obtain ⟨A0, c0, A1, c1, A2, c2, A3, c3, A4, c4, A5, c5, rs0, rs5, rfl, p⟩ := h
  exact ⟨A0, c0, A1, c1, A2, c2, A3, c3, A4, c4, A5, c5, rs0, rs5, rfl, p.th, p.pc, p.su, p.lo, p.ce, p.ch, p.ap⟩
theorem PartsM.keepB {M : Nat → Prop} {w w' : World} {s : Sys} {A0 A1 A2 A3 A4 A5 : Option Addr} {c0 c1 c2 c3 c4 c5 : Nat} {rs0 rs5 : List SlT} (h : PartsM M w s A0 c0 A1 c1 A2 c2 A3 c3 A4 c4 A5 c5 rs0 rs5) (hb : Below w.heap.size w w') : PartsM M w' s A0 c0 A1 c1 A2 c2 A3 c3 A4 c4 A5 c5 rs0 rs5 :=
  ⟨h.th.keepB hb, own_keepB h.pc hb, own_keepB h.su hb, own_keepB h.lo hb, own_keepB h.ce hb, h.ch.keepB hb, h.ap, h.m1, h.m2, h.m3, h.m4, h.m5, h.mr⟩
theorem OwnM.keepB {M : Nat → Prop} {w w' : World} {v : Value} {s : Sys} (h : OwnM M w v s) (hb : Below w.heap.size w w') : OwnM M w' v s := by
  obtain ⟨A0, c0, A1, c1, A2, c2, A3, c3, A4, c4, A5, c5, rs0, rs5, rfl, p⟩ := h
  exact ⟨A0, c0, A1, c1, A2, c2, A3, c3, A4, c4, A5, c5, rs0, rs5, rfl, p.keepB hb⟩
theorem OwnM.lt {M : Nat → Prop} {w : World} {v : Value} {s : Sys} (h : OwnM M w v s) : OwnM (fun g => M g ∧ g < w.heap.size) w v s := by
  obtain ⟨A0, c0, A1, c1, A2, c2, A3, c3, A4, c4, A5, c5, rs0, rs5, rfl, p⟩ := h
  exact ⟨A0, c0, A1, c1, A2, c2, A3, c3, A4, c4, A5, c5, rs0, rs5, rfl, ⟨p.th, p.pc, p.su, p.lo, p.ce, p.ch, p.ap, fun g h => ⟨p.m1 g h, (p.pc.lt g h).2⟩, fun g h => ⟨p.m2 g h, (p.su.lt g h).2⟩, fun g h => ⟨p.m3 g h, (p.lo.lt g h).2⟩, fun g h => ⟨p.m4 g h, (p.ce.lt g h).2⟩, fun g h => ⟨p.m5 g h, (p.ch.2.1.lt g h).2⟩, fun j hj g h => ⟨p.mr j hj g h, ((p.ch.2.2.1 j hj).2.lt g h).2⟩⟩⟩
/-- Only blocks of M are written. -/
structure FrM (M : Nat → Prop) (w w' : World) : Prop where
  os : w'.os = w.os
  tape : w'.tape = w.tape
  output : w'.output = w.output
  size : w.heap.size ≤ w'.heap.size
  block : ∀ k, k < w.heap.size → ¬ M k → w'.heap[k]? = w.heap[k]?
theorem FrM.of {M : Nat → Prop} {w w' : World} (h : Below w.heap.size w w') : FrM M w w' := ⟨h.os, h.tape, h.output, h.size, fun k hk _ => h.block k hk⟩
theorem FrM.grown {M : Nat → Prop} {w w' : World} {g : Nat} (h : w.grownBy w' (some g)) (hg : M g) : FrM M w w' := ⟨h.os, h.tape, h.output, h.size, fun k hk hn => h.block k hk (fun e => by injection e with e; subst e; exact hn hg)⟩
theorem FrM.trans {M N : Nat → Prop} {w w1 w2 : World} (h1 : FrM M w w1) (h2 : FrM N w1 w2) (hs : ∀ g, N g → M g ∨ w.heap.size ≤ g) : FrM M w w2 :=
  ⟨h2.os.trans h1.os, h2.tape.trans h1.tape, h2.output.trans h1.output, Nat.le_trans h1.size h2.size, fun k hk hn => (h2.block k (Nat.lt_of_lt_of_le hk h1.size) (fun h => by rcases hs k h with h | h; exact hn h; omega)).trans (h1.block k hk hn)⟩
theorem FrM.below {M : Nat → Prop} {w w' : World} {B : Nat} (h : FrM M w w') (hB : B ≤ w.heap.size) (hM : ∀ g, M g → B ≤ g) : Below B w w' :=
  ⟨h.os, h.tape, h.output, h.size, fun k hk => h.block k (Nat.lt_of_lt_of_le hk hB) (fun e => by have := hM k e; omega)⟩
theorem FrM.box {M : Nat → Prop} {w w' : World} {g : Nat} {t : TypeId} {cs : Array Value} (h : FrM M w w') (hb : Box w g t cs) (hn : ¬ M g) : Box w' g t cs := (h.block g hb.lt hn).trans hb
theorem FrM.own {M : Nat → Prop} {w w' : World} {base e size n : Nat} {v : Value} {xs : List Value} (h : FrM M w w') (ho : w.ownsRow base e size v n xs) (hn : ∀ g, v.ownBlock = some g → ¬ M g) : w'.ownsRow base e size v n xs := by
  refine ⟨ho.1, ?_⟩
  rcases ho.2 with h1 | ⟨g, cap, cur, rfl, hb, hg, rest⟩
  · exact .inl h1
  · refine .inr ⟨g, cap, cur, rfl, hb, ?_, rest⟩
    rw [h.block g (Array.getElem?_eq_some_iff.1 hg).1 (hn g rfl)]
    exact hg
theorem OwnRR.gr {α : Type} {enc : α → List Value} {e1 e2 : TypeId} {sz base : Nat} {w w' : World} {v : Value} {xss : List (List α)} {rs : List SlT} {g : Nat} (h : OwnRR enc e1 e2 sz base w v xss rs) (hg : w.grownBy w' (some g)) (h1 : v.ownBlock ≠ some g) (h2 : ∀ j, j < xss.length → (slV (rs.getD j sl0)).ownBlock ≠ some g) : OwnRR enc e1 e2 sz base w' v xss rs :=
  ⟨h.1, World.ownsRow.kept h.2.1 hg (.inr h1), fun j hj => ⟨(h.2.2.1 j hj).1, World.ownsRow.kept (h.2.2.1 j hj).2 hg (.inr (h2 j hj))⟩, h.2.2.2⟩
theorem PartsM.set_pc {M : Nat → Prop} {w : World} {s : Sys} {A0 A2 A3 A4 A5 : Option Addr} {c0 c1 c2 c3 c4 c5 g : Nat} {rs0 rs5 : List SlT} (h : PartsM M w s A0 c0 (some ⟨g, 0, none⟩) c1 A2 c2 A3 c3 A4 c4 A5 c5 rs0 rs5) (i : Nat) (x : Int) : PartsM M (w.setCell ⟨g, i, none⟩ (.int .i64 x)) { s with pc := s.pc.set i x } A0 c0 (some ⟨g, 0, none⟩) c1 A2 c2 A3 c3 A4 c4 A5 c5 rs0 rs5 ∧ w.grownBy (w.setCell ⟨g, i, none⟩ (.int .i64 x)) (some g) ∧ M g := by
  have st := World.ownsRow.stored h.pc i (.int .i64 x)
  have hl : (s.pc.set i x).length = s.pc.length := List.length_set ..
  refine ⟨⟨?_, ?_, ?_, ?_, ?_, ?_, ?_, ?_, ?_, ?_, ?_, ?_, ?_⟩, st.2, h.m1 g rfl⟩
  · exact h.th.gr st.2 (nosh_types h.pc h.th.2.1 (by decide) g rfl) fun j hj => nosh_types h.pc (h.th.2.2.1 j hj).2 (by decide) g rfl
  · show World.ownsRow _ 0 _ 1 (.slice (some ⟨g, 0, none⟩) (s.pc.set i x).length c1) (s.pc.set i x).length ((s.pc.set i x).map (Value.int .i64))
    rw [hl, List.map_set]; exact st.1
  · exact World.ownsRow.kept h.su st.2 (.inr (h.ap.s12 g rfl))
  · exact World.ownsRow.kept h.lo st.2 (.inr (h.ap.s13 g rfl))
  · exact World.ownsRow.kept h.ce st.2 (.inr (h.ap.s14 g rfl))
  · exact h.ch.gr st.2 (nosh_types h.pc h.ch.2.1 (by decide) g rfl) fun j hj => h.ap.t1 j hj g rfl
  · show Apart (.slice (some ⟨g, 0, none⟩) (s.pc.set i x).length c1) (.slice A2 s.su.length c2) (.slice A3 s.lo.length c3) (.slice A4 s.ce.length c4) s.ch.length rs5
    rw [hl]; exact h.ap
  · show InM M (.slice (some ⟨g, 0, none⟩) (s.pc.set i x).length c1)
    rw [hl]; exact h.m1
  · exact h.m2
  · exact h.m3
  · exact h.m4
  · exact h.m5
  · exact h.mr
theorem PartsM.set_su {M : Nat → Prop} {w : World} {s : Sys} {A0 A1 A3 A4 A5 : Option Addr} {c0 c1 c2 c3 c4 c5 g : Nat} {rs0 rs5 : List SlT} (h : PartsM M w s A0 c0 A1 c1 (some ⟨g, 0, none⟩) c2 A3 c3 A4 c4 A5 c5 rs0 rs5) (i : Nat) (x : Int) : PartsM M (w.setCell ⟨g, i, none⟩ (.int .i64 x)) { s with su := s.su.set i x } A0 c0 A1 c1 (some ⟨g, 0, none⟩) c2 A3 c3 A4 c4 A5 c5 rs0 rs5 ∧ w.grownBy (w.setCell ⟨g, i, none⟩ (.int .i64 x)) (some g) ∧ M g := by
  have st := World.ownsRow.stored h.su i (.int .i64 x)
  have hl : (s.su.set i x).length = s.su.length := List.length_set ..
  refine ⟨⟨?_, ?_, ?_, ?_, ?_, ?_, ?_, ?_, ?_, ?_, ?_, ?_, ?_⟩, st.2, h.m2 g rfl⟩
  · exact h.th.gr st.2 (nosh_types h.su h.th.2.1 (by decide) g rfl) fun j hj => nosh_types h.su (h.th.2.2.1 j hj).2 (by decide) g rfl
  · exact World.ownsRow.kept h.pc st.2 (.inr ((h.ap.s12).symm g rfl))
  · show World.ownsRow _ 0 _ 1 (.slice (some ⟨g, 0, none⟩) (s.su.set i x).length c2) (s.su.set i x).length ((s.su.set i x).map (Value.int .i64))
    rw [hl, List.map_set]; exact st.1
  · exact World.ownsRow.kept h.lo st.2 (.inr (h.ap.s23 g rfl))
  · exact World.ownsRow.kept h.ce st.2 (.inr (h.ap.s24 g rfl))
  · exact h.ch.gr st.2 (nosh_types h.su h.ch.2.1 (by decide) g rfl) fun j hj => h.ap.t2 j hj g rfl
  · show Apart (.slice A1 s.pc.length c1) (.slice (some ⟨g, 0, none⟩) (s.su.set i x).length c2) (.slice A3 s.lo.length c3) (.slice A4 s.ce.length c4) s.ch.length rs5
    rw [hl]; exact h.ap
  · exact h.m1
  · show InM M (.slice (some ⟨g, 0, none⟩) (s.su.set i x).length c2)
    rw [hl]; exact h.m2
  · exact h.m3
  · exact h.m4
  · exact h.m5
  · exact h.mr
theorem PartsM.set_lo {M : Nat → Prop} {w : World} {s : Sys} {A0 A1 A2 A4 A5 : Option Addr} {c0 c1 c2 c3 c4 c5 g : Nat} {rs0 rs5 : List SlT} (h : PartsM M w s A0 c0 A1 c1 A2 c2 (some ⟨g, 0, none⟩) c3 A4 c4 A5 c5 rs0 rs5) (i : Nat) (x : Int) : PartsM M (w.setCell ⟨g, i, none⟩ (.int .i64 x)) { s with lo := s.lo.set i x } A0 c0 A1 c1 A2 c2 (some ⟨g, 0, none⟩) c3 A4 c4 A5 c5 rs0 rs5 ∧ w.grownBy (w.setCell ⟨g, i, none⟩ (.int .i64 x)) (some g) ∧ M g := by
  have st := World.ownsRow.stored h.lo i (.int .i64 x)
  have hl : (s.lo.set i x).length = s.lo.length := List.length_set ..
  refine ⟨⟨?_, ?_, ?_, ?_, ?_, ?_, ?_, ?_, ?_, ?_, ?_, ?_, ?_⟩, st.2, h.m3 g rfl⟩
  · exact h.th.gr st.2 (nosh_types h.lo h.th.2.1 (by decide) g rfl) fun j hj => nosh_types h.lo (h.th.2.2.1 j hj).2 (by decide) g rfl
  · exact World.ownsRow.kept h.pc st.2 (.inr ((h.ap.s13).symm g rfl))
  · exact World.ownsRow.kept h.su st.2 (.inr ((h.ap.s23).symm g rfl))
  · show World.ownsRow _ 0 _ 1 (.slice (some ⟨g, 0, none⟩) (s.lo.set i x).length c3) (s.lo.set i x).length ((s.lo.set i x).map (Value.int .i64))
    rw [hl, List.map_set]; exact st.1
  · exact World.ownsRow.kept h.ce st.2 (.inr (h.ap.s34 g rfl))
  · exact h.ch.gr st.2 (nosh_types h.lo h.ch.2.1 (by decide) g rfl) fun j hj => h.ap.t3 j hj g rfl
  · show Apart (.slice A1 s.pc.length c1) (.slice A2 s.su.length c2) (.slice (some ⟨g, 0, none⟩) (s.lo.set i x).length c3) (.slice A4 s.ce.length c4) s.ch.length rs5
    rw [hl]; exact h.ap
  · exact h.m1
  · exact h.m2
  · show InM M (.slice (some ⟨g, 0, none⟩) (s.lo.set i x).length c3)
    rw [hl]; exact h.m3
  · exact h.m4
  · exact h.m5
  · exact h.mr
theorem PartsM.set_ce {M : Nat → Prop} {w : World} {s : Sys} {A0 A1 A2 A3 A5 : Option Addr} {c0 c1 c2 c3 c4 c5 g : Nat} {rs0 rs5 : List SlT} (h : PartsM M w s A0 c0 A1 c1 A2 c2 A3 c3 (some ⟨g, 0, none⟩) c4 A5 c5 rs0 rs5) (i : Nat) (x : Int) : PartsM M (w.setCell ⟨g, i, none⟩ (.int .i64 x)) { s with ce := s.ce.set i x } A0 c0 A1 c1 A2 c2 A3 c3 (some ⟨g, 0, none⟩) c4 A5 c5 rs0 rs5 ∧ w.grownBy (w.setCell ⟨g, i, none⟩ (.int .i64 x)) (some g) ∧ M g := by
  have st := World.ownsRow.stored h.ce i (.int .i64 x)
  have hl : (s.ce.set i x).length = s.ce.length := List.length_set ..
  refine ⟨⟨?_, ?_, ?_, ?_, ?_, ?_, ?_, ?_, ?_, ?_, ?_, ?_, ?_⟩, st.2, h.m4 g rfl⟩
  · exact h.th.gr st.2 (nosh_types h.ce h.th.2.1 (by decide) g rfl) fun j hj => nosh_types h.ce (h.th.2.2.1 j hj).2 (by decide) g rfl
  · exact World.ownsRow.kept h.pc st.2 (.inr ((h.ap.s14).symm g rfl))
  · exact World.ownsRow.kept h.su st.2 (.inr ((h.ap.s24).symm g rfl))
  · exact World.ownsRow.kept h.lo st.2 (.inr ((h.ap.s34).symm g rfl))
  · show World.ownsRow _ 0 _ 1 (.slice (some ⟨g, 0, none⟩) (s.ce.set i x).length c4) (s.ce.set i x).length ((s.ce.set i x).map (Value.int .i64))
    rw [hl, List.map_set]; exact st.1
  · exact h.ch.gr st.2 (nosh_types h.ce h.ch.2.1 (by decide) g rfl) fun j hj => h.ap.t4 j hj g rfl
  · show Apart (.slice A1 s.pc.length c1) (.slice A2 s.su.length c2) (.slice A3 s.lo.length c3) (.slice (some ⟨g, 0, none⟩) (s.ce.set i x).length c4) s.ch.length rs5
    rw [hl]; exact h.ap
  · exact h.m1
  · exact h.m2
  · exact h.m3
  · show InM M (.slice (some ⟨g, 0, none⟩) (s.ce.set i x).length c4)
    rw [hl]; exact h.m4
  · exact h.m5
  · exact h.mr
theorem getD_setS (rs : List SlT) (i j : Nat) (x : SlT) (hi : i < rs.length) : (rs.set i x).getD j sl0 = if i = j then x else rs.getD j sl0 := by
  simp only [List.getD, List.getElem?_set]
  by_cases h : i = j
  · subst h; simp [hi]
  · simp [h]
/-- A channel gets other numbers: its row is put elsewhere, perhaps; then its place is stored. -/
theorem PartsM.set_ch {M N : Nat → Prop} {w w1 : World} {s : Sys} {A0 A1 A2 A3 A4 : Option Addr} {c0 c1 c2 c3 c4 c5 g a : Nat} {rs0 rs5 : List SlT} (h : PartsM M w s A0 c0 A1 c1 A2 c2 A3 c3 A4 c4 (some ⟨g, 0, none⟩) c5 rs0 rs5) (ha : a < s.ch.length) (r : SlT) (l : List Int) (hr : r.2.1 = l.length)
    (hg : w.grownBy w1 (slV (rs5.getD a sl0)).ownBlock) (ho : w1.ownsRow 0 3 1 (slV r) l.length (l.map (Value.int .i64))) (hf : ∀ k, (slV r).ownBlock = some k → (slV (rs5.getD a sl0)).ownBlock = some k ∨ w.heap.size ≤ k) (hMN : ∀ k, M k → N k) (hN : InM N (slV r)) :
    PartsM N (w1.setCell ⟨g, a, none⟩ (slV r)) { s with ch := s.ch.set a l } A0 c0 A1 c1 A2 c2 A3 c3 A4 c4 (some ⟨g, 0, none⟩) c5 rs0 (rs5.set a r) := by
  have hrow := (h.ch.2.2.1 a ha).2
  have hlt : a < rs5.length := by rw [h.ch.1]; exact ha
  have n5 : NoSh (slV (rs5.getD a sl0)) (.slice (some ⟨g, 0, none⟩) s.ch.length c5) := nosh_types hrow h.ch.2.1 (by decide)
  have keep : ∀ {e size n : Nat} {v : Value} {xs : List Value}, w.ownsRow 0 e size v n xs → NoSh (slV (rs5.getD a sl0)) v → w1.ownsRow 0 e size v n xs := fun hv hs => World.ownsRow.kept hv hg (by
    cases hb : (slV (rs5.getD a sl0)).ownBlock with
    | none => exact Classical.em _
    | some k => exact .inr (hs k hb))
  have far : ∀ {e size n : Nat} {v : Value} {xs : List Value}, w.ownsRow 0 e size v n xs → NoSh (slV (rs5.getD a sl0)) v → NoSh v (slV r) := fun hv hs k hk hk2 => by
    rcases hf k hk2 with h1 | h1
    · exact hs k h1 hk
    · have := (hv.lt k hk).2; omega
  have k5 := keep h.ch.2.1 n5
  have st := World.ownsRow.stored k5 a (slV r)
  have kt : ∀ {e size n : Nat} {v : Value} {xs : List Value}, w1.ownsRow 0 e size v n xs → NoSh (.slice (some ⟨g, 0, none⟩) s.ch.length c5) v → (w1.setCell ⟨g, a, none⟩ (slV r)).ownsRow 0 e size v n xs := fun hv hs => World.ownsRow.kept hv st.2 (.inr (hs g rfl))
  have hl : (s.ch.set a l).length = s.ch.length := List.length_set ..
  have nth : ∀ j, j < s.th.length → NoSh (slV (rs5.getD a sl0)) (slV (rs0.getD j sl0)) := fun j hj => nosh_types hrow (h.th.2.2.1 j hj).2 (by decide)
  have nr : ∀ j, j < s.ch.length → j ≠ a → NoSh (slV (rs5.getD a sl0)) (slV (rs5.getD j sl0)) := fun j hj hja => by
    rcases Nat.lt_or_gt_of_ne hja with h1 | h1
    · exact (h.ch.2.2.2 j a h1 ha).symm
    · exact h.ch.2.2.2 a j h1 hj
  have ki : ∀ {v : Value} {zs : List Int}, OwnI 0 w v zs → NoSh v (slV (rs5.getD a sl0)) → OwnI 0 (w1.setCell ⟨g, a, none⟩ (slV r)) v zs := fun hv hs => kt (keep hv hs.symm) (nosh_types k5 (keep hv hs.symm) (by decide))
  refine ⟨⟨h.th.1, ?_, fun j hj => ⟨(h.th.2.2.1 j hj).1, ?_⟩, h.th.2.2.2⟩, ki h.pc (h.ap.t1 a ha), ki h.su (h.ap.t2 a ha), ki h.lo (h.ap.t3 a ha), ki h.ce (h.ap.t4 a ha), ⟨?_, ?_, fun j hj => ?_, fun i j hij hj => ?_⟩, ?_, fun k hk => hMN k (h.m1 k hk), fun k hk => hMN k (h.m2 k hk), fun k hk => hMN k (h.m3 k hk), fun k hk => hMN k (h.m4 k hk), ?_, fun j hj => ?_⟩
  · have := keep h.th.2.1 (nosh_types hrow h.th.2.1 (by decide))
    exact kt this (nosh_types k5 this (by decide))
  · have := keep (h.th.2.2.1 j hj).2 (nth j hj)
    exact kt this (nosh_types k5 this (by decide))
  · show (rs5.set a r).length = (s.ch.set a l).length
    rw [List.length_set, hl]; exact h.ch.1
  · show World.ownsRow _ 0 _ 1 (.slice (some ⟨g, 0, none⟩) (s.ch.set a l).length c5) (s.ch.set a l).length _
    rw [hl, List.map_set]; exact st.1
  · have hj : j < s.ch.length := by have : j < (s.ch.set a l).length := hj; omega
    show ((rs5.set a r).getD j sl0).2.1 = ((s.ch.set a l).getD j []).length ∧ World.ownsRow _ 0 _ 1 (slV ((rs5.set a r).getD j sl0)) ((s.ch.set a l).getD j []).length (((s.ch.set a l).getD j []).flatMap encZ)
    rw [getD_setS rs5 a j r hlt, getD_setL]
    by_cases e : a = j
    · subst e
      rw [if_pos rfl, if_pos ⟨rfl, ha⟩, encZ_map]
      exact ⟨hr, kt ho (nosh_types k5 ho (by decide))⟩
    · rw [if_neg e, if_neg (fun h => e h.1)]
      have := keep (h.ch.2.2.1 j hj).2 (nr j hj (Ne.symm e))
      exact ⟨(h.ch.2.2.1 j hj).1, kt this (nosh_types k5 this (by decide))⟩
  · have hj : j < s.ch.length := by have : j < (s.ch.set a l).length := hj; omega
    rw [getD_setS rs5 a i r hlt, getD_setS rs5 a j r hlt]
    by_cases e : a = i
    · subst e
      rw [if_pos rfl, if_neg (by omega)]
      exact (far (h.ch.2.2.1 j hj).2 (nr j hj (by omega))).symm
    · rw [if_neg e]
      by_cases e2 : a = j
      · subst e2
        rw [if_pos rfl]
        exact far (h.ch.2.2.1 i (by omega)).2 (nr i (by omega) (by omega))
      · rw [if_neg e2]
        exact h.ch.2.2.2 i j hij hj
  · show Apart _ _ _ _ (s.ch.set a l).length (rs5.set a r)
    rw [hl]
    have hh : ∀ {v : Value} {zs : List Int}, OwnI 0 w v zs → (∀ j, j < s.ch.length → NoSh v (slV (rs5.getD j sl0))) → ∀ j, j < s.ch.length → NoSh v (slV ((rs5.set a r).getD j sl0)) := fun hv hs j hj => by
      rw [getD_setS rs5 a j r hlt]
      split
      · exact far hv (hs a ha).symm
      · exact hs j hj
    exact ⟨h.ap.s12, h.ap.s13, h.ap.s14, h.ap.s23, h.ap.s24, h.ap.s34, hh h.pc h.ap.t1, hh h.su h.ap.t2, hh h.lo h.ap.t3, hh h.ce h.ap.t4⟩
  · intro k hk
    have : (Value.slice (some ⟨g, 0, none⟩) s.ch.length c5).ownBlock = some k := hk
    exact hMN k (h.m5 k this)
  · have hj : j < s.ch.length := by have : j < (s.ch.set a l).length := hj; omega
    rw [getD_setS rs5 a j r hlt]
    split
    · exact hN
    · exact fun k hk => hMN k (h.mr j hj k hk)
end Go.Proofs.Ytcamoigcfiemhaa
