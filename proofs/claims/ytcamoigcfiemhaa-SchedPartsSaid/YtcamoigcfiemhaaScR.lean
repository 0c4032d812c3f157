/- Layer 20: the reference's Step. -/
import Derived.Test.YtcamoigcfiemhaaScQ
import Derived.Test.YtcamoigcfiemhaaHTail
namespace Go.Proofs.Ytcamoigcfiemhaa
set_option linter.unusedVariables false
set_option linter.unusedSimpArgs false
open Go.RowKit Go.Lib
set_option maxRecDepth 100000
/-- A system's parts: its boxes lie in M. -/
def PF (M : Nat → Prop) (w0 w : World) (s : Sys) (A0 : Option Addr) (l0 c0 : Nat) (A1 : Option Addr) (l1 c1 : Nat) (A2 : Option Addr) (l2 c2 : Nat) (A3 : Option Addr) (l3 c3 : Nat) (A4 : Option Addr) (l4 c4 : Nat) (A5 : Option Addr) (l5 c5 : Nat) : Prop :=
  (SliceOk A0 l0 c0 ∧ SliceOk A1 l1 c1 ∧ SliceOk A2 l2 c2 ∧ SliceOk A3 l3 c3 ∧ SliceOk A4 l4 c4 ∧ SliceOk A5 l5 c5) ∧
    Thr w0 A0 l0 s.th ∧ IntsF M w A1 l1 s.pc ∧ IntsF M w A2 l2 s.su ∧ IntsF M w A3 l3 s.lo ∧ IntsF M w A4 l4 s.ce ∧ ChsF M w A5 l5 s.ch
theorem PF.frm {M : Nat → Prop} {w0 w w' : World} {s : Sys} {A0 A1 A2 A3 A4 A5 : Option Addr} {l0 c0 l1 c1 l2 c2 l3 c3 l4 c4 l5 c5 : Nat} (h : PF M w0 w s A0 l0 c0 A1 l1 c1 A2 l2 c2 A3 l3 c3 A4 l4 c4 A5 l5 c5) (hf : FrM M w w') : PF M w0 w' s A0 l0 c0 A1 l1 c1 A2 l2 c2 A3 l3 c3 A4 l4 c4 A5 l5 c5 :=
  ⟨h.1, h.2.1, h.2.2.1.frm hf, h.2.2.2.1.frm hf, h.2.2.2.2.1.frm hf, h.2.2.2.2.2.1.frm hf, h.2.2.2.2.2.2.frm hf⟩
theorem PF.sys {M : Nat → Prop} {w0 w : World} {s : Sys} {A0 A1 A2 A3 A4 A5 : Option Addr} {l0 c0 l1 c1 l2 c2 l3 c3 l4 c4 l5 c5 : Nat} (h : PF M w0 w s A0 l0 c0 A1 l1 c1 A2 l2 c2 A3 l3 c3 A4 l4 c4 A5 l5 c5) (hB : Below w0.heap.size w0 w) : SysAt w (.agg #[.slice A0 l0 c0, .slice A1 l1 c1, .slice A2 l2 c2, .slice A3 l3 c3, .slice A4 l4 c4, .slice A5 l5 c5]) s := by
  obtain ⟨⟨s0, s1, s2, s3, s4, s5⟩, h0, h1, h2, h3, h4, h5⟩ := h
  exact ⟨A0, l0, c0, A1, l1, c1, A2, l2, c2, A3, l3, c3, A4, l4, c4, A5, l5, c5, rfl, s0, s1, s2, s3, s4, s5, h0.below hB, h1.1, h2.1, h3.1, h4.1, h5.chs⟩
def M3 (n : Nat) : Nat → Prop := fun g => n ≤ g ∧ g < n + 3
theorem In64.set {zs : List Int} (h : In64 zs) (i : Nat) {x : Int} (hx : -9223372036854775808 ≤ x ∧ x ≤ 9223372036854775807) : In64 (zs.set i x) := fun j => by
  rw [getD_set]
  by_cases q : i = j ∧ j < zs.length
  · rw [if_pos q]; exact hx
  · rw [if_neg q]; exact h j
/-- set, as Step wants it. -/
def SetF (M : Nat → Prop) (l : Nat) (zs : List Int) (w : World) (e : Ending) (w' : World) : Prop := ∃ A c, e = .returned (.slice A l c) ∧ IntsF M w' A l zs ∧ SliceOk A l c ∧ Below w.heap.size w w'
theorem setF_any (M : Nat → Prop) (A : Option Addr) (l c : Nat) (zs : List Int) (w : World) (h : Ints w A l zs) (hM : ∀ g, M g → g < w.heap.size) (hl : l ≤ 1000) (a : Nat) (n : Int) (hn : -9223372036854775808 ≤ n ∧ n ≤ 9223372036854775807) : Calls Try.prog 49 #[.slice A l c, .int .i64 (a : Int), .int .i64 n] w (SetF M l (zs.set a n) w) :=
  (refSet_any A l c zs w h hl a n).mono (fun e w' ⟨A', c', h1, h2, h3⟩ => by
    have e0 : (zs.set a n).length = l := by rw [List.length_set]; exact h.1
    have hz : In64 zs := h.2.1
    have k1 : IntsF M w' A' (zs.set a n).length (zs.set a n) := IntsF.own h2 (hz.set a hn) hM
    have k2 : SliceOk A' (zs.set a n).length c' := own_cap h2
    rw [e0] at h1 k1 k2
    exact ⟨A', c', h1, k1, k2, h3⟩)
def ChF (M : Nat → Prop) (l : Nat) (cs : List (List Int)) (w : World) (e : Ending) (w' : World) : Prop := ∃ A c, e = .returned (.slice A l c) ∧ ChsF M w' A l cs ∧ SliceOk A l c ∧ Below w.heap.size w w'
theorem chF_any (M : Nat → Prop) (A : Option Addr) (l c : Nat) (cs : List (List Int)) (w : World) (h : ChsF M w A l cs) (hM : ∀ g, M g → g < w.heap.size) (hl : l ≤ 1000) (a : Nat) (B : Option Addr) (lb cb : Nat) (xs : List Int) (hs : SliceOk B lb cb) (hx : IntsF M w B lb xs) : Calls Try.prog 50 #[.slice A l c, .int .i64 (a : Int), .slice B lb cb] w (ChF M l (cs.set a xs) w) :=
  (channel_any M A l c cs w h hM hl a B lb cb xs hs hx).mono (fun e w' ⟨A', c', h1, h2, h3, h4⟩ => by
    have e0 : (cs.set a xs).length = l := by rw [List.length_set]; exact h.1.1
    rw [e0] at h1 h2 h3
    exact ⟨A', c', h1, h2, h3, h4⟩)
theorem PF.pc {M : Nat → Prop} {w0 w : World} {s : Sys} {A0 A1 A2 A3 A4 A5 : Option Addr} {l0 c0 l1 c1 l2 c2 l3 c3 l4 c4 l5 c5 : Nat} (h : PF M w0 w s A0 l0 c0 A1 l1 c1 A2 l2 c2 A3 l3 c3 A4 l4 c4 A5 l5 c5) {A : Option Addr} {l cc : Nat} {z : List Int} (hs : SliceOk A l cc) (hz : IntsF M w A l z) : PF M w0 w { s with pc := z } A0 l0 c0 A l cc A2 l2 c2 A3 l3 c3 A4 l4 c4 A5 l5 c5 :=
  ⟨⟨h.1.1, hs, h.1.2.2⟩, h.2.1, hz, h.2.2.2⟩
theorem PF.su {M : Nat → Prop} {w0 w : World} {s : Sys} {A0 A1 A2 A3 A4 A5 : Option Addr} {l0 c0 l1 c1 l2 c2 l3 c3 l4 c4 l5 c5 : Nat} (h : PF M w0 w s A0 l0 c0 A1 l1 c1 A2 l2 c2 A3 l3 c3 A4 l4 c4 A5 l5 c5) {A : Option Addr} {l cc : Nat} {z : List Int} (hs : SliceOk A l cc) (hz : IntsF M w A l z) : PF M w0 w { s with su := z } A0 l0 c0 A1 l1 c1 A l cc A3 l3 c3 A4 l4 c4 A5 l5 c5 :=
  ⟨⟨h.1.1, h.1.2.1, hs, h.1.2.2.2⟩, h.2.1, h.2.2.1, hz, h.2.2.2.2⟩
theorem PF.lo {M : Nat → Prop} {w0 w : World} {s : Sys} {A0 A1 A2 A3 A4 A5 : Option Addr} {l0 c0 l1 c1 l2 c2 l3 c3 l4 c4 l5 c5 : Nat} (h : PF M w0 w s A0 l0 c0 A1 l1 c1 A2 l2 c2 A3 l3 c3 A4 l4 c4 A5 l5 c5) {A : Option Addr} {l cc : Nat} {z : List Int} (hs : SliceOk A l cc) (hz : IntsF M w A l z) : PF M w0 w { s with lo := z } A0 l0 c0 A1 l1 c1 A2 l2 c2 A l cc A4 l4 c4 A5 l5 c5 :=
  ⟨⟨h.1.1, h.1.2.1, h.1.2.2.1, hs, h.1.2.2.2.2⟩, h.2.1, h.2.2.1, h.2.2.2.1, hz, h.2.2.2.2.2⟩
theorem PF.ce {M : Nat → Prop} {w0 w : World} {s : Sys} {A0 A1 A2 A3 A4 A5 : Option Addr} {l0 c0 l1 c1 l2 c2 l3 c3 l4 c4 l5 c5 : Nat} (h : PF M w0 w s A0 l0 c0 A1 l1 c1 A2 l2 c2 A3 l3 c3 A4 l4 c4 A5 l5 c5) {A : Option Addr} {l cc : Nat} {z : List Int} (hs : SliceOk A l cc) (hz : IntsF M w A l z) : PF M w0 w { s with ce := z } A0 l0 c0 A1 l1 c1 A2 l2 c2 A3 l3 c3 A l cc A5 l5 c5 :=
  ⟨⟨h.1.1, h.1.2.1, h.1.2.2.1, h.1.2.2.2.1, hs, h.1.2.2.2.2.2⟩, h.2.1, h.2.2.1, h.2.2.2.1, h.2.2.2.2.1, hz, h.2.2.2.2.2.2⟩
theorem PF.ch {M : Nat → Prop} {w0 w : World} {s : Sys} {A0 A1 A2 A3 A4 A5 : Option Addr} {l0 c0 l1 c1 l2 c2 l3 c3 l4 c4 l5 c5 : Nat} (h : PF M w0 w s A0 l0 c0 A1 l1 c1 A2 l2 c2 A3 l3 c3 A4 l4 c4 A5 l5 c5) {A : Option Addr} {l cc : Nat} {z : List (List Int)} (hs : SliceOk A l cc) (hz : ChsF M w A l z) : PF M w0 w { s with ch := z } A0 l0 c0 A1 l1 c1 A2 l2 c2 A3 l3 c3 A4 l4 c4 A l cc :=
  ⟨⟨h.1.1, h.1.2.1, h.1.2.2.1, h.1.2.2.2.1, h.1.2.2.2.2.1, hs⟩, h.2.1, h.2.2.1, h.2.2.2.1, h.2.2.2.2.1, h.2.2.2.2.2.1, hz⟩
/-- M, and a call's own three boxes. -/
def MU (M : Nat → Prop) (n : Nat) : Nat → Prop := fun g => M g ∨ (n ≤ g ∧ g < n + 3)
theorem IntsF.more {M : Nat → Prop} {w : World} {A : Option Addr} {l : Nat} {zs : List Int} (h : IntsF M w A l zs) : IntsF (MU M w.heap.size) w A l zs := ⟨h.1, fun hp a ha hm => by
  rcases hm with hm | hm
  · exact h.2 hp a ha hm
  · obtain ⟨b, off, rfl, hb, -⟩ := h.1.2.2 hp
    injection ha with ha
    subst ha
    dsimp only at hm
    omega⟩
theorem IntsF.less {M : Nat → Prop} {n : Nat} {w : World} {A : Option Addr} {l : Nat} {zs : List Int} (h : IntsF (MU M n) w A l zs) : IntsF M w A l zs := ⟨h.1, fun hp a ha hm => h.2 hp a ha (.inl hm)⟩
theorem ChsF.more {M : Nat → Prop} {w : World} {A : Option Addr} {l : Nat} {cs : List (List Int)} (h : ChsF M w A l cs) : ChsF (MU M w.heap.size) w A l cs := ⟨RRow.mono h.1 (fun _ _ _ _ h => h.more), fun hp a ha hm => by
  rcases hm with hm | hm
  · exact h.2 hp a ha hm
  · obtain ⟨b, off, rfl, hb, -⟩ := h.1.2 hp
    injection ha with ha
    subst ha
    dsimp only at hm
    omega⟩
theorem ChsF.less {M : Nat → Prop} {n : Nat} {w : World} {A : Option Addr} {l : Nat} {cs : List (List Int)} (h : ChsF (MU M n) w A l cs) : ChsF M w A l cs := ⟨RRow.mono h.1 (fun _ _ _ _ h => h.less), fun hp a ha hm => h.2 hp a ha (.inl hm)⟩
theorem PF.less {M : Nat → Prop} {n : Nat} {w0 w : World} {s : Sys} {A0 A1 A2 A3 A4 A5 : Option Addr} {l0 c0 l1 c1 l2 c2 l3 c3 l4 c4 l5 c5 : Nat} (h : PF (MU M n) w0 w s A0 l0 c0 A1 l1 c1 A2 l2 c2 A3 l3 c3 A4 l4 c4 A5 l5 c5) : PF M w0 w s A0 l0 c0 A1 l1 c1 A2 l2 c2 A3 l3 c3 A4 l4 c4 A5 l5 c5 :=
  ⟨h.1, h.2.1, h.2.2.1.less, h.2.2.2.1.less, h.2.2.2.2.1.less, h.2.2.2.2.2.1.less, h.2.2.2.2.2.2.less⟩
/-- What Step hands back: the threads stay where they are, all else avoids M. -/
def StepF (M : Nat → Prop) (w0 w : World) (s : Sys) (A0 : Option Addr) (l0 c0 : Nat) (e : Ending) (w' : World) : Prop :=
  ∃ A1 l1 c1 A2 l2 c2 A3 l3 c3 A4 l4 c4 A5 l5 c5, e = .returned (.agg #[.slice A0 l0 c0, .slice A1 l1 c1, .slice A2 l2 c2, .slice A3 l3 c3, .slice A4 l4 c4, .slice A5 l5 c5]) ∧ PF M w0 w' s A0 l0 c0 A1 l1 c1 A2 l2 c2 A3 l3 c3 A4 l4 c4 A5 l5 c5 ∧ Below w.heap.size w w'
set_option maxHeartbeats 16000000 in
theorem refStep3_any (M : Nat → Prop) (w0 w : World) (s : Sys) (A0 : Option Addr) (l0 c0 : Nat) (A1 : Option Addr) (l1 c1 : Nat) (A2 : Option Addr) (l2 c2 : Nat) (A3 : Option Addr) (l3 c3 : Nat) (A4 : Option Addr) (l4 c4 : Nat) (A5 : Option Addr) (l5 c5 : Nat) (h : PF M w0 w s A0 l0 c0 A1 l1 c1 A2 l2 c2 A3 l3 c3 A4 l4 c4 A5 l5 c5) (hB0 : Below w0.heap.size w0 w) (hM : ∀ g, M g → g < w.heap.size) (k : Nat) (hwr : WR k s) (hk : k ≤ 900) (t : Nat) (ht : t < s.th.length) (hc : canS s t = true) (h012 : (insAt s t).1 ≤ 2) : Calls Try.prog 24 #[.agg #[.slice A0 l0 c0, .slice A1 l1 c1, .slice A2 l2 c2, .slice A3 l3 c3, .slice A4 l4 c4, .slice A5 l5 c5], .int .i64 (t : Int)] w (StepF M w0 w (stepS s t) A0 l0 c0) := by
  have h8 := hwr.n8
  have HNm := Lib.hid ((hwr.step ht hc).nums (by omega))
  have hnm := (h.sys hB0).nums
  obtain ⟨⟨s0, s1, s2, s3, s4, s5⟩, h0', hf1, hf2, hf3, hf4, hf5⟩ := h
  have h0 : Thr w A0 l0 s.th := Thr.below h0' hB0
  have h1 : Ints w A1 l1 s.pc := hf1.1
  have HMb := Lib.hid (show ∀ n, w.heap.size + 3 ≤ n → ∀ g, MU M w.heap.size g → g < n from fun n hn g h => by rcases h with h | h; (have := hM g h; omega); omega)
  have P0 := Lib.hid (show PF (MU M w.heap.size) w0 w s A0 l0 c0 A1 l1 c1 A2 l2 c2 A3 l3 c3 A4 l4 c4 A5 l5 c5 from ⟨⟨s0, s1, s2, s3, s4, s5⟩, h0', hf1.more, hf2.more, hf3.more, hf4.more, hf5.more⟩)
  have t0 : (t : Int) < (l0 : Int) := by have := h0.1; omega
  have t1 : (t : Int) < (l1 : Int) := by have := h1.1; have := hwr.pcl; omega
  have hl1 : l1 ≤ 1000 := by have := h1.1; have := hwr.pcl; omega
  obtain ⟨b0, o0, B, n, d, rfl, hb0, g0, -, hq⟩ := h0.at t (by omega)
  obtain ⟨b1, o1, rfl, hb1, hc1⟩ := h1.2.2 (by omega)
  have g1 := hc1 t (by omega)
  have G0 := Lib.hid (fun wx (hb : Below w.heap.size w wx) => (hb.cell (p := ⟨b0, o0 + t, none⟩) hb0).trans g0)
  have hrow := hwr.row t ht
  have hnl : (s.th.getD t []).length = n := hq.1
  have HEn := Lib.hid (show endS s t = false by cases e : endS s t with | false => rfl | true => simp [canS, e] at hc)
  obtain ⟨hlt, hin⟩ := hwr.next ht HEn.out
  have HCI := Lib.hid (show canI s (insAt s t) = true by simp [canS, HEn.out] at hc; exact hc)
  obtain ⟨p, hp⟩ := Nat.of_int hrow.2.1
  have hpl : p < n := by rw [hp, hnl] at hlt; simpa using hlt
  have hpl' : (p : Int) < (n : Int) := by omega
  have HPp := Lib.hid hp
  rw [hp] at g1
  have G1 := Lib.hid (fun wx (hb : Below w.heap.size w wx) => (hb.cell (p := ⟨b1, o1 + t, none⟩) hb1).trans g1)
  have hp16 : p < 16 := by have := hrow.1; rw [hnl] at this; omega
  obtain ⟨b2, o2, rfl, hb2, x0, x1, x2⟩ := Inss.cells hq (Below.refl _ _) p hpl
  have hix : insAt s t = (s.th.getD t []).getD p default := by unfold insAt; rw [hp]; rfl
  rw [← hix] at x0 x1 x2
  obtain ⟨xi, hxi⟩ : ∃ xi, xi = insAt s t := ⟨_, rfl⟩
  rw [← hxi] at x0 x1 x2 hin HCI h012
  have HIx := Lib.hid hxi.symm
  clear hxi hix hp hlt hrow hnl hc1 g0 g1 hb0 hb1 h1 hf1 hf2 hf3 hf4 hf5 s0 s1 s2 s3 s4 s5 hq h0 h0' hM hB0
  obtain ⟨op, na, nu⟩ := xi
  obtain ⟨i0, i1, i2, i3, i4, i5⟩ := inB_parts hin
  obtain ⟨a, rfl⟩ : ∃ a : Nat, na = (a : Int) := Nat.of_int i2
  have ha : a < 4 := by have i3 : (a : Int) ≤ 3 := i3; omega
  have hnu1 : -1000 ≤ nu := i4
  have hnu2 : nu ≤ 1000 := i5
  have X0 := Lib.hid (fun wx (hb : Below w.heap.size w wx) => (hb.cell (p := ⟨b2, o2 + p * 3, none⟩) hb2).trans (show w.cell? ⟨b2, o2 + p * 3, none⟩ = some (.int .i64 op) from x0))
  have X1 := Lib.hid (fun wx (hb : Below w.heap.size w wx) => (hb.cell (p := ⟨b2, o2 + p * 3 + 1, none⟩) hb2).trans (show w.cell? ⟨b2, o2 + p * 3 + 1, none⟩ = some (.int .i64 (a : Int)) from x1))
  have X2 := Lib.hid (fun wx (hb : Below w.heap.size w wx) => (hb.cell (p := ⟨b2, o2 + p * 3 + 2, none⟩) hb2).trans (show w.cell? ⟨b2, o2 + p * 3 + 2, none⟩ = some (.int .i64 nu) from x2))
  have hop : op = 0 ∨ op = 1 ∨ op = 2 := by have : (0 : Int) ≤ op := i0; have : op ≤ 2 := h012; omega
  clear x0 x1 x2 hb2 i0 i1 i2 i3 i4 i5 hin
  have b2' : Below w.heap.size w ((w.alloc (.cells #[.slice (some ⟨b0, o0, none⟩) l0 c0, .slice (some ⟨b1, o1, none⟩) l1 c1, .slice A2 l2 c2, .slice A3 l3 c3, .slice A4 l4 c4, .slice A5 l5 c5] 26)).alloc (.cells #[.slice none 0 0, .slice none 0 0, .slice none 0 0, .slice none 0 0, .slice none 0 0, .slice none 0 0] 26)) := ((Below.refl w.heap.size w).alloc (Nat.le_refl _) _).alloc (by simp) _
  have hB2 := Lib.hid b2'
  have q1 := Box.new (w.alloc (.cells #[.slice (some ⟨b0, o0, none⟩) l0 c0, .slice (some ⟨b1, o1, none⟩) l1 c1, .slice A2 l2 c2, .slice A3 l3 c3, .slice A4 l4 c4, .slice A5 l5 c5] 26)) 26 #[.slice none 0 0, .slice none 0 0, .slice none 0 0, .slice none 0 0, .slice none 0 0, .slice none 0 0]
  simp only [World.size_alloc] at q1
  have R0 := Lib.hid q1
  have Q0 := Lib.hid ((Box.new w 26 #[.slice (some ⟨b0, o0, none⟩) l0 c0, .slice (some ⟨b1, o1, none⟩) l1 c1, .slice A2 l2 c2, .slice A3 l3 c3, .slice A4 l4 c4, .slice A5 l5 c5]).alloc (.cells #[.slice none 0 0, .slice none 0 0, .slice none 0 0, .slice none 0 0, .slice none 0 0, .slice none 0 0] 26))
  clear q1 b2'
  obtain ⟨r0, r1, r2, r3, r4, r5⟩ := Q0.out.six
  go_enter Try.func24, Try.ntmps24
  go_upto_region 1 with (fail)
  go_cut [5] (fun v wx => v = .pointer (some ⟨w.heap.size + 2, 0, none⟩) ∧ Hid (Box wx (w.heap.size + 2) 57 #[.int .i64 op, .int .i64 (a : Int), .int .i64 nu]) ∧ Hid (Box wx w.heap.size 26 #[.slice (some ⟨b0, o0, none⟩) l0 c0, .slice (some ⟨b1, o1, none⟩) l1 c1, .slice A2 l2 c2, .slice A3 l3 c3, .slice A4 l4 c4, .slice A5 l5 c5]) ∧ Hid (Box wx (w.heap.size + 1) 26 #[.slice none 0 0, .slice none 0 0, .slice none 0 0, .slice none 0 0, .slice none 0 0, .slice none 0 0]) ∧ Hid (Below w.heap.size w wx))
  case first =>
    have HBz := hB2.out.alloc hB2.out.size (.cells #[.int .i64 0, .int .i64 0, .int .i64 0] 57)
    have g0 := G0.out _ HBz
    have g1 := G1.out _ HBz
    have x0 := X0.out _ HBz
    have x1 := X1.out _ HBz
    have x2 := X2.out _ HBz
    have xz := Box.new ((w.alloc (.cells #[.slice (some ⟨b0, o0, none⟩) l0 c0, .slice (some ⟨b1, o1, none⟩) l1 c1, .slice A2 l2 c2, .slice A3 l3 c3, .slice A4 l4 c4, .slice A5 l5 c5] 26)).alloc (.cells #[.slice none 0 0, .slice none 0 0, .slice none 0 0, .slice none 0 0, .slice none 0 0, .slice none 0 0] 26)) 57 #[.int .i64 0, .int .i64 0, .int .i64 0]
    have xv := Box.new ((w.alloc (.cells #[.slice (some ⟨b0, o0, none⟩) l0 c0, .slice (some ⟨b1, o1, none⟩) l1 c1, .slice A2 l2 c2, .slice A3 l3 c3, .slice A4 l4 c4, .slice A5 l5 c5] 26)).alloc (.cells #[.slice none 0 0, .slice none 0 0, .slice none 0 0, .slice none 0 0, .slice none 0 0, .slice none 0 0] 26)) 57 #[.int .i64 op, .int .i64 (a : Int), .int .i64 nu]
    simp only [World.size_alloc] at xz xv
    have XZ := Lib.hid xz
    have XV := Lib.hid xv
    have QZ := Lib.hid (Q0.out.alloc (.cells #[.int .i64 0, .int .i64 0, .int .i64 0] 57))
    have g0' := G0.out _ hB2.out
    have g1' := G1.out _ hB2.out
    have x0' := X0.out _ hB2.out
    have x1' := X1.out _ hB2.out
    have x2' := X2.out _ hB2.out
    clear HBz xz xv
    obtain ⟨r0', r1', r2', r3', r4', r5'⟩ := QZ.out.six
    obtain ⟨y0, y1, y2⟩ := XZ.out.three3
    have f0 := XZ.out.free 0
    have f1 := XZ.out.free 1
    have f2 := XZ.out.free 2
    go_region
    all_goals
      go_wp2_with fail
      go_meet
      exact ⟨rfl, Lib.hid XV.out.drew, Lib.hid (Q0.out.alloc _).drew, Lib.hid (R0.out.alloc _).drew, Lib.hid (hB2.out.alloc hB2.out.size _).drew⟩
  case rest =>
    obtain ⟨rfl, XI, Q1, R1, HB1⟩ := hcut
    obtain ⟨w1, hw1⟩ : ∃ x : World, x = wc := ⟨_, rfl⟩
    subst hw1
    clear r0 r1 r2 r3 r4 r5 Q0 R0 hB2 X0 X1 X2 G0
    have P1 := Lib.hid (P0.out.frm (FrM.of HB1.out))
    obtain ⟨r0, r1, r2, r3, r4, r5⟩ := Q1.out.six
    obtain ⟨y0, y1, y2⟩ := XI.out.three3
    have g1 := G1.out _ HB1.out
    go_upto_region 2 with (fail)
    have hwp : IntKind.i64.wrap ((p : Int) + 1) = (p : Int) + 1 := IntWalk.i64_in _ (by omega)
    have HSet := Lib.hid (fun wx (hb : Below w.heap.size w wx) (hs : w.heap.size + 3 ≤ wx.heap.size) => setF_any (MU M w.heap.size) (some ⟨b1, o1, none⟩) l1 c1 s.pc wx (Ints.below P0.out.2.2.1.1 hb) (HMb.out _ hs) hl1 t ((p : Int) + 1) (by omega))
    have HBu := Lib.hid (show bumpS s t = { s with pc := s.pc.set t ((p : Int) + 1) } by unfold bumpS; rw [HPp.out])
    have XI1 := XI
    have hs1 : w.heap.size + 3 ≤ w1.heap.size := by have := XI1.out.lt; omega
    refine wp_held_tail (S := (fun (w' : World) => w'.cell? ⟨w.heap.size, 1, none⟩ = some (.slice (some ⟨b1, o1, none⟩) l1 c1) ∧ w'.cell? ⟨b1, o1 + t, none⟩ = some (.int .i64 (p : Int)))) 10 (by kernel_rfl) (by decide) ?_
    have hS : (fun (w' : World) => w'.cell? ⟨w.heap.size, 1, none⟩ = some (.slice (some ⟨b1, o1, none⟩) l1 c1) ∧ w'.cell? ⟨b1, o1 + t, none⟩ = some (.int .i64 (p : Int))) w1.drew := ⟨r1, g1⟩
    refine headH_take (i := 0) (v := ?_) rfl (by kernel_rfl) (fun _ _ _ h => h) (fun _ _ _ h => seqB_ready h.1) (Or.inl ⟨by rfl, ?hz1⟩) hS ?rst1
    case hz1 => intro w hSw; (try dsimp only at hSw); obtain ⟨hc0, hc1⟩ := hSw; go_simp; try (with_reducible rfl)
    case rst1 =>
    try simp only [Act.put, List.setIfInBounds_toArray, List.set_cons_zero, List.set_cons_succ]
    refine headH_take (i := 1) (v := ?_) rfl (by kernel_rfl) (fun _ _ _ h => h) (fun _ _ _ h => seqB_ready h.1) (Or.inl ⟨by rfl, ?hz2⟩) hS ?rst2
    case hz2 => intro w hSw; (try dsimp only at hSw); obtain ⟨hc0, hc1⟩ := hSw; go_simp; try (with_reducible rfl)
    case rst2 =>
    try simp only [Act.put, List.setIfInBounds_toArray, List.set_cons_zero, List.set_cons_succ]
    refine headH_take (i := 2) (v := ?_) rfl (by kernel_rfl) (fun _ _ _ h => h) (fun _ _ _ h => seqB_ready h.1) (Or.inl ⟨by rfl, ?hz3⟩) hS ?rst3
    case hz3 => intro w hSw; (try dsimp only at hSw); obtain ⟨hc0, hc1⟩ := hSw; go_simp; try (with_reducible rfl)
    case rst3 =>
    try simp only [Act.put, List.setIfInBounds_toArray, List.set_cons_zero, List.set_cons_succ]
    refine headH_take (i := 3) (v := ?_) rfl (by kernel_rfl) (fun _ _ _ h => h) (fun _ _ _ h => seqB_ready h.1) (Or.inl ⟨by rfl, ?hz4⟩) hS ?rst4
    case hz4 => intro w hSw; (try dsimp only at hSw); obtain ⟨hc0, hc1⟩ := hSw; go_simp; try (with_reducible rfl)
    case rst4 =>
    try simp only [Act.put, List.setIfInBounds_toArray, List.set_cons_zero, List.set_cons_succ]
    refine headH_take (i := 4) (v := ?_) rfl (by kernel_rfl) (fun _ _ _ h => h) (fun _ _ _ h => seqB_ready h.1) (Or.inl ⟨by rfl, ?hz5⟩) hS ?rst5
    case hz5 => intro w hSw; (try dsimp only at hSw); obtain ⟨hc0, hc1⟩ := hSw; go_simp; try (with_reducible rfl)
    case rst5 =>
    try simp only [Act.put, List.setIfInBounds_toArray, List.set_cons_zero, List.set_cons_succ]
    refine headH_take (i := 5) (v := ?_) rfl (by kernel_rfl) (fun _ _ _ h => h) (fun _ _ _ h => seqB_ready h.1) (Or.inl ⟨by rfl, ?hz6⟩) hS ?rst6
    case hz6 => intro w hSw; (try dsimp only at hSw); obtain ⟨hc0, hc1⟩ := hSw; go_simp; try (with_reducible rfl)
    case rst6 =>
    try simp only [Act.put, List.setIfInBounds_toArray, List.set_cons_zero, List.set_cons_succ]
    refine headH_take (i := 6) (v := ?_) rfl (by kernel_rfl) (fun _ _ _ h => h) (fun _ _ _ h => seqB_ready h.1) (Or.inl ⟨by rfl, ?hz7⟩) hS ?rst7
    case hz7 => intro w hSw; (try dsimp only at hSw); obtain ⟨hc0, hc1⟩ := hSw; go_simp; try (with_reducible rfl)
    case rst7 =>
    try simp only [Act.put, List.setIfInBounds_toArray, List.set_cons_zero, List.set_cons_succ]
    refine headH_take (i := 7) (v := ?_) rfl (by kernel_rfl) (fun _ _ _ h => h) (fun _ _ _ h => seqB_ready h.1) (Or.inl ⟨by rfl, ?hz8⟩) hS ?rst8
    case hz8 => intro w hSw; (try dsimp only at hSw); obtain ⟨hc0, hc1⟩ := hSw; go_simp; try (with_reducible rfl)
    case rst8 =>
    try simp only [Act.put, List.setIfInBounds_toArray, List.set_cons_zero, List.set_cons_succ]
    refine headH_take (i := 8) (v := ?_) rfl (by kernel_rfl) (fun _ _ _ h => h) (fun _ _ _ h => seqB_ready h.1) (Or.inl ⟨by rfl, ?hz9⟩) hS ?rst9
    case hz9 => intro w hSw; (try dsimp only at hSw); obtain ⟨hc0, hc1⟩ := hSw; go_simp; try (with_reducible rfl)
    case rst9 =>
    try simp only [Act.put, List.setIfInBounds_toArray, List.set_cons_zero, List.set_cons_succ]
    refine headH_one (i := 9) (by kernel_rfl) rfl (fun K hK => ?_)
    go_simp
    try rw [hwp]
    refine (HSet.out w1.drew HB1.out.drew hs1).mono ?_
    rintro e w2 ⟨A1n, c1n, rfl, hi, hs, hb0⟩
    have hb : Below w1.heap.size w1 w2 := (Below.refl _ _).drew.trans (hb0.mono (Nat.le_refl _))
    have hs2 : w.heap.size + 3 ≤ w2.heap.size := Nat.le_trans hs1 hb.size
    have XI2 := Lib.hid (XI1.out.keep hb)
    have Q2 := Lib.hid (Q1.out.keep hb)
    have R2 := Lib.hid (R1.out.keep hb)
    have P2 := Lib.hid (P1.out.frm (FrM.of hb))
    have HB2 := Lib.hid (chain HB1.out hb)
    have v1 := (Q2.out.six).2.1
    have z1 := G1.out _ HB2.out
    have f1 := Q2.out.free 1
    have PN2 := Lib.hid (P2.out.pc hs hi)
    clear r0 r1 r2 r3 r4 r5 y0 y1 y2 g1 hi hs hb hb0 hs1
    refine hK.out _ _ (show (fun (w' : World) => w'.cell? ⟨w.heap.size, 1, none⟩ = some (.slice (some ⟨b1, o1, none⟩) l1 c1) ∧ w'.cell? ⟨b1, o1 + t, none⟩ = some (.int .i64 (p : Int))) w2 from ⟨v1, z1⟩) (fun hS => ?_)
    clear hK K hS
    try simp only [Act.put, List.setIfInBounds_toArray, List.set_cons_zero, List.set_cons_succ]
    refine ⟨by kernel_rfl, ?_⟩
    go_upto_region 3 with (fail)
    obtain ⟨w3, hw3⟩ : ∃ x : World, x = w2.setCell ⟨w.heap.size, 1, none⟩ (.slice A1n l1 c1n) := ⟨_, rfl⟩
    have hg3 : w2.grownBy w3 (some (w.heap.size)) := by rw [hw3]; exact grown_set w2 _ _ _
    have Q3 := Lib.hid (show Box w3 (w.heap.size) 26 #[.slice (some ⟨b0, o0, none⟩) l0 c0, .slice A1n l1 c1n, .slice A2 l2 c2, .slice A3 l3 c3, .slice A4 l4 c4, .slice A5 l5 c5] by rw [hw3]; exact Q2.out.put 1 _)
    have R3 := Lib.hid (Box.grown R2.out hg3 (fun e => by injection e with e; omega))
    have XI3 := Lib.hid (Box.grown XI2.out hg3 (fun e => by injection e with e; omega))
    have P3 := Lib.hid (PN2.out.frm (FrM.grown hg3 (show MU M w.heap.size (w.heap.size) from .inr ⟨Nat.le_refl _, by omega⟩)))
    have HB3 := Lib.hid (show Below w.heap.size w w3 by rw [hw3]; exact HB2.out.setCell (p := ⟨w.heap.size, 1, none⟩) (Nat.le_refl _) _)
    rw [← hw3]
    clear hw3 hg3
    have hs3 : w.heap.size + 3 ≤ w3.heap.size := by have := XI3.out.lt; omega
    rw [← HBu.out] at P3
    have hrl := hwr.lol
    have ht8 : t < 8 := by omega
    have hrc := hwr.cel
    have hrh := hwr.chl
    have hbd0 := hwr.ceb
    have hbd1 := hwr.sub
    clear HSet v1 z1 f1 PN2 hs2 G1 P2 Q2 R2 XI2 HB2 P1 Q1 R1 XI1 HB1 XI hwp HBu HCI HEn hpl hpl' hp16 t0 hnm h8 P0 hl1
    have HBs := Lib.hid (show stepS s t = doI (bumpS s t) t (op, (a : Int), nu) by unfold stepS; rw [HIx.out])
    clear hwr HIx HPp hc
    obtain ⟨r0, r1, r2, r3, r4, r5⟩ := Q3.out.six
    obtain ⟨y0, y1, y2⟩ := XI3.out.three3
    clear h012
    rcases hop with rfl | rfl | rfl
    · have hl3 : l3 = 4 := by have := (show Ints w3 A3 l3 s.lo from P3.out.2.2.2.2.1.1).1; have := hrl; omega
      have HL3 := Lib.hid hl3
      have h13 : l3 ≤ 1000 := by omega
      clear hl3
      have HCl := Lib.hid (fun n hn => setF_any (MU M w.heap.size) A3 l3 c3 s.lo w3 (show Ints w3 A3 l3 s.lo from P3.out.2.2.2.2.1.1) (HMb.out _ hs3) h13 a n hn)
      go_wp2_with fail
      refine (HCl.out (t : Int) (by omega)).mono ?_
      rintro e w4 ⟨A3n, c3n, rfl, hi, hs, hb⟩
      have XI4 := Lib.hid (XI3.out.keep hb)
      have Q4 := Lib.hid (Q3.out.keep hb)
      have R4 := Lib.hid (R3.out.keep hb)
      have P4 := Lib.hid (P3.out.frm (FrM.of hb))
      have HB4 := Lib.hid (chain HB3.out hb)
      have f3 := Q4.out.free 3
      have PN4 := Lib.hid (P4.out.lo hs hi)
      clear r0 r1 r2 r3 r4 r5 y0 y1 y2 hi hs hb
      obtain ⟨r0, r1, r2, r3, r4, r5⟩ := Q4.out.six
      go_upto_region 5 with (fail)
      clear r0 r1 r2 r3 r4 r5 f3
      obtain ⟨w5, hw5⟩ : ∃ x : World, x = w4.setCell ⟨w.heap.size, 3, none⟩ (.slice A3n l3 c3n) := ⟨_, rfl⟩
      have hg5 : w4.grownBy w5 (some (w.heap.size)) := by rw [hw5]; exact grown_set w4 _ _ _
      have Q5 := Lib.hid (show Box w5 (w.heap.size) 26 #[.slice (some ⟨b0, o0, none⟩) l0 c0, .slice A1n l1 c1n, .slice A2 l2 c2, .slice A3n l3 c3n, .slice A4 l4 c4, .slice A5 l5 c5] by rw [hw5]; exact Q4.out.put 3 _)
      have R5 := Lib.hid (Box.grown R4.out hg5 (fun e => by injection e with e; omega))
      have XI5 := Lib.hid (Box.grown XI4.out hg5 (fun e => by injection e with e; omega))
      have P5 := Lib.hid (PN4.out.frm (FrM.grown hg5 (show MU M w.heap.size (w.heap.size) from .inr ⟨Nat.le_refl _, by omega⟩)))
      have HB5 := Lib.hid (show Below w.heap.size w w5 by rw [hw5]; exact HB4.out.setCell (p := ⟨w.heap.size, 3, none⟩) (Nat.le_refl _) _)
      rw [← hw5]
      clear hw5 hg5
      have RF := Lib.hid (((((((R5.out.put 0 (.slice (some ⟨b0, o0, none⟩) l0 c0)).put 1 (.slice A1n l1 c1n)).put 2 (.slice A2 l2 c2)).put 3 (.slice A3n l3 c3n)).put 4 (.slice A4 l4 c4)).put 5 (.slice A5 l5 c5)))
      have BF := Lib.hid (((((((HB5.out.setCell (p := ⟨w.heap.size + 1, 0, none⟩) (Nat.le_succ _) (.slice (some ⟨b0, o0, none⟩) l0 c0)).setCell (p := ⟨w.heap.size + 1, 1, none⟩) (Nat.le_succ _) (.slice A1n l1 c1n)).setCell (p := ⟨w.heap.size + 1, 2, none⟩) (Nat.le_succ _) (.slice A2 l2 c2)).setCell (p := ⟨w.heap.size + 1, 3, none⟩) (Nat.le_succ _) (.slice A3n l3 c3n)).setCell (p := ⟨w.heap.size + 1, 4, none⟩) (Nat.le_succ _) (.slice A4 l4 c4)).setCell (p := ⟨w.heap.size + 1, 5, none⟩) (Nat.le_succ _) (.slice A5 l5 c5)))
      have PG := Lib.hid (P5.out.frm (FrM.grown (set6_grown w5 (w.heap.size + 1) (.slice (some ⟨b0, o0, none⟩) l0 c0) (.slice A1n l1 c1n) (.slice A2 l2 c2) (.slice A3n l3 c3n) (.slice A4 l4 c4) (.slice A5 l5 c5)) (show MU M w.heap.size (w.heap.size + 1) from .inr ⟨Nat.le_succ _, by omega⟩)))
      have f0 := R5.out.free 0
      have f1 := R5.out.free 1
      have f2 := R5.out.free 2
      have f3 := R5.out.free 3
      have f4 := R5.out.free 4
      have f5 := R5.out.free 5
      obtain ⟨r0, r1, r2, r3, r4, r5⟩ := Q5.out.six
      obtain ⟨m0, m1, m2, m3, m4, m5⟩ := R5.out.six
      obtain ⟨y0, y1, y2⟩ := XI5.out.three3
      have HD := Lib.hid (show stepS s t = { bumpS s t with lo := s.lo.set a (t : Int) } by rw [HBs.out]; unfold doI; rw [if_pos rfl]; rfl)
      go_wp2_with fail
      refine close_one Try.results24 rfl rfl RF.out Try.underlying26 rfl (by kernel_rfl) ?_
      rw [HD.out]
      exact ⟨_, _, _, _, _, _, _, _, _, _, _, _, _, _, _, rfl, PF.less PG.out, BF.out⟩
    · have hl3 : l3 = 4 := by have := (show Ints w3 A3 l3 s.lo from P3.out.2.2.2.2.1.1).1; have := hrl; omega
      have HL3 := Lib.hid hl3
      have h13 : l3 ≤ 1000 := by omega
      have ha3 : (a : Int) < (l3 : Int) := by omega
      obtain ⟨b3, o3, rfl, hb3, hc3⟩ := (show Ints w3 A3 l3 s.lo from P3.out.2.2.2.2.1.1).2.2 (by omega)
      have cl : w3.cell? ⟨b3, o3 + a, none⟩ = some (.int .i64 (s.lo.getD a 0)) := hc3 a (by omega)
      clear hl3 hc3
      obtain ⟨x, hx⟩ : ∃ x, x = s.lo.getD a 0 := ⟨_, rfl⟩
      rw [← hx] at cl
      have HX := Lib.hid hx
      clear hx
      have HCl := Lib.hid (fun n hn => setF_any (MU M w.heap.size) (some ⟨b3, o3, none⟩) l3 c3 s.lo w3 (show Ints w3 (some ⟨b3, o3, none⟩) l3 s.lo from P3.out.2.2.2.2.1.1) (HMb.out _ hs3) h13 a n hn)
      by_cases q : x = (t : Int)
      · have HQ := Lib.hid q
        have t9 : (x == (t : Int)) = true := by simp; omega
        clear q
        go_wp2_with fail
        refine (HCl.out (-1) (by omega)).mono ?_
        rintro e w4 ⟨A3n, c3n, rfl, hi, hs, hb⟩
        have XI4 := Lib.hid (XI3.out.keep hb)
        have Q4 := Lib.hid (Q3.out.keep hb)
        have R4 := Lib.hid (R3.out.keep hb)
        have P4 := Lib.hid (P3.out.frm (FrM.of hb))
        have HB4 := Lib.hid (chain HB3.out hb)
        have f3 := Q4.out.free 3
        have PN4 := Lib.hid (P4.out.lo hs hi)
        clear r0 r1 r2 r3 r4 r5 y0 y1 y2 hi hs hb
        obtain ⟨r0, r1, r2, r3, r4, r5⟩ := Q4.out.six
        go_upto_region 7 with (fail)
        clear r0 r1 r2 r3 r4 r5 f3
        obtain ⟨w5, hw5⟩ : ∃ x : World, x = w4.setCell ⟨w.heap.size, 3, none⟩ (.slice A3n l3 c3n) := ⟨_, rfl⟩
        have hg5 : w4.grownBy w5 (some (w.heap.size)) := by rw [hw5]; exact grown_set w4 _ _ _
        have Q5 := Lib.hid (show Box w5 (w.heap.size) 26 #[.slice (some ⟨b0, o0, none⟩) l0 c0, .slice A1n l1 c1n, .slice A2 l2 c2, .slice A3n l3 c3n, .slice A4 l4 c4, .slice A5 l5 c5] by rw [hw5]; exact Q4.out.put 3 _)
        have R5 := Lib.hid (Box.grown R4.out hg5 (fun e => by injection e with e; omega))
        have XI5 := Lib.hid (Box.grown XI4.out hg5 (fun e => by injection e with e; omega))
        have P5 := Lib.hid (PN4.out.frm (FrM.grown hg5 (show MU M w.heap.size (w.heap.size) from .inr ⟨Nat.le_refl _, by omega⟩)))
        have HB5 := Lib.hid (show Below w.heap.size w w5 by rw [hw5]; exact HB4.out.setCell (p := ⟨w.heap.size, 3, none⟩) (Nat.le_refl _) _)
        rw [← hw5]
        clear hw5 hg5
        have RF := Lib.hid (((((((R5.out.put 0 (.slice (some ⟨b0, o0, none⟩) l0 c0)).put 1 (.slice A1n l1 c1n)).put 2 (.slice A2 l2 c2)).put 3 (.slice A3n l3 c3n)).put 4 (.slice A4 l4 c4)).put 5 (.slice A5 l5 c5)))
        have BF := Lib.hid (((((((HB5.out.setCell (p := ⟨w.heap.size + 1, 0, none⟩) (Nat.le_succ _) (.slice (some ⟨b0, o0, none⟩) l0 c0)).setCell (p := ⟨w.heap.size + 1, 1, none⟩) (Nat.le_succ _) (.slice A1n l1 c1n)).setCell (p := ⟨w.heap.size + 1, 2, none⟩) (Nat.le_succ _) (.slice A2 l2 c2)).setCell (p := ⟨w.heap.size + 1, 3, none⟩) (Nat.le_succ _) (.slice A3n l3 c3n)).setCell (p := ⟨w.heap.size + 1, 4, none⟩) (Nat.le_succ _) (.slice A4 l4 c4)).setCell (p := ⟨w.heap.size + 1, 5, none⟩) (Nat.le_succ _) (.slice A5 l5 c5)))
        have PG := Lib.hid (P5.out.frm (FrM.grown (set6_grown w5 (w.heap.size + 1) (.slice (some ⟨b0, o0, none⟩) l0 c0) (.slice A1n l1 c1n) (.slice A2 l2 c2) (.slice A3n l3 c3n) (.slice A4 l4 c4) (.slice A5 l5 c5)) (show MU M w.heap.size (w.heap.size + 1) from .inr ⟨Nat.le_succ _, by omega⟩)))
        have f0 := R5.out.free 0
        have f1 := R5.out.free 1
        have f2 := R5.out.free 2
        have f3 := R5.out.free 3
        have f4 := R5.out.free 4
        have f5 := R5.out.free 5
        obtain ⟨r0, r1, r2, r3, r4, r5⟩ := Q5.out.six
        obtain ⟨m0, m1, m2, m3, m4, m5⟩ := R5.out.six
        obtain ⟨y0, y1, y2⟩ := XI5.out.three3
        have HD := Lib.hid (show stepS s t = { bumpS s t with lo := s.lo.set a (-1) } by rw [HBs.out]; unfold doI; rw [if_neg (show ¬ (1 : Int) = 0 by decide), if_pos rfl, if_pos (show (bumpS s t).lo.getD ((1, (a : Int), nu) : InR).2.1.toNat 0 = (t : Int) from (by rw [← HX.out, HQ.out] : s.lo.getD a 0 = (t : Int)))]; rfl)
        go_wp2_with fail
        refine close_one Try.results24 rfl rfl RF.out Try.underlying26 rfl (by kernel_rfl) ?_
        rw [HD.out]
        exact ⟨_, _, _, _, _, _, _, _, _, _, _, _, _, _, _, rfl, PF.less PG.out, BF.out⟩
      · have HQ := Lib.hid q
        have t9 : (x == (t : Int)) = false := by simp; omega
        clear q
        have RF := Lib.hid (((((((R3.out.put 0 (.slice (some ⟨b0, o0, none⟩) l0 c0)).put 1 (.slice A1n l1 c1n)).put 2 (.slice A2 l2 c2)).put 3 (.slice (some ⟨b3, o3, none⟩) l3 c3)).put 4 (.slice A4 l4 c4)).put 5 (.slice A5 l5 c5)))
        have BF := Lib.hid (((((((HB3.out.setCell (p := ⟨w.heap.size + 1, 0, none⟩) (Nat.le_succ _) (.slice (some ⟨b0, o0, none⟩) l0 c0)).setCell (p := ⟨w.heap.size + 1, 1, none⟩) (Nat.le_succ _) (.slice A1n l1 c1n)).setCell (p := ⟨w.heap.size + 1, 2, none⟩) (Nat.le_succ _) (.slice A2 l2 c2)).setCell (p := ⟨w.heap.size + 1, 3, none⟩) (Nat.le_succ _) (.slice (some ⟨b3, o3, none⟩) l3 c3)).setCell (p := ⟨w.heap.size + 1, 4, none⟩) (Nat.le_succ _) (.slice A4 l4 c4)).setCell (p := ⟨w.heap.size + 1, 5, none⟩) (Nat.le_succ _) (.slice A5 l5 c5)))
        have PG := Lib.hid (P3.out.frm (FrM.grown (set6_grown w3 (w.heap.size + 1) (.slice (some ⟨b0, o0, none⟩) l0 c0) (.slice A1n l1 c1n) (.slice A2 l2 c2) (.slice (some ⟨b3, o3, none⟩) l3 c3) (.slice A4 l4 c4) (.slice A5 l5 c5)) (show MU M w.heap.size (w.heap.size + 1) from .inr ⟨Nat.le_succ _, by omega⟩)))
        have f0 := R3.out.free 0
        have f1 := R3.out.free 1
        have f2 := R3.out.free 2
        have f3 := R3.out.free 3
        have f4 := R3.out.free 4
        have f5 := R3.out.free 5
        obtain ⟨r0, r1, r2, r3, r4, r5⟩ := Q3.out.six
        obtain ⟨m0, m1, m2, m3, m4, m5⟩ := R3.out.six
        obtain ⟨y0, y1, y2⟩ := XI3.out.three3
        have HD := Lib.hid (show stepS s t = bumpS s t by rw [HBs.out]; unfold doI; rw [if_neg (show ¬ (1 : Int) = 0 by decide), if_pos rfl, if_neg (show ¬ (bumpS s t).lo.getD ((1, (a : Int), nu) : InR).2.1.toNat 0 = (t : Int) from (by rw [← HX.out]; exact HQ.out : ¬ s.lo.getD a 0 = (t : Int)))])
        go_wp2_with fail
        refine close_one Try.results24 rfl rfl RF.out Try.underlying26 rfl (by kernel_rfl) ?_
        rw [HD.out]
        exact ⟨_, _, _, _, _, _, _, _, _, _, _, _, _, _, _, rfl, PF.less PG.out, BF.out⟩
    · have hl4 : l4 = 4 := by have := (show Ints w3 A4 l4 s.ce from P3.out.2.2.2.2.2.1.1).1; have := hrc; omega
      have h14 : l4 ≤ 1000 := by omega
      have ha4 : (a : Int) < (l4 : Int) := by omega
      obtain ⟨b4, o4, rfl, hb4, hc4⟩ := (show Ints w3 A4 l4 s.ce from P3.out.2.2.2.2.2.1.1).2.2 (by omega)
      have cl : w3.cell? ⟨b4, o4 + a, none⟩ = some (.int .i64 (s.ce.getD a 0)) := hc4 a (by omega)
      have hbd := hbd0 a
      clear hl4 hc4
      obtain ⟨x, hx⟩ : ∃ x, x = s.ce.getD a 0 := ⟨_, rfl⟩
      rw [← hx] at cl hbd
      have HX := Lib.hid hx
      clear hx
      have hwx : IntKind.i64.wrap (x + nu) = x + nu := IntWalk.i64_in _ (by omega)
      have HCl := Lib.hid (fun wx (hb : Below w3.heap.size w3 wx) => setF_any (MU M w.heap.size) (some ⟨b4, o4, none⟩) l4 c4 s.ce wx (Ints.below (show Ints w3 (some ⟨b4, o4, none⟩) l4 s.ce from P3.out.2.2.2.2.2.1.1) hb) (HMb.out _ (Nat.le_trans hs3 hb.size)) h14 a (x + nu) (by omega))
      have Cl := Lib.hid (fun wx (hb : Below w3.heap.size w3 wx) => (hb.cell (p := ⟨b4, o4 + a, none⟩) hb4).trans cl)
      go_upto_region 8 with (fail)
      refine wp_held_tail (S := (fun (w' : World) => w'.cell? ⟨w.heap.size, 4, none⟩ = some (.slice (some ⟨b4, o4, none⟩) l4 c4) ∧ w'.cell? ⟨w.heap.size + 2, 1, none⟩ = some (.int .i64 (a : Int)) ∧ w'.cell? ⟨w.heap.size + 2, 2, none⟩ = some (.int .i64 nu) ∧ w'.cell? ⟨b4, o4 + a, none⟩ = some (.int .i64 x))) 14 (by kernel_rfl) (by decide) ?_
      have hS : (fun (w' : World) => w'.cell? ⟨w.heap.size, 4, none⟩ = some (.slice (some ⟨b4, o4, none⟩) l4 c4) ∧ w'.cell? ⟨w.heap.size + 2, 1, none⟩ = some (.int .i64 (a : Int)) ∧ w'.cell? ⟨w.heap.size + 2, 2, none⟩ = some (.int .i64 nu) ∧ w'.cell? ⟨b4, o4 + a, none⟩ = some (.int .i64 x)) w3.drew := ⟨r4, y1, y2, cl⟩
      refine headH_take (i := 0) (v := ?_) rfl (by kernel_rfl) (fun _ _ _ h => h) (fun _ _ _ h => seqB_ready h.1) (Or.inl ⟨by rfl, ?hz10⟩) hS ?rst10
      case hz10 => intro w hSw; (try dsimp only at hSw); obtain ⟨hc0, hc1, hc2, hc3⟩ := hSw; go_simp; try (with_reducible rfl)
      case rst10 =>
      try simp only [Act.put, List.setIfInBounds_toArray, List.set_cons_zero, List.set_cons_succ]
      refine headH_take (i := 1) (v := ?_) rfl (by kernel_rfl) (fun _ _ _ h => h) (fun _ _ _ h => seqB_ready h.1) (Or.inl ⟨by rfl, ?hz11⟩) hS ?rst11
      case hz11 => intro w hSw; (try dsimp only at hSw); obtain ⟨hc0, hc1, hc2, hc3⟩ := hSw; go_simp; try (with_reducible rfl)
      case rst11 =>
      try simp only [Act.put, List.setIfInBounds_toArray, List.set_cons_zero, List.set_cons_succ]
      refine headH_take (i := 2) (v := ?_) rfl (by kernel_rfl) (fun _ _ _ h => h) (fun _ _ _ h => seqB_ready h.1) (Or.inl ⟨by rfl, ?hz12⟩) hS ?rst12
      case hz12 => intro w hSw; (try dsimp only at hSw); obtain ⟨hc0, hc1, hc2, hc3⟩ := hSw; go_simp; try (with_reducible rfl)
      case rst12 =>
      try simp only [Act.put, List.setIfInBounds_toArray, List.set_cons_zero, List.set_cons_succ]
      refine headH_take (i := 3) (v := ?_) rfl (by kernel_rfl) (fun _ _ _ h => h) (fun _ _ _ h => seqB_ready h.1) (Or.inl ⟨by rfl, ?hz13⟩) hS ?rst13
      case hz13 => intro w hSw; (try dsimp only at hSw); obtain ⟨hc0, hc1, hc2, hc3⟩ := hSw; go_simp; try (with_reducible rfl)
      case rst13 =>
      try simp only [Act.put, List.setIfInBounds_toArray, List.set_cons_zero, List.set_cons_succ]
      refine headH_take (i := 4) (v := ?_) rfl (by kernel_rfl) (fun _ _ _ h => h) (fun _ _ _ h => seqB_ready h.1) (Or.inl ⟨by rfl, ?hz14⟩) hS ?rst14
      case hz14 => intro w hSw; (try dsimp only at hSw); obtain ⟨hc0, hc1, hc2, hc3⟩ := hSw; go_simp; try (with_reducible rfl)
      case rst14 =>
      try simp only [Act.put, List.setIfInBounds_toArray, List.set_cons_zero, List.set_cons_succ]
      refine headH_take (i := 5) (v := ?_) rfl (by kernel_rfl) (fun _ _ _ h => h) (fun _ _ _ h => seqB_ready h.1) (Or.inl ⟨by rfl, ?hz15⟩) hS ?rst15
      case hz15 => intro w hSw; (try dsimp only at hSw); obtain ⟨hc0, hc1, hc2, hc3⟩ := hSw; go_simp; try (with_reducible rfl)
      case rst15 =>
      try simp only [Act.put, List.setIfInBounds_toArray, List.set_cons_zero, List.set_cons_succ]
      refine headH_take (i := 6) (v := ?_) rfl (by kernel_rfl) (fun _ _ _ h => h) (fun _ _ _ h => seqB_ready h.1) (Or.inl ⟨by rfl, ?hz16⟩) hS ?rst16
      case hz16 => intro w hSw; (try dsimp only at hSw); obtain ⟨hc0, hc1, hc2, hc3⟩ := hSw; go_simp; try (with_reducible rfl)
      case rst16 =>
      try simp only [Act.put, List.setIfInBounds_toArray, List.set_cons_zero, List.set_cons_succ]
      refine headH_take (i := 7) (v := ?_) rfl (by kernel_rfl) (fun _ _ _ h => h) (fun _ _ _ h => seqB_ready h.1) (Or.inl ⟨by rfl, ?hz17⟩) hS ?rst17
      case hz17 => intro w hSw; (try dsimp only at hSw); obtain ⟨hc0, hc1, hc2, hc3⟩ := hSw; go_simp; try (with_reducible rfl)
      case rst17 =>
      try simp only [Act.put, List.setIfInBounds_toArray, List.set_cons_zero, List.set_cons_succ]
      refine headH_take (i := 8) (v := ?_) rfl (by kernel_rfl) (fun _ _ _ h => h) (fun _ _ _ h => seqB_ready h.1) (Or.inl ⟨by rfl, ?hz18⟩) hS ?rst18
      case hz18 => intro w hSw; (try dsimp only at hSw); obtain ⟨hc0, hc1, hc2, hc3⟩ := hSw; go_simp; try (with_reducible rfl)
      case rst18 =>
      try simp only [Act.put, List.setIfInBounds_toArray, List.set_cons_zero, List.set_cons_succ]
      refine headH_take (i := 9) (v := ?_) rfl (by kernel_rfl) (fun _ _ _ h => h) (fun _ _ _ h => seqB_ready h.1) (Or.inl ⟨by rfl, ?hz19⟩) hS ?rst19
      case hz19 => intro w hSw; (try dsimp only at hSw); obtain ⟨hc0, hc1, hc2, hc3⟩ := hSw; go_simp; try (with_reducible rfl)
      case rst19 =>
      try simp only [Act.put, List.setIfInBounds_toArray, List.set_cons_zero, List.set_cons_succ]
      refine headH_take (i := 10) (v := ?_) rfl (by kernel_rfl) (fun _ _ _ h => h) (fun _ _ _ h => seqB_ready h.1) (Or.inl ⟨by rfl, ?hz20⟩) hS ?rst20
      case hz20 => intro w hSw; (try dsimp only at hSw); obtain ⟨hc0, hc1, hc2, hc3⟩ := hSw; go_simp; try (with_reducible rfl)
      case rst20 =>
      try simp only [Act.put, List.setIfInBounds_toArray, List.set_cons_zero, List.set_cons_succ]
      refine headH_take (i := 11) (v := ?_) rfl (by kernel_rfl) (fun _ _ _ h => h) (fun _ _ _ h => seqB_ready h.1) (Or.inl ⟨by rfl, ?hz21⟩) hS ?rst21
      case hz21 => intro w hSw; (try dsimp only at hSw); obtain ⟨hc0, hc1, hc2, hc3⟩ := hSw; go_simp; try (with_reducible rfl)
      case rst21 =>
      try simp only [Act.put, List.setIfInBounds_toArray, List.set_cons_zero, List.set_cons_succ]
      refine headH_take (i := 12) (v := ?_) rfl (by kernel_rfl) (fun _ _ _ h => h) (fun _ _ _ h => seqB_ready h.1) (Or.inl ⟨by rfl, ?hz22⟩) hS ?rst22
      case hz22 => intro w hSw; (try dsimp only at hSw); obtain ⟨hc0, hc1, hc2, hc3⟩ := hSw; go_simp; try (with_reducible rfl)
      case rst22 =>
      try simp only [Act.put, List.setIfInBounds_toArray, List.set_cons_zero, List.set_cons_succ]
      refine headH_one (i := 13) (by kernel_rfl) rfl (fun K hK => ?_)
      go_simp
      try rw [hwx]
      refine (HCl.out w3.drew (Below.refl _ _).drew).mono ?_
      rintro e w4 ⟨A4n, c4n, rfl, hi, hs, hb0⟩
      have hb : Below w3.heap.size w3 w4 := (Below.refl _ _).drew.trans (hb0.mono (Nat.le_refl _))
      have XI4 := Lib.hid (XI3.out.keep hb)
      have Q4 := Lib.hid (Q3.out.keep hb)
      have R4 := Lib.hid (R3.out.keep hb)
      have P4 := Lib.hid (P3.out.frm (FrM.of hb))
      have HB4 := Lib.hid (chain HB3.out hb)
      have v4 := (Q4.out.six).2.2.2.2.1
      have z4 := Cl.out _ hb
      have v1 := (XI4.out.three3).2.1
      have v2 := (XI4.out.three3).2.2
      have f4 := Q4.out.free 4
      have PN4 := Lib.hid (P4.out.ce hs hi)
      clear r0 r1 r2 r3 r4 r5 y0 y1 y2 cl hi hs hb hb0
      refine hK.out _ _ (show (fun (w' : World) => w'.cell? ⟨w.heap.size, 4, none⟩ = some (.slice (some ⟨b4, o4, none⟩) l4 c4) ∧ w'.cell? ⟨w.heap.size + 2, 1, none⟩ = some (.int .i64 (a : Int)) ∧ w'.cell? ⟨w.heap.size + 2, 2, none⟩ = some (.int .i64 nu) ∧ w'.cell? ⟨b4, o4 + a, none⟩ = some (.int .i64 x)) w4 from ⟨v4, v1, v2, z4⟩) (fun hS => ?_)
      clear hK K hS
      try simp only [Act.put, List.setIfInBounds_toArray, List.set_cons_zero, List.set_cons_succ]
      refine ⟨by kernel_rfl, ?_⟩
      go_upto_region 9 with (fail)
      obtain ⟨w5, hw5⟩ : ∃ x : World, x = w4.setCell ⟨w.heap.size, 4, none⟩ (.slice A4n l4 c4n) := ⟨_, rfl⟩
      have hg5 : w4.grownBy w5 (some (w.heap.size)) := by rw [hw5]; exact grown_set w4 _ _ _
      have Q5 := Lib.hid (show Box w5 (w.heap.size) 26 #[.slice (some ⟨b0, o0, none⟩) l0 c0, .slice A1n l1 c1n, .slice A2 l2 c2, .slice A3 l3 c3, .slice A4n l4 c4n, .slice A5 l5 c5] by rw [hw5]; exact Q4.out.put 4 _)
      have R5 := Lib.hid (Box.grown R4.out hg5 (fun e => by injection e with e; omega))
      have XI5 := Lib.hid (Box.grown XI4.out hg5 (fun e => by injection e with e; omega))
      have P5 := Lib.hid (PN4.out.frm (FrM.grown hg5 (show MU M w.heap.size (w.heap.size) from .inr ⟨Nat.le_refl _, by omega⟩)))
      have HB5 := Lib.hid (show Below w.heap.size w w5 by rw [hw5]; exact HB4.out.setCell (p := ⟨w.heap.size, 4, none⟩) (Nat.le_refl _) _)
      rw [← hw5]
      clear hw5 hg5
      clear f4 v4 v1 v2 z4
      have RF := Lib.hid (((((((R5.out.put 0 (.slice (some ⟨b0, o0, none⟩) l0 c0)).put 1 (.slice A1n l1 c1n)).put 2 (.slice A2 l2 c2)).put 3 (.slice A3 l3 c3)).put 4 (.slice A4n l4 c4n)).put 5 (.slice A5 l5 c5)))
      have BF := Lib.hid (((((((HB5.out.setCell (p := ⟨w.heap.size + 1, 0, none⟩) (Nat.le_succ _) (.slice (some ⟨b0, o0, none⟩) l0 c0)).setCell (p := ⟨w.heap.size + 1, 1, none⟩) (Nat.le_succ _) (.slice A1n l1 c1n)).setCell (p := ⟨w.heap.size + 1, 2, none⟩) (Nat.le_succ _) (.slice A2 l2 c2)).setCell (p := ⟨w.heap.size + 1, 3, none⟩) (Nat.le_succ _) (.slice A3 l3 c3)).setCell (p := ⟨w.heap.size + 1, 4, none⟩) (Nat.le_succ _) (.slice A4n l4 c4n)).setCell (p := ⟨w.heap.size + 1, 5, none⟩) (Nat.le_succ _) (.slice A5 l5 c5)))
      have PG := Lib.hid (P5.out.frm (FrM.grown (set6_grown w5 (w.heap.size + 1) (.slice (some ⟨b0, o0, none⟩) l0 c0) (.slice A1n l1 c1n) (.slice A2 l2 c2) (.slice A3 l3 c3) (.slice A4n l4 c4n) (.slice A5 l5 c5)) (show MU M w.heap.size (w.heap.size + 1) from .inr ⟨Nat.le_succ _, by omega⟩)))
      have f0 := R5.out.free 0
      have f1 := R5.out.free 1
      have f2 := R5.out.free 2
      have f3 := R5.out.free 3
      have f4 := R5.out.free 4
      have f5 := R5.out.free 5
      obtain ⟨r0, r1, r2, r3, r4, r5⟩ := Q5.out.six
      obtain ⟨m0, m1, m2, m3, m4, m5⟩ := R5.out.six
      obtain ⟨y0, y1, y2⟩ := XI5.out.three3
      have HD := Lib.hid (show stepS s t = { bumpS s t with ce := s.ce.set a (x + nu) } by rw [HBs.out]; unfold doI; rw [if_neg (show ¬ (2 : Int) = 0 by decide), if_neg (show ¬ (2 : Int) = 1 by decide), if_pos rfl, HX.out]; rfl)
      go_wp2_with fail
      refine close_one Try.results24 rfl rfl RF.out Try.underlying26 rfl (by kernel_rfl) ?_
      rw [HD.out]
      exact ⟨_, _, _, _, _, _, _, _, _, _, _, _, _, _, _, rfl, PF.less PG.out, BF.out⟩
end Go.Proofs.Ytcamoigcfiemhaa
