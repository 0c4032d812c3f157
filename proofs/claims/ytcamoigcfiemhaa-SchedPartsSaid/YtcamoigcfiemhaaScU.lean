/- Layer 20: the reference's Step, receive. -/
import Derived.Test.YtcamoigcfiemhaaScS
namespace Go.Proofs.Ytcamoigcfiemhaa
set_option linter.unusedVariables false
set_option linter.unusedSimpArgs false
open Go.RowKit Go.Lib
set_option maxRecDepth 100000
theorem In64.snoc {zs : List Int} (h : In64 zs) {x : Int} (hx : -9223372036854775808 ≤ x ∧ x ≤ 9223372036854775807) : In64 (zs ++ [x]) := fun j => by
  by_cases q : j < zs.length
  · have := h j
    simpa [List.getD, List.getElem?_append_left q] using this
  · by_cases q2 : j = zs.length
    · subst q2; simpa [List.getD] using hx
    · have : (zs ++ [x])[j]? = none := List.getElem?_eq_none (by simp; omega)
      simp [List.getD, this]
set_option maxHeartbeats 16000000 in
theorem refStep3x_any (M : Nat → Prop) (w0 w : World) (s : Sys) (A0 : Option Addr) (l0 c0 : Nat) (A1 : Option Addr) (l1 c1 : Nat) (A2 : Option Addr) (l2 c2 : Nat) (A3 : Option Addr) (l3 c3 : Nat) (A4 : Option Addr) (l4 c4 : Nat) (A5 : Option Addr) (l5 c5 : Nat) (h : PF M w0 w s A0 l0 c0 A1 l1 c1 A2 l2 c2 A3 l3 c3 A4 l4 c4 A5 l5 c5) (hB0 : Below w0.heap.size w0 w) (hM : ∀ g, M g → g < w.heap.size) (k : Nat) (hwr : WR k s) (hk : k ≤ 900) (t : Nat) (ht : t < s.th.length) (hc : canS s t = true) (h012 : (insAt s t).1 = 3) : Calls Try.prog 24 #[.agg #[.slice A0 l0 c0, .slice A1 l1 c1, .slice A2 l2 c2, .slice A3 l3 c3, .slice A4 l4 c4, .slice A5 l5 c5], .int .i64 (t : Int)] w (StepF M w0 w (stepS s t) A0 l0 c0) := by
  have h8 := hwr.n8
  have HNm := Lib.hid ((hwr.step ht hc).nums (by omega))
  have hnm := (h.sys hB0).nums
  obtain ⟨⟨s0, s1, s2, s3, s4, s5⟩, h0', hf1, hf2, hf3, hf4, hf5⟩ := h
  have h0 : Thr w A0 l0 s.th := Thr.below h0' hB0
  have h1 : Ints w A1 l1 s.pc := hf1.1
  have HMb := Lib.hid (show ∀ n, w.heap.size + 3 ≤ n → ∀ g, MU M w.heap.size g → g < n from fun n hn g h => by rcases h with h | h; (have := hM g h; omega); omega)
  have P0 := Lib.hid (show PF (MU M w.heap.size) w0 w s A0 l0 c0 A1 l1 c1 A2 l2 c2 A3 l3 c3 A4 l4 c4 A5 l5 c5 from ⟨⟨s0, s1, s2, s3, s4, s5⟩, h0', hf1.more, hf2.more, hf3.more, hf4.more, hf5.more⟩)
  have t0 : (t : Int) < (l0 : Int) := by have := h0.1; omega
  have t1 : (t : Int) < (l1 : Int) := by have := h1.1; have := hwr.pcl; omega
  have hl1 : l1 ≤ 1000 := by have := h1.1; have := hwr.pcl; omega
  obtain ⟨b0, o0, B, n, d, rfl, hb0, g0, -, hq⟩ := h0.at t (by omega)
  obtain ⟨b1, o1, rfl, hb1, hc1⟩ := h1.2.2 (by omega)
  have g1 := hc1 t (by omega)
  have G0 := Lib.hid (fun wx (hb : Below w.heap.size w wx) => (hb.cell (p := ⟨b0, o0 + t, none⟩) hb0).trans g0)
  have hrow := hwr.row t ht
  have hnl : (s.th.getD t []).length = n := hq.1
  have HEn := Lib.hid (show endS s t = false by cases e : endS s t with | false => rfl | true => simp [canS, e] at hc)
  obtain ⟨hlt, hin⟩ := hwr.next ht HEn.out
  have HCI := Lib.hid (show canI s (insAt s t) = true by simp [canS, HEn.out] at hc; exact hc)
  obtain ⟨p, hp⟩ := Nat.of_int hrow.2.1
  have hpl : p < n := by rw [hp, hnl] at hlt; simpa using hlt
  have hpl' : (p : Int) < (n : Int) := by omega
  have HPp := Lib.hid hp
  rw [hp] at g1
  have G1 := Lib.hid (fun wx (hb : Below w.heap.size w wx) => (hb.cell (p := ⟨b1, o1 + t, none⟩) hb1).trans g1)
  have hp16 : p < 16 := by have := hrow.1; rw [hnl] at this; omega
  obtain ⟨b2, o2, rfl, hb2, x0, x1, x2⟩ := Inss.cells hq (Below.refl _ _) p hpl
  have hix : insAt s t = (s.th.getD t []).getD p default := by unfold insAt; rw [hp]; rfl
  rw [← hix] at x0 x1 x2
  obtain ⟨xi, hxi⟩ : ∃ xi, xi = insAt s t := ⟨_, rfl⟩
  rw [← hxi] at x0 x1 x2 hin HCI h012
  have HIx := Lib.hid hxi.symm
  clear hxi hix hp hlt hrow hnl hc1 g0 g1 hb0 hb1 h1 hf1 hf2 hf3 hf4 hf5 s0 s1 s2 s3 s4 s5 hq h0 h0' hM hB0
  obtain ⟨op, na, nu⟩ := xi
  obtain ⟨i0, i1, i2, i3, i4, i5⟩ := inB_parts hin
  obtain ⟨a, rfl⟩ : ∃ a : Nat, na = (a : Int) := Nat.of_int i2
  have ha : a < 4 := by have i3 : (a : Int) ≤ 3 := i3; omega
  have hnu1 : -1000 ≤ nu := i4
  have hnu2 : nu ≤ 1000 := i5
  have X0 := Lib.hid (fun wx (hb : Below w.heap.size w wx) => (hb.cell (p := ⟨b2, o2 + p * 3, none⟩) hb2).trans (show w.cell? ⟨b2, o2 + p * 3, none⟩ = some (.int .i64 op) from x0))
  have X1 := Lib.hid (fun wx (hb : Below w.heap.size w wx) => (hb.cell (p := ⟨b2, o2 + p * 3 + 1, none⟩) hb2).trans (show w.cell? ⟨b2, o2 + p * 3 + 1, none⟩ = some (.int .i64 (a : Int)) from x1))
  have X2 := Lib.hid (fun wx (hb : Below w.heap.size w wx) => (hb.cell (p := ⟨b2, o2 + p * 3 + 2, none⟩) hb2).trans (show w.cell? ⟨b2, o2 + p * 3 + 2, none⟩ = some (.int .i64 nu) from x2))
  have hop := Lib.hid (show op = 3 from h012)
  clear h012
  clear x0 x1 x2 hb2 i0 i1 i2 i3 i4 i5 hin
  have b2' : Below w.heap.size w ((w.alloc (.cells #[.slice (some ⟨b0, o0, none⟩) l0 c0, .slice (some ⟨b1, o1, none⟩) l1 c1, .slice A2 l2 c2, .slice A3 l3 c3, .slice A4 l4 c4, .slice A5 l5 c5] 26)).alloc (.cells #[.slice none 0 0, .slice none 0 0, .slice none 0 0, .slice none 0 0, .slice none 0 0, .slice none 0 0] 26)) := ((Below.refl w.heap.size w).alloc (Nat.le_refl _) _).alloc (by simp) _
  have hB2 := Lib.hid b2'
  have q1 := Box.new (w.alloc (.cells #[.slice (some ⟨b0, o0, none⟩) l0 c0, .slice (some ⟨b1, o1, none⟩) l1 c1, .slice A2 l2 c2, .slice A3 l3 c3, .slice A4 l4 c4, .slice A5 l5 c5] 26)) 26 #[.slice none 0 0, .slice none 0 0, .slice none 0 0, .slice none 0 0, .slice none 0 0, .slice none 0 0]
  simp only [World.size_alloc] at q1
  have R0 := Lib.hid q1
  have Q0 := Lib.hid ((Box.new w 26 #[.slice (some ⟨b0, o0, none⟩) l0 c0, .slice (some ⟨b1, o1, none⟩) l1 c1, .slice A2 l2 c2, .slice A3 l3 c3, .slice A4 l4 c4, .slice A5 l5 c5]).alloc (.cells #[.slice none 0 0, .slice none 0 0, .slice none 0 0, .slice none 0 0, .slice none 0 0, .slice none 0 0] 26))
  clear q1 b2'
  obtain ⟨r0, r1, r2, r3, r4, r5⟩ := Q0.out.six
  go_enter Try.func24, Try.ntmps24
  go_upto_region 1 with (fail)
  go_cut [5] (fun v wx => v = .pointer (some ⟨w.heap.size + 2, 0, none⟩) ∧ Hid (Box wx (w.heap.size + 2) 57 #[.int .i64 op, .int .i64 (a : Int), .int .i64 nu]) ∧ Hid (Box wx w.heap.size 26 #[.slice (some ⟨b0, o0, none⟩) l0 c0, .slice (some ⟨b1, o1, none⟩) l1 c1, .slice A2 l2 c2, .slice A3 l3 c3, .slice A4 l4 c4, .slice A5 l5 c5]) ∧ Hid (Box wx (w.heap.size + 1) 26 #[.slice none 0 0, .slice none 0 0, .slice none 0 0, .slice none 0 0, .slice none 0 0, .slice none 0 0]) ∧ Hid (Below w.heap.size w wx))
  case first =>
    have HBz := hB2.out.alloc hB2.out.size (.cells #[.int .i64 0, .int .i64 0, .int .i64 0] 57)
    have g0 := G0.out _ HBz
    have g1 := G1.out _ HBz
    have x0 := X0.out _ HBz
    have x1 := X1.out _ HBz
    have x2 := X2.out _ HBz
    have xz := Box.new ((w.alloc (.cells #[.slice (some ⟨b0, o0, none⟩) l0 c0, .slice (some ⟨b1, o1, none⟩) l1 c1, .slice A2 l2 c2, .slice A3 l3 c3, .slice A4 l4 c4, .slice A5 l5 c5] 26)).alloc (.cells #[.slice none 0 0, .slice none 0 0, .slice none 0 0, .slice none 0 0, .slice none 0 0, .slice none 0 0] 26)) 57 #[.int .i64 0, .int .i64 0, .int .i64 0]
    have xv := Box.new ((w.alloc (.cells #[.slice (some ⟨b0, o0, none⟩) l0 c0, .slice (some ⟨b1, o1, none⟩) l1 c1, .slice A2 l2 c2, .slice A3 l3 c3, .slice A4 l4 c4, .slice A5 l5 c5] 26)).alloc (.cells #[.slice none 0 0, .slice none 0 0, .slice none 0 0, .slice none 0 0, .slice none 0 0, .slice none 0 0] 26)) 57 #[.int .i64 op, .int .i64 (a : Int), .int .i64 nu]
    simp only [World.size_alloc] at xz xv
    have XZ := Lib.hid xz
    have XV := Lib.hid xv
    have QZ := Lib.hid (Q0.out.alloc (.cells #[.int .i64 0, .int .i64 0, .int .i64 0] 57))
    have g0' := G0.out _ hB2.out
    have g1' := G1.out _ hB2.out
    have x0' := X0.out _ hB2.out
    have x1' := X1.out _ hB2.out
    have x2' := X2.out _ hB2.out
    clear HBz xz xv
    obtain ⟨r0', r1', r2', r3', r4', r5'⟩ := QZ.out.six
    obtain ⟨y0, y1, y2⟩ := XZ.out.three3
    have f0 := XZ.out.free 0
    have f1 := XZ.out.free 1
    have f2 := XZ.out.free 2
    go_region
    all_goals
      go_wp2_with fail
      go_meet
      exact ⟨rfl, Lib.hid XV.out.drew, Lib.hid (Q0.out.alloc _).drew, Lib.hid (R0.out.alloc _).drew, Lib.hid (hB2.out.alloc hB2.out.size _).drew⟩
  case rest =>
    obtain ⟨rfl, XI, Q1, R1, HB1⟩ := hcut
    obtain ⟨w1, hw1⟩ : ∃ x : World, x = wc := ⟨_, rfl⟩
    subst hw1
    clear r0 r1 r2 r3 r4 r5 Q0 R0 hB2 X0 X1 X2 G0
    have P1 := Lib.hid (P0.out.frm (FrM.of HB1.out))
    obtain ⟨r0, r1, r2, r3, r4, r5⟩ := Q1.out.six
    obtain ⟨y0, y1, y2⟩ := XI.out.three3
    have g1 := G1.out _ HB1.out
    go_upto_region 2 with (fail)
    have hwp : IntKind.i64.wrap ((p : Int) + 1) = (p : Int) + 1 := IntWalk.i64_in _ (by omega)
    have HSet := Lib.hid (fun wx (hb : Below w.heap.size w wx) (hs : w.heap.size + 3 ≤ wx.heap.size) => setF_any (MU M w.heap.size) (some ⟨b1, o1, none⟩) l1 c1 s.pc wx (Ints.below P0.out.2.2.1.1 hb) (HMb.out _ hs) hl1 t ((p : Int) + 1) (by omega))
    have HBu := Lib.hid (show bumpS s t = { s with pc := s.pc.set t ((p : Int) + 1) } by unfold bumpS; rw [HPp.out])
    have XI1 := XI
    have hs1 : w.heap.size + 3 ≤ w1.heap.size := by have := XI1.out.lt; omega
    refine wp_held_tail (S := (fun (w' : World) => w'.cell? ⟨w.heap.size, 1, none⟩ = some (.slice (some ⟨b1, o1, none⟩) l1 c1) ∧ w'.cell? ⟨b1, o1 + t, none⟩ = some (.int .i64 (p : Int)))) 10 (by kernel_rfl) (by decide) ?_
    have hS : (fun (w' : World) => w'.cell? ⟨w.heap.size, 1, none⟩ = some (.slice (some ⟨b1, o1, none⟩) l1 c1) ∧ w'.cell? ⟨b1, o1 + t, none⟩ = some (.int .i64 (p : Int))) w1.drew := ⟨r1, g1⟩
    refine headH_take (i := 0) (v := ?_) rfl (by kernel_rfl) (fun _ _ _ h => h) (fun _ _ _ h => seqB_ready h.1) (Or.inl ⟨by rfl, ?hz1⟩) hS ?rst1
    case hz1 => intro w hSw; (try dsimp only at hSw); obtain ⟨hc0, hc1⟩ := hSw; go_simp; try (with_reducible rfl)
    case rst1 =>
    try simp only [Act.put, List.setIfInBounds_toArray, List.set_cons_zero, List.set_cons_succ]
    refine headH_take (i := 1) (v := ?_) rfl (by kernel_rfl) (fun _ _ _ h => h) (fun _ _ _ h => seqB_ready h.1) (Or.inl ⟨by rfl, ?hz2⟩) hS ?rst2
    case hz2 => intro w hSw; (try dsimp only at hSw); obtain ⟨hc0, hc1⟩ := hSw; go_simp; try (with_reducible rfl)
    case rst2 =>
    try simp only [Act.put, List.setIfInBounds_toArray, List.set_cons_zero, List.set_cons_succ]
    refine headH_take (i := 2) (v := ?_) rfl (by kernel_rfl) (fun _ _ _ h => h) (fun _ _ _ h => seqB_ready h.1) (Or.inl ⟨by rfl, ?hz3⟩) hS ?rst3
    case hz3 => intro w hSw; (try dsimp only at hSw); obtain ⟨hc0, hc1⟩ := hSw; go_simp; try (with_reducible rfl)
    case rst3 =>
    try simp only [Act.put, List.setIfInBounds_toArray, List.set_cons_zero, List.set_cons_succ]
    refine headH_take (i := 3) (v := ?_) rfl (by kernel_rfl) (fun _ _ _ h => h) (fun _ _ _ h => seqB_ready h.1) (Or.inl ⟨by rfl, ?hz4⟩) hS ?rst4
    case hz4 => intro w hSw; (try dsimp only at hSw); obtain ⟨hc0, hc1⟩ := hSw; go_simp; try (with_reducible rfl)
    case rst4 =>
    try simp only [Act.put, List.setIfInBounds_toArray, List.set_cons_zero, List.set_cons_succ]
    refine headH_take (i := 4) (v := ?_) rfl (by kernel_rfl) (fun _ _ _ h => h) (fun _ _ _ h => seqB_ready h.1) (Or.inl ⟨by rfl, ?hz5⟩) hS ?rst5
    case hz5 => intro w hSw; (try dsimp only at hSw); obtain ⟨hc0, hc1⟩ := hSw; go_simp; try (with_reducible rfl)
    case rst5 =>
    try simp only [Act.put, List.setIfInBounds_toArray, List.set_cons_zero, List.set_cons_succ]
    refine headH_take (i := 5) (v := ?_) rfl (by kernel_rfl) (fun _ _ _ h => h) (fun _ _ _ h => seqB_ready h.1) (Or.inl ⟨by rfl, ?hz6⟩) hS ?rst6
    case hz6 => intro w hSw; (try dsimp only at hSw); obtain ⟨hc0, hc1⟩ := hSw; go_simp; try (with_reducible rfl)
    case rst6 =>
    try simp only [Act.put, List.setIfInBounds_toArray, List.set_cons_zero, List.set_cons_succ]
    refine headH_take (i := 6) (v := ?_) rfl (by kernel_rfl) (fun _ _ _ h => h) (fun _ _ _ h => seqB_ready h.1) (Or.inl ⟨by rfl, ?hz7⟩) hS ?rst7
    case hz7 => intro w hSw; (try dsimp only at hSw); obtain ⟨hc0, hc1⟩ := hSw; go_simp; try (with_reducible rfl)
    case rst7 =>
    try simp only [Act.put, List.setIfInBounds_toArray, List.set_cons_zero, List.set_cons_succ]
    refine headH_take (i := 7) (v := ?_) rfl (by kernel_rfl) (fun _ _ _ h => h) (fun _ _ _ h => seqB_ready h.1) (Or.inl ⟨by rfl, ?hz8⟩) hS ?rst8
    case hz8 => intro w hSw; (try dsimp only at hSw); obtain ⟨hc0, hc1⟩ := hSw; go_simp; try (with_reducible rfl)
    case rst8 =>
    try simp only [Act.put, List.setIfInBounds_toArray, List.set_cons_zero, List.set_cons_succ]
    refine headH_take (i := 8) (v := ?_) rfl (by kernel_rfl) (fun _ _ _ h => h) (fun _ _ _ h => seqB_ready h.1) (Or.inl ⟨by rfl, ?hz9⟩) hS ?rst9
    case hz9 => intro w hSw; (try dsimp only at hSw); obtain ⟨hc0, hc1⟩ := hSw; go_simp; try (with_reducible rfl)
    case rst9 =>
    try simp only [Act.put, List.setIfInBounds_toArray, List.set_cons_zero, List.set_cons_succ]
    refine headH_one (i := 9) (by kernel_rfl) rfl (fun K hK => ?_)
    go_simp
    try rw [hwp]
    refine (HSet.out w1.drew HB1.out.drew hs1).mono ?_
    rintro e w2 ⟨A1n, c1n, rfl, hi, hs, hb0⟩
    have hb : Below w1.heap.size w1 w2 := (Below.refl _ _).drew.trans (hb0.mono (Nat.le_refl _))
    have hs2 : w.heap.size + 3 ≤ w2.heap.size := Nat.le_trans hs1 hb.size
    have XI2 := Lib.hid (XI1.out.keep hb)
    have Q2 := Lib.hid (Q1.out.keep hb)
    have R2 := Lib.hid (R1.out.keep hb)
    have P2 := Lib.hid (P1.out.frm (FrM.of hb))
    have HB2 := Lib.hid (chain HB1.out hb)
    have v1 := (Q2.out.six).2.1
    have z1 := G1.out _ HB2.out
    have f1 := Q2.out.free 1
    have PN2 := Lib.hid (P2.out.pc hs hi)
    clear r0 r1 r2 r3 r4 r5 y0 y1 y2 g1 hi hs hb hb0 hs1
    refine hK.out _ _ (show (fun (w' : World) => w'.cell? ⟨w.heap.size, 1, none⟩ = some (.slice (some ⟨b1, o1, none⟩) l1 c1) ∧ w'.cell? ⟨b1, o1 + t, none⟩ = some (.int .i64 (p : Int))) w2 from ⟨v1, z1⟩) (fun hS => ?_)
    clear hK K hS
    try simp only [Act.put, List.setIfInBounds_toArray, List.set_cons_zero, List.set_cons_succ]
    refine ⟨by kernel_rfl, ?_⟩
    go_upto_region 3 with (fail)
    obtain ⟨w3, hw3⟩ : ∃ x : World, x = w2.setCell ⟨w.heap.size, 1, none⟩ (.slice A1n l1 c1n) := ⟨_, rfl⟩
    have hg3 : w2.grownBy w3 (some (w.heap.size)) := by rw [hw3]; exact grown_set w2 _ _ _
    have Q3 := Lib.hid (show Box w3 (w.heap.size) 26 #[.slice (some ⟨b0, o0, none⟩) l0 c0, .slice A1n l1 c1n, .slice A2 l2 c2, .slice A3 l3 c3, .slice A4 l4 c4, .slice A5 l5 c5] by rw [hw3]; exact Q2.out.put 1 _)
    have R3 := Lib.hid (Box.grown R2.out hg3 (fun e => by injection e with e; omega))
    have XI3 := Lib.hid (Box.grown XI2.out hg3 (fun e => by injection e with e; omega))
    have P3 := Lib.hid (PN2.out.frm (FrM.grown hg3 (show MU M w.heap.size (w.heap.size) from .inr ⟨Nat.le_refl _, by omega⟩)))
    have HB3 := Lib.hid (show Below w.heap.size w w3 by rw [hw3]; exact HB2.out.setCell (p := ⟨w.heap.size, 1, none⟩) (Nat.le_refl _) _)
    rw [← hw3]
    clear hw3 hg3
    have hs3 : w.heap.size + 3 ≤ w3.heap.size := by have := XI3.out.lt; omega
    rw [← HBu.out] at P3
    have hrl := hwr.lol
    have ht8 : t < 8 := by omega
    have hrc := hwr.cel
    have hrh := hwr.chl
    have hbd0 := hwr.ceb
    have hbd1 := hwr.sub
    have hbd2 := hwr.chb
    have hrs : s.su.length = s.th.length := hwr.sul
    have hrs8 : s.su.length ≤ 8 := by omega
    clear HSet v1 z1 f1 PN2 hs2 G1 P2 Q2 R2 XI2 HB2 P1 Q1 R1 XI1 HB1 XI hwp HBu HEn hpl hpl' hp16 t0 hnm h8 P0 hl1
    have HBs := Lib.hid (show stepS s t = doI (bumpS s t) t (op, (a : Int), nu) by unfold stepS; rw [HIx.out])
    clear hwr HIx HPp hc
    obtain ⟨r0, r1, r2, r3, r4, r5⟩ := Q3.out.six
    obtain ⟨y0, y1, y2⟩ := XI3.out.three3
    obtain rfl := hop.out
    · have hl5 : l5 = 4 := by have := (show ChsF (MU M w.heap.size) w3 A5 l5 s.ch from P3.out.2.2.2.2.2.2).1.1; have := hrh; omega
      have h15 : l5 ≤ 1000 := by omega
      have ha5 : (a : Int) < (l5 : Int) := by omega
      have ha5n : a < l5 := by omega
      obtain ⟨b5, o5, B5, n5, d5, rfl, hb5, c5', hs5, hq5⟩ := (show ChsF (MU M w.heap.size) w3 A5 l5 s.ch from P3.out.2.2.2.2.2.2).1.at a ha5n
      have hn5 : (s.ch.getD a []).length = n5 := hq5.1.1
      have hlt2 : n5 < 2 := by
        have e := HCI.out
        unfold canI at e
        rw [if_neg (show ¬ (3 : Int) = 0 by decide), if_pos rfl] at e
        have e2 : decide (((s.ch.getD a []).length : Int) < 2) = true := e
        have := of_decide_eq_true e2
        omega
      obtain ⟨xs, hxs⟩ : ∃ xs, xs = s.ch.getD a [] := ⟨_, rfl⟩
      rw [← hxs] at hn5 hq5
      have HXs := Lib.hid hxs
      have HQ5 := Lib.hid hq5.1
      have HNil := Lib.hid (fun (e : B5 = none) => (hs5.2.2 e).1)
      have HLx := Lib.hid hn5
      have C5 := Lib.hid (fun wx (hb : Below w3.heap.size w3 wx) => (hb.cell (p := ⟨b5, o5 + a, none⟩) hb5).trans c5')
      obtain ⟨i0, hi, hz0, hz1, hz2⟩ := info_parts int_infoS
      have HI := Lib.hid hi
      have HZ0 := Lib.hid hz0
      have HZ1 := Lib.hid hz1
      have HZ2 := Lib.hid hz2
      have HCh := Lib.hid (show ChsF (MU M w.heap.size) w3 (some ⟨b5, o5, none⟩) l5 s.ch from P3.out.2.2.2.2.2.2)
      clear hi hz0 hz1 hz2 hl5 hq5 hs5 hxs hn5 hb5 HCI
      go_upto_region 11 with (fail)
      obtain ⟨x1, hx1⟩ : ∃ x : World, x = w3.alloc (.cells #[] 3) := ⟨_, rfl⟩
      have O1 := Lib.hid (show x1.ownsRow w3.heap.size 3 1 (.slice (some ⟨w3.heap.size, 0, none⟩) 0 0) 0 [] by rw [hx1]; exact own_emptyS _ _ _ _ (Nat.le_refl _))
      have B1 := Lib.hid (show Below w3.heap.size w3 x1 by rw [hx1]; exact (Below.refl w3.heap.size w3).alloc (Nat.le_refl _) _)
      rw [← hx1]
      clear hx1 r0 r1 r2 r3 r4 r5 y0 y1 y2 c5'
      obtain ⟨r0, r1, r2, r3, r4, r5⟩ := (Q3.out.keep B1.out).six
      obtain ⟨y0, y1, y2⟩ := (XI3.out.keep B1.out).three3
      have c5' := C5.out _ B1.out
      go_upto_region 12 with (at_builtin; go_loud (refine wpList_opt rfl _ _ 23 rfl w3.heap.size 3 i0 (.int .i64 0) 1 8 Try.underlying23 HI.out HZ0.out HZ1.out HZ2.out rfl (by decide) _ 0 [] rfl O1.out B5 n5 d5 (xs.map (Value.int .i64)) rfl (by rw [List.length_map, HLx.out, Nat.mul_one]) HNil.out (ints_news HQ5.out B1.out) (ints_one xs) (by simp only [maxLen]; omega) (by omega) B1.out.size ?_); intro v4 w4 ho4 hg4)
      have O4 := Lib.hid (show w4.ownsRow w3.heap.size 3 1 v4 n5 (xs.map (Value.int .i64)) by rw [Nat.zero_add, List.nil_append] at ho4; exact ho4)
      have B4 := Lib.hid (Below.grown B1.out hg4 B1.out.size (fun k hk => (O1.out.lt k hk).1))
      clear ho4 hg4 r0 r1 r2 r3 r4 r5 y0 y1 y2 c5' O1 B1
      obtain ⟨r0, r1, r2, r3, r4, r5⟩ := (Q3.out.keep B4.out).six
      obtain ⟨y0, y1, y2⟩ := (XI3.out.keep B4.out).three3
      have XO := Lib.hid (O4.out.alloc (.cells #[.int .i64 nu] 3))
      have XB := Lib.hid (B4.out.alloc B4.out.size (.cells #[.int .i64 nu] 3))
      go_upto_region 13 with (at_builtin; go_loud (refine wpList_append_own _ rfl _ _ 23 rfl w3.heap.size 3 i0 (.int .i64 0) 1 8 Try.underlying23 HI.out HZ0.out HZ1.out HZ2.out rfl (by decide) _ _ _ rfl XO.out ⟨w4.heap.size, 0, none⟩ 1 1 [.int .i64 nu] rfl rfl (cell_one_new _ _ _) (by simp [Value.oneCell']) (by simp only [maxLen]; omega) (by omega) XB.out.size ?_); intro v5 w5 ho5 hg5 _)
      have O5 := Lib.hid (show OwnI w3.heap.size w5 v5 (xs ++ [nu]) by
        unfold OwnI
        rw [List.map_append, List.length_append, HLx.out]
        exact ho5)
      have hb := Below.grown XB.out hg5 XB.out.size (fun k hk => (XO.out.lt k hk).1)
      clear ho5 hg5 r0 r1 r2 r3 r4 r5 y0 y1 y2 O4 B4 XO XB
      have XI5 := Lib.hid (XI3.out.keep hb)
      have Q5 := Lib.hid (Q3.out.keep hb)
      have R5 := Lib.hid (R3.out.keep hb)
      have P5 := Lib.hid (P3.out.frm (FrM.of hb))
      have HB5 := Lib.hid (chain HB3.out hb)
      have HB35 := Lib.hid hb
      clear hb
      have hs5 : w.heap.size + 3 ≤ w5.heap.size := Nat.le_trans hs3 HB35.out.size
      have hl6 : (xs ++ [nu]).length = n5 + 1 := by rw [List.length_append, HLx.out]; rfl
      have O6 := O5.out
      unfold OwnI at O6
      rw [hl6] at O6
      obtain ⟨A6, c6, rfl, -⟩ := own_form O6
      have HS6 := Lib.hid (own_cap O6)
      have HI6 := Lib.hid (show IntsF (MU M w.heap.size) w5 A6 (n5 + 1) (xs ++ [nu]) by
        rw [← hl6] at O6 ⊢
        exact IntsF.own O6 (In64.snoc HQ5.out.2.1 (by omega)) (HMb.out _ hs3))
      have HCl9 := Lib.hid (chF_any (MU M w.heap.size) (some ⟨b5, o5, none⟩) l5 c5 s.ch w5 (HCh.out.frm (FrM.of HB35.out)) (HMb.out _ hs5) h15 a A6 (n5 + 1) c6 (xs ++ [nu]) HS6.out HI6.out)
      clear O5 O6 hl6
      obtain ⟨r0, r1, r2, r3, r4, r5⟩ := Q5.out.six
      obtain ⟨y0, y1, y2⟩ := XI5.out.three3
      go_wp2_with fail
      refine (HCl9.out).mono ?_
      rintro e w6 ⟨A5n, c5n, rfl, hi, hs, hb⟩
      have XI6 := Lib.hid (XI5.out.keep hb)
      have Q6 := Lib.hid (Q5.out.keep hb)
      have R6 := Lib.hid (R5.out.keep hb)
      have P6 := Lib.hid (P5.out.frm (FrM.of hb))
      have HB6 := Lib.hid (chain HB5.out hb)
      have f5 := Q6.out.free 5
      have PN6 := Lib.hid (P6.out.ch hs hi)
      clear r0 r1 r2 r3 r4 r5 y0 y1 y2 hi hs hb
      obtain ⟨r0, r1, r2, r3, r4, r5⟩ := Q6.out.six
      go_upto_region 14 with (fail)
      clear r0 r1 r2 r3 r4 r5 f5
      obtain ⟨w7, hw7⟩ : ∃ x : World, x = w6.setCell ⟨w.heap.size, 5, none⟩ (.slice A5n l5 c5n) := ⟨_, rfl⟩
      have hg7 : w6.grownBy w7 (some (w.heap.size)) := by rw [hw7]; exact grown_set w6 _ _ _
      have Q7 := Lib.hid (show Box w7 (w.heap.size) 26 #[.slice (some ⟨b0, o0, none⟩) l0 c0, .slice A1n l1 c1n, .slice A2 l2 c2, .slice A3 l3 c3, .slice A4 l4 c4, .slice A5n l5 c5n] by rw [hw7]; exact Q6.out.put 5 _)
      have R7 := Lib.hid (Box.grown R6.out hg7 (fun e => by injection e with e; omega))
      have XI7 := Lib.hid (Box.grown XI6.out hg7 (fun e => by injection e with e; omega))
      have P7 := Lib.hid (PN6.out.frm (FrM.grown hg7 (show MU M w.heap.size (w.heap.size) from .inr ⟨Nat.le_refl _, by omega⟩)))
      have HB7 := Lib.hid (show Below w.heap.size w w7 by rw [hw7]; exact HB6.out.setCell (p := ⟨w.heap.size, 5, none⟩) (Nat.le_refl _) _)
      rw [← hw7]
      clear hw7 hg7
      have RF := Lib.hid (((((((R7.out.put 0 (.slice (some ⟨b0, o0, none⟩) l0 c0)).put 1 (.slice A1n l1 c1n)).put 2 (.slice A2 l2 c2)).put 3 (.slice A3 l3 c3)).put 4 (.slice A4 l4 c4)).put 5 (.slice A5n l5 c5n)))
      have BF := Lib.hid (((((((HB7.out.setCell (p := ⟨w.heap.size + 1, 0, none⟩) (Nat.le_succ _) (.slice (some ⟨b0, o0, none⟩) l0 c0)).setCell (p := ⟨w.heap.size + 1, 1, none⟩) (Nat.le_succ _) (.slice A1n l1 c1n)).setCell (p := ⟨w.heap.size + 1, 2, none⟩) (Nat.le_succ _) (.slice A2 l2 c2)).setCell (p := ⟨w.heap.size + 1, 3, none⟩) (Nat.le_succ _) (.slice A3 l3 c3)).setCell (p := ⟨w.heap.size + 1, 4, none⟩) (Nat.le_succ _) (.slice A4 l4 c4)).setCell (p := ⟨w.heap.size + 1, 5, none⟩) (Nat.le_succ _) (.slice A5n l5 c5n)))
      have PG := Lib.hid (P7.out.frm (FrM.grown (set6_grown w7 (w.heap.size + 1) (.slice (some ⟨b0, o0, none⟩) l0 c0) (.slice A1n l1 c1n) (.slice A2 l2 c2) (.slice A3 l3 c3) (.slice A4 l4 c4) (.slice A5n l5 c5n)) (show MU M w.heap.size (w.heap.size + 1) from .inr ⟨Nat.le_succ _, by omega⟩)))
      have f0 := R7.out.free 0
      have f1 := R7.out.free 1
      have f2 := R7.out.free 2
      have f3 := R7.out.free 3
      have f4 := R7.out.free 4
      have f5 := R7.out.free 5
      obtain ⟨r0, r1, r2, r3, r4, r5⟩ := Q7.out.six
      obtain ⟨m0, m1, m2, m3, m4, m5⟩ := R7.out.six
      obtain ⟨y0, y1, y2⟩ := XI7.out.three3
      have HD := Lib.hid (show stepS s t = { bumpS s t with ch := s.ch.set a (xs ++ [nu]) } by rw [HBs.out]; unfold doI; rw [if_neg (show ¬ (3 : Int) = 0 by decide), if_neg (show ¬ (3 : Int) = 1 by decide), if_neg (show ¬ (3 : Int) = 2 by decide), if_pos rfl, HXs.out]; rfl)
      go_wp2_with fail
      refine close_one Try.results24 rfl rfl RF.out Try.underlying26 rfl (by kernel_rfl) ?_
      rw [HD.out]
      exact ⟨_, _, _, _, _, _, _, _, _, _, _, _, _, _, _, rfl, PF.less PG.out, BF.out⟩
end Go.Proofs.Ytcamoigcfiemhaa
