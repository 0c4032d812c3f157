/- Layer 20: the reference's Step, receive. -/
import Derived.Test.YtcamoigcfiemhaaScS
namespace Go.Proofs.Ytcamoigcfiemhaa
set_option linter.unusedVariables false
set_option linter.unusedSimpArgs false
open Go.RowKit Go.Lib
set_option maxRecDepth 100000
theorem IntsF.drop1 {M : Nat → Prop} {w : World} {b o n d : Nat} {zs : List Int} {A : Option Addr} (h : IntsF M w (some ⟨b, o, none⟩) n zs) (hp : 0 < n) (hn : n ≤ d) (hA : A = if d = 1 then some ⟨b, o, none⟩ else some ⟨b, o + 1, none⟩) : IntsF M w A (n - 1) (zs.drop 1) := by
  obtain ⟨⟨h1, h2, h3⟩, h4⟩ := h
  refine ⟨⟨by rw [List.length_drop, h1], fun j => ?_, fun hq => ?_⟩, fun hq a ha => ?_⟩
  · have := h2 (1 + j)
    simpa [List.getD, List.getElem?_drop, Nat.add_comm] using this
  · obtain ⟨b', o', e, hb, hc⟩ := h3 hp
    injection e with e
    injection e with e1 e2
    subst e1 e2
    rw [if_neg (by omega)] at hA
    refine ⟨b, o + 1, hA, hb, fun j hj => ?_⟩
    have := hc (1 + j) (by omega)
    rw [show o + 1 + j = o + (1 + j) by omega, this]
    simp [List.getD, List.getElem?_drop, Nat.add_comm]
  · rw [if_neg (by omega)] at hA
    rw [hA] at ha
    injection ha with ha
    subst ha
    exact h4 hp ⟨b, o, none⟩ rfl
set_option maxHeartbeats 16000000 in
theorem refStep4_any (M : Nat → Prop) (w0 w : World) (s : Sys) (A0 : Option Addr) (l0 c0 : Nat) (A1 : Option Addr) (l1 c1 : Nat) (A2 : Option Addr) (l2 c2 : Nat) (A3 : Option Addr) (l3 c3 : Nat) (A4 : Option Addr) (l4 c4 : Nat) (A5 : Option Addr) (l5 c5 : Nat) (h : PF M w0 w s A0 l0 c0 A1 l1 c1 A2 l2 c2 A3 l3 c3 A4 l4 c4 A5 l5 c5) (hB0 : Below w0.heap.size w0 w) (hM : ∀ g, M g → g < w.heap.size) (k : Nat) (hwr : WR k s) (hk : k ≤ 900) (t : Nat) (ht : t < s.th.length) (hc : canS s t = true) (h012 : (insAt s t).1 = 4) : Calls Try.prog 24 #[.agg #[.slice A0 l0 c0, .slice A1 l1 c1, .slice A2 l2 c2, .slice A3 l3 c3, .slice A4 l4 c4, .slice A5 l5 c5], .int .i64 (t : Int)] w (StepF M w0 w (stepS s t) A0 l0 c0) := by
  have h8 := hwr.n8
  have HNm := Lib.hid ((hwr.step ht hc).nums (by omega))
  have hnm := (h.sys hB0).nums
  obtain ⟨⟨s0, s1, s2, s3, s4, s5⟩, h0', hf1, hf2, hf3, hf4, hf5⟩ := h
  have h0 : Thr w A0 l0 s.th := Thr.below h0' hB0
  have h1 : Ints w A1 l1 s.pc := hf1.1
  have HMb := Lib.hid (show ∀ n, w.heap.size + 3 ≤ n → ∀ g, MU M w.heap.size g → g < n from fun n hn g h => by rcases h with h | h; (have := hM g h; omega); omega)
  have P0 := Lib.hid (show PF (MU M w.heap.size) w0 w s A0 l0 c0 A1 l1 c1 A2 l2 c2 A3 l3 c3 A4 l4 c4 A5 l5 c5 from ⟨⟨s0, s1, s2, s3, s4, s5⟩, h0', hf1.more, hf2.more, hf3.more, hf4.more, hf5.more⟩)
  have t0 : (t : Int) < (l0 : Int) := by have := h0.1; omega
  have t1 : (t : Int) < (l1 : Int) := by have := h1.1; have := hwr.pcl; omega
  have hl1 : l1 ≤ 1000 := by have := h1.1; have := hwr.pcl; omega
  obtain ⟨b0, o0, B, n, d, rfl, hb0, g0, -, hq⟩ := h0.at t (by omega)
  obtain ⟨b1, o1, rfl, hb1, hc1⟩ := h1.2.2 (by omega)
  have g1 := hc1 t (by omega)
  have G0 := Lib.hid (fun wx (hb : Below w.heap.size w wx) => (hb.cell (p := ⟨b0, o0 + t, none⟩) hb0).trans g0)
  have hrow := hwr.row t ht
  have hnl : (s.th.getD t []).length = n := hq.1
  have HEn := Lib.hid (show endS s t = false by cases e : endS s t with | false => rfl | true => simp [canS, e] at hc)
  obtain ⟨hlt, hin⟩ := hwr.next ht HEn.out
  have HCI := Lib.hid (show canI s (insAt s t) = true by simp [canS, HEn.out] at hc; exact hc)
  obtain ⟨p, hp⟩ := Nat.of_int hrow.2.1
  have hpl : p < n := by rw [hp, hnl] at hlt; simpa using hlt
  have hpl' : (p : Int) < (n : Int) := by omega
  have HPp := Lib.hid hp
  rw [hp] at g1
  have G1 := Lib.hid (fun wx (hb : Below w.heap.size w wx) => (hb.cell (p := ⟨b1, o1 + t, none⟩) hb1).trans g1)
  have hp16 : p < 16 := by have := hrow.1; rw [hnl] at this; omega
  obtain ⟨b2, o2, rfl, hb2, x0, x1, x2⟩ := Inss.cells hq (Below.refl _ _) p hpl
  have hix : insAt s t = (s.th.getD t []).getD p default := by unfold insAt; rw [hp]; rfl
  rw [← hix] at x0 x1 x2
  obtain ⟨xi, hxi⟩ : ∃ xi, xi = insAt s t := ⟨_, rfl⟩
  rw [← hxi] at x0 x1 x2 hin HCI h012
  have HIx := Lib.hid hxi.symm
  clear hxi hix hp hlt hrow hnl hc1 g0 g1 hb0 hb1 h1 hf1 hf2 hf3 hf4 hf5 s0 s1 s2 s3 s4 s5 hq h0 h0' hM hB0
  obtain ⟨op, na, nu⟩ := xi
  obtain ⟨i0, i1, i2, i3, i4, i5⟩ := inB_parts hin
  obtain ⟨a, rfl⟩ : ∃ a : Nat, na = (a : Int) := Nat.of_int i2
  have ha : a < 4 := by have i3 : (a : Int) ≤ 3 := i3; omega
  have hnu1 : -1000 ≤ nu := i4
  have hnu2 : nu ≤ 1000 := i5
  have X0 := Lib.hid (fun wx (hb : Below w.heap.size w wx) => (hb.cell (p := ⟨b2, o2 + p * 3, none⟩) hb2).trans (show w.cell? ⟨b2, o2 + p * 3, none⟩ = some (.int .i64 op) from x0))
  have X1 := Lib.hid (fun wx (hb : Below w.heap.size w wx) => (hb.cell (p := ⟨b2, o2 + p * 3 + 1, none⟩) hb2).trans (show w.cell? ⟨b2, o2 + p * 3 + 1, none⟩ = some (.int .i64 (a : Int)) from x1))
  have X2 := Lib.hid (fun wx (hb : Below w.heap.size w wx) => (hb.cell (p := ⟨b2, o2 + p * 3 + 2, none⟩) hb2).trans (show w.cell? ⟨b2, o2 + p * 3 + 2, none⟩ = some (.int .i64 nu) from x2))
  have hop := Lib.hid (show op = 4 from h012)
  clear h012
  clear x0 x1 x2 hb2 i0 i1 i2 i3 i4 i5 hin
  have b2' : Below w.heap.size w ((w.alloc (.cells #[.slice (some ⟨b0, o0, none⟩) l0 c0, .slice (some ⟨b1, o1, none⟩) l1 c1, .slice A2 l2 c2, .slice A3 l3 c3, .slice A4 l4 c4, .slice A5 l5 c5] 26)).alloc (.cells #[.slice none 0 0, .slice none 0 0, .slice none 0 0, .slice none 0 0, .slice none 0 0, .slice none 0 0] 26)) := ((Below.refl w.heap.size w).alloc (Nat.le_refl _) _).alloc (by simp) _
  have hB2 := Lib.hid b2'
  have q1 := Box.new (w.alloc (.cells #[.slice (some ⟨b0, o0, none⟩) l0 c0, .slice (some ⟨b1, o1, none⟩) l1 c1, .slice A2 l2 c2, .slice A3 l3 c3, .slice A4 l4 c4, .slice A5 l5 c5] 26)) 26 #[.slice none 0 0, .slice none 0 0, .slice none 0 0, .slice none 0 0, .slice none 0 0, .slice none 0 0]
  simp only [World.size_alloc] at q1
  have R0 := Lib.hid q1
  have Q0 := Lib.hid ((Box.new w 26 #[.slice (some ⟨b0, o0, none⟩) l0 c0, .slice (some ⟨b1, o1, none⟩) l1 c1, .slice A2 l2 c2, .slice A3 l3 c3, .slice A4 l4 c4, .slice A5 l5 c5]).alloc (.cells #[.slice none 0 0, .slice none 0 0, .slice none 0 0, .slice none 0 0, .slice none 0 0, .slice none 0 0] 26))
  clear q1 b2'
  obtain ⟨r0, r1, r2, r3, r4, r5⟩ := Q0.out.six
  go_enter Try.func24, Try.ntmps24
  go_upto_region 1 with (fail)
  go_cut [5] (fun v wx => v = .pointer (some ⟨w.heap.size + 2, 0, none⟩) ∧ Hid (Box wx (w.heap.size + 2) 57 #[.int .i64 op, .int .i64 (a : Int), .int .i64 nu]) ∧ Hid (Box wx w.heap.size 26 #[.slice (some ⟨b0, o0, none⟩) l0 c0, .slice (some ⟨b1, o1, none⟩) l1 c1, .slice A2 l2 c2, .slice A3 l3 c3, .slice A4 l4 c4, .slice A5 l5 c5]) ∧ Hid (Box wx (w.heap.size + 1) 26 #[.slice none 0 0, .slice none 0 0, .slice none 0 0, .slice none 0 0, .slice none 0 0, .slice none 0 0]) ∧ Hid (Below w.heap.size w wx))
  case first =>
    have HBz := hB2.out.alloc hB2.out.size (.cells #[.int .i64 0, .int .i64 0, .int .i64 0] 57)
    have g0 := G0.out _ HBz
    have g1 := G1.out _ HBz
    have x0 := X0.out _ HBz
    have x1 := X1.out _ HBz
    have x2 := X2.out _ HBz
    have xz := Box.new ((w.alloc (.cells #[.slice (some ⟨b0, o0, none⟩) l0 c0, .slice (some ⟨b1, o1, none⟩) l1 c1, .slice A2 l2 c2, .slice A3 l3 c3, .slice A4 l4 c4, .slice A5 l5 c5] 26)).alloc (.cells #[.slice none 0 0, .slice none 0 0, .slice none 0 0, .slice none 0 0, .slice none 0 0, .slice none 0 0] 26)) 57 #[.int .i64 0, .int .i64 0, .int .i64 0]
    have xv := Box.new ((w.alloc (.cells #[.slice (some ⟨b0, o0, none⟩) l0 c0, .slice (some ⟨b1, o1, none⟩) l1 c1, .slice A2 l2 c2, .slice A3 l3 c3, .slice A4 l4 c4, .slice A5 l5 c5] 26)).alloc (.cells #[.slice none 0 0, .slice none 0 0, .slice none 0 0, .slice none 0 0, .slice none 0 0, .slice none 0 0] 26)) 57 #[.int .i64 op, .int .i64 (a : Int), .int .i64 nu]
    simp only [World.size_alloc] at xz xv
    have XZ := Lib.hid xz
    have XV := Lib.hid xv
    have QZ := Lib.hid (Q0.out.alloc (.cells #[.int .i64 0, .int .i64 0, .int .i64 0] 57))
    have g0' := G0.out _ hB2.out
    have g1' := G1.out _ hB2.out
    have x0' := X0.out _ hB2.out
    have x1' := X1.out _ hB2.out
    have x2' := X2.out _ hB2.out
    clear HBz xz xv
    obtain ⟨r0', r1', r2', r3', r4', r5'⟩ := QZ.out.six
    obtain ⟨y0, y1, y2⟩ := XZ.out.three3
    have f0 := XZ.out.free 0
    have f1 := XZ.out.free 1
    have f2 := XZ.out.free 2
    go_region
    all_goals
      go_wp2_with fail
      go_meet
      exact ⟨rfl, Lib.hid XV.out.drew, Lib.hid (Q0.out.alloc _).drew, Lib.hid (R0.out.alloc _).drew, Lib.hid (hB2.out.alloc hB2.out.size _).drew⟩
  case rest =>
    obtain ⟨rfl, XI, Q1, R1, HB1⟩ := hcut
    obtain ⟨w1, hw1⟩ : ∃ x : World, x = wc := ⟨_, rfl⟩
    subst hw1
    clear r0 r1 r2 r3 r4 r5 Q0 R0 hB2 X0 X1 X2 G0
    have P1 := Lib.hid (P0.out.frm (FrM.of HB1.out))
    obtain ⟨r0, r1, r2, r3, r4, r5⟩ := Q1.out.six
    obtain ⟨y0, y1, y2⟩ := XI.out.three3
    have g1 := G1.out _ HB1.out
    go_upto_region 2 with (fail)
    have hwp : IntKind.i64.wrap ((p : Int) + 1) = (p : Int) + 1 := IntWalk.i64_in _ (by omega)
    have HSet := Lib.hid (fun wx (hb : Below w.heap.size w wx) (hs : w.heap.size + 3 ≤ wx.heap.size) => setF_any (MU M w.heap.size) (some ⟨b1, o1, none⟩) l1 c1 s.pc wx (Ints.below P0.out.2.2.1.1 hb) (HMb.out _ hs) hl1 t ((p : Int) + 1) (by omega))
    have HBu := Lib.hid (show bumpS s t = { s with pc := s.pc.set t ((p : Int) + 1) } by unfold bumpS; rw [HPp.out])
    have XI1 := XI
    have hs1 : w.heap.size + 3 ≤ w1.heap.size := by have := XI1.out.lt; omega
    refine wp_held_tail (S := (fun (w' : World) => w'.cell? ⟨w.heap.size, 1, none⟩ = some (.slice (some ⟨b1, o1, none⟩) l1 c1) ∧ w'.cell? ⟨b1, o1 + t, none⟩ = some (.int .i64 (p : Int)))) 10 (by kernel_rfl) (by decide) ?_
    have hS : (fun (w' : World) => w'.cell? ⟨w.heap.size, 1, none⟩ = some (.slice (some ⟨b1, o1, none⟩) l1 c1) ∧ w'.cell? ⟨b1, o1 + t, none⟩ = some (.int .i64 (p : Int))) w1.drew := ⟨r1, g1⟩
    refine headH_take (i := 0) (v := ?_) rfl (by kernel_rfl) (fun _ _ _ h => h) (fun _ _ _ h => seqB_ready h.1) (Or.inl ⟨by rfl, ?hz1⟩) hS ?rst1
    case hz1 => intro w hSw; (try dsimp only at hSw); obtain ⟨hc0, hc1⟩ := hSw; go_simp; try (with_reducible rfl)
    case rst1 =>
    try simp only [Act.put, List.setIfInBounds_toArray, List.set_cons_zero, List.set_cons_succ]
    refine headH_take (i := 1) (v := ?_) rfl (by kernel_rfl) (fun _ _ _ h => h) (fun _ _ _ h => seqB_ready h.1) (Or.inl ⟨by rfl, ?hz2⟩) hS ?rst2
    case hz2 => intro w hSw; (try dsimp only at hSw); obtain ⟨hc0, hc1⟩ := hSw; go_simp; try (with_reducible rfl)
    case rst2 =>
    try simp only [Act.put, List.setIfInBounds_toArray, List.set_cons_zero, List.set_cons_succ]
    refine headH_take (i := 2) (v := ?_) rfl (by kernel_rfl) (fun _ _ _ h => h) (fun _ _ _ h => seqB_ready h.1) (Or.inl ⟨by rfl, ?hz3⟩) hS ?rst3
    case hz3 => intro w hSw; (try dsimp only at hSw); obtain ⟨hc0, hc1⟩ := hSw; go_simp; try (with_reducible rfl)
    case rst3 =>
    try simp only [Act.put, List.setIfInBounds_toArray, List.set_cons_zero, List.set_cons_succ]
    refine headH_take (i := 3) (v := ?_) rfl (by kernel_rfl) (fun _ _ _ h => h) (fun _ _ _ h => seqB_ready h.1) (Or.inl ⟨by rfl, ?hz4⟩) hS ?rst4
    case hz4 => intro w hSw; (try dsimp only at hSw); obtain ⟨hc0, hc1⟩ := hSw; go_simp; try (with_reducible rfl)
    case rst4 =>
    try simp only [Act.put, List.setIfInBounds_toArray, List.set_cons_zero, List.set_cons_succ]
    refine headH_take (i := 4) (v := ?_) rfl (by kernel_rfl) (fun _ _ _ h => h) (fun _ _ _ h => seqB_ready h.1) (Or.inl ⟨by rfl, ?hz5⟩) hS ?rst5
    case hz5 => intro w hSw; (try dsimp only at hSw); obtain ⟨hc0, hc1⟩ := hSw; go_simp; try (with_reducible rfl)
    case rst5 =>
    try simp only [Act.put, List.setIfInBounds_toArray, List.set_cons_zero, List.set_cons_succ]
    refine headH_take (i := 5) (v := ?_) rfl (by kernel_rfl) (fun _ _ _ h => h) (fun _ _ _ h => seqB_ready h.1) (Or.inl ⟨by rfl, ?hz6⟩) hS ?rst6
    case hz6 => intro w hSw; (try dsimp only at hSw); obtain ⟨hc0, hc1⟩ := hSw; go_simp; try (with_reducible rfl)
    case rst6 =>
    try simp only [Act.put, List.setIfInBounds_toArray, List.set_cons_zero, List.set_cons_succ]
    refine headH_take (i := 6) (v := ?_) rfl (by kernel_rfl) (fun _ _ _ h => h) (fun _ _ _ h => seqB_ready h.1) (Or.inl ⟨by rfl, ?hz7⟩) hS ?rst7
    case hz7 => intro w hSw; (try dsimp only at hSw); obtain ⟨hc0, hc1⟩ := hSw; go_simp; try (with_reducible rfl)
    case rst7 =>
    try simp only [Act.put, List.setIfInBounds_toArray, List.set_cons_zero, List.set_cons_succ]
    refine headH_take (i := 7) (v := ?_) rfl (by kernel_rfl) (fun _ _ _ h => h) (fun _ _ _ h => seqB_ready h.1) (Or.inl ⟨by rfl, ?hz8⟩) hS ?rst8
    case hz8 => intro w hSw; (try dsimp only at hSw); obtain ⟨hc0, hc1⟩ := hSw; go_simp; try (with_reducible rfl)
    case rst8 =>
    try simp only [Act.put, List.setIfInBounds_toArray, List.set_cons_zero, List.set_cons_succ]
    refine headH_take (i := 8) (v := ?_) rfl (by kernel_rfl) (fun _ _ _ h => h) (fun _ _ _ h => seqB_ready h.1) (Or.inl ⟨by rfl, ?hz9⟩) hS ?rst9
    case hz9 => intro w hSw; (try dsimp only at hSw); obtain ⟨hc0, hc1⟩ := hSw; go_simp; try (with_reducible rfl)
    case rst9 =>
    try simp only [Act.put, List.setIfInBounds_toArray, List.set_cons_zero, List.set_cons_succ]
    refine headH_one (i := 9) (by kernel_rfl) rfl (fun K hK => ?_)
    go_simp
    try rw [hwp]
    refine (HSet.out w1.drew HB1.out.drew hs1).mono ?_
    rintro e w2 ⟨A1n, c1n, rfl, hi, hs, hb0⟩
    have hb : Below w1.heap.size w1 w2 := (Below.refl _ _).drew.trans (hb0.mono (Nat.le_refl _))
    have hs2 : w.heap.size + 3 ≤ w2.heap.size := Nat.le_trans hs1 hb.size
    have XI2 := Lib.hid (XI1.out.keep hb)
    have Q2 := Lib.hid (Q1.out.keep hb)
    have R2 := Lib.hid (R1.out.keep hb)
    have P2 := Lib.hid (P1.out.frm (FrM.of hb))
    have HB2 := Lib.hid (chain HB1.out hb)
    have v1 := (Q2.out.six).2.1
    have z1 := G1.out _ HB2.out
    have f1 := Q2.out.free 1
    have PN2 := Lib.hid (P2.out.pc hs hi)
    clear r0 r1 r2 r3 r4 r5 y0 y1 y2 g1 hi hs hb hb0 hs1
    refine hK.out _ _ (show (fun (w' : World) => w'.cell? ⟨w.heap.size, 1, none⟩ = some (.slice (some ⟨b1, o1, none⟩) l1 c1) ∧ w'.cell? ⟨b1, o1 + t, none⟩ = some (.int .i64 (p : Int))) w2 from ⟨v1, z1⟩) (fun hS => ?_)
    clear hK K hS
    try simp only [Act.put, List.setIfInBounds_toArray, List.set_cons_zero, List.set_cons_succ]
    refine ⟨by kernel_rfl, ?_⟩
    go_upto_region 3 with (fail)
    obtain ⟨w3, hw3⟩ : ∃ x : World, x = w2.setCell ⟨w.heap.size, 1, none⟩ (.slice A1n l1 c1n) := ⟨_, rfl⟩
    have hg3 : w2.grownBy w3 (some (w.heap.size)) := by rw [hw3]; exact grown_set w2 _ _ _
    have Q3 := Lib.hid (show Box w3 (w.heap.size) 26 #[.slice (some ⟨b0, o0, none⟩) l0 c0, .slice A1n l1 c1n, .slice A2 l2 c2, .slice A3 l3 c3, .slice A4 l4 c4, .slice A5 l5 c5] by rw [hw3]; exact Q2.out.put 1 _)
    have R3 := Lib.hid (Box.grown R2.out hg3 (fun e => by injection e with e; omega))
    have XI3 := Lib.hid (Box.grown XI2.out hg3 (fun e => by injection e with e; omega))
    have P3 := Lib.hid (PN2.out.frm (FrM.grown hg3 (show MU M w.heap.size (w.heap.size) from .inr ⟨Nat.le_refl _, by omega⟩)))
    have HB3 := Lib.hid (show Below w.heap.size w w3 by rw [hw3]; exact HB2.out.setCell (p := ⟨w.heap.size, 1, none⟩) (Nat.le_refl _) _)
    rw [← hw3]
    clear hw3 hg3
    have hs3 : w.heap.size + 3 ≤ w3.heap.size := by have := XI3.out.lt; omega
    rw [← HBu.out] at P3
    have hrl := hwr.lol
    have ht8 : t < 8 := by omega
    have hrc := hwr.cel
    have hrh := hwr.chl
    have hbd0 := hwr.ceb
    have hbd1 := hwr.sub
    have hbd2 := hwr.chb
    have hrs : s.su.length = s.th.length := hwr.sul
    have hrs8 : s.su.length ≤ 8 := by omega
    clear HSet v1 z1 f1 PN2 hs2 G1 P2 Q2 R2 XI2 HB2 P1 Q1 R1 XI1 HB1 XI hwp HBu HEn hpl hpl' hp16 t0 hnm h8 P0 hl1
    have HBs := Lib.hid (show stepS s t = doI (bumpS s t) t (op, (a : Int), nu) by unfold stepS; rw [HIx.out])
    clear hwr HIx HPp hc
    obtain ⟨r0, r1, r2, r3, r4, r5⟩ := Q3.out.six
    obtain ⟨y0, y1, y2⟩ := XI3.out.three3
    obtain rfl := hop.out
    · have hl5 : l5 = 4 := by have := (show ChsF (MU M w.heap.size) w3 A5 l5 s.ch from P3.out.2.2.2.2.2.2).1.1; have := hrh; omega
      have h15 : l5 ≤ 1000 := by omega
      have ha5 : (a : Int) < (l5 : Int) := by omega
      have ha5n : a < l5 := by omega
      have hl2 : l2 ≤ 1000 ∧ t < l2 := by have := (show Ints w3 A2 l2 s.su from P3.out.2.2.2.1.1).1; have := hrs; have := hrs8; omega
      have ht2 : (t : Int) < (l2 : Int) := by omega
      obtain ⟨b6, o6, rfl, hb6, hc6⟩ := (show Ints w3 A2 l2 s.su from P3.out.2.2.2.1.1).2.2 (by omega)
      have cs : w3.cell? ⟨b6, o6 + t, none⟩ = some (.int .i64 (s.su.getD t 0)) := hc6 t hl2.2
      obtain ⟨b5, o5, B5, n5, d5, rfl, hb5, c5', hs5, hq5⟩ := (show ChsF (MU M w.heap.size) w3 A5 l5 s.ch from P3.out.2.2.2.2.2.2).1.at a ha5n
      have hn5 : (s.ch.getD a []).length = n5 := hq5.1.1
      have hpos : 0 < n5 := by
        have e := HCI.out
        unfold canI at e
        rw [if_neg (show ¬ (4 : Int) = 0 by decide), if_neg (show ¬ (4 : Int) = 3 by decide), if_pos rfl] at e
        have e2 : decide (0 < ((s.ch.getD a []).length : Int)) = true := e
        have := of_decide_eq_true e2
        omega
      have hpos' : (0 : Int) < (n5 : Int) := by omega
      obtain ⟨b7, o7, rfl, hb7, hc7⟩ := hq5.1.2.2 hpos
      have c7 : w3.cell? ⟨b7, o7, none⟩ = some (.int .i64 ((s.ch.getD a []).getD 0 0)) := hc7 0 hpos
      have hbx := hbd1 t
      have hby := (hbd2 a).2 0
      have hsl := hs5
      clear hl5 hc6 hc7 hq5 hs5
      obtain ⟨x, hx⟩ : ∃ x, x = s.su.getD t 0 := ⟨_, rfl⟩
      obtain ⟨y, hy⟩ : ∃ y, y = (s.ch.getD a []).getD 0 0 := ⟨_, rfl⟩
      rw [← hx] at cs hbx
      rw [← hy] at c7 hby
      have HX := Lib.hid hx
      have HY := Lib.hid hy
      clear hx hy
      have hwx : IntKind.i64.wrap (x + y) = x + y := IntWalk.i64_in _ (by omega)
      have HCl := Lib.hid (fun wx (hb : Below w3.heap.size w3 wx) => setF_any (MU M w.heap.size) (some ⟨b6, o6, none⟩) l2 c2 s.su wx (Ints.below (show Ints w3 (some ⟨b6, o6, none⟩) l2 s.su from P3.out.2.2.2.1.1) hb) (HMb.out _ (Nat.le_trans hs3 hb.size)) hl2.1 t (x + y) (by omega))
      have Cs := Lib.hid (fun wx (hb : Below w3.heap.size w3 wx) => (hb.cell (p := ⟨b6, o6 + t, none⟩) hb6).trans cs)
      have C5 := Lib.hid (fun wx (hb : Below w3.heap.size w3 wx) => (hb.cell (p := ⟨b5, o5 + a, none⟩) hb5).trans c5')
      have C7 := Lib.hid (fun wx (hb : Below w3.heap.size w3 wx) => (hb.cell (p := ⟨b7, o7, none⟩) hb7).trans c7)
      have hch : 0 < (s.ch.getD a []).length := by omega
      clear hbx hby hn5
      go_upto_region 15 with (fail)
      refine wp_held_tail (S := (fun (w' : World) => w'.cell? ⟨w.heap.size, 2, none⟩ = some (.slice (some ⟨b6, o6, none⟩) l2 c2) ∧ w'.cell? ⟨w.heap.size, 5, none⟩ = some (.slice (some ⟨b5, o5, none⟩) l5 c5) ∧ w'.cell? ⟨w.heap.size + 2, 1, none⟩ = some (.int .i64 (a : Int)) ∧ w'.cell? ⟨b6, o6 + t, none⟩ = some (.int .i64 x) ∧ w'.cell? ⟨b5, o5 + a, none⟩ = some (.slice (some ⟨b7, o7, none⟩) n5 d5) ∧ w'.cell? ⟨b7, o7, none⟩ = some (.int .i64 y))) 18 (by kernel_rfl) (by decide) ?_
      have hS : (fun (w' : World) => w'.cell? ⟨w.heap.size, 2, none⟩ = some (.slice (some ⟨b6, o6, none⟩) l2 c2) ∧ w'.cell? ⟨w.heap.size, 5, none⟩ = some (.slice (some ⟨b5, o5, none⟩) l5 c5) ∧ w'.cell? ⟨w.heap.size + 2, 1, none⟩ = some (.int .i64 (a : Int)) ∧ w'.cell? ⟨b6, o6 + t, none⟩ = some (.int .i64 x) ∧ w'.cell? ⟨b5, o5 + a, none⟩ = some (.slice (some ⟨b7, o7, none⟩) n5 d5) ∧ w'.cell? ⟨b7, o7, none⟩ = some (.int .i64 y)) w3.drew := ⟨r2, r5, y1, cs, c5', c7⟩
      refine headH_take (i := 0) (v := ?_) rfl (by kernel_rfl) (fun _ _ _ h => h) (fun _ _ _ h => seqB_ready h.1) (Or.inl ⟨by rfl, ?hz23⟩) hS ?rst23
      case hz23 => intro w hSw; (try dsimp only at hSw); obtain ⟨hc0, hc1, hc2, hc3, hc4, hc5⟩ := hSw; go_simp; try (with_reducible rfl)
      case rst23 =>
      try simp only [Act.put, List.setIfInBounds_toArray, List.set_cons_zero, List.set_cons_succ]
      refine headH_take (i := 1) (v := ?_) rfl (by kernel_rfl) (fun _ _ _ h => h) (fun _ _ _ h => seqB_ready h.1) (Or.inl ⟨by rfl, ?hz24⟩) hS ?rst24
      case hz24 => intro w hSw; (try dsimp only at hSw); obtain ⟨hc0, hc1, hc2, hc3, hc4, hc5⟩ := hSw; go_simp; try (with_reducible rfl)
      case rst24 =>
      try simp only [Act.put, List.setIfInBounds_toArray, List.set_cons_zero, List.set_cons_succ]
      refine headH_take (i := 2) (v := ?_) rfl (by kernel_rfl) (fun _ _ _ h => h) (fun _ _ _ h => seqB_ready h.1) (Or.inl ⟨by rfl, ?hz25⟩) hS ?rst25
      case hz25 => intro w hSw; (try dsimp only at hSw); obtain ⟨hc0, hc1, hc2, hc3, hc4, hc5⟩ := hSw; go_simp; try (with_reducible rfl)
      case rst25 =>
      try simp only [Act.put, List.setIfInBounds_toArray, List.set_cons_zero, List.set_cons_succ]
      refine headH_take (i := 3) (v := ?_) rfl (by kernel_rfl) (fun _ _ _ h => h) (fun _ _ _ h => seqB_ready h.1) (Or.inl ⟨by rfl, ?hz26⟩) hS ?rst26
      case hz26 => intro w hSw; (try dsimp only at hSw); obtain ⟨hc0, hc1, hc2, hc3, hc4, hc5⟩ := hSw; go_simp; try (with_reducible rfl)
      case rst26 =>
      try simp only [Act.put, List.setIfInBounds_toArray, List.set_cons_zero, List.set_cons_succ]
      refine headH_take (i := 4) (v := ?_) rfl (by kernel_rfl) (fun _ _ _ h => h) (fun _ _ _ h => seqB_ready h.1) (Or.inl ⟨by rfl, ?hz27⟩) hS ?rst27
      case hz27 => intro w hSw; (try dsimp only at hSw); obtain ⟨hc0, hc1, hc2, hc3, hc4, hc5⟩ := hSw; go_simp; try (with_reducible rfl)
      case rst27 =>
      try simp only [Act.put, List.setIfInBounds_toArray, List.set_cons_zero, List.set_cons_succ]
      refine headH_take (i := 5) (v := ?_) rfl (by kernel_rfl) (fun _ _ _ h => h) (fun _ _ _ h => seqB_ready h.1) (Or.inl ⟨by rfl, ?hz28⟩) hS ?rst28
      case hz28 => intro w hSw; (try dsimp only at hSw); obtain ⟨hc0, hc1, hc2, hc3, hc4, hc5⟩ := hSw; go_simp; try (with_reducible rfl)
      case rst28 =>
      try simp only [Act.put, List.setIfInBounds_toArray, List.set_cons_zero, List.set_cons_succ]
      refine headH_take (i := 6) (v := ?_) rfl (by kernel_rfl) (fun _ _ _ h => h) (fun _ _ _ h => seqB_ready h.1) (Or.inl ⟨by rfl, ?hz29⟩) hS ?rst29
      case hz29 => intro w hSw; (try dsimp only at hSw); obtain ⟨hc0, hc1, hc2, hc3, hc4, hc5⟩ := hSw; go_simp; try (with_reducible rfl)
      case rst29 =>
      try simp only [Act.put, List.setIfInBounds_toArray, List.set_cons_zero, List.set_cons_succ]
      refine headH_take (i := 7) (v := ?_) rfl (by kernel_rfl) (fun _ _ _ h => h) (fun _ _ _ h => seqB_ready h.1) (Or.inl ⟨by rfl, ?hz30⟩) hS ?rst30
      case hz30 => intro w hSw; (try dsimp only at hSw); obtain ⟨hc0, hc1, hc2, hc3, hc4, hc5⟩ := hSw; go_simp; try (with_reducible rfl)
      case rst30 =>
      try simp only [Act.put, List.setIfInBounds_toArray, List.set_cons_zero, List.set_cons_succ]
      refine headH_take (i := 8) (v := ?_) rfl (by kernel_rfl) (fun _ _ _ h => h) (fun _ _ _ h => seqB_ready h.1) (Or.inl ⟨by rfl, ?hz31⟩) hS ?rst31
      case hz31 => intro w hSw; (try dsimp only at hSw); obtain ⟨hc0, hc1, hc2, hc3, hc4, hc5⟩ := hSw; go_simp; try (with_reducible rfl)
      case rst31 =>
      try simp only [Act.put, List.setIfInBounds_toArray, List.set_cons_zero, List.set_cons_succ]
      refine headH_take (i := 9) (v := ?_) rfl (by kernel_rfl) (fun _ _ _ h => h) (fun _ _ _ h => seqB_ready h.1) (Or.inl ⟨by rfl, ?hz32⟩) hS ?rst32
      case hz32 => intro w hSw; (try dsimp only at hSw); obtain ⟨hc0, hc1, hc2, hc3, hc4, hc5⟩ := hSw; go_simp; try (with_reducible rfl)
      case rst32 =>
      try simp only [Act.put, List.setIfInBounds_toArray, List.set_cons_zero, List.set_cons_succ]
      refine headH_take (i := 10) (v := ?_) rfl (by kernel_rfl) (fun _ _ _ h => h) (fun _ _ _ h => seqB_ready h.1) (Or.inl ⟨by rfl, ?hz33⟩) hS ?rst33
      case hz33 => intro w hSw; (try dsimp only at hSw); obtain ⟨hc0, hc1, hc2, hc3, hc4, hc5⟩ := hSw; go_simp; try (with_reducible rfl)
      case rst33 =>
      try simp only [Act.put, List.setIfInBounds_toArray, List.set_cons_zero, List.set_cons_succ]
      refine headH_take (i := 11) (v := ?_) rfl (by kernel_rfl) (fun _ _ _ h => h) (fun _ _ _ h => seqB_ready h.1) (Or.inl ⟨by rfl, ?hz34⟩) hS ?rst34
      case hz34 => intro w hSw; (try dsimp only at hSw); obtain ⟨hc0, hc1, hc2, hc3, hc4, hc5⟩ := hSw; go_simp; try (with_reducible rfl)
      case rst34 =>
      try simp only [Act.put, List.setIfInBounds_toArray, List.set_cons_zero, List.set_cons_succ]
      refine headH_take (i := 12) (v := ?_) rfl (by kernel_rfl) (fun _ _ _ h => h) (fun _ _ _ h => seqB_ready h.1) (Or.inl ⟨by rfl, ?hz35⟩) hS ?rst35
      case hz35 => intro w hSw; (try dsimp only at hSw); obtain ⟨hc0, hc1, hc2, hc3, hc4, hc5⟩ := hSw; go_simp; try (with_reducible rfl)
      case rst35 =>
      try simp only [Act.put, List.setIfInBounds_toArray, List.set_cons_zero, List.set_cons_succ]
      refine headH_take (i := 13) (v := ?_) rfl (by kernel_rfl) (fun _ _ _ h => h) (fun _ _ _ h => seqB_ready h.1) (Or.inl ⟨by rfl, ?hz36⟩) hS ?rst36
      case hz36 => intro w hSw; (try dsimp only at hSw); obtain ⟨hc0, hc1, hc2, hc3, hc4, hc5⟩ := hSw; go_simp; try (with_reducible rfl)
      case rst36 =>
      try simp only [Act.put, List.setIfInBounds_toArray, List.set_cons_zero, List.set_cons_succ]
      refine headH_take (i := 14) (v := ?_) rfl (by kernel_rfl) (fun _ _ _ h => h) (fun _ _ _ h => seqB_ready h.1) (Or.inl ⟨by rfl, ?hz37⟩) hS ?rst37
      case hz37 => intro w hSw; (try dsimp only at hSw); obtain ⟨hc0, hc1, hc2, hc3, hc4, hc5⟩ := hSw; go_simp; try (with_reducible rfl)
      case rst37 =>
      try simp only [Act.put, List.setIfInBounds_toArray, List.set_cons_zero, List.set_cons_succ]
      refine headH_take (i := 15) (v := ?_) rfl (by kernel_rfl) (fun _ _ _ h => h) (fun _ _ _ h => seqB_ready h.1) (Or.inl ⟨by rfl, ?hz38⟩) hS ?rst38
      case hz38 => intro w hSw; (try dsimp only at hSw); obtain ⟨hc0, hc1, hc2, hc3, hc4, hc5⟩ := hSw; go_simp; try (with_reducible rfl)
      case rst38 =>
      try simp only [Act.put, List.setIfInBounds_toArray, List.set_cons_zero, List.set_cons_succ]
      refine headH_take (i := 16) (v := ?_) rfl (by kernel_rfl) (fun _ _ _ h => h) (fun _ _ _ h => seqB_ready h.1) (Or.inl ⟨by rfl, ?hz39⟩) hS ?rst39
      case hz39 => intro w hSw; (try dsimp only at hSw); obtain ⟨hc0, hc1, hc2, hc3, hc4, hc5⟩ := hSw; go_simp; try (with_reducible rfl)
      case rst39 =>
      try simp only [Act.put, List.setIfInBounds_toArray, List.set_cons_zero, List.set_cons_succ]
      refine headH_one (i := 17) (by kernel_rfl) rfl (fun K hK => ?_)
      go_simp
      try rw [hwx]
      refine (HCl.out w3.drew (Below.refl _ _).drew).mono ?_
      rintro e w4 ⟨A2n, c2n, rfl, hi, hs, hb0⟩
      have hb : Below w3.heap.size w3 w4 := (Below.refl _ _).drew.trans (hb0.mono (Nat.le_refl _))
      have XI4 := Lib.hid (XI3.out.keep hb)
      have Q4 := Lib.hid (Q3.out.keep hb)
      have R4 := Lib.hid (R3.out.keep hb)
      have P4 := Lib.hid (P3.out.frm (FrM.of hb))
      have HB4 := Lib.hid (chain HB3.out hb)
      have v2 := (Q4.out.six).2.2.1
      have v5 := (Q4.out.six).2.2.2.2.2
      have z6 := Cs.out _ hb
      have z5 := C5.out _ hb
      have z7 := C7.out _ hb
      have v1 := (XI4.out.three3).2.1
      have f2 := Q4.out.free 2
      have PN4 := Lib.hid (P4.out.su hs hi)
      clear r0 r1 r2 r3 r4 r5 y0 y1 y2 cs c5' c7 hi hs hb hb0
      refine hK.out _ _ (show (fun (w' : World) => w'.cell? ⟨w.heap.size, 2, none⟩ = some (.slice (some ⟨b6, o6, none⟩) l2 c2) ∧ w'.cell? ⟨w.heap.size, 5, none⟩ = some (.slice (some ⟨b5, o5, none⟩) l5 c5) ∧ w'.cell? ⟨w.heap.size + 2, 1, none⟩ = some (.int .i64 (a : Int)) ∧ w'.cell? ⟨b6, o6 + t, none⟩ = some (.int .i64 x) ∧ w'.cell? ⟨b5, o5 + a, none⟩ = some (.slice (some ⟨b7, o7, none⟩) n5 d5) ∧ w'.cell? ⟨b7, o7, none⟩ = some (.int .i64 y)) w4 from ⟨v2, v5, v1, z6, z5, z7⟩) (fun hS => ?_)
      clear hK K hS
      try simp only [Act.put, List.setIfInBounds_toArray, List.set_cons_zero, List.set_cons_succ]
      refine ⟨by kernel_rfl, ?_⟩
      go_upto_region 16 with (fail)
      obtain ⟨w5, hw5⟩ : ∃ x : World, x = w4.setCell ⟨w.heap.size, 2, none⟩ (.slice A2n l2 c2n) := ⟨_, rfl⟩
      have hg5 : w4.grownBy w5 (some (w.heap.size)) := by rw [hw5]; exact grown_set w4 _ _ _
      have Q5 := Lib.hid (show Box w5 (w.heap.size) 26 #[.slice (some ⟨b0, o0, none⟩) l0 c0, .slice A1n l1 c1n, .slice A2n l2 c2n, .slice A3 l3 c3, .slice A4 l4 c4, .slice (some ⟨b5, o5, none⟩) l5 c5] by rw [hw5]; exact Q4.out.put 2 _)
      have R5 := Lib.hid (Box.grown R4.out hg5 (fun e => by injection e with e; omega))
      have XI5 := Lib.hid (Box.grown XI4.out hg5 (fun e => by injection e with e; omega))
      have P5 := Lib.hid (PN4.out.frm (FrM.grown hg5 (show MU M w.heap.size (w.heap.size) from .inr ⟨Nat.le_refl _, by omega⟩)))
      have HB5 := Lib.hid (show Below w.heap.size w w5 by rw [hw5]; exact HB4.out.setCell (p := ⟨w.heap.size, 2, none⟩) (Nat.le_refl _) _)
      rw [← hw5]
      clear hw5 hg5
      clear f2 v2 v5 z6 z5 z7 v1 C5 C7 Cs HCl hwx hb5 hb6 hb7 hpos hpos' hsl P4 Q4 XI4 R4 HB4 PN4
      have hs5 : w.heap.size + 3 ≤ w5.heap.size := by have := XI5.out.lt; omega
      obtain ⟨b8, o8, B8, n8, d8, e8, hb8, c8, hsl8, hq8⟩ := (show ChsF (MU M w.heap.size) w5 (some ⟨b5, o5, none⟩) l5 s.ch from P5.out.2.2.2.2.2.2).1.at a ha5n
      injection e8 with e8
      injection e8 with e8 e9
      subst e8 e9
      have hn8 : (s.ch.getD a []).length = n8 := hq8.1.1
      have hpos : 0 < n8 := by omega
      have hpos' : (0 : Int) < (n8 : Int) := by omega
      have hcap : n8 ≤ d8 := hsl8.1
      have hpc : (1 : Int) ≤ (n8 : Int) := by omega
      have hpd : (1 : Int) ≤ (d8 : Int) := by omega
      have hlm := hsl8.2.1
      obtain ⟨b9, o9, rfl, hb9, hc9⟩ := hq8.1.2.2 hpos
      have HCh := Lib.hid (show ChsF (MU M w.heap.size) w5 (some ⟨b5, o5, none⟩) l5 s.ch from P5.out.2.2.2.2.2.2)
      have C8 := Lib.hid (fun wx (hb : Below w5.heap.size w5 wx) => (hb.cell (p := ⟨b5, o5 + a, none⟩) hb8).trans c8)
      have HX9 := Lib.hid (show IntsF (MU M w.heap.size) w5 (some ⟨b9, o9, none⟩) n8 (s.ch.getD a []) from hq8)
      obtain ⟨A9, hA9⟩ : ∃ A9 : Option Addr, A9 = if d8 = 1 then some ⟨b9, o9, none⟩ else some ⟨b9, o9 + 1, none⟩ := ⟨_, rfl⟩
      have HA9 := Lib.hid hA9
      have HSl9 := Lib.hid (show SliceOk A9 (n8 - 1) (d8 - 1) from ⟨by omega, by omega, fun h => by rw [hA9] at h; split at h <;> cases h⟩)
      have HI9 := Lib.hid (IntsF.drop1 HX9.out hpos hcap hA9)
      have hP6 : (show List (List Int) from s.ch) = s.ch := rfl
      have HCl9 := Lib.hid (fun wx (hb : Below w5.heap.size w5 wx) => chF_any (MU M w.heap.size) (some ⟨b5, o5, none⟩) l5 c5 s.ch wx (HCh.out.frm (FrM.of hb)) (HMb.out _ (Nat.le_trans hs5 hb.size)) h15 a A9 (n8 - 1) (d8 - 1) ((s.ch.getD a []).drop 1) HSl9.out (HI9.out.frm (FrM.of hb)))
      clear hA9 hq8 hsl8 hlm hcap hn8 hch hc9 hP6
      obtain ⟨r0, r1, r2, r3, r4, r5⟩ := Q5.out.six
      obtain ⟨y0, y1, y2⟩ := XI5.out.three3
      refine wp_held_tail (S := (fun (w' : World) => w'.cell? ⟨w.heap.size, 5, none⟩ = some (.slice (some ⟨b5, o5, none⟩) l5 c5) ∧ w'.cell? ⟨w.heap.size + 2, 1, none⟩ = some (.int .i64 (a : Int)) ∧ w'.cell? ⟨b5, o5 + a, none⟩ = some (.slice (some ⟨b9, o9, none⟩) n8 d8))) 12 (by kernel_rfl) (by decide) ?_
      have hS : (fun (w' : World) => w'.cell? ⟨w.heap.size, 5, none⟩ = some (.slice (some ⟨b5, o5, none⟩) l5 c5) ∧ w'.cell? ⟨w.heap.size + 2, 1, none⟩ = some (.int .i64 (a : Int)) ∧ w'.cell? ⟨b5, o5 + a, none⟩ = some (.slice (some ⟨b9, o9, none⟩) n8 d8)) w5.drew := ⟨r5, y1, c8⟩
      refine headH_take (i := 0) (v := ?_) rfl (by kernel_rfl) (fun _ _ _ h => h) (fun _ _ _ h => seqB_ready h.1) (Or.inl ⟨by rfl, ?hz40⟩) hS ?rst40
      case hz40 => intro w hSw; (try dsimp only at hSw); obtain ⟨hc0, hc1, hc2⟩ := hSw; go_simp; try (with_reducible rfl)
      case rst40 =>
      try simp only [Act.put, List.setIfInBounds_toArray, List.set_cons_zero, List.set_cons_succ]
      refine headH_take (i := 1) (v := ?_) rfl (by kernel_rfl) (fun _ _ _ h => h) (fun _ _ _ h => seqB_ready h.1) (Or.inl ⟨by rfl, ?hz41⟩) hS ?rst41
      case hz41 => intro w hSw; (try dsimp only at hSw); obtain ⟨hc0, hc1, hc2⟩ := hSw; go_simp; try (with_reducible rfl)
      case rst41 =>
      try simp only [Act.put, List.setIfInBounds_toArray, List.set_cons_zero, List.set_cons_succ]
      refine headH_take (i := 2) (v := ?_) rfl (by kernel_rfl) (fun _ _ _ h => h) (fun _ _ _ h => seqB_ready h.1) (Or.inl ⟨by rfl, ?hz42⟩) hS ?rst42
      case hz42 => intro w hSw; (try dsimp only at hSw); obtain ⟨hc0, hc1, hc2⟩ := hSw; go_simp; try (with_reducible rfl)
      case rst42 =>
      try simp only [Act.put, List.setIfInBounds_toArray, List.set_cons_zero, List.set_cons_succ]
      refine headH_take (i := 3) (v := ?_) rfl (by kernel_rfl) (fun _ _ _ h => h) (fun _ _ _ h => seqB_ready h.1) (Or.inl ⟨by rfl, ?hz43⟩) hS ?rst43
      case hz43 => intro w hSw; (try dsimp only at hSw); obtain ⟨hc0, hc1, hc2⟩ := hSw; go_simp; try (with_reducible rfl)
      case rst43 =>
      try simp only [Act.put, List.setIfInBounds_toArray, List.set_cons_zero, List.set_cons_succ]
      refine headH_take (i := 4) (v := ?_) rfl (by kernel_rfl) (fun _ _ _ h => h) (fun _ _ _ h => seqB_ready h.1) (Or.inl ⟨by rfl, ?hz44⟩) hS ?rst44
      case hz44 => intro w hSw; (try dsimp only at hSw); obtain ⟨hc0, hc1, hc2⟩ := hSw; go_simp; try (with_reducible rfl)
      case rst44 =>
      try simp only [Act.put, List.setIfInBounds_toArray, List.set_cons_zero, List.set_cons_succ]
      refine headH_take (i := 5) (v := ?_) rfl (by kernel_rfl) (fun _ _ _ h => h) (fun _ _ _ h => seqB_ready h.1) (Or.inl ⟨by rfl, ?hz45⟩) hS ?rst45
      case hz45 => intro w hSw; (try dsimp only at hSw); obtain ⟨hc0, hc1, hc2⟩ := hSw; go_simp; try (with_reducible rfl)
      case rst45 =>
      try simp only [Act.put, List.setIfInBounds_toArray, List.set_cons_zero, List.set_cons_succ]
      refine headH_take (i := 6) (v := ?_) rfl (by kernel_rfl) (fun _ _ _ h => h) (fun _ _ _ h => seqB_ready h.1) (Or.inl ⟨by rfl, ?hz46⟩) hS ?rst46
      case hz46 => intro w hSw; (try dsimp only at hSw); obtain ⟨hc0, hc1, hc2⟩ := hSw; go_simp; try (with_reducible rfl)
      case rst46 =>
      try simp only [Act.put, List.setIfInBounds_toArray, List.set_cons_zero, List.set_cons_succ]
      refine headH_take (i := 7) (v := ?_) rfl (by kernel_rfl) (fun _ _ _ h => h) (fun _ _ _ h => seqB_ready h.1) (Or.inl ⟨by rfl, ?hz47⟩) hS ?rst47
      case hz47 => intro w hSw; (try dsimp only at hSw); obtain ⟨hc0, hc1, hc2⟩ := hSw; go_simp; try (with_reducible rfl)
      case rst47 =>
      try simp only [Act.put, List.setIfInBounds_toArray, List.set_cons_zero, List.set_cons_succ]
      refine headH_take (i := 8) (v := ?_) rfl (by kernel_rfl) (fun _ _ _ h => h) (fun _ _ _ h => seqB_ready h.1) (Or.inl ⟨by rfl, ?hz48⟩) hS ?rst48
      case hz48 => intro w hSw; (try dsimp only at hSw); obtain ⟨hc0, hc1, hc2⟩ := hSw; go_simp; try (with_reducible rfl)
      case rst48 =>
      try simp only [Act.put, List.setIfInBounds_toArray, List.set_cons_zero, List.set_cons_succ]
      refine headH_take (i := 9) (v := ?_) rfl (by kernel_rfl) (fun _ _ _ h => h) (fun _ _ _ h => seqB_ready h.1) (Or.inl ⟨by rfl, ?hz49⟩) hS ?rst49
      case hz49 => intro w hSw; (try dsimp only at hSw); obtain ⟨hc0, hc1, hc2⟩ := hSw; go_simp; try (with_reducible rfl)
      case rst49 =>
      try simp only [Act.put, List.setIfInBounds_toArray, List.set_cons_zero, List.set_cons_succ]
      refine headH_take (i := 10) (v := .slice A9 (n8 - 1) (d8 - 1)) rfl (by kernel_rfl) (fun _ _ _ h => h) (fun _ _ _ h => seqB_ready h.1) (Or.inl ⟨by rfl, ?hz50⟩) hS ?rst50
      case hz50 => intro w hSw; (try dsimp only at hSw); obtain ⟨hc0, hc1, hc2⟩ := hSw; go_simp; rw [HA9.out]; (try (split <;> rename_i hd1 <;> simp [hd1]))
      case rst50 =>
      try simp only [Act.put, List.setIfInBounds_toArray, List.set_cons_zero, List.set_cons_succ]
      refine headH_one (i := 11) (by kernel_rfl) rfl (fun K hK => ?_)
      go_simp
      refine (HCl9.out w5.drew (Below.refl _ _).drew).mono ?_
      rintro e w6 ⟨A5n, c5n, rfl, hi, hs, hb0⟩
      have hb : Below w5.heap.size w5 w6 := (Below.refl _ _).drew.trans (hb0.mono (Nat.le_refl _))
      have XI6 := Lib.hid (XI5.out.keep hb)
      have Q6 := Lib.hid (Q5.out.keep hb)
      have R6 := Lib.hid (R5.out.keep hb)
      have P6 := Lib.hid (P5.out.frm (FrM.of hb))
      have HB6 := Lib.hid (chain HB5.out hb)
      have v5 := (Q6.out.six).2.2.2.2.2
      have z5 := C8.out _ hb
      have v1 := (XI6.out.three3).2.1
      have f5 := Q6.out.free 5
      have PN6 := Lib.hid (P6.out.ch hs hi)
      clear r0 r1 r2 r3 r4 r5 y0 y1 y2 c8 hi hs hb hb0
      refine hK.out _ _ (show (fun (w' : World) => w'.cell? ⟨w.heap.size, 5, none⟩ = some (.slice (some ⟨b5, o5, none⟩) l5 c5) ∧ w'.cell? ⟨w.heap.size + 2, 1, none⟩ = some (.int .i64 (a : Int)) ∧ w'.cell? ⟨b5, o5 + a, none⟩ = some (.slice (some ⟨b9, o9, none⟩) n8 d8)) w6 from ⟨v5, v1, z5⟩) (fun hS => ?_)
      clear hK K hS
      try simp only [Act.put, List.setIfInBounds_toArray, List.set_cons_zero, List.set_cons_succ]
      refine ⟨by kernel_rfl, ?_⟩
      go_upto_region 17 with (fail)
      obtain ⟨w7, hw7⟩ : ∃ x : World, x = w6.setCell ⟨w.heap.size, 5, none⟩ (.slice A5n l5 c5n) := ⟨_, rfl⟩
      have hg7 : w6.grownBy w7 (some (w.heap.size)) := by rw [hw7]; exact grown_set w6 _ _ _
      have Q7 := Lib.hid (show Box w7 (w.heap.size) 26 #[.slice (some ⟨b0, o0, none⟩) l0 c0, .slice A1n l1 c1n, .slice A2n l2 c2n, .slice A3 l3 c3, .slice A4 l4 c4, .slice A5n l5 c5n] by rw [hw7]; exact Q6.out.put 5 _)
      have R7 := Lib.hid (Box.grown R6.out hg7 (fun e => by injection e with e; omega))
      have XI7 := Lib.hid (Box.grown XI6.out hg7 (fun e => by injection e with e; omega))
      have P7 := Lib.hid (PN6.out.frm (FrM.grown hg7 (show MU M w.heap.size (w.heap.size) from .inr ⟨Nat.le_refl _, by omega⟩)))
      have HB7 := Lib.hid (show Below w.heap.size w w7 by rw [hw7]; exact HB6.out.setCell (p := ⟨w.heap.size, 5, none⟩) (Nat.le_refl _) _)
      rw [← hw7]
      clear hw7 hg7
      clear f5 v5 v1 z5
      have RF := Lib.hid (((((((R7.out.put 0 (.slice (some ⟨b0, o0, none⟩) l0 c0)).put 1 (.slice A1n l1 c1n)).put 2 (.slice A2n l2 c2n)).put 3 (.slice A3 l3 c3)).put 4 (.slice A4 l4 c4)).put 5 (.slice A5n l5 c5n)))
      have BF := Lib.hid (((((((HB7.out.setCell (p := ⟨w.heap.size + 1, 0, none⟩) (Nat.le_succ _) (.slice (some ⟨b0, o0, none⟩) l0 c0)).setCell (p := ⟨w.heap.size + 1, 1, none⟩) (Nat.le_succ _) (.slice A1n l1 c1n)).setCell (p := ⟨w.heap.size + 1, 2, none⟩) (Nat.le_succ _) (.slice A2n l2 c2n)).setCell (p := ⟨w.heap.size + 1, 3, none⟩) (Nat.le_succ _) (.slice A3 l3 c3)).setCell (p := ⟨w.heap.size + 1, 4, none⟩) (Nat.le_succ _) (.slice A4 l4 c4)).setCell (p := ⟨w.heap.size + 1, 5, none⟩) (Nat.le_succ _) (.slice A5n l5 c5n)))
      have PG := Lib.hid (P7.out.frm (FrM.grown (set6_grown w7 (w.heap.size + 1) (.slice (some ⟨b0, o0, none⟩) l0 c0) (.slice A1n l1 c1n) (.slice A2n l2 c2n) (.slice A3 l3 c3) (.slice A4 l4 c4) (.slice A5n l5 c5n)) (show MU M w.heap.size (w.heap.size + 1) from .inr ⟨Nat.le_succ _, by omega⟩)))
      have f0 := R7.out.free 0
      have f1 := R7.out.free 1
      have f2 := R7.out.free 2
      have f3 := R7.out.free 3
      have f4 := R7.out.free 4
      have f5 := R7.out.free 5
      obtain ⟨r0, r1, r2, r3, r4, r5⟩ := Q7.out.six
      obtain ⟨m0, m1, m2, m3, m4, m5⟩ := R7.out.six
      obtain ⟨y0, y1, y2⟩ := XI7.out.three3
      have HD := Lib.hid (show stepS s t = { bumpS s t with su := s.su.set t (x + y), ch := s.ch.set a ((s.ch.getD a []).drop 1) } by rw [HBs.out]; unfold doI; rw [if_neg (show ¬ (4 : Int) = 0 by decide), if_neg (show ¬ (4 : Int) = 1 by decide), if_neg (show ¬ (4 : Int) = 2 by decide), if_neg (show ¬ (4 : Int) = 3 by decide), HX.out, HY.out]; rfl)
      go_wp2_with fail
      refine close_one Try.results24 rfl rfl RF.out Try.underlying26 rfl (by kernel_rfl) ?_
      rw [HD.out]
      exact ⟨_, _, _, _, _, _, _, _, _, _, _, _, _, _, _, rfl, PF.less PG.out, BF.out⟩
end Go.Proofs.Ytcamoigcfiemhaa
