/- Parts: Rd3, Rd4, Rd5, Rd6, Rd7, Rd8, Few4, RuM, RuX, Re1, Re2, Re3. -/
import Derived.Test.YtdfmogcgangdnaaDoorZd
import Derived.BigQuiet
import Derived.Deep.AppendLies
import Derived.Deep.DeepCutAuto
import Derived.Deep.QuietTactic
import Derived.Deep.RegionHeld3
import Derived.Deep.RegionLaw
import Derived.Deep.RegionWith
import Derived.IntWalk
import Derived.LoopIn
import Derived.LoopNIn
import Derived.Maps.AppendAt
import Derived.OwnWalkIn
import Derived.RangeFuncCalls
import Derived.Shelf.Abstract
import Derived.Shelf.RegionOpen
import Derived.TacticsInMore
namespace Go.Proofs.YtdfmogcgangdnaaDoor
section
/- Layer 4: the iterator columns. -/
set_option linter.unusedVariables false
set_option linter.unusedSimpArgs false
open Go.RowKit Go.Shelf
set_option maxRecDepth 100000
attribute [local go_sem] Oper.semAt_some
theorem work_lt {orig L P : List Nat} {d c N : Nat} (h : Work orig L d c P) (ho : ∀ r ∈ orig, r < 2 ^ N) (i : Nat) : L.getD i 0 < 2 ^ N :=
  lt_all (fun _ hr => sp_lt ho ((h.span _).2 (sp_mem hr))) i
/-- What a round of columns is handed back with. -/
def ColR (N base wb : Nat) (v : Value) (R : List Nat → World → Prop) (L : List Nat) (d c : Nat) (P : List Nat) (e : Ending) (W' : World) : Prop :=
  e = .returned (.bool true) ∧ Box W' wb 62 #[.int .i64 (N : Int), v, .int .i64 ((d : Int) + 1)] ∧ RowsN W' base v N (clearL L d c) ∧ R (P ++ [c]) W'
set_option maxHeartbeats 800000 in
theorem columns_in (n : Nat) (hn : 1 ≤ n) (l : Nat) (N : Nat) (hN : N ≤ 64) (orig : List Nat) (ho : ∀ r ∈ orig, r < 2 ^ N) (hlen : orig.length ≤ 64) (base wb : Nat) (v : Value) (hwb : wb < base) (R : List Nat → World → Prop)
    (hR1 : ∀ P W W', R P W → Below W.heap.size W W' → R P W') (hR2 : ∀ P W g i u, R P W → g = wb ∨ v.ownBlock = some g → R P (W.setCell ⟨g, i, none⟩ u))
    (hY : ∀ L d c P W, Work orig L d c P → d < L.length → (L.getD d 0).testBit c = true → c < N → Box W wb 62 #[.int .i64 (N : Int), v, .int .i64 ((d : Int) + 1)] → RowsN W base v N L → R P W →
      YieldAt Fence.wide (n - 1) Tryd.prog l #[.int .i64 (c : Int)] W (ColR N base wb v R L d c P))
    (W : World) (hB : Box W wb 62 #[.int .i64 (N : Int), v, .int .i64 0]) (hr : RowsN W base v N orig) (h0 : R [] W) :
    CallsIn Fence.wide n Tryd.prog 24 #[.pointer (some ⟨wb, 0, none⟩), .func (.yield l) #[] #[]] W fun e W' => (∃ v, e = .returned v) ∧
      ∃ L d P, Work orig L d N P ∧ Box W' wb 62 #[.int .i64 (N : Int), v, .int .i64 (d : Int)] ∧ RowsN W' base v N L ∧ R P W' := by
  refine callsIn_of_wp Tryd.func24 rfl trivial ?_ rfl
  simp only [Tryd.ntmps24, List.size_toArray, List.length_cons, List.length_nil, Nat.reduceAdd, Nat.reduceSub, Array.replicate_succ, Array.replicate_zero, List.push_toArray, List.append_toArray, List.nil_append, List.cons_append]
  obtain ⟨b0, b1, b2, -, -, -⟩ := hB.three
  have HY := Lib.hid hY
  have HR1 := Lib.hid hR1
  have HR2 := Lib.hid hR2
  have HOr := Lib.hid ho
  have HB0 := Lib.hid hB
  have HRw0 := Lib.hid hr
  have H0 := Lib.hid h0
  clear hY hR1 hR2 ho hB hr h0
  gi_wp2
  clear b0 b1 b2
  gi_loopw [10] (fun t wr => ∃ (c : Nat) (L : List Nat) (d : Nat) (P : List Nat), c ≤ N ∧ t = .int .i64 (c : Int) ∧ Box wr wb 62 #[.int .i64 (N : Int), v, .int .i64 (d : Int)] ∧ RowsN wr base v N L ∧ Hid (Work orig L d c P) ∧ Hid (R P wr)) (fun t _ => N - (intOf t).toNat)
  case atStart => exact ⟨0, orig, 0, [], Nat.zero_le _, rfl, HB0.out, HRw0.out, Lib.hid (work_start orig), H0⟩
  case round =>
    obtain ⟨c, L, d, P, hc, rfl, hbx, hrw, HWk, HRr⟩ := hrel
    have HB := Lib.hid hbx
    have HRw := Lib.hid hrw
    clear hbx hrw HB0 HRw0 H0
    by_cases hlt : c < N
    · have hlt' : (c : Int) < (N : Int) := by omega
      have HLt := Lib.hid (work_lt HWk.out HOr.out)
      have hl64 : L.length ≤ 64 := by rw [HWk.out.size]; exact hlen
      have hdl := HWk.out.dl
      obtain ⟨A0, c0, hv, -⟩ := own_form HRw.out.choose_spec.2.1
      rw [mkM_len] at hv
      have HV := Lib.hid hv
      have HF := Lib.hid (find_any N (by omega) L HLt.out hl64 v base wb d c hdl hlt _ HB.out HRw.out)
      obtain ⟨b0, b1, b2, -, -, -⟩ := HB.out.three
      subst hv
      gi_wp2
      refine ⟨trivial, (callsIn_wide.2 HF.out).mono ?_⟩
      rintro e w1 ⟨i, rfl, i1, i2, hno, hyes, hb⟩
      have HB1 := Lib.hid (HB.out.keep hb)
      have HRw1 := Lib.hid (HRw.out.below hb)
      have HRr1 := Lib.hid (HR1.out _ _ _ HRr.out hb)
      have HNo := Lib.hid hno
      have HYe := Lib.hid hyes
      clear hb hno hyes b0 b1 b2
      obtain ⟨b0, b1, b2, bf0, bf1, bf2⟩ := HB1.out.three
      by_cases hil : i = L.length
      · have t1 : ((i : Int) == (L.length : Int)) = true := by simp [hil]
        have HNone := Lib.hid (work_none HWk.out (fun j h1 h2 => HNo.out j h1 (by omega)))
        clear hil
        gi_wp2
        go_roundw
        case rel => exact ⟨c + 1, L, d, P, by omega, by go_num, HB1.out, HRw1.out, HNone, HRr1⟩
        case measure => simp [intOf]; omega
      · have t1 : ((i : Int) == (L.length : Int)) = false := by simp; omega
        have hi : i < L.length := by omega
        have hd : d < L.length := by omega
        have HBit := Lib.hid (HYe.out hi)
        clear HYe HNo hil
        obtain ⟨g, cap, hv, hgb, hg, hcap, hcm⟩ := HRw1.out.form (by omega)
        injection hv with e1 e2 e3
        subst e1 e3
        obtain ⟨Ai, li, ci, x0, x1, owi, xf0, xf1⟩ := HRw1.out.at rfl i hi
        obtain ⟨Ad, ld, cd, y0, y1, owd, yf0, yf1⟩ := HRw1.out.at rfl d hd
        have OI := Lib.hid owi
        have OD := Lib.hid owd
        have hwg : ¬ wb = g := by omega
        have hi' : (i : Int) < (L.length : Int) := by omega
        have hd' : (d : Int) < (L.length : Int) := by omega
        clear owi owd
        gi_wp2
        have hgw : ¬ g = wb := fun e => hwg e.symm
        clear e2
        refine wpIn_quiet_skip (v := ?v) 12 30 rfl (by kernel_rfl) rfl (by kernel_rfl) (by kernel_rfl) ?h3 ?h4 ?rest
        case h3 => exact fun _ _ _ h => h
        case h4 => exact ⟨Or.inl ⟨by rfl, by intro w; go_simp; try (with_reducible rfl)⟩, fun _ => rfl⟩
        case rest =>
        simp only [List.take_succ_cons, List.take_zero, List.drop_succ_cons, List.drop_zero, List.cons_append, List.nil_append, Nat.reduceSub, Nat.reduceAdd]
        repeat
          refine wpQuietIn_step (fun _ _ _ _ => trivial) (fun K hK => ?_)
          go_simp
          (refine hK _ ?_; clear hK K)
        refine wpQuietIn_nil ?_
        intro _ hw'
        obtain ⟨nq, rfl⟩ := hw'
        have hq : Below w1.heap.size w1 (w1.drewN nq) := ⟨rfl, rfl, rfl, Nat.le_refl _, fun _ _ => rfl⟩
        have HB2 := Lib.hid (HB1.out.keep hq)
        have HRw2 := Lib.hid (HRw1.out.below hq)
        have HRr2 := Lib.hid (HR1.out _ _ _ HRr1.out hq)
        have OI2 := Lib.hid (OI.out.below hq)
        have OD2 := Lib.hid (OD.out.below hq)
        clear x0 x1 xf0 xf1 y0 y1 yf0 yf1 b0 b1 b2 bf0 bf1 bf2 hq HB1 HRw1 HRr1 OI OD
        generalize w1.drewN nq = w2 at *
        have P1 := Lib.hid (HRw2.out.put d hd (L.getD i 0) OI2.out)
        have OD3 := Lib.hid (HRw2.out.keepW OD2.out (d * 2) (d * 2 + 1) (.int .i64 (N : Int)) (.slice Ai li ci))
        have P2 := Lib.hid (RowsN.put (L := L.set d (L.getD i 0)) (by rw [List.length_set]; exact P1.out) i (by rw [List.length_set]; exact hi) (L.getD d 0) OD3.out)
        have P3 := Lib.hid P2.out
        rw [List.length_set] at P3
        have HB3 := Lib.hid ((((HB2.out.far (p := ⟨g, d * 2, none⟩) hwg (.int .i64 (N : Int))).far (p := ⟨g, d * 2 + 1, none⟩) hwg (.slice Ai li ci)).far (p := ⟨g, i * 2, none⟩) hwg (.int .i64 (N : Int))).far (p := ⟨g, i * 2 + 1, none⟩) hwg (.slice Ad ld cd))
        have HR3 := Lib.hid (HR2.out _ _ g (i * 2 + 1) (.slice Ad ld cd) (HR2.out _ _ g (i * 2) (.int .i64 (N : Int)) (HR2.out _ _ g (d * 2 + 1) (.slice Ai li ci) (HR2.out _ _ g (d * 2) (.int .i64 (N : Int)) HRr2.out (.inr rfl)) (.inr rfl)) (.inr rfl)) (.inr rfl))
        obtain ⟨Ax, lx, cx, y0, y1, -, yf0, yf1⟩ := HRw2.out.at rfl d hd
        obtain ⟨As, ls, cs, z0, z1, -, zf0, zf1⟩ := P1.out.at (show Value.slice (some ⟨g, 0, none⟩) L.length c0 = .slice (some ⟨g, 0, none⟩) (L.set d (L.getD i 0)).length c0 by rw [List.length_set]) i (by rw [List.length_set]; exact hi)
        obtain ⟨b0, b1, b2, bf0, bf1, bf2⟩ := HB2.out.three
        have HSw := Lib.hid (show (L.set d (L.getD i 0)).set i (L.getD d 0) = swapL L d i from rfl)
        have HWk2 := Lib.hid (work_swap HWk.out i1 hi)
        have hsl : (swapL L d i).length = L.length := swapL_len L d i
        have HSb := Lib.hid (show ((swapL L d i).getD d 0).testBit c = true by
          rw [swapL_at L d i d hd hi]
          by_cases e : d = i
          · rw [if_pos e, e]; exact HBit.out
          · rw [if_neg e, if_pos rfl]; exact HBit.out)
        rw [HSw.out] at P3
        have P4 := Lib.hid (P3.out.far HB3.out (by decide) (by decide) 2 (.int .i64 ((d : Int) + 1)))
        have HB4 := Lib.hid (HB3.out.put 2 (.int .i64 ((d : Int) + 1)))
        have HR4 := Lib.hid (HR2.out _ _ wb 2 (.int .i64 ((d : Int) + 1)) HR3.out (.inl rfl))
        have hy0 := HY.out (swapL L d i) d c P _ HWk2.out (by rw [hsl]; exact hd) HSb.out hlt HB4.out P4.out HR4.out
        obtain ⟨fn, tmps, assign, body, hy, hRR⟩ := hy0
        have hR' := Lib.hid hRR
        have HCl := Lib.hid (work_clear HWk2.out (by rw [hsl]; exact hd) HSb.out)
        have hd64 : d ≤ 64 := by omega
        clear hRR hsl P1 P2 OD3 OI2 OD2 P3 P4 HB4 HR4 HR3 HSb HSw HWk2 HB3
        trace "T1"
        gi_wp2_with fail
        trace "T2"
        refine RoundIn.mono hR'.out ?_
        rintro e W3 ⟨rfl, q1, q2, q3⟩
        have Q1 := Lib.hid q1
        have Q2 := Lib.hid q2
        have Q3 := Lib.hid q3
        clear q1 q2 q3 b0 b1 b2 bf0 bf1 bf2 y0 y1 yf0 yf1 z0 z1 zf0 zf1 hy
        gi_wp2_with fail
        trace "T3"
        go_roundw
        case rel => exact ⟨c + 1, clearL (swapL L d i) d c, d + 1, P ++ [c], by omega, by go_num, Q1.out, Q2.out, HCl, Q3⟩
        case measure => simp [intOf]; omega
    · obtain rfl : c = N := by omega
      have hlt' : ¬ (c : Int) < c := by omega
      gi_wp2
      go_end0
      exact ⟨⟨_, rfl⟩, L, d, P, HWk.out, HB.out, HRw.out, HRr.out⟩
end
section
/- Layer 4: workOn. -/
set_option linter.unusedVariables false
set_option linter.unusedSimpArgs false
open Go.RowKit
set_option maxRecDepth 100000
theorem mkM_take (N : Nat) (L : List Nat) (i : Nat) (h : i < L.length) : mkM N (L.take (i + 1)) = mkM N (L.take i) ++ [((N : Int), rowOf N (L.getD i 0))] := by
  unfold mkM
  rw [List.take_succ_eq_append_getElem h, List.map_append]
  simp [mkR, List.getD, h]
/-- A matrix that may be is that of numbers. -/
theorem mat_num {N : Int} {ms : List (Int × List Nat)} (h : rightM N ms = true) (hl : ∀ i j, ((ms.getD i (0, [])).2).getD j 0 < 18446744073709551616) : ∃ (n : Nat) (L : List Nat), N = n ∧ n ≤ 64 ∧ L.length ≤ 64 ∧ ms = mkM n L ∧ ∀ r ∈ L, r < 2 ^ n := by
  obtain ⟨h0, h1, h2⟩ := rightM_bd h
  obtain ⟨n, rfl⟩ := Int.eq_ofNat_of_zero_le h0
  refine ⟨n, ms.map fun r => valW r.2, rfl, by omega, by simpa using h2, ?_, fun r hr => ?_⟩
  · apply List.ext_getElem (by simp [mkM])
    intro j h3 h4
    obtain ⟨e1, e2⟩ := rightM_at h j h3
    have hr := row_of e2 (hl j)
    simp only [mkM, mkR, List.map_map, List.getElem_map, Function.comp_def]
    have g : ms.getD j (0, []) = ms[j] := by simp [List.getD, h3]
    rw [g] at e1 hr
    rw [← hr.1, ← e1]
  · obtain ⟨q, hq, rfl⟩ := List.mem_map.1 hr
    obtain ⟨j, hj, rfl⟩ := List.getElem_of_mem hq
    obtain ⟨e1, e2⟩ := rightM_at h j hj
    have hr := row_of e2 (hl j)
    have g : ms.getD j (0, []) = ms[j] := by simp [List.getD, hj]
    rw [g] at hr
    exact hr.2
/-- Rows that may be reduced. -/
def WorkOut (N : Nat) (L : List Nat) (w : World) (e : Ending) (w' : World) : Prop :=
  ∃ v, e = .returned (.pointer (some ⟨w.heap.size + 1, 0, none⟩)) ∧ Box w' (w.heap.size + 1) 62 #[.int .i64 (N : Int), v, .int .i64 0] ∧ RowsN w' (w.heap.size + 2) v N L ∧ Below w.heap.size w w'
set_option maxHeartbeats 4000000 in
theorem workOn_any (N : Nat) (hN : N ≤ 64) (L : List Nat) (hL : ∀ r ∈ L, r < 2 ^ N) (hlen : L.length ≤ 64) (A : Option Addr) (c lo : Nat) (w : World) (hm : MatAt w lo A L.length (mkM N L)) :
    Calls Tryd.prog 23 #[.agg #[.int .i64 (N : Int), .slice A L.length c]] w (WorkOut N L w) := by
  obtain ⟨i0, hi, hz0, hz1, hz2⟩ := info_parts row_infoM
  have HI := Lib.hid hi
  have HZ0 := Lib.hid hz0
  have HZ1 := Lib.hid hz1
  have HZ2 := Lib.hid hz2
  have HLt := Lib.hid (lt_all hL)
  have hlm : lmb (N : Int) = true := (lmb_iff N).2 (by omega)
  have HNew := Lib.hid (new_own N hlm)
  rw [← rowOf_zero] at HNew
  have Q0 := Lib.hid ((Box.new w 24 #[.int .i64 (N : Int), .slice A L.length c]).alloc (.cells #[.int .i64 (N : Int), .slice none 0 0, .int .i64 0] 62))
  have q1 := Box.new (w.alloc (.cells #[.int .i64 (N : Int), .slice A L.length c] 24)) 62 #[.int .i64 (N : Int), .slice none 0 0, .int .i64 0]
  have HW := Lib.hid (show Below w.heap.size w ((w.alloc (.cells #[.int .i64 (N : Int), .slice A L.length c] 24)).alloc (.cells #[.int .i64 (N : Int), .slice none 0 0, .int .i64 0] 62)) from ((Below.refl _ _).alloc (Nat.le_refl _) _).alloc (by simp) _)
  simp only [World.size_alloc] at q1
  have Q1 := Lib.hid q1
  have HM := Lib.hid hm
  clear hi hz0 hz1 hz2 q1 hlm hm
  go_enter Tryd.func23, Tryd.ntmps23
  go_wp2_with fail
  go_loopw [17] (fun t wr => ∃ (i : Nat) (v : Value), i ≤ L.length ∧ t = .int .i64 (i : Int) ∧ Box wr w.heap.size 24 #[.int .i64 (N : Int), .slice A L.length c] ∧ Box wr (w.heap.size + 1) 62 #[.int .i64 (N : Int), v, .int .i64 0] ∧ RowsN wr (w.heap.size + 2) v N (L.take i) ∧ Below w.heap.size w wr) (fun t _ => L.length - (intOf t).toNat)
  case atStart => exact ⟨0, _, Nat.zero_le _, rfl, Q0.out, Q1.out, RowsW.nil _ _, HW.out⟩
  case round =>
    obtain ⟨i, v, hi, rfl, B0, B1, hrw, hbel⟩ := hrel
    have R0 := Lib.hid B0
    have R1 := Lib.hid B1
    have HRw := Lib.hid hrw
    have HB := Lib.hid hbel
    clear B0 B1 hrw hbel Q0 Q1 HW
    obtain ⟨a0, a1, -, -⟩ := R0.out.two
    by_cases hlt : i < L.length
    · have hlt' : (i : Int) < (L.length : Int) := by omega
      obtain ⟨b, off, B, l1, c1, rfl, hbl, x0, x1, hs, hw⟩ := (HM.out.mono (Nat.le_refl _) HB.out).at i hlt
      rw [mkM_at N L i hlt] at x0 hw
      have HTK := Lib.hid (mkM_take N L i hlt)
      have HTL := Lib.hid (show (L.take i).length = i by rw [List.length_take]; omega)
      have hx := HLt.out i
      generalize L.getD i 0 = x at *
      have HX := Lib.hid hx
      simp only [mkR] at x0 hw
      have hal : Below wr.heap.size wr (wr.alloc (.cells #[.int .i64 (N : Int), .slice B l1 c1] 27)) := (Below.refl _ _).alloc (Nat.le_refl _) _
      have E := Lib.hid (Box.new wr 27 #[.int .i64 (N : Int), .slice B l1 c1])
      have R0 := Lib.hid (R0.out.keep hal)
      have R1 := Lib.hid (R1.out.keep hal)
      have HRw := Lib.hid (HRw.out.below hal)
      have HB := Lib.hid (chain HB.out hal)
      have HWx := Lib.hid (hw.below hal)
      clear hal hx hw hs a0 a1
      obtain ⟨a0, a1, -, -⟩ := R0.out.two
      go_wp2_with fail
      refine (HNew.out _).mono ?_
      rintro e w1 ⟨A1, l2, c2, rfl, hz, hb⟩
      have hal : Below w1.heap.size w1 (w1.alloc (.cells #[.int .i64 (N : Int), .slice A1 l2 c2] 27)) := (Below.refl _ _).alloc (Nat.le_refl _) _
      have E := Lib.hid ((E.out.keep hb).keep hal)
      have R0 := Lib.hid ((R0.out.keep hb).keep hal)
      have R1 := Lib.hid ((R1.out.keep hb).keep hal)
      have HRw := Lib.hid ((HRw.out.below hb).below hal)
      have HB := Lib.hid (chain (chain HB.out hb) hal)
      have HWx := Lib.hid ((HWx.out.below hb).below hal)
      have F := Lib.hid (Box.new w1 27 #[.int .i64 (N : Int), .slice A1 l2 c2])
      have HWz := Lib.hid ((hz.below hal).words (rowOf_lt N 0))
      clear hb hal hz x0 x1 a0 a1
      obtain ⟨e0, e1, -, -⟩ := E.out.two
      obtain ⟨f0, f1, -, -⟩ := F.out.two
      go_wp2_with fail
      refine (xor_num N 0 x (by omega) (Nat.two_pow_pos N) HX.out A1 B l2 c2 l1 c1 _ HWz.out HWx.out).mono ?_
      rw [Nat.zero_xor]
      rintro e w2 ⟨A3, l3, c3, rfl, ho, hb⟩
      have hal : Below w2.heap.size w2 (w2.alloc (.cells #[.int .i64 (N : Int), .slice A3 l3 c3] 27)) := (Below.refl _ _).alloc (Nat.le_refl _) _
      have R0 := Lib.hid ((R0.out.keep hb).keep hal)
      have R1 := Lib.hid ((R1.out.keep hb).keep hal)
      have HRw := Lib.hid ((HRw.out.below hb).below hal)
      have HB := Lib.hid (chain (chain HB.out hb) hal)
      have G := Lib.hid (Box.new w2 27 #[.int .i64 (N : Int), .slice A3 l3 c3])
      have OW := Lib.hid (ho.below hal)
      clear hb hal ho e0 e1 f0 f1 E F HWx HWz
      go_wp2_with fail
      generalize hW3 : w2.alloc (.cells #[.int .i64 (N : Int), .slice A3 l3 c3] 27) = w3 at *
      clear hW3
      obtain ⟨g0, g1, -, -⟩ := G.out.two
      obtain ⟨b0, b1, b2, bf0, bf1, bf2⟩ := R1.out.three
      obtain ⟨rs, hr1, hr2, hr3⟩ := HRw.out
      rw [mkM_len, HTL.out] at hr1 hr2 hr3
      have HOW := Lib.hid hr2
      have HRS := Lib.hid hr3
      have hb0 := HB.out.size
      have hb1 := R1.out.lt
      have hn0 := HOW.out.lt
      have T1 := Lib.hid (R1.out.alloc (.cells #[.int .i64 (N : Int), .slice A3 l3 c3] 27))
      have ki := HI.out
      have kz0 := HZ0.out
      have kz1 := HZ1.out
      have kz2 := HZ2.out
      clear hr2 hr3
      have XO := Lib.hid (own_drewM (World.ownsRow.alloc HOW.out (.cells #[.int .i64 (N : Int), .slice A3 l3 c3] 27)))
      have XN := Lib.hid (show ∀ j u, ([.int .i64 (N : Int), .slice A3 l3 c3] : List Value)[j]? = some u → (w3.alloc (.cells #[.int .i64 (N : Int), .slice A3 l3 c3] 27)).drew.cell? ((⟨w3.heap.size, 0, none⟩ : Addr).add j) = some u from World.news_of_block (Box.new w3 27 #[.int .i64 (N : Int), .slice A3 l3 c3]))
      have XL := Lib.hid (show w.heap.size + 2 ≤ (w3.alloc (.cells #[.int .i64 (N : Int), .slice A3 l3 c3] 27)).drew.heap.size by show _ ≤ (w3.alloc (.cells #[.int .i64 (N : Int), .slice A3 l3 c3] 27)).heap.size; simp; omega)
      have XT := Lib.hid (show Box (w3.alloc (.cells #[.int .i64 (N : Int), .slice A3 l3 c3] 27)).drew (w.heap.size + 1) 62 #[.int .i64 (N : Int), v, .int .i64 0] from T1.out)
      have a1 : i + 1 ≤ maxLen := by unfold maxLen; omega
      have a2 : (i + 1) * 32 ≤ 140737488355328 := by omega
      have x1c := Lib.hid (show ∀ u ∈ ([.int .i64 (N : Int), .slice A3 l3 c3] : List Value), u.oneCell' = true by simp [Value.oneCell'])
      have hne := Lib.hid (own_ne HOW.out R1.out (by decide))
      go_region_law (refine step_append_lies _ rfl (.tmp 37) (.tmp 39) 22 rfl (w.heap.size + 2) 27 i0 (.agg #[.int .i64 0, .slice none 0 0]) 2 32 Tryd.underlying22 ki kz0 kz1 kz2 rfl (by decide) v i (rowCells rs) ?_ XO.out ⟨w3.heap.size, 0, none⟩ 1 1 [.int .i64 (N : Int), .slice A3 l3 c3] ?_ rfl XN.out x1c.out (by omega) a1 a2 XL.out _ rfl ?_; simp [Act.eval, Act.put]; simp [Act.eval, Act.put]; intro g cap w4 hown hgrow _ _; have V1 := Lib.hid (XT.out.grown hgrow hne.out); have HO2 := Lib.hid hown; have HG := Lib.hid hgrow; clear hown hgrow; obtain ⟨v0, v1, v2, vf0, vf1, vf2⟩ := V1.out.three)
      all_goals
        have W0 := Lib.hid (Box.grown (show Box (w3.alloc (.cells #[.int .i64 (N : Int), .slice A3 l3 c3] 27)).drew w.heap.size 24 #[.int .i64 (N : Int), .slice (some ⟨b, off, none⟩) L.length c] from R0.out.alloc (.cells #[.int .i64 (N : Int), .slice A3 l3 c3] 27)) HG.out (own_ne HOW.out R0.out (by decide)))
        have WB := Lib.hid (Below.grown ((HB.out.alloc HB.out.size (.cells #[.int .i64 (N : Int), .slice A3 l3 c3] 27)).drew) HG.out (Nat.le_of_succ_le (Nat.le_of_succ_le XL.out)) (fun k hk => by have := (XO.out.lt k hk).1; omega))
        have WR := Lib.hid (fun j (hj : j < i) => And.intro (HRS.out j hj).1 (OwnW.grown (((HRS.out j hj).2.alloc (.cells #[.int .i64 (N : Int), .slice A3 l3 c3] 27)).drew) XO.out (by decide) HG.out))
        have WW := Lib.hid (OwnW.grown ((OW.out.alloc (.cells #[.int .i64 (N : Int), .slice A3 l3 c3] 27)).drew) XO.out (by decide) HG.out)
        have WM := Lib.hid (RowsW.snoc (ms := mkM N (L.take i)) (by rw [mkM_len]; exact HTL.out) hr1 HO2.out WR.out WW.out)
        rw [← HTK.out] at WM
        clear HG XO XN XL XT T1 HOW HRS HO2 WR WW HRw R1 R0 HB
        go_wp2_with fail
        go_roundw
        case rel => exact ⟨i + 1, _, by omega, by go_num, W0.out.far (p := ⟨w.heap.size + 1, 1, none⟩) (by simp) _, V1.out.put 1 _, RowsN.far WM.out V1.out (by decide) (by decide) 1 _, WB.out.setCell (p := ⟨w.heap.size + 1, 1, none⟩) (by simp) _⟩
        case measure => simp [intOf] <;> omega
    · obtain rfl : i = L.length := by omega
      have hlt' : ¬ (L.length : Int) < (L.length : Int) := by omega
      have hrw := HRw.out
      rw [List.take_length] at hrw
      go_wp2_with fail
      go_ret
      exact ⟨v, rfl, R1.out, hrw, HB.out⟩
end
section
/- Layer 4: Echelon: what stays where, while its loop runs. -/
set_option linter.unusedVariables false
set_option linter.unusedSimpArgs false
open Go.RowKit Go.Shelf
set_option maxRecDepth 100000
/-- All blocks of cells lie as they lay. -/
def KC (W W' : World) : Prop := ∀ (k : Nat) (o : Obj), W.heap[k]? = some o → o.isCells = true → W'.heap[k]? = some o
theorem kc_grown {W W' : World} {row : Option Nat} (hg : W.grownBy W' row) (hr : ∀ r, row = some r → ∃ o : Obj, W.heap[r]? = some o ∧ o.isCells = false) : KC W W' := fun k o hk ho => by
  rw [hg.block k (Array.getElem?_eq_some_iff.1 hk).1 ?_]
  · exact hk
  · intro e
    obtain ⟨o', h1, h2⟩ := hr k e.symm
    rw [hk] at h1
    obtain rfl := Option.some.inj h1
    rw [ho] at h2; cases h2
theorem box_kc {W W' : World} {g : Nat} {t : TypeId} {cs : Array Value} (h : Box W g t cs) (k : KC W W') : Box W' g t cs := k g _ h rfl
theorem own_kc {W W' : World} {base e size n : Nat} {v : Value} {xs : List Value} (h : W.ownsRow base e size v n xs) (k : KC W W') : W'.ownsRow base e size v n xs := by
  refine ⟨h.1, ?_⟩
  rcases h.2 with h0 | ⟨g, cap, cur, rfl, h1, hh, h3⟩
  · exact .inl h0
  · exact .inr ⟨g, cap, cur, rfl, h1, k g _ hh rfl, h3⟩
theorem RowsN.kc {W W' : World} {base : Nat} {v : Value} {N : Nat} {L : List Nat} (h : RowsN W base v N L) (k : KC W W') : RowsN W' base v N L := by
  obtain ⟨rs, h1, h2, h3⟩ := h
  exact ⟨rs, h1, own_kc h2 k, fun j hj => ⟨(h3 j hj).1, own_kc (h3 j hj).2 k⟩⟩
theorem RowsN.grown {W W' : World} {base b : Nat} {v u : Value} {N n e size : Nat} {L : List Nat} {xs : List Value} (h : RowsN W base v N L) (ho : W.ownsRow b e size u n xs) (he : e ≠ 63) (he2 : e ≠ 27) (hg : W.grownBy W' u.ownBlock) : RowsN W' base v N L := by
  obtain ⟨rs, h1, h2, h3⟩ := h
  refine ⟨rs, h1, World.ownsRow.kept h2 hg ?_, fun j hj => ⟨(h3 j hj).1, (h3 j hj).2.grown ho he hg⟩⟩
  rcases h2.2 with ⟨hv, -⟩ | ⟨g, cap, cur, hv, -, hh, -⟩
  · left; rw [hv]; rfl
  · right
    rw [hv]
    exact fun e => own_ne ho (show Box W g 27 cur from hh) he2 e.symm
theorem RowsN.block {W : World} {base : Nat} {v : Value} {N : Nat} {L : List Nat} (h : RowsN W base v N L) {g : Nat} (hv : v.ownBlock = some g) : base ≤ g ∧ g < W.heap.size ∧ ∃ cur, Box W g 27 cur := by
  obtain ⟨rs, h1, h2, h3⟩ := h
  rcases h2.2 with ⟨hv', -⟩ | ⟨g', cap, cur, hv', hb, hh, -⟩
  · rw [hv'] at hv; cases hv
  · rw [hv'] at hv
    obtain rfl : g' = g := Option.some.inj hv
    exact ⟨hb, (show Box W g' 27 cur from hh).lt, cur, hh⟩
def numV (x : Nat) : Value := .int .i64 (x : Int)
/-- What stays while the loop runs: the places so far; the boxes of the matrix, the result, the work. -/
def EchR (w : World) (N : Nat) (A : Option Addr) (l c wb xb S0 : Nat) (P : List Nat) (W : World) : Prop :=
  (∃ u, Box W (xb + 1) 29 #[u] ∧ W.ownsRow S0 3 1 u P.length (P.map numV)) ∧ Box W w.heap.size 24 #[.int .i64 (N : Int), .slice A l c] ∧ Box W (w.heap.size + 1) 24 #[.int .i64 0, .slice none 0 0] ∧
    Box W xb 57 #[.pointer (some ⟨wb, 0, none⟩)] ∧ Below w.heap.size w W ∧ S0 ≤ W.heap.size
section
variable {w : World} {N : Nat} {A : Option Addr} {l c wb xb S0 : Nat} {P : List Nat} {W W' : World}
theorem EchR.below (h : EchR w N A l c wb xb S0 P W) (hb : Below W.heap.size W W') (hw : w.heap.size ≤ W.heap.size) : EchR w N A l c wb xb S0 P W' := by
  obtain ⟨⟨u, h1, h2⟩, h3, h4, h5, h6, h7⟩ := h
  exact ⟨⟨u, h1.keep hb, own_keep h2 hb⟩, h3.keep hb, h4.keep hb, h5.keep hb, h6.trans (hb.mono hw), Nat.le_trans h7 hb.size⟩
theorem EchR.kc (h : EchR w N A l c wb xb S0 P W) (hk : KC W W') (hs : W.heap.size ≤ W'.heap.size) (hb : Below w.heap.size w W') : EchR w N A l c wb xb S0 P W' := by
  obtain ⟨⟨u, h1, h2⟩, h3, h4, h5, h6, h7⟩ := h
  exact ⟨⟨u, box_kc h1 hk, own_kc h2 hk⟩, box_kc h3 hk, box_kc h4 hk, box_kc h5 hk, hb, Nat.le_trans h7 hs⟩
theorem EchR.put (h : EchR w N A l c wb xb S0 P W) (g i : Nat) (v : Value) (hg : w.heap.size + 1 < g) (hx : g < xb) (hS : xb + 1 < S0) : EchR w N A l c wb xb S0 P (W.setCell ⟨g, i, none⟩ v) := by
  obtain ⟨⟨u, h1, h2⟩, h3, h4, h5, h6, h7⟩ := h
  refine ⟨⟨u, h1.far (by show xb + 1 ≠ g; omega) _, World.ownsRow.kept h2 (gk_set W g i v) ?_⟩, h3.far (by show w.heap.size ≠ g; omega) _, h4.far (by show w.heap.size + 1 ≠ g; omega) _, h5.far (by show xb ≠ g; omega) _, h6.setCell (by show w.heap.size ≤ g; omega) _, by simpa [World.setCell] using h7⟩
  cases hu : u.ownBlock with
  | none => exact .inl rfl
  | some k =>
    right
    have := (h2.lt k hu).1
    intro e
    have := Option.some.inj e
    omega
theorem EchR.gk (h : EchR w N A l c wb xb S0 P W) (g : Nat) (hk : W.grownBy W' (some g)) (hg : w.heap.size + 1 < g) (hx : g < xb) (hS : xb + 1 < S0) : EchR w N A l c wb xb S0 P W' := by
  obtain ⟨⟨u, h1, h2⟩, h3, h4, h5, h6, h7⟩ := h
  refine ⟨⟨u, gk_box h1 hk (by omega), World.ownsRow.kept h2 hk ?_⟩, gk_box h3 hk (by omega), gk_box h4 hk (by omega), gk_box h5 hk (by omega), h6.grown hk h6.size (fun k e => by have := Option.some.inj e; omega), Nat.le_trans h7 hk.size⟩
  cases hu : u.ownBlock with
  | none => exact .inl rfl
  | some k =>
    right
    have := (h2.lt k hu).1
    intro e
    have := Option.some.inj e
    omega
end
theorem ko_below {W W' : World} (h : Below W.heap.size W W') : KeepsOthers W W' := ⟨h.size, fun k o hk _ => (h.block k (Array.getElem?_eq_some_iff.1 hk).1).trans hk⟩
theorem ko_gk {W W' : World} {g : Nat} {t : TypeId} {cs : Array Value} (hb : Box W g t cs) (h : W.grownBy W' (some g)) : KeepsOthers W W' :=
  ⟨h.size, fun k o hk ho => (h.block k (Array.getElem?_eq_some_iff.1 hk).1 (fun e => by
    obtain rfl := Option.some.inj e
    rw [show W.heap[k]? = _ from hb] at hk
    obtain rfl := Option.some.inj hk
    cases ho)).trans hk⟩
theorem ko_grown {W W' : World} {tmp : Obj} {b e size n : Nat} {u : Value} {xs : List Value} (ho : W.ownsRow b e size u n xs) (hg : (W.alloc tmp).grownBy W' u.ownBlock) : KeepsOthers W W' :=
  ⟨by have := hg.size; simp at this; omega, fun k o hk hc => by
    have hl := (Array.getElem?_eq_some_iff.1 hk).1
    rw [hg.block k (by simp; omega) ?_, Below.heap_alloc W tmp k hl]
    · exact hk
    · intro e
      rcases ho.2 with ⟨hu, -⟩ | ⟨g, cap, cur, hu, -, hh, -⟩
      · rw [hu] at e; cases e
      · rw [hu] at e
        obtain rfl : k = g := Option.some.inj e
        rw [hh] at hk
        obtain rfl := Option.some.inj hk
        cases hc⟩
/-- The state of the work. -/
structure StE where
  L : List Nat
  d : Nat
  c : Nat
  P : List Nat
def StE.next (s : StE) : StE := ⟨clearL s.L s.d s.c, s.d + 1, s.c + 1, s.P ++ [s.c]⟩
def EchI (orig : List Nat) (w : World) (N : Nat) (A : Option Addr) (l c wb xb S0 base : Nat) (v : Value) (s : StE) (W : World) : Prop :=
  Work orig s.L s.d s.c s.P ∧ Box W wb 62 #[.int .i64 (N : Int), v, .int .i64 (s.d : Int)] ∧ RowsN W base v N s.L ∧ EchR w N A l c wb xb S0 s.P W
def EchM (orig : List Nat) (w : World) (N : Nat) (A : Option Addr) (l c wb xb S0 base : Nat) (v : Value) (s : StE) (W : World) : Prop :=
  (Work orig s.L s.d s.c s.P ∧ s.d < s.L.length ∧ (s.L.getD s.d 0).testBit s.c = true ∧ s.c < N) ∧ Box W wb 62 #[.int .i64 (N : Int), v, .int .i64 ((s.d : Int) + 1)] ∧ RowsN W base v N s.L ∧ EchR w N A l c wb xb S0 s.P W
theorem echI_own {orig : List Nat} {w : World} {N : Nat} {A : Option Addr} {l c wb xb S0 base : Nat} {v : Value} {B : Nat} (hB : w.heap.size ≤ B) : OwnFrom B (EchI orig w N A l c wb xb S0 base v) := fun s W W' row hs hg hr => by
  obtain ⟨h1, h2, h3, h4⟩ := hs
  have hk := kc_grown hg (fun r e => (hr r e).2)
  have hb := h4.2.2.2.2.1
  exact ⟨h1, box_kc h2 hk, h3.kc hk, h4.kc hk hg.size (hb.grown hg hb.size (fun k e => by have := (hr k e).1; omega))⟩
theorem echM_own {orig : List Nat} {w : World} {N : Nat} {A : Option Addr} {l c wb xb S0 base : Nat} {v : Value} {B : Nat} (hB : w.heap.size ≤ B) : OwnFrom B (EchM orig w N A l c wb xb S0 base v) := fun s W W' row hs hg hr => by
  obtain ⟨h1, h2, h3, h4⟩ := hs
  have hk := kc_grown hg (fun r e => (hr r e).2)
  have hb := h4.2.2.2.2.1
  exact ⟨h1, box_kc h2 hk, h3.kc hk, h4.kc hk hg.size (hb.grown hg hb.size (fun k e => by have := (hr k e).1; omega))⟩
end
section
/- Layer 4: Echelon, Rank. -/
set_option linter.unusedVariables false
set_option linter.unusedSimpArgs false
open Go.RowKit Go.Shelf
set_option maxRecDepth 100000
attribute [local go_sem] Oper.semAt_some
theorem int_infoE : (Tryd.prog.info? 3).map (fun i => (i.zero, i.size, i.bytes)) = some (some (.int .i64 0), 1, 8) := by kernel_rfl
/-- Reduced rows, and their places, are returned. -/
def EchOut (N : Nat) (orig : List Nat) (w : World) (e : Ending) (w' : World) : Prop :=
  ∃ (M P : List Nat) (A : Option Addr) (B : Option Addr) (k : Nat), e = .returned (.tuple #[.agg #[.int .i64 (N : Int), .slice A M.length M.length], .slice B M.length k, .int .i64 0]) ∧ Rref M P ∧ SameSp orig M ∧
    MatAt w' 0 A M.length (mkM N M) ∧ Ints w' B M.length (P.map fun x : Nat => (x : Int)) ∧ M.length ≤ k ∧ Below w.heap.size w w'
/-- The same, with where its memory lies: rows behind all that was there, places in a row of ints. -/
def EchOut2 (N : Nat) (orig : List Nat) (w : World) (e : Ending) (w' : World) : Prop :=
  ∃ (M P : List Nat) (A : Option Addr) (B : Option Addr) (k : Nat), e = .returned (.tuple #[.agg #[.int .i64 (N : Int), .slice A M.length M.length], .slice B M.length k, .int .i64 0]) ∧ Rref M P ∧ SameSp orig M ∧
    MatAt w' w.heap.size A M.length (mkM N M) ∧ Ints w' B M.length (P.map fun x : Nat => (x : Int)) ∧ M.length ≤ k ∧ (∃ bs, w'.ownsRow bs 3 1 (.slice B M.length k) M.length (P.map numV)) ∧ Below w.heap.size w w'
theorem EchOut2.one {N : Nat} {orig : List Nat} {w : World} {e : Ending} {w' : World} (h : EchOut2 N orig w e w') : EchOut N orig w e w' := by
  obtain ⟨M, P, A, B, k, h0, h1, h2, h3, h4, h5, -, h7⟩ := h
  exact ⟨M, P, A, B, k, h0, h1, h2, h3.low (Nat.zero_le _), h4, h5, h7⟩
theorem results_cell2 {P : Program} {fn : Func} {tmps : Array Value} {W : World} {p q r : Tmp} {T : TypeId} {g : Nat} {cs : Array Value} {d : TypeDesc} {v u : Value} (hr : fn.results = #[.cell p T, .tmp q, .tmp r])
    (hp : tmps.getD p undef = .pointer (some ⟨g, 0, none⟩)) (hq : tmps.getD q undef = v) (hq2 : tmps.getD r undef = u) (hbox : Box W g T cs) (hu : P.underlying T = some d)
    (hk : (match d with | .struct _ | .array _ _ => true | _ => false) = true) (hi : (P.info? T).map (·.size) = some cs.size) :
    (results fn tmps).run P W = .ok (.tuple #[.agg cs, v, u]) W := by
  subst hq hq2
  have hp' : tmps[p]?.getD undef = .pointer (some ⟨g, 0, none⟩) := by simpa using hp
  simp [results, hr, hp', asAddr, run_loadVar_row W g T T cs (0, 0) d hbox hu hk hi]
theorem mkM_lt (N : Nat) (L : List Nat) (i j : Nat) : (((mkM N L).getD i (0, [])).2).getD j 0 < 18446744073709551616 := by
  by_cases h : i < L.length
  · rw [mkM_at N L i h]; exact rowOf_lt N _ j
  · have e : (mkM N L)[i]? = none := List.getElem?_eq_none (by rw [mkM_len]; omega)
    simp [List.getD, e]
theorem num_bd {orig L P : List Nat} {d N : Nat} (h : Work orig L d N P) (hN : N ≤ 64) (j : Nat) : -9223372036854775808 ≤ (P.map fun x : Nat => (x : Int)).getD j 0 ∧ (P.map fun x : Nat => (x : Int)).getD j 0 ≤ 9223372036854775807 := by
  by_cases hj : j < P.length
  · have h1 := h.lt j (by rw [← h.dp]; exact hj)
    have e : (P.map fun x : Nat => (x : Int)).getD j 0 = (P.getD j 0 : Nat) := by simp [List.getD, hj]
    rw [e]; omega
  · have e : (P.map fun x : Nat => (x : Int))[j]? = none := List.getElem?_eq_none (by simp; omega)
    simp [List.getD, e]
theorem wk_len {orig L P : List Nat} {d c : Nat} (h : Work orig L d c P) : (L.take d).length = d := by rw [List.length_take]; have := h.dl; omega
set_option maxHeartbeats 4000000 in
theorem echelon_in (N : Nat) (hN : N ≤ 64) (L : List Nat) (hL : ∀ r ∈ L, r < 2 ^ N) (hlen : L.length ≤ 64) (A : Option Addr) (c lo : Nat) (w : World) (hm : MatAt w lo A L.length (mkM N L)) (hr : rightM N (mkM N L) = true) :
    CallsIn Fence.wide 5 Tryd.prog 7 #[.agg #[.int .i64 (N : Int), .slice A L.length c]] w (EchOut2 N L w) := by
  obtain ⟨i0, hi, hz0, hz1, hz2⟩ := info_parts int_infoE
  have b0 : Below w.heap.size w (w.alloc (.cells #[.int .i64 (N : Int), .slice A L.length c] 24)) := (Below.refl _ _).alloc (Nat.le_refl _) _
  have b1 : Below w.heap.size w ((w.alloc (.cells #[.int .i64 (N : Int), .slice A L.length c] 24)).alloc (.cells #[.int .i64 0, .slice none 0 0] 24)) := b0.alloc (by simp) _
  have Q0 := Lib.hid ((Box.new w 24 #[.int .i64 (N : Int), .slice A L.length c]).alloc (.cells #[.int .i64 0, .slice none 0 0] 24))
  have q1 := Box.new (w.alloc (.cells #[.int .i64 (N : Int), .slice A L.length c] 24)) 24 #[.int .i64 0, .slice none 0 0]
  simp only [World.size_alloc] at q1
  have Q1 := Lib.hid q1
  have HB := Lib.hid b1
  have HM := Lib.hid (hm.below b1)
  have HR := Lib.hid (mright_any (N : Int) A L.length c lo (mkM N L) _ HM.out (by unfold maxLen; omega))
  rw [hr] at HR
  clear q1 b0 b1 hm hr
  refine callsIn_of_wp_marks Tryd.func7 rfl trivial ?_ rfl
  simp only [Tryd.ntmps7, List.size_toArray, List.length_cons, List.length_nil, Nat.reduceAdd, Nat.reduceSub, Array.replicate_succ, Array.replicate_zero, List.push_toArray, List.append_toArray, List.nil_append, List.cons_append]
  gi_wp2
  refine ⟨trivial, (callsIn_wide.2 HR.out).mono ?_⟩
  rintro e x1 ⟨rfl, hb⟩
  have Q0 := Lib.hid (Q0.out.keep hb)
  have Q1 := Lib.hid (Q1.out.keep hb)
  have HB := Lib.hid (chain HB.out hb)
  have HM := Lib.hid (HM.out.below hb)
  clear hb HR
  obtain ⟨r0, r1, -, -⟩ := Q0.out.two
  have hld := run_loadVar_row (P := Tryd.prog) x1 w.heap.size 24 24 #[.int .i64 (N : Int), .slice A L.length c] (0, 0) _ Q0.out Tryd.underlying24 rfl (by kernel_rfl)
  gi_wp2
  refine ⟨trivial, (callsIn_wide.2 (workOn_any N hN L hL hlen A c lo _ HM.out)).mono ?_⟩
  rintro e x2 ⟨v, rfl, hwb, hrw, hb⟩
  have hal1 : Below x2.heap.size x2 (x2.alloc (.cells #[.pointer (some ⟨x1.heap.size + 1, 0, none⟩)] 57)) := (Below.refl _ _).alloc (Nat.le_refl _) _
  have hal2 : Below x2.heap.size x2 ((x2.alloc (.cells #[.pointer (some ⟨x1.heap.size + 1, 0, none⟩)] 57)).alloc (.cells #[.slice none 0 0] 29)) := hal1.alloc (by simp) _
  have q5 := (Box.new x2 57 #[.pointer (some ⟨x1.heap.size + 1, 0, none⟩)]).alloc (.cells #[.slice none 0 0] 29)
  have q6 := Box.new (x2.alloc (.cells #[.pointer (some ⟨x1.heap.size + 1, 0, none⟩)] 57)) 29 #[.slice none 0 0]
  simp only [World.size_alloc] at q6
  have s1 : w.heap.size + 1 < x1.heap.size := Q1.out.lt
  have s2 : x1.heap.size + 1 < x2.heap.size := hwb.lt
  have hblk := Lib.hid (fun g (hg : v.ownBlock = some g) => And.intro (hrw.block hg).1 (hrw.block hg).2.1)
  have QW := Lib.hid (hwb.keep hal2)
  have QR := Lib.hid (hrw.below hal2)
  have Q0 := Lib.hid ((Q0.out.keep hb).keep hal2)
  have Q1 := Lib.hid ((Q1.out.keep hb).keep hal2)
  have Q5 := Lib.hid q5
  have Q6 := Lib.hid q6
  have HB := Lib.hid (chain (chain HB.out hb) hal2)
  clear hb hal1 hal2 q5 q6 hwb hrw r0 r1 hld
  gi_wp2
  generalize hw3 : (x2.alloc (.cells #[.pointer (some ⟨x1.heap.size + 1, 0, none⟩)] 57)).alloc (.cells #[.slice none 0 0] 29) = w3 at *
  have s3 : w3.heap.size = x2.heap.size + 2 := by rw [← hw3]; simp
  have HS3 := Lib.hid s3
  clear hw3 s3
  refine range_state rfl (by omega) (gf := 24) (la := #[.pointer (some ⟨x1.heap.size + 1, 0, none⟩)]) (lb := #[]) rfl trivial (enters_of Tryd.func24 (by kernel_rfl) rfl)
    (encs := fun s : StE => #[.int .i64 (s.c : Int)]) StE.next (fun s => s.c = N) (fun _ => rfl) ⟨L, 0, 0, []⟩ (EchI L w N A L.length c (x1.heap.size + 1) x2.heap.size w3.heap.size (x1.heap.size + 2) v) (EchM L w N A L.length c (x1.heap.size + 1) x2.heap.size w3.heap.size (x1.heap.size + 2) v)
    (echI_own HB.out.size) (echM_own HB.out.size) ?seq ?start ?a1 ?assign ?body ?done
  case seq =>
    intro l T hT hY s W1 hI hTW he
    subst he
    obtain ⟨-, h2, h3, h4⟩ := hI
    have h3s := HS3.out
    have key := columns_in 4 (by omega) l N hN L hL hlen (x1.heap.size + 2) (x1.heap.size + 1) v (by omega) (fun P W => EchR w N A L.length c (x1.heap.size + 1) x2.heap.size w3.heap.size P W ∧ T W)
      (fun P W W' h hb => ⟨h.1.below hb h.1.2.2.2.2.1.size, hT W W' h.2 (ko_below hb)⟩)
      (fun P W g i u h hg => ⟨h.1.put g i u (by rcases hg with rfl | hg; omega; have := hblk.out g hg; omega) (by rcases hg with rfl | hg; omega; have := hblk.out g hg; omega) (by omega), hT _ _ h.2 (KeepsOthers.setCell _ _ _)⟩)
      (fun L' d c' P W hw hd hb hc hbox hrows h => by
        obtain ⟨fn, tmps, assign, body, hy, hR⟩ := hY ⟨L', d, c', P⟩ W ⟨⟨hw, hd, hb, hc⟩, hbox, hrows, h.1⟩ h.2
        exact ⟨fn, tmps, assign, body, hy, hR.mono fun e W' h => ⟨h.1, by have := h.2.1.2.1; simpa [StE.next] using this, h.2.1.2.2.1, h.2.1.2.2.2, h.2.2⟩⟩)
      W1 (by simpa using h2) h3 ⟨h4, hTW⟩
    refine key.mono fun e W' h => ?_
    obtain ⟨hv, L', d, P, k1, k2, k3, k4, k5⟩ := h
    exact ⟨hv, ⟨L', d, N, P⟩, rfl, ⟨k1, k2, k3, k4⟩, k5⟩
  case start =>
    exact ⟨work_start L, by simpa using QW.out, QR.out, ⟨_, Q6.out, World.ownsRow_nil _ _ _ _⟩, Q0.out, Q1.out, Q5.out, HB.out, Nat.le_refl _⟩
  case assign =>
    intro l s W K hK
    gi_wp2
    exact hK
  case body =>
    intro l s W hM
    obtain ⟨⟨hw, hd, hbit, hcN⟩, hbx, hrow, ⟨u, hu, hown⟩, m0, m1, m5, hb, hsz⟩ := hM
    have h3s := HS3.out
    have HBX := Lib.hid hbx
    have HRW := Lib.hid hrow
    have HU := Lib.hid hu
    have HO := Lib.hid hown
    have M0 := Lib.hid m0
    have M1 := Lib.hid m1
    have M5 := Lib.hid m5
    have HBw := Lib.hid hb
    have HWk := Lib.hid hw
    have HBit := Lib.hid hbit
    have hPl : s.P.length ≤ 64 := by rw [hw.dp]; have := hw.dl; have := hw.size; omega
    have cu := hu.cell 0
    have c5 := m5.cell 0
    simp only [List.getElem?_toArray, List.getElem?_cons_zero] at cu c5
    have XO := Lib.hid (hown.alloc (.cells #[.int .i64 (s.c : Int)] 3))
    have XN := Lib.hid (cell_one_new W (.int .i64 (s.c : Int)) 3)
    have XL := Lib.hid (show w3.heap.size ≤ (W.alloc (.cells #[.int .i64 (s.c : Int)] 3)).heap.size by simp; omega)
    have a1 : s.P.length + 1 ≤ maxLen := by unfold maxLen; omega
    have a2 : (s.P.length + 1) * 8 ≤ 140737488355328 := by omega
    clear hbx hrow hu hown m0 m1 m5 hb hw hbit h3s
    gi_wp2_with (gi_at_builtin; refine wpListIn_append_own _ rfl _ _ 29 rfl w3.heap.size 3 i0 (.int .i64 0) 1 8 Tryd.underlying29 hi hz0 hz1 hz2 rfl (by decide) _ _ _ rfl XO.out ⟨W.heap.size, 0, none⟩ 1 1 [.int .i64 (s.c : Int)] rfl rfl (cell_one_new _ _ _) (by simp [Value.oneCell']) a1 a2 XL.out ?_; intro v' w5 hown' hgrow _; obtain ⟨g', cap', rfl⟩ := ownsRow_succ hown'; have HO5 := Lib.hid hown'; have HG5 := Lib.hid hgrow; have BU := Lib.hid ((HU.out.alloc (.cells #[.int .i64 (s.c : Int)] 3)).grown hgrow (own_ne HO.out HU.out (by decide))); have B5 := Lib.hid ((M5.out.alloc (.cells #[.int .i64 (s.c : Int)] 3)).grown hgrow (own_ne HO.out M5.out (by decide))); clear hown' hgrow; have cu5 := BU.out.cell 0; have cf5 := BU.out.free 0; have c55 := B5.out.cell 0; simp only [List.getElem?_toArray, List.getElem?_cons_zero] at cu5 c55)
    obtain ⟨g, cap, hv, hgb, hgl, hcap, hcm⟩ := HRW.out.form (by omega)
    subst hv
    have hko := Lib.hid (ko_grown HO.out HG5.out)
    have h3s := HS3.out
    have hgx := hblk.out g rfl
    have C0 := Lib.hid ((M0.out.alloc (.cells #[.int .i64 (s.c : Int)] 3)).grown HG5.out (own_ne HO.out M0.out (by decide)))
    have C1 := Lib.hid ((M1.out.alloc (.cells #[.int .i64 (s.c : Int)] 3)).grown HG5.out (own_ne HO.out M1.out (by decide)))
    have CX := Lib.hid ((HBX.out.alloc (.cells #[.int .i64 (s.c : Int)] 3)).grown HG5.out (own_ne HO.out HBX.out (by decide)))
    have CR := Lib.hid ((HRW.out.below ((Below.refl _ _).alloc (Nat.le_refl _) (.cells #[.int .i64 (s.c : Int)] 3))).grown (HO.out.alloc (.cells #[.int .i64 (s.c : Int)] 3)) (by decide) (by decide) HG5.out)
    have CB := Lib.hid (Below.grown (HBw.out.alloc HBw.out.size (.cells #[.int .i64 (s.c : Int)] 3)) HG5.out (HBw.out.alloc HBw.out.size (.cells #[.int .i64 (s.c : Int)] 3)).size (fun k hk => by have := (HO.out.lt k hk).1; have := HB.out.size; omega))
    have hsz5 : w3.heap.size ≤ w5.heap.size := by have := HG5.out.size; simp at this; omega
    have np : ∀ k : Nat, k < x2.heap.size + 1 → k ≠ x2.heap.size + 1 := fun k hk => by omega
    have D0 := Lib.hid (C0.out.far (p := ⟨x2.heap.size + 1, 0, none⟩) (np _ (by omega)) (.slice (some ⟨g', 0, none⟩) (s.P.length + 1) cap'))
    have D1 := Lib.hid (C1.out.far (p := ⟨x2.heap.size + 1, 0, none⟩) (np _ (by omega)) (.slice (some ⟨g', 0, none⟩) (s.P.length + 1) cap'))
    have D5 := Lib.hid (B5.out.far (p := ⟨x2.heap.size + 1, 0, none⟩) (np _ (by omega)) (.slice (some ⟨g', 0, none⟩) (s.P.length + 1) cap'))
    have DX := Lib.hid (CX.out.far (p := ⟨x2.heap.size + 1, 0, none⟩) (np _ (by omega)) (.slice (some ⟨g', 0, none⟩) (s.P.length + 1) cap'))
    have DU := Lib.hid (BU.out.put 0 (.slice (some ⟨g', 0, none⟩) (s.P.length + 1) cap'))
    have DR := Lib.hid (CR.out.far BU.out (by decide) (by decide) 0 (.slice (some ⟨g', 0, none⟩) (s.P.length + 1) cap'))
    have DB := Lib.hid (CB.out.setCell (p := ⟨x2.heap.size + 1, 0, none⟩) (by show w.heap.size ≤ x2.heap.size + 1; omega) (.slice (some ⟨g', 0, none⟩) (s.P.length + 1) cap'))
    have hne' := Lib.hid (own_ne HO5.out BU.out (by decide))
    have DO := Lib.hid (World.ownsRow.kept HO5.out (gk_set w5 (x2.heap.size + 1) 0 (.slice (some ⟨g', 0, none⟩) (s.P.length + 1) cap')) (.inr hne'.out))
    have hko2 := Lib.hid (hko.out.trans (KeepsOthers.setCell w5 ⟨x2.heap.size + 1, 0, none⟩ (.slice (some ⟨g', 0, none⟩) (s.P.length + 1) cap')))
    have hsz6 : w3.heap.size ≤ (w5.setCell ⟨x2.heap.size + 1, 0, none⟩ (.slice (some ⟨g', 0, none⟩) (s.P.length + 1) cap')).heap.size := by simpa [World.setCell] using hsz5
    clear HO5 HG5 BU B5 C0 C1 CX CR CB hko hne' np cu c5 cu5 cf5 c55 XO XN XL
    generalize w5.setCell ⟨x2.heap.size + 1, 0, none⟩ (.slice (some ⟨g', 0, none⟩) (s.P.length + 1) cap') = w6 at *
    have c6 := D5.out.cell 0
    simp only [List.getElem?_toArray, List.getElem?_cons_zero] at c6
    have hL6 : s.L.length ≤ 64 := by have := HWk.out.size; omega
    gi_wp2_with fail
    refine ⟨trivial, (CallsIn.inRound l (callsIn_wide.2 (clear_any N (by omega) s.L (work_lt HWk.out hL) hL6 (x1.heap.size + 2) (x1.heap.size + 1) g cap s.d s.c hd hcN (by omega) _ DX.out DR.out (by omega)))).mono ?_⟩
    rintro e w7 ⟨⟨v7, rfl⟩, k1, k2, k3⟩
    have K1 := Lib.hid k1
    have K2 := Lib.hid k2
    have K3 := Lib.hid k3
    clear k1 k2 k3 c6
    gi_wp2_with fail
    obtain ⟨cur, hcur⟩ := (DR.out.block rfl).2.2
    have hER : EchR w N A L.length c (x1.heap.size + 1) x2.heap.size w3.heap.size (s.P ++ [s.c]) w6 := ⟨⟨_, DU.out, by rw [List.length_append, List.map_append]; exact DO.out⟩, D0.out, D1.out, D5.out, DB.out, hsz6⟩
    exact ⟨hko2.out.trans (ko_gk hcur K3.out), work_clear HWk.out hd HBit.out, K1.out, K2.out, hER.gk g K3.out (by omega) (by omega) (by omega)⟩
  case done =>
    intro D s W hD hf hI hK
    obtain ⟨hw, hbx, hrow, ⟨u, hu, hown⟩, m0, m1, m5, hb, hsz⟩ := hI
    have HWk := Lib.hid hw
    have HBX := Lib.hid hbx
    have HRW := Lib.hid hrow
    have HU := Lib.hid hu
    have HO := Lib.hid hown
    have M0 := Lib.hid m0
    have M1 := Lib.hid m1
    have M5 := Lib.hid m5
    have HBw := Lib.hid hb
    have HF := Lib.hid hf
    have hdl := hw.dl
    have hls := hw.size
    obtain ⟨B, kc, hub, hkcap⟩ : ∃ B kc, u = .slice B s.P.length kc ∧ s.P.length ≤ kc := by
      rcases hown.2 with ⟨hv', hz⟩ | ⟨g, cap, cur, hv', -, -, hc1, -⟩
      · exact ⟨none, 0, by rw [hv', hz], by omega⟩
      · exact ⟨_, cap, hv', hc1⟩
    rw [hw.dp] at hkcap
    obtain ⟨A0, c0, hvv, hcc, hcm⟩ : ∃ A0 c0, v = .slice A0 s.L.length c0 ∧ s.L.length ≤ c0 ∧ c0 ≤ maxLen := by
      obtain ⟨rs, h1, h2, -⟩ := hrow
      rw [mkM_len] at h2
      rcases h2.2 with ⟨hv', hz⟩ | ⟨g, cap, cur, hv', -, -, hc1, hc2, -⟩
      · exact ⟨none, 0, by rw [hv', hz], by omega, Nat.zero_le _⟩
      · exact ⟨_, cap, hv', hc1, hc2⟩
    have HVV := Lib.hid hvv
    subst hvv hub
    unfold maxLen at hcm
    obtain ⟨p0, p1, -, -⟩ := m0.two
    obtain ⟨q0, q1, qf0, qf1⟩ := m1.two
    obtain ⟨b0, b1, b2, -, -, -⟩ := hbx.three
    have c5 := m5.cell 0
    have cu := hu.cell 0
    simp only [List.getElem?_toArray, List.getElem?_cons_zero] at c5 cu
    have g1 : (s.d : Int) ≤ c0 := by omega
    have g2 : s.d ≤ c0 := by omega
    have hWs : x2.heap.size + 1 < W.heap.size := hu.lt
    clear hw hbx hrow hu hown m0 m1 m5 hb hf
    gi_wp2
    have hDb : w.heap.size + 1 < D := by have := HS3.out; omega
    have hw39 : w.heap.size ≤ w3.heap.size := HB.out.size
    clear HS3 hblk QW QR Q0 Q1 Q5 Q6 HB HM hlen hsz hD
    have n1 : ¬ x2.heap.size = w.heap.size + 1 := by omega
    have n2 : ¬ x1.heap.size = w.heap.size := by omega
    have n3 : ¬ x2.heap.size = w.heap.size := by omega
    have n4 : ¬ w.heap.size + 1 = x2.heap.size := by omega
    have n5 : ¬ w.heap.size = x1.heap.size := by omega
    have n6 : ¬ w.heap.size = x2.heap.size := by omega
    refine wpIn_wide.2 ?_
    go_region_held3 (fun w' => w'.cell? ⟨w.heap.size, 0, none⟩ = some (.int .i64 (N : Int)) ∧ w'.cell? ⟨x2.heap.size, 0, none⟩ = some (.pointer (some ⟨x1.heap.size + 1, 0, none⟩)) ∧ w'.cell? ⟨x1.heap.size + 1, 1, none⟩ = some (.slice A0 s.L.length c0) ∧ w'.cell? ⟨x1.heap.size + 1, 2, none⟩ = some (.int .i64 (s.d : Int)) ∧ w'.cell? ⟨x2.heap.size + 1, 0, none⟩ = some (.slice B s.P.length kc)) (go_keep) (fail)
    have HR1 := Lib.hid ((HRW.out.far M1.out (by decide) (by decide) 0 (.int .i64 (N : Int))).far (M1.out.put 0 (.int .i64 (N : Int))) (by decide) (by decide) 1 (.slice A0 s.d s.d)).drew
    have HP1 := Lib.hid (World.ownsRow.drew (own_far (own_far HO.out M1.out (by decide) 0 (.int .i64 (N : Int))) (M1.out.put 0 (.int .i64 (N : Int))) (by decide) 1 (.slice A0 s.d s.d)))
    have HX1 := Lib.hid (Box.drew (M1.out.put2 (u := .int .i64 (N : Int)) (v := .slice A0 s.d s.d)))
    have HB1 := Lib.hid (((HBw.out.setCell (p := ⟨w.heap.size + 1, 0, none⟩) (by simp) (.int .i64 (N : Int))).setCell (p := ⟨w.heap.size + 1, 1, none⟩) (by simp) (.slice A0 s.d s.d)).drew)
    have hDn : D ≠ w.heap.size + 1 := by omega
    have hDw : w.heap.size ≤ D := by omega
    have HK1 : ((W.setCell ⟨w.heap.size + 1, 0, none⟩ (.int .i64 (N : Int))).setCell ⟨w.heap.size + 1, 1, none⟩ (.slice A0 s.d s.d)).drew.heap[D]? = some (.deferred (some [])) := by
      show ((W.setCell ⟨w.heap.size + 1, 0, none⟩ (.int .i64 (N : Int))).setCell ⟨w.heap.size + 1, 1, none⟩ (.slice A0 s.d s.d)).heap[D]? = _
      rw [Below.heap_setCell _ _ _ _ hDn, Below.heap_setCell _ _ _ _ hDn]; exact hK
    generalize ((W.setCell ⟨w.heap.size + 1, 0, none⟩ (.int .i64 (N : Int))).setCell ⟨w.heap.size + 1, 1, none⟩ (.slice A0 s.d s.d)).drew = W7 at *
    gi_wp2
    refine ⟨by simp, .inl ⟨_, _, rfl, run_takeDeferred HK1, ?_⟩⟩
    have hgb := fun o' => grownBy_putObj' W7 D o'
    have hkc := fun o' => kc_grown (hgb o') (fun r e => by cases e; exact ⟨_, HK1, rfl⟩)
    refine ⟨_, results_cell2 Tryd.results7 rfl rfl rfl (box_kc HX1.out (hkc _)) Tryd.underlying24 rfl (by kernel_rfl), ?_⟩
    have hMl : (s.L.take s.d).length = s.d := wk_len HWk.out
    have hPd : s.P.length = s.d := HWk.out.dp
    have hwk : Work L s.L s.d N s.P := HF.out ▸ HWk.out
    obtain ⟨f1, f2⟩ := work_end hwk hL
    obtain ⟨A9, c9, e9, -, hmat⟩ := RowsW.mat (HR1.out.kc (hkc (.deferred none))) (mkM_lt N s.L)
    rw [mkM_len] at e9 hmat
    injection e9 with e91 e92 e93
    subst e91
    have hm9 := (hmat.take s.d (by have := hwk.dl; omega)).low (l2 := w.heap.size) (by omega)
    rw [show (mkM N s.L).take s.d = mkM N (s.L.take s.d) from List.map_take.symm] at hm9
    have hp9 := own_kc HP1.out (hkc (.deferred none))
    rw [hPd] at hp9
    have hlo9 : ∀ b o, B = some ⟨b, o, none⟩ → w.heap.size ≤ b := fun b o hbo => by have := (hp9.lt b (by rw [hbo]; rfl)).1; omega
    have hi9 := own_ints (zs := s.P.map fun x : Nat => (x : Int)) (by rw [List.map_map]; exact hp9) (num_bd hwk hN)
    have e1 : Value.slice B s.P.length kc = Value.slice B s.d kc := by rw [hPd]
    refine ⟨s.L.take s.d, s.P, A0, B, kc, ?_, f1, f2, by rw [hMl]; exact hm9, by rw [hMl]; exact hi9, by rw [hMl]; exact hkcap, ⟨_, by rw [hMl]; exact hp9⟩, HB1.out.grown (hgb _) HB1.out.size (fun k e => by cases e; exact hDw)⟩
    rw [hMl, ← e1]
    rfl
end
section
/- Layer 4: Echelon, Rank, whole. -/
set_option linter.unusedVariables false
set_option linter.unusedSimpArgs false
open Go.RowKit
set_option maxRecDepth 100000
theorem ech_yes (N : Nat) (hN : N ≤ 64) (L : List Nat) (hL : ∀ r ∈ L, r < 2 ^ N) (hlen : L.length ≤ 64) (A : Option Addr) (c lo : Nat) (w : World) (hm : MatAt w lo A L.length (mkM N L)) (hr : rightM N (mkM N L) = true) :
    Calls Tryd.prog 7 #[.agg #[.int .i64 (N : Int), .slice A L.length c]] w (EchOut N L w) := (callsIn_wide.1 (echelon_in N hN L hL hlen A c lo w hm hr)).mono fun _ _ h => h.one
theorem ech_two (N : Nat) (hN : N ≤ 64) (L : List Nat) (hL : ∀ r ∈ L, r < 2 ^ N) (hlen : L.length ≤ 64) (A : Option Addr) (c lo : Nat) (w : World) (hm : MatAt w lo A L.length (mkM N L)) (hr : rightM N (mkM N L) = true) :
    Calls Tryd.prog 7 #[.agg #[.int .i64 (N : Int), .slice A L.length c]] w (EchOut2 N L w) := callsIn_wide.1 (echelon_in N hN L hL hlen A c lo w hm hr)
theorem close_cell2 {P : Program} {fn : Func} {R : Ending → World → Prop} {a : Act} {W : World} {p q r : Tmp} {T : TypeId} {g : Nat} {cs : Array Value} {d : TypeDesc} {v u : Value} (hr : fn.results = #[.cell p T, .tmp q, .tmp r])
    (hp : a.tmps.getD p undef = .pointer (some ⟨g, 0, none⟩)) (hq : a.tmps.getD q undef = v) (hq2 : a.tmps.getD r undef = u) (hd : a.defers = []) (hbox : Box W g T cs) (hu : P.underlying T = some d)
    (hk : (match d with | .struct _ | .array _ _ => true | _ => false) = true) (hi : (P.info? T).map (·.size) = some cs.size)
    (hR : R (.returned (.tuple #[.agg cs, v, u])) W) : bodyPost P fn R .ret a W := bodyPost_ret (results_cell2 hr hp hq hq2 hbox hu hk hi) hd hR
/-- A refusal. -/
def EchNo (w : World) (e : Ending) (w' : World) : Prop := e = .returned (.tuple #[.agg #[.int .i64 0, .slice none 0 0], .slice none 0 0, .int .i64 1]) ∧ Below w.heap.size w w'
theorem ech_no (N : Int) (A : Option Addr) (l c lo : Nat) (ms : List (Int × List Nat)) (w : World) (hm : MatAt w lo A l ms) (hl : l ≤ maxLen) (hr : rightM N ms = false) :
    Calls Tryd.prog 7 #[.agg #[.int .i64 N, .slice A l c]] w (EchNo w) := by
  have b1 : Below w.heap.size w ((w.alloc (.cells #[.int .i64 N, .slice A l c] 24)).alloc (.cells #[.int .i64 0, .slice none 0 0] 24)) := ((Below.refl _ _).alloc (Nat.le_refl _) _).alloc (by simp) _
  have Q0 := Lib.hid ((Box.new w 24 #[.int .i64 N, .slice A l c]).alloc (.cells #[.int .i64 0, .slice none 0 0] 24))
  have q1 := Box.new (w.alloc (.cells #[.int .i64 N, .slice A l c] 24)) 24 #[.int .i64 0, .slice none 0 0]
  simp only [World.size_alloc] at q1
  have Q1 := Lib.hid q1
  have HB := Lib.hid b1
  have HR := Lib.hid (mright_any N A l c lo ms _ (hm.below b1) hl)
  rw [hr] at HR
  clear q1 b1 hm hr
  go_enter Tryd.func7, Tryd.ntmps7
  go_wp2_with fail
  refine HR.out.mono ?_
  rintro e x1 ⟨rfl, hb⟩
  have Q1 := Lib.hid (Q1.out.keep hb)
  have HB := Lib.hid (chain HB.out hb)
  clear hb HR Q0
  obtain ⟨r0, r1, f0, f1⟩ := Q1.out.two
  go_wp2_with fail
  refine close_cell2 Tryd.results7 rfl rfl rfl rfl Q1.out.put2 Tryd.underlying24 rfl (by kernel_rfl) ⟨rfl, ?_⟩
  exact (HB.out.setCell (p := ⟨w.heap.size + 1, 0, none⟩) (by simp) _).setCell (p := ⟨w.heap.size + 1, 1, none⟩) (by simp) _
/-- How many rows a matrix reduced has. -/
def RankOut (L : List Nat) (w : World) (e : Ending) (w' : World) : Prop := ∃ M P, Rref M P ∧ SameSp L M ∧ e = .returned (.tuple #[.int .i64 (M.length : Nat), .int .i64 0]) ∧ Below w.heap.size w w'
theorem rank_yes (N : Nat) (hN : N ≤ 64) (L : List Nat) (hL : ∀ r ∈ L, r < 2 ^ N) (hlen : L.length ≤ 64) (A : Option Addr) (c lo : Nat) (w : World) (hm : MatAt w lo A L.length (mkM N L)) (hr : rightM N (mkM N L) = true) :
    Calls Tryd.prog 10 #[.agg #[.int .i64 (N : Int), .slice A L.length c]] w (RankOut L w) := by
  have b1 : Below w.heap.size w (w.alloc (.cells #[.int .i64 (N : Int), .slice A L.length c] 24)) := (Below.refl _ _).alloc (Nat.le_refl _) _
  have Q0 := Lib.hid (Box.new w 24 #[.int .i64 (N : Int), .slice A L.length c])
  have HB := Lib.hid b1
  have HE := Lib.hid (ech_yes N hN L hL hlen A c lo _ (hm.below b1) hr)
  clear b1 hm hr
  obtain ⟨r0, r1, -, -⟩ := Q0.out.two
  go_enter Tryd.func10, Tryd.ntmps10
  go_wp2_with fail
  refine HE.out.mono ?_
  rintro e x1 ⟨M, P, A1, B1, k, rfl, h1, h2, h3, h4, h5, hb⟩
  have H1 := Lib.hid h1
  have H2 := Lib.hid h2
  have HB := Lib.hid (chain HB.out hb)
  clear h1 h2 h3 h4 h5 hb r0 r1
  go_wp2_with fail
  go_ret2
  exact ⟨M, P, H1.out, H2.out, rfl, HB.out.alloc HB.out.size _⟩
theorem rank_no (N : Int) (A : Option Addr) (l c lo : Nat) (ms : List (Int × List Nat)) (w : World) (hm : MatAt w lo A l ms) (hl : l ≤ maxLen) (hr : rightM N ms = false) :
    Calls Tryd.prog 10 #[.agg #[.int .i64 N, .slice A l c]] w fun e w' => e = .returned (.tuple #[.int .i64 0, .int .i64 1]) ∧ Below w.heap.size w w' := by
  have b1 : Below w.heap.size w (w.alloc (.cells #[.int .i64 N, .slice A l c] 24)) := (Below.refl _ _).alloc (Nat.le_refl _) _
  have Q0 := Lib.hid (Box.new w 24 #[.int .i64 N, .slice A l c])
  have HB := Lib.hid b1
  have HE := Lib.hid (ech_no N A l c lo ms _ (hm.below b1) hl hr)
  clear b1 hm hr
  obtain ⟨r0, r1, -, -⟩ := Q0.out.two
  go_enter Tryd.func10, Tryd.ntmps10
  go_wp2_with fail
  refine HE.out.mono ?_
  rintro e x1 ⟨rfl, hb⟩
  have HB := Lib.hid (chain HB.out hb)
  clear hb r0 r1
  go_wp2_with fail
  go_ret2
  exact ⟨rfl, HB.out.alloc HB.out.size _⟩
end
section
/- Law 04's alive. -/
set_option linter.unusedVariables false
set_option linter.unusedSimpArgs false
open Go.RowKit
set_option maxRecDepth 100000
theorem rref_three : Rref [3] [0] := by
  refine ⟨rfl, fun i hi => ?_, fun i j hi hj => ?_, fun i j hij hj => ?_⟩
  · obtain rfl : i = 0 := by simp at hi; omega
    exact ⟨by decide, fun q hq => absurd hq (Nat.not_lt_zero _)⟩
  · obtain rfl : i = 0 := by simp at hi; omega
    obtain rfl : j = 0 := by simp at hj; omega
    decide
  · simp at hj; omega
theorem rank_three {M P : List Nat} (h : Rref M P) (hs : SameSp [3, 3] M) : M.length = 1 := by
  have h3 : SameSp [3, 3] [3] := SameSp.of (fun r hr => by simp at hr; subst hr; exact sp_mem (by simp)) (fun r hr => by simp at hr; subst hr; exact sp_mem (by simp))
  obtain ⟨e, -⟩ := rref_uniq h rref_three (hs.symm.trans h3)
  rw [e]; rfl
theorem rowOf_three : rowOf 2 3 = [3] := by decide
/-- The world of alive's matrix. -/
def alW (w : World) : World := ((w.alloc (.cells #[.int .u64 3] 63)).alloc (.cells #[.int .u64 3] 63)).alloc (.cells #[.int .i64 2, .slice (some ⟨w.heap.size, 0, none⟩) 1 1, .int .i64 2, .slice (some ⟨w.heap.size + 1, 0, none⟩) 1 1] 27)
theorem alW_below (w : World) : Below w.heap.size w (alW w) := (((Below.refl _ _).alloc (Nat.le_refl _) _).alloc (by simp) _).alloc (by simp; omega) _
theorem alive_mat (w : World) : MatAt (alW w) 0 (some ⟨w.heap.size + 1 + 1, 0, none⟩) 2 (mkM 2 [3, 3]) := by
  have q0 : Box (alW w) w.heap.size 63 (numsA [3]) := ((Box.new w 63 #[.int .u64 3]).alloc _).alloc _
  have q1 : Box (alW w) (w.heap.size + 1) 63 (numsA [3]) := by
    have := (Box.new (w.alloc (.cells #[.int .u64 3] 63)) 63 #[.int .u64 3]).alloc (.cells #[.int .i64 2, .slice (some ⟨w.heap.size, 0, none⟩) 1 1, .int .i64 2, .slice (some ⟨w.heap.size + 1, 0, none⟩) 1 1] 27)
    simp only [World.size_alloc] at this
    exact this
  have q2 : Box (alW w) (w.heap.size + 1 + 1) 27 #[.int .i64 2, .slice (some ⟨w.heap.size, 0, none⟩) 1 1, .int .i64 2, .slice (some ⟨w.heap.size + 1, 0, none⟩) 1 1] := by
    have := Box.new ((w.alloc (.cells #[.int .u64 3] 63)).alloc (.cells #[.int .u64 3] 63)) 27 #[.int .i64 2, .slice (some ⟨w.heap.size, 0, none⟩) 1 1, .int .i64 2, .slice (some ⟨w.heap.size + 1, 0, none⟩) 1 1]
    simp only [World.size_alloc] at this
    exact this
  have hz : ∀ j, ([3] : List Nat).getD j 0 < 18446744073709551616 := fun j => by match j with | 0 => decide | j + 1 => simp
  have w0 : Words (alW w) (some ⟨w.heap.size, 0, none⟩) 1 (rowOf 2 3) := by rw [rowOf_three]; exact q0.words hz
  have w1 : Words (alW w) (some ⟨w.heap.size + 1, 0, none⟩) 1 (rowOf 2 3) := by rw [rowOf_three]; exact q1.words hz
  refine ⟨rfl, fun _ => ⟨_, 0, rfl, Nat.zero_le _, q2.lt, fun j hj => ?_⟩⟩
  match j, hj with
  | 0, _ => exact ⟨_, 1, 1, q2.cell 0, q2.cell 1, ⟨Nat.le_refl _, by decide, fun h => by cases h⟩, w0⟩
  | 1, _ => exact ⟨_, 1, 1, q2.cell 2, q2.cell 3, ⟨Nat.le_refl _, by decide, fun h => by cases h⟩, w1⟩
theorem alive4_any (w : World) : Calls Tryd.prog 8 #[] w fun e w' => e = .returned (.bool true) ∧ Below w.heap.size w w' := by
  have HB := Lib.hid (alW_below w)
  have HR := Lib.hid (rank_yes 2 (by omega) [3, 3] (fun r hr => by simp at hr; subst hr; decide) (by decide) (some ⟨w.heap.size + 1 + 1, 0, none⟩) 2 0 (alW w) (alive_mat w) (by decide +kernel))
  unfold alW at HR HB
  go_enter Tryd.func8, Tryd.ntmps8
  go_wp2_with fail
  refine HR.out.mono ?_
  rintro e x1 ⟨M, P, h1, h2, rfl, hb⟩
  have hM := rank_three h1 h2
  have HB := Lib.hid (HB.out.trans (hb.mono HB.out.size))
  clear hb HR h1 h2
  rw [hM]
  clear hM
  go_wp2_with fail
  go_ret
  exact ⟨by simp, HB.out⟩
end
section
/- Contract of law 04's few: a matrix of at most 66 rows, of three words each. -/
set_option linter.unusedVariables false
set_option linter.unusedSimpArgs false
open Go.RowKit
set_option maxRecDepth 100000 in
set_option maxHeartbeats 4000000 in
theorem few4_any (N : Int) (A : Option Addr) (l c : Nat) (ms : List (Int × List Nat)) (w : World) (hs : SliceOk A l c) (hm : MatAt w 0 A l ms) :
    Calls Tryd.prog 6 #[.agg #[.int .i64 N, .slice A l c]] w (MatOne N (fewM ms) w) := by
  obtain ⟨i0, hi, hz0, hz1, hz2⟩ := info_parts row_infoM
  have HI := Lib.hid hi
  have HZ0 := Lib.hid hz0
  have HZ1 := Lib.hid hz1
  have HZ2 := Lib.hid hz2
  clear hi hz0 hz1 hz2
  have HM := Lib.hid hm
  have HL := Lib.hid hm.1
  have Q0 := Lib.hid ((Box.new w 24 #[.int .i64 N, .slice A l c]).alloc (.cells #[.int .i64 0, .slice none 0 0] 24))
  have q1 := Box.new (w.alloc (.cells #[.int .i64 N, .slice A l c] 24)) 24 #[.int .i64 0, .slice none 0 0]
  have HW := Lib.hid (show Below w.heap.size w ((w.alloc (.cells #[.int .i64 N, .slice A l c] 24)).alloc (.cells #[.int .i64 0, .slice none 0 0] 24)) from ((Below.refl _ _).alloc (Nat.le_refl _) _).alloc (by simp) _)
  simp only [World.size_alloc] at q1
  have Q1 := Lib.hid q1
  have n1 := Lib.hid (show (27 : TypeId) ≠ 24 by decide)
  clear hm q1
  obtain ⟨r0, r1, -, -⟩ := Q0.out.two
  obtain ⟨hs1, hs2, hs3⟩ := hs
  unfold maxLen at hs2
  have hfl := fewM_len ms
  rw [HL.out] at hfl
  have HFL := Lib.hid hfl
  clear hfl
  cases A with
  | none =>
    obtain ⟨rfl, rfl⟩ := hs3 rfl
    have HM0 := Lib.hid (show ms = [] from List.length_eq_zero_iff.1 HL.out)
    go_enter Tryd.func6, Tryd.ntmps6
    go_wp2_with fail
    clear r0 r1
    go_loopw [3, 14] (fun v t wr => ∃ (i : Nat) (rs : List RowV), i ≤ 0 ∧ t = .int .i64 i ∧ Hid (rs.length = i) ∧ wr.ownsRow w.heap.size 27 2 v i (rowCells rs) ∧ Hid (∀ j, j < i → (rs.getD j (0, none, 0, 0)).1 = (ms.getD j (0, [])).1 ∧ SliceOk (rs.getD j (0, none, 0, 0)).2.1 (rs.getD j (0, none, 0, 0)).2.2.1 (rs.getD j (0, none, 0, 0)).2.2.2 ∧ Words w (rs.getD j (0, none, 0, 0)).2.1 (rs.getD j (0, none, 0, 0)).2.2.1 ((ms.getD j (0, [])).2.take 3)) ∧ Box wr w.heap.size 24 #[.int .i64 N, .slice none 0 0] ∧ Box wr (w.heap.size + 1) 24 #[.int .i64 0, .slice none 0 0] ∧ Below w.heap.size w wr) (fun _ t _ => 0 - (intOf t).toNat)
    case atStart => exact ⟨0, [], by omega, rfl, Lib.hid rfl, World.ownsRow_nil _ _ _ _, Lib.hid (fun j hj => absurd hj (Nat.not_lt_zero _)), Q0.out, Q1.out, HW.out⟩
    case round =>
      obtain ⟨i, rs, hi, rfl, HRL, hown, HR, hb0, hb1, hbel⟩ := hrel
      have HO := Lib.hid hown
      have R0 := Lib.hid hb0
      have R1 := Lib.hid hb1
      have HB := Lib.hid hbel
      clear hown hb0 hb1 hbel Q0 Q1 HW
      obtain rfl : 0 = i := by omega
      have HFL2 := Lib.hid (show (fewM ms).length = 0 by rw [HFL.out]; omega)
      obtain ⟨A', c', rfl, hc', hmat⟩ := own_mat HO.out HRL.out (fewM ms) HFL2.out (fun j hj => by
        obtain ⟨a1, a2, a3⟩ := HR.out j hj
        rw [fewM_at ms j (by rw [HL.out]; omega) (by omega)]
        exact ⟨a1, a2, a3.below HB.out⟩)
      have HMat := Lib.hid hmat
      clear hmat
      obtain ⟨s0, s1, s2, s3⟩ := R0.out.two
      obtain ⟨t0, t1, t2, t3⟩ := R1.out.two
      have P0 := Lib.hid (R0.out.put 1 (.slice A' 0 c'))
      have P1 := Lib.hid (R1.out.far (p := ⟨w.heap.size, 1, none⟩) (by simp) (.slice A' 0 c'))
      have hlo : ∀ b o, A' = some ⟨b, o, none⟩ → 0 < 0 → b ≠ w.heap.size ∧ b ≠ w.heap.size + 1 := fun b o hA h0 => by
        have e1 := own_ne HO.out R0.out n1.out
        have e2 := own_ne HO.out R1.out n1.out
        subst hA
        exact ⟨fun e => e1 (by rw [e]; rfl), fun e => e2 (by rw [e]; rfl)⟩
      have HLo := Lib.hid hlo
      clear hlo
      have hx1 := HMat.out.farB (B := w.heap.size) (fun b o hA h0 => (HLo.out b o hA h0).1) R0.out 1 (.slice A' 0 c')
      have hx2 := hx1.farB (B := w.heap.size + 1) (fun b o hA h0 => (HLo.out b o hA h0).2) P1.out 0 (.int .i64 N)
      have HX3 := Lib.hid (hx2.farB (B := w.heap.size + 1) (fun b o hA h0 => (HLo.out b o hA h0).2) (P1.out.put 0 (.int .i64 N)) 1 (.slice A' 0 c'))
      clear hx1 hx2
      go_wp2_with fail
      refine close_one Tryd.results6 rfl rfl P1.out.put2 Tryd.underlying24 rfl (by kernel_rfl) ⟨A', c', by first | (rw [HFL2.out]; done) | (rw [HFL2.out]; rfl), by rw [HFL2.out]; exact HX3.out, ?_⟩
      exact ((HB.out.setCell (p := ⟨w.heap.size, 1, none⟩) (Nat.le_refl _) _).setCell (p := ⟨w.heap.size + 1, 0, none⟩) (by simp) _).setCell (p := ⟨w.heap.size + 1, 1, none⟩) (by simp) _
  | some ad =>
    obtain ⟨kk, ekk⟩ : ∃ k, k = min l 66 := ⟨_, rfl⟩
    have hkk1 : kk ≤ l := by omega
    have hkk2 : kk ≤ 66 := by omega
    have hkk3 : kk ≤ c := by omega
    have hkk4 : min l 66 = kk := ekk.symm
    have mkk : (if (66 : Int) < (l : Int) then 66 else (l : Int)) = (kk : Int) := by split <;> omega
    have HFL := Lib.hid (show (fewM ms).length = kk by rw [HFL.out, hkk4])
    clear ekk hkk4 hs3
    go_enter Tryd.func6, Tryd.ntmps6
    go_wp2_with fail
    clear r0 r1
    go_loopw [3, 14] (fun v t wr => ∃ (i : Nat) (rs : List RowV), i ≤ kk ∧ t = .int .i64 i ∧ Hid (rs.length = i) ∧ wr.ownsRow w.heap.size 27 2 v i (rowCells rs) ∧ Hid (∀ j, j < i → (rs.getD j (0, none, 0, 0)).1 = (ms.getD j (0, [])).1 ∧ SliceOk (rs.getD j (0, none, 0, 0)).2.1 (rs.getD j (0, none, 0, 0)).2.2.1 (rs.getD j (0, none, 0, 0)).2.2.2 ∧ Words w (rs.getD j (0, none, 0, 0)).2.1 (rs.getD j (0, none, 0, 0)).2.2.1 ((ms.getD j (0, [])).2.take 3)) ∧ Box wr w.heap.size 24 #[.int .i64 N, .slice (some ad) l c] ∧ Box wr (w.heap.size + 1) 24 #[.int .i64 0, .slice none 0 0] ∧ Below w.heap.size w wr) (fun _ t _ => kk - (intOf t).toNat)
    case atStart => exact ⟨0, [], by omega, rfl, Lib.hid rfl, World.ownsRow_nil _ _ _ _, Lib.hid (fun j hj => absurd hj (Nat.not_lt_zero _)), Q0.out, Q1.out, HW.out⟩
    case round =>
      obtain ⟨i, rs, hi, rfl, HRL, hown, HR, hb0, hb1, hbel⟩ := hrel
      have HO := Lib.hid hown
      have R0 := Lib.hid hb0
      have R1 := Lib.hid hb1
      have HB := Lib.hid hbel
      clear hown hb0 hb1 hbel Q0 Q1 HW
      by_cases hlt : i < kk
      · have hlt' : (i : Int) < (kk : Int) := by omega
        have h1 := (HM.out.below HB.out)
        obtain ⟨g1, o1, B1, l1, c1, hA, hg1, x1, y1, s1, u1⟩ := HM.out.at i (by omega)
        obtain rfl := Option.some.inj hA
        have x1 := (HB.out.cell (p := ⟨g1, o1 + i * 2, none⟩) hg1).trans x1
        have y1 := (HB.out.cell (p := ⟨g1, o1 + i * 2 + 1, none⟩) hg1).trans y1
        have HP := Lib.hid (show ms.getD i (0, []) = ((ms.getD i (0, [])).1, (ms.getD i (0, [])).2) from rfl)
        generalize (ms.getD i (0, [])).1 = n at *
        generalize (ms.getD i (0, [])).2 = us at *
        have HU := Lib.hid u1
        clear h1 u1
        have hi' := HI.out
        have hz0' := HZ0.out
        have hz1' := HZ1.out
        have hz2' := HZ2.out
        obtain ⟨ha, hb, hc⟩ := s1
        unfold maxLen at hb
        cases B1 with
        | none =>
          obtain ⟨rfl, rfl⟩ := hc rfl
          have HUN := Lib.hid (show us = [] from List.length_eq_zero_iff.1 HU.out.1)
          have HX := Lib.hid (show Below wr.heap.size wr (wr.alloc (.cells #[.int .i64 n, .slice none 0 0] 27)) from (Below.refl _ _).alloc (Nat.le_refl _) _)
          have X0 := Lib.hid (R0.out.keep HX.out)
          have X1 := Lib.hid (R1.out.keep HX.out)
          have XO := Lib.hid (own_keep HO.out HX.out)
          have XB := Lib.hid (HB.out.trans (HX.out.mono HB.out.size))
          have HWd := Lib.hid (show (n : Int) = n ∧ SliceOk none 0 0 ∧ Words w none 0 (us.take 3) from ⟨rfl, ⟨Nat.le_refl _, Nat.zero_le _, fun _ => ⟨rfl, rfl⟩⟩, by rw [HUN.out]; exact Words.nil _ _⟩)
          have Y0 := Lib.hid (X0.out.alloc (.cells #[.int .i64 n, .slice none 0 0] 27))
          have Y1 := Lib.hid (X1.out.alloc (.cells #[.int .i64 n, .slice none 0 0] 27))
          have YO := Lib.hid (XO.out.alloc (.cells #[.int .i64 n, .slice none 0 0] 27))
          have YB := Lib.hid (XB.out.alloc XB.out.size (.cells #[.int .i64 n, .slice none 0 0] 27))
          have N0 := Lib.hid (own_ne YO.out Y0.out n1.out)
          have N1 := Lib.hid (own_ne YO.out Y1.out n1.out)
          have N2 := Lib.hid (fun k hk => (XO.out.lt k hk).1)
          have BN := Box.new (wr.alloc (.cells #[.int .i64 n, .slice none 0 0] 27)) 27 #[.int .i64 n, .slice none 0 0]
          simp only [World.size_alloc] at BN
          have HNW := Lib.hid (World.news_of_block BN)
          clear BN
          have PB := Lib.hid (Box.new wr 27 #[.int .i64 n, .slice none 0 0])
          obtain ⟨p0, p1, p2, p3⟩ := (Box.new wr 27 #[.int .i64 n, .slice none 0 0]).two
          obtain ⟨z0, z1, -, -⟩ := PB.out.two
          go_wp2_with (at_builtin; refine wpList_append_own _ rfl _ _ 22 rfl w.heap.size 27 i0 (.agg #[.int .i64 0, .slice none 0 0]) 2 32 Tryd.underlying22 hi' hz0' hz1' hz2' rfl (by decide) _ _ _ rfl YO.out ⟨wr.heap.size + 1, 0, none⟩ 1 1 [.int .i64 n, .slice none 0 0] rfl rfl HNW.out (by simp [Value.oneCell']) (by simp [maxLen]; omega) (by omega) YB.out.size ?_; intro v' w1 hown' hgrow _; have Z0 := Lib.hid (Y0.out.grown hgrow N0.out); have Z1 := Lib.hid (Y1.out.grown hgrow N1.out); have ZB := Lib.hid (YB.out.grown hgrow YB.out.size N2.out); have HO2 := Lib.hid hown'; clear hown' hgrow)
          go_roundw
          case rel =>
            refine ⟨i + 1, rs ++ [(n, none, 0, 0)], by omega, by go_num, Lib.hid (by simp [HRL.out]), by rw [rowCells_snoc]; exact HO2.out, Lib.hid (fun j hj => ?_), Z0.out, Z1.out, ZB.out⟩
            by_cases hji : j < i
            · have := HR.out j hji
              have e1 : (rs ++ [(n, none, 0, 0)]).getD j (0, none, 0, 0) = rs.getD j (0, none, 0, 0) := by simp only [List.getD]; rw [List.getElem?_append_left (by rw [HRL.out]; exact hji)]
              rw [e1]; exact this
            · obtain rfl : j = i := by omega
              have e1 : (rs ++ [(n, none, 0, 0)]).getD j (0, none, 0, 0) = (n, none, 0, 0) := by rw [← HRL.out]; simp [List.getD]
              rw [e1, HP.out]
              exact HWd.out
          case measure => simp [intOf] <;> omega
        | some a1 =>
          obtain ⟨k1, ek⟩ : ∃ k, k = min l1 3 := ⟨_, rfl⟩
          have hk1 : k1 ≤ l1 := by omega
          have hk2 : k1 ≤ 3 := by omega
          have hk3 : k1 ≤ c1 := by omega
          have mk : (if (3 : Int) < (l1 : Int) then 3 else (l1 : Int)) = (k1 : Int) := by split <;> omega
          have HK := Lib.hid (show us.take k1 = us.take 3 by
            rw [ek]
            by_cases h : l1 ≤ 3
            · rw [Nat.min_eq_left h, List.take_of_length_le (by rw [HU.out.1]; omega), List.take_of_length_le (by rw [HU.out.1]; omega)]
            · rw [Nat.min_eq_right (by omega)])
          clear ek hc
          have HX := Lib.hid (show Below wr.heap.size wr (wr.alloc (.cells #[.int .i64 n, .slice (some a1) k1 c1] 27)) from (Below.refl _ _).alloc (Nat.le_refl _) _)
          have X0 := Lib.hid (R0.out.keep HX.out)
          have X1 := Lib.hid (R1.out.keep HX.out)
          have XO := Lib.hid (own_keep HO.out HX.out)
          have XB := Lib.hid (HB.out.trans (HX.out.mono HB.out.size))
          have HWd := Lib.hid (show (n : Int) = n ∧ SliceOk (some a1) k1 c1 ∧ Words w (some a1) k1 (us.take 3) from ⟨rfl, ⟨hk3, by unfold maxLen; omega, fun h => by cases h⟩, by rw [← HK.out]; exact HU.out.take k1 hk1⟩)
          have Y0 := Lib.hid (X0.out.alloc (.cells #[.int .i64 n, .slice (some a1) k1 c1] 27))
          have Y1 := Lib.hid (X1.out.alloc (.cells #[.int .i64 n, .slice (some a1) k1 c1] 27))
          have YO := Lib.hid (XO.out.alloc (.cells #[.int .i64 n, .slice (some a1) k1 c1] 27))
          have YB := Lib.hid (XB.out.alloc XB.out.size (.cells #[.int .i64 n, .slice (some a1) k1 c1] 27))
          have N0 := Lib.hid (own_ne YO.out Y0.out n1.out)
          have N1 := Lib.hid (own_ne YO.out Y1.out n1.out)
          have N2 := Lib.hid (fun k hk => (XO.out.lt k hk).1)
          have BN := Box.new (wr.alloc (.cells #[.int .i64 n, .slice (some a1) k1 c1] 27)) 27 #[.int .i64 n, .slice (some a1) k1 c1]
          simp only [World.size_alloc] at BN
          have HNW := Lib.hid (World.news_of_block BN)
          clear BN
          have PB := Lib.hid (Box.new wr 27 #[.int .i64 n, .slice (some a1) k1 c1])
          obtain ⟨p0, p1, p2, p3⟩ := (Box.new wr 27 #[.int .i64 n, .slice (some a1) l1 c1]).two
          obtain ⟨z0, z1, -, -⟩ := PB.out.two
          go_wp2_with (at_builtin; refine wpList_append_own _ rfl _ _ 22 rfl w.heap.size 27 i0 (.agg #[.int .i64 0, .slice none 0 0]) 2 32 Tryd.underlying22 hi' hz0' hz1' hz2' rfl (by decide) _ _ _ rfl YO.out ⟨wr.heap.size + 1, 0, none⟩ 1 1 [.int .i64 n, .slice (some a1) k1 c1] rfl rfl HNW.out (by simp [Value.oneCell']) (by simp [maxLen]; omega) (by omega) YB.out.size ?_; intro v' w1 hown' hgrow _; have Z0 := Lib.hid (Y0.out.grown hgrow N0.out); have Z1 := Lib.hid (Y1.out.grown hgrow N1.out); have ZB := Lib.hid (YB.out.grown hgrow YB.out.size N2.out); have HO2 := Lib.hid hown'; clear hown' hgrow)
          go_roundw
          case rel =>
            refine ⟨i + 1, rs ++ [(n, some a1, k1, c1)], by omega, by go_num, Lib.hid (by simp [HRL.out]), by rw [rowCells_snoc]; exact HO2.out, Lib.hid (fun j hj => ?_), Z0.out, Z1.out, ZB.out⟩
            by_cases hji : j < i
            · have := HR.out j hji
              have e1 : (rs ++ [(n, some a1, k1, c1)]).getD j (0, none, 0, 0) = rs.getD j (0, none, 0, 0) := by simp only [List.getD]; rw [List.getElem?_append_left (by rw [HRL.out]; exact hji)]
              rw [e1]; exact this
            · obtain rfl : j = i := by omega
              have e1 : (rs ++ [(n, some a1, k1, c1)]).getD j (0, none, 0, 0) = (n, some a1, k1, c1) := by rw [← HRL.out]; simp [List.getD]
              rw [e1, HP.out]
              exact HWd.out
          case measure => simp [intOf] <;> omega
      · have hlt' : ¬ (i : Int) < (kk : Int) := by omega
        obtain rfl : kk = i := by omega
        have HFL2 := Lib.hid (show (fewM ms).length = kk by exact HFL.out)
        obtain ⟨A', c', rfl, hc', hmat⟩ := own_mat HO.out HRL.out (fewM ms) HFL2.out (fun j hj => by
          obtain ⟨a1, a2, a3⟩ := HR.out j hj
          rw [fewM_at ms j (by rw [HL.out]; omega) (by omega)]
          exact ⟨a1, a2, a3.below HB.out⟩)
        have HMat := Lib.hid hmat
        clear hmat
        obtain ⟨s0, s1, s2, s3⟩ := R0.out.two
        obtain ⟨t0, t1, t2, t3⟩ := R1.out.two
        have P0 := Lib.hid (R0.out.put 1 (.slice A' kk c'))
        have P1 := Lib.hid (R1.out.far (p := ⟨w.heap.size, 1, none⟩) (by simp) (.slice A' kk c'))
        have hlo : ∀ b o, A' = some ⟨b, o, none⟩ → 0 < kk → b ≠ w.heap.size ∧ b ≠ w.heap.size + 1 := fun b o hA h0 => by
          have e1 := own_ne HO.out R0.out n1.out
          have e2 := own_ne HO.out R1.out n1.out
          subst hA
          exact ⟨fun e => e1 (by rw [e]; rfl), fun e => e2 (by rw [e]; rfl)⟩
        have HLo := Lib.hid hlo
        clear hlo
        have hx1 := HMat.out.farB (B := w.heap.size) (fun b o hA h0 => (HLo.out b o hA h0).1) R0.out 1 (.slice A' kk c')
        have hx2 := hx1.farB (B := w.heap.size + 1) (fun b o hA h0 => (HLo.out b o hA h0).2) P1.out 0 (.int .i64 N)
        have HX3 := Lib.hid (hx2.farB (B := w.heap.size + 1) (fun b o hA h0 => (HLo.out b o hA h0).2) (P1.out.put 0 (.int .i64 N)) 1 (.slice A' kk c'))
        clear hx1 hx2
        go_wp2_with fail
        refine close_one Tryd.results6 rfl rfl P1.out.put2 Tryd.underlying24 rfl (by kernel_rfl) ⟨A', c', by first | (rw [HFL2.out]; done) | (rw [HFL2.out]; rfl), by rw [HFL2.out]; exact HX3.out, ?_⟩
        exact ((HB.out.setCell (p := ⟨w.heap.size, 1, none⟩) (Nat.le_refl _) _).setCell (p := ⟨w.heap.size + 1, 0, none⟩) (by simp) _).setCell (p := ⟨w.heap.size + 1, 1, none⟩) (by simp) _
end
section
/- Rows in another order, with the xor of two of them more, span the same. -/
set_option linter.unusedVariables false
set_option linter.unusedSimpArgs false
open Go.RowKit
def turnI (a k j : Nat) : Nat := if j ≤ a then a - j else a + k - j
theorem turnI_lt (a k j : Nat) (ha : a < k) (hj : j < k) : turnI a k j < k := by unfold turnI; split <;> omega
theorem turnI_mod (a k j : Nat) (ha : a < k) (hj : j < k) : ((a : Int) + (k : Int) - (j : Int)) % (k : Int) = ((turnI a k j : Nat) : Int) := by
  unfold turnI
  by_cases h : j ≤ a
  · rw [if_pos h, show (a : Int) + (k : Int) - (j : Int) = ((a - j : Nat) : Int) + (k : Int) by omega, Int.add_emod_right]
    exact Int.emod_eq_of_lt (by omega) (by omega)
  · rw [if_neg h, show (a : Int) + (k : Int) - (j : Int) = ((a + k - j : Nat) : Int) by omega]
    exact Int.emod_eq_of_lt (by omega) (by omega)
def turnK (L : List Nat) (x a i : Nat) : List Nat := x :: (List.range i).map fun j => L.getD (turnI a L.length j) 0
theorem turnK_len (L : List Nat) (x a i : Nat) : (turnK L x a i).length = i + 1 := by simp [turnK]
theorem turnK_succ (L : List Nat) (x a i : Nat) : turnK L x a (i + 1) = turnK L x a i ++ [L.getD (turnI a L.length i) 0] := by simp [turnK, List.range_succ]
theorem turn_span (L : List Nat) (a b : Nat) (ha : a < L.length) (hb : b < L.length) : SameSp L (turnK L (L.getD a 0 ^^^ L.getD b 0) a L.length) := by
  refine SameSp.of (fun r hr => ?_) (fun r hr => ?_)
  · obtain ⟨p, hp, rfl⟩ := mem_getD hr
    refine sp_mem ?_
    unfold turnK
    refine List.mem_cons_of_mem _ (List.mem_map.2 ⟨if p ≤ a then a - p else a + L.length - p, List.mem_range.2 (by split <;> omega), ?_⟩)
    congr 1
    unfold turnI
    split <;> split <;> omega
  · unfold turnK at hr
    rcases List.mem_cons.1 hr with rfl | hr
    · exact sp_xor (sp_mem (getD_mem ha)) (sp_mem (getD_mem hb))
    · obtain ⟨j, hj, rfl⟩ := List.mem_map.1 hr
      exact sp_mem (getD_mem (turnI_lt _ _ _ ha (List.mem_range.1 hj)))
theorem turn_lt {n : Nat} {L : List Nat} (h : ∀ r ∈ L, r < 2 ^ n) (a b i : Nat) : ∀ r ∈ turnK L (L.getD a 0 ^^^ L.getD b 0) a i, r < 2 ^ n := fun r hr => by
  unfold turnK at hr
  rcases List.mem_cons.1 hr with rfl | hr
  · exact Nat.xor_lt_two_pow (lt_all h a) (lt_all h b)
  · obtain ⟨j, hj, rfl⟩ := List.mem_map.1 hr
    exact lt_all h _
theorem right_mk (n : Nat) (hn : n ≤ 64) (L : List Nat) (hl : L.length ≤ 64) (h : ∀ r ∈ L, r < 2 ^ n) : rightM n (mkM n L) = true := by
  have h1 : smb (n : Int) = true := (smb_iff _).2 ⟨by omega, by omega⟩
  have h2 : rowsB (n : Int) (mkM n L) = true := List.all_eq_true.2 fun r hr => by
    obtain ⟨x, hx, rfl⟩ := List.mem_map.1 hr
    simp [mkR, rowOf_right n x (by omega) (h x hx)]
  simp [rightM, h1, h2, mkM_len, hl]
/-- Rows that may be anywhere. -/
theorem turn_same {L M P M2 P2 : List Nat} {a b : Nat} (ha : a < L.length) (hb : b < L.length) (h1 : Rref M P) (h2 : SameSp L M) (h3 : Rref M2 P2) (h4 : SameSp (turnK L (L.getD a 0 ^^^ L.getD b 0) a L.length) M2) : M2 = M :=
  (rref_uniq h3 h1 ((h4.symm.trans (turn_span L a b ha hb).symm).trans h2)).1
end
section
/- ReduceUnique: the walk. -/
set_option linter.unusedVariables false
set_option linter.unusedSimpArgs false
open Go.RowKit
theorem own_new2 (W : World) (base e : Nat) (cs : Array Value) (hb : base ≤ W.heap.size) (hn : cs.size = 2) : (W.alloc (.cells cs e)).ownsRow base e 2 (.slice (some ⟨W.heap.size, 0, none⟩) 1 1) 1 cs.toList := by
  refine ⟨by simp [hn], .inr ⟨W.heap.size, 1, cs, rfl, hb, heap_alloc_new W _, Nat.le_refl _, ?_, ?_, ?_⟩⟩
  · simp [maxLen]
  · simp [hn]
  · rw [List.take_of_length_le (by simp [hn])]
theorem rank_le {L M P : List Nat} (h1 : Rref M P) (h2 : SameSp L M) : M.length ≤ L.length := by
  obtain ⟨M', P', a, b, c⟩ := rref_exists L
  rw [(rref_uniq h1 a (h2.symm.trans b)).1]; exact c
def RowP (w : World) (n : Nat) (r : RowV) (x : Nat) : Prop := r.1 = (n : Int) ∧ SliceOk r.2.1 r.2.2.1 r.2.2.2 ∧ Words w r.2.1 r.2.2.1 (rowOf n x)
theorem rowsP_snoc {w : World} {n m : Nat} {rs : List RowV} {K : List Nat} {r : RowV} {x : Nat} (h1 : rs.length = m) (h2 : K.length = m) (h : ∀ j, j < m → RowP w n (rs.getD j (0, none, 0, 0)) (K.getD j 0)) (hr : RowP w n r x) : ∀ j, j < m + 1 → RowP w n ((rs ++ [r]).getD j (0, none, 0, 0)) ((K ++ [x]).getD j 0) := fun j hj => by
  by_cases hm : j < m
  · have e1 : (rs ++ [r]).getD j (0, none, 0, 0) = rs.getD j (0, none, 0, 0) := by simp only [List.getD]; rw [List.getElem?_append_left (by omega)]
    have e2 : (K ++ [x]).getD j 0 = K.getD j 0 := by simp only [List.getD]; rw [List.getElem?_append_left (by omega)]
    rw [e1, e2]; exact h j hm
  · obtain rfl : j = m := by omega
    have e1 : (rs ++ [r]).getD j (0, none, 0, 0) = r := by rw [← h1]; simp [List.getD]
    have e2 : (K ++ [x]).getD j 0 = x := by rw [← h2]; simp [List.getD]
    rw [e1, e2]; exact hr
theorem mk_short (n : Nat) (hn : n ≤ 64) (M : List Nat) (j : Nat) : ((mkM n M).getD j (0, [])).2.length ≤ 1000000 := by
  by_cases h : j < M.length
  · rw [mkM_at n M j h]
    simp only [mkR, rowOf_len]
    unfold nw; omega
  · have : (mkM n M)[j]? = none := List.getElem?_eq_none (by rw [mkM_len]; omega)
    simp [List.getD, this]
set_option maxRecDepth 100000
end
section
/- Contracts of layer 4's reference: First. -/
set_option linter.unusedVariables false
set_option linter.unusedSimpArgs false
open Go.RowKit
set_option maxRecDepth 100000
end
section
/- The reference's Xor: rows of the call's own. -/
set_option linter.unusedVariables false
set_option linter.unusedSimpArgs false
open Go.RowKit
set_option maxRecDepth 100000
end
section
/- The reference's Left. -/
set_option linter.unusedVariables false
set_option linter.unusedSimpArgs false
open Go.RowKit
set_option maxRecDepth 100000
theorem low_lt {N x p : Nat} (hx : x < 2 ^ N) (hp : IsLow x p) : p < N := by
  apply Classical.byContradiction
  intro h
  have := Nat.testBit_lt_two_pow (Nat.lt_of_lt_of_le hx (Nat.pow_le_pow_right (by omega) (show N ≤ p by omega)))
  rw [hp.1] at this; cases this
theorem leftN_lt {N : Nat} {L P : List Nat} (hL : ∀ i, L.getD i 0 < 2 ^ N) (x : Nat) (hx : x < 2 ^ N) : ∀ k, leftN L P x k < 2 ^ N
  | 0 => hx
  | k + 1 => by
    unfold leftN
    split
    · exact Nat.xor_lt_two_pow (leftN_lt hL x hx k) (hL k)
    · exact leftN_lt hL x hx k
/-- What Left leaves: a row, its words anywhere. -/
def LeftOut (N z : Nat) (w : World) (e : Ending) (w' : World) : Prop :=
  ∃ A l c, e = .returned (.agg #[.int .i64 (N : Int), .slice A l c]) ∧ SliceOk A l c ∧ Words w' A l (rowOf N z) ∧ Below w.heap.size w w'
end
end Go.Proofs.YtdfmogcgangdnaaDoor
