/- Parts: Rd3, Rd4, Rd5, Rd6, Rd7, Rd8, Few4, RuM, RuX, Re1, Re2, Re3, Re4, Re5, BitT, Plc, Tz, Ones, OnesP, BackM, MmM. -/
import Derived.Test.YtcikoaeiopbbbaaGreatZe
import Derived.BigQuiet
import Derived.Deep.AppendLies
import Derived.Deep.DeepCutAuto
import Derived.Deep.QuietTactic
import Derived.Deep.RegionHeld3
import Derived.Deep.RegionLaw
import Derived.Deep.RegionWith
import Derived.IntWalk
import Derived.Laws.BitsAllLaws
import Derived.LoopIn
import Derived.LoopNIn
import Derived.Maps.AppendAt
import Derived.OwnWalkIn
import Derived.RangeFuncBound
import Derived.RangeFuncBox
import Derived.RangeFuncCalls
import Derived.RangeFuncLeaves
import Derived.RangeFuncNested
import Derived.Shelf.Abstract
import Derived.Shelf.RegionOpen
import Derived.TacticsInMore
namespace Go.Proofs.YtcikoaeiopbbbaaGreat
section
/- Layer 4: the iterator columns. -/
set_option linter.unusedVariables false
set_option linter.unusedSimpArgs false
open Go.RowKit Go.Shelf
set_option maxRecDepth 100000
attribute [local go_sem] Oper.semAt_some
theorem work_lt {orig L P : List Nat} {d c N : Nat} (h : Work orig L d c P) (ho : ∀ r ∈ orig, r < 2 ^ N) (i : Nat) : L.getD i 0 < 2 ^ N :=
  lt_all (fun _ hr => sp_lt ho ((h.span _).2 (sp_mem hr))) i
/-- What a round of columns is handed back with. -/
def ColR (N base wb : Nat) (v : Value) (R : List Nat → World → Prop) (L : List Nat) (d c : Nat) (P : List Nat) (e : Ending) (W' : World) : Prop :=
  e = .returned (.bool true) ∧ Box W' wb 213 #[.int .i64 (N : Int), v, .int .i64 ((d : Int) + 1)] ∧ RowsN W' base v N (clearL L d c) ∧ R (P ++ [c]) W'
set_option maxHeartbeats 800000 in
theorem columns_in (n : Nat) (hn : 1 ≤ n) (l : Nat) (N : Nat) (hN : N ≤ 64) (orig : List Nat) (ho : ∀ r ∈ orig, r < 2 ^ N) (hlen : orig.length ≤ 64) (base wb : Nat) (v : Value) (hwb : wb < base) (R : List Nat → World → Prop)
    (hR1 : ∀ P W W', R P W → Below W.heap.size W W' → R P W') (hR2 : ∀ P W g i u, R P W → g = wb ∨ v.ownBlock = some g → R P (W.setCell ⟨g, i, none⟩ u))
    (hY : ∀ L d c P W, Work orig L d c P → d < L.length → (L.getD d 0).testBit c = true → c < N → Box W wb 213 #[.int .i64 (N : Int), v, .int .i64 ((d : Int) + 1)] → RowsN W base v N L → R P W →
      YieldAt Fence.wide (n - 1) Tryz.prog l #[.int .i64 (c : Int)] W (ColR N base wb v R L d c P))
    (W : World) (hB : Box W wb 213 #[.int .i64 (N : Int), v, .int .i64 0]) (hr : RowsN W base v N orig) (h0 : R [] W) :
    CallsIn Fence.wide n Tryz.prog 158 #[.pointer (some ⟨wb, 0, none⟩), .func (.yield l) #[] #[]] W fun e W' => (∃ v, e = .returned v) ∧
      ∃ L d P, Work orig L d N P ∧ Box W' wb 213 #[.int .i64 (N : Int), v, .int .i64 (d : Int)] ∧ RowsN W' base v N L ∧ R P W' := by
  refine callsIn_of_wp Tryz.func158 rfl trivial ?_ rfl
  simp only [Tryz.ntmps158, List.size_toArray, List.length_cons, List.length_nil, Nat.reduceAdd, Nat.reduceSub, Array.replicate_succ, Array.replicate_zero, List.push_toArray, List.append_toArray, List.nil_append, List.cons_append]
  obtain ⟨b0, b1, b2, -, -, -⟩ := hB.three
  have HY := Lib.hid hY
  have HR1 := Lib.hid hR1
  have HR2 := Lib.hid hR2
  have HOr := Lib.hid ho
  have HB0 := Lib.hid hB
  have HRw0 := Lib.hid hr
  have H0 := Lib.hid h0
  clear hY hR1 hR2 ho hB hr h0
  gi_wp2
  clear b0 b1 b2
  gi_loopw [10] (fun t wr => ∃ (c : Nat) (L : List Nat) (d : Nat) (P : List Nat), c ≤ N ∧ t = .int .i64 (c : Int) ∧ Box wr wb 213 #[.int .i64 (N : Int), v, .int .i64 (d : Int)] ∧ RowsN wr base v N L ∧ Hid (Work orig L d c P) ∧ Hid (R P wr)) (fun t _ => N - (intOf t).toNat)
  case atStart => exact ⟨0, orig, 0, [], Nat.zero_le _, rfl, HB0.out, HRw0.out, Lib.hid (work_start orig), H0⟩
  case round =>
    obtain ⟨c, L, d, P, hc, rfl, hbx, hrw, HWk, HRr⟩ := hrel
    have HB := Lib.hid hbx
    have HRw := Lib.hid hrw
    clear hbx hrw HB0 HRw0 H0
    by_cases hlt : c < N
    · have hlt' : (c : Int) < (N : Int) := by omega
      have HLt := Lib.hid (work_lt HWk.out HOr.out)
      have hl64 : L.length ≤ 64 := by rw [HWk.out.size]; exact hlen
      have hdl := HWk.out.dl
      obtain ⟨A0, c0, hv, -⟩ := own_form HRw.out.choose_spec.2.1
      rw [mkM_len] at hv
      have HV := Lib.hid hv
      have HF := Lib.hid (find_any N (by omega) L HLt.out hl64 v base wb d c hdl hlt _ HB.out HRw.out)
      obtain ⟨b0, b1, b2, -, -, -⟩ := HB.out.three
      subst hv
      gi_wp2
      refine ⟨trivial, (callsIn_wide.2 HF.out).mono ?_⟩
      rintro e w1 ⟨i, rfl, i1, i2, hno, hyes, hb⟩
      have HB1 := Lib.hid (HB.out.keep hb)
      have HRw1 := Lib.hid (HRw.out.below hb)
      have HRr1 := Lib.hid (HR1.out _ _ _ HRr.out hb)
      have HNo := Lib.hid hno
      have HYe := Lib.hid hyes
      clear hb hno hyes b0 b1 b2
      obtain ⟨b0, b1, b2, bf0, bf1, bf2⟩ := HB1.out.three
      by_cases hil : i = L.length
      · have t1 : ((i : Int) == (L.length : Int)) = true := by simp [hil]
        have HNone := Lib.hid (work_none HWk.out (fun j h1 h2 => HNo.out j h1 (by omega)))
        clear hil
        gi_wp2
        go_roundw
        case rel => exact ⟨c + 1, L, d, P, by omega, by go_num, HB1.out, HRw1.out, HNone, HRr1⟩
        case measure => simp [intOf]; omega
      · have t1 : ((i : Int) == (L.length : Int)) = false := by simp; omega
        have hi : i < L.length := by omega
        have hd : d < L.length := by omega
        have HBit := Lib.hid (HYe.out hi)
        clear HYe HNo hil
        obtain ⟨g, cap, hv, hgb, hg, hcap, hcm⟩ := HRw1.out.form (by omega)
        injection hv with e1 e2 e3
        subst e1 e3
        obtain ⟨Ai, li, ci, x0, x1, owi, xf0, xf1⟩ := HRw1.out.at rfl i hi
        obtain ⟨Ad, ld, cd, y0, y1, owd, yf0, yf1⟩ := HRw1.out.at rfl d hd
        have OI := Lib.hid owi
        have OD := Lib.hid owd
        have hwg : ¬ wb = g := by omega
        have hi' : (i : Int) < (L.length : Int) := by omega
        have hd' : (d : Int) < (L.length : Int) := by omega
        clear owi owd
        gi_wp2
        have hgw : ¬ g = wb := fun e => hwg e.symm
        clear e2
        refine wpIn_quiet_skip (v := ?v) 12 30 rfl (by kernel_rfl) rfl (by kernel_rfl) (by kernel_rfl) ?h3 ?h4 ?rest
        case h3 => exact fun _ _ _ h => h
        case h4 => exact ⟨Or.inl ⟨by rfl, by intro w; go_simp; try (with_reducible rfl)⟩, fun _ => rfl⟩
        case rest =>
        simp only [List.take_succ_cons, List.take_zero, List.drop_succ_cons, List.drop_zero, List.cons_append, List.nil_append, Nat.reduceSub, Nat.reduceAdd]
        repeat
          refine wpQuietIn_step (fun _ _ _ _ => trivial) (fun K hK => ?_)
          go_simp
          (refine hK _ ?_; clear hK K)
        refine wpQuietIn_nil ?_
        intro _ hw'
        obtain ⟨nq, rfl⟩ := hw'
        have hq : Below w1.heap.size w1 (w1.drewN nq) := ⟨rfl, rfl, rfl, Nat.le_refl _, fun _ _ => rfl⟩
        have HB2 := Lib.hid (HB1.out.keep hq)
        have HRw2 := Lib.hid (HRw1.out.below hq)
        have HRr2 := Lib.hid (HR1.out _ _ _ HRr1.out hq)
        have OI2 := Lib.hid (OI.out.below hq)
        have OD2 := Lib.hid (OD.out.below hq)
        clear x0 x1 xf0 xf1 y0 y1 yf0 yf1 b0 b1 b2 bf0 bf1 bf2 hq HB1 HRw1 HRr1 OI OD
        generalize w1.drewN nq = w2 at *
        have P1 := Lib.hid (HRw2.out.put d hd (L.getD i 0) OI2.out)
        have OD3 := Lib.hid (HRw2.out.keepW OD2.out (d * 2) (d * 2 + 1) (.int .i64 (N : Int)) (.slice Ai li ci))
        have P2 := Lib.hid (RowsN.put (L := L.set d (L.getD i 0)) (by rw [List.length_set]; exact P1.out) i (by rw [List.length_set]; exact hi) (L.getD d 0) OD3.out)
        have P3 := Lib.hid P2.out
        rw [List.length_set] at P3
        have HB3 := Lib.hid ((((HB2.out.far (p := ⟨g, d * 2, none⟩) hwg (.int .i64 (N : Int))).far (p := ⟨g, d * 2 + 1, none⟩) hwg (.slice Ai li ci)).far (p := ⟨g, i * 2, none⟩) hwg (.int .i64 (N : Int))).far (p := ⟨g, i * 2 + 1, none⟩) hwg (.slice Ad ld cd))
        have HR3 := Lib.hid (HR2.out _ _ g (i * 2 + 1) (.slice Ad ld cd) (HR2.out _ _ g (i * 2) (.int .i64 (N : Int)) (HR2.out _ _ g (d * 2 + 1) (.slice Ai li ci) (HR2.out _ _ g (d * 2) (.int .i64 (N : Int)) HRr2.out (.inr rfl)) (.inr rfl)) (.inr rfl)) (.inr rfl))
        obtain ⟨Ax, lx, cx, y0, y1, -, yf0, yf1⟩ := HRw2.out.at rfl d hd
        obtain ⟨As, ls, cs, z0, z1, -, zf0, zf1⟩ := P1.out.at (show Value.slice (some ⟨g, 0, none⟩) L.length c0 = .slice (some ⟨g, 0, none⟩) (L.set d (L.getD i 0)).length c0 by rw [List.length_set]) i (by rw [List.length_set]; exact hi)
        obtain ⟨b0, b1, b2, bf0, bf1, bf2⟩ := HB2.out.three
        have HSw := Lib.hid (show (L.set d (L.getD i 0)).set i (L.getD d 0) = swapL L d i from rfl)
        have HWk2 := Lib.hid (work_swap HWk.out i1 hi)
        have hsl : (swapL L d i).length = L.length := swapL_len L d i
        have HSb := Lib.hid (show ((swapL L d i).getD d 0).testBit c = true by
          rw [swapL_at L d i d hd hi]
          by_cases e : d = i
          · rw [if_pos e, e]; exact HBit.out
          · rw [if_neg e, if_pos rfl]; exact HBit.out)
        rw [HSw.out] at P3
        have P4 := Lib.hid (P3.out.far HB3.out (by decide) (by decide) 2 (.int .i64 ((d : Int) + 1)))
        have HB4 := Lib.hid (HB3.out.put 2 (.int .i64 ((d : Int) + 1)))
        have HR4 := Lib.hid (HR2.out _ _ wb 2 (.int .i64 ((d : Int) + 1)) HR3.out (.inl rfl))
        have hy0 := HY.out (swapL L d i) d c P _ HWk2.out (by rw [hsl]; exact hd) HSb.out hlt HB4.out P4.out HR4.out
        obtain ⟨fn, tmps, assign, body, hy, hRR⟩ := hy0
        have hR' := Lib.hid hRR
        have HCl := Lib.hid (work_clear HWk2.out (by rw [hsl]; exact hd) HSb.out)
        have hd64 : d ≤ 64 := by omega
        clear hRR hsl P1 P2 OD3 OI2 OD2 P3 P4 HB4 HR4 HR3 HSb HSw HWk2 HB3
        trace "T1"
        gi_wp2_with fail
        trace "T2"
        refine RoundIn.mono hR'.out ?_
        rintro e W3 ⟨rfl, q1, q2, q3⟩
        have Q1 := Lib.hid q1
        have Q2 := Lib.hid q2
        have Q3 := Lib.hid q3
        clear q1 q2 q3 b0 b1 b2 bf0 bf1 bf2 y0 y1 yf0 yf1 z0 z1 zf0 zf1 hy
        gi_wp2_with fail
        trace "T3"
        go_roundw
        case rel => exact ⟨c + 1, clearL (swapL L d i) d c, d + 1, P ++ [c], by omega, by go_num, Q1.out, Q2.out, HCl, Q3⟩
        case measure => simp [intOf]; omega
    · obtain rfl : c = N := by omega
      have hlt' : ¬ (c : Int) < c := by omega
      gi_wp2
      go_end0
      exact ⟨⟨_, rfl⟩, L, d, P, HWk.out, HB.out, HRw.out, HRr.out⟩
end
section
/- Layer 4: workOn. -/
set_option linter.unusedVariables false
set_option linter.unusedSimpArgs false
open Go.RowKit
set_option maxRecDepth 100000
theorem mkM_take (N : Nat) (L : List Nat) (i : Nat) (h : i < L.length) : mkM N (L.take (i + 1)) = mkM N (L.take i) ++ [((N : Int), rowOf N (L.getD i 0))] := by
  unfold mkM
  rw [List.take_succ_eq_append_getElem h, List.map_append]
  simp [mkR, List.getD, h]
/-- Rows that may be reduced. -/
def WorkOut (N : Nat) (L : List Nat) (w : World) (e : Ending) (w' : World) : Prop :=
  ∃ v, e = .returned (.pointer (some ⟨w.heap.size + 1, 0, none⟩)) ∧ Box w' (w.heap.size + 1) 213 #[.int .i64 (N : Int), v, .int .i64 0] ∧ RowsN w' (w.heap.size + 2) v N L ∧ Below w.heap.size w w'
set_option maxHeartbeats 4000000 in
theorem workOn_any (N : Nat) (hN : N ≤ 64) (L : List Nat) (hL : ∀ r ∈ L, r < 2 ^ N) (hlen : L.length ≤ 64) (A : Option Addr) (c lo : Nat) (w : World) (hm : MatAt w lo A L.length (mkM N L)) :
    Calls Tryz.prog 157 #[.agg #[.int .i64 (N : Int), .slice A L.length c]] w (WorkOut N L w) := by
  obtain ⟨i0, hi, hz0, hz1, hz2⟩ := info_parts row_infoM
  have HI := Lib.hid hi
  have HZ0 := Lib.hid hz0
  have HZ1 := Lib.hid hz1
  have HZ2 := Lib.hid hz2
  have HLt := Lib.hid (lt_all hL)
  have hlm : lmb (N : Int) = true := (lmb_iff N).2 (by omega)
  have HNew := Lib.hid (new_own N hlm)
  rw [← rowOf_zero] at HNew
  have Q0 := Lib.hid ((Box.new w 102 #[.int .i64 (N : Int), .slice A L.length c]).alloc (.cells #[.int .i64 (N : Int), .slice none 0 0, .int .i64 0] 213))
  have q1 := Box.new (w.alloc (.cells #[.int .i64 (N : Int), .slice A L.length c] 102)) 213 #[.int .i64 (N : Int), .slice none 0 0, .int .i64 0]
  have HW := Lib.hid (show Below w.heap.size w ((w.alloc (.cells #[.int .i64 (N : Int), .slice A L.length c] 102)).alloc (.cells #[.int .i64 (N : Int), .slice none 0 0, .int .i64 0] 213)) from ((Below.refl _ _).alloc (Nat.le_refl _) _).alloc (by simp) _)
  simp only [World.size_alloc] at q1
  have Q1 := Lib.hid q1
  have HM := Lib.hid hm
  clear hi hz0 hz1 hz2 q1 hlm hm
  go_enter Tryz.func157, Tryz.ntmps157
  go_wp2_with fail
  go_loopw [17] (fun t wr => ∃ (i : Nat) (v : Value), i ≤ L.length ∧ t = .int .i64 (i : Int) ∧ Box wr w.heap.size 102 #[.int .i64 (N : Int), .slice A L.length c] ∧ Box wr (w.heap.size + 1) 213 #[.int .i64 (N : Int), v, .int .i64 0] ∧ RowsN wr (w.heap.size + 2) v N (L.take i) ∧ Below w.heap.size w wr) (fun t _ => L.length - (intOf t).toNat)
  case atStart => exact ⟨0, _, Nat.zero_le _, rfl, Q0.out, Q1.out, RowsW.nil _ _, HW.out⟩
  case round =>
    obtain ⟨i, v, hi, rfl, B0, B1, hrw, hbel⟩ := hrel
    have R0 := Lib.hid B0
    have R1 := Lib.hid B1
    have HRw := Lib.hid hrw
    have HB := Lib.hid hbel
    clear B0 B1 hrw hbel Q0 Q1 HW
    obtain ⟨a0, a1, -, -⟩ := R0.out.two
    by_cases hlt : i < L.length
    · have hlt' : (i : Int) < (L.length : Int) := by omega
      obtain ⟨b, off, B, l1, c1, rfl, hbl, x0, x1, hs, hw⟩ := (HM.out.mono (Nat.le_refl _) HB.out).at i hlt
      rw [mkM_at N L i hlt] at x0 hw
      have HTK := Lib.hid (mkM_take N L i hlt)
      have HTL := Lib.hid (show (L.take i).length = i by rw [List.length_take]; omega)
      have hx := HLt.out i
      generalize L.getD i 0 = x at *
      have HX := Lib.hid hx
      simp only [mkR] at x0 hw
      have hal : Below wr.heap.size wr (wr.alloc (.cells #[.int .i64 (N : Int), .slice B l1 c1] 139)) := (Below.refl _ _).alloc (Nat.le_refl _) _
      have E := Lib.hid (Box.new wr 139 #[.int .i64 (N : Int), .slice B l1 c1])
      have R0 := Lib.hid (R0.out.keep hal)
      have R1 := Lib.hid (R1.out.keep hal)
      have HRw := Lib.hid (HRw.out.below hal)
      have HB := Lib.hid (chain HB.out hal)
      have HWx := Lib.hid (hw.below hal)
      clear hal hx hw hs a0 a1
      obtain ⟨a0, a1, -, -⟩ := R0.out.two
      go_wp2_with fail
      refine (HNew.out _).mono ?_
      rintro e w1 ⟨A1, l2, c2, rfl, hz, hb⟩
      have hal : Below w1.heap.size w1 (w1.alloc (.cells #[.int .i64 (N : Int), .slice A1 l2 c2] 139)) := (Below.refl _ _).alloc (Nat.le_refl _) _
      have E := Lib.hid ((E.out.keep hb).keep hal)
      have R0 := Lib.hid ((R0.out.keep hb).keep hal)
      have R1 := Lib.hid ((R1.out.keep hb).keep hal)
      have HRw := Lib.hid ((HRw.out.below hb).below hal)
      have HB := Lib.hid (chain (chain HB.out hb) hal)
      have HWx := Lib.hid ((HWx.out.below hb).below hal)
      have F := Lib.hid (Box.new w1 139 #[.int .i64 (N : Int), .slice A1 l2 c2])
      have HWz := Lib.hid ((hz.below hal).words (rowOf_lt N 0))
      clear hb hal hz x0 x1 a0 a1
      obtain ⟨e0, e1, -, -⟩ := E.out.two
      obtain ⟨f0, f1, -, -⟩ := F.out.two
      go_wp2_with fail
      refine (xor_num N 0 x (by omega) (Nat.two_pow_pos N) HX.out A1 B l2 c2 l1 c1 _ HWz.out HWx.out).mono ?_
      rw [Nat.zero_xor]
      rintro e w2 ⟨A3, l3, c3, rfl, ho, hb⟩
      have hal : Below w2.heap.size w2 (w2.alloc (.cells #[.int .i64 (N : Int), .slice A3 l3 c3] 139)) := (Below.refl _ _).alloc (Nat.le_refl _) _
      have R0 := Lib.hid ((R0.out.keep hb).keep hal)
      have R1 := Lib.hid ((R1.out.keep hb).keep hal)
      have HRw := Lib.hid ((HRw.out.below hb).below hal)
      have HB := Lib.hid (chain (chain HB.out hb) hal)
      have G := Lib.hid (Box.new w2 139 #[.int .i64 (N : Int), .slice A3 l3 c3])
      have OW := Lib.hid (ho.below hal)
      clear hb hal ho e0 e1 f0 f1 E F HWx HWz
      go_wp2_with fail
      generalize hW3 : w2.alloc (.cells #[.int .i64 (N : Int), .slice A3 l3 c3] 139) = w3 at *
      clear hW3
      obtain ⟨g0, g1, -, -⟩ := G.out.two
      obtain ⟨b0, b1, b2, bf0, bf1, bf2⟩ := R1.out.three
      obtain ⟨rs, hr1, hr2, hr3⟩ := HRw.out
      rw [mkM_len, HTL.out] at hr1 hr2 hr3
      have HOW := Lib.hid hr2
      have HRS := Lib.hid hr3
      have hb0 := HB.out.size
      have hb1 := R1.out.lt
      have hn0 := HOW.out.lt
      have T1 := Lib.hid (R1.out.alloc (.cells #[.int .i64 (N : Int), .slice A3 l3 c3] 139))
      have ki := HI.out
      have kz0 := HZ0.out
      have kz1 := HZ1.out
      have kz2 := HZ2.out
      clear hr2 hr3
      have XO := Lib.hid (own_drewM (World.ownsRow.alloc HOW.out (.cells #[.int .i64 (N : Int), .slice A3 l3 c3] 139)))
      have XN := Lib.hid (show ∀ j u, ([.int .i64 (N : Int), .slice A3 l3 c3] : List Value)[j]? = some u → (w3.alloc (.cells #[.int .i64 (N : Int), .slice A3 l3 c3] 139)).drew.cell? ((⟨w3.heap.size, 0, none⟩ : Addr).add j) = some u from World.news_of_block (Box.new w3 139 #[.int .i64 (N : Int), .slice A3 l3 c3]))
      have XL := Lib.hid (show w.heap.size + 2 ≤ (w3.alloc (.cells #[.int .i64 (N : Int), .slice A3 l3 c3] 139)).drew.heap.size by show _ ≤ (w3.alloc (.cells #[.int .i64 (N : Int), .slice A3 l3 c3] 139)).heap.size; simp; omega)
      have XT := Lib.hid (show Box (w3.alloc (.cells #[.int .i64 (N : Int), .slice A3 l3 c3] 139)).drew (w.heap.size + 1) 213 #[.int .i64 (N : Int), v, .int .i64 0] from T1.out)
      have a1 : i + 1 ≤ maxLen := by unfold maxLen; omega
      have a2 : (i + 1) * 32 ≤ 140737488355328 := by omega
      have x1c := Lib.hid (show ∀ u ∈ ([.int .i64 (N : Int), .slice A3 l3 c3] : List Value), u.oneCell' = true by simp [Value.oneCell'])
      have hne := Lib.hid (own_ne HOW.out R1.out (by decide))
      go_region_law (refine step_append_lies _ rfl (.tmp 37) (.tmp 39) 99 rfl (w.heap.size + 2) 139 i0 (.agg #[.int .i64 0, .slice none 0 0]) 2 32 Tryz.underlying99 ki kz0 kz1 kz2 rfl (by decide) v i (rowCells rs) ?_ XO.out ⟨w3.heap.size, 0, none⟩ 1 1 [.int .i64 (N : Int), .slice A3 l3 c3] ?_ rfl XN.out x1c.out (by omega) a1 a2 XL.out _ rfl ?_; simp [Act.eval, Act.put]; simp [Act.eval, Act.put]; intro g cap w4 hown hgrow _ _; have V1 := Lib.hid (XT.out.grown hgrow hne.out); have HO2 := Lib.hid hown; have HG := Lib.hid hgrow; clear hown hgrow; obtain ⟨v0, v1, v2, vf0, vf1, vf2⟩ := V1.out.three)
      all_goals
        have W0 := Lib.hid (Box.grown (show Box (w3.alloc (.cells #[.int .i64 (N : Int), .slice A3 l3 c3] 139)).drew w.heap.size 102 #[.int .i64 (N : Int), .slice (some ⟨b, off, none⟩) L.length c] from R0.out.alloc (.cells #[.int .i64 (N : Int), .slice A3 l3 c3] 139)) HG.out (own_ne HOW.out R0.out (by decide)))
        have WB := Lib.hid (Below.grown ((HB.out.alloc HB.out.size (.cells #[.int .i64 (N : Int), .slice A3 l3 c3] 139)).drew) HG.out (Nat.le_of_succ_le (Nat.le_of_succ_le XL.out)) (fun k hk => by have := (XO.out.lt k hk).1; omega))
        have WR := Lib.hid (fun j (hj : j < i) => And.intro (HRS.out j hj).1 (OwnW.grown (((HRS.out j hj).2.alloc (.cells #[.int .i64 (N : Int), .slice A3 l3 c3] 139)).drew) XO.out (by decide) HG.out))
        have WW := Lib.hid (OwnW.grown ((OW.out.alloc (.cells #[.int .i64 (N : Int), .slice A3 l3 c3] 139)).drew) XO.out (by decide) HG.out)
        have WM := Lib.hid (RowsW.snoc (ms := mkM N (L.take i)) (by rw [mkM_len]; exact HTL.out) hr1 HO2.out WR.out WW.out)
        rw [← HTK.out] at WM
        clear HG XO XN XL XT T1 HOW HRS HO2 WR WW HRw R1 R0 HB
        go_wp2_with fail
        go_roundw
        case rel => exact ⟨i + 1, _, by omega, by go_num, W0.out.far (p := ⟨w.heap.size + 1, 1, none⟩) (by simp) _, V1.out.put 1 _, RowsN.far WM.out V1.out (by decide) (by decide) 1 _, WB.out.setCell (p := ⟨w.heap.size + 1, 1, none⟩) (by simp) _⟩
        case measure => simp [intOf] <;> omega
    · obtain rfl : i = L.length := by omega
      have hlt' : ¬ (L.length : Int) < (L.length : Int) := by omega
      have hrw := HRw.out
      rw [List.take_length] at hrw
      go_wp2_with fail
      go_ret
      exact ⟨v, rfl, R1.out, hrw, HB.out⟩
end
section
/- Layer 4: Echelon: what stays where, while its loop runs. -/
set_option linter.unusedVariables false
set_option linter.unusedSimpArgs false
open Go.RowKit Go.Shelf
set_option maxRecDepth 100000
/-- All blocks of cells lie as they lay. -/
def KC (W W' : World) : Prop := ∀ (k : Nat) (o : Obj), W.heap[k]? = some o → o.isCells = true → W'.heap[k]? = some o
theorem kc_grown {W W' : World} {row : Option Nat} (hg : W.grownBy W' row) (hr : ∀ r, row = some r → ∃ o : Obj, W.heap[r]? = some o ∧ o.isCells = false) : KC W W' := fun k o hk ho => by
  rw [hg.block k (Array.getElem?_eq_some_iff.1 hk).1 ?_]
  · exact hk
  · intro e
    obtain ⟨o', h1, h2⟩ := hr k e.symm
    rw [hk] at h1
    obtain rfl := Option.some.inj h1
    rw [ho] at h2; cases h2
theorem box_kc {W W' : World} {g : Nat} {t : TypeId} {cs : Array Value} (h : Box W g t cs) (k : KC W W') : Box W' g t cs := k g _ h rfl
theorem own_kc {W W' : World} {base e size n : Nat} {v : Value} {xs : List Value} (h : W.ownsRow base e size v n xs) (k : KC W W') : W'.ownsRow base e size v n xs := by
  refine ⟨h.1, ?_⟩
  rcases h.2 with h0 | ⟨g, cap, cur, rfl, h1, hh, h3⟩
  · exact .inl h0
  · exact .inr ⟨g, cap, cur, rfl, h1, k g _ hh rfl, h3⟩
theorem RowsN.kc {W W' : World} {base : Nat} {v : Value} {N : Nat} {L : List Nat} (h : RowsN W base v N L) (k : KC W W') : RowsN W' base v N L := by
  obtain ⟨rs, h1, h2, h3⟩ := h
  exact ⟨rs, h1, own_kc h2 k, fun j hj => ⟨(h3 j hj).1, own_kc (h3 j hj).2 k⟩⟩
theorem RowsN.grown {W W' : World} {base b : Nat} {v u : Value} {N n e size : Nat} {L : List Nat} {xs : List Value} (h : RowsN W base v N L) (ho : W.ownsRow b e size u n xs) (he : e ≠ 22) (he2 : e ≠ 139) (hg : W.grownBy W' u.ownBlock) : RowsN W' base v N L := by
  obtain ⟨rs, h1, h2, h3⟩ := h
  refine ⟨rs, h1, World.ownsRow.kept h2 hg ?_, fun j hj => ⟨(h3 j hj).1, (h3 j hj).2.grown ho he hg⟩⟩
  rcases h2.2 with ⟨hv, -⟩ | ⟨g, cap, cur, hv, -, hh, -⟩
  · left; rw [hv]; rfl
  · right
    rw [hv]
    exact fun e => own_ne ho (show Box W g 139 cur from hh) he2 e.symm
theorem RowsN.block {W : World} {base : Nat} {v : Value} {N : Nat} {L : List Nat} (h : RowsN W base v N L) {g : Nat} (hv : v.ownBlock = some g) : base ≤ g ∧ g < W.heap.size ∧ ∃ cur, Box W g 139 cur := by
  obtain ⟨rs, h1, h2, h3⟩ := h
  rcases h2.2 with ⟨hv', -⟩ | ⟨g', cap, cur, hv', hb, hh, -⟩
  · rw [hv'] at hv; cases hv
  · rw [hv'] at hv
    obtain rfl : g' = g := Option.some.inj hv
    exact ⟨hb, (show Box W g' 139 cur from hh).lt, cur, hh⟩
def numV (x : Nat) : Value := .int .i64 (x : Int)
/-- What stays while the loop runs: the places so far; the boxes of the matrix, the result, the work. -/
def EchR (w : World) (N : Nat) (A : Option Addr) (l c wb xb S0 : Nat) (P : List Nat) (W : World) : Prop :=
  (∃ u, Box W (xb + 1) 106 #[u] ∧ W.ownsRow S0 3 1 u P.length (P.map numV)) ∧ Box W w.heap.size 102 #[.int .i64 (N : Int), .slice A l c] ∧ Box W (w.heap.size + 1) 102 #[.int .i64 0, .slice none 0 0] ∧
    Box W xb 208 #[.pointer (some ⟨wb, 0, none⟩)] ∧ Below w.heap.size w W ∧ S0 ≤ W.heap.size
section
variable {w : World} {N : Nat} {A : Option Addr} {l c wb xb S0 : Nat} {P : List Nat} {W W' : World}
theorem EchR.below (h : EchR w N A l c wb xb S0 P W) (hb : Below W.heap.size W W') (hw : w.heap.size ≤ W.heap.size) : EchR w N A l c wb xb S0 P W' := by
  obtain ⟨⟨u, h1, h2⟩, h3, h4, h5, h6, h7⟩ := h
  exact ⟨⟨u, h1.keep hb, own_keep h2 hb⟩, h3.keep hb, h4.keep hb, h5.keep hb, h6.trans (hb.mono hw), Nat.le_trans h7 hb.size⟩
theorem EchR.kc (h : EchR w N A l c wb xb S0 P W) (hk : KC W W') (hs : W.heap.size ≤ W'.heap.size) (hb : Below w.heap.size w W') : EchR w N A l c wb xb S0 P W' := by
  obtain ⟨⟨u, h1, h2⟩, h3, h4, h5, h6, h7⟩ := h
  exact ⟨⟨u, box_kc h1 hk, own_kc h2 hk⟩, box_kc h3 hk, box_kc h4 hk, box_kc h5 hk, hb, Nat.le_trans h7 hs⟩
theorem EchR.put (h : EchR w N A l c wb xb S0 P W) (g i : Nat) (v : Value) (hg : w.heap.size + 1 < g) (hx : g < xb) (hS : xb + 1 < S0) : EchR w N A l c wb xb S0 P (W.setCell ⟨g, i, none⟩ v) := by
  obtain ⟨⟨u, h1, h2⟩, h3, h4, h5, h6, h7⟩ := h
  refine ⟨⟨u, h1.far (by show xb + 1 ≠ g; omega) _, World.ownsRow.kept h2 (gk_set W g i v) ?_⟩, h3.far (by show w.heap.size ≠ g; omega) _, h4.far (by show w.heap.size + 1 ≠ g; omega) _, h5.far (by show xb ≠ g; omega) _, h6.setCell (by show w.heap.size ≤ g; omega) _, by simpa [World.setCell] using h7⟩
  cases hu : u.ownBlock with
  | none => exact .inl rfl
  | some k =>
    right
    have := (h2.lt k hu).1
    intro e
    have := Option.some.inj e
    omega
theorem EchR.gk (h : EchR w N A l c wb xb S0 P W) (g : Nat) (hk : W.grownBy W' (some g)) (hg : w.heap.size + 1 < g) (hx : g < xb) (hS : xb + 1 < S0) : EchR w N A l c wb xb S0 P W' := by
  obtain ⟨⟨u, h1, h2⟩, h3, h4, h5, h6, h7⟩ := h
  refine ⟨⟨u, gk_box h1 hk (by omega), World.ownsRow.kept h2 hk ?_⟩, gk_box h3 hk (by omega), gk_box h4 hk (by omega), gk_box h5 hk (by omega), h6.grown hk h6.size (fun k e => by have := Option.some.inj e; omega), Nat.le_trans h7 hk.size⟩
  cases hu : u.ownBlock with
  | none => exact .inl rfl
  | some k =>
    right
    have := (h2.lt k hu).1
    intro e
    have := Option.some.inj e
    omega
end
theorem ko_below {W W' : World} (h : Below W.heap.size W W') : KeepsOthers W W' := ⟨h.size, fun k o hk _ => (h.block k (Array.getElem?_eq_some_iff.1 hk).1).trans hk⟩
theorem ko_gk {W W' : World} {g : Nat} {t : TypeId} {cs : Array Value} (hb : Box W g t cs) (h : W.grownBy W' (some g)) : KeepsOthers W W' :=
  ⟨h.size, fun k o hk ho => (h.block k (Array.getElem?_eq_some_iff.1 hk).1 (fun e => by
    obtain rfl := Option.some.inj e
    rw [show W.heap[k]? = _ from hb] at hk
    obtain rfl := Option.some.inj hk
    cases ho)).trans hk⟩
theorem ko_grown {W W' : World} {tmp : Obj} {b e size n : Nat} {u : Value} {xs : List Value} (ho : W.ownsRow b e size u n xs) (hg : (W.alloc tmp).grownBy W' u.ownBlock) : KeepsOthers W W' :=
  ⟨by have := hg.size; simp at this; omega, fun k o hk hc => by
    have hl := (Array.getElem?_eq_some_iff.1 hk).1
    rw [hg.block k (by simp; omega) ?_, Below.heap_alloc W tmp k hl]
    · exact hk
    · intro e
      rcases ho.2 with ⟨hu, -⟩ | ⟨g, cap, cur, hu, -, hh, -⟩
      · rw [hu] at e; cases e
      · rw [hu] at e
        obtain rfl : k = g := Option.some.inj e
        rw [hh] at hk
        obtain rfl := Option.some.inj hk
        cases hc⟩
/-- The state of the work. -/
structure StE where
  L : List Nat
  d : Nat
  c : Nat
  P : List Nat
def StE.next (s : StE) : StE := ⟨clearL s.L s.d s.c, s.d + 1, s.c + 1, s.P ++ [s.c]⟩
def EchI (orig : List Nat) (w : World) (N : Nat) (A : Option Addr) (l c wb xb S0 base : Nat) (v : Value) (s : StE) (W : World) : Prop :=
  Work orig s.L s.d s.c s.P ∧ Box W wb 213 #[.int .i64 (N : Int), v, .int .i64 (s.d : Int)] ∧ RowsN W base v N s.L ∧ EchR w N A l c wb xb S0 s.P W
def EchM (orig : List Nat) (w : World) (N : Nat) (A : Option Addr) (l c wb xb S0 base : Nat) (v : Value) (s : StE) (W : World) : Prop :=
  (Work orig s.L s.d s.c s.P ∧ s.d < s.L.length ∧ (s.L.getD s.d 0).testBit s.c = true ∧ s.c < N) ∧ Box W wb 213 #[.int .i64 (N : Int), v, .int .i64 ((s.d : Int) + 1)] ∧ RowsN W base v N s.L ∧ EchR w N A l c wb xb S0 s.P W
theorem echI_own {orig : List Nat} {w : World} {N : Nat} {A : Option Addr} {l c wb xb S0 base : Nat} {v : Value} {B : Nat} (hB : w.heap.size ≤ B) : OwnFrom B (EchI orig w N A l c wb xb S0 base v) := fun s W W' row hs hg hr => by
  obtain ⟨h1, h2, h3, h4⟩ := hs
  have hk := kc_grown hg (fun r e => (hr r e).2)
  have hb := h4.2.2.2.2.1
  exact ⟨h1, box_kc h2 hk, h3.kc hk, h4.kc hk hg.size (hb.grown hg hb.size (fun k e => by have := (hr k e).1; omega))⟩
theorem echM_own {orig : List Nat} {w : World} {N : Nat} {A : Option Addr} {l c wb xb S0 base : Nat} {v : Value} {B : Nat} (hB : w.heap.size ≤ B) : OwnFrom B (EchM orig w N A l c wb xb S0 base v) := fun s W W' row hs hg hr => by
  obtain ⟨h1, h2, h3, h4⟩ := hs
  have hk := kc_grown hg (fun r e => (hr r e).2)
  have hb := h4.2.2.2.2.1
  exact ⟨h1, box_kc h2 hk, h3.kc hk, h4.kc hk hg.size (hb.grown hg hb.size (fun k e => by have := (hr k e).1; omega))⟩
end
section
/- Layer 4: Echelon, Rank. -/
set_option linter.unusedVariables false
set_option linter.unusedSimpArgs false
open Go.RowKit Go.Shelf
set_option maxRecDepth 100000
attribute [local go_sem] Oper.semAt_some
theorem int_infoE : (Tryz.prog.info? 3).map (fun i => (i.zero, i.size, i.bytes)) = some (some (.int .i64 0), 1, 8) := by kernel_rfl
/-- Reduced rows, and their places, are returned. -/
def EchOut (N : Nat) (orig : List Nat) (w : World) (e : Ending) (w' : World) : Prop :=
  ∃ (M P : List Nat) (A : Option Addr) (B : Option Addr) (k : Nat), e = .returned (.tuple #[.agg #[.int .i64 (N : Int), .slice A M.length M.length], .slice B M.length k, .int .i64 0]) ∧ Rref M P ∧ SameSp orig M ∧
    MatAt w' 0 A M.length (mkM N M) ∧ Ints w' B M.length (P.map fun x : Nat => (x : Int)) ∧ M.length ≤ k ∧ Below w.heap.size w w'
/-- The same, with where its memory lies: rows behind all that was there, places in a row of ints. -/
def EchOut2 (N : Nat) (orig : List Nat) (w : World) (e : Ending) (w' : World) : Prop :=
  ∃ (M P : List Nat) (A : Option Addr) (B : Option Addr) (k : Nat), e = .returned (.tuple #[.agg #[.int .i64 (N : Int), .slice A M.length M.length], .slice B M.length k, .int .i64 0]) ∧ Rref M P ∧ SameSp orig M ∧
    MatAt w' w.heap.size A M.length (mkM N M) ∧ Ints w' B M.length (P.map fun x : Nat => (x : Int)) ∧ M.length ≤ k ∧ (∃ bs, w'.ownsRow bs 3 1 (.slice B M.length k) M.length (P.map numV)) ∧ Below w.heap.size w w'
theorem EchOut2.one {N : Nat} {orig : List Nat} {w : World} {e : Ending} {w' : World} (h : EchOut2 N orig w e w') : EchOut N orig w e w' := by
  obtain ⟨M, P, A, B, k, h0, h1, h2, h3, h4, h5, -, h7⟩ := h
  exact ⟨M, P, A, B, k, h0, h1, h2, h3.low (Nat.zero_le _), h4, h5, h7⟩
theorem results_cell2 {P : Program} {fn : Func} {tmps : Array Value} {W : World} {p q r : Tmp} {T : TypeId} {g : Nat} {cs : Array Value} {d : TypeDesc} {v u : Value} (hr : fn.results = #[.cell p T, .tmp q, .tmp r])
    (hp : tmps.getD p undef = .pointer (some ⟨g, 0, none⟩)) (hq : tmps.getD q undef = v) (hq2 : tmps.getD r undef = u) (hbox : Box W g T cs) (hu : P.underlying T = some d)
    (hk : (match d with | .struct _ | .array _ _ => true | _ => false) = true) (hi : (P.info? T).map (·.size) = some cs.size) :
    (results fn tmps).run P W = .ok (.tuple #[.agg cs, v, u]) W := by
  subst hq hq2
  have hp' : tmps[p]?.getD undef = .pointer (some ⟨g, 0, none⟩) := by simpa using hp
  simp [results, hr, hp', asAddr, run_loadVar_row W g T T cs (0, 0) d hbox hu hk hi]
theorem mkM_lt (N : Nat) (L : List Nat) (i j : Nat) : (((mkM N L).getD i (0, [])).2).getD j 0 < 18446744073709551616 := by
  by_cases h : i < L.length
  · rw [mkM_at N L i h]; exact rowOf_lt N _ j
  · have e : (mkM N L)[i]? = none := List.getElem?_eq_none (by rw [mkM_len]; omega)
    simp [List.getD, e]
theorem num_bd {orig L P : List Nat} {d N : Nat} (h : Work orig L d N P) (hN : N ≤ 64) (j : Nat) : -9223372036854775808 ≤ (P.map fun x : Nat => (x : Int)).getD j 0 ∧ (P.map fun x : Nat => (x : Int)).getD j 0 ≤ 9223372036854775807 := by
  by_cases hj : j < P.length
  · have h1 := h.lt j (by rw [← h.dp]; exact hj)
    have e : (P.map fun x : Nat => (x : Int)).getD j 0 = (P.getD j 0 : Nat) := by simp [List.getD, hj]
    rw [e]; omega
  · have e : (P.map fun x : Nat => (x : Int))[j]? = none := List.getElem?_eq_none (by simp; omega)
    simp [List.getD, e]
theorem wk_len {orig L P : List Nat} {d c : Nat} (h : Work orig L d c P) : (L.take d).length = d := by rw [List.length_take]; have := h.dl; omega
set_option maxHeartbeats 4000000 in
theorem echelon_in (N : Nat) (hN : N ≤ 64) (L : List Nat) (hL : ∀ r ∈ L, r < 2 ^ N) (hlen : L.length ≤ 64) (A : Option Addr) (c lo : Nat) (w : World) (hm : MatAt w lo A L.length (mkM N L)) (hr : rightM N (mkM N L) = true) :
    CallsIn Fence.wide 5 Tryz.prog 145 #[.agg #[.int .i64 (N : Int), .slice A L.length c]] w (EchOut2 N L w) := by
  obtain ⟨i0, hi, hz0, hz1, hz2⟩ := info_parts int_infoE
  have b0 : Below w.heap.size w (w.alloc (.cells #[.int .i64 (N : Int), .slice A L.length c] 102)) := (Below.refl _ _).alloc (Nat.le_refl _) _
  have b1 : Below w.heap.size w ((w.alloc (.cells #[.int .i64 (N : Int), .slice A L.length c] 102)).alloc (.cells #[.int .i64 0, .slice none 0 0] 102)) := b0.alloc (by simp) _
  have Q0 := Lib.hid ((Box.new w 102 #[.int .i64 (N : Int), .slice A L.length c]).alloc (.cells #[.int .i64 0, .slice none 0 0] 102))
  have q1 := Box.new (w.alloc (.cells #[.int .i64 (N : Int), .slice A L.length c] 102)) 102 #[.int .i64 0, .slice none 0 0]
  simp only [World.size_alloc] at q1
  have Q1 := Lib.hid q1
  have HB := Lib.hid b1
  have HM := Lib.hid (hm.below b1)
  have HR := Lib.hid (mright_any (N : Int) A L.length c lo (mkM N L) _ HM.out (by unfold maxLen; omega))
  rw [hr] at HR
  clear q1 b0 b1 hm hr
  refine callsIn_of_wp_marks Tryz.func145 rfl trivial ?_ rfl
  simp only [Tryz.ntmps145, List.size_toArray, List.length_cons, List.length_nil, Nat.reduceAdd, Nat.reduceSub, Array.replicate_succ, Array.replicate_zero, List.push_toArray, List.append_toArray, List.nil_append, List.cons_append]
  gi_wp2
  refine ⟨trivial, (callsIn_wide.2 HR.out).mono ?_⟩
  rintro e x1 ⟨rfl, hb⟩
  have Q0 := Lib.hid (Q0.out.keep hb)
  have Q1 := Lib.hid (Q1.out.keep hb)
  have HB := Lib.hid (chain HB.out hb)
  have HM := Lib.hid (HM.out.below hb)
  clear hb HR
  obtain ⟨r0, r1, -, -⟩ := Q0.out.two
  have hld := run_loadVar_row (P := Tryz.prog) x1 w.heap.size 102 102 #[.int .i64 (N : Int), .slice A L.length c] (0, 0) _ Q0.out Tryz.underlying102 rfl (by kernel_rfl)
  gi_wp2
  refine ⟨trivial, (callsIn_wide.2 (workOn_any N hN L hL hlen A c lo _ HM.out)).mono ?_⟩
  rintro e x2 ⟨v, rfl, hwb, hrw, hb⟩
  have hal1 : Below x2.heap.size x2 (x2.alloc (.cells #[.pointer (some ⟨x1.heap.size + 1, 0, none⟩)] 208)) := (Below.refl _ _).alloc (Nat.le_refl _) _
  have hal2 : Below x2.heap.size x2 ((x2.alloc (.cells #[.pointer (some ⟨x1.heap.size + 1, 0, none⟩)] 208)).alloc (.cells #[.slice none 0 0] 106)) := hal1.alloc (by simp) _
  have q5 := (Box.new x2 208 #[.pointer (some ⟨x1.heap.size + 1, 0, none⟩)]).alloc (.cells #[.slice none 0 0] 106)
  have q6 := Box.new (x2.alloc (.cells #[.pointer (some ⟨x1.heap.size + 1, 0, none⟩)] 208)) 106 #[.slice none 0 0]
  simp only [World.size_alloc] at q6
  have s1 : w.heap.size + 1 < x1.heap.size := Q1.out.lt
  have s2 : x1.heap.size + 1 < x2.heap.size := hwb.lt
  have hblk := Lib.hid (fun g (hg : v.ownBlock = some g) => And.intro (hrw.block hg).1 (hrw.block hg).2.1)
  have QW := Lib.hid (hwb.keep hal2)
  have QR := Lib.hid (hrw.below hal2)
  have Q0 := Lib.hid ((Q0.out.keep hb).keep hal2)
  have Q1 := Lib.hid ((Q1.out.keep hb).keep hal2)
  have Q5 := Lib.hid q5
  have Q6 := Lib.hid q6
  have HB := Lib.hid (chain (chain HB.out hb) hal2)
  clear hb hal1 hal2 q5 q6 hwb hrw r0 r1 hld
  gi_wp2
  generalize hw3 : (x2.alloc (.cells #[.pointer (some ⟨x1.heap.size + 1, 0, none⟩)] 208)).alloc (.cells #[.slice none 0 0] 106) = w3 at *
  have s3 : w3.heap.size = x2.heap.size + 2 := by rw [← hw3]; simp
  have HS3 := Lib.hid s3
  clear hw3 s3
  refine range_state rfl (by omega) (gf := 158) (la := #[.pointer (some ⟨x1.heap.size + 1, 0, none⟩)]) (lb := #[]) rfl trivial (enters_of Tryz.func158 (by kernel_rfl) rfl)
    (encs := fun s : StE => #[.int .i64 (s.c : Int)]) StE.next (fun s => s.c = N) (fun _ => rfl) ⟨L, 0, 0, []⟩ (EchI L w N A L.length c (x1.heap.size + 1) x2.heap.size w3.heap.size (x1.heap.size + 2) v) (EchM L w N A L.length c (x1.heap.size + 1) x2.heap.size w3.heap.size (x1.heap.size + 2) v)
    (echI_own HB.out.size) (echM_own HB.out.size) ?seq ?start ?a1 ?assign ?body ?done
  case seq =>
    intro l T hT hY s W1 hI hTW he
    subst he
    obtain ⟨-, h2, h3, h4⟩ := hI
    have h3s := HS3.out
    have key := columns_in 4 (by omega) l N hN L hL hlen (x1.heap.size + 2) (x1.heap.size + 1) v (by omega) (fun P W => EchR w N A L.length c (x1.heap.size + 1) x2.heap.size w3.heap.size P W ∧ T W)
      (fun P W W' h hb => ⟨h.1.below hb h.1.2.2.2.2.1.size, hT W W' h.2 (ko_below hb)⟩)
      (fun P W g i u h hg => ⟨h.1.put g i u (by rcases hg with rfl | hg; omega; have := hblk.out g hg; omega) (by rcases hg with rfl | hg; omega; have := hblk.out g hg; omega) (by omega), hT _ _ h.2 (KeepsOthers.setCell _ _ _)⟩)
      (fun L' d c' P W hw hd hb hc hbox hrows h => by
        obtain ⟨fn, tmps, assign, body, hy, hR⟩ := hY ⟨L', d, c', P⟩ W ⟨⟨hw, hd, hb, hc⟩, hbox, hrows, h.1⟩ h.2
        exact ⟨fn, tmps, assign, body, hy, hR.mono fun e W' h => ⟨h.1, by have := h.2.1.2.1; simpa [StE.next] using this, h.2.1.2.2.1, h.2.1.2.2.2, h.2.2⟩⟩)
      W1 (by simpa using h2) h3 ⟨h4, hTW⟩
    refine key.mono fun e W' h => ?_
    obtain ⟨hv, L', d, P, k1, k2, k3, k4, k5⟩ := h
    exact ⟨hv, ⟨L', d, N, P⟩, rfl, ⟨k1, k2, k3, k4⟩, k5⟩
  case start =>
    exact ⟨work_start L, by simpa using QW.out, QR.out, ⟨_, Q6.out, World.ownsRow_nil _ _ _ _⟩, Q0.out, Q1.out, Q5.out, HB.out, Nat.le_refl _⟩
  case assign =>
    intro l s W K hK
    gi_wp2
    exact hK
  case body =>
    intro l s W hM
    obtain ⟨⟨hw, hd, hbit, hcN⟩, hbx, hrow, ⟨u, hu, hown⟩, m0, m1, m5, hb, hsz⟩ := hM
    have h3s := HS3.out
    have HBX := Lib.hid hbx
    have HRW := Lib.hid hrow
    have HU := Lib.hid hu
    have HO := Lib.hid hown
    have M0 := Lib.hid m0
    have M1 := Lib.hid m1
    have M5 := Lib.hid m5
    have HBw := Lib.hid hb
    have HWk := Lib.hid hw
    have HBit := Lib.hid hbit
    have hPl : s.P.length ≤ 64 := by rw [hw.dp]; have := hw.dl; have := hw.size; omega
    have cu := hu.cell 0
    have c5 := m5.cell 0
    simp only [List.getElem?_toArray, List.getElem?_cons_zero] at cu c5
    have XO := Lib.hid (hown.alloc (.cells #[.int .i64 (s.c : Int)] 3))
    have XN := Lib.hid (cell_one_new W (.int .i64 (s.c : Int)) 3)
    have XL := Lib.hid (show w3.heap.size ≤ (W.alloc (.cells #[.int .i64 (s.c : Int)] 3)).heap.size by simp; omega)
    have a1 : s.P.length + 1 ≤ maxLen := by unfold maxLen; omega
    have a2 : (s.P.length + 1) * 8 ≤ 140737488355328 := by omega
    clear hbx hrow hu hown m0 m1 m5 hb hw hbit h3s
    gi_wp2_with (gi_at_builtin; refine wpListIn_append_own _ rfl _ _ 106 rfl w3.heap.size 3 i0 (.int .i64 0) 1 8 Tryz.underlying106 hi hz0 hz1 hz2 rfl (by decide) _ _ _ rfl XO.out ⟨W.heap.size, 0, none⟩ 1 1 [.int .i64 (s.c : Int)] rfl rfl (cell_one_new _ _ _) (by simp [Value.oneCell']) a1 a2 XL.out ?_; intro v' w5 hown' hgrow _; obtain ⟨g', cap', rfl⟩ := ownsRow_succ hown'; have HO5 := Lib.hid hown'; have HG5 := Lib.hid hgrow; have BU := Lib.hid ((HU.out.alloc (.cells #[.int .i64 (s.c : Int)] 3)).grown hgrow (own_ne HO.out HU.out (by decide))); have B5 := Lib.hid ((M5.out.alloc (.cells #[.int .i64 (s.c : Int)] 3)).grown hgrow (own_ne HO.out M5.out (by decide))); clear hown' hgrow; have cu5 := BU.out.cell 0; have cf5 := BU.out.free 0; have c55 := B5.out.cell 0; simp only [List.getElem?_toArray, List.getElem?_cons_zero] at cu5 c55)
    obtain ⟨g, cap, hv, hgb, hgl, hcap, hcm⟩ := HRW.out.form (by omega)
    subst hv
    have hko := Lib.hid (ko_grown HO.out HG5.out)
    have h3s := HS3.out
    have hgx := hblk.out g rfl
    have C0 := Lib.hid ((M0.out.alloc (.cells #[.int .i64 (s.c : Int)] 3)).grown HG5.out (own_ne HO.out M0.out (by decide)))
    have C1 := Lib.hid ((M1.out.alloc (.cells #[.int .i64 (s.c : Int)] 3)).grown HG5.out (own_ne HO.out M1.out (by decide)))
    have CX := Lib.hid ((HBX.out.alloc (.cells #[.int .i64 (s.c : Int)] 3)).grown HG5.out (own_ne HO.out HBX.out (by decide)))
    have CR := Lib.hid ((HRW.out.below ((Below.refl _ _).alloc (Nat.le_refl _) (.cells #[.int .i64 (s.c : Int)] 3))).grown (HO.out.alloc (.cells #[.int .i64 (s.c : Int)] 3)) (by decide) (by decide) HG5.out)
    have CB := Lib.hid (Below.grown (HBw.out.alloc HBw.out.size (.cells #[.int .i64 (s.c : Int)] 3)) HG5.out (HBw.out.alloc HBw.out.size (.cells #[.int .i64 (s.c : Int)] 3)).size (fun k hk => by have := (HO.out.lt k hk).1; have := HB.out.size; omega))
    have hsz5 : w3.heap.size ≤ w5.heap.size := by have := HG5.out.size; simp at this; omega
    have np : ∀ k : Nat, k < x2.heap.size + 1 → k ≠ x2.heap.size + 1 := fun k hk => by omega
    have D0 := Lib.hid (C0.out.far (p := ⟨x2.heap.size + 1, 0, none⟩) (np _ (by omega)) (.slice (some ⟨g', 0, none⟩) (s.P.length + 1) cap'))
    have D1 := Lib.hid (C1.out.far (p := ⟨x2.heap.size + 1, 0, none⟩) (np _ (by omega)) (.slice (some ⟨g', 0, none⟩) (s.P.length + 1) cap'))
    have D5 := Lib.hid (B5.out.far (p := ⟨x2.heap.size + 1, 0, none⟩) (np _ (by omega)) (.slice (some ⟨g', 0, none⟩) (s.P.length + 1) cap'))
    have DX := Lib.hid (CX.out.far (p := ⟨x2.heap.size + 1, 0, none⟩) (np _ (by omega)) (.slice (some ⟨g', 0, none⟩) (s.P.length + 1) cap'))
    have DU := Lib.hid (BU.out.put 0 (.slice (some ⟨g', 0, none⟩) (s.P.length + 1) cap'))
    have DR := Lib.hid (CR.out.far BU.out (by decide) (by decide) 0 (.slice (some ⟨g', 0, none⟩) (s.P.length + 1) cap'))
    have DB := Lib.hid (CB.out.setCell (p := ⟨x2.heap.size + 1, 0, none⟩) (by show w.heap.size ≤ x2.heap.size + 1; omega) (.slice (some ⟨g', 0, none⟩) (s.P.length + 1) cap'))
    have hne' := Lib.hid (own_ne HO5.out BU.out (by decide))
    have DO := Lib.hid (World.ownsRow.kept HO5.out (gk_set w5 (x2.heap.size + 1) 0 (.slice (some ⟨g', 0, none⟩) (s.P.length + 1) cap')) (.inr hne'.out))
    have hko2 := Lib.hid (hko.out.trans (KeepsOthers.setCell w5 ⟨x2.heap.size + 1, 0, none⟩ (.slice (some ⟨g', 0, none⟩) (s.P.length + 1) cap')))
    have hsz6 : w3.heap.size ≤ (w5.setCell ⟨x2.heap.size + 1, 0, none⟩ (.slice (some ⟨g', 0, none⟩) (s.P.length + 1) cap')).heap.size := by simpa [World.setCell] using hsz5
    clear HO5 HG5 BU B5 C0 C1 CX CR CB hko hne' np cu c5 cu5 cf5 c55 XO XN XL
    generalize w5.setCell ⟨x2.heap.size + 1, 0, none⟩ (.slice (some ⟨g', 0, none⟩) (s.P.length + 1) cap') = w6 at *
    have c6 := D5.out.cell 0
    simp only [List.getElem?_toArray, List.getElem?_cons_zero] at c6
    have hL6 : s.L.length ≤ 64 := by have := HWk.out.size; omega
    gi_wp2_with fail
    refine ⟨trivial, (CallsIn.inRound l (callsIn_wide.2 (clear_any N (by omega) s.L (work_lt HWk.out hL) hL6 (x1.heap.size + 2) (x1.heap.size + 1) g cap s.d s.c hd hcN (by omega) _ DX.out DR.out (by omega)))).mono ?_⟩
    rintro e w7 ⟨⟨v7, rfl⟩, k1, k2, k3⟩
    have K1 := Lib.hid k1
    have K2 := Lib.hid k2
    have K3 := Lib.hid k3
    clear k1 k2 k3 c6
    gi_wp2_with fail
    obtain ⟨cur, hcur⟩ := (DR.out.block rfl).2.2
    have hER : EchR w N A L.length c (x1.heap.size + 1) x2.heap.size w3.heap.size (s.P ++ [s.c]) w6 := ⟨⟨_, DU.out, by rw [List.length_append, List.map_append]; exact DO.out⟩, D0.out, D1.out, D5.out, DB.out, hsz6⟩
    exact ⟨hko2.out.trans (ko_gk hcur K3.out), work_clear HWk.out hd HBit.out, K1.out, K2.out, hER.gk g K3.out (by omega) (by omega) (by omega)⟩
  case done =>
    intro D s W hD hf hI hK
    obtain ⟨hw, hbx, hrow, ⟨u, hu, hown⟩, m0, m1, m5, hb, hsz⟩ := hI
    have HWk := Lib.hid hw
    have HBX := Lib.hid hbx
    have HRW := Lib.hid hrow
    have HU := Lib.hid hu
    have HO := Lib.hid hown
    have M0 := Lib.hid m0
    have M1 := Lib.hid m1
    have M5 := Lib.hid m5
    have HBw := Lib.hid hb
    have HF := Lib.hid hf
    have hdl := hw.dl
    have hls := hw.size
    obtain ⟨B, kc, hub, hkcap⟩ : ∃ B kc, u = .slice B s.P.length kc ∧ s.P.length ≤ kc := by
      rcases hown.2 with ⟨hv', hz⟩ | ⟨g, cap, cur, hv', -, -, hc1, -⟩
      · exact ⟨none, 0, by rw [hv', hz], by omega⟩
      · exact ⟨_, cap, hv', hc1⟩
    rw [hw.dp] at hkcap
    obtain ⟨A0, c0, hvv, hcc, hcm⟩ : ∃ A0 c0, v = .slice A0 s.L.length c0 ∧ s.L.length ≤ c0 ∧ c0 ≤ maxLen := by
      obtain ⟨rs, h1, h2, -⟩ := hrow
      rw [mkM_len] at h2
      rcases h2.2 with ⟨hv', hz⟩ | ⟨g, cap, cur, hv', -, -, hc1, hc2, -⟩
      · exact ⟨none, 0, by rw [hv', hz], by omega, Nat.zero_le _⟩
      · exact ⟨_, cap, hv', hc1, hc2⟩
    have HVV := Lib.hid hvv
    subst hvv hub
    unfold maxLen at hcm
    obtain ⟨p0, p1, -, -⟩ := m0.two
    obtain ⟨q0, q1, qf0, qf1⟩ := m1.two
    obtain ⟨b0, b1, b2, -, -, -⟩ := hbx.three
    have c5 := m5.cell 0
    have cu := hu.cell 0
    simp only [List.getElem?_toArray, List.getElem?_cons_zero] at c5 cu
    have g1 : (s.d : Int) ≤ c0 := by omega
    have g2 : s.d ≤ c0 := by omega
    have hWs : x2.heap.size + 1 < W.heap.size := hu.lt
    clear hw hbx hrow hu hown m0 m1 m5 hb hf
    gi_wp2
    have hDb : w.heap.size + 1 < D := by have := HS3.out; omega
    have hw39 : w.heap.size ≤ w3.heap.size := HB.out.size
    clear HS3 hblk QW QR Q0 Q1 Q5 Q6 HB HM hlen hsz hD
    have n1 : ¬ x2.heap.size = w.heap.size + 1 := by omega
    have n2 : ¬ x1.heap.size = w.heap.size := by omega
    have n3 : ¬ x2.heap.size = w.heap.size := by omega
    have n4 : ¬ w.heap.size + 1 = x2.heap.size := by omega
    have n5 : ¬ w.heap.size = x1.heap.size := by omega
    have n6 : ¬ w.heap.size = x2.heap.size := by omega
    refine wpIn_wide.2 ?_
    go_region_held3 (fun w' => w'.cell? ⟨w.heap.size, 0, none⟩ = some (.int .i64 (N : Int)) ∧ w'.cell? ⟨x2.heap.size, 0, none⟩ = some (.pointer (some ⟨x1.heap.size + 1, 0, none⟩)) ∧ w'.cell? ⟨x1.heap.size + 1, 1, none⟩ = some (.slice A0 s.L.length c0) ∧ w'.cell? ⟨x1.heap.size + 1, 2, none⟩ = some (.int .i64 (s.d : Int)) ∧ w'.cell? ⟨x2.heap.size + 1, 0, none⟩ = some (.slice B s.P.length kc)) (go_keep) (fail)
    have HR1 := Lib.hid ((HRW.out.far M1.out (by decide) (by decide) 0 (.int .i64 (N : Int))).far (M1.out.put 0 (.int .i64 (N : Int))) (by decide) (by decide) 1 (.slice A0 s.d s.d)).drew
    have HP1 := Lib.hid (World.ownsRow.drew (own_far (own_far HO.out M1.out (by decide) 0 (.int .i64 (N : Int))) (M1.out.put 0 (.int .i64 (N : Int))) (by decide) 1 (.slice A0 s.d s.d)))
    have HX1 := Lib.hid (Box.drew (M1.out.put2 (u := .int .i64 (N : Int)) (v := .slice A0 s.d s.d)))
    have HB1 := Lib.hid (((HBw.out.setCell (p := ⟨w.heap.size + 1, 0, none⟩) (by simp) (.int .i64 (N : Int))).setCell (p := ⟨w.heap.size + 1, 1, none⟩) (by simp) (.slice A0 s.d s.d)).drew)
    have hDn : D ≠ w.heap.size + 1 := by omega
    have hDw : w.heap.size ≤ D := by omega
    have HK1 : ((W.setCell ⟨w.heap.size + 1, 0, none⟩ (.int .i64 (N : Int))).setCell ⟨w.heap.size + 1, 1, none⟩ (.slice A0 s.d s.d)).drew.heap[D]? = some (.deferred (some [])) := by
      show ((W.setCell ⟨w.heap.size + 1, 0, none⟩ (.int .i64 (N : Int))).setCell ⟨w.heap.size + 1, 1, none⟩ (.slice A0 s.d s.d)).heap[D]? = _
      rw [Below.heap_setCell _ _ _ _ hDn, Below.heap_setCell _ _ _ _ hDn]; exact hK
    generalize ((W.setCell ⟨w.heap.size + 1, 0, none⟩ (.int .i64 (N : Int))).setCell ⟨w.heap.size + 1, 1, none⟩ (.slice A0 s.d s.d)).drew = W7 at *
    gi_wp2
    refine ⟨by simp, .inl ⟨_, _, rfl, run_takeDeferred HK1, ?_⟩⟩
    have hgb := fun o' => grownBy_putObj' W7 D o'
    have hkc := fun o' => kc_grown (hgb o') (fun r e => by cases e; exact ⟨_, HK1, rfl⟩)
    refine ⟨_, results_cell2 Tryz.results145 rfl rfl rfl (box_kc HX1.out (hkc _)) Tryz.underlying102 rfl (by kernel_rfl), ?_⟩
    have hMl : (s.L.take s.d).length = s.d := wk_len HWk.out
    have hPd : s.P.length = s.d := HWk.out.dp
    have hwk : Work L s.L s.d N s.P := HF.out ▸ HWk.out
    obtain ⟨f1, f2⟩ := work_end hwk hL
    obtain ⟨A9, c9, e9, -, hmat⟩ := RowsW.mat (HR1.out.kc (hkc (.deferred none))) (mkM_lt N s.L)
    rw [mkM_len] at e9 hmat
    injection e9 with e91 e92 e93
    subst e91
    have hm9 := (hmat.take s.d (by have := hwk.dl; omega)).low (l2 := w.heap.size) (by omega)
    rw [show (mkM N s.L).take s.d = mkM N (s.L.take s.d) from List.map_take.symm] at hm9
    have hp9 := own_kc HP1.out (hkc (.deferred none))
    rw [hPd] at hp9
    have hlo9 : ∀ b o, B = some ⟨b, o, none⟩ → w.heap.size ≤ b := fun b o hbo => by have := (hp9.lt b (by rw [hbo]; rfl)).1; omega
    have hi9 := own_ints (zs := s.P.map fun x : Nat => (x : Int)) (by rw [List.map_map]; exact hp9) (num_bd hwk hN)
    have e1 : Value.slice B s.P.length kc = Value.slice B s.d kc := by rw [hPd]
    refine ⟨s.L.take s.d, s.P, A0, B, kc, ?_, f1, f2, by rw [hMl]; exact hm9, by rw [hMl]; exact hi9, by rw [hMl]; exact hkcap, ⟨_, by rw [hMl]; exact hp9⟩, HB1.out.grown (hgb _) HB1.out.size (fun k e => by cases e; exact hDw)⟩
    rw [hMl, ← e1]
    rfl
end
section
/- Layer 4: Echelon, Rank, whole. -/
set_option linter.unusedVariables false
set_option linter.unusedSimpArgs false
open Go.RowKit
set_option maxRecDepth 100000
theorem ech_yes (N : Nat) (hN : N ≤ 64) (L : List Nat) (hL : ∀ r ∈ L, r < 2 ^ N) (hlen : L.length ≤ 64) (A : Option Addr) (c lo : Nat) (w : World) (hm : MatAt w lo A L.length (mkM N L)) (hr : rightM N (mkM N L) = true) :
    Calls Tryz.prog 145 #[.agg #[.int .i64 (N : Int), .slice A L.length c]] w (EchOut N L w) := (callsIn_wide.1 (echelon_in N hN L hL hlen A c lo w hm hr)).mono fun _ _ h => h.one
theorem ech_two (N : Nat) (hN : N ≤ 64) (L : List Nat) (hL : ∀ r ∈ L, r < 2 ^ N) (hlen : L.length ≤ 64) (A : Option Addr) (c lo : Nat) (w : World) (hm : MatAt w lo A L.length (mkM N L)) (hr : rightM N (mkM N L) = true) :
    Calls Tryz.prog 145 #[.agg #[.int .i64 (N : Int), .slice A L.length c]] w (EchOut2 N L w) := callsIn_wide.1 (echelon_in N hN L hL hlen A c lo w hm hr)
/-- How many rows a matrix reduced has. -/
def RankOut (L : List Nat) (w : World) (e : Ending) (w' : World) : Prop := ∃ M P, Rref M P ∧ SameSp L M ∧ e = .returned (.tuple #[.int .i64 (M.length : Nat), .int .i64 0]) ∧ Below w.heap.size w w'
theorem rank_yes (N : Nat) (hN : N ≤ 64) (L : List Nat) (hL : ∀ r ∈ L, r < 2 ^ N) (hlen : L.length ≤ 64) (A : Option Addr) (c lo : Nat) (w : World) (hm : MatAt w lo A L.length (mkM N L)) (hr : rightM N (mkM N L) = true) :
    Calls Tryz.prog 133 #[.agg #[.int .i64 (N : Int), .slice A L.length c]] w (RankOut L w) := by
  have b1 : Below w.heap.size w (w.alloc (.cells #[.int .i64 (N : Int), .slice A L.length c] 102)) := (Below.refl _ _).alloc (Nat.le_refl _) _
  have Q0 := Lib.hid (Box.new w 102 #[.int .i64 (N : Int), .slice A L.length c])
  have HB := Lib.hid b1
  have HE := Lib.hid (ech_yes N hN L hL hlen A c lo _ (hm.below b1) hr)
  clear b1 hm hr
  obtain ⟨r0, r1, -, -⟩ := Q0.out.two
  go_enter Tryz.func133, Tryz.ntmps133
  go_wp2_with fail
  refine HE.out.mono ?_
  rintro e x1 ⟨M, P, A1, B1, k, rfl, h1, h2, h3, h4, h5, hb⟩
  have H1 := Lib.hid h1
  have H2 := Lib.hid h2
  have HB := Lib.hid (chain HB.out hb)
  clear h1 h2 h3 h4 h5 hb r0 r1
  go_wp2_with fail
  go_ret2
  exact ⟨M, P, H1.out, H2.out, rfl, HB.out.alloc HB.out.size _⟩
end
section
/- Law 04's alive. -/
set_option linter.unusedVariables false
set_option linter.unusedSimpArgs false
open Go.RowKit
set_option maxRecDepth 100000
end
section
/- Contract of law 04's few: a matrix of at most 66 rows, of three words each. -/
set_option linter.unusedVariables false
set_option linter.unusedSimpArgs false
open Go.RowKit
end
section
/- Rows in another order, with the xor of two of them more, span the same. -/
set_option linter.unusedVariables false
set_option linter.unusedSimpArgs false
open Go.RowKit
theorem right_mk (n : Nat) (hn : n ≤ 64) (L : List Nat) (hl : L.length ≤ 64) (h : ∀ r ∈ L, r < 2 ^ n) : rightM n (mkM n L) = true := by
  have h1 : smb (n : Int) = true := (smb_iff _).2 ⟨by omega, by omega⟩
  have h2 : rowsB (n : Int) (mkM n L) = true := List.all_eq_true.2 fun r hr => by
    obtain ⟨x, hx, rfl⟩ := List.mem_map.1 hr
    simp [mkR, rowOf_right n x (by omega) (h x hx)]
  simp [rightM, h1, h2, mkM_len, hl]
end
section
/- ReduceUnique: the walk. -/
set_option linter.unusedVariables false
set_option linter.unusedSimpArgs false
open Go.RowKit
theorem rank_le {L M P : List Nat} (h1 : Rref M P) (h2 : SameSp L M) : M.length ≤ L.length := by
  obtain ⟨M', P', a, b, c⟩ := rref_exists L
  rw [(rref_uniq h1 a (h2.symm.trans b)).1]; exact c
set_option maxRecDepth 100000
end
section
/- Contracts of layer 4's reference: First. -/
set_option linter.unusedVariables false
set_option linter.unusedSimpArgs false
open Go.RowKit
set_option maxRecDepth 100000
theorem rbit_any (N x p : Nat) (hN : N ≤ 512) (A : Option Addr) (l c : Nat) (hp : p < N) (w : World) (hw : Words w A l (rowOf N x)) :
    Calls Tryz.prog 120 #[.agg #[.int .i64 (N : Int), .slice A l c], .int .i64 (p : Int)] w fun e w' => e = .returned (.int .i64 (if x.testBit p then 1 else 0)) ∧ Below w.heap.size w w' := by
  have hl : l = nw N := by rw [← rowOf_len N x]; exact hw.1.symm
  have h := bit_any (N : Int) A l c p (rowOf N x) w hw (by rw [hl]; unfold nw; omega) (by rw [hl]; unfold nw; omega)
  rw [rowOf_bitN N x p hp] at h
  refine h.mono ?_
  rintro e w' ⟨rfl, hb⟩
  exact ⟨by split <;> rfl, hb⟩
theorem first_any (N x : Nat) (hN : N ≤ 512) (hx : x < 2 ^ N) (A : Option Addr) (l c : Nat) (w : World) (hw : Words w A l (rowOf N x)) :
    Calls Tryz.prog 97 #[.agg #[.int .i64 (N : Int), .slice A l c]] w fun e w' => ((∃ p : Nat, IsLow x p ∧ e = .returned (.int .i64 (p : Int))) ∨ (x = 0 ∧ e = .returned (.int .i64 (-1)))) ∧ Below w.heap.size w w' := by
  have hW : Below w.heap.size w (w.alloc (.cells #[.int .i64 N, .slice A l c] 139)) := (Below.refl _ _).alloc (Nat.le_refl _) _
  have Q := Lib.hid (Box.new w 139 #[.int .i64 (N : Int), .slice A l c])
  have HWd := Lib.hid (hw.below hW)
  have HW := Lib.hid hW
  have HX := Lib.hid hx
  clear hw hW hx
  obtain ⟨q0, q1, -, -⟩ := Q.out.two
  go_enter Tryz.func97, Tryz.ntmps97
  go_wp2
  clear q0 q1
  go_loopw [3] (fun t wr => ∃ i : Nat, i ≤ N ∧ t = .int .i64 (i : Int) ∧ Hid (∀ j, j < i → x.testBit j = false) ∧ Hid (Below w.heap.size w wr) ∧ Hid (Box wr w.heap.size 139 #[.int .i64 (N : Int), .slice A l c]) ∧ Hid (Words wr A l (rowOf N x))) (fun t _ => N - (intOf t).toNat)
  case atStart => exact ⟨0, Nat.zero_le _, rfl, Lib.hid (fun j hj => absurd hj (Nat.not_lt_zero _)), HW, Q, HWd⟩
  case round =>
    obtain ⟨i, hi, rfl, HF, HB, HQ, HWr⟩ := hrel
    obtain ⟨q0, q1, -, -⟩ := HQ.out.two
    by_cases hlt : i < N
    · have hlt' : (i : Int) < (N : Int) := by omega
      have HC := Lib.hid (rbit_any N x i hN A l c hlt _ HWr.out)
      cases hb : x.testBit i with
      | true =>
        rw [hb] at HC
        have HL := Lib.hid (show IsLow x i from ⟨hb, HF.out⟩)
        clear hb
        go_wp2_with fail
        refine HC.out.mono ?_
        rintro e w1 ⟨rfl, hb⟩
        have B := Lib.hid (HB.out.trans (hb.mono HB.out.size))
        clear hb
        go_wp2_with fail
        go_ret
        exact ⟨.inl ⟨i, HL.out, rfl⟩, B.out⟩
      | false =>
        rw [hb] at HC
        have HF2 := Lib.hid (show ∀ j, j < i + 1 → x.testBit j = false from fun j hj => by
          by_cases h : j < i
          · exact HF.out j h
          · obtain rfl : j = i := by omega
            exact hb)
        clear hb
        go_wp2_with fail
        refine HC.out.mono ?_
        rintro e w1 ⟨rfl, hb⟩
        have B := Lib.hid (HB.out.trans (hb.mono HB.out.size))
        have Q2 := Lib.hid (HQ.out.keep hb)
        have W2 := Lib.hid (HWr.out.below hb)
        clear hb q0 q1
        obtain ⟨q0, q1, -, -⟩ := Q2.out.two
        go_wp2_with fail
        go_roundw
        case rel => exact ⟨i + 1, by omega, by go_num, HF2, B, Q2, W2⟩
        case measure => simp [intOf]; omega
    · obtain rfl : i = N := by omega
      have hlt' : ¬ (i : Int) < (i : Int) := by omega
      have HZ := Lib.hid (show x = 0 from Nat.eq_of_testBit_eq fun j => by
        rw [Nat.zero_testBit]
        by_cases h : j < i
        · exact HF.out j h
        · exact Nat.testBit_lt_two_pow (Nat.lt_of_lt_of_le HX.out (Nat.pow_le_pow_right (by omega) (by omega))))
      go_wp2_with fail
      go_ret
      exact ⟨.inr ⟨HZ.out, rfl⟩, HB.out⟩
end
section
/- The reference's Xor: rows of the call's own. -/
set_option linter.unusedVariables false
set_option linter.unusedSimpArgs false
open Go.RowKit
set_option maxRecDepth 100000
set_option maxHeartbeats 2000000 in
theorem refXor_own (n : Nat) (A B : Option Addr) (l c k d : Nat) (us vs : List Nat) (w : World) (hu : Words w A l us) (hv : Words w B k vs) (h1 : rightB n us = true) (h2 : rightB n vs = true) :
    Calls Tryz.prog 121 #[.agg #[.int .i64 n, .slice A l c], .agg #[.int .i64 n, .slice B k d]] w (OneOwn n (xorL us vs) w) := by
  obtain ⟨i0, hi, hz0, hz1, hz2⟩ := info_parts int_info
  have hn := (lmb_iff n).1 (right_lmb h1)
  have q0 := ((Box.new w 139 #[.int .i64 n, .slice A l c]).alloc (.cells #[.int .i64 n, .slice B k d] 139)).alloc (.cells #[.int .i64 0, .slice none 0 0] 139)
  have q1 := (Box.new (w.alloc (.cells #[.int .i64 n, .slice A l c] 139)) 139 #[.int .i64 n, .slice B k d]).alloc (.cells #[.int .i64 0, .slice none 0 0] 139)
  have q2 := Box.new ((w.alloc (.cells #[.int .i64 n, .slice A l c] 139)).alloc (.cells #[.int .i64 n, .slice B k d] 139)) 139 #[.int .i64 0, .slice none 0 0]
  have hW : Below w.heap.size w (((w.alloc (.cells #[.int .i64 n, .slice A l c] 139)).alloc (.cells #[.int .i64 n, .slice B k d] 139)).alloc (.cells #[.int .i64 0, .slice none 0 0] 139)) := (((Below.refl _ _).alloc (Nat.le_refl _) _).alloc (by simp) _).alloc (by simp; omega) _
  simp only [World.size_alloc] at q1 q2
  go_enter Tryz.func121, Tryz.ntmps121
  go_wp2
  have hz := q2.lt
  have how := (own_empty (((w.alloc (.cells #[.int .i64 n, .slice A l c] 139)).alloc (.cells #[.int .i64 n, .slice B k d] 139)).alloc (.cells #[.int .i64 0, .slice none 0 0] 139)) w.heap.size 3 hW.size)
  simp only [World.size_alloc] at how
  have HOw := Lib.hid how
  clear how
  have Q0 := Lib.hid (q0.alloc (.cells #[] 3))
  have Q1 := Lib.hid (q1.alloc (.cells #[] 3))
  have Q2 := Lib.hid (q2.alloc (.cells #[] 3))
  have HW := Lib.hid (hW.alloc hW.size (.cells #[] 3))
  have HU := Lib.hid hu
  have HV := Lib.hid hv
  have HR1 := Lib.hid h1
  have HR2 := Lib.hid h2
  have hl8 := rightB_len8 h1 hu.1
  have hl := right_len_eq h1
  rw [hu.1, Int.toNat_natCast] at hl
  have hk := right_len_eq h2
  rw [hv.1, Int.toNat_natCast] at hk
  have hn64 : n ≤ 64 * l := by rw [hl]; unfold nw; omega
  have hn64' : n ≤ 64 * k := by rw [hk]; unfold nw; omega
  have hk8 := rightB_len8 h2 hv.1
  clear q0 q1 q2 hW hu hv h1 h2 hz hl hk
  have HI := Lib.hid hi
  have HZ0 := Lib.hid hz0
  have HZ1 := Lib.hid hz1
  have HZ2 := Lib.hid hz2
  clear hi hz0 hz1 hz2
  go_loopw [5, 6] (fun v t wr => ∃ i : Nat, i ≤ n ∧ t = .int .i64 i ∧ wr.ownsRow w.heap.size 3 1 v i ((bitSums (fun x y => (x + y) % 2) us vs i).map (Value.int .i64)) ∧ Box wr w.heap.size 139 #[.int .i64 n, .slice A l c] ∧ Box wr (w.heap.size + 1) 139 #[.int .i64 n, .slice B k d] ∧ Box wr (w.heap.size + 1 + 1) 139 #[.int .i64 0, .slice none 0 0] ∧ Below w.heap.size w wr)
    (fun _ t _ => n - (intOf t).toNat)
  case atStart => exact ⟨0, by omega, rfl, HOw.out, Q0.out, Q1.out, Q2.out, HW.out⟩
  case round =>
    obtain ⟨i, hi, rfl, hown, B0, B1, B2, hbel⟩ := hrel
    have R0 := Lib.hid B0
    have R1 := Lib.hid B1
    have R2 := Lib.hid B2
    have HO := Lib.hid hown
    have HB := Lib.hid hbel
    clear B0 B1 B2 hown hbel Q0 Q1 Q2 HW HOw
    obtain ⟨a0, a1, -, -⟩ := R0.out.two
    obtain ⟨b0, b1, -, -⟩ := R1.out.two
    by_cases hlt : i < n
    · have hlt' : (i : Int) < (n : Int) := by omega
      have bu := bitAt_le us i
      have bv := bitAt_le vs i
      have hi' := HI.out
      have hz0' := HZ0.out
      have hz1' := HZ1.out
      have hz2' := HZ2.out
      have hz := R2.out.lt
      have hne := Lib.hid (show (3 : TypeId) ≠ 139 by decide)
      generalize hX : bitAt us i = x at *
      generalize hY : bitAt vs i = y at *
      have HX := Lib.hid hX
      have HY := Lib.hid hY
      clear hX hY
      have hxy : (x : Int) + y ≤ 2 := by omega
      have hxy0 : 0 ≤ (x : Int) + y := by omega
      have f1 : IntKind.i64.wrap ((x : Int) + y) = (x : Int) + y := IntWalk.i64_in _ (by omega)
      have f2 : ((x : Int) + y).tmod 2 = (((x + y) % 2 : Nat) : Int) := by rw [Int.tmod_eq_emod_of_nonneg (by omega)]; omega
      have HC1 := Lib.hid (fun (W : World) (h : Words W A l us) => bit_any n A l c i us W h (by omega) (by omega))
      have HC2 := Lib.hid (fun (W : World) (h : Words W B k vs) => bit_any n B k d i vs W h (by omega) (by omega))
      rw [HX.out] at HC1
      rw [HY.out] at HC2
      go_wp2
      go_region_held3 (fun w' => w'.cell? ⟨w.heap.size, 0, none⟩ = some (.int .i64 n) ∧ w'.cell? ⟨w.heap.size, 1, none⟩ = some (.slice A l c) ∧ w'.cell? ⟨w.heap.size + 1, 0, none⟩ = some (.int .i64 n) ∧ w'.cell? ⟨w.heap.size + 1, 1, none⟩ = some (.slice B k d))
        (go_keep)
        (first
          | (go_at_call_of 120 (Value.agg #[.int .i64 n, .slice A l c]); refine (HC1.out _ (HU.out.below HB.out).drew).mono ?_; rintro e1 x1 ⟨rfl, hb1⟩; have P0 := Lib.hid (R0.out.drew.keep hb1); have P1 := Lib.hid (R1.out.drew.keep hb1); have P2 := Lib.hid (R2.out.drew.keep hb1); have O1 := Lib.hid (own_keep HO.out.drew hb1); have T1 := Lib.hid (chain HB.out.drew hb1); clear hb1; obtain ⟨k0, k1, -, -⟩ := P0.out.two; obtain ⟨k2, k3, -, -⟩ := P1.out.two)
          | (go_at_call_of 120 (Value.agg #[.int .i64 n, .slice B k d]); refine (HC2.out _ (HV.out.below T1.out)).mono ?_; rintro e2 x2 ⟨rfl, hb2⟩; have S0 := Lib.hid (P0.out.keep hb2); have S1 := Lib.hid (P1.out.keep hb2); have S2 := Lib.hid (P2.out.keep hb2); have O2 := Lib.hid (own_keep O1.out hb2); have T2 := Lib.hid (chain T1.out hb2); clear hb2; obtain ⟨m0, m1, -, -⟩ := S0.out.two; obtain ⟨m2, m3, -, -⟩ := S1.out.two; have X0 := Lib.hid (S0.out.alloc (.cells #[.int .i64 (((x + y) % 2 : Nat) : Int)] 3)); have X1 := Lib.hid (S1.out.alloc (.cells #[.int .i64 (((x + y) % 2 : Nat) : Int)] 3)); have X2 := Lib.hid (S2.out.alloc (.cells #[.int .i64 (((x + y) % 2 : Nat) : Int)] 3)); have XO := Lib.hid (O2.out.alloc (.cells #[.int .i64 (((x + y) % 2 : Nat) : Int)] 3)); have XB := Lib.hid (T2.out.alloc T2.out.size (.cells #[.int .i64 (((x + y) % 2 : Nat) : Int)] 3)); have N0 := Lib.hid (own_ne XO.out X0.out hne.out); have N1 := Lib.hid (own_ne XO.out X1.out hne.out); have N2 := Lib.hid (own_ne XO.out X2.out hne.out); have N3 := Lib.hid (fun k hk => (O2.out.lt k hk).1))
          | (refine step_append_lies _ (by rfl) _ _ _ (by rfl) w.heap.size 3 i0 _ 1 8 Tryz.underlying106 hi' hz0' hz1' hz2' rfl (by omega) _ _ _ (by rfl) XO.out ⟨x2.heap.size, 0, none⟩ 1 1 [.int .i64 (((x + y) % 2 : Nat) : Int)] (by rfl) (by rfl) (cell_one_new _ _ _) (by simp [Value.oneCell']) (by omega) (by simp [maxLen]; omega) (by omega) XB.out.size (x2.heap.size + 1) (by simp) ?_; intro gg cap w1 hown1 hgrow hat hlg; have Y0 := Lib.hid (X0.out.grown hgrow N0.out); have Y1 := Lib.hid (X1.out.grown hgrow N1.out); have Y2 := Lib.hid (X2.out.grown hgrow N2.out); have YB := Lib.hid (XB.out.grown hgrow XB.out.size N3.out); have YO := Lib.hid hown1; clear hgrow hat hown1; obtain ⟨p0, p1, -, -⟩ := Y0.out.two; obtain ⟨p2, p3, -, -⟩ := Y1.out.two))
      clear p0 p1 p2 p3 m0 m1 m2 m3 k0 k1 k2 k3 a0 a1 b0 b1 f1 f2 hi' hz0' hz1' hz2'
      go_wp2
      go_roundw
      case rel =>
        refine ⟨i + 1, by omega, by go_num, ?_, Y0.out, Y1.out, Y2.out, YB.out⟩
        have h := YO.out
        rw [bitSums_succ, List.map_append, HX.out, HY.out]
        exact h
      case measure => simp [intOf] <;> omega
    · obtain rfl : i = n := by omega
      have hlt' : ¬ (i : Int) < (i : Int) := by omega
      obtain ⟨A', c', rfl, hA'⟩ := own_form HO.out
      go_wp2_with fail
      refine (from_own A' i c' _ _ (own_ints HO.out (bitSums_lt us vs i)) (by omega)).mono ?_
      rintro e x1 ⟨A1, l1, c1, rfl, hw, hb⟩
      have P2 := Lib.hid (R2.out.keep hb)
      have T1 := Lib.hid (chain HB.out hb)
      have HWo := Lib.hid hw
      clear hw hb a0 a1 b0 b1
      obtain ⟨r0, r1, r2, r3⟩ := P2.out.two
      go_wp2
      refine close_one Tryz.results121 rfl rfl P2.out.put2 Tryz.underlying139 rfl (by kernel_rfl) ⟨_, _, _, rfl, ?_, ?_⟩
      · have h := HWo.out
        rw [from_xor i us vs HR1.out HR2.out HU.out.2.1 HV.out.2.1] at h
        exact h.put2 P2.out _ _
      · exact (T1.out.setCell (p := ⟨w.heap.size + 1 + 1, 0, none⟩) (by simp; omega) _).setCell (p := ⟨w.heap.size + 1 + 1, 1, none⟩) (by simp; omega) _

theorem refXor_num (N x y : Nat) (hN : N ≤ 512) (hx : x < 2 ^ N) (hy : y < 2 ^ N) (A B : Option Addr) (l c k d : Nat) (w : World) (hu : Words w A l (rowOf N x)) (hv : Words w B k (rowOf N y)) :
    Calls Tryz.prog 121 #[.agg #[.int .i64 (N : Int), .slice A l c], .agg #[.int .i64 (N : Int), .slice B k d]] w (OneOwn N (rowOf N (x ^^^ y)) w) := by
  have h := refXor_own N A B l c k d (rowOf N x) (rowOf N y) w hu hv (rowOf_right N x hN hx) (rowOf_right N y hN hy)
  rw [rowOf_xor] at h
  exact h
end
section
/- The reference's Left. -/
set_option linter.unusedVariables false
set_option linter.unusedSimpArgs false
open Go.RowKit
set_option maxRecDepth 100000
theorem first_low (N x p : Nat) (hN : N ≤ 512) (hx : x < 2 ^ N) (hp : IsLow x p) (A : Option Addr) (l c : Nat) (w : World) (hw : Words w A l (rowOf N x)) :
    Calls Tryz.prog 97 #[.agg #[.int .i64 (N : Int), .slice A l c]] w fun e w' => e = .returned (.int .i64 (p : Int)) ∧ Below w.heap.size w w' := by
  refine (first_any N x hN hx A l c w hw).mono ?_
  rintro e w' ⟨⟨q, hq, rfl⟩ | ⟨rfl, rfl⟩, hb⟩
  · rw [hq.uniq hp]; exact ⟨rfl, hb⟩
  · exact absurd hp.1 (by simp)
theorem low_lt {N x p : Nat} (hx : x < 2 ^ N) (hp : IsLow x p) : p < N := by
  apply Classical.byContradiction
  intro h
  have := Nat.testBit_lt_two_pow (Nat.lt_of_lt_of_le hx (Nat.pow_le_pow_right (by omega) (show N ≤ p by omega)))
  rw [hp.1] at this; cases this
theorem leftN_lt {N : Nat} {L P : List Nat} (hL : ∀ i, L.getD i 0 < 2 ^ N) (x : Nat) (hx : x < 2 ^ N) : ∀ k, leftN L P x k < 2 ^ N
  | 0 => hx
  | k + 1 => by
    unfold leftN
    split
    · exact Nat.xor_lt_two_pow (leftN_lt hL x hx k) (hL k)
    · exact leftN_lt hL x hx k
/-- What Left leaves: a row, its words anywhere. -/
def LeftOut (N z : Nat) (w : World) (e : Ending) (w' : World) : Prop :=
  ∃ A l c, e = .returned (.agg #[.int .i64 (N : Int), .slice A l c]) ∧ SliceOk A l c ∧ Words w' A l (rowOf N z) ∧ Below w.heap.size w w'
theorem left_any (N : Nat) (hN : N ≤ 512) (L P : List Nat) (hR : Rref L P) (hL : ∀ r ∈ L, r < 2 ^ N) (hlen : L.length ≤ 100) (x : Nat) (hx : x < 2 ^ N) (A B : Option Addr) (c l d lo : Nat) (w : World) (hm : MatAt w lo A L.length (mkM N L)) (hs : SliceOk B l d) (hw : Words w B l (rowOf N x)) :
    Calls Tryz.prog 96 #[.slice A L.length c, .agg #[.int .i64 (N : Int), .slice B l d]] w (LeftOut N (leftN L P x L.length) w) := by
  have hW : Below w.heap.size w (w.alloc (.cells #[.int .i64 N, .slice B l d] 139)) := (Below.refl _ _).alloc (Nat.le_refl _) _
  have Q := Lib.hid (Box.new w 139 #[.int .i64 (N : Int), .slice B l d])
  have HWd := Lib.hid (hw.below hW)
  have HW := Lib.hid hW
  have HX := Lib.hid hx
  have HM := Lib.hid hm
  have HS := Lib.hid hs
  have HLt := Lib.hid (lt_all hL)
  clear hw hW hx hm hs
  obtain ⟨q0, q1, -, -⟩ := Q.out.two
  go_enter Tryz.func96, Tryz.ntmps96
  have hW2 := (HW.out.alloc HW.out.size (.cells #[.int .i64 0, .slice none 0 0] 139))
  have Q0 := Lib.hid (Q.out.alloc (.cells #[.int .i64 0, .slice none 0 0] 139))
  have q1' := Box.new (w.alloc (.cells #[.int .i64 N, .slice B l d] 139)) 139 #[.int .i64 0, .slice none 0 0]
  simp only [World.size_alloc] at q1'
  have Q1 := Lib.hid q1'
  have HW0 := Lib.hid (HWd.out.alloc (.cells #[.int .i64 0, .slice none 0 0] 139))
  have HB0 := Lib.hid hW2
  clear hW2 q1'
  go_wp2_with fail
  clear q0 q1
  go_loopw [9] (fun t wr => ∃ (i : Nat) (B' : Option Addr) (l' d' : Nat), i ≤ L.length ∧ t = .int .i64 (i : Int) ∧ Hid (Box wr w.heap.size 139 #[.int .i64 (N : Int), .slice B' l' d']) ∧ Hid (Box wr (w.heap.size + 1) 139 #[.int .i64 0, .slice none 0 0]) ∧ Hid (SliceOk B' l' d') ∧ Hid (Words wr B' l' (rowOf N (leftN L P x i))) ∧ Hid (Below w.heap.size w wr)) (fun t _ => L.length - (intOf t).toNat)
  case atStart => exact ⟨0, B, l, d, Nat.zero_le _, rfl, Q0, Q1, HS, HW0, HB0⟩
  case round =>
    obtain ⟨i, B', l', d', hi, rfl, R0, R1, HS', HWr, HB⟩ := hrel
    clear Q0 Q1 HW0 HB0 HS HWd Q HW
    by_cases hlt : i < L.length
    · have hlt' : (i : Int) < (L.length : Int) := by omega
      obtain ⟨b, off, B1, l1, c1, rfl, hbl, x0, x1, hs, hw⟩ := (HM.out.mono (Nat.le_refl _) HB.out).at i hlt
      rw [mkM_at N L i hlt] at x0 hw
      simp only [mkR] at x0 hw
      have hal : Below wr.heap.size wr (wr.alloc (.cells #[.int .i64 (N : Int), .slice B1 l1 c1] 139)) := (Below.refl _ _).alloc (Nat.le_refl _) _
      have E := Lib.hid (Box.new wr 139 #[.int .i64 (N : Int), .slice B1 l1 c1])
      have R0 := Lib.hid (R0.out.keep hal)
      have R1 := Lib.hid (R1.out.keep hal)
      have HB := Lib.hid (chain HB.out hal)
      have HWx := Lib.hid (hw.below hal)
      have HWr := Lib.hid (HWr.out.below hal)
      have HLow := Lib.hid (hR.low i hlt)
      have HPN := Lib.hid (low_lt (HLt.out i) HLow.out)
      have HLv := Lib.hid (leftN_lt (P := P) HLt.out x HX.out i)
      have HFst := Lib.hid (fun w' (h : Words w' B1 l1 (rowOf N (L.getD i 0))) => first_low N _ _ hN (HLt.out i) HLow.out B1 l1 c1 w' h)
      have HBt := Lib.hid (fun w' (h : Words w' B' l' (rowOf N (leftN L P x i))) => rbit_any N _ _ hN B' l' d' HPN.out w' h)
      have DX := Lib.hid (HWx.out.drew)
      have DR := Lib.hid (HWr.out.drew)
      clear hal hw hs
      obtain ⟨e0, e1, -, -⟩ := E.out.two
      obtain ⟨r0, r1, rf0, rf1⟩ := R0.out.two
      cases hb : (leftN L P x i).testBit (P.getD i 0) with
      | true =>
        rw [hb] at HBt
        have HN := Lib.hid (show leftN L P x (i + 1) = leftN L P x i ^^^ L.getD i 0 by rw [leftN, if_pos hb])
        clear hb
        go_wp2_with fail
        go_region_held3 (fun w' => w'.cell? ⟨w.heap.size, 0, none⟩ = some (.int .i64 (N : Int)) ∧ w'.cell? ⟨w.heap.size, 1, none⟩ = some (.slice B' l' d') ∧ w'.cell? ⟨wr.heap.size, 0, none⟩ = some (.int .i64 (N : Int)) ∧ w'.cell? ⟨wr.heap.size, 1, none⟩ = some (.slice B1 l1 c1)) (go_keep)
          (first
            | (go_at_call 97; refine (HFst.out _ DX.out).mono ?_; rintro f1 y1 ⟨rfl, hb⟩; have R0a := Lib.hid (R0.out.drew.keep hb); have R1a := Lib.hid (R1.out.drew.keep hb); have Ea := Lib.hid (E.out.drew.keep hb); have HBa := Lib.hid (chainN HB.out.drew HB.out.size hb); have DXa := Lib.hid (DX.out.below hb); have DRa := Lib.hid (DR.out.below hb); clear hb; obtain ⟨s0, s1, -, -⟩ := R0a.out.two; obtain ⟨t0, t1, -, -⟩ := Ea.out.two)
            | (go_at_call 120; refine (HBt.out _ DRa.out).mono ?_; rintro f2 y2 ⟨rfl, hb⟩; have R0b := Lib.hid (R0a.out.keep hb); have R1b := Lib.hid (R1a.out.keep hb); have Eb := Lib.hid (Ea.out.keep hb); have HBb := Lib.hid (chainN HBa.out HBa.out.size hb); have DXb := Lib.hid (DXa.out.below hb); have DRb := Lib.hid (DRa.out.below hb); clear hb; obtain ⟨u0, u1, -, -⟩ := R0b.out.two; obtain ⟨v0, v1, -, -⟩ := Eb.out.two))
        clear s0 s1 t0 t1 r0 r1 e0 e1
        go_wp2_with fail
        refine (refXor_num N _ _ hN HLv.out (HLt.out i) B' B1 l' d' l1 c1 _ DRb.out DXb.out).mono ?_
        rw [← HN.out]
        rintro e y3 ⟨A3, l3, c3, rfl, ow, hb⟩
        have R0c := Lib.hid (R0b.out.keep hb)
        have R1c := Lib.hid (R1b.out.keep hb)
        have HBc := Lib.hid (chainN HBb.out HBb.out.size hb)
        have OW := Lib.hid ow
        clear hb ow u0 u1 v0 v1
        obtain ⟨u0, u1, uf0, uf1⟩ := R0c.out.two
        go_wp2_with fail
        go_roundw
        case rel => exact ⟨i + 1, A3, l3, c3, by omega, by go_num, Lib.hid R0c.out.put2, Lib.hid ((R1c.out.far (p := ⟨w.heap.size, 0, none⟩) (by simp) _).far (p := ⟨w.heap.size, 1, none⟩) (by simp) _), Lib.hid OW.out.ok, Lib.hid ((OW.out.words (rowOf_lt N _)).put2 R0c.out _ _), Lib.hid ((HBc.out.setCell (p := ⟨w.heap.size, 0, none⟩) (Nat.le_refl _) _).setCell (p := ⟨w.heap.size, 1, none⟩) (Nat.le_refl _) _)⟩
        case measure => simp [intOf] <;> omega
      | false =>
        rw [hb] at HBt
        have HN := Lib.hid (show leftN L P x (i + 1) = leftN L P x i by rw [leftN, hb]; rfl)
        clear hb
        go_wp2_with fail
        go_region_held3 (fun w' => w'.cell? ⟨w.heap.size, 0, none⟩ = some (.int .i64 (N : Int)) ∧ w'.cell? ⟨w.heap.size, 1, none⟩ = some (.slice B' l' d') ∧ w'.cell? ⟨wr.heap.size, 0, none⟩ = some (.int .i64 (N : Int)) ∧ w'.cell? ⟨wr.heap.size, 1, none⟩ = some (.slice B1 l1 c1)) (go_keep)
          (first
            | (go_at_call 97; refine (HFst.out _ DX.out).mono ?_; rintro f1 y1 ⟨rfl, hb⟩; have R0a := Lib.hid (R0.out.drew.keep hb); have R1a := Lib.hid (R1.out.drew.keep hb); have Ea := Lib.hid (E.out.drew.keep hb); have HBa := Lib.hid (chainN HB.out.drew HB.out.size hb); have DXa := Lib.hid (DX.out.below hb); have DRa := Lib.hid (DR.out.below hb); clear hb; obtain ⟨s0, s1, -, -⟩ := R0a.out.two; obtain ⟨t0, t1, -, -⟩ := Ea.out.two)
            | (go_at_call 120; refine (HBt.out _ DRa.out).mono ?_; rintro f2 y2 ⟨rfl, hb⟩; have R0b := Lib.hid (R0a.out.keep hb); have R1b := Lib.hid (R1a.out.keep hb); have Eb := Lib.hid (Ea.out.keep hb); have HBb := Lib.hid (chainN HBa.out HBa.out.size hb); have DXb := Lib.hid (DXa.out.below hb); have DRb := Lib.hid (DRa.out.below hb); clear hb; obtain ⟨u0, u1, -, -⟩ := R0b.out.two; obtain ⟨v0, v1, -, -⟩ := Eb.out.two))
        clear s0 s1 t0 t1 r0 r1 e0 e1
        go_wp2_with fail
        go_roundw
        case rel => exact ⟨i + 1, B', l', d', by omega, by go_num, R0b, R1b, HS', by rw [HN.out]; exact DRb, HBb⟩
        case measure => simp [intOf] <;> omega
    · obtain rfl : i = L.length := by omega
      have hlt' : ¬ (L.length : Int) < (L.length : Int) := by omega
      obtain ⟨r0, r1, -, -⟩ := R0.out.two
      obtain ⟨s0, s1, sf0, sf1⟩ := R1.out.two
      go_wp2_with fail
      refine close_one Tryz.results96 rfl rfl R1.out.put2 Tryz.underlying139 rfl (by kernel_rfl) ⟨_, _, _, rfl, HS'.out, HWr.out.put2 R1.out _ _, ?_⟩
      exact (HB.out.setCell (p := ⟨w.heap.size + 1, 0, none⟩) (by simp) _).setCell (p := ⟨w.heap.size + 1, 1, none⟩) (by simp) _
end
section
/- The reference's with. -/
set_option linter.unusedVariables false
set_option linter.unusedSimpArgs false
open Go.RowKit
set_option maxRecDepth 100000
/-- A row of the reference's: its words are the argument's (at the world w0) or its own. -/
def RowQ (w0 w : World) (N : Nat) (r : RowV) (x : Nat) : Prop := r.1 = (N : Int) ∧ SliceOk r.2.1 r.2.2.1 r.2.2.2 ∧ (Words w0 r.2.1 r.2.2.1 (rowOf N x) ∨ OwnW w r.2.1 r.2.2.1 r.2.2.2 (rowOf N x))
def RowsQ (w0 w : World) (base : Nat) (v : Value) (N : Nat) (K : List Nat) : Prop :=
  ∃ rs : List RowV, rs.length = K.length ∧ w.ownsRow base 139 2 v K.length (rowCells rs) ∧ ∀ j, j < K.length → RowQ w0 w N (rs.getD j (0, none, 0, 0)) (K.getD j 0)
theorem RowQ.below {w0 w w' : World} {N : Nat} {r : RowV} {x : Nat} (h : RowQ w0 w N r x) (hb : Below w.heap.size w w') : RowQ w0 w' N r x := ⟨h.1, h.2.1, h.2.2.imp id (fun o => o.below hb)⟩
theorem RowsQ.below {w0 w w' : World} {base : Nat} {v : Value} {N : Nat} {K : List Nat} (h : RowsQ w0 w base v N K) (hb : Below w.heap.size w w') : RowsQ w0 w' base v N K := by
  obtain ⟨rs, h1, h2, h3⟩ := h
  exact ⟨rs, h1, own_keep h2 hb, fun j hj => (h3 j hj).below hb⟩
theorem RowsQ.appended {w0 w : World} {base : Nat} {v : Value} {N : Nat} {K : List Nat} {B : Option Addr} {l d y : Nat} (h : RowsQ w0 w base v N K) (hn : RowQ w0 w N ((N : Int), B, l, d) y) :
    ∃ rs : List RowV, (w.alloc (.cells #[.int .i64 (N : Int), .slice B l d] 139)).ownsRow base 139 2 v K.length (rowCells rs) ∧ ∀ v' w1, w1.ownsRow base 139 2 v' (K.length + 1) (rowCells rs ++ [.int .i64 (N : Int), .slice B l d]) → (w.alloc (.cells #[.int .i64 (N : Int), .slice B l d] 139)).grownBy w1 v.ownBlock → RowsQ w0 w1 base v' N (K ++ [y]) := by
  obtain ⟨rs, h1, h2, h3⟩ := h
  have h2' := World.ownsRow.alloc h2 (.cells #[.int .i64 (N : Int), .slice B l d] 139)
  have al : Below w.heap.size w (w.alloc (.cells #[.int .i64 (N : Int), .slice B l d] 139)) := (Below.refl _ _).alloc (Nat.le_refl _) _
  refine ⟨rs, h2', fun v' w1 ho hg => ⟨rs ++ [((N : Int), B, l, d)], by simp [h1], by rw [rowCells_snoc, List.length_append]; exact ho, fun j hj => ?_⟩⟩
  have gr : ∀ {r : RowV} {x : Nat}, RowQ w0 w N r x → RowQ w0 w1 N r x := fun q => ⟨q.1, q.2.1, q.2.2.imp id (fun o => (o.below al).grown h2' (by decide) hg)⟩
  rw [List.length_append] at hj
  by_cases hm : j < K.length
  · have e1 : (rs ++ [((N : Int), B, l, d)]).getD j (0, none, 0, 0) = rs.getD j (0, none, 0, 0) := by simp only [List.getD]; rw [List.getElem?_append_left (by omega)]
    have e2 : (K ++ [y]).getD j 0 = K.getD j 0 := by simp only [List.getD]; rw [List.getElem?_append_left (by omega)]
    rw [e1, e2]; exact gr (h3 j hm)
  · obtain rfl : j = K.length := by simp at hj; omega
    have e1 : (rs ++ [((N : Int), B, l, d)]).getD K.length (0, none, 0, 0) = ((N : Int), B, l, d) := by rw [← h1]; simp [List.getD]
    have e2 : (K ++ [y]).getD K.length 0 = y := by simp [List.getD]
    rw [e1, e2]; exact gr hn
theorem RowsQ.mat {w0 w : World} {base : Nat} {v : Value} {N : Nat} {K : List Nat} (h : RowsQ w0 w base v N K) {B : Nat} (hB : w0.heap.size ≤ B) (hb : Below B w0 w) : ∃ A c, v = .slice A K.length c ∧ K.length ≤ c ∧ MatAt w 0 A K.length (mkM N K) := by
  obtain ⟨rs, h1, h2, h3⟩ := h
  obtain ⟨A, c, e, hc, hm⟩ := own_mat h2 h1 (mkM N K) (mkM_len N K) (fun j hj => by
    obtain ⟨a1, a2, a3⟩ := h3 j hj
    rw [mkM_at N K j hj]
    exact ⟨a1, a2, by rcases a3 with a3 | a3; exact a3.mono hB hb; exact a3.words (rowOf_lt N _)⟩)
  exact ⟨A, c, e, hc, hm.low (Nat.zero_le _)⟩
/-- The rows ahead of the new one, i of the old ones looked at. -/
def withP (L : List Nat) (z a m i : Nat) : List Nat := (L.take (min i m)).map (fun x => if x.testBit a then x ^^^ z else x)
theorem withP_lt (L : List Nat) (z a m i : Nat) (hi : i < m) (hl : i < L.length) : withP L z a m (i + 1) = withP L z a m i ++ [if (L.getD i 0).testBit a then L.getD i 0 ^^^ z else L.getD i 0] := by
  unfold withP
  rw [Nat.min_eq_left (by omega), Nat.min_eq_left (by omega), List.take_succ_eq_append_getElem hl, List.map_append]
  simp [List.getD, hl]
theorem withP_ge (L : List Nat) (z a m i : Nat) (hi : m ≤ i) : withP L z a m (i + 1) = withP L z a m i := by
  unfold withP
  rw [Nat.min_eq_right (by omega), Nat.min_eq_right (by omega)]
theorem withP_len (L : List Nat) (z a m i : Nat) : (withP L z a m i).length ≤ L.length := by
  unfold withP; rw [List.length_map, List.length_take]; omega
/-- The rows behind it. -/
def withD (L : List Nat) (m i : Nat) : List Nat := (L.drop m).take (i - m)
theorem withD_lt (L : List Nat) (m i : Nat) (hi : i < m) : withD L m (i + 1) = withD L m i := by
  unfold withD; rw [show i + 1 - m = 0 by omega, show i - m = 0 by omega]
theorem withD_ge (L : List Nat) (m i : Nat) (hi : m ≤ i) (hl : i < L.length) : withD L m (i + 1) = withD L m i ++ [L.getD i 0] := by
  unfold withD
  rw [show i + 1 - m = (i - m) + 1 by omega, List.take_succ_eq_append_getElem (by rw [List.length_drop]; omega)]
  simp [List.getD, hl, show m + (i - m) = i by omega]
theorem withD_len (L : List Nat) (m i : Nat) : (withD L m i).length ≤ L.length := by
  unfold withD; rw [List.length_take, List.length_drop]; omega
theorem with_all (L : List Nat) (z a m : Nat) (hm : m ≤ L.length) : (withP L z a m L.length ++ [z]) ++ withD L m L.length = putW L z a m := by
  unfold withP withD putW
  have e : (L.drop m).take (L.length - m) = L.drop m := List.take_of_length_le (by rw [List.length_drop]; omega)
  rw [Nat.min_eq_right hm, e]
  simp
theorem own_empty4 (W : World) (base e : Nat) (hb : base ≤ W.heap.size) : (W.alloc (.cells #[] e)).ownsRow base e 2 (.slice (some ⟨W.heap.size, 0, none⟩) 0 0) 0 [] :=
  ⟨by simp, .inr ⟨W.heap.size, 0, #[], rfl, hb, heap_alloc_new W _, Nat.le_refl _, Nat.zero_le _, by simp, by simp⟩⟩
/-- What with hands back. -/
def WithOut (N : Nat) (K : List Nat) (w : World) (e : Ending) (w' : World) : Prop :=
  ∃ A c, e = .returned (.slice A K.length c) ∧ MatAt w' 0 A K.length (mkM N K) ∧ Below w.heap.size w w'
set_option maxHeartbeats 16000000 in
theorem with_any (N : Nat) (hN : N ≤ 512) (L P : List Nat) (hR : Rref L P) (hL : ∀ r ∈ L, r < 2 ^ N) (hlen : L.length ≤ 100) (z a m : Nat) (hz : z < 2 ^ N) (hla : IsLow z a) (hm : m ≤ L.length) (hm1 : ∀ i, i < m → P.getD i 0 < a) (hm2 : ∀ i, m ≤ i → i < L.length → a < P.getD i 0) (A B : Option Addr) (c l d lo : Nat) (w : World) (hmat : MatAt w lo A L.length (mkM N L)) (hs : SliceOk B l d) (hw : Words w B l (rowOf N z)) :
    Calls Tryz.prog 98 #[.slice A L.length c, .agg #[.int .i64 (N : Int), .slice B l d]] w (WithOut N (putW L z a m) w) := by
  have hW : Below w.heap.size w (w.alloc (.cells #[.int .i64 N, .slice B l d] 139)) := (Below.refl _ _).alloc (Nat.le_refl _) _
  have Q := Lib.hid (Box.new w 139 #[.int .i64 (N : Int), .slice B l d])
  have HWd := Lib.hid (hw.below hW)
  have HW := Lib.hid hW
  have HX := Lib.hid hz
  have HM := Lib.hid hmat
  have HS := Lib.hid hs
  have HLt := Lib.hid (lt_all hL)
  have HAN := Lib.hid (low_lt hz hla)
  have HFst := Lib.hid (fun w' (h : Words w' B l (rowOf N z)) => first_low N z a hN hz hla B l d w' h)
  have HW0 := Lib.hid hw
  obtain ⟨i0, hi0, hz0, hz1, hz2⟩ := info_parts row_infoM
  have HI := Lib.hid hi0
  have HZ0 := Lib.hid hz0
  have HZ1 := Lib.hid hz1
  have HZ2 := Lib.hid hz2
  clear hi0 hz0 hz1 hz2
  clear hw hW hz hmat hs
  obtain ⟨q0, q1, -, -⟩ := Q.out.two
  go_enter Tryz.func98, Tryz.ntmps98
  go_wp2_with fail
  refine (HFst.out _ HWd.out).mono ?_
  rintro e x1 ⟨rfl, hb⟩
  have Q1 := Lib.hid (Q.out.keep hb)
  have HB1 := Lib.hid (chainN HW.out HW.out.size hb)
  have HWd1 := Lib.hid (HWd.out.below hb)
  clear hb q0 q1
  obtain ⟨q0, q1, -, -⟩ := Q1.out.two
  have hoe := own_empty4 x1 (w.heap.size + 1) 139 (by have := Q1.out.lt; omega)
  have Q2 := Lib.hid (Q1.out.alloc (.cells #[] 139))
  have HB2 := Lib.hid (HB1.out.alloc HB1.out.size (.cells #[] 139))
  have HO2 := Lib.hid (show RowsQ w (x1.alloc (.cells #[] 139)) (w.heap.size + 1) (.slice (some ⟨x1.heap.size, 0, none⟩) 0 0) N (withP L z a m 0) from ⟨[], by simp [withP], by simpa [withP, rowCells] using hoe, fun j hj => by simp [withP] at hj⟩)
  clear hoe
  go_wp2_with fail
  clear q0 q1
  go_loopw [6, 16] (fun v t wr => ∃ (i : Nat) (v' : Value), v' = v ∧ i ≤ L.length ∧ t = .int .i64 (i : Int) ∧ Hid (RowsQ w wr (w.heap.size + 1) v' N (withP L z a m i)) ∧ Hid (Box wr w.heap.size 139 #[.int .i64 (N : Int), .slice B l d]) ∧ Hid (Below w.heap.size w wr)) (fun _ t _ => L.length - (intOf t).toNat)
  case atStart => exact ⟨0, _, rfl, Nat.zero_le _, rfl, HO2, Q2, HB2⟩
  case round =>
    obtain ⟨i, v, rfl, hi, rfl, HRo, R0, HB⟩ := hrel
    clear Q2 HB2 HO2 Q1 HB1 HWd1 HWd HW Q
    by_cases hlt : i < L.length
    · have hlt' : (i : Int) < (L.length : Int) := by omega
      have hwl := withP_len L z a m i
      obtain ⟨b, off, B1, l1, c1, rfl, hbl, x0, x1, hs, hw0⟩ := HM.out.at i hlt
      have hw := hw0.mono (Nat.le_refl _) HB.out
      have x0 := (HB.out.cell (p := ⟨b, off + i * 2, none⟩) hbl).trans x0
      have x1 := (HB.out.cell (p := ⟨b, off + i * 2 + 1, none⟩) hbl).trans x1
      rw [mkM_at N L i hlt] at x0 hw hw0
      simp only [mkR] at x0 hw hw0
      have hal : Below wr.heap.size wr (wr.alloc (.cells #[.int .i64 (N : Int), .slice B1 l1 c1] 139)) := (Below.refl _ _).alloc (Nat.le_refl _) _
      have E := Lib.hid (Box.new wr 139 #[.int .i64 (N : Int), .slice B1 l1 c1])
      have HC := Lib.hid hal
      have HWx := Lib.hid (hw.below hal)
      have RQ0 := Lib.hid (show ∀ W', RowQ w W' N ((N : Int), B1, l1, c1) (L.getD i 0) from fun W' => ⟨rfl, hs, .inl hw0⟩)
      have HLow := Lib.hid (hR.low i hlt)
      have HF := Lib.hid (fun w' (h : Words w' B1 l1 (rowOf N (L.getD i 0))) => first_low N _ _ hN (HLt.out i) HLow.out B1 l1 c1 w' h)
      have HBt := Lib.hid (fun w' (h : Words w' B1 l1 (rowOf N (L.getD i 0))) => rbit_any N _ _ hN B1 l1 c1 HAN.out w' h)
      have HLi := Lib.hid (HLt.out i)
      have HM1 := Lib.hid (hm1 i)
      have HM2 := Lib.hid (fun h => hm2 i h hlt)
      clear hal hw hs hw0 HLow
      generalize hyy : L.getD i 0 = y at *
      have HY := Lib.hid hyy
      clear hyy
      generalize P.getD i 0 = pi at *
      obtain ⟨e0, e1, -, -⟩ := E.out.two
      by_cases him : i < m
      · have hpa : (pi : Int) < (a : Int) := by have := HM1.out him; omega
        have HWP := Lib.hid (withP_lt L z a m i him hlt)
        rw [HY.out] at HWP
        go_wp2_with fail
        refine (HF.out _ HWx.out).mono ?_
        rintro e y1 ⟨rfl, hb⟩
        have E := Lib.hid (E.out.keep hb)
        have HC := Lib.hid (chain HC.out hb)
        have HWx := Lib.hid (HWx.out.below hb)
        clear hb e0 e1
        obtain ⟨e0, e1, ef0, ef1⟩ := E.out.two
        cases hbt : y.testBit a with
        | true =>
          rw [hbt] at HBt HWP
          clear hbt
          obtain ⟨r0, r1, -, -⟩ := (R0.out.keep HC.out).two
          go_wp2_with fail
          refine (HBt.out _ HWx.out).mono ?_
          rintro e y2 ⟨rfl, hb⟩
          have E := Lib.hid (E.out.keep hb)
          have HC := Lib.hid (chain HC.out hb)
          have HWx := Lib.hid (HWx.out.below hb)
          have HWz := Lib.hid (HW0.out.mono (Nat.le_refl _) (chain HB.out HC.out))
          clear hb e0 e1 ef0 ef1 r0 r1
          obtain ⟨e0, e1, ef0, ef1⟩ := E.out.two
          obtain ⟨r0, r1, -, -⟩ := (R0.out.keep HC.out).two
          go_wp2_with fail
          refine (refXor_num N y z hN HLi.out HX.out B1 B l1 c1 l d _ HWx.out HWz.out).mono ?_
          rintro e y3 ⟨A3, l3, c3, rfl, ow, hb⟩
          have E := Lib.hid (E.out.keep hb)
          have OW := Lib.hid ow
          have HC := Lib.hid (chain HC.out hb)
          clear hb ow e0 e1 ef0 ef1 r0 r1
          obtain ⟨e0, e1, ef0, ef1⟩ := E.out.two
          have HRw := Lib.hid (show RowQ w ((y3.setCell ⟨wr.heap.size, 0, none⟩ (.int .i64 (N : Int))).setCell ⟨wr.heap.size, 1, none⟩ (.slice A3 l3 c3)) N ((N : Int), A3, l3, c3) (y ^^^ z) from ⟨rfl, OW.out.ok, .inr (OW.out.put2 E.out _ _)⟩)
          have E := Lib.hid (E.out.put2 (u := .int .i64 (N : Int)) (v := .slice A3 l3 c3))
          have HC := Lib.hid ((HC.out.setCell (p := ⟨wr.heap.size, 0, none⟩) (Nat.le_refl _) (.int .i64 (N : Int))).setCell (p := ⟨wr.heap.size, 1, none⟩) (Nat.le_refl _) (.slice A3 l3 c3))
          have R0 := Lib.hid (R0.out.keep HC.out)
          have HRo := Lib.hid (HRo.out.below HC.out)
          have HB := Lib.hid (chain HB.out HC.out)
          clear OW HWx HWz HF HBt
          go_upto_region 9 with (fail)
          generalize (y3.setCell ⟨wr.heap.size, 0, none⟩ (.int .i64 (N : Int))).setCell ⟨wr.heap.size, 1, none⟩ (.slice A3 l3 c3) = w8 at *
          clear e0 e1 ef0 ef1
          obtain ⟨e0, e1, ef0, ef1⟩ := E.out.two
          obtain ⟨rs, ho, hnx⟩ := HRo.out.appended HRw.out
          have YO := Lib.hid ho
          have HNx := Lib.hid hnx
          clear ho hnx
          have hkl := hwl
          have Y0 := Lib.hid (R0.out.alloc (.cells #[.int .i64 (N : Int), .slice A3 l3 c3] 139))
          have YB := Lib.hid (HB.out.alloc HB.out.size (.cells #[.int .i64 (N : Int), .slice A3 l3 c3] 139))
          have YBs := Lib.hid (show w.heap.size + 1 ≤ (w8.alloc (.cells #[.int .i64 (N : Int), .slice A3 l3 c3] 139)).heap.size by have := R0.out.lt; simp; omega)
          have N0 := Lib.hid (show v.ownBlock ≠ some w.heap.size from fun e => by have := (YO.out.lt _ e).1; omega)
          have N2 := Lib.hid (show ∀ k, v.ownBlock = some k → w.heap.size ≤ k from fun k hk => by have := (YO.out.lt k hk).1; omega)
          have HNW := Lib.hid (World.news_of_block (Box.new w8 139 #[.int .i64 (N : Int), .slice A3 l3 c3]))
          have ki := HI.out
          have kz0 := HZ0.out
          have kz1 := HZ1.out
          have kz2 := HZ2.out
          go_wp2_with (at_builtin; refine wpList_append_own _ rfl _ _ 99 rfl (w.heap.size + 1) 139 i0 (.agg #[.int .i64 0, .slice none 0 0]) 2 32 Tryz.underlying99 ki kz0 kz1 kz2 rfl (by decide) _ _ _ rfl YO.out ⟨w8.heap.size, 0, none⟩ 1 1 [.int .i64 (N : Int), .slice A3 l3 c3] rfl rfl HNW.out (by simp [Value.oneCell']) (by simp [maxLen]; omega) (by omega) YBs.out ?_; intro v9 w9 hown' hgrow _; have R09 := Lib.hid (Y0.out.grown hgrow N0.out); have HB9 := Lib.hid (YB.out.grown hgrow YB.out.size N2.out); have HR9 := Lib.hid (HNx.out _ _ hown' hgrow); clear hown' hgrow)
          go_wp2_with fail
          go_roundw
          case rel => exact ⟨i + 1, _, rfl, by omega, by go_num, by rw [HWP.out]; exact HR9, R09, HB9⟩
          case measure => simp [intOf] <;> omega
        | false =>
          rw [hbt] at HBt HWP
          clear hbt
          go_wp2_with fail
          refine (HBt.out _ HWx.out).mono ?_
          rintro e y2 ⟨rfl, hb⟩
          have E := Lib.hid (E.out.keep hb)
          have HC := Lib.hid (chain HC.out hb)
          have R0 := Lib.hid (R0.out.keep HC.out)
          have HRo := Lib.hid (HRo.out.below HC.out)
          have HB := Lib.hid (chain HB.out HC.out)
          clear hb HWx HF HBt
          have HRw := Lib.hid (RQ0.out y2)
          clear e0 e1 ef0 ef1
          obtain ⟨e0, e1, ef0, ef1⟩ := E.out.two
          obtain ⟨rs, ho, hnx⟩ := HRo.out.appended HRw.out
          have YO := Lib.hid ho
          have HNx := Lib.hid hnx
          clear ho hnx
          have hkl := hwl
          have Y0 := Lib.hid (R0.out.alloc (.cells #[.int .i64 (N : Int), .slice B1 l1 c1] 139))
          have YB := Lib.hid (HB.out.alloc HB.out.size (.cells #[.int .i64 (N : Int), .slice B1 l1 c1] 139))
          have YBs := Lib.hid (show w.heap.size + 1 ≤ (y2.alloc (.cells #[.int .i64 (N : Int), .slice B1 l1 c1] 139)).heap.size by have := R0.out.lt; simp; omega)
          have N0 := Lib.hid (show v.ownBlock ≠ some w.heap.size from fun e => by have := (YO.out.lt _ e).1; omega)
          have N2 := Lib.hid (show ∀ k, v.ownBlock = some k → w.heap.size ≤ k from fun k hk => by have := (YO.out.lt k hk).1; omega)
          have HNW := Lib.hid (World.news_of_block (Box.new y2 139 #[.int .i64 (N : Int), .slice B1 l1 c1]))
          have ki := HI.out
          have kz0 := HZ0.out
          have kz1 := HZ1.out
          have kz2 := HZ2.out
          go_wp2_with (at_builtin; refine wpList_append_own _ rfl _ _ 99 rfl (w.heap.size + 1) 139 i0 (.agg #[.int .i64 0, .slice none 0 0]) 2 32 Tryz.underlying99 ki kz0 kz1 kz2 rfl (by decide) _ _ _ rfl YO.out ⟨y2.heap.size, 0, none⟩ 1 1 [.int .i64 (N : Int), .slice B1 l1 c1] rfl rfl HNW.out (by simp [Value.oneCell']) (by simp [maxLen]; omega) (by omega) YBs.out ?_; intro v9 w9 hown' hgrow _; have R09 := Lib.hid (Y0.out.grown hgrow N0.out); have HB9 := Lib.hid (YB.out.grown hgrow YB.out.size N2.out); have HR9 := Lib.hid (HNx.out _ _ hown' hgrow); clear hown' hgrow)
          go_wp2_with fail
          go_roundw
          case rel => exact ⟨i + 1, _, rfl, by omega, by go_num, by rw [HWP.out]; exact HR9, R09, HB9⟩
          case measure => simp [intOf] <;> omega
      · have hpa : ¬ (pi : Int) < (a : Int) := by have := HM2.out (by omega); omega
        have HWP := Lib.hid (withP_ge L z a m i (by omega))
        go_wp2_with fail
        refine (HF.out _ HWx.out).mono ?_
        rintro e y1 ⟨rfl, hb⟩
        have E := Lib.hid (E.out.keep hb)
        have HC := Lib.hid (chain HC.out hb)
        have HWx := Lib.hid (HWx.out.below hb)
        clear hb e0 e1
        obtain ⟨e0, e1, ef0, ef1⟩ := E.out.two
        have R0 := Lib.hid (R0.out.keep HC.out)
        have HRo := Lib.hid (HRo.out.below HC.out)
        have HB := Lib.hid (chain HB.out HC.out)
        go_wp2_with fail
        go_roundw
        case rel => exact ⟨i + 1, _, rfl, by omega, by go_num, by rw [HWP.out]; exact HRo, R0, HB⟩
        case measure => simp [intOf] <;> omega
    · obtain rfl : i = L.length := by omega
      have hlt' : ¬ (L.length : Int) < (L.length : Int) := by omega
      have hwl := withP_len L z a m L.length
      have HRq := Lib.hid (show ∀ W', RowQ w W' N ((N : Int), B, l, d) z from fun W' => ⟨rfl, HS.out, .inl HW0.out⟩)
      have HRw := Lib.hid (HRq.out wr)
      obtain ⟨r0, r1, -, -⟩ := R0.out.two
      go_upto_region 11 with (fail)
      obtain ⟨rs, ho, hnx⟩ := HRo.out.appended HRw.out
      have YO := Lib.hid ho
      have HNx := Lib.hid hnx
      clear ho hnx
      have hkl := hwl
      have Y0 := Lib.hid (R0.out.alloc (.cells #[.int .i64 (N : Int), .slice B l d] 139))
      have YB := Lib.hid (HB.out.alloc HB.out.size (.cells #[.int .i64 (N : Int), .slice B l d] 139))
      have YBs := Lib.hid (show w.heap.size + 1 ≤ (wr.alloc (.cells #[.int .i64 (N : Int), .slice B l d] 139)).heap.size by have := R0.out.lt; simp; omega)
      have N0 := Lib.hid (show v.ownBlock ≠ some w.heap.size from fun e => by have := (YO.out.lt _ e).1; omega)
      have N2 := Lib.hid (show ∀ k, v.ownBlock = some k → w.heap.size ≤ k from fun k hk => by have := (YO.out.lt k hk).1; omega)
      have HNW := Lib.hid (World.news_of_block (Box.new wr 139 #[.int .i64 (N : Int), .slice B l d]))
      have ki := HI.out
      have kz0 := HZ0.out
      have kz1 := HZ1.out
      have kz2 := HZ2.out
      go_wp2_with (at_builtin; refine wpList_append_own _ rfl _ _ 99 rfl (w.heap.size + 1) 139 i0 (.agg #[.int .i64 0, .slice none 0 0]) 2 32 Tryz.underlying99 ki kz0 kz1 kz2 rfl (by decide) _ _ _ rfl YO.out ⟨wr.heap.size, 0, none⟩ 1 1 [.int .i64 (N : Int), .slice B l d] rfl rfl HNW.out (by simp [Value.oneCell']) (by simp [maxLen]; omega) (by omega) YBs.out ?_; intro v9 w9 hown' hgrow _; have R09 := Lib.hid (Y0.out.grown hgrow N0.out); have HB9 := Lib.hid (YB.out.grown hgrow YB.out.size N2.out); have HR9 := Lib.hid (HNx.out _ _ hown' hgrow); clear hown' hgrow)
      clear r0 r1
      go_wp2_with fail
      generalize hK1 : withP L z a m L.length ++ [z] = K1 at *
      have hK1l : K1.length ≤ 101 := by rw [← hK1, List.length_append]; simp; omega
      have HAll := Lib.hid (show K1 ++ withD L m L.length = putW L z a m by rw [← hK1]; exact with_all L z a m hm)
      clear hK1 hwl
      go_loopw [6, 42] (fun v t wr => ∃ (i : Nat) (v' : Value), v' = v ∧ i ≤ L.length ∧ t = .int .i64 (i : Int) ∧ Hid (RowsQ w wr (w.heap.size + 1) v' N (K1 ++ withD L m i)) ∧ Hid (Box wr w.heap.size 139 #[.int .i64 (N : Int), .slice B l d]) ∧ Hid (Below w.heap.size w wr)) (fun _ t _ => L.length - (intOf t).toNat)
      case atStart => exact ⟨0, _, rfl, Nat.zero_le _, rfl, by rw [show withD L m 0 = [] by unfold withD; simp, List.append_nil]; exact HR9, R09, HB9⟩
      case round =>
        obtain ⟨i, v, rfl, hi, rfl, HRo, R0, HB⟩ := hrel
        clear R09 HB9 HR9
        by_cases hlt : i < L.length
        · have hlt' : (i : Int) < (L.length : Int) := by omega
          have hwl : (K1 ++ withD L m i).length ≤ 201 := by have := withD_len L m i; rw [List.length_append]; omega
          obtain ⟨b, off, B1, l1, c1, rfl, hbl, x0, x1, hs, hw0⟩ := HM.out.at i hlt
          have hw := hw0.mono (Nat.le_refl _) HB.out
          have x0 := (HB.out.cell (p := ⟨b, off + i * 2, none⟩) hbl).trans x0
          have x1 := (HB.out.cell (p := ⟨b, off + i * 2 + 1, none⟩) hbl).trans x1
          rw [mkM_at N L i hlt] at x0 hw hw0
          simp only [mkR] at x0 hw hw0
          have hal : Below wr.heap.size wr (wr.alloc (.cells #[.int .i64 (N : Int), .slice B1 l1 c1] 139)) := (Below.refl _ _).alloc (Nat.le_refl _) _
          have E := Lib.hid (Box.new wr 139 #[.int .i64 (N : Int), .slice B1 l1 c1])
          have HC := Lib.hid hal
          have HWx := Lib.hid (hw.below hal)
          have RQ0 := Lib.hid (show ∀ W', RowQ w W' N ((N : Int), B1, l1, c1) (L.getD i 0) from fun W' => ⟨rfl, hs, .inl hw0⟩)
          have HLow := Lib.hid (hR.low i hlt)
          have HF := Lib.hid (fun w' (h : Words w' B1 l1 (rowOf N (L.getD i 0))) => first_low N _ _ hN (HLt.out i) HLow.out B1 l1 c1 w' h)
          have HBt := Lib.hid (fun w' (h : Words w' B1 l1 (rowOf N (L.getD i 0))) => rbit_any N _ _ hN B1 l1 c1 HAN.out w' h)
          have HLi := Lib.hid (HLt.out i)
          have HM1 := Lib.hid (hm1 i)
          have HM2 := Lib.hid (fun h => hm2 i h hlt)
          clear hal hw hs hw0 HLow
          generalize hyy : L.getD i 0 = y at *
          have HY := Lib.hid hyy
          clear hyy
          generalize P.getD i 0 = pi at *
          obtain ⟨e0, e1, -, -⟩ := E.out.two
          by_cases him : i < m
          · have hpa : ¬ (a : Int) < (pi : Int) := by have := HM1.out him; omega
            have HWP := Lib.hid (withD_lt L m i him)
            go_wp2_with fail
            refine (HF.out _ HWx.out).mono ?_
            rintro e y1 ⟨rfl, hb⟩
            have E := Lib.hid (E.out.keep hb)
            have HC := Lib.hid (chain HC.out hb)
            have HWx := Lib.hid (HWx.out.below hb)
            clear hb e0 e1
            obtain ⟨e0, e1, ef0, ef1⟩ := E.out.two
            have R0 := Lib.hid (R0.out.keep HC.out)
            have HRo := Lib.hid (HRo.out.below HC.out)
            have HB := Lib.hid (chain HB.out HC.out)
            go_wp2_with fail
            go_roundw
            case rel => exact ⟨i + 1, _, rfl, by omega, by go_num, by rw [HWP.out]; exact HRo, R0, HB⟩
            case measure => simp [intOf] <;> omega
          · have hpa : (a : Int) < (pi : Int) := by have := HM2.out (by omega); omega
            have HWP := Lib.hid (show K1 ++ withD L m (i + 1) = (K1 ++ withD L m i) ++ [y] by rw [withD_ge L m i (by omega) hlt, HY.out, List.append_assoc])
            go_wp2_with fail
            refine (HF.out _ HWx.out).mono ?_
            rintro e y1 ⟨rfl, hb⟩
            have E := Lib.hid (E.out.keep hb)
            have HC := Lib.hid (chain HC.out hb)
            have HWx := Lib.hid (HWx.out.below hb)
            clear hb e0 e1
            obtain ⟨e0, e1, ef0, ef1⟩ := E.out.two
            have R0 := Lib.hid (R0.out.keep HC.out)
            have HRo := Lib.hid (HRo.out.below HC.out)
            have HB := Lib.hid (chain HB.out HC.out)
            have HRw := Lib.hid (RQ0.out y1)
            clear HWx HF HBt
            generalize K1 ++ withD L m i = K2 at *
            go_upto_region 16 with (fail)
            obtain ⟨rs, ho, hnx⟩ := HRo.out.appended HRw.out
            have YO := Lib.hid ho
            have HNx := Lib.hid hnx
            clear ho hnx
            have hkl := hwl
            have Y0 := Lib.hid (R0.out.alloc (.cells #[.int .i64 (N : Int), .slice B1 l1 c1] 139))
            have YB := Lib.hid (HB.out.alloc HB.out.size (.cells #[.int .i64 (N : Int), .slice B1 l1 c1] 139))
            have YBs := Lib.hid (show w.heap.size + 1 ≤ (y1.alloc (.cells #[.int .i64 (N : Int), .slice B1 l1 c1] 139)).heap.size by have := R0.out.lt; simp; omega)
            have N0 := Lib.hid (show v.ownBlock ≠ some w.heap.size from fun e => by have := (YO.out.lt _ e).1; omega)
            have N2 := Lib.hid (show ∀ k, v.ownBlock = some k → w.heap.size ≤ k from fun k hk => by have := (YO.out.lt k hk).1; omega)
            have HNW := Lib.hid (World.news_of_block (Box.new y1 139 #[.int .i64 (N : Int), .slice B1 l1 c1]))
            have ki := HI.out
            have kz0 := HZ0.out
            have kz1 := HZ1.out
            have kz2 := HZ2.out
            go_wp2_with (at_builtin; refine wpList_append_own _ rfl _ _ 99 rfl (w.heap.size + 1) 139 i0 (.agg #[.int .i64 0, .slice none 0 0]) 2 32 Tryz.underlying99 ki kz0 kz1 kz2 rfl (by decide) _ _ _ rfl YO.out ⟨y1.heap.size, 0, none⟩ 1 1 [.int .i64 (N : Int), .slice B1 l1 c1] rfl rfl HNW.out (by simp [Value.oneCell']) (by simp [maxLen]; omega) (by omega) YBs.out ?_; intro v9 w9 hown' hgrow _; have R09 := Lib.hid (Y0.out.grown hgrow N0.out); have HB9 := Lib.hid (YB.out.grown hgrow YB.out.size N2.out); have HR9 := Lib.hid (HNx.out _ _ hown' hgrow); clear hown' hgrow)
            go_wp2_with fail
            go_roundw
            case rel => exact ⟨i + 1, _, rfl, by omega, by go_num, by rw [HWP.out]; exact HR9, R09, HB9⟩
            case measure => simp [intOf] <;> omega
        · obtain rfl : i = L.length := by omega
          have hlt' : ¬ (L.length : Int) < (L.length : Int) := by omega
          rw [HAll.out] at HRo
          obtain ⟨A', c', rfl, -, hmat⟩ := HRo.out.mat (Nat.le_refl _) HB.out
          have HMat := Lib.hid hmat
          clear hmat
          go_wp2_with fail
          go_ret
          exact ⟨A', c', rfl, HMat.out, HB.out⟩
end
section
/- The reference's Echelon. -/
set_option linter.unusedVariables false
set_option linter.unusedSimpArgs false
open Go.RowKit
set_option maxRecDepth 100000
theorem same_lt {n : Nat} {L M : List Nat} (h : ∀ r ∈ L, r < 2 ^ n) (hs : SameSp L M) : ∀ r ∈ M, r < 2 ^ n := fun r hr => sp_lt h ((hs r).2 (sp_mem hr))
theorem take_lt' {n : Nat} {L : List Nat} (h : ∀ r ∈ L, r < 2 ^ n) (k : Nat) : ∀ r ∈ L.take k, r < 2 ^ n := fun r hr => h r (List.mem_of_mem_take hr)
theorem left_same {L P : List Nat} (h : Rref L P) (r : Nat) (h0 : leftN L P r L.length = 0) : SameSp (L ++ [r]) L := by
  have hs := (left_zero h r).1 h0
  refine SameSp.of (fun x hx => ?_) (fun x hx => sp_mem (List.mem_append.2 (.inl hx)))
  rcases List.mem_append.1 hx with hx | hx
  · exact sp_mem hx
  · simp at hx; subst hx; exact hs
theorem put_more {L P : List Nat} (h : Rref L P) (r a : Nat) (ha : IsLow (leftN L P r L.length) a) :
    ∃ m, m ≤ L.length ∧ (∀ i, i < m → P.getD i 0 < a) ∧ (∀ i, m ≤ i → i < L.length → a < P.getD i 0) ∧ Rref (putW L (leftN L P r L.length) a m) (putP P a m) ∧ SameSp (L ++ [r]) (putW L (leftN L P r L.length) a m) := by
  have hsp := leftN_span L P r L.length (Nat.le_refl _)
  have hz : ∀ j, j < L.length → (leftN L P r L.length).testBit (P.getD j 0) = false := fun j hj => by rw [leftN_bits h r _ (Nat.le_refl _) j hj, if_pos hj]
  generalize leftN L P r L.length = x at *
  have hn : a ∉ P := fun hp => by
    obtain ⟨j, hj, rfl⟩ := mem_getD hp
    have := hz j (by rw [h.len]; exact hj)
    rw [ha.1] at this; cases this
  obtain ⟨m, hm, h1, h2⟩ := cut_place h a hn
  refine ⟨m, hm, h1, h2, put_rref h x a m ha hz hm h1 h2, SameSp.trans ?_ (put_span x a m hm)⟩
  have liftL : ∀ y, ∀ v, Sp L v → Sp (L ++ [y]) v := fun y v hv => sp_sub (fun r hr => sp_mem (List.mem_append.2 (.inl hr))) hv
  refine SameSp.of (fun y hy => ?_) (fun y hy => ?_)
  · rcases List.mem_append.1 hy with hy | hy
    · exact sp_mem (List.mem_append.2 (.inl hy))
    · simp at hy; subst hy
      have := sp_xor (liftL x _ hsp) (sp_mem (show x ∈ L ++ [x] by simp))
      rw [xor_back] at this; exact this
  · rcases List.mem_append.1 hy with hy | hy
    · exact sp_mem (List.mem_append.2 (.inl hy))
    · simp at hy; subst hy
      have := sp_xor (sp_mem (show r ∈ L ++ [r] by simp)) (liftL r _ hsp)
      rw [← Nat.xor_assoc, Nat.xor_self, Nat.zero_xor] at this; exact this
theorem span_step {ms L M : List Nat} {k : Nat} (hk : k < ms.length) (hs : SameSp (ms.take k) L) (gs : SameSp (L ++ [ms.getD k 0]) M) : SameSp (ms.take (k + 1)) M := by
  refine SameSp.trans ?_ gs
  have e : ms.take (k + 1) = ms.take k ++ [ms.getD k 0] := by
    rw [List.take_succ_eq_append_getElem (by omega)]; simp [List.getD, hk]
  rw [e]
  refine SameSp.of (fun y hy => ?_) (fun y hy => ?_)
  · rcases List.mem_append.1 hy with hy | hy
    · exact sp_sub (fun r hr => sp_mem (List.mem_append.2 (.inl hr))) ((hs _).1 (sp_mem hy))
    · simp at hy; subst hy; exact sp_mem (by simp)
  · rcases List.mem_append.1 hy with hy | hy
    · exact sp_sub (fun r hr => sp_mem (List.mem_append.2 (.inl hr))) ((hs _).2 (sp_mem hy))
    · simp at hy; subst hy; exact sp_mem (by simp)
theorem rref_nil : Rref [] [] := ⟨rfl, fun _ h => absurd h (Nat.not_lt_zero _), fun _ _ h => absurd h (Nat.not_lt_zero _), fun _ _ _ h => absurd h (Nat.not_lt_zero _)⟩
theorem first_zero (N : Nat) (hN : N ≤ 512) (A : Option Addr) (l c : Nat) (w : World) (hw : Words w A l (rowOf N 0)) :
    Calls Tryz.prog 97 #[.agg #[.int .i64 (N : Int), .slice A l c]] w fun e w' => e = .returned (.int .i64 (-1)) ∧ Below w.heap.size w w' := by
  refine (first_any N 0 hN (Nat.two_pow_pos N) A l c w hw).mono ?_
  rintro e w' ⟨⟨q, hq, rfl⟩ | ⟨_, rfl⟩, hb⟩
  · exact absurd hq.1 (by simp)
  · exact ⟨rfl, hb⟩
/-- What the reference's Echelon hands back. -/
def RefEch (N : Nat) (orig : List Nat) (w : World) (e : Ending) (w' : World) : Prop :=
  ∃ (M P : List Nat) (A : Option Addr) (c : Nat), e = .returned (.slice A M.length c) ∧ Rref M P ∧ SameSp orig M ∧ MatAt w' 0 A M.length (mkM N M) ∧ Below w.heap.size w w'
set_option maxHeartbeats 16000000 in
theorem refEch_any (N : Nat) (hN : N ≤ 512) (Ms : List Nat) (hL : ∀ r ∈ Ms, r < 2 ^ N) (hlen : Ms.length ≤ 66) (A : Option Addr) (c lo : Nat) (w : World) (hmat : MatAt w lo A Ms.length (mkM N Ms)) :
    Calls Tryz.prog 59 #[.agg #[.int .i64 (N : Int), .slice A Ms.length c]] w (RefEch N Ms w) := by
  have hW : Below w.heap.size w (w.alloc (.cells #[.int .i64 N, .slice A Ms.length c] 102)) := (Below.refl _ _).alloc (Nat.le_refl _) _
  have Q := Lib.hid (Box.new w 102 #[.int .i64 (N : Int), .slice A Ms.length c])
  have HW := Lib.hid hW
  have HM := Lib.hid hmat
  have HLt := Lib.hid (lt_all hL)
  have HL := Lib.hid hL
  clear hW hmat hL
  obtain ⟨q0, q1, -, -⟩ := Q.out.two
  go_enter Tryz.func59, Tryz.ntmps59
  have Q0 := Lib.hid (Q.out.alloc (.cells #[] 139))
  have HB0 := Lib.hid (HW.out.alloc HW.out.size (.cells #[] 139))
  go_wp2_with fail
  clear q0 q1
  go_loopw [3, 11] (fun v t wr => ∃ (i : Nat) (K P : List Nat) (A' : Option Addr) (c' : Nat), .slice A' K.length c' = v ∧ i ≤ Ms.length ∧ t = .int .i64 (i : Int) ∧ Hid (Rref K P) ∧ Hid (SameSp (Ms.take i) K) ∧ Hid (MatAt wr 0 A' K.length (mkM N K)) ∧ Hid (Below w.heap.size w wr)) (fun _ t _ => Ms.length - (intOf t).toNat)
  case atStart => exact ⟨0, [], [], _, _, rfl, Nat.zero_le _, rfl, Lib.hid rref_nil, Lib.hid (by rw [List.take_zero]; exact SameSp.refl _), Lib.hid (MatAt.nil _ _ _), HB0⟩
  case round =>
    obtain ⟨i, K, P, A', c', rfl, hi, rfl, HR, HSp, HK, HB⟩ := hrel
    clear Q0 HB0 Q HW
    by_cases hlt : i < Ms.length
    · have hlt' : (i : Int) < (Ms.length : Int) := by omega
      obtain ⟨b, off, B1, l1, c1, rfl, hbl, x0, x1, hs, hw0⟩ := HM.out.at i hlt
      have hw := hw0.mono (Nat.le_refl _) HB.out
      have x0 := (HB.out.cell (p := ⟨b, off + i * 2, none⟩) hbl).trans x0
      have x1 := (HB.out.cell (p := ⟨b, off + i * 2 + 1, none⟩) hbl).trans x1
      rw [mkM_at N Ms i hlt] at x0 hw
      simp only [mkR] at x0 hw
      have hal : Below wr.heap.size wr (wr.alloc (.cells #[.int .i64 (N : Int), .slice B1 l1 c1] 139)) := (Below.refl _ _).alloc (Nat.le_refl _) _
      have E := Lib.hid (Box.new wr 139 #[.int .i64 (N : Int), .slice B1 l1 c1])
      have HKlt := Lib.hid (same_lt (take_lt' HL.out i) HSp.out)
      have hkl : K.length ≤ 66 := by have := rank_le HR.out HSp.out; rw [List.length_take] at this; omega
      have HLi := Lib.hid (HLt.out i)
      have HLeft := Lib.hid (left_any N hN K P HR.out HKlt.out (by omega) (Ms.getD i 0) HLi.out A' B1 c' l1 c1 0 _ (HK.out.below hal) hs (hw.below hal))
      have HB := Lib.hid (chain HB.out hal)
      have HK := Lib.hid (HK.out.below hal)
      have HZlt := Lib.hid (leftN_lt (P := P) (lt_all HKlt.out) _ HLi.out K.length)
      clear hal hw hs hw0
      obtain ⟨e0, e1, -, -⟩ := E.out.two
      go_wp2_with fail
      refine HLeft.out.mono ?_
      rintro e y1 ⟨A3, l3, c3, rfl, hs3, hw3, hb⟩
      have hal : Below y1.heap.size y1 (y1.alloc (.cells #[.int .i64 (N : Int), .slice A3 l3 c3] 139)) := (Below.refl _ _).alloc (Nat.le_refl _) _
      have E3 := Lib.hid (Box.new y1 139 #[.int .i64 (N : Int), .slice A3 l3 c3])
      have HW3 := Lib.hid (hw3.below hal)
      have HS3 := Lib.hid hs3
      have HB := Lib.hid (chain (chain HB.out hb) hal)
      have HK := Lib.hid ((HK.out.below hb).below hal)
      clear hal hb hw3 hs3 e0 e1 E HLeft
      obtain ⟨e0, e1, -, -⟩ := E3.out.two
      by_cases hz : leftN K P (Ms.getD i 0) K.length = 0
      · have HStep := Lib.hid (span_step hlt HSp.out (left_same HR.out _ hz))
        rw [hz] at HW3
        clear hz
        go_wp2_with fail
        refine (first_zero N hN A3 l3 c3 _ HW3.out).mono ?_
        rintro e y2 ⟨rfl, hb⟩
        have HB := Lib.hid (chain HB.out hb)
        have HK := Lib.hid (HK.out.below hb)
        clear hb e0 e1
        go_wp2_with fail
        go_roundw
        case rel => exact ⟨i + 1, K, P, A', c', rfl, by omega, by go_num, HR, HStep, HK, HB⟩
        case measure => simp [intOf] <;> omega
      · obtain ⟨a, ha⟩ := low_exists hz
        obtain ⟨m, p1, p2, p3, p4, p5⟩ := put_more HR.out _ a ha
        have HA := Lib.hid ha
        have HStep := Lib.hid (span_step hlt HSp.out p5)
        have HRef := Lib.hid p4
        have hge : (0 : Int) ≤ (a : Int) := by omega
        have HWith := Lib.hid (fun w' (h1 : MatAt w' 0 A' K.length (mkM N K)) (h2 : Words w' A3 l3 (rowOf N (leftN K P (Ms.getD i 0) K.length))) => with_any N hN K P HR.out HKlt.out (by omega) _ a m HZlt.out ha p1 p2 p3 A' A3 c' l3 c3 0 w' h1 HS3.out h2)
        clear hz ha p1 p2 p3 p4 p5
        generalize putW K (leftN K P (Ms.getD i 0) K.length) a m = K2 at *
        generalize putP P a m = P2 at *
        go_wp2_with fail
        refine (first_low N _ a hN HZlt.out HA.out A3 l3 c3 _ HW3.out).mono ?_
        rintro e y2 ⟨rfl, hb⟩
        have E3 := Lib.hid (E3.out.keep hb)
        have HB := Lib.hid (chain HB.out hb)
        have HK := Lib.hid (HK.out.below hb)
        have HW3 := Lib.hid (HW3.out.below hb)
        clear hb e0 e1
        obtain ⟨e0, e1, -, -⟩ := E3.out.two
        go_wp2_with fail
        refine (HWith.out _ HK.out HW3.out).mono ?_
        rintro e y3 ⟨A5, c5, rfl, hm5, hb⟩
        have HB := Lib.hid (chain HB.out hb)
        have HK5 := Lib.hid hm5
        clear hb hm5 e0 e1
        go_wp2_with fail
        go_roundw
        case rel => exact ⟨i + 1, K2, P2, A5, c5, rfl, by omega, by go_num, HRef, HStep, HK5, HB⟩
        case measure => simp [intOf] <;> omega
    · obtain rfl : i = Ms.length := by omega
      have hlt' : ¬ (Ms.length : Int) < (Ms.length : Int) := by omega
      have hsp := HSp.out
      rw [List.take_length] at hsp
      go_wp2_with fail
      go_ret
      exact ⟨K, P, A', c', rfl, HR.out, hsp, HK.out, HB.out⟩
end
section
/- The lowest bit of a word: how a word is cut at it. No program. -/
set_option linter.unusedVariables false
set_option linter.unusedSimpArgs false
/-- The table of places by a de Bruijn word, as the library has it. -/
def dbTab : List Nat := [0, 1, 56, 2, 57, 49, 28, 3, 61, 58, 42, 50, 38, 29, 17, 4, 62, 47, 59, 36, 45, 43, 51, 22, 53, 39, 33, 30, 24, 18, 12, 5, 63, 55, 48, 27, 60, 41, 37, 16, 46, 35, 44, 21, 52, 32, 23, 11, 54, 26, 40, 15, 34, 20, 31, 10, 25, 14, 19, 9, 13, 8, 7, 6]
end
section
/- The places of the bits 1 of words, and how they are found word by word, lowest bit first. No program. -/
set_option linter.unusedVariables false
set_option linter.unusedSimpArgs false
/-- Where bits are 1, of the first m. -/
def plcN (us : List Nat) (m : Nat) : List Nat := (List.range m).filter fun p => bitAt us p == 1
theorem plcN_succ (us : List Nat) (m : Nat) : plcN us (m + 1) = plcN us m ++ if bitAt us m = 1 then [m] else [] := by
  unfold plcN
  rw [List.range_succ, List.filter_append]
  by_cases h : bitAt us m = 1 <;> simp [h]
theorem bitAt_bit (us : List Nat) (i j : Nat) (h : j < 64) : (bitAt us (64 * i + j) = 1) = ((us.getD i 0).testBit j = true) := by
  unfold bitAt
  rw [show (64 * i + j) / 64 = i by omega, show (64 * i + j) % 64 = j by omega, Nat.testBit_eq_decide_div_mod_eq]
  simp
end
section
/- math/bits.TrailingZeros64, where its table lies as the library has it. -/
set_option linter.unusedVariables false
set_option linter.unusedSimpArgs false
open Go.RowKit
/-- The library's table lies in block 0. -/
def TabAt (w : World) (g : Nat) : Prop := g < w.heap.size ∧ ∀ i, i < 64 → w.cell? ⟨g, i, none⟩ = some (.int .u8 (dbTab.getD i 99 : Nat))
theorem TabAt.below {w w' : World} {g : Nat} (h : TabAt w g) (hb : Below w.heap.size w w') : TabAt w' g := ⟨Nat.lt_of_lt_of_le h.1 hb.size, fun i hi => (hb.cell (p := ⟨g, i, none⟩) h.1).trans (h.2 i hi)⟩
theorem TabAt.same {w w' : World} {g : Nat} (h : TabAt w g) (hb : w'.heap[g]? = w.heap[g]?) : TabAt w' g := by
  refine ⟨?_, fun i hi => (World.cell?_of_block (a := ⟨g, i, none⟩) hb).trans (h.2 i hi)⟩
  rcases Nat.lt_or_ge g w'.heap.size with hl | hg
  · exact hl
  · have h1 := h.1
    rw [Array.getElem?_eq_none hg, Array.getElem?_eq_getElem h1] at hb; cases hb
end
section
/- The iterator bitrow.ones: the places of the bits 1, rising. -/
set_option linter.unusedVariables false
set_option linter.unusedSimpArgs false
open Go.RowKit Go.Shelf
attribute [local go_sem] Oper.semAt_some
/-- What the iterator asks of a round: some blocks stay. -/
def KpS (S : Nat → Prop) (W W' : World) : Prop := ∀ b, S b → W'.heap[b]? = W.heap[b]?
theorem KpS.trans {S : Nat → Prop} {A B C : World} (h : KpS S A B) (k : KpS S B C) : KpS S A C := fun b hb => (k b hb).trans (h b hb)
theorem KpS.refl (S : Nat → Prop) (A : World) : KpS S A A := fun _ _ => rfl
theorem plcN_len (us : List Nat) (m : Nat) : (plcN us m).length ≤ m := by
  have := List.length_filter_le (fun p => bitAt us p == 1) (List.range m)
  simpa [plcN] using this
theorem plcN_lt (us : List Nat) (m : Nat) {p : Nat} (h : p ∈ plcN us m) : p < m := by
  have := (List.mem_filter.1 h).1
  simpa using this
end
section
/- bitrow.ones, and bitrow.Places: the places of the bits 1. -/
set_option linter.unusedVariables false
set_option linter.unusedSimpArgs false
open Go.RowKit Go.Shelf
attribute [local go_sem] Oper.semAt_some
theorem TabAt.put2 {w : World} {g : Nat} {t : TypeId} {a b : Value} (h : TabAt w 0) (hb : Box w g t #[a, b]) (hg : g ≠ 0) (u v : Value) : TabAt ((w.setCell ⟨g, 0, none⟩ u).setCell ⟨g, 1, none⟩ v) 0 := by
  refine h.same ?_
  rw [heap_setCell_other _ ⟨g, 1, none⟩ _ v (Ne.symm hg), heap_setCell_other _ ⟨g, 0, none⟩ _ u (Ne.symm hg)]
def plcZ (ys : List Nat) : List Int := ys.map fun x : Nat => (x : Int)
end
section
/- Rows and their places: a row is that of its places; counts. No program. -/
set_option linter.unusedVariables false
set_option linter.unusedSimpArgs false
theorem plcZ_mem (us : List Nat) (m : Nat) (z : Int) (h : z ∈ plcZ (plcN us m)) : ∃ p : Nat, z = p ∧ p < m ∧ bitAt us p = 1 := by
  obtain ⟨p, hp, rfl⟩ := List.mem_map.1 h
  have := List.mem_filter.1 hp
  exact ⟨p, rfl, by simpa using this.1, by simpa using this.2⟩
theorem ofBits_plc (us : List Nat) (N : Nat) (hr : rightB (N : Int) us = true) (hlt : ∀ j, us.getD j 0 < 18446744073709551616) : ofBits N (plcZ (plcN us N)) = us := by
  have hlen := right_len_eq hr
  rw [Int.toNat_natCast] at hlen
  apply List.ext_getElem (by rw [ofBits_len, hlen])
  intro i h1 h2
  have g1 : (ofBits N (plcZ (plcN us N)))[i] = (ofBits N (plcZ (plcN us N))).getD i 0 := by simp [List.getD, h1]
  have g2 : us[i] = us.getD i 0 := by simp [List.getD, h2]
  rw [g1, g2]
  rw [ofBits_len] at h1
  apply Nat.eq_of_testBit_eq
  intro j
  rw [ofBits_test N _ i j h1]
  by_cases hj : j < 64
  · rw [Bool.eq_iff_iff, ← bitAt_bit us i j hj]
    simp only [List.any_eq_true, Bool.and_eq_true, beq_iff_eq]
    constructor
    · rintro ⟨z, hz, e1, e2⟩
      obtain ⟨p, rfl, -, h4⟩ := plcZ_mem us N z hz
      rw [Int.toNat_natCast] at e1 e2
      rw [← h4]; congr 1; omega
    · intro h
      have hN : 64 * i + j < N := by
        refine Nat.lt_of_not_le fun hle => ?_
        have := right_bits hr (64 * i + j) hle (by omega)
        omega
      refine ⟨((64 * i + j : Nat) : Int), List.mem_map.2 ⟨64 * i + j, List.mem_filter.2 ⟨by simpa using hN, by simpa using h⟩, rfl⟩, ?_, ?_⟩
      · rw [Int.toNat_natCast]; omega
      · rw [Int.toNat_natCast]; omega
  · have : (us.getD i 0).testBit j = false := Nat.testBit_lt_two_pow (Nat.lt_of_lt_of_le (hlt i) (show 2 ^ 64 ≤ 2 ^ j from Nat.pow_le_pow_right (by omega) (by omega)))
    rw [this, List.any_eq_false]
    intro z _
    simp; omega
theorem zip_bit (f : Nat → Nat → Nat) (us vs : List Nat) (p : Nat) (hu : p / 64 < us.length) (hv : p / 64 < vs.length) : (bitAt (List.zipWith f us vs) p == 1) = (f (us.getD (p / 64) 0) (vs.getD (p / 64) 0)).testBit (p % 64) := by
  rw [bitAt_test, zip_last f us vs _ hu hv]
end
section
/- Mathematics of a product of matrices. -/
set_option linter.unusedVariables false
set_option linter.unusedSimpArgs false
theorem bitAt_xor (us vs : List Nat) (p : Nat) (hu : p / 64 < us.length) (hv : p / 64 < vs.length) : bitAt (xorL us vs) p = (bitAt us p + bitAt vs p) % 2 := by
  have hx : (bitAt (xorL us vs) p == 1) = _ := zip_bit (· ^^^ ·) us vs p hu hv
  rw [Nat.testBit_xor, ← bitAt_test, ← bitAt_test] at hx
  have b1 := bitAt_le us p
  have b2 := bitAt_le vs p
  have b3 := bitAt_le (xorL us vs) p
  rcases b1 with b1 | b1 <;> rcases b2 with b2 | b2 <;> rcases b3 with b3 | b3 <;> simp [b1, b2, b3] at hx ⊢
theorem bitAt_zeros (n p : Nat) : bitAt (List.replicate n 0) p = 0 := by
  unfold bitAt
  have : (List.replicate n 0).getD (p / 64) 0 = 0 := by
    simp only [List.getD, List.getElem?_replicate]; split <;> rfl
  rw [this]; simp
theorem right_zeros (n : Nat) (h : lmb (n : Int) = true) : rightB (n : Int) (List.replicate (nw n) 0) = true := by
  simp only [rightB, h, Int.toNat_natCast, List.length_replicate, Bool.true_and, beq_self_eq_true]
  have : (List.replicate (nw n) 0).getD (nw n - 1) 0 = 0 := by
    simp only [List.getD, List.getElem?_replicate]; split <;> rfl
  rw [this]; simp
theorem xorL_lt (us vs : List Nat) (hu : ∀ j, us.getD j 0 < 18446744073709551616) (hv : ∀ j, vs.getD j 0 < 18446744073709551616) (j : Nat) : (xorL us vs).getD j 0 < 18446744073709551616 := by
  unfold xorL
  simp only [List.getD, List.getElem?_zipWith]
  have h1 := hu j
  have h2 := hv j
  simp only [List.getD] at h1 h2
  cases e1 : us[j]? <;> cases e2 : vs[j]? <;> simp [e1, e2] at h1 h2 ⊢
  exact Nat.xor_lt_two_pow (n := 64) h1 h2
/-- Two rows that may be, of the same bits, are the same. -/
theorem right_ext {n : Nat} {us vs : List Nat} (h1 : rightB (n : Int) us = true) (h2 : rightB (n : Int) vs = true) (hu : ∀ j, us.getD j 0 < 18446744073709551616) (hv : ∀ j, vs.getD j 0 < 18446744073709551616) (h : ∀ i, i < n → bitAt us i = bitAt vs i) : us = vs := by
  rw [← ofBits_plc us n h1 hu, ← ofBits_plc vs n h2 hv]
  have : plcN us n = plcN vs n := by
    unfold plcN
    apply List.filter_congr
    intro p hp
    rw [h p (by simpa using hp)]
  rw [this]
/-- The xor of those rows that stand at some places. -/
def xrowsF (ms : List (Int × List Nat)) (acc : List Nat) (ps : List Nat) : List Nat := ps.foldl (fun acc p => xorL acc (ms.getD p (0, [])).2) acc
def xrows (n : Nat) (ms : List (Int × List Nat)) (ps : List Nat) : List Nat := xrowsF ms (List.replicate (nw n) 0) ps
theorem xrowsF_right {n : Nat} {ms : List (Int × List Nat)} (hr : rightM n ms = true) (ps : List Nat) (hp : ∀ p ∈ ps, p < ms.length) (acc : List Nat) (ha : rightB (n : Int) acc = true) : rightB (n : Int) (xrowsF ms acc ps) = true := by
  induction ps generalizing acc with
  | nil => exact ha
  | cons p ps ih => exact ih (fun q hq => hp q (List.mem_cons_of_mem _ hq)) _ (right_xor ha (rightM_at hr p (hp p (List.mem_cons_self ..))).2)
theorem xrowsF_lt {ms : List (Int × List Nat)} (hz : ∀ i j, ((ms.getD i (0, [])).2).getD j 0 < 18446744073709551616) (ps : List Nat) (acc : List Nat) (ha : ∀ j, acc.getD j 0 < 18446744073709551616) (j : Nat) : (xrowsF ms acc ps).getD j 0 < 18446744073709551616 := by
  induction ps generalizing acc with
  | nil => exact ha j
  | cons p ps ih => exact ih _ (xorL_lt _ _ ha (hz p))
theorem rightM_lmb {n : Nat} {ms : List (Int × List Nat)} (hr : rightM n ms = true) : lmb (n : Int) = true := by
  have := rightM_bd hr
  exact (lmb_iff n).2 ⟨by omega, by omega⟩
theorem xrows_right {n : Nat} {ms : List (Int × List Nat)} (hr : rightM n ms = true) (ps : List Nat) (hp : ∀ p ∈ ps, p < ms.length) : rightB (n : Int) (xrows n ms ps) = true := xrowsF_right hr ps hp _ (right_zeros n (rightM_lmb hr))
theorem xrows_lt (n : Nat) {ms : List (Int × List Nat)} (hz : ∀ i j, ((ms.getD i (0, [])).2).getD j 0 < 18446744073709551616) (ps : List Nat) (j : Nat) : (xrows n ms ps).getD j 0 < 18446744073709551616 := xrowsF_lt hz ps _ (zeros_lt _) j
theorem right_has {n : Nat} {us : List Nat} (h : rightB (n : Int) us = true) {i : Nat} (hi : i < n) : i / 64 < us.length := by
  have := right_len_eq h
  rw [Int.toNat_natCast] at this
  unfold nw at this; omega
theorem xrowsF_bit {n : Nat} {ms : List (Int × List Nat)} (hr : rightM n ms = true) (ps : List Nat) (hp : ∀ p ∈ ps, p < ms.length) (acc : List Nat) (ha : rightB (n : Int) acc = true) (i : Nat) (hi : i < n) : bitAt (xrowsF ms acc ps) i = (bitAt acc i + (ps.map fun p => mbit ms p i).sum) % 2 := by
  induction ps generalizing acc with
  | nil =>
    have := bitAt_le acc i
    simp [xrowsF]; omega
  | cons p ps ih =>
    have hp0 := (rightM_at hr p (hp p (List.mem_cons_self ..))).2
    have := ih (fun q hq => hp q (List.mem_cons_of_mem _ hq)) _ (right_xor ha hp0)
    have e : xrowsF ms acc (p :: ps) = xrowsF ms (xorL acc (ms.getD p (0, [])).2) ps := rfl
    rw [e, this, bitAt_xor _ _ _ (right_has ha hi) (right_has hp0 hi), List.map_cons, List.sum_cons]
    show (_ % 2 + _) % 2 = (_ + (bitAt (ms.getD p (0, [])).2 i + _)) % 2
    omega
theorem xrows_bit {n : Nat} {ms : List (Int × List Nat)} (hr : rightM n ms = true) (ps : List Nat) (hp : ∀ p ∈ ps, p < ms.length) (i : Nat) (hi : i < n) : bitAt (xrows n ms ps) i = (ps.map fun p => mbit ms p i).sum % 2 := by
  unfold xrows
  rw [xrowsF_bit hr ps hp _ (right_zeros n (rightM_lmb hr)) i hi, bitAt_zeros, Nat.zero_add]
/-- The sum of products of bits. -/
def psum (us : List Nat) (ms : List (Int × List Nat)) (i : Nat) : Nat → Nat
  | 0 => 0
  | k + 1 => psum us ms i k + bitAt us k * mbit ms k i
theorem psum_plc (us : List Nat) (ms : List (Int × List Nat)) (i k : Nat) : ((plcN us k).map fun p => mbit ms p i).sum = psum us ms i k := by
  induction k with
  | zero => rfl
  | succ k ih =>
    rw [plcN_succ, List.map_append, List.sum_append, ih]
    simp only [psum]
    rcases bitAt_le us k with h | h <;> simp [h]
/-- A row times a matrix of n columns. -/
def mulW (n : Nat) (ms : List (Int × List Nat)) (us : List Nat) : List Nat := xrows n ms (plcN us ms.length)
theorem plc_lt {us : List Nat} {k : Nat} : ∀ p ∈ plcN us k, p < k := fun _ h => plcN_lt us k h
theorem mulW_right {n : Nat} {ms : List (Int × List Nat)} (hr : rightM n ms = true) (us : List Nat) : rightB (n : Int) (mulW n ms us) = true := xrows_right hr _ plc_lt
theorem mulW_lt (n : Nat) {ms : List (Int × List Nat)} (hz : ∀ i j, ((ms.getD i (0, [])).2).getD j 0 < 18446744073709551616) (us : List Nat) (j : Nat) : (mulW n ms us).getD j 0 < 18446744073709551616 := xrows_lt n hz _ j
theorem mulW_bit {n : Nat} {ms : List (Int × List Nat)} (hr : rightM n ms = true) (us : List Nat) (i : Nat) (hi : i < n) : bitAt (mulW n ms us) i = psum us ms i ms.length % 2 := by
  unfold mulW
  rw [xrows_bit hr _ plc_lt i hi, psum_plc]
def mulM (n : Nat) (ms rs : List (Int × List Nat)) : List (Int × List Nat) := (List.range rs.length).map fun i => ((n : Int), mulW n ms (rs.getD i (0, [])).2)
theorem mulM_len (n : Nat) (ms rs : List (Int × List Nat)) : (mulM n ms rs).length = rs.length := by simp [mulM]
theorem mulM_at (n : Nat) (ms rs : List (Int × List Nat)) (i : Nat) (h : i < rs.length) : (mulM n ms rs).getD i (0, []) = ((n : Int), mulW n ms (rs.getD i (0, [])).2) := by simp [mulM, List.getD, h]
end
end Go.Proofs.YtcikoaeiopbbbaaGreat
