/- Parts: Rd2, RngS, QTail, QTailS. -/
import Derived.Test.YtdfmogcgangdnaaZf
import Derived.Deep.RegionHeld3
import Derived.OrdersIn
import Derived.RangeFuncBound
import Derived.RangeFuncBox
import Derived.RangeFuncCalls
import Derived.RangeFuncLeaves
import Derived.RangeFuncNested
import Derived.Sort.QuietIn
import Derived.Sort.QuietTacIn
import Derived.Sort.QuietThIn
import Derived.StillTail
import Derived.TacticsIn
namespace Go.Proofs.Ytdfmogcgangdnaa
section
/- Layer 4: clear: a column is put out of all rows but one. -/
set_option linter.unusedVariables false
set_option linter.unusedSimpArgs false
open Go.RowKit
set_option maxRecDepth 100000
theorem gk_trans {w w1 w2 : World} {g : Nat} (h : w.grownBy w1 (some g)) (k : w1.grownBy w2 (some g)) : w.grownBy w2 (some g) :=
  ⟨k.os.trans h.os, k.tape.trans h.tape, k.output.trans h.output, Nat.le_trans h.size k.size, fun b hb hne => (k.block b (Nat.lt_of_lt_of_le hb h.size) hne).trans (h.block b hb hne)⟩
theorem gk_below {w w1 : World} {r : Option Nat} (h : Below w.heap.size w w1) : w.grownBy w1 r := ⟨h.os, h.tape, h.output, h.size, fun b hb _ => h.block b hb⟩
theorem gk_set (w : World) (g i : Nat) (u : Value) : w.grownBy (w.setCell ⟨g, i, none⟩ u) (some g) :=
  ⟨rfl, rfl, rfl, by simp [World.setCell], fun b _ hne => Below.heap_setCell _ _ _ _ (fun e => hne (by rw [e]))⟩
theorem gk_drew {w w1 : World} {r : Option Nat} (h : w.grownBy w1 r) : w.grownBy w1.drew r := ⟨h.os, h.tape, h.output, h.size, h.block⟩
theorem RowsN.drew {w : World} {base : Nat} {v : Value} {N : Nat} {L : List Nat} (h : RowsN w base v N L) : RowsN w.drew base v N L := h
theorem gk_refl (w : World) (r : Option Nat) : w.grownBy w r := ⟨rfl, rfl, rfl, Nat.le_refl _, fun _ _ _ => rfl⟩
theorem gk_box {w w1 : World} {g b : Nat} {t : TypeId} {cs : Array Value} (h : Box w b t cs) (k : w.grownBy w1 (some g)) (hne : b ≠ g) : Box w1 b t cs := (k.block b h.lt (fun e => hne (Option.some.inj e))).trans h
/-- The column put out of the first i rows. -/
def clearP (L : List Nat) (d c i : Nat) : List Nat := (List.range L.length).map fun j => if j < i ∧ j ≠ d ∧ (L.getD j 0).testBit c = true then L.getD j 0 ^^^ L.getD d 0 else L.getD j 0
theorem clearP_len (L : List Nat) (d c i : Nat) : (clearP L d c i).length = L.length := by simp [clearP]
theorem clearP_at (L : List Nat) (d c i j : Nat) (hj : j < L.length) : (clearP L d c i).getD j 0 = if j < i ∧ j ≠ d ∧ (L.getD j 0).testBit c = true then L.getD j 0 ^^^ L.getD d 0 else L.getD j 0 := by simp [clearP, List.getD, hj]
theorem clearP_zero (L : List Nat) (d c : Nat) : clearP L d c 0 = L := by
  apply List.ext_getElem (clearP_len _ _ _ _)
  intro j h1 h2
  simp [clearP, List.getD, h2]
theorem clearP_all (L : List Nat) (d c : Nat) : clearP L d c L.length = clearL L d c := by
  unfold clearP clearL
  apply List.map_congr_left
  intro j hj
  have : j < L.length := by simpa using hj
  simp [this]
theorem clearP_yes (L : List Nat) (d c i : Nat) (hi : i < L.length) (hd : i ≠ d) (hb : (L.getD i 0).testBit c = true) : clearP L d c (i + 1) = (clearP L d c i).set i (L.getD i 0 ^^^ L.getD d 0) := by
  apply List.ext_getElem (by simp [clearP])
  intro j h1 h2
  have hj : j < L.length := by rw [clearP_len] at h1; exact h1
  have a := clearP_at L d c (i + 1) j hj
  have b := clearP_at L d c i j hj
  rw [List.getElem_set]
  have e1 : (clearP L d c (i + 1)).getD j 0 = (clearP L d c (i + 1))[j] := by simp only [List.getD, List.getElem?_eq_getElem h1, Option.getD_some]
  have h3 : j < (clearP L d c i).length := by rw [clearP_len]; exact hj
  have e2 : (clearP L d c i).getD j 0 = (clearP L d c i)[j] := by simp only [List.getD, List.getElem?_eq_getElem h3, Option.getD_some]
  rw [← e1, a]
  by_cases e : i = j
  · subst e; rw [if_pos rfl, if_pos ⟨by omega, hd, hb⟩]
  · rw [if_neg e, ← e2, b]
    by_cases hl : j < i
    · simp only [hl, show j < i + 1 by omega]
    · simp only [hl, show ¬ j < i + 1 by omega]
theorem clearP_no (L : List Nat) (d c i : Nat) (h : ¬ (i ≠ d ∧ (L.getD i 0).testBit c = true)) : clearP L d c (i + 1) = clearP L d c i := by
  unfold clearP
  apply List.map_congr_left
  intro j hj
  by_cases e : j = i
  · subst e; rw [if_neg (fun k => h k.2), if_neg (fun k => h k.2)]
  · by_cases hl : j < i
    · simp only [hl, show j < i + 1 by omega]
    · simp only [hl, show ¬ j < i + 1 by omega]
theorem lt_all {N : Nat} {L : List Nat} (h : ∀ r ∈ L, r < 2 ^ N) (i : Nat) : L.getD i 0 < 2 ^ N := by
  by_cases hi : i < L.length
  · exact h _ (getD_mem hi)
  · have : L[i]? = none := List.getElem?_eq_none (by omega)
    simp only [List.getD, this, Option.getD_none]; exact Nat.two_pow_pos N
theorem clearP_lt {N : Nat} {L : List Nat} (h : ∀ i, L.getD i 0 < 2 ^ N) (d c k i : Nat) : (clearP L d c k).getD i 0 < 2 ^ N := by
  by_cases hi : i < L.length
  · rw [clearP_at L d c k i hi]
    split
    · exact Nat.xor_lt_two_pow (h i) (h d)
    · exact h i
  · have : (clearP L d c k)[i]? = none := List.getElem?_eq_none (by rw [clearP_len]; omega)
    simp only [List.getD, this, Option.getD_none]; exact Nat.two_pow_pos N
/-- The xor of two rows told by numbers. -/
theorem xor_num (N x y : Nat) (hN : N ≤ 512) (hx : x < 2 ^ N) (hy : y < 2 ^ N) (A B : Option Addr) (l c k d : Nat) (w : World) (hu : Words w A l (rowOf N x)) (hv : Words w B k (rowOf N y)) :
    Calls Try.prog 19 #[.agg #[.int .i64 (N : Int), .slice A l c], .agg #[.int .i64 (N : Int), .slice B k d]] w (OwnOut N (rowOf N (x ^^^ y)) w) := by
  have h := xor_own (N : Int) A B l c k d (rowOf N x) (rowOf N y) w hu hv (rowOf_right N x hN hx) (rowOf_right N y hN hy)
  rw [rowOf_xor] at h
  exact h
theorem set2_cell {w : World} {g i j : Nat} {x : Value} (h : w.cell? ⟨g, j, none⟩ = some x) (h1 : ¬ j = i) (h2 : ¬ j = i + 1) (u v : Value) : ((w.setCell ⟨g, i, none⟩ u).setCell ⟨g, i + 1, none⟩ v).cell? ⟨g, j, none⟩ = some x := by
  rw [World.cell?_setCell_other _ _ _ _ (by intro e; injection e; omega), World.cell?_setCell_other _ _ _ _ (by intro e; injection e; omega)]
  exact h
/-- What clear leaves. -/
def ClearOut (N base wb g cap : Nat) (L : List Nat) (d c : Nat) (w : World) (e : Ending) (w' : World) : Prop :=
  (∃ v, e = .returned v) ∧ Box w' wb 67 #[.int .i64 (N : Int), .slice (some ⟨g, 0, none⟩) L.length cap, .int .i64 ((d : Int) + 1)] ∧ RowsN w' base (.slice (some ⟨g, 0, none⟩) L.length cap) N (clearL L d c) ∧ w.grownBy w' (some g)
set_option maxHeartbeats 4000000 in
theorem clear_any (N : Nat) (hN : N ≤ 512) (L : List Nat) (hL : ∀ i, L.getD i 0 < 2 ^ N) (hlen : L.length ≤ 64) (base wb g cap d c : Nat) (hd : d < L.length) (hc : c < N) (hwg : wb ≠ g) (w : World)
    (hb : Box w wb 67 #[.int .i64 (N : Int), .slice (some ⟨g, 0, none⟩) L.length cap, .int .i64 ((d : Int) + 1)]) (hr : RowsN w base (.slice (some ⟨g, 0, none⟩) L.length cap) N L) (hg : g < w.heap.size) :
    Calls Try.prog 32 #[.pointer (some ⟨wb, 0, none⟩), .int .i64 (c : Int)] w (ClearOut N base wb g cap L d c w) := by
  have HBX := Lib.hid hb
  have HR := Lib.hid hr
  obtain ⟨b0, b1, b2, -, -, -⟩ := hb.three
  obtain ⟨-, -, -, -, -, hcap, hcm⟩ : ∃ (_ _ : Nat), True ∧ True ∧ True ∧ L.length ≤ cap ∧ cap ≤ maxLen := by
    obtain ⟨g', cap', hv, -, -, h1, h2⟩ := hr.form (by omega)
    injection hv with _ _ e3
    subst e3
    exact ⟨0, 0, trivial, trivial, trivial, h1, h2⟩
  unfold maxLen at hcm
  clear hb hr
  go_enter Try.func32, Try.ntmps32
  go_wp2_with fail
  clear b0 b1 b2
  go_loopw [17] (fun t wr => ∃ i : Nat, i ≤ L.length ∧ t = .int .i64 (i : Int) ∧ Box wr wb 67 #[.int .i64 (N : Int), .slice (some ⟨g, 0, none⟩) L.length cap, .int .i64 ((d : Int) + 1)] ∧ RowsN wr base (.slice (some ⟨g, 0, none⟩) L.length cap) N (clearP L d c i) ∧ Hid (w.grownBy wr (some g))) (fun t _ => L.length - (intOf t).toNat)
  case atStart => exact ⟨0, Nat.zero_le _, rfl, HBX.out, by rw [clearP_zero]; exact HR.out, Lib.hid (gk_refl _ _)⟩
  case round =>
    obtain ⟨i, hi, rfl, hbx, hrw, HG⟩ := hrel
    have HB := Lib.hid hbx
    have HRw := Lib.hid hrw
    clear hbx hrw HBX HR
    have HCL := Lib.hid (clearP_len L d c i)
    by_cases hlt : i < L.length
    · have hlt' : (i : Int) < (L.length : Int) := by omega
      obtain ⟨A, l, cc, x0, x1, ow, -, -⟩ := HRw.out.at (by rw [HCL.out]) i (by rw [HCL.out]; exact hlt)
      have hx := clearP_at L d c i i hlt
      rw [if_neg (fun k => Nat.lt_irrefl _ k.1)] at hx
      rw [hx] at ow
      clear hx
      -- the row's own variable
      have hal : Below wr.heap.size wr (wr.alloc (.cells #[.int .i64 (N : Int), .slice A l cc] 40)) := (Below.refl _ _).alloc (Nat.le_refl _) _
      have RB := Lib.hid (Box.new wr 40 #[.int .i64 (N : Int), .slice A l cc])
      have HB1 := Lib.hid (HB.out.keep hal)
      have HRw1 := Lib.hid (HRw.out.below hal)
      have HG1 := Lib.hid (gk_trans HG.out (gk_below hal))
      have OW1 := Lib.hid (ow.below hal)
      have hgs : wb < wr.heap.size := HB.out.lt
      clear ow
      obtain ⟨r0, r1, -, -⟩ := RB.out.two
      have HH := Lib.hid (has_any N (L.getD i 0) hN (hL i) A l cc c hc _ (OW1.out.words (rowOf_lt N _)))
      by_cases hid : i = d
      · have t1 : ((i : Int) != (d : Int)) = false := by simp [hid]
        have HNo := Lib.hid (clearP_no L d c i (fun k => k.1 hid))
        clear hid
        go_wp2_with fail
        go_roundw
        case rel => exact ⟨i + 1, by omega, by go_num, HB1.out, by rw [HNo.out]; exact HRw1.out, HG1⟩
        case measure => simp [intOf]; omega
      · have t1 : ((i : Int) != (d : Int)) = true := by simp; omega
        have HNE := Lib.hid hid
        clear hid
        cases hbit : (L.getD i 0).testBit c with
        | false =>
          rw [hbit] at HH
          have HNo := Lib.hid (clearP_no L d c i (fun k => by rw [hbit] at k; cases k.2))
          clear hbit
          go_wp2_with fail
          refine HH.out.mono ?_
          rintro e w1 ⟨rfl, hb⟩
          have HB2 := Lib.hid (HB1.out.keep hb)
          have HRw2 := Lib.hid (HRw1.out.below hb)
          have HG2 := Lib.hid (gk_trans HG1.out (gk_below hb))
          clear hb
          go_wp2_with fail
          go_roundw
          case rel => exact ⟨i + 1, by omega, by go_num, HB2.out, by rw [HNo.out]; exact HRw2.out, HG2⟩
          case measure => simp [intOf]; omega
        | true =>
          rw [hbit] at HH
          have HYes := Lib.hid (clearP_yes L d c i hlt HNE.out hbit)
          clear hbit
          go_wp2_with fail
          refine HH.out.mono ?_
          rintro e w1 ⟨rfl, hb⟩
          have HB2 := Lib.hid (HB1.out.keep hb)
          have HRw2 := Lib.hid (HRw1.out.below hb)
          have HG2 := Lib.hid (gk_trans HG1.out (gk_below hb))
          have RB2 := Lib.hid (RB.out.keep hb)
          have OW2 := Lib.hid (OW1.out.below hb)
          clear hb r0 r1 x0 x1
          obtain ⟨A2, l2, c2, y0, y1, ow2, -, -⟩ := HRw2.out.at (by rw [HCL.out]) d (by rw [HCL.out]; exact hd)
          have hx := clearP_at L d c i d hd
          rw [if_neg (fun k => k.2.1 rfl)] at hx
          rw [hx] at ow2
          clear hx
          have OW3 := Lib.hid ow2
          clear ow2
          obtain ⟨r0, r1, -, -⟩ := RB2.out.two
          obtain ⟨b0, b1, b2, -, -, -⟩ := HB2.out.three
          have HX := Lib.hid (fun W (h1 : Words W A l (rowOf N (L.getD i 0))) (h2 : Words W A2 l2 (rowOf N (L.getD d 0))) => xor_num N (L.getD i 0) (L.getD d 0) hN (hL i) (hL d) A A2 l cc l2 c2 W h1 h2)
          have WD1 := Lib.hid (show Words w1.drew A l (rowOf N (L.getD i 0)) from OW2.out.words (rowOf_lt N _))
          have WD2 := Lib.hid (show Words w1.drew A2 l2 (rowOf N (L.getD d 0)) from OW3.out.words (rowOf_lt N _))
          have HV := Lib.hid (show Value.slice (some ⟨g, 0, none⟩) L.length cap = .slice (some ⟨g, 0, none⟩) (clearP L d c i).length cap by rw [HCL.out])
          have HGl := Lib.hid (show g < w1.drew.heap.size from Nat.lt_of_lt_of_le hg HG2.out.size)
          have HI1 := Lib.hid (show i < (clearP L d c i).length by rw [HCL.out]; exact hlt)
          have hdc : (d : Int) < (L.length : Int) := by omega
          have hgr : g < wr.heap.size := Nat.lt_of_lt_of_le hg HG.out.size
          have n1 : ¬ d * 2 = i * 2 := by have := HNE.out; omega
          have n2 : ¬ d * 2 = i * 2 + 1 := by omega
          have n3 : ¬ d * 2 + 1 = i * 2 := by omega
          have n4 : ¬ d * 2 + 1 = i * 2 + 1 := by have := HNE.out; omega
          have n5 : ¬ wb = g := hwg
          have n6 : ¬ wr.heap.size = g := by omega
          have m1 : ¬ i * 2 = d * 2 := by have := HNE.out; omega
          have m2 : ¬ i * 2 + 1 = d * 2 := by omega
          have m3 : ¬ i * 2 = d * 2 + 1 := by omega
          have m4 : ¬ i * 2 + 1 = d * 2 + 1 := by have := HNE.out; omega
          have m5 : ¬ g = wb := fun e => hwg e.symm
          have m6 : ¬ g = wr.heap.size := by omega
          go_wp2_with fail
          go_region_held3 (fun w' => w'.cell? ⟨wb, 1, none⟩ = some (.slice (some ⟨g, 0, none⟩) L.length cap) ∧ w'.cell? ⟨wr.heap.size, 0, none⟩ = some (.int .i64 (N : Int)) ∧ w'.cell? ⟨wr.heap.size, 1, none⟩ = some (.slice A l cc) ∧ w'.cell? ⟨g, d * 2, none⟩ = some (.int .i64 (N : Int)) ∧ w'.cell? ⟨g, d * 2 + 1, none⟩ = some (.slice A2 l2 c2)) (go_keep)
            (first | (go_at_call 19; refine (HX.out _ WD1.out WD2.out).mono ?_; rintro f1 y1' ⟨A3, l3, c3, rfl, ow3, hb⟩; have HB3 := Lib.hid (HB2.out.drew.keep hb); have HRw3 := Lib.hid (HRw2.out.drew.below hb); have HG3 := Lib.hid (gk_trans (gk_drew HG2.out) (gk_below hb)); have RB3 := Lib.hid (RB2.out.drew.keep hb); have OW4 := Lib.hid ow3; have q0 := (hb.cell (p := ⟨g, d * 2, none⟩) HGl.out).trans y0; have q1 := (hb.cell (p := ⟨g, d * 2 + 1, none⟩) HGl.out).trans y1; clear ow3 hb; obtain ⟨s0, s1, -, -⟩ := RB3.out.two; obtain ⟨p0, p1, p2, -, -, -⟩ := HB3.out.three; obtain ⟨A5, l5, c5, z0, z1, -, zf0, zf1⟩ := HRw3.out.at HV.out i HI1.out; have k0 := set2_cell q0 n1 n2 (.int .i64 (N : Int)) (.slice A3 l3 c3); have k1 := set2_cell q1 n3 n4 (.int .i64 (N : Int)) (.slice A3 l3 c3)))
          clear k0 k1 q0 q1
          go_wp2_with fail
          go_roundw
          case rel =>
            have hput := RowsN.put (L := clearP L d c i) (by rw [HCL.out]; exact HRw3.out) i HI1.out (L.getD i 0 ^^^ L.getD d 0) OW4.out
            rw [← HYes.out, HCL.out] at hput
            exact ⟨i + 1, by omega, by go_num, (HB3.out.far (p := ⟨g, i * 2, none⟩) hwg _).far (p := ⟨g, i * 2 + 1, none⟩) hwg _, hput, Lib.hid (gk_trans (gk_trans HG3.out (gk_set _ g (i * 2) _)) (gk_set _ g (i * 2 + 1) _))⟩
          case measure => simp [intOf]; omega
    · obtain rfl : i = L.length := by omega
      have hlt' : ¬ (L.length : Int) < (L.length : Int) := by omega
      have hrw := HRw.out
      rw [clearP_all] at hrw
      go_wp2_with fail
      go_end0
      exact ⟨⟨_, rfl⟩, HB.out, hrw, HG.out⟩
end
section
/- A law of one's own for 'for .. := range seq' where the iterator (a function or a method's value) and the body share a state: what holds at a round's head, and what holds where the round is handed over. No program. -/
set_option linter.unusedVariables false
set_option linter.unusedSimpArgs false
open Go.RowKit
variable {F : Fence} {n : Nat} {P : Program}
/-- How a round may be left. -/
def postS {σ : Type} (I : σ → World → Prop) (s : σ) (W : World) : Exit → Act → World → Prop
  | .normal, _, W' => KeepsOthers W W' ∧ I s W'
  | .ret, _, _ => False
  | .exit _, _, _ => False
  | .goto _, _, _ => False
  | .panic _, _, _ => False
  | .outgrown, _, _ => False
theorem range_state {σ : Type} {g : Operand} {ps : Array Tmp} {assign body : Code} {Q : Exit → Act → World → Prop} {a : Act} {w : World}
    (hro : F.round = none) (h1 : 1 ≤ n) {gf : Nat} {la lb : Array Value} (hg : a.eval g = .func (.func gf) la lb) (hFg : F.fn gf) (eg : ∀ args w, (callFunc gf args).run P w = .ok (.enter gf args) w)
    {encs : σ → Array Value} (next : σ → σ) (Fin : σ → Prop) (hps : ∀ x, (encs x).size = ps.size)
    (s₀ : σ) (I M : σ → World → Prop) (hI : OwnFrom w.heap.size I) (hM : OwnFrom w.heap.size M)
    (hseq : ∀ (l : Nat) (T : World → Prop), (∀ W W', T W → KeepsOthers W W' → T W') →
      (∀ s W, M s W → T W → YieldAt F (n - 1 - 1) P l (encs s) W fun e W' => e = .returned (.bool true) ∧ I (next s) W' ∧ T W') →
      ∀ s W1, I s W1 → T W1 → s = s₀ → CallsIn F (n - 1) P gf (la ++ #[.func (.yield l) #[] #[]] ++ lb) W1 fun e W' => (∃ v, e = .returned v) ∧ ∃ s, Fin s ∧ I s W' ∧ T W')
    (h0 : I s₀ w) (a₁ : σ → Act)
    (hassign : ∀ (l : Nat) (x : σ) (W : World) (K : Act → World → Prop), K (a₁ x) W →
      assign.wpIn (F.inRound l) (n - 1 - 1) P (Exit.then K (fun _ _ _ => False)) { tmps := (ps.zip (encs x)).foldl (fun t (p, v) => t.setIfInBounds p v) a.tmps, defers := [] } W)
    (hbody : ∀ (l : Nat) (s : σ) (W : World), M s W → body.wpIn (F.inRound l) (n - 1 - 1) P (postS I (next s) W) (a₁ s) W)
    (hdone : ∀ (D : Nat) (s : σ) (W : World), w.heap.size ≤ D → Fin s → I s W → W.heap[D]? = some (.deferred (some [])) → Q .normal { a with defers := { target := .collected D, args := #[] } :: a.defers } W) :
    (Code.rangeFunc g ps assign body).wpIn F n P Q a w := by
  refine wpIn_rangeFunc ?_
  intro fn hfn
  rw [hro]
  obtain ⟨rc, hrc⟩ : ∃ rc : LoopState → Option Code → Loop, rc = fun st pe => { state := st, pending := pe, fn, tmps := a.tmps, params := ps, assign, body, defers := w.heap.size } := ⟨_, rfl⟩
  obtain ⟨W1, hW1⟩ : ∃ W1, (w.alloc (.deferred (some []))).alloc (.loop (rc .ready none)) = W1 := ⟨_, rfl⟩
  have hL1 : W1.heap[w.heap.size + 1]? = some (.loop (rc .ready none)) := by
    rw [← hW1]; have := World.alloc_heap_new (w.alloc (.deferred (some []))) (.loop (rc .ready none)); rwa [World.size_alloc] at this
  have hK1 : W1.heap[w.heap.size]? = some (.deferred (some [])) := by
    rw [← hW1]; exact (Below.heap_alloc _ _ _ (by simp)).trans (World.alloc_heap_new w _)
  have hI1 : I s₀ W1 := by rw [← hW1]; exact hI.alloc _ (hI.alloc _ h0)
  refine ⟨w.heap.size + 1, [{ target := .collected w.heap.size, args := #[] }], W1, { target := .fn (.func gf) lb, args := la ++ #[.func (.yield (w.heap.size + 1)) #[] #[]] }, W1, gf,
    la ++ #[.func (.yield (w.heap.size + 1)) #[] #[]] ++ lb, W1, ?_, ?_, ?_, ?_, fun _ => h1, ?_⟩
  · rw [← hW1, hrc]; exact run_enterLoop_outer _ _ _ _ _
  · simp only [resolve, hg]
    simp [go_sem]
  · intro f' hf'; simp [Target.leads] at hf'; subst hf'; exact hFg
  · simp [invoke, go_sem, eg]
  · refine (hseq (w.heap.size + 1)
      (fun W => W.heap[w.heap.size + 1]? = some (.loop (rc .ready none)) ∧ W.heap[w.heap.size]? = some (.deferred (some [])))
      (fun W W' hs hk => ⟨hk.same _ _ hs.1 rfl, hk.same _ _ hs.2 rfl⟩) ?_ s₀ W1 hI1 ⟨hL1, hK1⟩ rfl).mono ?_
    · rintro s W hm ⟨hl, hk⟩
      have hlt : w.heap.size + 1 < W.heap.size := (Array.getElem?_eq_some_iff.1 hl).1
      have hy := run_yield (P := P) (args := encs s) hl (by rw [hrc]; exact hps _)
      rw [hrc] at hy
      refine ⟨fn, _, assign, body, hy, roundIn_of_wpIn hfn (hassign _ s W _ ⟨_, run_beginRound hl (by rw [hrc]), ?_⟩)⟩
      have hl2 : (W.putObj (w.heap.size + 1) (.loop { rc .ready none with state := .busy })).heap[w.heap.size + 1]? = some (.loop { rc .ready none with state := .busy }) := World.putObj_heap_same hlt
      have hk2 : (W.putObj (w.heap.size + 1) (.loop { rc .ready none with state := .busy })).heap[w.heap.size]? = some (.deferred (some [])) := (World.putObj_heap_other (by omega)).trans hk
      refine wpIn_mono (hbody _ s _ (hM.putObj _ hm (by omega) hl rfl)) ?_
      rintro e a3 W3 hp
      cases e with
      | normal =>
        obtain ⟨hk3, hi3⟩ := hp
        have hl3 := hk3.same _ _ hl2 rfl
        have hr := run_endRound (P := P) none hl3
        have hl4 : (W3.putObj (w.heap.size + 1) (.loop (rc .ready none))).heap[w.heap.size + 1]? = some (.loop (rc .ready none)) := World.putObj_heap_same (Array.getElem?_eq_some_iff.1 hl3).1
        have hk4 : (W3.putObj (w.heap.size + 1) (.loop (rc .ready none))).heap[w.heap.size]? = some (.deferred (some [])) := (World.putObj_heap_other (by omega)).trans (hk3.same _ _ hk2 rfl)
        have hi4 := hI.putObj (.loop (rc .ready none)) hi3 (by omega) hl3 rfl
        rw [hrc] at hr hl4 hk4 hi4 ⊢
        exact ⟨_, _, hr, rfl, hi4, hl4, hk4⟩
      | ret => exact hp.elim
      | exit id => exact hp.elim
      | goto t => exact hp.elim
      | panic ch => exact hp.elim
      | outgrown => exact hp.elim
    · rintro e W2 ⟨⟨v, rfl⟩, s, hf, hi, hl, hk⟩
      exact ⟨none, _, by have := run_endLoop (P := P) hl (by rw [hrc]; simp); rw [hrc] at this; exact this, hdone _ s _ (Nat.le_refl _) hf (hI.putObj _ hi (by omega) hl rfl) ((World.putObj_heap_other (by omega)).trans hk)⟩
end
section
/- A law of one's own for a region that draws its order inside a fence: its first operations and calls leave the world alone but for draws, the rest come one after the other (a call that writes among them). One walk serves every order. No program. -/
set_option linter.unusedVariables false
set_option linter.unusedSimpArgs false
section
variable {F : Fence} {n : Nat} {P : Program} {ops : Array Oper} {md : Region.Mode} {C : World → Prop}
/-- Whatever order the first m operations take, f of them are still to come; L at the end. -/
def headIn (F : Fence) (n : Nat) (P : Program) (md : Region.Mode) (ops : Array Oper) (C : World → Prop) (m : Nat) (L : Array Bool → Act → Prop) : Nat → Array Bool → Act → Prop
  | 0, listed, a => L listed a
  | f + 1, listed, a => Region.ready md ops listed ≠ [] ∧ ∀ i ∈ Region.ready md ops listed, i < m ∧ qOpIn F n P ops C i (headIn F n P md ops C m L f (listed.setIfInBounds i true)) a
theorem any_of_head {m g : Nat} {L : Array Bool → Act → Prop} {Q : Exit → Act → World → Prop} (hro : F.round = none) (hL : ∀ listed a w, C w → L listed a → wpAnyIn F n P md ops Q g listed a w) :
    ∀ (f : Nat) (listed : Array Bool) (a : Act) (w : World), C w → headIn F n P md ops C m L f listed a → wpAnyIn F n P md ops Q (f + g) listed a w
  | 0, listed, a, w, hw, h => by rw [Nat.zero_add]; exact hL _ _ _ hw h
  | f + 1, listed, a, w, hw, h => by
    rw [show f + 1 + g = (f + g) + 1 by omega]
    exact ⟨fun h0 => absurd h0 h.1, fun i hi => wpOpIn_of_qOpIn hro hw (fun a' w' hw' h' => any_of_head hro hL f _ a' w' hw' h') (h.2 i hi).2⟩
theorem head_first {m i : Nat} {oi : Oper} {v : Value} {L : Array Bool → Act → Prop} (hi : ops[i]? = some oi) (hsel : ∀ (j : Nat) (o : Oper) cs b, ops[j]? = some o → o.op ≠ .select cs b)
    (hs : Region.sinkB md ops m = true) (hc : Region.chainB md ops m = true) (hm : m < ops.size) (him : i < m) (hdone : ∀ listed a, L listed a → ∀ j ∈ Region.ready md ops listed, m ≤ j) :
    ∀ (f : Nat) (listed : Array Bool) (a : Act), HeadInv md ops m listed →
      (∀ j oj, ops[j]? = some oj → j ≠ i → listed.getD j true = false → (∀ e ∈ oj.after, Region.binds md e = true → e.on ≠ i) → oi.apart ops oj = true) →
      i ∈ Region.ready md ops listed → YieldsQuiet F n P ops C oi v a →
      headIn F n P md ops C m L f (listed.setIfInBounds i true) (a.put oi.dst v) → headIn F n P md ops C m L (f + 1) listed a := by
  intro f
  induction f with
  | zero =>
    intro listed a inv _ hr hy H
    have hun := (mem_ready.1 hr).1
    refine ⟨fun h => (by rw [h] at hr; cases hr), fun j hj => ?_⟩
    have hjm : j < m := by
      rcases Nat.lt_or_ge j m with h | h
      · exact h
      · exact absurd hj (tail_waits hs hc hm inv _ i rfl him hun j h)
    refine ⟨hjm, ?_⟩
    by_cases hji : j = i
    · subst hji; exact hy.qOpIn hi H
    · have := hdone _ _ H j (ready_mono hj hji)
      omega
  | succ f ih =>
    intro listed a inv hfree hr hy H
    have hun := (mem_ready.1 hr).1
    refine ⟨fun h => (by rw [h] at hr; cases hr), fun j hj => ?_⟩
    have hjm : j < m := by
      rcases Nat.lt_or_ge j m with h | h
      · exact h
      · exact absurd hj (tail_waits hs hc hm inv _ i rfl him hun j h)
    refine ⟨hjm, ?_⟩
    by_cases hji : j = i
    · subst hji; exact hy.qOpIn hi H
    · have h1 := (H.2 j (ready_mono hj hji)).2
      obtain ⟨hjun, oj, hoj, hall⟩ := mem_ready.1 hj
      have hnot : ∀ e ∈ oj.after, Region.binds md e = true → e.on ≠ i := fun e he hb heq => by
        have h1 := hall e he hb
        rw [heq, getD_both hun] at h1
        cases h1
      have h2 := qOpIn_put hoj (hfree j oj hoj hji hjun hnot) (fun cs b => hsel i oi cs b hi) (fun cs b => hsel j oj cs b hoj) hy h1
      have hfree' : ∀ k ok, ops[k]? = some ok → k ≠ i → (listed.setIfInBounds j true).getD k true = false →
          (∀ e ∈ ok.after, Region.binds md e = true → e.on ≠ i) → oi.apart ops ok = true := fun k ok hk hki hun hno => by
        refine hfree k ok hk hki ?_ hno
        by_cases hjk : j = k
        · subst hjk; exact hjun
        · rw [getD_set_ne true hjk] at hun; exact hun
      refine qOpIn_mono (fun a' h3 => ih (listed.setIfInBounds j true) a' (inv.set hj hjm) hfree' (ready_mono hr (Ne.symm hji)) h3.1 ?_) h2
      rw [Array.setIfInBounds_comm _ _ hji]
      exact h3.2
theorem any_of_list {Q : Exit → Act → World → Prop} : ∀ (l : List Oper) (k : Nat) (listed : Array Bool) (a : Act) (w : World), (∀ j, l[j]? = ops[k + j]?) →
    Region.seqB md ops l.length k listed = true → wpListIn F n P ops Q l a w → wpAnyIn F n P md ops Q l.length listed a w
  | [], _, _, _, _, _, hB, h => ⟨by simpa [Region.seqB] using hB, h⟩
  | o :: l, k, listed, a, w, hl, hB, h => by
    have h0 : ops[k]? = some o := by simpa using (hl 0).symm
    simp only [List.length_cons, Region.seqB, Bool.and_eq_true, decide_eq_true_eq] at hB
    refine ⟨fun h1 => (by rw [hB.1] at h1; cases h1), fun i hi => ?_⟩
    rw [hB.1] at hi
    have hik : i = k := by simpa using hi
    subst hik
    have hw : wpOpIn F n P ops Q i (wpListIn F n P ops Q l) a w := by unfold wpOpIn; simp only [h0]; exact h
    exact wpOpIn_mono (fun a' w' h' => any_of_list l (i + 1) _ a' w' (fun j => by have := hl (j + 1); simpa [Nat.add_assoc, Nat.add_comm 1 j] using this) hB.2 h') hw
theorem head_lex {m g : Nat} {Lq : Act → Prop} (hsel : Region.noSelect ops = true) (hs : Region.sinkB md ops m = true) (hc : Region.chainB md ops m = true) (hm : m < ops.size) :
    ∀ (l : List Oper) (k : Nat) (listed : Array Bool) (a : Act), (∀ j, j < l.length → l[j]? = ops[k + j]?) → k + l.length = m → HeadInv md ops m listed →
    Region.lexHead md ops g l.length k listed = true → wpQuietIn F n P ops C Lq l a →
    headIn F n P md ops C m (fun listed' a' => Region.seqB md ops g m listed' = true ∧ Lq a') l.length listed a
  | [], k, listed, a, _, hk, _, hB, h => by
    have : k = m := by simpa using hk
    subst this
    exact ⟨by simpa [Region.lexHead] using hB, h⟩
  | o :: l, k, listed, a, hl, hk, inv, hB, h => by
    have h0 : ops[k]? = some o := by simpa using (hl 0 (by simp)).symm
    simp only [List.length_cons, Region.lexHead, Bool.and_eq_true] at hB
    obtain ⟨⟨hr, hf⟩, hB'⟩ := hB
    have hkm : k < m := by simp only [List.length_cons] at hk; omega
    have hr' : k ∈ Region.ready md ops listed := by simpa using hr
    have hst : qOpIn F n P ops C k (wpQuietIn F n P ops C Lq l) a := by unfold qOpIn; simp only [h0]; exact h
    obtain ⟨v, hy, hK⟩ := yieldsQuiet_of_qOpIn h0 hst
    exact head_first h0 (Region.noSelect_spec hsel) hs hc hm hkm (fun listed' a' hL => seqB_ready hL.1) l.length listed a inv (Region.free_spec h0 hf) hr' hy
      (head_lex hsel hs hc hm l (k + 1) _ _ (fun j hj => by have := hl (j + 1) (by simp; omega); simpa [Nat.add_assoc, Nat.add_comm 1 j] using this) (by simp only [List.length_cons] at hk; omega) (inv.set hr' hkm) hB' hK)
/-- ONE WALK: the first m operations quietly, whatever world some draws leave; the rest in their order. -/
theorem wpIn_quiet_tail {id : Nat} {Q : Exit → Act → World → Prop} {a : Act} {w : World} {l : List Oper} (m : Nat) (hro : F.round = none) (hmx : P.follows .mixedOrders = true) (hB : Region.lexTailB .any l.toArray m = true)
    (h : wpQuietIn F n P l.toArray (fun w' => ∃ d, w' = w.drewN d) (fun a' => ∀ w', (∃ d, w' = w.drewN d) → wpListIn F n P l.toArray Q (l.drop m) a' w') (l.take m) a) : (Code.region id l.toArray true).wpIn F n P Q a w := by
  simp only [Region.lexTailB, Bool.and_eq_true, decide_eq_true_eq] at hB
  obtain ⟨⟨⟨⟨hsel, hm⟩, hs⟩, hc⟩, hlex⟩ := hB
  have hm' : m < l.length := by simpa using hm
  have htl : (l.take m).length = m := by simp; omega
  have hdl : (l.drop m).length = l.toArray.size - m := by simp
  have inv0 : HeadInv .any l.toArray m (Array.replicate l.toArray.size false) :=
    ⟨by simp, fun j oj _ hl => (by rw [getD_replicate_false] at hl; cases hl), fun t _ ht => getD_in (by simpa using ht) (getD_replicate_false _ _)⟩
  have H := head_lex (F := F) (n := n) (C := fun w' => ∃ d, w' = w.drewN d) (md := .any) (g := l.toArray.size - m) hsel hs hc hm (l.take m) 0 _ a (fun j hj => by
    have hj' : j < m := by rw [htl] at hj; exact hj
    simp [hj']) (by simpa using htl) inv0 (by rw [htl]; exact hlex) h
  refine wpIn_region_any hmx ?_
  have := any_of_head (Q := Q) (g := l.toArray.size - m) hro (fun listed a' w' hw' hL => by
    have := any_of_list (F := F) (n := n) (md := .any) (Q := Q) (l.drop m) m listed a' w' (fun j => by simp [List.getElem?_drop]) (by rw [hdl]; exact hL.1) (hL.2 w' hw')
    rwa [hdl] at this) _ _ _ { w with drawn := w.drawn + 1 } ⟨1, rfl⟩ H
  rw [htl, show m + (l.toArray.size - m) = l.toArray.size by omega] at this
  exact this
end
end
section
/- As QTail, where one operation of the head (a plain move, say) is waited for by none of the first ones of the tail: it is taken at first. No program. -/
set_option linter.unusedVariables false
set_option linter.unusedSimpArgs false
section
variable {F : Fence} {n : Nat} {P : Program} {ops : Array Oper} {md : Region.Mode} {C : World → Prop}
/-- Every operation of the head but s is waited for, by way of others of the head, by operation m. -/
def sinkS (md : Region.Mode) (ops : Array Oper) (s m : Nat) : Bool := (List.range m).all fun i => decide (i = s) || (List.range (m + 1)).any fun j => decide (i < j) && Region.waitsFor md ops j i
theorem waitsS {s m : Nat} {listed : Array Bool} (hs : sinkS md ops s m = true) (hc : Region.chainB md ops m = true) (hm : m < ops.size) (inv : HeadInv md ops m listed) (hl : listed.getD s false = true) :
    ∀ (d i : Nat), m - i = d → i < m → listed.getD i true = false → ∀ t, m ≤ t → t ∉ Region.ready md ops listed := by
  intro d
  induction d using Nat.strongRecOn with
  | _ d ih =>
    intro i hd hi hun t ht hr
    obtain ⟨_, ot, hot, hall⟩ := mem_ready.1 hr
    have htlt : t < ops.size := (Array.getElem?_eq_some_iff.1 hot).1
    rcases Nat.lt_or_ge m t with hgt | hle
    · have hch := List.all_eq_true.1 hc t (List.mem_range.2 htlt)
      simp only [Bool.or_eq_true, decide_eq_true_eq] at hch
      rcases hch with h0 | h0
      · omega
      · obtain ⟨o', ho', e, he, hb, hon⟩ := Region.waitsFor_spec h0
        obtain rfl : o' = ot := Option.some.inj (ho'.symm.trans hot)
        have := hall e he hb
        rw [hon, getD_both (inv.tail (t - 1) (by omega) (by omega))] at this
        cases this
    · obtain rfl : t = m := by omega
      have hsi := List.all_eq_true.1 hs i (List.mem_range.2 hi)
      simp only [Bool.or_eq_true, decide_eq_true_eq] at hsi
      rcases hsi with rfl | hsi
      · rw [getD_both hun] at hl; cases hl
      · obtain ⟨j, hj, hj2⟩ := List.any_eq_true.1 hsi
        simp only [Bool.and_eq_true, decide_eq_true_eq] at hj2
        obtain ⟨oj, hoj, e, he, hb, hon⟩ := Region.waitsFor_spec hj2.2
        have hjt := List.mem_range.1 hj
        by_cases hjm : j = t
        · subst hjm
          obtain rfl : oj = ot := Option.some.inj (hoj.symm.trans hot)
          have := hall e he hb
          rw [hon, getD_both hun] at this
          cases this
        · cases hlj : listed.getD j false with
          | true =>
            have := inv.closed j oj hoj hlj e he hb
            rw [hon, getD_both hun] at this
            cases this
          | false => exact ih (t - j) (by omega) j rfl (by omega) (getD_in (by rw [inv.size]; omega) hlj) t (Nat.le_refl _) hr
theorem head_firstS {s m i : Nat} {oi : Oper} {v : Value} {L : Array Bool → Act → Prop} (hi : ops[i]? = some oi) (hsel : ∀ (j : Nat) (o : Oper) cs b, ops[j]? = some o → o.op ≠ .select cs b)
    (hs : sinkS md ops s m = true) (hc : Region.chainB md ops m = true) (hm : m < ops.size) (him : i < m) (hdone : ∀ listed a, L listed a → ∀ j ∈ Region.ready md ops listed, m ≤ j) :
    ∀ (f : Nat) (listed : Array Bool) (a : Act), HeadInv md ops m listed → listed.getD s false = true →
      (∀ j oj, ops[j]? = some oj → j ≠ i → listed.getD j true = false → (∀ e ∈ oj.after, Region.binds md e = true → e.on ≠ i) → oi.apart ops oj = true) →
      i ∈ Region.ready md ops listed → YieldsQuiet F n P ops C oi v a →
      headIn F n P md ops C m L f (listed.setIfInBounds i true) (a.put oi.dst v) → headIn F n P md ops C m L (f + 1) listed a := by
  intro f
  induction f with
  | zero =>
    intro listed a inv hls _ hr hy H
    have hun := (mem_ready.1 hr).1
    refine ⟨fun h => (by rw [h] at hr; cases hr), fun j hj => ?_⟩
    have hjm : j < m := by
      rcases Nat.lt_or_ge j m with h | h
      · exact h
      · exact absurd hj (waitsS hs hc hm inv hls _ i rfl him hun j h)
    refine ⟨hjm, ?_⟩
    by_cases hji : j = i
    · subst hji; exact hy.qOpIn hi H
    · have := hdone _ _ H j (ready_mono hj hji)
      omega
  | succ f ih =>
    intro listed a inv hls hfree hr hy H
    have hun := (mem_ready.1 hr).1
    refine ⟨fun h => (by rw [h] at hr; cases hr), fun j hj => ?_⟩
    have hjm : j < m := by
      rcases Nat.lt_or_ge j m with h | h
      · exact h
      · exact absurd hj (waitsS hs hc hm inv hls _ i rfl him hun j h)
    refine ⟨hjm, ?_⟩
    by_cases hji : j = i
    · subst hji; exact hy.qOpIn hi H
    · have h1 := (H.2 j (ready_mono hj hji)).2
      obtain ⟨hjun, oj, hoj, hall⟩ := mem_ready.1 hj
      have hnot : ∀ e ∈ oj.after, Region.binds md e = true → e.on ≠ i := fun e he hb heq => by
        have h1 := hall e he hb
        rw [heq, getD_both hun] at h1
        cases h1
      have h2 := qOpIn_put hoj (hfree j oj hoj hji hjun hnot) (fun cs b => hsel i oi cs b hi) (fun cs b => hsel j oj cs b hoj) hy h1
      have hfree' : ∀ k ok, ops[k]? = some ok → k ≠ i → (listed.setIfInBounds j true).getD k true = false →
          (∀ e ∈ ok.after, Region.binds md e = true → e.on ≠ i) → oi.apart ops ok = true := fun k ok hk hki hun hno => by
        refine hfree k ok hk hki ?_ hno
        by_cases hjk : j = k
        · subst hjk; exact hjun
        · rw [getD_set_ne true hjk] at hun; exact hun
      refine qOpIn_mono (fun a' h3 => ih (listed.setIfInBounds j true) a' (inv.set hj hjm) (getD_set_true hls) hfree' (ready_mono hr (Ne.symm hji)) h3.1 ?_) h2
      rw [Array.setIfInBounds_comm _ _ hji]
      exact h3.2
/-- The head's operations, in an order of one's own, each ready and free in its turn; behind them the tail in its order. -/
def lexS (md : Region.Mode) (ops : Array Oper) (g m : Nat) : List Nat → Array Bool → Bool
  | [], listed => Region.seqB md ops g m listed
  | k :: ks, listed => (Region.ready md ops listed).contains k && Region.free md ops listed k && decide (k < m) && lexS md ops g m ks (listed.setIfInBounds k true)
theorem head_lexS {s m g : Nat} {Lq : Act → Prop} (hsel : Region.noSelect ops = true) (hs : sinkS md ops s m = true) (hc : Region.chainB md ops m = true) (hm : m < ops.size) :
    ∀ (ks : List Nat) (os : List Oper) (listed : Array Bool) (a : Act), ks.map (fun k => ops[k]?) = os.map some → HeadInv md ops m listed → listed.getD s false = true →
    lexS md ops g m ks listed = true → wpQuietIn F n P ops C Lq os a →
    headIn F n P md ops C m (fun listed' a' => Region.seqB md ops g m listed' = true ∧ Lq a') ks.length listed a
  | [], [], _, _, _, _, _, hB, h => ⟨hB, h⟩
  | [], _ :: _, _, _, he, _, _, _, _ => by cases he
  | _ :: _, [], _, _, he, _, _, _, _ => by cases he
  | k :: ks, o :: os, listed, a, he, inv, hls, hB, h => by
    rw [List.map_cons, List.map_cons] at he
    injection he with h0 he
    simp only [lexS, Bool.and_eq_true, decide_eq_true_eq] at hB
    obtain ⟨⟨⟨hr, hf⟩, hkm⟩, hB'⟩ := hB
    have hr' : k ∈ Region.ready md ops listed := by simpa using hr
    have hst : qOpIn F n P ops C k (wpQuietIn F n P ops C Lq os) a := by unfold qOpIn; simp only [h0]; exact h
    obtain ⟨v, hy, hK⟩ := yieldsQuiet_of_qOpIn h0 hst
    exact head_firstS h0 (Region.noSelect_spec hsel) hs hc hm hkm (fun listed' a' hL => seqB_ready hL.1) ks.length listed a inv hls (Region.free_spec h0 hf) hr' hy
      (head_lexS hsel hs hc hm ks os _ _ he (inv.set hr' hkm) (getD_set_true hls) hB' hK)
/-- Operation s at first; then the rest of the first m, in an order of one's own, quietly; the rest in their order. -/
theorem wpIn_quiet_tailS {id : Nat} {Q : Exit → Act → World → Prop} {a : Act} {w : World} {l : List Oper} (s m : Nat) (ks : List Nat) (os : List Oper) (o : Oper) (v : Value) (hro : F.round = none) (hmx : P.follows .mixedOrders = true)
    (ho : l.toArray[s]? = some o) (hks : ks.map (fun k => l.toArray[k]?) = os.map some)
    (hB : (Region.noSelect l.toArray && decide (m < l.toArray.size) && sinkS .any l.toArray s m && Region.chainB .any l.toArray m && Region.free .any l.toArray (Array.replicate l.toArray.size false) s && (Region.ready .any l.toArray (Array.replicate l.toArray.size false)).contains s && decide (s < m) && decide (ks.length + 1 = m) && lexS .any l.toArray (l.toArray.size - m) m ks ((Array.replicate l.toArray.size false).setIfInBounds s true)) = true)
    (hQ : ∀ c a w, Q (.panic c) (a.put o.dst v) w → Q (.panic c) a w) (hy : YieldsFenced P l.toArray o v a)
    (h : wpQuietIn F n P l.toArray (fun w' => ∃ d, w' = w.drewN d) (fun a' => ∀ w', (∃ d, w' = w.drewN d) → wpListIn F n P l.toArray Q (l.drop m) a' w') os (a.put o.dst v)) : (Code.region id l.toArray true).wpIn F n P Q a w := by
  simp only [Bool.and_eq_true, decide_eq_true_eq] at hB
  obtain ⟨⟨⟨⟨⟨⟨⟨⟨hsel, hm⟩, hs⟩, hc⟩, hf⟩, hr⟩, hsm⟩, hlen⟩, hlex⟩ := hB
  have hdl : (l.drop m).length = l.toArray.size - m := by simp
  have hr' : s ∈ Region.ready .any l.toArray (Array.replicate l.toArray.size false) := by simpa using hr
  have inv0 : HeadInv .any l.toArray m (Array.replicate l.toArray.size false) :=
    ⟨by simp, fun j oj _ hl => (by rw [getD_replicate_false] at hl; cases hl), fun t _ ht => getD_in (by simpa using ht) (getD_replicate_false _ _)⟩
  have hls : ((Array.replicate l.toArray.size false).setIfInBounds s true).getD s false = true := by
    have : s < l.toArray.size := by omega
    simp only [Array.getD_eq_getD_getElem?, Array.getElem?_setIfInBounds, Array.size_replicate]
    have this' : s < l.length := by simpa using this
    simp [this']
  have H := head_lexS (F := F) (n := n) (P := P) (C := fun w' => ∃ d, w' = w.drewN d) (md := .any) (g := l.toArray.size - m) hsel hs hc hm ks os _ _ hks (inv0.set hr' hsm) hls hlex h
  refine wpIn_region_any hmx ?_
  have := any_of_head (Q := Q) (g := l.toArray.size - m) hro (fun listed a' w' hw' hL => by
    have := any_of_list (F := F) (n := n) (md := .any) (Q := Q) (l.drop m) m listed a' w' (fun j => by simp [List.getElem?_drop]) (by rw [hdl]; exact hL.1) (hL.2 w' hw')
    rwa [hdl] at this) _ _ _ { w with drawn := w.drawn + 1 } ⟨1, rfl⟩ H
  have h2 := wpAnyIn_take hro ho hsel hf hr hQ hy this
  rw [show ks.length + (l.toArray.size - m) + 1 = l.toArray.size by omega] at h2
  exact h2
theorem wpIn_quiet_skip {id : Nat} {Q : Exit → Act → World → Prop} {a : Act} {w : World} {l : List Oper} {o : Oper} {v : Value} (s m : Nat) (hro : F.round = none) (hmx : P.follows .mixedOrders = true)
    (ho : l.toArray[s]? = some o) (hks : (List.range s ++ (List.range (m - s - 1)).map (· + (s + 1))).map (fun k => l.toArray[k]?) = (l.take s ++ (l.drop (s + 1)).take (m - s - 1)).map some)
    (hB : (Region.noSelect l.toArray && decide (m < l.toArray.size) && sinkS .any l.toArray s m && Region.chainB .any l.toArray m && Region.free .any l.toArray (Array.replicate l.toArray.size false) s && (Region.ready .any l.toArray (Array.replicate l.toArray.size false)).contains s && decide (s < m) && decide ((List.range s ++ (List.range (m - s - 1)).map (· + (s + 1))).length + 1 = m) && lexS .any l.toArray (l.toArray.size - m) m (List.range s ++ (List.range (m - s - 1)).map (· + (s + 1))) ((Array.replicate l.toArray.size false).setIfInBounds s true)) = true)
    (hQ : ∀ c a w, Q (.panic c) (a.put o.dst v) w → Q (.panic c) a w) (hy : YieldsFenced P l.toArray o v a)
    (h : wpQuietIn F n P l.toArray (fun w' => ∃ d, w' = w.drewN d) (fun a' => ∀ w', (∃ d, w' = w.drewN d) → wpListIn F n P l.toArray Q (l.drop m) a' w') (l.take s ++ (l.drop (s + 1)).take (m - s - 1)) (a.put o.dst v)) : (Code.region id l.toArray true).wpIn F n P Q a w :=
  wpIn_quiet_tailS s m _ _ o v hro hmx ho hks hB hQ hy h
end
end
end Go.Proofs.Ytdfmogcgangdnaa
