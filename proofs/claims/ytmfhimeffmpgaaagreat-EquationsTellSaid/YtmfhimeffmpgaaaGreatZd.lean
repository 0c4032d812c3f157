/- Parts: QTail, DegW2, DegW3, Deg2, DegS1, Bitrow2, Of, Same. -/
import Derived.Test.YtmfhimeffmpgaaaGreatZc
import Derived.Deep.DeepCutAuto
import Derived.Deep.RegionHeld3
import Derived.IntWalk
import Derived.LoopIn
import Derived.LoopNIn
import Derived.Maps.AppendAt
import Derived.OwnWalkIn
import Derived.RangeFuncBound
import Derived.RangeFuncBox
import Derived.RangeFuncCalls
import Derived.RangeFuncLeaves
import Derived.RangeFuncNested
import Derived.Shelf.Abstract
import Derived.Shelf.RegionOpen
import Derived.Sort.QuietIn
import Derived.Sort.QuietTacIn
import Derived.Sort.QuietThIn
import Derived.StillTail
import Derived.StillTailTactics
import Derived.TacticsIn
import Derived.TacticsInMore
namespace Go.Proofs.YtmfhimeffmpgaaaGreat
section
/- A law of one's own for a region that draws its order inside a fence: its first operations and calls leave the world alone but for draws, the rest come one after the other (a call that writes among them). One walk serves every order. No program. -/
set_option linter.unusedVariables false
set_option linter.unusedSimpArgs false
section
variable {F : Fence} {n : Nat} {P : Program} {ops : Array Oper} {md : Region.Mode} {C : World → Prop}
/-- Whatever order the first m operations take, f of them are still to come; L at the end. -/
def headIn (F : Fence) (n : Nat) (P : Program) (md : Region.Mode) (ops : Array Oper) (C : World → Prop) (m : Nat) (L : Array Bool → Act → Prop) : Nat → Array Bool → Act → Prop
  | 0, listed, a => L listed a
  | f + 1, listed, a => Region.ready md ops listed ≠ [] ∧ ∀ i ∈ Region.ready md ops listed, i < m ∧ qOpIn F n P ops C i (headIn F n P md ops C m L f (listed.setIfInBounds i true)) a
theorem any_of_head {m g : Nat} {L : Array Bool → Act → Prop} {Q : Exit → Act → World → Prop} (hro : F.round = none) (hL : ∀ listed a w, C w → L listed a → wpAnyIn F n P md ops Q g listed a w) :
    ∀ (f : Nat) (listed : Array Bool) (a : Act) (w : World), C w → headIn F n P md ops C m L f listed a → wpAnyIn F n P md ops Q (f + g) listed a w
  | 0, listed, a, w, hw, h => by rw [Nat.zero_add]; exact hL _ _ _ hw h
  | f + 1, listed, a, w, hw, h => by
    rw [show f + 1 + g = (f + g) + 1 by omega]
    exact ⟨fun h0 => absurd h0 h.1, fun i hi => wpOpIn_of_qOpIn hro hw (fun a' w' hw' h' => any_of_head hro hL f _ a' w' hw' h') (h.2 i hi).2⟩
theorem head_first {m i : Nat} {oi : Oper} {v : Value} {L : Array Bool → Act → Prop} (hi : ops[i]? = some oi) (hsel : ∀ (j : Nat) (o : Oper) cs b, ops[j]? = some o → o.op ≠ .select cs b)
    (hs : Region.sinkB md ops m = true) (hc : Region.chainB md ops m = true) (hm : m < ops.size) (him : i < m) (hdone : ∀ listed a, L listed a → ∀ j ∈ Region.ready md ops listed, m ≤ j) :
    ∀ (f : Nat) (listed : Array Bool) (a : Act), HeadInv md ops m listed →
      (∀ j oj, ops[j]? = some oj → j ≠ i → listed.getD j true = false → (∀ e ∈ oj.after, Region.binds md e = true → e.on ≠ i) → oi.apart ops oj = true) →
      i ∈ Region.ready md ops listed → YieldsQuiet F n P ops C oi v a →
      headIn F n P md ops C m L f (listed.setIfInBounds i true) (a.put oi.dst v) → headIn F n P md ops C m L (f + 1) listed a := by
  intro f
  induction f with
  | zero =>
    intro listed a inv _ hr hy H
    have hun := (mem_ready.1 hr).1
    refine ⟨fun h => (by rw [h] at hr; cases hr), fun j hj => ?_⟩
    have hjm : j < m := by
      rcases Nat.lt_or_ge j m with h | h
      · exact h
      · exact absurd hj (tail_waits hs hc hm inv _ i rfl him hun j h)
    refine ⟨hjm, ?_⟩
    by_cases hji : j = i
    · subst hji; exact hy.qOpIn hi H
    · have := hdone _ _ H j (ready_mono hj hji)
      omega
  | succ f ih =>
    intro listed a inv hfree hr hy H
    have hun := (mem_ready.1 hr).1
    refine ⟨fun h => (by rw [h] at hr; cases hr), fun j hj => ?_⟩
    have hjm : j < m := by
      rcases Nat.lt_or_ge j m with h | h
      · exact h
      · exact absurd hj (tail_waits hs hc hm inv _ i rfl him hun j h)
    refine ⟨hjm, ?_⟩
    by_cases hji : j = i
    · subst hji; exact hy.qOpIn hi H
    · have h1 := (H.2 j (ready_mono hj hji)).2
      obtain ⟨hjun, oj, hoj, hall⟩ := mem_ready.1 hj
      have hnot : ∀ e ∈ oj.after, Region.binds md e = true → e.on ≠ i := fun e he hb heq => by
        have h1 := hall e he hb
        rw [heq, getD_both hun] at h1
        cases h1
      have h2 := qOpIn_put hoj (hfree j oj hoj hji hjun hnot) (fun cs b => hsel i oi cs b hi) (fun cs b => hsel j oj cs b hoj) hy h1
      have hfree' : ∀ k ok, ops[k]? = some ok → k ≠ i → (listed.setIfInBounds j true).getD k true = false →
          (∀ e ∈ ok.after, Region.binds md e = true → e.on ≠ i) → oi.apart ops ok = true := fun k ok hk hki hun hno => by
        refine hfree k ok hk hki ?_ hno
        by_cases hjk : j = k
        · subst hjk; exact hjun
        · rw [getD_set_ne true hjk] at hun; exact hun
      refine qOpIn_mono (fun a' h3 => ih (listed.setIfInBounds j true) a' (inv.set hj hjm) hfree' (ready_mono hr (Ne.symm hji)) h3.1 ?_) h2
      rw [Array.setIfInBounds_comm _ _ hji]
      exact h3.2
theorem any_of_list {Q : Exit → Act → World → Prop} : ∀ (l : List Oper) (k : Nat) (listed : Array Bool) (a : Act) (w : World), (∀ j, l[j]? = ops[k + j]?) →
    Region.seqB md ops l.length k listed = true → wpListIn F n P ops Q l a w → wpAnyIn F n P md ops Q l.length listed a w
  | [], _, _, _, _, _, hB, h => ⟨by simpa [Region.seqB] using hB, h⟩
  | o :: l, k, listed, a, w, hl, hB, h => by
    have h0 : ops[k]? = some o := by simpa using (hl 0).symm
    simp only [List.length_cons, Region.seqB, Bool.and_eq_true, decide_eq_true_eq] at hB
    refine ⟨fun h1 => (by rw [hB.1] at h1; cases h1), fun i hi => ?_⟩
    rw [hB.1] at hi
    have hik : i = k := by simpa using hi
    subst hik
    have hw : wpOpIn F n P ops Q i (wpListIn F n P ops Q l) a w := by unfold wpOpIn; simp only [h0]; exact h
    exact wpOpIn_mono (fun a' w' h' => any_of_list l (i + 1) _ a' w' (fun j => by have := hl (j + 1); simpa [Nat.add_assoc, Nat.add_comm 1 j] using this) hB.2 h') hw
theorem head_lex {m g : Nat} {Lq : Act → Prop} (hsel : Region.noSelect ops = true) (hs : Region.sinkB md ops m = true) (hc : Region.chainB md ops m = true) (hm : m < ops.size) :
    ∀ (l : List Oper) (k : Nat) (listed : Array Bool) (a : Act), (∀ j, j < l.length → l[j]? = ops[k + j]?) → k + l.length = m → HeadInv md ops m listed →
    Region.lexHead md ops g l.length k listed = true → wpQuietIn F n P ops C Lq l a →
    headIn F n P md ops C m (fun listed' a' => Region.seqB md ops g m listed' = true ∧ Lq a') l.length listed a
  | [], k, listed, a, _, hk, _, hB, h => by
    have : k = m := by simpa using hk
    subst this
    exact ⟨by simpa [Region.lexHead] using hB, h⟩
  | o :: l, k, listed, a, hl, hk, inv, hB, h => by
    have h0 : ops[k]? = some o := by simpa using (hl 0 (by simp)).symm
    simp only [List.length_cons, Region.lexHead, Bool.and_eq_true] at hB
    obtain ⟨⟨hr, hf⟩, hB'⟩ := hB
    have hkm : k < m := by simp only [List.length_cons] at hk; omega
    have hr' : k ∈ Region.ready md ops listed := by simpa using hr
    have hst : qOpIn F n P ops C k (wpQuietIn F n P ops C Lq l) a := by unfold qOpIn; simp only [h0]; exact h
    obtain ⟨v, hy, hK⟩ := yieldsQuiet_of_qOpIn h0 hst
    exact head_first h0 (Region.noSelect_spec hsel) hs hc hm hkm (fun listed' a' hL => seqB_ready hL.1) l.length listed a inv (Region.free_spec h0 hf) hr' hy
      (head_lex hsel hs hc hm l (k + 1) _ _ (fun j hj => by have := hl (j + 1) (by simp; omega); simpa [Nat.add_assoc, Nat.add_comm 1 j] using this) (by simp only [List.length_cons] at hk; omega) (inv.set hr' hkm) hB' hK)
/-- ONE WALK: the first m operations quietly, whatever world some draws leave; the rest in their order. -/
theorem wpIn_quiet_tail {id : Nat} {Q : Exit → Act → World → Prop} {a : Act} {w : World} {l : List Oper} (m : Nat) (hro : F.round = none) (hmx : P.follows .mixedOrders = true) (hB : Region.lexTailB .any l.toArray m = true)
    (h : wpQuietIn F n P l.toArray (fun w' => ∃ d, w' = w.drewN d) (fun a' => ∀ w', (∃ d, w' = w.drewN d) → wpListIn F n P l.toArray Q (l.drop m) a' w') (l.take m) a) : (Code.region id l.toArray true).wpIn F n P Q a w := by
  simp only [Region.lexTailB, Bool.and_eq_true, decide_eq_true_eq] at hB
  obtain ⟨⟨⟨⟨hsel, hm⟩, hs⟩, hc⟩, hlex⟩ := hB
  have hm' : m < l.length := by simpa using hm
  have htl : (l.take m).length = m := by simp; omega
  have hdl : (l.drop m).length = l.toArray.size - m := by simp
  have inv0 : HeadInv .any l.toArray m (Array.replicate l.toArray.size false) :=
    ⟨by simp, fun j oj _ hl => (by rw [getD_replicate_false] at hl; cases hl), fun t _ ht => getD_in (by simpa using ht) (getD_replicate_false _ _)⟩
  have H := head_lex (F := F) (n := n) (C := fun w' => ∃ d, w' = w.drewN d) (md := .any) (g := l.toArray.size - m) hsel hs hc hm (l.take m) 0 _ a (fun j hj => by
    have hj' : j < m := by rw [htl] at hj; exact hj
    simp [hj']) (by simpa using htl) inv0 (by rw [htl]; exact hlex) h
  refine wpIn_region_any hmx ?_
  have := any_of_head (Q := Q) (g := l.toArray.size - m) hro (fun listed a' w' hw' hL => by
    have := any_of_list (F := F) (n := n) (md := .any) (Q := Q) (l.drop m) m listed a' w' (fun j => by simp [List.getElem?_drop]) (by rw [hdl]; exact hL.1) (hL.2 w' hw')
    rwa [hdl] at this) _ _ _ { w with drawn := w.drawn + 1 } ⟨1, rfl⟩ H
  rw [htl, show m + (l.toArray.size - m) = l.toArray.size by omega] at this
  exact this
end
end
section
/- Contracts of layer 7: the iterator of the weights. -/
set_option linter.unusedVariables false
set_option linter.unusedSimpArgs false
open Go.RowKit Go.Shelf
attribute [local go_sem] Oper.semAt_some
/-- The weight of degree d of k blocks. -/
def wgt (k d : Nat) : Nat := plainN d k + moreN d (k / root k) (root k) k
def wgts (k j : Nat) : List Nat := (List.range j).map fun i => wgt k (i + 1)
theorem wgts_succ (k j : Nat) : wgts k (j + 1) = wgts k j ++ [wgt k (j + 1)] := by simp [wgts, List.range_succ]
theorem wgts_len (k j : Nat) : (wgts k j).length = j := by simp [wgts]
theorem abides_drew {β : Type} {B : Nat} {J : β → World → Prop} (h : AbidesFrom B J) {s : β} {W : World} (hs : J s W) : J s W.drew :=
  h s W W.drew none hs ⟨rfl, rfl, rfl, Nat.le_refl _, fun _ _ _ => rfl⟩ (fun r e => by cases e)
theorem abides_drewN {β : Type} {B : Nat} {J : β → World → Prop} (h : AbidesFrom B J) {s : β} {W : World} (hs : J s W) (d : Nat) : J s (W.drewN d) :=
  h s W (W.drewN d) none hs ⟨rfl, rfl, rfl, Nat.le_refl _, fun _ _ _ => rfl⟩ (fun r e => by cases e)
theorem quietIn_w {F : Fence} {n : Nat} {P : Program} {f : FuncId} {args : Array Value} {w : World} {k : Nat} {v : Value}
    (h : CallsIn F n P f args (w.drewN k) fun e w' => e = .returned v ∧ w.drewN k = w') : CallsIn F n P f args (w.drewN k) fun e w'' => e = .returned v ∧ ∃ m, w'' = w.drewN m :=
  h.mono fun _ _ ⟨he, hm⟩ => ⟨he, k, hm.symm⟩
/-- What the iterator asks of a round: its three boxes stay. -/
def Kp3 (B1 B2 B3 : Nat) (W W' : World) : Prop := ∀ b, b = B1 ∨ b = B2 ∨ b = B3 → W'.heap[b]? = W.heap[b]?
theorem Kp3.trans {B1 B2 B3 : Nat} {A B C : World} (h : Kp3 B1 B2 B3 A B) (k : Kp3 B1 B2 B3 B C) : Kp3 B1 B2 B3 A C := fun b hb => (k b hb).trans (h b hb)
theorem Kp3.refl (B1 B2 B3 : Nat) (A : World) : Kp3 B1 B2 B3 A A := fun _ _ => rfl
/-- How a round ends: it goes on, or it says 'no more'. -/
def Rnd (B1 B2 B3 : Nat) (J Jx : List Nat → World → Prop) (ys : List Nat) (W : World) (b : Bool) (W' : World) : Prop := (b = true → J ys W' ∧ Kp3 B1 B2 B3 W W') ∧ (b = false → Jx ys W')
def RndE (B1 B2 B3 : Nat) (J Jx : List Nat → World → Prop) (ys : List Nat) (W : World) (e : Ending) (W' : World) : Prop := ∃ b : Bool, e = .returned (.bool b) ∧ Rnd B1 B2 B3 J Jx ys W b W'
theorem rnd_of {B1 B2 B3 : Nat} {J Jx : List Nat → World → Prop} {ys : List Nat} {W : World} (e : Ending) (W' : World) (h : (e = .returned (.bool true) ∧ J ys W' ∧ Kp3 B1 B2 B3 W W') ∨ (e = .returned (.bool false) ∧ Jx ys W')) : RndE B1 B2 B3 J Jx ys W e W' := by
  rcases h with ⟨rfl, h1, h2⟩ | ⟨rfl, h1⟩
  · exact ⟨true, rfl, fun _ => ⟨h1, h2⟩, (fun h => by cases h)⟩
  · exact ⟨false, rfl, (fun h => by cases h), fun _ => h1⟩
set_option maxRecDepth 100000 in
set_option maxHeartbeats 4000000 in
theorem weights1_in (F : Fence) (hF : F = Fence.wide) (n : Nat) (hn : 1 ≤ n) (l B1 B2 B3 k p t : Nat) (hk1 : 1 ≤ k) (hk : k ≤ 64) (ht1 : 1 ≤ t) (ht : t ≤ 64) (hp : p ≤ 64)
    (hbd : ∀ d, d ≤ k → plainN d k + moreN d p t k < 18446744073709551616) (J Jx : List Nat → World → Prop) (m₀ : Nat) (hJ : AbidesFrom m₀ J)
    (hY : ∀ (pre : List Nat) (x : Nat) (W : World), J pre W → pre.length < k → YieldAt F (n - 1) Tryz.prog l #[.int .u64 (x : Int)] W fun e W' =>
      (e = .returned (.bool true) ∧ J (pre ++ [x]) W' ∧ Kp3 B1 B2 B3 W W') ∨ (e = .returned (.bool false) ∧ Jx (pre ++ [x]) W'))
    (W : World) (h1 : W.cell? ⟨B1, 0, none⟩ = some (.int .u64 k)) (h2 : W.cell? ⟨B2, 0, none⟩ = some (.int .u64 p)) (h3 : W.cell? ⟨B3, 0, none⟩ = some (.int .u64 t)) (h0 : J [] W) :
    CallsIn F n Tryz.prog 101 #[.func (.yield l) #[] #[], .pointer (some ⟨B1, 0, none⟩), .pointer (some ⟨B2, 0, none⟩), .pointer (some ⟨B3, 0, none⟩)] W fun e W' => (∃ v, e = .returned v) ∧
      ((∃ ys, ys = (List.range k).map (fun i : Nat => plainN (i + 1) k + moreN (i + 1) p t k) ∧ J ys W') ∨ (∃ pre, (∃ j, j ≤ k ∧ pre = (List.range j).map (fun i : Nat => plainN (i + 1) k + moreN (i + 1) p t k)) ∧ Jx pre W')) := by
  subst hF
  refine callsIn_of_wp Tryz.func101 rfl trivial ?_ rfl
  simp only [Tryz.ntmps101, List.size_toArray, List.length_cons, List.length_nil, Nat.reduceAdd, Nat.reduceSub, Array.replicate_succ, Array.replicate_zero, List.push_toArray, List.append_toArray, List.nil_append, List.cons_append]
  gi_wp2
  gi_loopw [5] (fun i wr => ∃ e : Nat, 1 ≤ e ∧ e ≤ k + 1 ∧ i = .int .u64 (e : Nat) ∧ J ((List.range (e - 1)).map (fun i : Nat => plainN (i + 1) k + moreN (i + 1) p t k)) wr ∧ Kp3 B1 B2 B3 W wr)
    (fun i _ => k + 1 - (intOf i).toNat)
  case atStart => exact ⟨1, Nat.le_refl _, by omega, rfl, h0, Kp3.refl _ _ _ _⟩
  case round =>
    obtain ⟨e, he1, he, rfl, hJs, hnx⟩ := hrel
    have HNX := Lib.hid hnx
    have c1 := (World.cell?_of_block (a := ⟨B1, 0, none⟩) (hnx B1 (.inl rfl))).trans h1
    have c2 := (World.cell?_of_block (a := ⟨B2, 0, none⟩) (hnx B2 (.inr (.inl rfl)))).trans h2
    have c3 := (World.cell?_of_block (a := ⟨B3, 0, none⟩) (hnx B3 (.inr (.inr rfl)))).trans h3
    by_cases hlt : e ≤ k
    · have hsn : (List.range (e + 1 - 1)).map (fun i : Nat => plainN (i + 1) k + moreN (i + 1) p t k) = (List.range (e - 1)).map (fun i : Nat => plainN (i + 1) k + moreN (i + 1) p t k) ++ [plainN e k + moreN e p t k] := by
        obtain ⟨d, rfl⟩ : ∃ d, e = d + 1 := ⟨e - 1, by omega⟩
        simp [List.range_succ]
      have hlen : ((List.range (e - 1)).map (fun i : Nat => plainN (i + 1) k + moreN (i + 1) p t k)).length < k := by simp; omega
      have HYe := Lib.hid (fun W hW => hY _ (plainN e k + moreN e p t k) W hW hlen)
      have g : (e : Int) ≤ k := by omega
      have hb := hbd e hlt
      clear hnx hlen hY
      have HA := Lib.hid (plain_any e k (by omega) (by omega) hk1 hk)
      have HM := Lib.hid (more_any e p t k (by omega) (by omega) hk1 hk ht1 ht hp)
      have HSN := Lib.hid hsn
      have hmx : Tryz.prog.follows .mixedOrders = true := by kernel_rfl
      clear hsn
      generalize plainN e k = a at *
      generalize moreN e p t k = b at *
      have hwr : IntKind.u64.wrap ((a : Int) + (b : Int)) = (a : Int) + (b : Int) := IntWalk.u64_in _ (by omega)
      gi_wp2
      refine wpIn_quiet_tail 10 rfl (by kernel_rfl) (by kernel_rfl) ?_
      simp only [List.take_succ_cons, List.take_zero, List.drop_succ_cons, List.drop_zero]
      repeat
        refine wpQuietIn_step (fun _ _ _ _ => trivial) (fun K hK => ?_)
        go_simp
        first
          | (refine hK _ ?_; clear hK K)
          | (apply Exists.intro
             refine ⟨fun _ => ?_, hK _ ?_⟩
             (first | (gi_at_call 102; exact quietIn_w (callsIn_wide.2 (HA.out _))) | (gi_at_call 103; exact quietIn_w (callsIn_wide.2 (HM.out _))))
             clear hK K)
      refine wpQuietIn_nil ?_
      intro _ hw'
      obtain ⟨nq, rfl⟩ := hw'
      obtain ⟨fn, tmps, assign, body, hy, hR⟩ := HYe.out _ (abides_drewN hJ hJs nq)
      simp only [Int.natCast_add] at hy
      have hR' := Lib.hid (hR.mono rnd_of)
      clear hR
      gi_wp2
      refine RoundIn.mono hR'.out ?_
      rintro e' W3 ⟨bv, rfl, hP⟩
      cases bv
      · gi_wp2
        refine bodyPost_ret (results_none rfl _ _ _) rfl ?_
        exact ⟨⟨_, rfl⟩, .inr ⟨_, ⟨e, hlt, HSN.out.symm⟩, hP.2 rfl⟩⟩
      · gi_wp2
        go_roundw
        case rel => exact ⟨e + 1, by omega, by omega, by go_num, by rw [HSN.out]; exact (hP.1 rfl).1, Kp3.trans (B := wr.drewN nq) (fun b hb => HNX.out b hb) (hP.1 rfl).2⟩
        case measure => simp [intOf]; omega
    · obtain rfl : e = k + 1 := by omega
      have g : ¬ (((k + 1 : Nat) : Int) ≤ k) := by omega
      gi_wp2
      go_end0
      first
        | exact ⟨⟨_, rfl⟩, .inl hJs⟩
        | exact .inl hJs
        | exact ⟨⟨_, rfl⟩, .inl ⟨_, rfl, hJs⟩⟩
end
section
/- Contracts of layer 7: blocksMayBe, weights, Weights. -/
set_option linter.unusedVariables false
set_option linter.unusedSimpArgs false
open Go.RowKit Go.Shelf
attribute [local go_sem] Oper.semAt_some
def kmb (n : Int) : Bool := decide (1 ≤ n) && decide (n ≤ 64)
theorem kmb_yes {n : Int} (h : 1 ≤ n ∧ n ≤ 64) : kmb n = true := by simp [kmb, h]
theorem kmb_no {n : Int} (h : ¬ (1 ≤ n ∧ n ≤ 64)) : kmb n = false := by
  rw [Bool.eq_false_iff]; intro e; simp [kmb] at e; exact h e
theorem kmb_any (n : Int) (w : World) : Calls Tryz.prog 86 #[.int .i64 n] w fun e w' => e = .returned (.bool (kmb n)) ∧ w = w' := by
  by_cases h : 1 ≤ n
  · by_cases h2 : n ≤ 64
    · rw [kmb_yes ⟨h, h2⟩]
      go_enter Tryz.func86, Tryz.ntmps86
      go_wp2
      go_ret
      exact ⟨rfl, rfl⟩
    · rw [kmb_no (fun x => h2 x.2)]
      have t : decide (n ≤ 64) = false := by simpa using h2
      go_enter Tryz.func86, Tryz.ntmps86
      go_wp2
      go_ret
      exact ⟨by simp, rfl⟩
  · rw [kmb_no (fun x => h x.1)]
    have t : decide (1 ≤ n) = false := by simpa using h
    go_enter Tryz.func86, Tryz.ntmps86
    go_wp2
    go_ret
    exact ⟨by simp, rfl⟩
theorem root_small : ∀ k : Fin 65, 1 ≤ k.val → 1 ≤ root k.val ∧ root k.val ≤ 8 := by
  intro k h
  obtain ⟨h1, h2, _, _⟩ := root_spec k.val (by omega)
  have hk := k.isLt
  constructor
  · rcases Nat.eq_zero_or_pos (root k.val) with e | e
    · rw [e] at h2; omega
    · exact e
  · rcases Nat.lt_or_ge 8 (root k.val) with e | e
    · have := sq_le (show 9 ≤ root k.val from e); omega
    · exact e
/-- The iterator that weights hands back: its three boxes. -/
def ItOut (k : Nat) (w : World) (e : Ending) (w' : World) : Prop :=
  ∃ B1 B2 B3, e = .returned (.func (.func 101) #[] #[.pointer (some ⟨B1, 0, none⟩), .pointer (some ⟨B2, 0, none⟩), .pointer (some ⟨B3, 0, none⟩)]) ∧ Box w' B1 44 #[.int .u64 k] ∧ Box w' B2 44 #[.int .u64 (k / root k : Nat)] ∧ Box w' B3 44 #[.int .u64 (root k : Nat)] ∧ (w.heap.size ≤ B1 ∧ w.heap.size ≤ B2 ∧ w.heap.size ≤ B3) ∧ Below w.heap.size w w'
theorem weights_any (k : Nat) (h1 : 1 ≤ k) (h2 : k ≤ 64) (w : World) : Calls Tryz.prog 87 #[.int .i64 k] w (ItOut k w) := by
  have hr := root_small ⟨k, by omega⟩ h1
  simp only at hr
  have HR := Lib.hid (root_yes k (by omega) w)
  have HX := Lib.hid (show IntKind.u64.wrap ((k : Int) / (root k : Int)) = ((k / root k : Nat) : Int) by
    have : (k : Int) / (root k : Int) = ((k / root k : Nat) : Int) := by simp
    rw [this]; have h := Nat.div_le_self k (root k); generalize k / root k = q at *; exact IntWalk.u64_in _ (by omega))
  unfold ItOut
  generalize root k = r at *
  obtain ⟨g1, g2⟩ := hr
  go_enter Tryz.func87, Tryz.ntmps87
  go_wp2_with fail
  refine HR.out.mono ?_
  rintro e w1 ⟨rfl, hb⟩
  have HB := Lib.hid hb
  clear hb
  go_wp2
  go_ret
  rw [HX.out]
  have b1 := ((Box.new w1 44 #[.int .u64 k]).alloc (.cells #[.int .u64 r] 44)).alloc (.cells #[.int .u64 (k / r : Nat)] 44)
  have b3 := (Box.new (w1.alloc (.cells #[.int .u64 k] 44)) 44 #[.int .u64 r]).alloc (.cells #[.int .u64 (k / r : Nat)] 44)
  have b2 := Box.new ((w1.alloc (.cells #[.int .u64 k] 44)).alloc (.cells #[.int .u64 r] 44)) 44 #[.int .u64 (k / r : Nat)]
  simp only [World.size_alloc] at b2 b3
  have hsz := HB.out.size
  exact ⟨_, _, _, rfl, b1, b2, b3, ⟨by omega, by omega, by omega⟩, chain HB.out ((((Below.refl _ w1).alloc (Nat.le_refl _) _).alloc (by simp) _).alloc (by simp; omega) _)⟩
/-- Weights and sums are small. -/
theorem wgt_small (k d : Nat) (hk : 1 ≤ k) (hk2 : k ≤ 64) (t p : Nat) (ht : t ≤ 8) : plainN d k + moreN d p t k ≤ 300000000000 := by
  have h1 : plainN d k ≤ 4294967296 := by
    unfold plainN; split <;> exact Nat.div_le_self _ _
  have h2 : moreN d p t k ≤ 4294967296 * 64 := by
    unfold moreN
    have hb : Lib.bitLen t ≤ 8 := bitLen_le t (by omega)
    split
    · exact Nat.le_trans (Nat.div_le_self _ _) (Nat.mul_le_mul (Nat.le_refl _) (by omega))
    · split
      · refine Nat.le_trans (Nat.div_le_self _ _) ?_
        rw [Nat.mul_assoc]
        exact Nat.mul_le_mul (Nat.le_refl _) (Nat.mul_le_mul ht hb)
      · omega
  omega
theorem weights_stops (n : Nat) (hn : 1 ≤ n) (B1 B2 B3 k : Nat) (hk1 : 1 ≤ k) (hk : k ≤ 64) (w : World) (b1 : Box w B1 44 #[.int .u64 k]) (b2 : Box w B2 44 #[.int .u64 (k / root k : Nat)]) (b3 : Box w B3 44 #[.int .u64 (root k : Nat)]) :
    SeqStopsK Fence.wide n Tryz.prog 101 #[.pointer (some ⟨B1, 0, none⟩), .pointer (some ⟨B2, 0, none⟩), .pointer (some ⟨B3, 0, none⟩)] (fun x : Nat => #[Value.int .u64 (x : Int)]) (Kp3 B1 B2 B3) (fun ys => ys = wgts k k) (fun _ => True) k w := fun l J Jx W hW hJ _ hY h0 => by
  have hr := root_small ⟨k, by omega⟩ hk1
  simp only at hr
  refine (weights1_in Fence.wide rfl n hn l B1 B2 B3 k (k / root k) (root k) hk1 hk hr.1 (by omega) (Nat.le_trans (Nat.div_le_self _ _) hk) (fun d hd => by have := wgt_small k d hk1 hk (root k) (k / root k) hr.2; omega) J Jx W.heap.size hJ hY W ((b1.keep hW).cell 0) ((b2.keep hW).cell 0) ((b3.keep hW).cell 0) h0).mono ?_
  rintro e W' ⟨he, ⟨ys, rfl, hj⟩ | ⟨pre, _, hj⟩⟩
  · exact ⟨he, .inl ⟨_, rfl, hj⟩⟩
  · exact ⟨he, .inr ⟨_, trivial, hj⟩⟩
theorem u64_infoW : (Tryz.prog.info? 44).map (fun i => (i.zero, i.size, i.bytes)) = some (some (.int .u64 0), 1, 8) := by kernel_rfl
/-- A slice of words, and no error, is returned. -/
def WordsOut (zs : List Nat) (w : World) (e : Ending) (w' : World) : Prop := ∃ v, e = .returned (.tuple #[v, .int .i64 0]) ∧ w'.ownsRow w.heap.size 44 1 v zs.length (zs.map u64V) ∧ Below w.heap.size w w'
theorem keep3 {W w1 : World} {B B1 B2 B3 n1 : Nat} {v v' : Value} {e k : Nat} {xs : List Value} {tmp : Obj} (hrow : W.ownsRow n1 e 1 v k xs) (hgrow : (W.alloc tmp).grownBy w1 v.ownBlock) (hs : n1 ≤ W.heap.size)
    (h1 : B1 < n1) (h2 : B2 < n1) (h3 : B3 < n1) (q1 : B1 ≠ B) (q2 : B2 ≠ B) (q3 : B3 ≠ B) : Kp3 B1 B2 B3 W (w1.setCell ⟨B, 0, none⟩ v') := by
  intro b hb
  have hbn : b < n1 ∧ b ≠ B := by rcases hb with rfl | rfl | rfl <;> exact ⟨‹_›, ‹_›⟩
  have hne : some b ≠ v.ownBlock := fun e => by have := (hrow.lt b e.symm).1; omega
  rw [heap_setCell_other w1 ⟨B, 0, none⟩ b v' hbn.2, hgrow.block b (by simp; omega) hne, Below.heap_alloc W tmp b (by omega)]
theorem kp3_put {B1 B2 B3 : Nat} {w : World} (h1 : B1 < w.heap.size) (h2 : B2 < w.heap.size) (h3 : B3 < w.heap.size) (W : World) (l : Nat) (o o' : Obj) (hl : w.heap.size ≤ l) (_ : W.heap[l]? = some o) (_ : o.isCells = false) (_ : o.isWalk = false) : Kp3 B1 B2 B3 W (W.putObj l o') := by
  intro b hb
  exact World.putObj_heap_other (by rcases hb with rfl | rfl | rfl <;> omega)
theorem box_ne {W : World} {a b : Nat} {t u : TypeId} {x y : Array Value} (h : Box W a t x) (k : Box W b u y) (hne : t ≠ u) : a ≠ b := by
  intro e
  subst e
  unfold Box at h k
  rw [h] at k
  injection k with k
  injection k with _ ht
  exact hne ht
/-- The sum of weights, modulo 2^64. -/
def sumN (xs : List Nat) : Nat := xs.foldl (fun s x => (s + x) % 18446744073709551616) 0
theorem sumN_snoc (xs : List Nat) (x : Nat) : sumN (xs ++ [x]) = (sumN xs + x) % 18446744073709551616 := by simp [sumN]
/-- The sums of the first weights, one by one. -/
def tbl (xs : List Nat) : List Nat := (List.range xs.length).map fun i => sumN (xs.take (i + 1))
theorem tbl_snoc (xs : List Nat) (x : Nat) : tbl (xs ++ [x]) = tbl xs ++ [sumN (xs ++ [x])] := by
  unfold tbl
  rw [List.length_append, List.length_singleton, List.range_succ, List.map_append]
  congr 1
  · apply List.map_congr_left
    intro i hi
    have : i < xs.length := by simpa using hi
    rw [List.take_append_of_le_length (by omega)]
  · simp [List.take_of_length_le]
theorem wrap_nat (s x : Nat) : IntKind.u64.wrap ((s : Int) + (x : Int)) = (((s + x) % 18446744073709551616 : Nat) : Int) := by
  rw [IntKind.wrap_u64]; omega
theorem tbl_len (xs : List Nat) : (tbl xs).length = xs.length := by simp [tbl]
theorem tableN_no (n : Int) (h : kmb n = false) (w : World) : Calls Tryz.prog 70 #[.int .i64 n] w fun e w' => e = .returned (.tuple #[.slice none 0 0, .int .i64 2]) ∧ Below w.heap.size w w' := by
  have H := Lib.hid (kmb_any n w)
  rw [h] at H
  go_enter Tryz.func70, Tryz.ntmps70
  go_wp2_with fail
  refine H.out.mono ?_
  rintro e w1 ⟨rfl, rfl⟩
  go_wp2_with fail
  go_ret2
  exact ⟨rfl, Below.refl _ _⟩
set_option maxRecDepth 100000 in
set_option maxHeartbeats 4000000 in
theorem tableN_in (k : Nat) (hk1 : 1 ≤ k) (hk : k ≤ 64) (w : World) : CallsIn Fence.wide 5 Tryz.prog 70 #[.int .i64 k] w (WordsOut (tbl (wgts k k)) w) := by
  obtain ⟨i0, hi, hz0, hz1, hz2⟩ := info_parts u64_infoW
  have H := Lib.hid (kmb_any k w)
  rw [kmb_yes (n := (k : Int)) (by omega)] at H
  have HWt := Lib.hid (weights_any k hk1 hk ((w.alloc (.cells #[.slice none 0 0] 47)).alloc (.cells #[.int .u64 0] 44)))
  refine callsIn_of_wp_marks Tryz.func70 rfl trivial ?_ rfl
  simp only [Tryz.ntmps70, List.size_toArray, List.length_cons, List.length_nil, Nat.reduceAdd, Nat.reduceSub, Array.replicate_succ, Array.replicate_zero, List.push_toArray, List.append_toArray, List.nil_append, List.cons_append]
  gi_wp2_with (refine ⟨trivial, ?_⟩; first | (gi_at_call 86; refine (callsIn_wide.2 H.out).mono ?_; rintro e w' ⟨rfl, rfl⟩) | (gi_at_call 87; refine (callsIn_wide.2 HWt.out).mono ?_; rintro e w1 ⟨B1, B2, B3, rfl, b1, b2, b3, hge, hb⟩))
  have bO : Boxed w1 w.heap.size 47 (.slice none 0 0) := ((Box.new w 47 #[.slice none 0 0]).alloc (.cells #[.int .u64 0] 44)).keep hb
  have bS : Boxed w1 (w.heap.size + 1) 44 (.int .u64 0) := by
    have := (Box.new (w.alloc (.cells #[.slice none 0 0] 47)) 44 #[.int .u64 0]).keep hb
    rwa [World.size_alloc] at this
  have hB0 : Below w.heap.size w w1 := chain (((Below.refl w.heap.size w).alloc (Nat.le_refl _) (.cells #[.slice none 0 0] 47)).alloc (by simp) (.cells #[.int .u64 0] 44)) hb
  simp only [World.size_alloc] at hge
  obtain ⟨p1, p2, p3⟩ := hge
  have l1 := b1.lt
  have l2 := b2.lt
  have l3 := b3.lt
  have lO := bO.lt
  have lS := bS.lt
  clear hb
  refine wpIn_rangeFunc_ownG rfl (by omega) (gf := 101) (lb := #[.pointer (some ⟨B1, 0, none⟩), .pointer (some ⟨B2, 0, none⟩), .pointer (some ⟨B3, 0, none⟩)]) rfl trivial (enters_of Tryz.func101 (by kernel_rfl) rfl)
    (weights_stops (5 - 1) (by omega) B1 B2 B3 k hk1 hk w1 b1 b2 b3) Kp3.trans (kp3_put l1 l2 l3) (Below.refl _ _) (fun _ => rfl)
    (fun pre W => (∃ v, Boxed W w.heap.size 47 v ∧ W.ownsRow w1.heap.size 44 1 v (tbl pre).length ((tbl pre).map u64V) ∧ True) ∧ (Boxed W (w.heap.size + 1) 44 (.int .u64 (sumN pre : Nat))) ∧ Below w.heap.size w W ∧ w1.heap.size ≤ W.heap.size)
    (fun _ _ _ => False)
    (OwnFrom.and (Own.from (holdsRow_own w1.heap.size w.heap.size 47 44 1 (fun pre : List Nat => (tbl pre).length) (fun pre : List Nat => (tbl pre).map u64V) (fun _ _ => True)) _) (OwnFrom.and (Own.from (boxed_own (w.heap.size + 1) 44 (fun pre : List Nat => .int .u64 (sumN pre : Nat))) _) (OwnFrom.and (ownFrom_below (Nat.le_refl _) (by omega)) (fun _ _ _ _ hs hg _ => Nat.le_trans hs hg.size))))
    (fun _ _ _ _ _ hs _ _ => hs)
    ⟨⟨_, bO, World.ownsRow_nil _ _ _ _, trivial⟩, bS, hB0, Nat.le_refl _⟩
    (fun x => { tmps := #[.int .i64 k, undef, .slice none 0 0, .int .i64 0, .pointer (some ⟨w.heap.size, 0, none⟩), .pointer (some ⟨w.heap.size + 1, 0, none⟩), .int .u64 (x : Int), .int .i64 k, .bool true, .bool false, .int .i64 k, .func (.func 101) #[] #[.pointer (some ⟨B1, 0, none⟩), .pointer (some ⟨B2, 0, none⟩), .pointer (some ⟨B3, 0, none⟩)], .int .u64 (x : Int), undef, undef, undef, undef, undef, undef, undef, undef], defers := [] }) ?assign ?body ?done ?stop
  case assign =>
    intro l x W K hK
    gi_wp2
    exact hK
  case body =>
    rintro l pre x W ⟨⟨v, hv, hrow, _⟩, hS, hB, hsz⟩ hlt
    have hq : some (w.heap.size + 1) ≠ v.ownBlock := fun e => by have := (hrow.lt _ e.symm).1; omega
    have HN := Lib.hid (sumN_snoc pre x)
    have HT := Lib.hid (tbl_snoc pre x)
    have HTL := Lib.hid (tbl_len pre)
    have hwn := wrap_nat (sumN pre) x
    rw [← HN.out] at hwn
    generalize hs' : sumN (pre ++ [x]) = s' at *
    have HE := Lib.hid hs'
    clear hs'
    generalize sumN pre = s0 at *
    have hv' := hv.other (B' := w.heap.size + 1) (by omega) (.int .u64 (s' : Int))
    have hS' : Boxed (W.setCell ⟨w.heap.size + 1, 0, none⟩ (.int .u64 (s' : Int))) (w.heap.size + 1) 44 (.int .u64 (s' : Int)) := hS.set _
    have hrow' := hrow.kept (grownBy_setCell' W (w.heap.size + 1) (.int .u64 (s' : Int))) (.inr hq.symm)
    have hB' := hB.setCell (p := ⟨w.heap.size + 1, 0, none⟩) (by simp) (.int .u64 (s' : Int))
    have hko : KeepsOthers W (W.setCell ⟨w.heap.size + 1, 0, none⟩ (.int .u64 (s' : Int))) := KeepsOthers.setCell _ _ _
    have hk1 : Kp3 B1 B2 B3 W (W.setCell ⟨w.heap.size + 1, 0, none⟩ (.int .u64 (s' : Int))) := fun b hb => heap_setCell_other _ _ _ _ (by rcases hb with rfl | rfl | rfl <;> (show _ ≠ w.heap.size + 1; omega))
    have hsz' : w1.heap.size ≤ (W.setCell ⟨w.heap.size + 1, 0, none⟩ (.int .u64 (s' : Int))).heap.size := Nat.le_trans hsz hko.size
    have e1 := hS.cell
    have e2 := hS.frozen
    have e3 := hv'.cell
    have e4 := hS'.cell
    have HKO := Lib.hid hko
    have HK1 := Lib.hid hk1
    have HTL2 := Lib.hid (show (tbl pre).length = pre.length from HTL.out)
    clear hk1 hko
    rw [HTL.out] at hrow'
    generalize hW' : W.setCell ⟨w.heap.size + 1, 0, none⟩ (.int .u64 (s' : Int)) = W' at *
    have HW' := Lib.hid hW'
    gi_wp2_with (gi_at_builtin; refine wpListIn_append_own _ rfl _ _ 47 rfl w1.heap.size 44 i0 (.int .u64 0) 1 8 Tryz.underlying47 hi hz0 hz1 hz2 rfl (by decide) _ _ _ rfl (hrow'.alloc _) ⟨W'.heap.size, 0, none⟩ 1 1 [.int .u64 (s' : Int)] rfl rfl (cell_one_new _ _ _) (by simp [Value.oneCell']) (by simp [maxLen]; omega) (by omega) (by simp; omega) ?_; intro v' w2 hown' hgrow _; obtain ⟨g', cap', rfl⟩ := ownsRow_succ hown'; obtain ⟨hv1, hv2, hr2, hk2, hb2⟩ := hv'.appended (by decide) (own_low hrow' (by omega)) hB'.size (Nat.le_refl _) (own_low hown' (by omega)) hgrow; have hr3 := hown'.kept (grownBy_setCell' w2 w.heap.size (.slice (some ⟨g', 0, none⟩) (pre.length + 1) cap')) (.inr (hv1.not_row (by decide) hown').symm); have hkp := keep3 (B := w.heap.size) (v' := .slice (some ⟨g', 0, none⟩) (pre.length + 1) cap') hrow' hgrow hsz' l1 l2 l3 (by omega) (by omega) (by omega); have hc1 := hv1.cell; have hf1 := hv1.frozen)
    have hS3 := ((hS'.alloc _).kept hgrow hq).other (B' := w.heap.size) (by omega) (.slice (some ⟨g', 0, none⟩) (pre.length + 1) cap')
    refine ⟨(HKO.out.trans hk2).from _, HK1.out.trans hkp, ⟨_, hv2, ?_, trivial⟩, ?_, hB'.trans hb2, Nat.le_trans hsz' hk2.size⟩
    · rw [HT.out, List.length_append, HTL.out, List.map_append]
      exact hr3
    · rw [HE.out]; exact hS3
  case done =>
    rintro D ys W hD rfl ⟨⟨v, hv, hrow, _⟩, hS, hB, hsz⟩ hK
    have hc := hv.cell
    gi_wp2
    refine ⟨by simp, .inl ⟨_, _, rfl, run_takeDeferred hK, ?_⟩⟩
    exact ⟨_, results_tmp2 rfl _ _ _, v, rfl, own_low (ownsRow_putObj hrow _ hK rfl) (by omega), hB.trans (belowK_b (w := w) (Nat.le_refl _) W D _ _ (by omega) hK rfl rfl)⟩
  case stop =>
    rintro D c pre W _ _ h _
    exact h.elim
theorem tableN_any (k : Nat) (hk1 : 1 ≤ k) (hk : k ≤ 64) (w : World) : Calls Tryz.prog 70 #[.int .i64 k] w (WordsOut (tbl (wgts k k)) w) := callsIn_wide.1 (tableN_in k hk1 hk w)
end
section
/- Contracts of layer 7: tableMayBe, Pick, the law's alive. -/
set_option linter.unusedVariables false
set_option linter.unusedSimpArgs false
open Go.RowKit
def lastOf (ws : List Nat) (k : Nat) : Nat := if k = 0 then 0 else ws.getD (k - 1) 0
theorem lastOf_succ (ws : List Nat) (k : Nat) : lastOf ws (k + 1) = ws.getD k 0 := by simp [lastOf]
theorem rises_no (ws : List Nat) (k : Nat) (hk : k < ws.length) (h : ws.getD k 0 ≤ lastOf ws k) : risesFrom 0 ws = false := by
  refine rises_stop ws (k + 1) (by omega) ?_
  rw [rises_take ws 0 k hk]
  have : ¬ ((if k = 0 then 0 else ws.getD (k - 1) 0) < ws.getD k 0) := by unfold lastOf at h; omega
  simp only [this, decide_false, Bool.and_false]
theorem rises_go (ws : List Nat) (k : Nat) (hk : k < ws.length) (h : ¬ ws.getD k 0 ≤ lastOf ws k) (ht : risesFrom 0 (ws.take k) = true) : risesFrom 0 (ws.take (k + 1)) = true := by
  rw [rises_take ws 0 k hk, ht]
  have : ((if k = 0 then 0 else ws.getD (k - 1) 0) < ws.getD k 0) := by unfold lastOf at h; omega
  simp only [this, decide_true, Bool.and_self]
set_option maxHeartbeats 1000000 in
theorem table_any (A : Option Addr) (l c : Nat) (ws : List Nat) (w : World) (hw : Words w A l ws) (hl : l ≤ maxLen) :
    Calls Tryz.prog 88 #[.slice A l c] w fun e w' => e = .returned (.bool (tabB ws)) ∧ w = w' := by
  unfold maxLen at hl
  have hlen := hw.1
  by_cases h0 : l = 0
  · have e : tabB ws = false := by simp [tabB, hlen, h0]
    rw [e]; subst h0
    clear e hlen hw
    go_enter Tryz.func88, Tryz.ntmps88
    go_wp2
    go_ret
    exact ⟨rfl, rfl⟩
  · by_cases h64 : 64 < l
    · have e : tabB ws = false := by simp [tabB, hlen]; omega
      rw [e]
      clear e hlen hw
      have t1 : ((l : Int) == 0) = false := by simpa using h0
      have t2 : (64 : Int) < l := by omega
      go_enter Tryz.func88, Tryz.ntmps88
      go_wp2
      go_ret
      exact ⟨rfl, rfl⟩
    · have e : tabB ws = risesFrom 0 ws := by simp [tabB, hlen, show 1 ≤ l by omega, show l ≤ 64 by omega]
      rw [e]
      clear e
      have t1 : ((l : Int) == 0) = false := by simpa using h0
      have t2 : ¬ (64 : Int) < l := by omega
      have HL := Lib.hid hlen
      have HW := Lib.hid hw
      clear hlen hw
      go_enter Tryz.func88, Tryz.ntmps88
      go_wp2_with fail
      go_loop [3, 16] (fun v i => ∃ k : Nat, k ≤ l ∧ i = .int .i64 k ∧ v = .int .u64 (lastOf ws k : Nat) ∧ Hid (risesFrom 0 (ws.take k) = true)) (fun _ i => l - (intOf i).toNat)
      case atStart => exact ⟨0, by omega, rfl, rfl, Lib.hid (by simp [risesFrom])⟩
      case round =>
        obtain ⟨k, hk, rfl, rfl, HN⟩ := hrel
        by_cases hlt : k < l
        · have hkl' : (k : Int) < (l : Int) := by omega
          obtain ⟨b, off, rfl, hb, hc⟩ := HW.out.2.2 (by omega)
          have c1 := hc k hlt
          clear hc
          have HS := Lib.hid (lastOf_succ ws k)
          by_cases hx : ws.getD k 0 ≤ lastOf ws k
          · have HE := Lib.hid (rises_no ws k (by rw [HL.out]; exact hlt) hx)
            generalize ws.getD k 0 = x at *
            generalize lastOf ws k = y at *
            have t : (x : Int) ≤ (y : Int) := by omega
            go_wp2
            go_ret
            exact ⟨by rw [HE.out]; rfl, rfl⟩
          · have HE := Lib.hid (rises_go ws k (by rw [HL.out]; exact hlt) hx HN.out)
            generalize ws.getD k 0 = x at *
            generalize lastOf ws k = y at *
            have t : ¬ (x : Int) ≤ (y : Int) := by omega
            go_wp2
            go_round
            case rel => exact ⟨k + 1, by omega, by go_num, by rw [HS.out], HE⟩
            case measure => simp [intOf] <;> omega
        · obtain rfl : l = k := by omega
          have hkl' : ¬ (l : Int) < (l : Int) := by omega
          have HE := Lib.hid (show risesFrom 0 ws = true by have := HN.out; rwa [List.take_of_length_le (by rw [HL.out]; omega)] at this)
          go_wp2
          go_ret
          exact ⟨by rw [HE.out]; rfl, rfl⟩
/-- The degree that a number picks of a table. -/
def pickD (ws : List Nat) (n : Nat) : Nat := pickN ws (n % ws.getD (ws.length - 1) 0) + 1
theorem pick_no (A : Option Addr) (l c : Nat) (ws : List Nat) (n : Nat) (w : World) (hw : Words w A l ws) (hl : l ≤ maxLen) (ht : tabB ws = false) :
    Calls Tryz.prog 71 #[.slice A l c, .int .u64 n] w fun e w' => e = .returned (.tuple #[.int .i64 0, .int .i64 1]) ∧ Below w.heap.size w w' := by
  have H := Lib.hid (table_any A l c ws _ ((hw.alloc (.cells #[.slice A l c] 47)).alloc (.cells #[.int .u64 n] 44)) hl)
  rw [ht] at H
  clear hw ht
  go_enter Tryz.func71, Tryz.ntmps71
  go_wp2_with fail
  refine H.out.mono ?_
  rintro e w1 ⟨rfl, rfl⟩
  go_wp2_with fail
  go_ret2
  exact ⟨rfl, ((Below.refl _ _).alloc (Nat.le_refl _) _).alloc (by simp) _⟩
theorem tab_at {ws : List Nat} (h : tabB ws = true) : 1 ≤ ws.length ∧ ws.length ≤ 64 ∧ risesFrom 0 ws = true := by
  simp only [tabB, Bool.and_eq_true, decide_eq_true_eq] at h
  exact ⟨h.1.1, h.1.2, h.2⟩
theorem pickF_any (bt bn b off l c n i : Nat) (x : Nat) (W : World) (hi : i < l) (hl : l ≤ 64) (hlc : l ≤ c) (ht : W.cell? ⟨bt, 0, none⟩ = some (.slice (some ⟨b, off, none⟩) l c)) (hn : W.cell? ⟨bn, 0, none⟩ = some (.int .u64 n)) (hc : W.cell? ⟨b, off + i, none⟩ = some (.int .u64 x)) :
    Calls Tryz.prog 90 (#[.int .i64 i] ++ #[.pointer (some ⟨bt, 0, none⟩), .pointer (some ⟨bn, 0, none⟩)]) W fun e w' => e = .returned (.bool (decide (n < x))) ∧ ∃ q, w' = W.drewN q := by
  have e : decide (n < x) = decide ((n : Int) < (x : Int)) := decide_eq_decide.2 (by omega)
  have hiz : (i : Int) < (l : Int) := by omega
  rw [e]
  go_enter Tryz.func90, Tryz.ntmps90
  go_wp2
  go_region
  all_goals go_wp2
  all_goals go_ret
  all_goals exact ⟨by first | rfl | simp, 1, rfl⟩
theorem pickS_any (g1 g2 b off l c r : Nat) (ws : List Nat) (W : World) (t1 t2 : TypeId) (bt : Box W g1 t1 #[.slice (some ⟨b, off, none⟩) l c]) (bn : Box W g2 t2 #[.int .u64 (r : Int)]) (hb : b < W.heap.size)
    (hc : ∀ j, j < l → W.cell? ⟨b, off + j, none⟩ = some (.int .u64 (ws.getD j 0 : Nat))) (hl : ws.length = l) (h64 : l ≤ 64) (hlc : l ≤ c) (hm : ∀ a b, a ≤ b → b < ws.length → ws.getD a 0 ≤ ws.getD b 0) :
    Calls Tryz.prog 89 #[.int .i64 l, .func (.func 90) #[] #[.pointer (some ⟨g1, 0, none⟩), .pointer (some ⟨g2, 0, none⟩)]] W fun e w' => e = .returned (.int .i64 (pickN ws r : Nat)) ∧ Below W.heap.size W w' := by
  have eg : ∀ args w, (callFunc 90 args).run Tryz.prog w = .ok (.enter 90 args) w := enters_of Tryz.func90 (by kernel_rfl) rfl
  have hf : Asks Tryz.prog 90 #[.pointer (some ⟨g1, 0, none⟩), .pointer (some ⟨g2, 0, none⟩)] l (fun i => decide (r < ws.getD i 0)) W := fun W' i hi hb2 =>
    (pickF_any g1 g2 b off l c r i (ws.getD i 0) W' hi h64 hlc ((bt.keep hb2).cell 0) ((bn.keep hb2).cell 0) ((hb2.cell (p := ⟨b, off + i, none⟩) hb).trans (hc i hi))).mono fun _ _ ⟨he, q, hq⟩ => ⟨he, by rw [hq]; exact bdN hb2 q⟩
  have hS := search_any 90 _ l _ W eg (by omega) hf (fun a b hab hbl h => by
    have := hm a b hab (by omega)
    have h' : r < ws.getD a 0 := of_decide_eq_true h
    exact decide_eq_true (by omega))
  have e : (List.range l).countP (fun i => !decide (r < ws.getD i 0)) = pickN ws r := by rw [pickN, hl]
  rw [e] at hS
  exact hS
theorem pickN_le (ws : List Nat) (n : Nat) : pickN ws n ≤ ws.length := by
  have := List.countP_le_length (p := fun i => !decide (n < ws.getD i 0)) (l := List.range ws.length)
  simpa [pickN] using this
theorem last_pos {ws : List Nat} (h : tabB ws = true) : 0 < ws.getD (ws.length - 1) 0 := by
  obtain ⟨h1, _, h3⟩ := tab_at h
  exact (rises_at ws 0 (ws.length - 1) h3 (by omega)).1
set_option maxHeartbeats 1000000 in
theorem pick_yes (A : Option Addr) (l c : Nat) (ws : List Nat) (n : Nat) (w : World) (hw : Words w A l ws) (hl : l ≤ maxLen) (hlc : l ≤ c) (hn : n < 18446744073709551616) (ht : tabB ws = true) :
    Calls Tryz.prog 71 #[.slice A l c, .int .u64 n] w fun e w' => e = .returned (.tuple #[.int .i64 (pickD ws n : Nat), .int .i64 0]) ∧ Below w.heap.size w w' := by
  obtain ⟨h1, h64, hr⟩ := tab_at ht
  have hp := last_pos ht
  have H := Lib.hid (table_any A l c ws _ ((hw.alloc (.cells #[.slice A l c] 47)).alloc (.cells #[.int .u64 n] 44)) hl)
  rw [ht] at H
  have hlen := hw.1
  rw [hlen] at h1 h64 hp
  have hlt := hw.2.1 (l - 1)
  obtain ⟨b, off, rfl, hb, hc⟩ := hw.2.2 h1
  have c1 : ((w.alloc (.cells #[.slice (some ⟨b, off, none⟩) l c] 47)).alloc (.cells #[.int .u64 n] 44)).cell? ⟨b, off + (l - 1), none⟩ = some (.int .u64 (ws.getD (l - 1) 0 : Nat)) :=
    ((((Below.refl w.heap.size w).alloc (Nat.le_refl _) _).alloc (by simp) _).cell (p := ⟨b, off + (l - 1), none⟩) hb).trans (hc (l - 1) (by omega))
  have B1 : Below w.heap.size w ((w.alloc (.cells #[.slice (some ⟨b, off, none⟩) l c] 47)).alloc (.cells #[.int .u64 n] 44)) := ((Below.refl w.heap.size w).alloc (Nat.le_refl _) _).alloc (by simp) _
  have bt := (Box.new w 47 #[.slice (some ⟨b, off, none⟩) l c]).alloc (.cells #[.int .u64 n] 44)
  have bn := Box.new (w.alloc (.cells #[.slice (some ⟨b, off, none⟩) l c] 47)) 44 #[.int .u64 n]
  simp only [World.size_alloc] at bn
  have HM := Lib.hid (rises_mono ws hr)
  have HC := Lib.hid hc
  have HB := Lib.hid hb
  have HL := Lib.hid hlen
  clear hw hc hb hlen ht hr
  go_enter Tryz.func71, Tryz.ntmps71
  go_wp2_with fail
  refine H.out.mono ?_
  rintro e w1 ⟨rfl, rfl⟩
  clear H
  go_wp2_with fail
  generalize (w.alloc (.cells #[.slice (some ⟨b, off, none⟩) l c] 47)).alloc (.cells #[.int .u64 n] 44) = W1 at *
  have k1 := bt.cell 0
  have k2 := bn.cell 0
  have k3 := bn.free 0
  have g1 : (1 : Int) ≤ l := by omega
  have g2 : (l : Int) ≤ 64 := by omega
  have g3 : ((l : Int) - 1).toNat = l - 1 := by omega
  have HX := Lib.hid (show ws.getD (l - 1) 0 = ws.getD (ws.length - 1) 0 by rw [HL.out])
  have HT := Lib.hid bt
  have HN := Lib.hid bn
  have BB := Lib.hid B1
  clear bt bn B1
  generalize ws.getD (l - 1) 0 = x at *
  have g4 : (0 : Int) < x := by omega
  have g5 : (x : Int) ≠ 0 := by omega
  have P2 := HN.out.put 0 (.int .u64 ((n : Int) % (x : Int)))
  have P1 := HT.out.far (p := ⟨w.heap.size + 1, 0, none⟩) (by simp) (.int .u64 ((n : Int) % (x : Int)))
  have PB := BB.out.setCell (p := ⟨w.heap.size + 1, 0, none⟩) (by simp) (.int .u64 ((n : Int) % (x : Int)))
  have HS := Lib.hid (pickS_any w.heap.size (w.heap.size + 1) b off l c (n % x) ws _ _ _ P1.drew (by have := P2.drew; rw [← Int.natCast_emod] at this; exact this) (Nat.lt_of_lt_of_le HB.out PB.size)
    (fun j hj => (PB.cell (p := ⟨b, off + j, none⟩) HB.out).trans (HC.out j hj)) HL.out h64 hlc HM.out)
  have HPB := Lib.hid PB
  have HPD := Lib.hid (show pickD ws n = pickN ws (n % x) + 1 by rw [pickD, ← HX.out])
  have hle := pickN_le ws (n % x)
  rw [HL.out] at hle
  generalize pickN ws (n % x) = r at *
  clear P1 P2 PB
  go_region
  go_wp2_with fail
  refine HS.out.mono ?_
  rintro e w1 ⟨rfl, hbel⟩
  have B2 := Lib.hid (HPB.out.drew.trans (hbel.mono HPB.out.size))
  clear hbel HS HPB
  go_wp2_with fail
  go_ret2
  exact ⟨by rw [HPD.out]; rfl, B2.out⟩
theorem two_words (w : World) (t : TypeId) (a b : Nat) (ha : a < 18446744073709551616) (hb : b < 18446744073709551616) : Words (w.alloc (.cells #[.int .u64 a, .int .u64 b] t)) (some ⟨w.heap.size, 0, none⟩) 2 [a, b] := by
  have bx := Box.new w t #[.int .u64 a, .int .u64 b]
  refine ⟨rfl, fun j => ?_, fun _ => ⟨w.heap.size, 0, rfl, by simp, fun j hj => ?_⟩⟩
  · match j with
    | 0 => exact ha
    | 1 => exact hb
    | j + 2 => simp [List.getD]
  · rw [Nat.zero_add, bx.cell j]
    match j, hj with
    | 0, _ => rfl
    | 1, _ => rfl
end
section
/- Plain mathematics of DegreeSums. -/
set_option linter.unusedVariables false
set_option linter.unusedSimpArgs false
open Go.RowKit
/-- The root of small numbers. -/
def rootS (k : Nat) : Nat := if k < 1 then 0 else if k < 4 then 1 else if k < 9 then 2 else if k < 16 then 3 else if k < 25 then 4 else if k < 36 then 5 else if k < 49 then 6 else if k < 64 then 7 else 8
theorem root_rootS (k : Nat) (hk : k ≤ 64) : root k = rootS k := by
  unfold rootS
  repeat' split
  all_goals exact (root_of k _ (by omega) (by omega) (by omega)).1
def wgtS (k d : Nat) : Nat := plainN d k + moreN d (k / rootS k) (rootS k) k
theorem wgts_S (k : Nat) (hk : k ≤ 64) : wgts k k = (List.range k).map fun i => wgtS k (i + 1) := by
  unfold wgts wgt wgtS
  rw [root_rootS k hk]
theorem tab_all : ∀ k : Fin 65, 1 ≤ k.val → tabB (tbl ((List.range k.val).map fun i => wgtS k.val (i + 1))) = true := by decide +kernel
theorem tab_k (k : Nat) (h1 : 1 ≤ k) (h2 : k ≤ 64) : tabB (tbl (wgts k k)) = true := by
  rw [wgts_S k h2]; exact tab_all ⟨k, by omega⟩ h1
theorem pick_range {ts : List Nat} (h : tabB ts = true) (n : Nat) : 1 ≤ pickD ts n ∧ pickD ts n ≤ ts.length := by
  obtain ⟨h1, _, hr⟩ := tab_at h
  have hp := last_pos h
  have hm := Nat.mod_lt n hp
  unfold pickD
  refine ⟨by omega, ?_⟩
  have : pickN ts (n % ts.getD (ts.length - 1) 0) < ts.length := by
    unfold pickN
    have hc := List.countP_le_length (p := fun i => !decide (n % ts.getD (ts.length - 1) 0 < ts.getD i 0)) (l := List.range ts.length)
    rcases Nat.lt_or_ge ((List.range ts.length).countP (fun i => !decide (n % ts.getD (ts.length - 1) 0 < ts.getD i 0))) ts.length with h | h
    · exact h
    · exfalso
      have e : (List.range ts.length).countP (fun i => !decide (n % ts.getD (ts.length - 1) 0 < ts.getD i 0)) = (List.range ts.length).length := Nat.le_antisymm hc (by rw [List.length_range]; exact h)
      have := List.countP_eq_length.1 e (ts.length - 1) (by simp; omega)
      simp at this
      have hm' : n % ts.getD (ts.length - 1) 0 < ts.getD (ts.length - 1) 0 := hm
      simp [List.getD] at hm'
      omega
  omega
theorem pick_own {ts : List Nat} (h : tabB ts = true) (i : Nat) (hi : i < ts.length) : pickD ts (ts.getD i 0 - 1) = i + 1 := by
  obtain ⟨h1, _, hr⟩ := tab_at h
  have hle := rises_mono ts hr i (ts.length - 1) (by omega) (by omega)
  have h0 := (rises_at ts 0 i hr hi).1
  unfold pickD
  rw [Nat.mod_eq_of_lt (by omega), pickN_of ts _ i (fun j hj => ?_) (fun j h1 h2 => ?_) (by omega)]
  · have := rises_mono ts hr (j + 1) i (by omega) hi
    have := (rises_at ts 0 j hr (by omega)).2 (by omega)
    omega
  · have := rises_mono ts hr i j h1 h2
    omega
theorem pick_next {ts : List Nat} (h : tabB ts = true) (i : Nat) (hi : i < ts.length) : pickD ts (ts.getD i 0) = if i = ts.length - 1 then 1 else i + 2 := by
  obtain ⟨h1, _, hr⟩ := tab_at h
  have hle := rises_mono ts hr i (ts.length - 1) (by omega) (by omega)
  unfold pickD
  by_cases e : i = ts.length - 1
  · rw [if_pos e, ← e, Nat.mod_self, pickN_of ts 0 0 (fun j hj => by omega) (fun j _ h2 => (rises_at ts 0 j hr h2).1) (by omega)]
  · have hs := (rises_at ts 0 i hr hi).2 (by omega)
    have hle2 := rises_mono ts hr (i + 1) (ts.length - 1) (by omega) (by omega)
    rw [if_neg e, Nat.mod_eq_of_lt (by omega), pickN_of ts _ (i + 1) (fun j hj => rises_mono ts hr j i (by omega) hi) (fun j h1 h2 => ?_) (by omega)]
    have := rises_mono ts hr (i + 1) j h1 h2
    omega
theorem tbl_at (xs : List Nat) (i : Nat) (hi : i < xs.length) : (tbl xs).getD i 0 = sumN (xs.take (i + 1)) := by simp [tbl, List.getD, hi]
theorem sumN_take (xs : List Nat) (i : Nat) (hi : i < xs.length) : sumN (xs.take (i + 1)) = (sumN (xs.take i) + xs.getD i 0) % 18446744073709551616 := by
  rw [List.take_succ_eq_append_getElem hi, sumN_snoc]
  simp [List.getD, hi]
theorem sumN_lt (xs : List Nat) : sumN xs < 18446744073709551616 := by
  rcases List.eq_nil_or_concat xs with rfl | ⟨l, x, rfl⟩
  · simp [sumN]
  · rw [List.concat_eq_append, sumN_snoc]; exact Nat.mod_lt _ (by omega)
theorem wgt_ne {xs : List Nat} (h : tabB (tbl xs) = true) (i : Nat) (hi : i < xs.length) : xs.getD i 0 ≠ 0 := by
  obtain ⟨h1, _, hr⟩ := tab_at h
  have hl := tbl_len xs
  intro e
  have hs : sumN (xs.take (i + 1)) = sumN (xs.take i) := by
    rw [sumN_take xs i hi, e]
    have := sumN_lt (xs.take i)
    omega
  cases i with
  | zero =>
    have := (rises_at (tbl xs) 0 0 hr (by omega)).1
    have h2 := (tbl_at xs 0 hi).trans hs
    rw [h2] at this
    simp [sumN] at this
  | succ i =>
    have := (rises_at (tbl xs) 0 i hr (by omega)).2 (by omega)
    rw [tbl_at xs i (by omega), tbl_at xs (i + 1) hi, hs] at this
    omega
theorem own_slice {w : World} {base e n : Nat} {v : Value} {zs : List Nat} (h : w.ownsRow base e 1 v n (zs.map u64V)) (hz : ∀ j, zs.getD j 0 < 18446744073709551616) : ∃ A c, v = .slice A n c ∧ n ≤ c ∧ c ≤ maxLen ∧ Words w A n zs := by
  rcases h.2 with ⟨rfl, h0⟩ | ⟨g, cap, cur, rfl, hb, hh, hn, hm, hs, hx⟩
  · have hl : zs.length = n := by have := h.1; simpa using this
    subst h0
    obtain rfl : zs = [] := List.length_eq_zero_iff.1 hl
    exact ⟨none, 0, rfl, Nat.le_refl _, Nat.zero_le _, Words.nil _ _⟩
  · exact ⟨_, _, rfl, hn, hm, own_words h hz⟩
theorem tbl_lt (xs : List Nat) (j : Nat) : (tbl xs).getD j 0 < 18446744073709551616 := by
  by_cases h : j < xs.length
  · rw [tbl_at xs j h]; exact sumN_lt _
  · have : (tbl xs)[j]? = none := List.getElem?_eq_none (by rw [tbl_len]; omega)
    simp [List.getD, this]
theorem wgts_lt (k : Nat) (h1 : 1 ≤ k) (h2 : k ≤ 64) (j : Nat) : (wgts k k).getD j 0 < 18446744073709551616 := by
  by_cases h : j < k
  · have hr := (root_small ⟨k, by omega⟩ h1).2
    have := wgt_small k (j + 1) h1 h2 (root k) (k / root k) hr
    have e : (wgts k k).getD j 0 = wgt k (j + 1) := by simp [wgts, List.getD, h]
    rw [e, wgt]; omega
  · have : (wgts k k)[j]? = none := List.getElem?_eq_none (by rw [wgts_len]; omega)
    simp [List.getD, this]
end
section
/- Contracts of bitrow.joined, Xor, And. -/
set_option linter.unusedVariables false
set_option linter.unusedSimpArgs false
open Go.RowKit
def zrow : Value := .agg #[.int .i64 0, .slice none 0 0]
set_option maxHeartbeats 400000 in
/-- What a call that answers a row and an error leaves. -/
def RowOut (n : Int) (zs : List Nat) (er : Int) (w : World) (e : Ending) (w' : World) : Prop :=
  ∃ A l c, e = .returned (.tuple #[.agg #[.int .i64 n, .slice A l c], .int .i64 er]) ∧ Words w' A l zs ∧ Below w.heap.size w w'
theorem rightB_len8 {n : Int} {us : List Nat} (h : rightB n us = true) {l : Nat} (e : us.length = l) : l ≤ 8 := by
  simp only [rightB, Bool.and_eq_true, beq_iff_eq] at h
  have hn := (lmb_iff n).1 h.1.1
  have := h.1.2
  unfold nw at this
  omega
theorem rightB_len {n : Int} {us vs : List Nat} (h : rightB n us = true) (h2 : rightB n vs = true) {l k : Nat} (e : us.length = l) (e2 : vs.length = k) : k = l := by
  simp only [rightB, Bool.and_eq_true, beq_iff_eq] at h h2
  have := h.1.2
  have := h2.1.2
  omega
theorem joined_arg (f : Nat) (n m : Int) (A B : Option Addr) (l c k d : Nat) (us vs : List Nat) (w : World) (hu : Words w A l us) (hv : Words w B k vs) (h : rightB n us = false ∨ rightB m vs = false) :
    Calls Tryz.prog 95 #[.agg #[.int .i64 n, .slice A l c], .agg #[.int .i64 m, .slice B k d], .func (.func f) #[] #[]] w (RowOut 0 [] 1 w) := by
  have q0 := ((Box.new w 56 #[.int .i64 n, .slice A l c]).alloc (.cells #[.int .i64 m, .slice B k d] 56)).alloc (.cells #[.int .i64 0, .slice none 0 0] 56)
  have q1 := (Box.new (w.alloc (.cells #[.int .i64 n, .slice A l c] 56)) 56 #[.int .i64 m, .slice B k d]).alloc (.cells #[.int .i64 0, .slice none 0 0] 56)
  have q2 := Box.new ((w.alloc (.cells #[.int .i64 n, .slice A l c] 56)).alloc (.cells #[.int .i64 m, .slice B k d] 56)) 56 #[.int .i64 0, .slice none 0 0]
  have hW : Below w.heap.size w (((w.alloc (.cells #[.int .i64 n, .slice A l c] 56)).alloc (.cells #[.int .i64 m, .slice B k d] 56)).alloc (.cells #[.int .i64 0, .slice none 0 0] 56)) := (((Below.refl _ _).alloc (Nat.le_refl _) _).alloc (by simp) _).alloc (by simp; omega) _
  simp only [World.size_alloc] at q1 q2
  have hu1 := hu.below hW
  have hv1 := hv.below hW
  have Q0 := Lib.hid q0
  have Q1 := Lib.hid q1
  have Q2 := Lib.hid q2
  have HW := Lib.hid hW
  have HU := Lib.hid hu1
  have HV := Lib.hid hv1
  clear q0 q1 q2 hW hu1 hv1 hu hv
  go_enter Tryz.func95, Tryz.ntmps95
  go_wp2_with fail
  refine (right_any n A l c us _ HU.out).mono ?_
  rintro e x1 ⟨rfl, hb⟩
  have Q0 := Lib.hid (Q0.out.keep hb)
  have Q1 := Lib.hid (Q1.out.keep hb)
  have Q2 := Lib.hid (Q2.out.keep hb)
  have HV := Lib.hid (HV.out.below hb)
  have HW := Lib.hid (chain HW.out hb)
  clear HU hb
  obtain ⟨c0, c1, -, -⟩ := Q1.out.two
  obtain ⟨r0, r1, r2, r3⟩ := Q2.out.two
  cases h1 : rightB n us with
  | false =>
    clear h1 h
    go_wp2
    refine close_cell Tryz.results95 rfl rfl rfl Q2.out.put2 Tryz.underlying56 rfl (by kernel_rfl) ⟨_, _, _, rfl, Words.nil _ _, ?_⟩
    exact (HW.out.setCell (p := ⟨w.heap.size + 1 + 1, 0, none⟩) (by simp; omega) _).setCell (p := ⟨w.heap.size + 1 + 1, 1, none⟩) (by simp; omega) _
  | true =>
    have h2 : rightB m vs = false := by simpa [h1] using h
    go_wp2_with fail
    refine (right_any m B k d vs _ HV.out).mono ?_
    rintro e x2 ⟨rfl, hb⟩
    have Q2 := Lib.hid (Q2.out.keep hb)
    have HW := Lib.hid (chain HW.out hb)
    clear hb c0 c1 r0 r1 r2 r3
    obtain ⟨r0, r1, r2, r3⟩ := Q2.out.two
    go_wp2
    refine close_cell Tryz.results95 rfl rfl rfl Q2.out.put2 Tryz.underlying56 rfl (by kernel_rfl) ⟨_, _, _, rfl, Words.nil _ _, ?_⟩
    exact (HW.out.setCell (p := ⟨w.heap.size + 1 + 1, 0, none⟩) (by simp; omega) _).setCell (p := ⟨w.heap.size + 1 + 1, 1, none⟩) (by simp; omega) _
set_option maxHeartbeats 400000 in
theorem joined_size (f : Nat) (n m : Int) (A B : Option Addr) (l c k d : Nat) (us vs : List Nat) (w : World) (hu : Words w A l us) (hv : Words w B k vs) (h1 : rightB n us = true) (h2 : rightB m vs = true) (hnm : n ≠ m) :
    Calls Tryz.prog 95 #[.agg #[.int .i64 n, .slice A l c], .agg #[.int .i64 m, .slice B k d], .func (.func f) #[] #[]] w (RowOut 0 [] 2 w) := by
  have q0 := ((Box.new w 56 #[.int .i64 n, .slice A l c]).alloc (.cells #[.int .i64 m, .slice B k d] 56)).alloc (.cells #[.int .i64 0, .slice none 0 0] 56)
  have q1 := (Box.new (w.alloc (.cells #[.int .i64 n, .slice A l c] 56)) 56 #[.int .i64 m, .slice B k d]).alloc (.cells #[.int .i64 0, .slice none 0 0] 56)
  have q2 := Box.new ((w.alloc (.cells #[.int .i64 n, .slice A l c] 56)).alloc (.cells #[.int .i64 m, .slice B k d] 56)) 56 #[.int .i64 0, .slice none 0 0]
  have hW : Below w.heap.size w (((w.alloc (.cells #[.int .i64 n, .slice A l c] 56)).alloc (.cells #[.int .i64 m, .slice B k d] 56)).alloc (.cells #[.int .i64 0, .slice none 0 0] 56)) := (((Below.refl _ _).alloc (Nat.le_refl _) _).alloc (by simp) _).alloc (by simp; omega) _
  simp only [World.size_alloc] at q1 q2
  have hu1 := hu.below hW
  have hv1 := hv.below hW
  have Q0 := Lib.hid q0
  have Q1 := Lib.hid q1
  have Q2 := Lib.hid q2
  have HW := Lib.hid hW
  have HU := Lib.hid hu1
  have HV := Lib.hid hv1
  have HU0 := Lib.hid hu
  have HV0 := Lib.hid hv
  clear q0 q1 q2 hW hu1 hv1 hu hv
  go_enter Tryz.func95, Tryz.ntmps95
  go_wp2_with fail
  refine (right_any n A l c us _ HU.out).mono ?_
  rintro e x1 ⟨rfl, hb⟩
  have Q0 := Lib.hid (Q0.out.keep hb)
  have Q1 := Lib.hid (Q1.out.keep hb)
  have Q2 := Lib.hid (Q2.out.keep hb)
  have HV := Lib.hid (HV.out.below hb)
  have HW := Lib.hid (chain HW.out hb)
  clear HU hb
  obtain ⟨c0, c1, -, -⟩ := Q1.out.two
  go_wp2_with fail
  refine (right_any m B k d vs _ HV.out).mono ?_
  rintro e x2 ⟨rfl, hb⟩
  have Q0 := Lib.hid (Q0.out.keep hb)
  have Q1 := Lib.hid (Q1.out.keep hb)
  have Q2 := Lib.hid (Q2.out.keep hb)
  have HW := Lib.hid (chain HW.out hb)
  clear hb c0 c1 HV
  obtain ⟨r0, r1, r2, r3⟩ := Q2.out.two
  obtain ⟨a0, a1, -, -⟩ := Q0.out.two
  obtain ⟨b0, b1, -, -⟩ := Q1.out.two
  have t : (n != m) = true := by simpa using hnm
  go_wp2
  refine close_cell Tryz.results95 rfl rfl rfl Q2.out.put2 Tryz.underlying56 rfl (by kernel_rfl) ⟨_, _, _, rfl, Words.nil _ _, ?_⟩
  exact (HW.out.setCell (p := ⟨w.heap.size + 1 + 1, 0, none⟩) (by simp; omega) _).setCell (p := ⟨w.heap.size + 1 + 1, 1, none⟩) (by simp; omega) _
theorem uint64_info : (Tryz.prog.info? 44).map (fun i => (i.zero, i.size, i.bytes)) = some (some (.int .u64 0), 1, 8) := by kernel_rfl
theorem make_any (n : Nat) (hn : n ≤ 1000000) (w : World) :
    (Instr.makeSlice 47 (.int .i64 (n : Int)) (.int .i64 (n : Int))).run Tryz.prog w = .ok (.slice (some ⟨w.heap.size, 0, none⟩) n n) (w.alloc (.cells (numsA (List.replicate n 0)) 44)) := by
  obtain ⟨i0, hi, hz0, hz1, hz2⟩ := info_parts uint64_info
  exact make_words _ _ i0 Tryz.underlying47 hi hz0 hz1 hz2 n hn w
def part (g : Nat → Nat → Nat) (us vs : List Nat) (k : Nat) : List Nat := (List.zipWith g us vs).take k ++ List.replicate (us.length - k) 0
theorem part_zero (g : Nat → Nat → Nat) (us vs : List Nat) : part g us vs 0 = List.replicate us.length 0 := by simp [part]
theorem part_len (g : Nat → Nat → Nat) (us vs : List Nat) (j k : Nat) (hu : us.length = k) (hv : vs.length = k) : (part g us vs j).length = k := by
  simp [part]; omega
theorem part_get (g : Nat → Nat → Nat) (us vs : List Nat) (j i k : Nat) (hu : us.length = k) (hv : vs.length = k) (hi : i < k) (hj : j ≤ k) : (part g us vs j).getD i 0 = if i < j then g (us.getD i 0) (vs.getD i 0) else 0 := by
  unfold part
  have hl : ((List.zipWith g us vs).take j).length = j := by simp; omega
  by_cases h : i < j
  · rw [if_pos h]
    have h1 : i < us.length := by omega
    have h2 : i < vs.length := by omega
    simp only [List.getD, List.getElem?_append]
    rw [if_pos (by omega)]
    simp [h, h1, h2, List.getElem?_zipWith]
  · rw [if_neg h]
    simp only [List.getD, List.getElem?_append]
    rw [if_neg (by omega), List.getElem?_replicate]
    split <;> rfl
theorem part_fresh (g : Nat → Nat → Nat) (us vs : List Nat) (j k : Nat) (hu : us.length = k) (hv : vs.length = k) (hj : j < k) : (numsA (part g us vs j))[j]? = some (.int .u64 0) := by
  rw [numsA_get _ _ (by rw [part_len g us vs j k hu hv]; exact hj), part_get g us vs j j k hu hv hj (by omega)]
  simp
theorem part_set (g : Nat → Nat → Nat) (us vs : List Nat) (j k : Nat) (hu : us.length = k) (hv : vs.length = k) (hj : j < k) : (part g us vs j).set j (g (us.getD j 0) (vs.getD j 0)) = part g us vs (j + 1) := by
  apply List.ext_getElem
  · rw [List.length_set, part_len g us vs j k hu hv, part_len g us vs (j + 1) k hu hv]
  · intro i h1 h2
    have hi : i < k := by rw [part_len g us vs (j + 1) k hu hv] at h2; exact h2
    have e1 := part_get g us vs j i k hu hv hi (by omega)
    have e2 := part_get g us vs (j + 1) i k hu hv hi (by omega)
    have l1 : i < (part g us vs j).length := by rw [part_len g us vs j k hu hv]; exact hi
    simp only [List.getD, List.getElem?_eq_getElem l1, Option.getD_some] at e1
    simp only [List.getD, List.getElem?_eq_getElem h2, Option.getD_some] at e2
    rw [List.getElem_set, e2]
    by_cases e : j = i
    · subst e; simp [List.getD]
    · rw [if_neg e, e1]
      have : (i < j) ↔ (i < j + 1) := by omega
      simp only [this, List.getD]
theorem part_full (g : Nat → Nat → Nat) (us vs : List Nat) (k : Nat) (hu : us.length = k) (hv : vs.length = k) : part g us vs k = List.zipWith g us vs := by
  unfold part
  rw [List.take_of_length_le (by simp; omega), hu]
  simp
theorem part_lt (us vs : List Nat) (j i : Nat) (hu : ∀ j, us.getD j 0 < 18446744073709551616) (hv : ∀ j, vs.getD j 0 < 18446744073709551616) : (part (· ^^^ ·) us vs j).getD i 0 < 18446744073709551616 := by
  unfold part
  simp only [List.getD, List.getElem?_append]
  split
  · rw [List.getElem?_take]
    split
    · rw [List.getElem?_zipWith]
      have h1 := hu i
      have h2 := hv i
      simp only [List.getD] at h1 h2
      cases e1 : us[i]? <;> cases e2 : vs[i]? <;> simp [e1, e2] at h1 h2 ⊢
      exact Nat.xor_lt_two_pow (n := 64) h1 h2
    · simp
  · rw [List.getElem?_replicate]
    split <;> simp
theorem xor1_any (x y : Nat) (hx : x < 18446744073709551616) (hy : y < 18446744073709551616) (w : World) : Calls Tryz.prog 96 #[.int .u64 x, .int .u64 y] w fun e w' => e = .returned (.int .u64 ((x ^^^ y : Nat) : Int)) ∧ w = w' := by
  go_enter Tryz.func96, Tryz.ntmps96
  go_wp2
  go_ret
  exact ⟨congrArg (fun z => Ending.returned (.int .u64 z)) (u64_xor_nat x y hx hy), rfl⟩
set_option maxHeartbeats 400000 in
theorem joined_xor (n : Int) (A B : Option Addr) (l c k d : Nat) (us vs : List Nat) (w : World) (hu : Words w A l us) (hv : Words w B k vs) (h1 : rightB n us = true) (h2 : rightB n vs = true) :
    Calls Tryz.prog 95 #[.agg #[.int .i64 n, .slice A l c], .agg #[.int .i64 n, .slice B k d], .func (.func 96) #[] #[]] w (RowOut n (List.zipWith (· ^^^ ·) us vs) 0 w) := by
  have hl : l ≤ 8 := rightB_len8 h1 hu.1
  have hkl : k = l := rightB_len h1 h2 hu.1 hv.1
  subst hkl
  have q0 := ((Box.new w 56 #[.int .i64 n, .slice A k c]).alloc (.cells #[.int .i64 n, .slice B k d] 56)).alloc (.cells #[.int .i64 0, .slice none 0 0] 56)
  have q1 := (Box.new (w.alloc (.cells #[.int .i64 n, .slice A k c] 56)) 56 #[.int .i64 n, .slice B k d]).alloc (.cells #[.int .i64 0, .slice none 0 0] 56)
  have q2 := Box.new ((w.alloc (.cells #[.int .i64 n, .slice A k c] 56)).alloc (.cells #[.int .i64 n, .slice B k d] 56)) 56 #[.int .i64 0, .slice none 0 0]
  have hW : Below w.heap.size w (((w.alloc (.cells #[.int .i64 n, .slice A k c] 56)).alloc (.cells #[.int .i64 n, .slice B k d] 56)).alloc (.cells #[.int .i64 0, .slice none 0 0] 56)) := (((Below.refl _ _).alloc (Nat.le_refl _) _).alloc (by simp) _).alloc (by simp; omega) _
  simp only [World.size_alloc] at q1 q2
  have hu1 := hu.below hW
  have hv1 := hv.below hW
  have Q0 := Lib.hid q0
  have Q1 := Lib.hid q1
  have Q2 := Lib.hid q2
  have HW := Lib.hid hW
  have HU := Lib.hid hu1
  have HV := Lib.hid hv1
  have HU0 := Lib.hid hu
  have HV0 := Lib.hid hv
  clear q0 q1 q2 hW hu1 hv1 hu hv
  go_enter Tryz.func95, Tryz.ntmps95
  go_wp2_with fail
  refine (right_any n A k c us _ HU.out).mono ?_
  rintro e x1 ⟨rfl, hb⟩
  have Q0 := Lib.hid (Q0.out.keep hb)
  have Q1 := Lib.hid (Q1.out.keep hb)
  have Q2 := Lib.hid (Q2.out.keep hb)
  have HV := Lib.hid (HV.out.below hb)
  have HW := Lib.hid (chain HW.out hb)
  clear HU hb
  obtain ⟨c0, c1, -, -⟩ := Q1.out.two
  go_wp2_with fail
  refine (right_any n B k d vs _ HV.out).mono ?_
  rintro e x2 ⟨rfl, hb⟩
  have Q0 := Lib.hid (Q0.out.keep hb)
  have Q1 := Lib.hid (Q1.out.keep hb)
  have Q2 := Lib.hid (Q2.out.keep hb)
  have HW := Lib.hid (chain HW.out hb)
  clear hb c0 c1 HV
  obtain ⟨r0, r1, r2, r3⟩ := Q2.out.two
  obtain ⟨a0, a1, -, -⟩ := Q0.out.two
  obtain ⟨b0, b1, -, -⟩ := Q1.out.two
  have t : (n != n) = false := by simp
  have hmk := make_any k (by omega) x2
  have HX2 := Lib.hid Q2.out.lt
  have Q3 := Lib.hid (Box.new x2 44 (numsA (List.replicate k 0)))
  have Q0 := Lib.hid (Q0.out.alloc (.cells (numsA (List.replicate k 0)) 44))
  have Q1 := Lib.hid (Q1.out.alloc (.cells (numsA (List.replicate k 0)) 44))
  have Q2 := Lib.hid (Q2.out.alloc (.cells (numsA (List.replicate k 0)) 44))
  have HW := Lib.hid (HW.out.alloc HW.out.size (.cells (numsA (List.replicate k 0)) 44))
  go_wp2
  clear hmk t h1 h2 a0 a1 b0 b1 r0 r1 r2 r3
  go_loopw [31] (fun i wr => ∃ j : Nat, j ≤ k ∧ i = .int .i64 j ∧ Box wr x2.heap.size 44 (numsA (part (· ^^^ ·) us vs j)) ∧ Box wr w.heap.size 56 #[.int .i64 n, .slice A k c] ∧ Box wr (w.heap.size + 1) 56 #[.int .i64 n, .slice B k d] ∧ Box wr (w.heap.size + 1 + 1) 56 #[.int .i64 0, .slice none 0 0] ∧ Below w.heap.size w wr)
    (fun i _ => k - (intOf i).toNat)
  case atStart => exact ⟨0, by omega, rfl, by rw [part_zero, HU0.out.1]; exact Q3.out, Q0.out, Q1.out, Q2.out, HW.out⟩
  case round =>
    obtain ⟨j, hj, rfl, B3, B0, B1, B2, hbel⟩ := hrel
    have R3 := Lib.hid B3
    have R0 := Lib.hid B0
    have R1 := Lib.hid B1
    have R2 := Lib.hid B2
    have HB := Lib.hid hbel
    clear B3 B0 B1 B2 hbel Q0 Q1 Q2 Q3 HW
    obtain ⟨a0, a1, -, -⟩ := R0.out.two
    obtain ⟨b0, b1, -, -⟩ := R1.out.two
    by_cases hlt : j < k
    · obtain ⟨p, o, rfl, lt1, hc1⟩ := HU0.out.2.2 (by omega)
      obtain ⟨p2, o2, rfl, lt2, hc2⟩ := HV0.out.2.2 (by omega)
      have cu := (HB.out.cell (p := ⟨p, o + j, none⟩) lt1).trans (hc1 j hlt)
      have cv := (HB.out.cell (p := ⟨p2, o2 + j, none⟩) lt2).trans (hc2 j hlt)
      have hx := HU0.out.2.1 j
      have hy := HV0.out.2.1 j
      obtain ⟨x, ex⟩ : ∃ x, x = us.getD j 0 := ⟨_, rfl⟩
      obtain ⟨y, ey⟩ : ∃ y, y = vs.getD j 0 := ⟨_, rfl⟩
      rw [← ex] at cu hx
      rw [← ey] at cv hy
      have hxy := Lib.hid (And.intro ex ey)
      clear ex ey
      have cg : wr.cell? ⟨x2.heap.size, j, none⟩ = some (.int .u64 0) := by rw [R3.out.cell j]; exact part_fresh _ us vs j k HU0.out.1 HV0.out.1 hlt
      have fg := R3.out.free j
      clear hc1 hc2
      have hz := HX2.out
      have n1 : ¬ x2.heap.size = w.heap.size := by omega
      have n2 : ¬ x2.heap.size = w.heap.size + 1 := by omega
      have n3 : ¬ x2.heap.size = p := by omega
      have n4 : ¬ x2.heap.size = p2 := by omega
      have n1' : ¬ w.heap.size = x2.heap.size := by omega
      have n2' : ¬ w.heap.size + 1 = x2.heap.size := by omega
      have n3' : ¬ p = x2.heap.size := by omega
      have n4' : ¬ p2 = x2.heap.size := by omega
      have n5' : ¬ w.heap.size + 1 + 1 = x2.heap.size := by omega
      go_wp2
      go_region_held3 (fun w' => w'.cell? ⟨w.heap.size, 1, none⟩ = some (.slice (some ⟨p, o, none⟩) k c) ∧ w'.cell? ⟨w.heap.size + 1, 1, none⟩ = some (.slice (some ⟨p2, o2, none⟩) k d) ∧ w'.cell? ⟨p, o + j, none⟩ = some (.int .u64 x) ∧ w'.cell? ⟨p2, o2 + j, none⟩ = some (.int .u64 y)) (go_keep) (first | (go_at_call 96; refine (xor1_any x y hx hy _).mono ?_; rintro e w' ⟨rfl, rfl⟩))
      have P1 := Lib.hid ((R3.out.put j (.int .u64 ((x ^^^ y : Nat) : Int))).drew)
      have P0 := Lib.hid ((R0.out.far (p := ⟨x2.heap.size, j, none⟩) n1' (.int .u64 ((x ^^^ y : Nat) : Int))).drew)
      have P2 := Lib.hid ((R1.out.far (p := ⟨x2.heap.size, j, none⟩) n2' (.int .u64 ((x ^^^ y : Nat) : Int))).drew)
      have P3 := Lib.hid ((R2.out.far (p := ⟨x2.heap.size, j, none⟩) n5' (.int .u64 ((x ^^^ y : Nat) : Int))).drew)
      have P4 := Lib.hid ((HB.out.setCell (p := ⟨x2.heap.size, j, none⟩) (by simp; omega) (.int .u64 ((x ^^^ y : Nat) : Int))).drew)
      clear cg fg cu cv n1 n2 n3 n4 n1' n2' n3' n4' a0 a1 b0 b1
      generalize (wr.setCell ⟨x2.heap.size, j, none⟩ (.int .u64 ((x ^^^ y : Nat) : Int))).drew = wn at *
      go_wp2
      go_roundw
      case rel => exact ⟨j + 1, by omega, by go_num, by have := P1.out; rw [numsA_set, hxy.out.1, hxy.out.2, part_set _ us vs j k HU0.out.1 HV0.out.1 hlt] at this; exact this, P0.out, P2.out, P3.out, P4.out⟩
      case measure => simp [intOf]; omega
    · obtain ⟨r0, r1, r2, r3⟩ := R2.out.two
      have hz := HX2.out
      have n5' : ¬ w.heap.size + 1 + 1 = x2.heap.size := by omega
      obtain rfl : j = k := by omega
      go_wp2
      refine close_cell Tryz.results95 rfl rfl rfl R2.out.put2 Tryz.underlying56 rfl (by kernel_rfl) ?_
      have hp : part (· ^^^ ·) us vs j = List.zipWith (· ^^^ ·) us vs := part_full _ us vs j HU0.out.1 HV0.out.1
      have hw := (((R3.out.far (p := ⟨w.heap.size + 1 + 1, 0, none⟩) (by simp; omega) (.int .i64 n)).far (p := ⟨w.heap.size + 1 + 1, 1, none⟩) (by simp; omega) (.slice (some ⟨x2.heap.size, 0, none⟩) j j))).words (fun i => part_lt us vs j i HU0.out.2.1 HV0.out.2.1)
      rw [part_len _ us vs j j HU0.out.1 HV0.out.1, hp] at hw
      exact ⟨_, _, _, rfl, hw, (HB.out.setCell (p := ⟨w.heap.size + 1 + 1, 0, none⟩) (by simp; omega) _).setCell (p := ⟨w.heap.size + 1 + 1, 1, none⟩) (by simp; omega) _⟩
end
section
/- Contracts of bitrow.New and bitrow.Of. -/
set_option linter.unusedVariables false
set_option linter.unusedSimpArgs false
open Go.RowKit
/-- A new row of words of the call's own. -/
def NewOut (n : Int) (zs : List Nat) (w : World) (e : Ending) (w' : World) : Prop :=
  ∃ g, e = .returned (.tuple #[.agg #[.int .i64 n, .slice (some ⟨g, 0, none⟩) zs.length zs.length], .int .i64 0]) ∧ Box w' g 44 (numsA zs) ∧ w.heap.size ≤ g ∧ Below w.heap.size w w'
theorem new_no (n : Int) (h : lmb n = false) (w : World) : Calls Tryz.prog 66 #[.int .i64 n] w (RowOut 0 [] 2 w) := by
  have q := Box.new w 56 #[.int .i64 0, .slice none 0 0]
  have Q := Lib.hid q
  clear q
  go_enter Tryz.func66, Tryz.ntmps66
  go_wp2_with fail
  refine (lengthMayBe_any n _).mono ?_
  rintro e w' ⟨rfl, rfl⟩
  go_wp2
  refine close_cell Tryz.results66 rfl rfl rfl Q.out Tryz.underlying56 rfl (by kernel_rfl) ⟨_, _, _, rfl, Words.nil _ _, (Below.refl _ _).alloc (Nat.le_refl _) _⟩
theorem new_yes (n : Nat) (h : lmb n = true) (w : World) : Calls Tryz.prog 66 #[.int .i64 n] w (NewOut n (List.replicate (nw n) 0) w) := by
  have hn := (lmb_iff n).1 h
  have hnw : nw n ≤ 8 := by unfold nw; omega
  have q := Box.new w 56 #[.int .i64 0, .slice none 0 0]
  have Q := Lib.hid q
  clear q
  have hmk := make_any (nw n) (by omega)
  go_enter Tryz.func66, Tryz.ntmps66
  go_wp2_with fail
  refine (lengthMayBe_any n _).mono ?_
  rintro e w' ⟨rfl, rfl⟩
  go_wp2_with fail
  refine (wordsFor_any n (by omega) _).mono ?_
  rintro e w' ⟨rfl, rfl⟩
  go_wp2
  have q := (Box.new w 56 #[.int .i64 n, .slice (some ⟨w.heap.size + 1, 0, none⟩) (nw n) (nw n)]).alloc (.cells (numsA (List.replicate (nw n) 0)) 44)
  have q2 := Box.new (w.alloc (.cells #[.int .i64 n, .slice (some ⟨w.heap.size + 1, 0, none⟩) (nw n) (nw n)] 56)) 44 (numsA (List.replicate (nw n) 0))
  simp only [World.size_alloc] at q2
  refine close_cell Tryz.results66 rfl rfl rfl q Tryz.underlying56 rfl (by kernel_rfl) ⟨w.heap.size + 1, by rw [List.length_replicate]; rfl, q2, by omega, ((Below.refl _ _).alloc (Nat.le_refl _) _).alloc (by simp) _⟩
def orBit (ws : List Nat) (p : Nat) : List Nat := ws.set (p / 64) (ws.getD (p / 64) 0 ||| 2 ^ (p % 64))
def ofBits (n : Nat) (ps : List Int) : List Nat := ps.foldl (fun ws p => orBit ws p.toNat) (List.replicate (nw n) 0)
def there (n : Int) (ps : List Int) : Bool := ps.all fun p => decide (0 ≤ p) && decide (p < n)
theorem orBit_length (ws : List Nat) (p : Nat) : (orBit ws p).length = ws.length := by simp [orBit]
theorem orBit_lt (ws : List Nat) (p : Nat) (h : ∀ j, ws.getD j 0 < 18446744073709551616) (j : Nat) : (orBit ws p).getD j 0 < 18446744073709551616 := by
  unfold orBit
  simp only [List.getD, List.getElem?_set]
  split
  · split
    · simp only [Option.getD_some]
      have := h (p / 64)
      exact Nat.or_lt_two_pow (n := 64) this (Nat.pow_lt_pow_right (by omega) (by omega))
    · simp
  · exact h j
theorem foldl_bits (ps : List Int) (ws : List Nat) (h : ∀ j, ws.getD j 0 < 18446744073709551616) : (ps.foldl (fun ws p => orBit ws p.toNat) ws).length = ws.length ∧ ∀ j, (ps.foldl (fun ws p => orBit ws p.toNat) ws).getD j 0 < 18446744073709551616 := by
  induction ps generalizing ws with
  | nil => exact ⟨rfl, h⟩
  | cons p ps ih =>
    have := ih (orBit ws p.toNat) (orBit_lt ws _ h)
    rw [orBit_length] at this
    exact this
theorem zeros_lt (n j : Nat) : (List.replicate n 0).getD j 0 < 18446744073709551616 := by
  simp [List.getD, List.getElem?_replicate]
  split <;> simp
theorem ofBits_len (n : Nat) (ps : List Int) : (ofBits n ps).length = nw n := by
  have := (foldl_bits ps (List.replicate (nw n) 0) (zeros_lt _)).1
  rw [List.length_replicate] at this
  exact this
theorem ofBits_lt (n : Nat) (ps : List Int) (j : Nat) : (ofBits n ps).getD j 0 < 18446744073709551616 := (foldl_bits ps _ (zeros_lt _)).2 j
theorem ofBits_snoc (n : Nat) (ps : List Int) (p : Int) : ofBits n (ps ++ [p]) = orBit (ofBits n ps) p.toNat := by simp [ofBits]
theorem take_one {α : Type} (l : List α) (k : Nat) (d : α) (h : k < l.length) : l.take (k + 1) = l.take k ++ [l.getD k d] := by
  rw [List.take_succ_eq_append_getElem h]; simp [List.getD, h]
set_option maxHeartbeats 400000 in
theorem of_no (n : Int) (A : Option Addr) (l c : Nat) (h : lmb n = false) (w : World) : Calls Tryz.prog 50 #[.int .i64 n, .slice A l c] w (RowOut 0 [] 2 w) := by
  have Q := Lib.hid (Box.new w 56 #[.int .i64 0, .slice none 0 0])
  go_enter Tryz.func50, Tryz.ntmps50
  go_wp2_with fail
  refine (new_no n h _).mono ?_
  rintro e x1 ⟨A1, l1, c1, rfl, hw, hb⟩
  have Q := Lib.hid (Q.out.keep hb)
  have HB := Lib.hid (chain ((Below.refl _ _).alloc (Nat.le_refl _) _) hb)
  have hz := Q.out.lt
  clear hb hw
  obtain ⟨r0, r1, r2, r3⟩ := Q.out.two
  go_wp2
  refine close_cell Tryz.results50 rfl rfl rfl (Q.out.put2.alloc _) Tryz.underlying56 rfl (by kernel_rfl) ⟨_, _, _, rfl, Words.nil _ _, ?_⟩
  exact (((HB.out.setCell (p := ⟨w.heap.size, 0, none⟩) (Nat.le_refl _) _).setCell (p := ⟨w.heap.size, 1, none⟩) (Nat.le_refl _) _)).alloc (by simp; omega) _
def ofN (n : Int) (ps : List Int) : Int := if lmb n && there n ps then n else 0
def ofW (n : Int) (ps : List Int) : List Nat := if lmb n && there n ps then ofBits n.toNat ps else []
def ofE (n : Int) (ps : List Int) : Int := if lmb n then if there n ps then 0 else 3 else 2
theorem or_val (x r : Nat) (hx : x < 18446744073709551616) (hr : r < 64) : bits BinOp.or IntKind.u64 (x : Int) (IntKind.u64.wrap (2 ^ r)) = ((x ||| 2 ^ r : Nat) : Int) := by
  have hp : 2 ^ r < 2 ^ 64 := Nat.pow_lt_pow_right (by omega) hr
  have e : (2 : Int) ^ r % 18446744073709551616 = ((2 ^ r : Nat) : Int) := by
    have : (2 : Int) ^ r = ((2 ^ r : Nat) : Int) := by simp
    rw [this]
    generalize 2 ^ r = p at *
    omega
  rw [IntKind.wrap_u64, e, u64_or_nat _ _ hx hp]
set_option maxHeartbeats 1000000 in
theorem of_yes (n : Nat) (A : Option Addr) (l c : Nat) (ps : List Int) (h : lmb n = true) (w : World) (hp : Ints w A l ps) (hl : l ≤ 9223372036854775807) : Calls Tryz.prog 50 #[.int .i64 n, .slice A l c] w (RowOut (ofN n ps) (ofW n ps) (ofE n ps) w) := by
  have Q := Lib.hid (Box.new w 56 #[.int .i64 0, .slice none 0 0])
  have HP := Lib.hid hp
  have HL := Lib.hid h
  have hn := (lmb_iff n).1 h
  have hnw : nw n ≤ 8 := by unfold nw; omega
  clear hp
  go_enter Tryz.func50, Tryz.ntmps50
  go_wp2_with fail
  refine (new_yes n h _).mono ?_
  clear h
  rintro e x1 ⟨g, rfl, hg, hgs, hb⟩
  have Q := Lib.hid (Q.out.keep hb)
  have HB := Lib.hid (chain ((Below.refl _ _).alloc (Nat.le_refl _) _) hb)
  have hz := Q.out.lt
  have hg1 := hg.lt
  have HG := Lib.hid hg
  rw [List.length_replicate]
  simp at hgs
  clear hb hg
  go_wp2
  have P0 := Lib.hid (Q.out.alloc (.cells #[.int .i64 n, .slice (some ⟨g, 0, none⟩) (nw n) (nw n)] 56))
  have P1 := Lib.hid (Box.new x1 56 #[.int .i64 n, .slice (some ⟨g, 0, none⟩) (nw n) (nw n)])
  have P2 := Lib.hid (HG.out.alloc (.cells #[.int .i64 n, .slice (some ⟨g, 0, none⟩) (nw n) (nw n)] 56))
  have P3 := Lib.hid (HB.out.alloc HB.out.size (.cells #[.int .i64 n, .slice (some ⟨g, 0, none⟩) (nw n) (nw n)] 56))
  clear Q HB HG
  go_loopw [21] (fun i wr => ∃ j : Nat, j ≤ l ∧ i = .int .i64 j ∧ there n (ps.take j) = true ∧ Box wr g 44 (numsA (ofBits n (ps.take j))) ∧ Box wr w.heap.size 56 #[.int .i64 0, .slice none 0 0] ∧ Box wr x1.heap.size 56 #[.int .i64 n, .slice (some ⟨g, 0, none⟩) (nw n) (nw n)] ∧ Below w.heap.size w wr)
    (fun i _ => l - (intOf i).toNat)
  case atStart => exact ⟨0, by omega, rfl, rfl, P2.out, P0.out, P1.out, P3.out⟩
  case round =>
    obtain ⟨j, hj, rfl, hth, B2, B0, B1, hbel⟩ := hrel
    have R0 := Lib.hid B0
    have R1 := Lib.hid B1
    have R2 := Lib.hid B2
    have HB := Lib.hid hbel
    have HT := Lib.hid hth
    clear B0 B1 B2 hbel hth P0 P1 P2 P3
    obtain ⟨a0, a1, f0, f1⟩ := R0.out.two
    obtain ⟨b0, b1, -, -⟩ := R1.out.two
    by_cases hlt : j < l
    · obtain ⟨q, o, rfl, lt1, hc1⟩ := HP.out.2.2 (by omega)
      have cu := (HB.out.cell (p := ⟨q, o + j, none⟩) lt1).trans (hc1 j hlt)
      obtain ⟨x, ex⟩ : ∃ x, x = ps.getD j 0 := ⟨_, rfl⟩
      rw [← ex] at cu
      have EX := Lib.hid ex
      clear ex hc1
      go_wp2_with fail
      refine (isPlace_any _ _ _ _ x _).mono ?_
      rintro e w2 ⟨rfl, hb⟩
      have S0 := Lib.hid (R0.out.keep hb)
      have S1 := Lib.hid (R1.out.keep hb)
      have S2 := Lib.hid (R2.out.keep hb)
      have HC := Lib.hid (chain HB.out hb)
      clear hb a0 a1 f0 f1 b0 b1 cu
      obtain ⟨a0, a1, f0, f1⟩ := S0.out.two
      obtain ⟨b0, b1, -, -⟩ := S1.out.two
      have htk : ps.take (j + 1) = ps.take j ++ [x] := by rw [EX.out]; exact take_one ps j 0 (by rw [HP.out.1]; exact hlt)
      have HTk := Lib.hid htk
      clear htk
      by_cases hx : 0 ≤ x ∧ x < n
      · obtain ⟨y, rfl⟩ := Int.eq_ofNat_of_zero_le hx.1
        have t0 : (decide (0 ≤ (y : Int)) && decide ((y : Int) < n)) = true := by simp; omega
        rw [t0]
        clear t0
        have hlen : (ofBits n (ps.take j)).length = nw n := ofBits_len n _
        have hy8 : y / 64 < nw n := by unfold nw; omega
        have hv := ofBits_lt n (ps.take j) (y / 64)
        have cg : w2.cell? ⟨g, y / 64, none⟩ = some (.int .u64 ((ofBits n (ps.take j)).getD (y / 64) 0 : Nat)) := by rw [S2.out.cell, numsA_get _ _ (by omega)]
        have fg := S2.out.free (y / 64)
        have P2 := Lib.hid ((S2.out.put (y / 64) (.int .u64 (((ofBits n (ps.take j)).getD (y / 64) 0 ||| 2 ^ (y % 64) : Nat) : Int))).drew)
        have HV := Lib.hid (or_val ((ofBits n (ps.take j)).getD (y / 64) 0) (y % 64) hv (by omega))
        have n1 : w.heap.size ≠ g := by omega
        have n2 : x1.heap.size ≠ g := by omega
        have P0 := Lib.hid ((S0.out.far (p := ⟨g, y / 64, none⟩) n1 (.int .u64 (((ofBits n (ps.take j)).getD (y / 64) 0 ||| 2 ^ (y % 64) : Nat) : Int))).drew)
        have P1 := Lib.hid ((S1.out.far (p := ⟨g, y / 64, none⟩) n2 (.int .u64 (((ofBits n (ps.take j)).getD (y / 64) 0 ||| 2 ^ (y % 64) : Nat) : Int))).drew)
        have P3 := Lib.hid ((HC.out.setCell (p := ⟨g, y / 64, none⟩) (by simp; omega) (.int .u64 (((ofBits n (ps.take j)).getD (y / 64) 0 ||| 2 ^ (y % 64) : Nat) : Int))).drew)
        have H4 : Hid (there n (ps.take (j + 1)) = true) := by
          show there n (ps.take (j + 1)) = true
          rw [HTk.out]
          have := HT.out
          simp only [there, List.all_append, Bool.and_eq_true] at this ⊢
          exact ⟨this, by simp; omega⟩
        have H5 : Hid ((numsA (ofBits n (ps.take j))).setIfInBounds (y / 64) (.int .u64 (((ofBits n (ps.take j)).getD (y / 64) 0 ||| 2 ^ (y % 64) : Nat) : Int)) = numsA (ofBits n (ps.take (j + 1)))) := by
          show _ = _
          rw [numsA_set, HTk.out, ofBits_snoc]; rfl
        generalize (ofBits n (ps.take j)).getD (y / 64) 0 = v at *
        go_wp2
        have g1 : (y : Int).tdiv 64 = ((y / 64 : Nat) : Int) := by rw [Int.tdiv_eq_ediv_of_nonneg (by omega)]; omega
        have g2 : (y : Int).tmod 64 = ((y % 64 : Nat) : Int) := by rw [Int.tmod_eq_emod_of_nonneg (by omega)]; omega
        have g3 : IntKind.i64.wrap ((y / 64 : Nat) : Int) = ((y / 64 : Nat) : Int) := IntWalk.i64_in _ (by omega)
        have g4 : (0 : Int) ≤ ((y / 64 : Nat) : Int) := by omega
        have g5 : ((y / 64 : Nat) : Int) < (nw n : Int) := by omega
        go_region
        rw [HV.out]
        clear g1 g2 g3 g4 g5 a0 a1 f0 f1 b0 b1 cg fg
        generalize (w2.setCell ⟨g, y / 64, none⟩ (.int .u64 ((v ||| 2 ^ (y % 64) : Nat) : Int))).drew = wn at *
        go_wp2
        go_roundw
        case rel => exact ⟨j + 1, by omega, by go_num, H4.out, by have := P2.out; rw [H5.out] at this; exact this, P0.out, P1.out, P3.out⟩
        case measure => simp [intOf]; omega
      · have t0 : (decide (0 ≤ x) && decide (x < n)) = false := by simp; omega
        rw [t0]
        clear t0
        have H4 : Hid (there n ps = false) := by
          show there n ps = false
          rw [← List.take_append_drop (j + 1) ps, HTk.out]
          have : (decide (0 ≤ x) && decide (x < n)) = false := by simp; omega
          simp [there, List.all_append, this]
        go_wp2
        refine close_cell Tryz.results50 rfl rfl rfl S0.out.put2 Tryz.underlying56 rfl (by kernel_rfl) ?_
        unfold ofN ofW ofE
        rw [HL.out, H4.out]
        exact ⟨_, _, _, rfl, Words.nil _ _, (HC.out.setCell (p := ⟨w.heap.size, 0, none⟩) (Nat.le_refl _) _).setCell (p := ⟨w.heap.size, 1, none⟩) (Nat.le_refl _) _⟩
    · obtain rfl : j = l := by omega
      have H4 : Hid (ps.take j = ps) := by
        show ps.take j = ps
        exact List.take_of_length_le (by rw [HP.out.1]; omega)
      go_wp2
      refine close_cell Tryz.results50 rfl rfl rfl R0.out.put2 Tryz.underlying56 rfl (by kernel_rfl) ?_
      have h5 := HT.out
      have h6 := R2.out
      rw [H4.out] at h5 h6
      unfold ofN ofW ofE
      rw [HL.out, h5]
      have n1 : g ≠ w.heap.size := by omega
      have hw := ((h6.far (p := ⟨w.heap.size, 0, none⟩) n1 (.int .i64 n)).far (p := ⟨w.heap.size, 1, none⟩) n1 (.slice (some ⟨g, 0, none⟩) (nw n) (nw n))).words (ofBits_lt n ps)
      rw [ofBits_len] at hw
      exact ⟨_, _, _, rfl, hw, (HB.out.setCell (p := ⟨w.heap.size, 0, none⟩) (Nat.le_refl _) _).setCell (p := ⟨w.heap.size, 1, none⟩) (Nat.le_refl _) _⟩
theorem of_any (n : Int) (A : Option Addr) (l c : Nat) (ps : List Int) (w : World) (hp : Ints w A l ps) (hl : l ≤ 9223372036854775807) : Calls Tryz.prog 50 #[.int .i64 n, .slice A l c] w (RowOut (ofN n ps) (ofW n ps) (ofE n ps) w) := by
  cases h : lmb n with
  | false =>
    unfold ofN ofW ofE
    rw [h]
    exact of_no n A l c h w
  | true =>
    obtain ⟨m, rfl⟩ := Int.eq_ofNat_of_zero_le ((lmb_iff n).1 h).1
    exact of_yes m A l c ps h w hp hl
end
section
/- Contract of the reference's Same: two rows are the same. -/
set_option linter.unusedVariables false
set_option linter.unusedSimpArgs false
open Go.RowKit
def sameB (n : Int) (us : List Nat) (m : Int) (vs : List Nat) : Bool := n == m && us == vs
set_option maxHeartbeats 400000 in
theorem same_any (n m : Int) (A B : Option Addr) (l c k d : Nat) (us vs : List Nat) (w : World) (hu : Words w A l us) (hv : Words w B k vs) (hl : l ≤ 1000000) :
    Calls Tryz.prog 23 #[.agg #[.int .i64 n, .slice A l c], .agg #[.int .i64 m, .slice B k d]] w fun e w' => e = .returned (.bool (sameB n us m vs)) ∧ Below w.heap.size w w' := by
  have q0 := (Box.new w 56 #[.int .i64 n, .slice A l c]).alloc (.cells #[.int .i64 m, .slice B k d] 56)
  have q1 := Box.new (w.alloc (.cells #[.int .i64 n, .slice A l c] 56)) 56 #[.int .i64 m, .slice B k d]
  have hW : Below w.heap.size w ((w.alloc (.cells #[.int .i64 n, .slice A l c] 56)).alloc (.cells #[.int .i64 m, .slice B k d] 56)) := ((Below.refl _ _).alloc (Nat.le_refl _) _).alloc (by simp) _
  simp only [World.size_alloc] at q1
  have Q0 := Lib.hid q0
  have Q1 := Lib.hid q1
  have HW := Lib.hid hW
  have HU := Lib.hid hu
  have HV := Lib.hid hv
  clear q0 q1 hW hu hv
  by_cases hn : n = m
  · subst hn
    have t1 : (n != n) = false := by simp
    by_cases hk : l = k
    · subst hk
      have t2 : ((l : Int) != (l : Int)) = false := by simp
      go_enter Tryz.func23, Tryz.ntmps23
      go_wp2
      clear t1 t2
      go_loopw [23] (fun i wr => ∃ j : Nat, j ≤ l ∧ i = .int .i64 j ∧ (∀ t, t < j → us.getD t 0 = vs.getD t 0) ∧ Box wr w.heap.size 56 #[.int .i64 n, .slice A l c] ∧ Box wr (w.heap.size + 1) 56 #[.int .i64 n, .slice B l d] ∧ Below w.heap.size w wr)
        (fun i _ => l - (intOf i).toNat)
      case atStart => exact ⟨0, by omega, rfl, fun t h => by omega, Q0.out, Q1.out, HW.out⟩
      case round =>
        obtain ⟨j, hj, rfl, heq, B0, B1, hbel⟩ := hrel
        have R0 := Lib.hid B0
        have R1 := Lib.hid B1
        have HB := Lib.hid hbel
        have HE := Lib.hid heq
        clear B0 B1 hbel Q0 Q1 HW heq
        obtain ⟨a0, a1, -, -⟩ := R0.out.two
        obtain ⟨b0, b1, -, -⟩ := R1.out.two
        by_cases hlt : j < l
        · obtain ⟨p, o, rfl, lt1, hc1⟩ := HU.out.2.2 (by omega)
          obtain ⟨p2, o2, rfl, lt2, hc2⟩ := HV.out.2.2 (by omega)
          have cu := (HB.out.cell (p := ⟨p, o + j, none⟩) lt1).trans (hc1 j hlt)
          have cv := (HB.out.cell (p := ⟨p2, o2 + j, none⟩) lt2).trans (hc2 j hlt)
          have hx := HU.out.2.1 j
          have hy := HV.out.2.1 j
          obtain ⟨x, ex⟩ : ∃ x, x = us.getD j 0 := ⟨_, rfl⟩
          obtain ⟨y, ey⟩ : ∃ y, y = vs.getD j 0 := ⟨_, rfl⟩
          rw [← ex] at cu hx
          rw [← ey] at cv hy
          have hxy := Lib.hid (And.intro ex ey)
          clear ex ey hc1 hc2
          have hlt' : (j : Int) < (l : Int) := by omega
          have hj0 : (0 : Int) ≤ (j : Int) := by omega
          by_cases e : x = y
          · have t3 : ((x : Int) != (y : Int)) = false := by simp [e]
            have HXY := Lib.hid e
            clear e
            go_wp2
            go_quiet (fail)
            go_wp2
            go_roundw
            case rel =>
              refine ⟨j + 1, by omega, by go_num, fun t ht => ?_, R0.out.drewN _, R1.out.drewN _, bdN HB.out _⟩
              by_cases h : t = j
              · rw [h, ← hxy.out.1, ← hxy.out.2]; exact HXY.out
              · exact HE.out t (by omega)
            case measure => simp [intOf]; omega
          · have t3 : ((x : Int) != (y : Int)) = true := by rw [bne_iff_ne]; omega
            have HF : Hid (sameB n us n vs = false) := by
              show sameB n us n vs = false
              simp only [sameB, beq_self_eq_true, Bool.true_and, beq_eq_false_iff_ne]
              intro h
              apply e
              rw [hxy.out.1, hxy.out.2, h]
            clear e
            go_wp2
            go_quiet (fail)
            go_wp2
            go_ret
            exact ⟨by rw [HF.out]; rfl, bdN HB.out _⟩
        · obtain rfl : j = l := by omega
          have HF : Hid (sameB n us n vs = true) := by
            show sameB n us n vs = true
            simp only [sameB, beq_self_eq_true, Bool.true_and, beq_iff_eq]
            apply List.ext_getElem
            · rw [HU.out.1, HV.out.1]
            · intro i h1 h2
              have := HE.out i (by rw [HU.out.1] at h1; exact h1)
              simpa [List.getD, h1, h2] using this
          go_wp2
          go_ret
          exact ⟨by rw [HF.out]; rfl, HB.out⟩
    · have t2 : ((l : Int) != (k : Int)) = true := by rw [bne_iff_ne]; omega
      have HF : Hid (sameB n us n vs = false) := by
        show sameB n us n vs = false
        simp only [sameB, beq_self_eq_true, Bool.true_and, beq_eq_false_iff_ne]
        intro h
        apply hk
        rw [← HU.out.1, ← HV.out.1, h]
      go_enter Tryz.func23, Tryz.ntmps23
      go_wp2
      go_ret
      exact ⟨by rw [HF.out]; rfl, HW.out⟩
  · have t1 : (n != m) = true := by simpa using hn
    have HF : Hid (sameB n us m vs = false) := by
      show sameB n us m vs = false
      have : (n == m) = false := by simpa using hn
      simp [sameB, this]
    go_enter Tryz.func23, Tryz.ntmps23
    go_wp2
    go_ret
    exact ⟨by rw [HF.out]; rfl, HW.out⟩
end
end Go.Proofs.YtmfhimeffmpgaaaGreat
