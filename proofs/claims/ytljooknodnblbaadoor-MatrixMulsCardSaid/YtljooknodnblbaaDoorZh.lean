/- Parts: HTail, PkX, Ms5, Ms6, Mat9. -/
import Derived.Test.YtljooknodnblbaaDoorZg
import Derived.Deep.RegionHeld
import Derived.OrdersHeld
import Derived.StillTail
namespace Go.Proofs.YtljooknodnblbaaDoor
section
/- A law of one's own for a region that draws its order: its first operations are taken while some cells are held (a call that makes memory among them), the last ones, which may write those very cells, come one after the other. No program. -/
set_option linter.unusedVariables false
set_option linter.unusedSimpArgs false
section
variable {P : Program} {ops : Array Oper} {Q : Exit → Act → World → Prop} {md : Region.Mode} {S : World → Prop}
/-- Whatever order the first m operations take, f of them are still to come; behind each S holds; L at the end. -/
def headH (P : Program) (md : Region.Mode) (ops : Array Oper) (Q : Exit → Act → World → Prop) (S : World → Prop) (m : Nat) (L : Array Bool → Act → World → Prop) : Nat → Array Bool → Act → World → Prop
  | 0, listed, a, w => L listed a w
  | f + 1, listed, a, w => Region.ready md ops listed ≠ [] ∧ ∀ i ∈ Region.ready md ops listed, i < m ∧ wpOp P ops Q i (fun a' w' => S w' ∧ headH P md ops Q S m L f (listed.setIfInBounds i true) a' w') a w
theorem any_of_headH {m g : Nat} {L : Array Bool → Act → World → Prop} (hL : ∀ listed a w, L listed a w → wpAny P md ops Q g listed a w) :
    ∀ (f : Nat) (listed : Array Bool) (a : Act) (w : World), headH P md ops Q S m L f listed a w → wpAny P md ops Q (f + g) listed a w
  | 0, listed, a, w, h => by rw [Nat.zero_add]; exact hL _ _ _ h
  | f + 1, listed, a, w, h => by
    rw [show f + 1 + g = (f + g) + 1 by omega]
    exact ⟨fun h0 => absurd h0 h.1, fun i hi => wpOp_mono (fun a' w' h' => any_of_headH hL f _ a' w' h'.2) (h.2 i hi).2⟩
theorem headH_first {m i : Nat} {oi : Oper} {v : Value} {L : Array Bool → Act → World → Prop} (hi : ops[i]? = some oi) (hsel : ∀ (j : Nat) (o : Oper) cs b, ops[j]? = some o → o.op ≠ .select cs b)
    (hw : ∀ listed, HeadInv md ops m listed → ∀ i, i < m → listed.getD i true = false → ∀ t, m ≤ t → t ∉ Region.ready md ops listed) (him : i < m)
    (hQ : ∀ c a w, Q (.panic c) (a.put oi.dst v) w → Q (.panic c) a w) (hdone : ∀ listed a w, L listed a w → ∀ j ∈ Region.ready md ops listed, m ≤ j) :
    ∀ (f : Nat) (listed : Array Bool) (a : Act) (w : World), HeadInv md ops m listed →
      (∀ j oj, ops[j]? = some oj → j ≠ i → listed.getD j true = false → (∀ e ∈ oj.after, Region.binds md e = true → e.on ≠ i) → oi.apart ops oj = true) →
      i ∈ Region.ready md ops listed → YieldsIf P ops S oi v a → S w →
      headH P md ops Q S m L f (listed.setIfInBounds i true) (a.put oi.dst v) w → headH P md ops Q S m L (f + 1) listed a w := by
  intro f
  induction f with
  | zero =>
    intro listed a w inv _ hr hy hS H
    have hun := (mem_ready.1 hr).1
    refine ⟨fun h => (by rw [h] at hr; cases hr), fun j hj => ?_⟩
    have hjm : j < m := by
      rcases Nat.lt_or_ge j m with h | h
      · exact h
      · exact absurd hj (hw listed inv i him hun j h)
    refine ⟨hjm, ?_⟩
    by_cases hji : j = i
    · subst hji; exact hy.wpOp hi hS ⟨hS, H⟩
    · have := hdone _ _ _ H j (ready_mono hj hji)
      omega
  | succ f ih =>
    intro listed a w inv hfree hr hy hS H
    have hun := (mem_ready.1 hr).1
    refine ⟨fun h => (by rw [h] at hr; cases hr), fun j hj => ?_⟩
    have hjm : j < m := by
      rcases Nat.lt_or_ge j m with h | h
      · exact h
      · exact absurd hj (hw listed inv i him hun j h)
    refine ⟨hjm, ?_⟩
    by_cases hji : j = i
    · subst hji; exact hy.wpOp hi hS ⟨hS, H⟩
    · have h1 := (H.2 j (ready_mono hj hji)).2
      obtain ⟨hjun, oj, hoj, hall⟩ := mem_ready.1 hj
      have hnot : ∀ e ∈ oj.after, Region.binds md e = true → e.on ≠ i := fun e he hb heq => by
        have h1 := hall e he hb
        rw [heq, getD_both hun] at h1
        cases h1
      have h2 := wpOp_putIf hoj (hfree j oj hoj hji hjun hnot) (fun cs b => hsel i oi cs b hi) (fun cs b => hsel j oj cs b hoj) hQ hy h1
      have hfree' : ∀ k ok, ops[k]? = some ok → k ≠ i → (listed.setIfInBounds j true).getD k true = false →
          (∀ e ∈ ok.after, Region.binds md e = true → e.on ≠ i) → oi.apart ops ok = true := fun k ok hk hki hun hno => by
        refine hfree k ok hk hki ?_ hno
        by_cases hjk : j = k
        · subst hjk; exact hjun
        · rw [getD_set_ne true hjk] at hun; exact hun
      refine wpOp_mono (fun a' w' h3 => ⟨h3.2.1, ih (listed.setIfInBounds j true) a' w' (inv.set hj hjm) hfree' (ready_mono hr (Ne.symm hji)) h3.1 h3.2.1 ?_⟩) h2
      rw [Array.setIfInBounds_comm _ _ hji]
      exact h3.2.2
/-- What is known of the list while the head goes on, as a Bool for the kernel. -/
def headB (md : Region.Mode) (ops : Array Oper) (m : Nat) (listed : Array Bool) : Bool :=
  (listed.size == ops.size) && ((List.range ops.size).all fun j => match ops[j]? with | some oj => !listed.getD j false || (oj.after.all fun e => !Region.binds md e || listed.getD e.on false) | none => true) && ((List.range ops.size).all fun t => decide (t < m) || !listed.getD t true)
theorem headB_inv {m : Nat} {listed : Array Bool} (h : headB md ops m listed = true) : HeadInv md ops m listed := by
  simp only [headB, Bool.and_eq_true, beq_iff_eq, List.all_eq_true, List.mem_range, Bool.or_eq_true, decide_eq_true_eq, Bool.not_eq_true'] at h
  obtain ⟨⟨h1, h2⟩, h3⟩ := h
  refine ⟨h1, fun j oj hj hl e he hb => ?_, fun t ht ht' => ?_⟩
  · have hlt : j < ops.size := (Array.getElem?_eq_some_iff.1 hj).1
    have := h2 j hlt
    simp only [hj, hl, Bool.not_true, Bool.false_or, Array.all_eq_true'] at this
    have := this e he
    simpa [hb] using this
  · rcases h3 t ht' with h | h
    · omega
    · exact h
/-- Take number i first. -/
theorem headH_take {m i : Nat} {oi : Oper} {v : Value} {f : Nat} {listed : Array Bool} {a : Act} {w : World} {L : Array Bool → Act → World → Prop} (hi : ops[i]? = some oi)
    (hall : (Region.noSelect ops && Region.sinkB md ops m && Region.chainB md ops m && decide (m < ops.size) && decide (i < m) && headB md ops m listed && Region.free md ops listed i && (Region.ready md ops listed).contains i) = true)
    (hQ : ∀ c a w, Q (.panic c) (a.put oi.dst v) w → Q (.panic c) a w) (hdone : ∀ listed a w, L listed a w → ∀ j ∈ Region.ready md ops listed, m ≤ j)
    (hy : YieldsIf P ops S oi v a) (hS : S w) (h : headH P md ops Q S m L f (listed.setIfInBounds i true) (a.put oi.dst v) w) : headH P md ops Q S m L (f + 1) listed a w := by
  simp only [Bool.and_eq_true, decide_eq_true_eq] at hall
  obtain ⟨⟨⟨⟨⟨⟨⟨h1, h2⟩, h3⟩, h4⟩, h5⟩, h6⟩, h7⟩, h8⟩ := hall
  exact headH_first hi (Region.noSelect_spec h1) (fun listed inv i him hun t ht => tail_waits h2 h3 h4 inv _ i rfl him hun t ht) h5 hQ hdone f listed a w (headB_inv h6) (Region.free_spec hi h7) (by simpa using h8) hy hS h
/-- All that come behind the first m wait for each of them. -/
def barB (md : Region.Mode) (ops : Array Oper) (m : Nat) : Bool := (List.range ops.size).all fun t => decide (t < m) || ((List.range m).all fun i => Region.waitsFor md ops t i)
theorem bar_waits {m : Nat} (h : barB md ops m = true) (listed : Array Bool) (i : Nat) (him : i < m) (hun : listed.getD i true = false) (t : Nat) (ht : m ≤ t) : t ∉ Region.ready md ops listed := by
  intro hr
  obtain ⟨_, ot, hot, hall⟩ := mem_ready.1 hr
  have htlt : t < ops.size := (Array.getElem?_eq_some_iff.1 hot).1
  simp only [barB, List.all_eq_true, List.mem_range, Bool.or_eq_true, decide_eq_true_eq] at h
  rcases h t htlt with h1 | h1
  · omega
  · obtain ⟨o', ho', e, he, hb, hon⟩ := Region.waitsFor_spec (h1 i him)
    have : o' = ot := Option.some.inj (ho'.symm.trans hot)
    subst this
    have h2 := hall e he hb
    rw [hon, getD_both hun] at h2
    cases h2
/-- Take number i first, ahead of a bar. -/
theorem headB_take {m i : Nat} {oi : Oper} {v : Value} {f : Nat} {listed : Array Bool} {a : Act} {w : World} {L : Array Bool → Act → World → Prop} (hi : ops[i]? = some oi)
    (hall : (Region.noSelect ops && barB md ops m && decide (i < m) && headB md ops m listed && Region.free md ops listed i && (Region.ready md ops listed).contains i) = true)
    (hQ : ∀ c a w, Q (.panic c) (a.put oi.dst v) w → Q (.panic c) a w) (hdone : ∀ listed a w, L listed a w → ∀ j ∈ Region.ready md ops listed, m ≤ j)
    (hy : YieldsIf P ops S oi v a) (hS : S w) (h : headH P md ops Q S m L f (listed.setIfInBounds i true) (a.put oi.dst v) w) : headH P md ops Q S m L (f + 1) listed a w := by
  simp only [Bool.and_eq_true, decide_eq_true_eq] at hall
  obtain ⟨⟨⟨⟨⟨h1, h2⟩, h5⟩, h6⟩, h7⟩, h8⟩ := hall
  exact headH_first hi (Region.noSelect_spec h1) (fun listed _ i him hun t ht => bar_waits h2 listed i him hun t ht) h5 hQ hdone f listed a w (headB_inv h6) (Region.free_spec hi h7) (by simpa using h8) hy hS h
/-- Have the first m come up? -/
def passedB (m : Nat) (listed : Array Bool) : Bool := (List.range m).all fun i => listed.getD i false
theorem passed_ready {m : Nat} {listed : Array Bool} (h : passedB m listed = true) : ∀ j ∈ Region.ready md ops listed, m ≤ j := by
  intro j hj
  obtain ⟨hun, oj, hoj, -⟩ := mem_ready.1 hj
  refine Nat.le_of_not_lt fun hlt => ?_
  have := List.all_eq_true.1 h j (List.mem_range.2 hlt)
  rw [getD_both hun] at this
  cases this
/-- THE BEGINNING, ahead of a bar: what comes behind it goes in whatever order. -/
theorem wp_held_bar {id : Nat} {a : Act} {w : World} {l : List Oper} (m : Nat) (hmx : P.follows .mixedOrders = true) (hm : m ≤ l.length)
    (h : headH P .any l.toArray Q S m (fun listed a w => passedB m listed = true ∧ wpAny P .any l.toArray Q (l.length - m) listed a w) m (Array.replicate l.toArray.size false) a w.drew) : (Code.region id l.toArray true).wp P Q a w := by
  refine wp_region_any hmx ?_
  have := any_of_headH (g := l.length - m) (fun listed a' w' hL => hL.2) _ _ _ _ h
  rw [show m + (l.length - m) = l.toArray.size by simp; omega] at this
  exact this
/-- Only number i may come up: behind it S is to be shown anew. -/
theorem headH_one {m i : Nat} {o : Oper} {f : Nat} {listed : Array Bool} {a : Act} {w : World} {L : Array Bool → Act → World → Prop} (hr : (Region.ready md ops listed == [i] && decide (i < m)) = true) (ho : ops[i]? = some o)
    (h : ∀ K' : Act → World → Prop, Shut (∀ a w, S w → (S w → headH P md ops Q S m L f (listed.setIfInBounds i true) a w) → K' a w) → if Region.wanted o (yielded ops a.tmps) = true then Oper.wp P o a w K' Q else K' (a.put o.dst undef) w) : headH P md ops Q S m L (f + 1) listed a w := by
  simp only [Bool.and_eq_true, beq_iff_eq, decide_eq_true_eq] at hr
  refine ⟨by rw [hr.1]; simp, fun j hj => ?_⟩
  rw [hr.1] at hj
  have hji : j = i := by simpa using hj
  subst hji
  exact ⟨hr.2, wpOp_step ho (fun K' hK => h K' (fun a w hS hW => hK a w ⟨hS, hW hS⟩))⟩
/-- THE BEGINNING: the first m operations so, the rest in their order. -/
theorem wp_held_tail {id : Nat} {a : Act} {w : World} {l : List Oper} (m : Nat) (hmx : P.follows .mixedOrders = true) (hm : m ≤ l.length)
    (h : headH P .any l.toArray Q S m (fun listed a w => Region.seqB .any l.toArray (l.length - m) m listed = true ∧ wpList P l.toArray Q (l.drop m) a w) m (Array.replicate l.toArray.size false) a w.drew) : (Code.region id l.toArray true).wp P Q a w := by
  refine wp_region_any hmx ?_
  have := any_of_headH (g := l.length - m) (fun listed a' w' hL => by
    have hdl : (l.drop m).length = l.length - m := by simp
    have := wpAny_of_seq (md := .any) (Q' := Q) (l.drop m) m listed a' w' (fun j => by simp [List.getElem?_drop]) (by rw [hdl]; exact hL.1) hL.2
    rwa [hdl] at this) _ _ _ _ h
  rw [show m + (l.length - m) = l.toArray.size by simp; omega] at this
  exact this
theorem seq_done {l : List Oper} {g m : Nat} {R : Array Bool → Act → World → Prop} (listed : Array Bool) (a : Act) (w : World) (h : Region.seqB md l.toArray g m listed = true ∧ R listed a w) : ∀ j ∈ Region.ready md l.toArray listed, m ≤ j := seqB_ready h.1
end
end
section
/- BlockPicks: the walk. -/
set_option linter.unusedVariables false
set_option linter.unusedSimpArgs false
open Go.RowKit
theorem sumL_snoc1 (n : Nat) (L : List ByteArray) (s : ByteArray) : sumL n (L ++ [s]) = bxL (sumL n L) s.data.toList := by simp [sumL]
theorem bxL_get (l t : List UInt8) (i : Nat) (h : i < l.length) : (bxL l t).getD i 0 = l.getD i 0 ^^^ t.getD i 0 := by simp [bxL, List.getD, h]
theorem bsum_bits (n : Nat) (ss : List ByteArray) (us : List Nat) (N i k : Nat) (hi : i < n) (hk : k ≤ N) : bsum ss (bitsL us N) i k = (sumL n (picks ss (plcN us k))).getD i 0 := by
  induction k with
  | zero => simp [bsum, plcN, picks, sumL, List.getD, hi]
  | succ k ih =>
    have ih := ih (by omega)
    have hb := bitsL_get us N k (by omega)
    rw [plcN_succ]
    simp only [bsum]
    rw [hb]
    rcases bitAt_le us k with h | h
    · rw [h, if_neg (by omega)]
      simpa using ih
    · rw [h, if_pos rfl, if_pos (by decide), show picks ss (plcN us k ++ [k]) = picks ss (plcN us k) ++ [ss.getD k ByteArray.empty] by simp [picks], sumL_snoc1, bxL_get _ _ _ (by rw [sumL_length]; exact hi), ih]
theorem bsums_bits (n : Nat) (ss : List ByteArray) (us : List Nat) (N : Nat) : bsums ss (bitsL us N) N n = sumL n (picks ss (plcN us N)) := by
  apply List.ext_getElem
  · simp [bsums, sumL_length]
  · intro i h1 h2
    have hi : i < n := by simpa [bsums] using h1
    have := bsum_bits n ss us N i N hi (Nat.le_refl _)
    simp only [bsums, List.getElem_map, List.getElem_range, this]
    simp [List.getD, h2]
theorem Texts.far {w : World} {A : Option Addr} {len : Nat} {ss : List ByteArray} {g : Nat} {t : TypeId} {x : Int} {S : Option Addr} {p q : Nat} (h : Texts w A len ss) (hb : Box w g t #[.int .i64 x, .slice S p q]) (i : Nat) (u : Value) : Texts (w.setCell ⟨g, i, none⟩ u) A len ss := by
  refine ⟨h.1, h.2.1, fun hp => ?_⟩
  obtain ⟨b, off, rfl, hlt, hc⟩ := h.2.2 hp
  have hne : b ≠ g := by
    intro e
    subst e
    have c := hc 0 hp
    rw [hb.cell] at c
    match off, c with
    | 0, c => simp at c
    | 1, c => simp at c
    | k + 2, c => simp at c
  refine ⟨b, off, rfl, by simpa [World.setCell] using hlt, fun j hj => ?_⟩
  rw [World.cell?_setCell_other _ _ _ _ (by intro e; injection e; omega)]
  exact hc j hj
theorem Texts.drewT {w : World} {A : Option Addr} {len : Nat} {ss : List ByteArray} (h : Texts w A len ss) : Texts w.drew A len ss := h
theorem strB_ne (l : List UInt8) (h : l ≠ []) : True := trivial
end
section
/- Contracts of layer 3: Apply, the reference's Apply; law 03's blocks; the reference's Texts. -/
set_option linter.unusedVariables false
set_option linter.unusedSimpArgs false
open Go.RowKit
set_option maxHeartbeats 1000000 in
theorem refTexts_same (A B : Option Addr) (l c d : Nat) (ss : List ByteArray) (w : World) (hu : Texts w A l ss) (hv : Texts w B l ss) (hl : l ≤ 1000000) :
    Calls Tryd.prog 14 #[.slice A l c, .slice B l d] w fun e w' => e = .returned (.bool true) ∧ Below w.heap.size w w' := by
  have HU := Lib.hid hu
  have HV := Lib.hid hv
  clear hu hv
  have t2 : ((l : Int) != (l : Int)) = false := by simp
  go_enter Tryd.func14, Tryd.ntmps14
  go_wp2_with fail
  clear t2
  go_loopw [13] (fun i wr => ∃ j : Nat, j ≤ l ∧ i = .int .i64 j ∧ Below w.heap.size w wr) (fun i _ => l - (intOf i).toNat)
  case atStart => exact ⟨0, by omega, rfl, Below.refl _ _⟩
  case round =>
    obtain ⟨j, hj, rfl, hbel⟩ := hrel
    have HB := Lib.hid hbel
    clear hbel
    by_cases hlt : j < l
    · obtain ⟨p, o, rfl, lt1, hc1⟩ := HU.out.2.2 (by omega)
      obtain ⟨p2, o2, rfl, lt2, hc2⟩ := HV.out.2.2 (by omega)
      have cu := (HB.out.cell (p := ⟨p, o + j, none⟩) lt1).trans (hc1 j hlt)
      have cv := (HB.out.cell (p := ⟨p2, o2 + j, none⟩) lt2).trans (hc2 j hlt)
      generalize ss.getD j ByteArray.empty = s at *
      clear hc1 hc2
      have hlt' : (j : Int) < (l : Int) := by omega
      have hj0 : (0 : Int) ≤ (j : Int) := by omega
      go_wp2
      go_quiet (fail)
      go_wp2_with fail
      go_roundw
      case rel => exact ⟨j + 1, by omega, by go_num, bdN HB.out _⟩
      case measure => simp [intOf]; omega
    · obtain rfl : j = l := by omega
      go_wp2
      go_ret
      exact ⟨rfl, HB.out⟩
theorem sumS_size (n : Int) (ss : List ByteArray) : (sumS n ss).size ≤ 64 := by
  unfold sumS
  split
  · rename_i h
    simp only [okS, Bool.and_eq_true] at h
    have := (smb_iff n).1 h.1.1
    show (sumL n.toNat ss).toArray.size ≤ 64
    rw [List.size_toArray, sumL_length]; omega
  · exact Nat.zero_le _
theorem pickS_size (n : Int) (ss : List ByteArray) (N : Int) (us : List Nat) : (pickS n ss N us).size ≤ 64 := by
  unfold pickS
  split
  · exact sumS_size _ _
  · exact Nat.zero_le _
/-- What Apply tells. -/
def appB (n N : Int) (ms : List (Int × List Nat)) (ss : List ByteArray) : Bool := rightM N ms && (okS n ss && (ss.length : Int) == N)
def appE (n N : Int) (ms : List (Int × List Nat)) (ss : List ByteArray) : Int := if rightM N ms then if okS n ss then if (ss.length : Int) == N then 0 else 2 else 2 else 1
def appF (n N : Int) (ms : List (Int × List Nat)) (ss : List ByteArray) (i : Nat) : ByteArray := pickS n ss N (ms.getD i (0, [])).2
def appR (n N : Int) (ms : List (Int × List Nat)) (ss : List ByteArray) : List ByteArray := (List.range ms.length).map (appF n N ms ss)
def appL (n N : Int) (ms : List (Int × List Nat)) (ss : List ByteArray) : List ByteArray := if appB n N ms ss then appR n N ms ss else []
theorem appR_len (n N : Int) (ms : List (Int × List Nat)) (ss : List ByteArray) : (appR n N ms ss).length = ms.length := by simp [appR]
theorem appR_at (n N : Int) (ms : List (Int × List Nat)) (ss : List ByteArray) (i : Nat) (h : i < ms.length) : (appR n N ms ss).getD i ByteArray.empty = appF n N ms ss i := by simp [appR, List.getD, h]
theorem appR_le (n N : Int) (ms : List (Int × List Nat)) (ss : List ByteArray) (i : Nat) : ((appR n N ms ss).getD i ByteArray.empty).size ≤ maxLen := by
  by_cases h : i < ms.length
  · rw [appR_at n N ms ss i h]
    have := pickS_size n ss N (ms.getD i (0, [])).2
    unfold appF maxLen; omega
  · have e : (appR n N ms ss)[i]? = none := List.getElem?_eq_none (by rw [appR_len]; omega)
    simp [List.getD, e, maxLen]
/-- Texts as cells. -/
def strCells (ss : List ByteArray) : Array Value := (ss.map Value.string).toArray
theorem strCells_get (ss : List ByteArray) (j : Nat) (h : j < ss.length) : (strCells ss)[j]? = some (.string (ss.getD j ByteArray.empty)) := by simp [strCells, List.getD, h]
theorem strCells_set (ss : List ByteArray) (k : Nat) (s : ByteArray) : (strCells ss).setIfInBounds k (.string s) = strCells (ss.set k s) := by simp [strCells, List.map_set]
theorem makeStr_any (n : Nat) (hn : n ≤ 1000000) (w : World) :
    (Instr.makeSlice 25 (.int .i64 (n : Int)) (.int .i64 (n : Int))).run Tryd.prog w = .ok (.slice (some ⟨w.heap.size, 0, none⟩) n n) (w.alloc (.cells (strCells (List.replicate n ⟨#[]⟩)) 9)) := by
  obtain ⟨i0, hi, hz0, hz1, hz2⟩ := info_parts string_info
  have hr := run_make (P := Tryd.prog) w _ _ i0 _ Tryd.underlying25 hi hz0 .i64 .i64 n n (by omega) (by omega) (by rw [hz2]; omega) (by omega)
  simp only [Int.toNat_natCast, hz1, Nat.mul_one] at hr
  rw [hr]
  have : madeCells (Value.string ⟨#[]⟩).cells n = strCells (List.replicate n ⟨#[]⟩) := by
    apply Array.toList_inj.1
    have := toList_madeCells_one (Value.string ⟨#[]⟩) n
    simpa [Value.cells, strCells] using this
  rw [this]
theorem Box.texts {w : World} {g : Nat} {t : TypeId} {ss : List ByteArray} (h : Box w g t (strCells ss)) (hz : ∀ j, (ss.getD j ByteArray.empty).size ≤ maxLen) : Texts w (some ⟨g, 0, none⟩) ss.length ss :=
  ⟨rfl, hz, fun _ => ⟨g, 0, rfl, h.lt, fun j hj => by rw [Nat.zero_add, h.cell j, strCells_get ss j hj]⟩⟩
/-- What Apply hands back. -/
def AppOut (ls : List ByteArray) (er : Int) (w : World) (e : Ending) (w' : World) : Prop :=
  ∃ A c, e = .returned (.tuple #[.slice A ls.length c, .int .i64 er]) ∧ ls.length ≤ c ∧ c ≤ maxLen ∧ Texts w' A ls.length ls ∧ Below w.heap.size w w'
set_option maxHeartbeats 4000000 in
theorem apply_any (n N : Int) (A : Option Addr) (l c lo : Nat) (ms : List (Int × List Nat)) (L : Option Addr) (k d : Nat) (ss : List ByteArray) (w : World) (hm : MatAt w lo A l ms) (hl : l ≤ maxLen) (ht : Texts w L k ss) (hkd : k ≤ d) (hd : d ≤ maxLen) (hT : TabAt w 0) :
    Calls Tryd.prog 8 #[.agg #[.int .i64 N, .slice A l c], .int .i64 n, .slice L k d] w (AppOut (appL n N ms ss) (appE n N ms ss) w) := by
  have Q0 := Lib.hid (Box.new w 24 #[.int .i64 N, .slice A l c])
  have HW := Lib.hid (show Below w.heap.size w (w.alloc (.cells #[.int .i64 N, .slice A l c] 24)) from (Below.refl _ _).alloc (Nat.le_refl _) _)
  have HM := Lib.hid hm
  have HTx := Lib.hid ht
  have HT := Lib.hid hT
  have HL := Lib.hid hm.1
  have HK := Lib.hid ht.1
  have HR := Lib.hid (mright_any N A l c lo ms _ (hm.below HW.out) hl)
  clear hm ht hT
  obtain ⟨r0, r1, -, -⟩ := Q0.out.two
  cases h : rightM N ms with
  | false =>
    have e2 : appL n N ms ss = [] := by simp [appL, appB, h]
    have e3 : appE n N ms ss = 1 := by simp [appE, h]
    rw [e2, e3]
    rw [h] at HR
    clear e2 e3 h
    go_enter Tryd.func8, Tryd.ntmps8
    go_wp2_with fail
    refine HR.out.mono ?_
    rintro e w1 ⟨rfl, hb⟩
    have B := Lib.hid (chainN HW.out HW.out.size hb)
    clear hb r0 r1
    go_wp2
    go_ret2
    exact ⟨none, 0, rfl, Nat.le_refl _, Nat.zero_le _, Texts.nil _ _, B.out⟩
  | true =>
    have HR1 := Lib.hid h
    rw [h] at HR
    have HSum := Lib.hid (fun W (hW : Below w.heap.size w W) => sum_any n L k d ss W (HTx.out.mono (Nat.le_refl _) hW) hkd hd)
    cases h2 : okS n ss with
    | false =>
      have e2 : appL n N ms ss = [] := by simp [appL, appB, h2]
      have e3 : appE n N ms ss = 2 := by simp [appE, h, h2]
      have e4 := Lib.hid (sumE_no h2)
      rw [e2, e3]
      clear e2 e3 h h2
      go_enter Tryd.func8, Tryd.ntmps8
      go_wp2_with fail
      refine HR.out.mono ?_
      rintro e w1 ⟨rfl, hb⟩
      have B := Lib.hid (chainN HW.out HW.out.size hb)
      clear hb r0 r1
      go_wp2_with fail
      refine (HSum.out _ B.out).mono ?_
      rw [e4.out]
      rintro e w2 ⟨rfl, hb⟩
      have B := Lib.hid (chainN B.out B.out.size hb)
      clear hb
      go_wp2
      go_ret2
      exact ⟨none, 0, rfl, Nat.le_refl _, Nat.zero_le _, Texts.nil _ _, B.out⟩
    | true =>
      have e4 := Lib.hid (sumE_ok h2)
      have hbd := rightM_bd h
      have hl64 := hbd.2.2
      rw [HL.out] at hl64
      unfold maxLen at hd
      by_cases hN : (k : Int) = N
      · have e1 : appB n N ms ss = true := by simp [appB, h, h2, HK.out, hN]
        have e2 : appL n N ms ss = appR n N ms ss := by simp [appL, e1]
        have e3 : appE n N ms ss = 0 := by simp [appE, h, h2, HK.out, hN]
        rw [e2, e3]
        have t1 : ((k : Int) != N) = false := by simpa using hN
        have HRL := Lib.hid (show (appR n N ms ss).length = l by rw [appR_len, HL.out])
        clear e1 e2 e3 h h2 hbd hN
        go_enter Tryd.func8, Tryd.ntmps8
        go_wp2_with fail
        refine HR.out.mono ?_
        rintro e w1 ⟨rfl, hb⟩
        have P := Lib.hid (Q0.out.keep hb)
        have B := Lib.hid (chainN HW.out HW.out.size hb)
        clear hb r0 r1
        go_wp2_with fail
        refine (HSum.out _ B.out).mono ?_
        rw [e4.out]
        rintro e w2 ⟨rfl, hb⟩
        have P := Lib.hid (P.out.keep hb)
        have B := Lib.hid (chainN B.out B.out.size hb)
        clear hb
        obtain ⟨r0, r1, -, -⟩ := P.out.two
        have mk := makeStr_any l (by omega) w2
        have BX := Lib.hid (Box.new w2 9 (strCells (List.replicate l ⟨#[]⟩)))
        have P2 := Lib.hid (P.out.alloc (.cells (strCells (List.replicate l ⟨#[]⟩)) 9))
        have B2 := Lib.hid (B.out.alloc B.out.size (.cells (strCells (List.replicate l ⟨#[]⟩)) 9))
        have hws : w.heap.size < w2.heap.size := P.out.lt
        obtain ⟨u0, u1, -, -⟩ := P2.out.two
        go_wp2_with fail
        generalize w2.alloc (.cells (strCells (List.replicate l ⟨#[]⟩)) 9) = W at *
        clear mk r0 r1 u0 u1
        go_loopw [37] (fun t wr => ∃ (i : Nat) (ts : List ByteArray), i ≤ l ∧ t = .int .i64 i ∧ ts.length = l ∧ Box wr w2.heap.size 9 (strCells ts) ∧ Hid (∀ j, j < i → ts.getD j ByteArray.empty = appF n N ms ss j) ∧ Below w.heap.size w wr) (fun t _ => l - (intOf t).toNat)
        case atStart => exact ⟨0, _, by omega, rfl, by simp, BX.out, Lib.hid (fun j hj => absurd hj (Nat.not_lt_zero _)), B2.out⟩
        case round =>
          obtain ⟨i, ts, hi, rfl, hts, hbx, HF, hbel⟩ := hrel
          have R := Lib.hid hbx
          have HB := Lib.hid hbel
          have HTL := Lib.hid hts
          clear hbx hbel hts BX P2 B2
          by_cases hlt : i < l
          · have hlt' : (i : Int) < (l : Int) := by omega
            obtain ⟨g1, o1, B1, k1, e1, rfl, hg1, x1, y1, s1, u1⟩ := (HM.out.mono (Nat.le_refl _) HB.out).at i hlt
            obtain ⟨hN, hrr⟩ := rightM_at HR1.out i (by rw [HL.out]; exact hlt)
            rw [hN] at x1
            have HFI := Lib.hid (show appF n N ms ss i = pickS n ss N (ms.getD i (0, [])).2 from rfl)
            have R1 := Lib.hid (R.out.alloc (.cells #[.int .i64 N, .slice B1 k1 e1] 45))
            have HB1 := Lib.hid (HB.out.alloc HB.out.size (.cells #[.int .i64 N, .slice B1 k1 e1] 45))
            have HP := Lib.hid (pick_any n L k d ss N B1 k1 e1 (ms.getD i (0, [])).2 _ (HTx.out.mono (Nat.le_refl _) HB1.out) hkd (by unfold maxLen; exact hd) (u1.alloc (.cells #[.int .i64 N, .slice B1 k1 e1] 45)) (HT.out.below HB1.out))
            obtain ⟨p0, p1, -, -⟩ := (Box.new wr 45 #[.int .i64 N, .slice B1 k1 e1]).two
            clear hN hrr s1 u1
            generalize pickS n ss N (ms.getD i (0, [])).2 = s at *
            generalize pickE n ss N (ms.getD i (0, [])).2 = er at *
            go_wp2_with fail
            refine HP.out.mono ?_
            rintro e x2 ⟨rfl, hb⟩
            have R2 := Lib.hid (R1.out.keep hb)
            have HB2 := Lib.hid (chainN HB1.out HB1.out.size hb)
            clear hb p0 p1
            have c0 : x2.cell? ⟨w2.heap.size, i, none⟩ = some (.string (ts.getD i ByteArray.empty)) := by rw [R2.out.cell, strCells_get ts i (by rw [HTL.out]; exact hlt)]
            have f0 := R2.out.free i
            go_wp2_with fail
            go_roundw
            case rel =>
              refine ⟨i + 1, ts.set i s, by omega, by go_num, by simp [HTL.out], ?_, Lib.hid (fun j hj => ?_), HB2.out.setCell (p := ⟨w2.heap.size, i, none⟩) (by simp; omega) _⟩
              · rw [← strCells_set]; exact R2.out.put i _
              · by_cases hji : j = i
                · subst hji
                  rw [HFI.out]; simp [List.getD, HTL.out, hlt]
                · have := HF.out j (by omega)
                  simp only [List.getD] at this ⊢
                  rw [List.getElem?_set_ne (by omega)]; exact this
            case measure => simp [intOf] <;> omega
          · obtain rfl : l = i := by omega
            have hlt' : ¬ (l : Int) < (l : Int) := by omega
            have HE := Lib.hid (show ts = appR n N ms ss by
              apply List.ext_getElem
              · rw [HTL.out, HRL.out]
              · intro j h1 h2
                have h1' : j < l := by rw [HTL.out] at h1; exact h1
                have := HF.out j h1'
                rw [← appR_at n N ms ss j (by rw [HL.out]; exact h1')] at this
                simpa [List.getD, h1, h2] using this)
            have HX := Lib.hid (R.out.texts (by rw [HE.out]; exact appR_le n N ms ss))
            rw [HTL.out, HE.out] at HX
            go_wp2
            go_ret2
            exact ⟨some ⟨w2.heap.size, 0, none⟩, l, by rw [HRL.out]; rfl, by rw [HRL.out]; exact Nat.le_refl _, by unfold maxLen; omega, by rw [HRL.out]; exact HX.out, HB.out⟩
      · have e2 : appL n N ms ss = [] := by simp [appL, appB, HK.out, hN]
        have e3 : appE n N ms ss = 2 := by simp [appE, h, h2, HK.out, hN]
        rw [e2, e3]
        have t1 : ((k : Int) != N) = true := by simpa using hN
        clear e2 e3 h h2 hbd hN
        go_enter Tryd.func8, Tryd.ntmps8
        go_wp2_with fail
        refine HR.out.mono ?_
        rintro e w1 ⟨rfl, hb⟩
        have P := Lib.hid (Q0.out.keep hb)
        have B := Lib.hid (chainN HW.out HW.out.size hb)
        clear hb r0 r1
        go_wp2_with fail
        refine (HSum.out _ B.out).mono ?_
        rw [e4.out]
        rintro e w2 ⟨rfl, hb⟩
        have P := Lib.hid (P.out.keep hb)
        have B := Lib.hid (chainN B.out B.out.size hb)
        clear hb
        obtain ⟨r0, r1, -, -⟩ := P.out.two
        go_wp2
        go_ret2
        exact ⟨none, 0, rfl, Nat.le_refl _, Nat.zero_le _, Texts.nil _ _, B.out⟩
end
section
/- Layer 3's reference: Apply; law 03's blocks. -/
set_option linter.unusedVariables false
set_option linter.unusedSimpArgs false
open Go.RowKit
theorem appF_sum {n k : Nat} {ms : List (Int × List Nat)} {ss : List ByteArray} (hr : rightM k ms = true) (ho : okS n ss = true) (hk : ss.length = k) (i : Nat) (hi : i < ms.length) : appF n k ms ss i = ⟨(bsums ss (bitsL (ms.getD i (0, [])).2 k) k n).toArray⟩ := by
  have h := (rightM_at hr i hi).2
  have e : ((k : Int) == (ss.length : Int)) = true := by simp [hk]
  have h2 := okS_picks ho (ms.getD i (0, [])).2
  rw [hk] at h2
  unfold appF pickS
  rw [ho, h, e, bsums_bits]
  simp only [Bool.and_self, if_true, Int.toNat_natCast, sumS, h2]
set_option maxHeartbeats 2000000 in
theorem refApply_any (n k : Nat) (A : Option Addr) (l c lo : Nat) (ms : List (Int × List Nat)) (L : Option Addr) (d : Nat) (ss : List ByteArray) (w : World) (hm : MatAt w lo A l ms) (hr : rightM k ms = true) (ht : Texts w L k ss) (ho : okS n ss = true) :
    Calls Tryd.prog 15 #[.agg #[.int .i64 k, .slice A l c], .int .i64 n, .slice L k d] w (TextsOut (appR n k ms ss) w) := by
  obtain ⟨i0, hi, hz0, hz1, hz2⟩ := info_parts string_info
  have HI := Lib.hid hi
  have HZ0 := Lib.hid hz0
  have HZ1 := Lib.hid hz1
  have HZ2 := Lib.hid hz2
  clear hi hz0 hz1 hz2
  have hbd := rightM_bd hr
  have hl64 := hbd.2.2
  have hk64 := hbd.2.1
  rw [hm.1] at hl64
  have HM := Lib.hid hm
  have HTx := Lib.hid ht
  have HL := Lib.hid hm.1
  have HK := Lib.hid ht.1
  have HR := Lib.hid hr
  have HO0 := Lib.hid ho
  have hn64 : n ≤ 64 := by
    have h := ho
    simp only [okS, Bool.and_eq_true] at h
    have := (smb_iff n).1 h.1.1
    omega
  have HSz := Lib.hid (fun j (hj : j < k) => okS_at ho j (by rw [ht.1]; exact hj))
  have HRL := Lib.hid (show (appR n k ms ss).length = l by rw [appR_len, hm.1])
  have q0 := (Box.new w 24 #[.int .i64 k, .slice A l c]).alloc (.cells #[] 9)
  have Q0 := Lib.hid q0
  have ho2 := own_empty (w.alloc (.cells #[.int .i64 k, .slice A l c] 24)) w.heap.size 9 (by simp)
  simp only [World.size_alloc] at ho2
  have HOw := Lib.hid ho2
  have HW := Lib.hid (show Below w.heap.size w ((w.alloc (.cells #[.int .i64 k, .slice A l c] 24)).alloc (.cells #[] 9)) from ((Below.refl _ _).alloc (Nat.le_refl _) _).alloc (by simp) _)
  obtain ⟨r0, r1, -, -⟩ := q0.two
  clear q0 ho2 hm hr ht ho hbd
  go_enter Tryd.func15, Tryd.ntmps15
  go_wp2_with fail
  clear r0 r1
  go_loopw [7, 14] (fun v t wr => ∃ i : Nat, i ≤ l ∧ t = .int .i64 i ∧ wr.ownsRow w.heap.size 9 1 v i (((appR n k ms ss).take i).map Value.string) ∧ Below w.heap.size w wr) (fun _ t _ => l - (intOf t).toNat)
  case atStart => exact ⟨0, by omega, rfl, HOw.out, HW.out⟩
  case round =>
    obtain ⟨i, hi, rfl, hown, hbel⟩ := hrel
    have HO := Lib.hid hown
    have HB := Lib.hid hbel
    clear hown hbel Q0 HOw HW
    by_cases hlt : i < l
    · have hlt' : (i : Int) < (l : Int) := by omega
      obtain ⟨g1, o1, B1, k1, e1, rfl, hg1, x1, y1, s1, u1⟩ := (HM.out.mono (Nat.le_refl _) HB.out).at i hlt
      obtain ⟨hN, hrr⟩ := rightM_at HR.out i (by rw [HL.out]; exact hlt)
      rw [hN] at x1
      have hk1 := right_has64 hrr
      rw [u1.1] at hk1
      have hk8 := rightB_len8 hrr u1.1
      have HTK := Lib.hid (show (appR n k ms ss).take (i + 1) = (appR n k ms ss).take i ++ [⟨(bsums ss (bitsL (ms.getD i (0, [])).2 k) k n).toArray⟩] by
        rw [take_one (appR n k ms ss) i ByteArray.empty (by rw [HRL.out]; exact hlt), appR_at n k ms ss i (by rw [HL.out]; exact hlt), appF_sum HR.out HO0.out HK.out i (by rw [HL.out]; exact hlt)])
      have XO := Lib.hid (HO.out.alloc (.cells #[.int .i64 k, .slice B1 k1 e1] 45))
      have XB := Lib.hid (HB.out.alloc HB.out.size (.cells #[.int .i64 k, .slice B1 k1 e1] 45))
      have HBi := Lib.hid (refBits_any k B1 k1 e1 (ms.getD i (0, [])).2 _ hk1 (by omega) (u1.alloc (.cells #[.int .i64 k, .slice B1 k1 e1] 45)))
      obtain ⟨p0, p1, -, -⟩ := (Box.new wr 45 #[.int .i64 k, .slice B1 k1 e1]).two
      clear hN hrr s1 u1
      generalize bitsL (ms.getD i (0, [])).2 k = zs at *
      go_wp2_with fail
      refine HBi.out.mono ?_
      rintro e x2 ⟨A9, c9, rfl, hz, hb⟩
      have XO := Lib.hid (own_keep XO.out hb)
      have XB := Lib.hid (chainN XB.out XB.out.size hb)
      have HS := Lib.hid (refSum_any n hn64 L A9 k d k c9 ss zs x2 (HTx.out.mono (Nat.le_refl _) XB.out) hz (by omega) (Nat.le_refl _) (by omega) (fun j hj => by have := HSz.out j hj; omega))
      clear hb hz p0 p1 HBi
      generalize hse : (⟨(bsums ss zs k n).toArray⟩ : ByteArray) = s at *
      clear hse
      go_wp2_with fail
      refine HS.out.mono ?_
      rintro e x3 ⟨rfl, hb⟩
      have XO := Lib.hid ((own_keep XO.out hb).alloc (.cells #[.string s] 9))
      have XB1 := Lib.hid (chainN XB.out XB.out.size hb)
      have XB := Lib.hid (XB1.out.alloc XB1.out.size (.cells #[.string s] 9))
      have N2 := Lib.hid (fun k hk => (XO.out.lt k hk).1)
      clear hb
      have hi' := HI.out
      have hz0' := HZ0.out
      have hz1' := HZ1.out
      have hz2' := HZ2.out
      go_wp2_with (at_builtin; refine wpList_append_own _ rfl _ _ 25 rfl w.heap.size 9 i0 (.string ⟨#[]⟩) 1 16 Tryd.underlying25 hi' hz0' hz1' hz2' rfl (by decide) _ _ _ rfl XO.out ⟨x3.heap.size, 0, none⟩ 1 1 [.string s] rfl rfl (cell_one_new _ _ _) (by simp [Value.oneCell']) (by simp [maxLen]; omega) (by omega) XB.out.size ?_; intro v' w1 hown' hgrow _; have HC := Lib.hid (XB.out.grown hgrow XB.out.size N2.out); have HO2 := Lib.hid hown'; clear hown' hgrow)
      go_roundw
      case rel =>
        refine ⟨i + 1, by omega, by go_num, ?_, HC.out⟩
        rw [HTK.out, List.map_append]
        exact HO2.out
      case measure => simp [intOf] <;> omega
    · obtain rfl : l = i := by omega
      have hlt' : ¬ (l : Int) < (l : Int) := by omega
      have HTK := Lib.hid (show (appR n k ms ss).take l = appR n k ms ss from List.take_of_length_le (by rw [HRL.out]; omega))
      rw [HTK.out] at HO
      obtain ⟨A', c', rfl, q1, q2, q3⟩ := own_texts HO.out (appR_le n k ms ss)
      go_wp2
      go_ret
      exact ⟨A', c', by rw [HRL.out]; rfl, by rw [HRL.out]; exact q1, q2, by rw [HRL.out]; exact q3, HB.out⟩
/-- The first 66 texts, 70 bytes each. -/
theorem cutB_min (s : ByteArray) (m : Nat) (hm : (m : Int) = if (70 : Int) < (s.size : Int) then 70 else (s.size : Int)) : s.extract 0 m = cutB s := by
  unfold cutB
  congr 1
  split at hm <;> omega
set_option maxHeartbeats 2000000 in
theorem blocks3_some (ad : Addr) (l c kk : Nat) (ss : List ByteArray) (w : World) (ht : Texts w (some ad) l ss) (hk : kk = min l 66) (hlc : l ≤ c) (hcm : c ≤ maxLen) : Calls Tryd.prog 6 #[.slice (some ad) l c] w (TextsOut (cuts ss kk) w) := by
  obtain ⟨i0, hi, hz0, hz1, hz2⟩ := info_parts string_info
  have hlen := Lib.hid ht.1
  have HT := Lib.hid ht
  clear ht
  have HI := Lib.hid hi
  have HZ0 := Lib.hid hz0
  have HZ1 := Lib.hid hz1
  have HZ2 := Lib.hid hz2
  clear hi hz0 hz1 hz2
  unfold maxLen at hcm
  have hkk1 : kk ≤ l := by omega
  have hkk2 : kk ≤ 66 := by omega
  have hkk3 : kk ≤ c := by omega
  have mkk : (if (66 : Int) < (l : Int) then 66 else (l : Int)) = (kk : Int) := by split <;> omega
  clear hk
  go_enter Tryd.func6, Tryd.ntmps6
  go_wp2_with fail
  clear mkk
  go_loopw [3, 12] (fun v t wr => ∃ i : Nat, i ≤ kk ∧ t = .int .i64 i ∧ wr.ownsRow w.heap.size 9 1 v i ((cuts ss i).map Value.string) ∧ Below w.heap.size w wr)
    (fun _ t _ => kk - (intOf t).toNat)
  case atStart => exact ⟨0, by omega, rfl, ⟨by simp [cuts], .inl ⟨rfl, rfl⟩⟩, Below.refl _ _⟩
  case round =>
    obtain ⟨i, hi, rfl, hown, hbel⟩ := hrel
    have HO := Lib.hid hown
    have HB := Lib.hid hbel
    clear hown hbel
    by_cases hlt : i < kk
    · have hlt' : (i : Int) < (kk : Int) := by omega
      obtain ⟨b, off, hA, hb, hc⟩ := HT.out.2.2 (by omega)
      obtain rfl := Option.some.inj hA
      have c1 : wr.cell? ⟨b, off + i, none⟩ = some (.string (ss.getD i ByteArray.empty)) := (HB.out.cell (p := ⟨b, off + i, none⟩) hb).trans (hc i (by omega))
      have hm := HT.out.2.1 i
      have HS := Lib.hid (cuts_succ ss i (by rw [hlen.out]; omega))
      generalize ss.getD i ByteArray.empty = s at *
      unfold maxLen at hm
      obtain ⟨m, em⟩ : ∃ m, m = min s.size 70 := ⟨_, rfl⟩
      have hm1 : m ≤ s.size := by omega
      have hm2 : m ≤ 70 := by omega
      have mm : (if (70 : Int) < (s.size : Int) then 70 else (s.size : Int)) = (m : Int) := by split <;> omega
      have HE := Lib.hid (cutB_min s m mm.symm)
      have hi' := HI.out
      have hz0' := HZ0.out
      have hz1' := HZ1.out
      have hz2' := HZ2.out
      clear hc em
      have XO := Lib.hid (HO.out.alloc (.cells #[.string (s.extract 0 m)] 9))
      have XB := Lib.hid (HB.out.alloc HB.out.size (.cells #[.string (s.extract 0 m)] 9))
      have N2 := Lib.hid (fun k hk => (HO.out.lt k hk).1)
      go_wp2_with (at_builtin; refine wpList_append_own _ rfl _ _ 25 rfl w.heap.size 9 i0 (.string ⟨#[]⟩) 1 16 Tryd.underlying25 hi' hz0' hz1' hz2' rfl (by decide) _ _ _ rfl XO.out ⟨wr.heap.size, 0, none⟩ 1 1 [.string (s.extract 0 m)] rfl rfl (cell_one_new _ _ _) (by simp [Value.oneCell']) (by simp [maxLen]; omega) (by omega) XB.out.size ?_; intro v' w1 hown' hgrow _; have HC := Lib.hid (XB.out.grown hgrow XB.out.size N2.out); have HO2 := Lib.hid hown'; clear hown' hgrow)
      go_roundw
      case rel =>
        refine ⟨i + 1, by omega, by go_num, ?_, HC.out⟩
        rw [HS.out, List.map_append, ← HE.out]
        exact HO2.out
      case measure => simp [intOf] <;> omega
    · obtain rfl : kk = i := by omega
      have hlt' : ¬ (kk : Int) < (kk : Int) := by omega
      have hcl : (cuts ss kk).length = kk := by simp [cuts, hlen.out]; omega
      have HCL := Lib.hid hcl
      clear hcl
      obtain ⟨A', c', rfl, q1, q2, q3⟩ := own_texts HO.out (cuts_le ss _)
      go_wp2
      go_ret
      exact ⟨A', c', by rw [HCL.out]; rfl, by rw [HCL.out]; exact q1, q2, by rw [HCL.out]; exact q3, HB.out⟩
set_option maxHeartbeats 1000000 in
theorem blocks3_none (ss : List ByteArray) (w : World) (ht : Texts w none 0 ss) : Calls Tryd.prog 6 #[.slice none 0 0] w (TextsOut (cuts ss 0) w) := by
  obtain ⟨i0, hi, hz0, hz1, hz2⟩ := info_parts string_info
  go_enter Tryd.func6, Tryd.ntmps6
  go_wp2_with fail
  go_loopw [3, 12] (fun v t wr => v = .slice none 0 0 ∧ t = .int .i64 0 ∧ Below w.heap.size w wr) (fun _ t _ => 0)
  case atStart => exact ⟨rfl, rfl, Below.refl _ _⟩
  case round =>
    obtain ⟨rfl, rfl, hbel⟩ := hrel
    have HB := Lib.hid hbel
    clear hbel
    go_wp2
    go_ret
    have e : cuts ss 0 = [] := by simp [cuts]
    rw [e]
    exact ⟨none, 0, rfl, Nat.le_refl _, Nat.zero_le _, Texts.nil _ _, HB.out⟩
theorem blocks3_any (A : Option Addr) (l c : Nat) (ss : List ByteArray) (w : World) (ht : Texts w A l ss) (hs : SliceOk A l c) : Calls Tryd.prog 6 #[.slice A l c] w (TextsOut (cuts ss 66) w) := by
  cases A with
  | none =>
    obtain ⟨rfl, rfl⟩ := hs.2.2 rfl
    rw [← cuts_all ss 0 ht.1 (by omega)]
    exact blocks3_none ss w ht
  | some ad =>
    have := blocks3_some ad l c (min l 66) ss w ht rfl hs.1 hs.2.1
    by_cases h : l ≤ 66
    · rw [Nat.min_eq_left h] at this
      rw [← cuts_all ss l ht.1 h]; exact this
    · rw [Nat.min_eq_right (by omega)] at this
      exact this
end
section
/- Layer 3's reference: Turn. -/
set_option linter.unusedVariables false
set_option linter.unusedSimpArgs false
open Go.RowKit
theorem turnM_take (n : Nat) (ms : List (Int × List Nat)) (i : Nat) (h : i < n) : (turnM n ms).take (i + 1) = (turnM n ms).take i ++ [((ms.length : Int), colW ms i)] := by
  rw [take_one (turnM n ms) i (0, []) (by rw [turnM_len]; exact h)]
  simp [turnM, List.getD, h]
theorem turnM_lt (n : Nat) (ms : List (Int × List Nat)) (i j : Nat) : (((turnM n ms).getD i (0, [])).2).getD j 0 < 18446744073709551616 := by
  by_cases h : i < n
  · have e : (turnM n ms).getD i (0, []) = ((ms.length : Int), colW ms i) := by simp [turnM, List.getD, h]
    rw [e]; exact colW_lt ms i j
  · have e : (turnM n ms)[i]? = none := List.getElem?_eq_none (by rw [turnM_len]; omega)
    simp [List.getD, e]
theorem right_len64 {N : Nat} {us : List Nat} (h : rightB N us = true) : N ≤ 64 * us.length := by
  have := right_len_eq h
  rw [Int.toNat_natCast] at this
  unfold nw at this; omega
end
end Go.Proofs.YtljooknodnblbaaDoor
