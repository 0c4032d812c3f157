/- Parts: HTail, GTail, GTail2, Bitrow1, Few, EaX, OpenV, EqO, Open, Block1, Block2, OpenT, Hi1, ObA, Block3, Block4, Words2, RefBlock, Ref1, From, FewT, RefTx, ObB, KTail, ObC, ObD, RndM. -/
import Derived.Test.YtcikoaeiopbbbaaGreatZa
import Derived.BigQuiet
import Derived.Deep.DeepCutAuto
import Derived.Deep.QuietTactic
import Derived.Deep.RegionHeld
import Derived.Deep.RegionHeld3
import Derived.Deep.RegionWith
import Derived.Deep.SlicePairs
import Derived.Deep.Slices
import Derived.Laws.BitsAllLaws
import Derived.Laws.CopyOwn
import Derived.Laws.IdiomStrings
import Derived.Laws.StructEq
import Derived.Lib.BufferWrite
import Derived.Lib.Hide
import Derived.Lib.SmallJoins
import Derived.Maps.AppendAt
import Derived.OpenShut
import Derived.OrdersHeld
import Derived.ProofKit
import Derived.RegionTactic
import Derived.ShutString
import Derived.SliceStrings
import Derived.StillTail
import Derived.Test.YtcikoaeiopbbbaaGreatRows
import Derived.WalkKit
namespace Go.Proofs.YtcikoaeiopbbbaaGreat
section
/- A law of one's own for a region that draws its order: its first operations are taken while some cells are held (a call that makes memory among them), the last ones, which may write those very cells, come one after the other. No program. -/
set_option linter.unusedVariables false
set_option linter.unusedSimpArgs false
section
variable {P : Program} {ops : Array Oper} {Q : Exit → Act → World → Prop} {md : Region.Mode} {S : World → Prop}
/-- Whatever order the first m operations take, f of them are still to come; behind each S holds; L at the end. -/
def headH (P : Program) (md : Region.Mode) (ops : Array Oper) (Q : Exit → Act → World → Prop) (S : World → Prop) (m : Nat) (L : Array Bool → Act → World → Prop) : Nat → Array Bool → Act → World → Prop
  | 0, listed, a, w => L listed a w
  | f + 1, listed, a, w => Region.ready md ops listed ≠ [] ∧ ∀ i ∈ Region.ready md ops listed, i < m ∧ wpOp P ops Q i (fun a' w' => S w' ∧ headH P md ops Q S m L f (listed.setIfInBounds i true) a' w') a w
theorem any_of_headH {m g : Nat} {L : Array Bool → Act → World → Prop} (hL : ∀ listed a w, L listed a w → wpAny P md ops Q g listed a w) :
    ∀ (f : Nat) (listed : Array Bool) (a : Act) (w : World), headH P md ops Q S m L f listed a w → wpAny P md ops Q (f + g) listed a w
  | 0, listed, a, w, h => by rw [Nat.zero_add]; exact hL _ _ _ h
  | f + 1, listed, a, w, h => by
    rw [show f + 1 + g = (f + g) + 1 by omega]
    exact ⟨fun h0 => absurd h0 h.1, fun i hi => wpOp_mono (fun a' w' h' => any_of_headH hL f _ a' w' h'.2) (h.2 i hi).2⟩
theorem headH_first {m i : Nat} {oi : Oper} {v : Value} {L : Array Bool → Act → World → Prop} (hi : ops[i]? = some oi) (hsel : ∀ (j : Nat) (o : Oper) cs b, ops[j]? = some o → o.op ≠ .select cs b)
    (hw : ∀ listed, HeadInv md ops m listed → ∀ i, i < m → listed.getD i true = false → ∀ t, m ≤ t → t ∉ Region.ready md ops listed) (him : i < m)
    (hQ : ∀ c a w, Q (.panic c) (a.put oi.dst v) w → Q (.panic c) a w) (hdone : ∀ listed a w, L listed a w → ∀ j ∈ Region.ready md ops listed, m ≤ j) :
    ∀ (f : Nat) (listed : Array Bool) (a : Act) (w : World), HeadInv md ops m listed →
      (∀ j oj, ops[j]? = some oj → j ≠ i → listed.getD j true = false → (∀ e ∈ oj.after, Region.binds md e = true → e.on ≠ i) → oi.apart ops oj = true) →
      i ∈ Region.ready md ops listed → YieldsIf P ops S oi v a → S w →
      headH P md ops Q S m L f (listed.setIfInBounds i true) (a.put oi.dst v) w → headH P md ops Q S m L (f + 1) listed a w := by
  intro f
  induction f with
  | zero =>
    intro listed a w inv _ hr hy hS H
    have hun := (mem_ready.1 hr).1
    refine ⟨fun h => (by rw [h] at hr; cases hr), fun j hj => ?_⟩
    have hjm : j < m := by
      rcases Nat.lt_or_ge j m with h | h
      · exact h
      · exact absurd hj (hw listed inv i him hun j h)
    refine ⟨hjm, ?_⟩
    by_cases hji : j = i
    · subst hji; exact hy.wpOp hi hS ⟨hS, H⟩
    · have := hdone _ _ _ H j (ready_mono hj hji)
      omega
  | succ f ih =>
    intro listed a w inv hfree hr hy hS H
    have hun := (mem_ready.1 hr).1
    refine ⟨fun h => (by rw [h] at hr; cases hr), fun j hj => ?_⟩
    have hjm : j < m := by
      rcases Nat.lt_or_ge j m with h | h
      · exact h
      · exact absurd hj (hw listed inv i him hun j h)
    refine ⟨hjm, ?_⟩
    by_cases hji : j = i
    · subst hji; exact hy.wpOp hi hS ⟨hS, H⟩
    · have h1 := (H.2 j (ready_mono hj hji)).2
      obtain ⟨hjun, oj, hoj, hall⟩ := mem_ready.1 hj
      have hnot : ∀ e ∈ oj.after, Region.binds md e = true → e.on ≠ i := fun e he hb heq => by
        have h1 := hall e he hb
        rw [heq, getD_both hun] at h1
        cases h1
      have h2 := wpOp_putIf hoj (hfree j oj hoj hji hjun hnot) (fun cs b => hsel i oi cs b hi) (fun cs b => hsel j oj cs b hoj) hQ hy h1
      have hfree' : ∀ k ok, ops[k]? = some ok → k ≠ i → (listed.setIfInBounds j true).getD k true = false →
          (∀ e ∈ ok.after, Region.binds md e = true → e.on ≠ i) → oi.apart ops ok = true := fun k ok hk hki hun hno => by
        refine hfree k ok hk hki ?_ hno
        by_cases hjk : j = k
        · subst hjk; exact hjun
        · rw [getD_set_ne true hjk] at hun; exact hun
      refine wpOp_mono (fun a' w' h3 => ⟨h3.2.1, ih (listed.setIfInBounds j true) a' w' (inv.set hj hjm) hfree' (ready_mono hr (Ne.symm hji)) h3.1 h3.2.1 ?_⟩) h2
      rw [Array.setIfInBounds_comm _ _ hji]
      exact h3.2.2
/-- What is known of the list while the head goes on, as a Bool for the kernel. -/
def headB (md : Region.Mode) (ops : Array Oper) (m : Nat) (listed : Array Bool) : Bool :=
  (listed.size == ops.size) && ((List.range ops.size).all fun j => match ops[j]? with | some oj => !listed.getD j false || (oj.after.all fun e => !Region.binds md e || listed.getD e.on false) | none => true) && ((List.range ops.size).all fun t => decide (t < m) || !listed.getD t true)
theorem headB_inv {m : Nat} {listed : Array Bool} (h : headB md ops m listed = true) : HeadInv md ops m listed := by
  simp only [headB, Bool.and_eq_true, beq_iff_eq, List.all_eq_true, List.mem_range, Bool.or_eq_true, decide_eq_true_eq, Bool.not_eq_true'] at h
  obtain ⟨⟨h1, h2⟩, h3⟩ := h
  refine ⟨h1, fun j oj hj hl e he hb => ?_, fun t ht ht' => ?_⟩
  · have hlt : j < ops.size := (Array.getElem?_eq_some_iff.1 hj).1
    have := h2 j hlt
    simp only [hj, hl, Bool.not_true, Bool.false_or, Array.all_eq_true'] at this
    have := this e he
    simpa [hb] using this
  · rcases h3 t ht' with h | h
    · omega
    · exact h
/-- Take number i first. -/
theorem headH_take {m i : Nat} {oi : Oper} {v : Value} {f : Nat} {listed : Array Bool} {a : Act} {w : World} {L : Array Bool → Act → World → Prop} (hi : ops[i]? = some oi)
    (hall : (Region.noSelect ops && Region.sinkB md ops m && Region.chainB md ops m && decide (m < ops.size) && decide (i < m) && headB md ops m listed && Region.free md ops listed i && (Region.ready md ops listed).contains i) = true)
    (hQ : ∀ c a w, Q (.panic c) (a.put oi.dst v) w → Q (.panic c) a w) (hdone : ∀ listed a w, L listed a w → ∀ j ∈ Region.ready md ops listed, m ≤ j)
    (hy : YieldsIf P ops S oi v a) (hS : S w) (h : headH P md ops Q S m L f (listed.setIfInBounds i true) (a.put oi.dst v) w) : headH P md ops Q S m L (f + 1) listed a w := by
  simp only [Bool.and_eq_true, decide_eq_true_eq] at hall
  obtain ⟨⟨⟨⟨⟨⟨⟨h1, h2⟩, h3⟩, h4⟩, h5⟩, h6⟩, h7⟩, h8⟩ := hall
  exact headH_first hi (Region.noSelect_spec h1) (fun listed inv i him hun t ht => tail_waits h2 h3 h4 inv _ i rfl him hun t ht) h5 hQ hdone f listed a w (headB_inv h6) (Region.free_spec hi h7) (by simpa using h8) hy hS h
/-- All that come behind the first m wait for each of them. -/
def barB (md : Region.Mode) (ops : Array Oper) (m : Nat) : Bool := (List.range ops.size).all fun t => decide (t < m) || ((List.range m).all fun i => Region.waitsFor md ops t i)
theorem bar_waits {m : Nat} (h : barB md ops m = true) (listed : Array Bool) (i : Nat) (him : i < m) (hun : listed.getD i true = false) (t : Nat) (ht : m ≤ t) : t ∉ Region.ready md ops listed := by
  intro hr
  obtain ⟨_, ot, hot, hall⟩ := mem_ready.1 hr
  have htlt : t < ops.size := (Array.getElem?_eq_some_iff.1 hot).1
  simp only [barB, List.all_eq_true, List.mem_range, Bool.or_eq_true, decide_eq_true_eq] at h
  rcases h t htlt with h1 | h1
  · omega
  · obtain ⟨o', ho', e, he, hb, hon⟩ := Region.waitsFor_spec (h1 i him)
    have : o' = ot := Option.some.inj (ho'.symm.trans hot)
    subst this
    have h2 := hall e he hb
    rw [hon, getD_both hun] at h2
    cases h2
/-- Have the first m come up? -/
def passedB (m : Nat) (listed : Array Bool) : Bool := (List.range m).all fun i => listed.getD i false
theorem passed_ready {m : Nat} {listed : Array Bool} (h : passedB m listed = true) : ∀ j ∈ Region.ready md ops listed, m ≤ j := by
  intro j hj
  obtain ⟨hun, oj, hoj, -⟩ := mem_ready.1 hj
  refine Nat.le_of_not_lt fun hlt => ?_
  have := List.all_eq_true.1 h j (List.mem_range.2 hlt)
  rw [getD_both hun] at this
  cases this
/-- Only number i may come up: behind it S is to be shown anew. -/
theorem headH_one {m i : Nat} {o : Oper} {f : Nat} {listed : Array Bool} {a : Act} {w : World} {L : Array Bool → Act → World → Prop} (hr : (Region.ready md ops listed == [i] && decide (i < m)) = true) (ho : ops[i]? = some o)
    (h : ∀ K' : Act → World → Prop, Shut (∀ a w, S w → (S w → headH P md ops Q S m L f (listed.setIfInBounds i true) a w) → K' a w) → if Region.wanted o (yielded ops a.tmps) = true then Oper.wp P o a w K' Q else K' (a.put o.dst undef) w) : headH P md ops Q S m L (f + 1) listed a w := by
  simp only [Bool.and_eq_true, beq_iff_eq, decide_eq_true_eq] at hr
  refine ⟨by rw [hr.1]; simp, fun j hj => ?_⟩
  rw [hr.1] at hj
  have hji : j = i := by simpa using hj
  subst hji
  exact ⟨hr.2, wpOp_step ho (fun K' hK => h K' (fun a w hS hW => hK a w ⟨hS, hW hS⟩))⟩
/-- THE BEGINNING: the first m operations so, the rest in their order. -/
theorem wp_held_tail {id : Nat} {a : Act} {w : World} {l : List Oper} (m : Nat) (hmx : P.follows .mixedOrders = true) (hm : m ≤ l.length)
    (h : headH P .any l.toArray Q S m (fun listed a w => Region.seqB .any l.toArray (l.length - m) m listed = true ∧ wpList P l.toArray Q (l.drop m) a w) m (Array.replicate l.toArray.size false) a w.drew) : (Code.region id l.toArray true).wp P Q a w := by
  refine wp_region_any hmx ?_
  have := any_of_headH (g := l.length - m) (fun listed a' w' hL => by
    have hdl : (l.drop m).length = l.length - m := by simp
    have := wpAny_of_seq (md := .any) (Q' := Q) (l.drop m) m listed a' w' (fun j => by simp [List.getElem?_drop]) (by rw [hdl]; exact hL.1) hL.2
    rwa [hdl] at this) _ _ _ _ h
  rw [show m + (l.length - m) = l.toArray.size by simp; omega] at this
  exact this
end
end
section
/- The law of HTail where one store of the head (number k) writes what earlier loads have read: some cells are held till it has come, others to the head's end. No program. -/
set_option linter.unusedVariables false
set_option linter.unusedSimpArgs false
section
variable {P : Program} {ops : Array Oper} {Q : Exit → Act → World → Prop} {md : Region.Mode} {Sa Sb : World → Prop} {k : Nat}
end
end
section
/- GTail, where number k waits for number i through number j. No program. -/
set_option linter.unusedVariables false
set_option linter.unusedSimpArgs false
section
variable {P : Program} {ops : Array Oper} {Q : Exit → Act → World → Prop} {md : Region.Mode} {Sa Sb : World → Prop} {k : Nat}
end
end
section
/- Contracts of package bitrow's small functions: lengthMayBe, wordsFor, isPlace, Right. -/
set_option linter.unusedVariables false
set_option linter.unusedSimpArgs false
open Go.RowKit
theorem quiet_w {P : Program} {f : FuncId} {args : Array Value} {w : World} {n : Nat} {v : Value}
    (h : Calls P f args (w.drewN n) fun e w' => e = .returned v ∧ w.drewN n = w') : Calls P f args (w.drewN n) fun e w'' => e = .returned v ∧ ∃ m, w'' = w.drewN m :=
  h.mono fun _ _ ⟨he, hm⟩ => ⟨he, n, hm.symm⟩
def lmb (n : Int) : Bool := decide (0 ≤ n) && decide (n ≤ 512)
theorem lmb_iff (n : Int) : lmb n = true ↔ 0 ≤ n ∧ n ≤ 512 := by simp [lmb]
theorem lmb_no (n : Int) : lmb n = false ↔ ¬ (0 ≤ n ∧ n ≤ 512) := by rw [← lmb_iff]; simp
theorem lengthMayBe_any (n : Int) (w : World) : Calls Tryz.prog 193 #[.int .i64 n] w fun e w' => e = .returned (.bool (lmb n)) ∧ w = w' := by
  by_cases h : 0 ≤ n
  · by_cases h2 : n ≤ 512
    · have e : lmb n = true := (lmb_iff n).2 ⟨h, h2⟩
      rw [e]; clear e
      go_enter Tryz.func193, Tryz.ntmps193
      go_wp2
      go_ret
      exact ⟨rfl, rfl⟩
    · have e : lmb n = false := (lmb_no n).2 (by omega)
      rw [e]; clear e
      have t : decide (n ≤ 512) = false := by simpa using h2
      go_enter Tryz.func193, Tryz.ntmps193
      go_wp2
      go_ret
      exact ⟨by simp, rfl⟩
  · have e : lmb n = false := (lmb_no n).2 (by omega)
    rw [e]; clear e
    have t : decide (0 ≤ n) = false := by simpa using h
    go_enter Tryz.func193, Tryz.ntmps193
    go_wp2
    go_ret
    exact ⟨by simp, rfl⟩
def nw (n : Nat) : Nat := (n + 63) / 64
theorem wordsFor_any (n : Nat) (h : n ≤ 512) (w : World) : Calls Tryz.prog 194 #[.int .i64 n] w fun e w' => e = .returned (.int .i64 (nw n)) ∧ w = w' := by
  go_enter Tryz.func194, Tryz.ntmps194
  go_wp2
  go_ret
  exact ⟨congrArg (fun z => Ending.returned (.int .i64 z)) (by unfold nw; omega), rfl⟩
theorem isPlace_any (n : Int) (A : Option Addr) (l c : Nat) (i : Int) (w : World) : Calls Tryz.prog 177 #[.agg #[.int .i64 n, .slice A l c], .int .i64 i] w fun e w' => e = .returned (.bool (decide (0 ≤ i) && decide (i < n))) ∧ Below w.heap.size w w' := by
  by_cases h : 0 ≤ i
  · have t : decide (0 ≤ i) = true := by simpa using h
    rw [t, Bool.true_and]; clear t
    go_enter Tryz.func177, Tryz.ntmps177
    go_wp2
    all_goals go_ret
    all_goals exact ⟨rfl, (Below.refl _ _).alloc (Nat.le_refl _) _⟩
  · have t : decide (0 ≤ i) = false := by simpa using h
    rw [t, Bool.false_and]
    go_enter Tryz.func177, Tryz.ntmps177
    go_wp2
    all_goals go_ret
    all_goals exact ⟨rfl, (Below.refl _ _).alloc (Nat.le_refl _) _⟩
def rightB (n : Int) (ws : List Nat) : Bool := lmb n && (ws.length == nw n.toNat) && (n.toNat % 64 == 0 || (ws.getD (ws.length - 1) 0) / 2 ^ (n.toNat % 64) == 0)
theorem shr_zero (x k : Nat) : (((x : Int) / 2 ^ k) == 0) = (x / 2 ^ k == 0) := by
  rw [Bool.eq_iff_iff]
  have e : (x : Int) / 2 ^ k = ((x / 2 ^ k : Nat) : Int) := by simp [Int.natCast_ediv]
  rw [e]
  simp only [beq_iff_eq]
  omega
theorem right_out (n : Int) (A : Option Addr) (l c : Nat) (h : lmb n = false) (w : World) :
    Calls Tryz.prog 172 #[.agg #[.int .i64 n, .slice A l c]] w fun e w' => e = .returned (.bool false) ∧ Below w.heap.size w w' := by
  have H := Lib.hid (lengthMayBe_any n)
  go_enter Tryz.func172, Tryz.ntmps172
  go_wp2_with fail
  go_quiet ((go_at_call 193; exact quiet_w (H.out _)))
  go_wp2
  go_ret
  exact ⟨rfl, bdN ((Below.refl _ _).alloc (Nat.le_refl _) _) _⟩
theorem right_len (n : Nat) (A : Option Addr) (l c : Nat) (h : lmb n = true) (hl : l ≠ nw n) (w : World) :
    Calls Tryz.prog 172 #[.agg #[.int .i64 n, .slice A l c]] w fun e w' => e = .returned (.bool false) ∧ Below w.heap.size w w' := by
  have hn := (lmb_iff n).1 h
  have H := Lib.hid (lengthMayBe_any n)
  have H2 := Lib.hid (wordsFor_any n (by omega))
  have t : ((l : Int) != (nw n : Int)) = true := by rw [bne_iff_ne]; omega
  go_enter Tryz.func172, Tryz.ntmps172
  go_wp2_with fail
  go_quiet ((first | (go_at_call 193; exact quiet_w (H.out _)) | (go_at_call 194; exact quiet_w (H2.out _))))
  go_wp2
  go_ret
  exact ⟨rfl, bdN ((Below.refl _ _).alloc (Nat.le_refl _) _) _⟩
theorem right_full (n : Nat) (A : Option Addr) (l c : Nat) (h : lmb n = true) (hl : l = nw n) (hm : n % 64 = 0) (w : World) :
    Calls Tryz.prog 172 #[.agg #[.int .i64 n, .slice A l c]] w fun e w' => e = .returned (.bool true) ∧ Below w.heap.size w w' := by
  have hn := (lmb_iff n).1 h
  have H := Lib.hid (lengthMayBe_any n)
  have H2 := Lib.hid (wordsFor_any n (by omega))
  subst hl
  have t : ((nw n : Int) != (nw n : Int)) = false := by simp
  have t2 : ((n : Int) % 64 == 0) = true := by simp; omega
  clear hm
  go_enter Tryz.func172, Tryz.ntmps172
  go_wp2_with fail
  go_quiet ((first | (go_at_call 193; exact quiet_w (H.out _)) | (go_at_call 194; exact quiet_w (H2.out _))))
  go_wp2
  go_ret
  exact ⟨rfl, bdN ((Below.refl _ _).alloc (Nat.le_refl _) _) _⟩
theorem right_part (n : Nat) (A : Option Addr) (l c : Nat) (ws : List Nat) (h : lmb n = true) (hl : l = nw n) (hm : n % 64 ≠ 0) (w : World) (hw : Words w A l ws) :
    Calls Tryz.prog 172 #[.agg #[.int .i64 n, .slice A l c]] w fun e w' => e = .returned (.bool (ws.getD (l - 1) 0 / 2 ^ (n % 64) == 0)) ∧ Below w.heap.size w w' := by
  have hn := (lmb_iff n).1 h
  have H := Lib.hid (lengthMayBe_any n)
  have H2 := Lib.hid (wordsFor_any n (by omega))
  have hp : 0 < nw n := by unfold nw; omega
  subst hl
  obtain ⟨b, off, rfl, hlt, hc⟩ := hw.2.2 hp
  have hx := hw.2.1 (nw n - 1)
  have c1 := hc (nw n - 1) (by omega)
  generalize ws.getD (nw n - 1) 0 = x at *
  have hnw : nw n ≤ 8 := by unfold nw; omega
  have t : ((nw n : Int) != (nw n : Int)) = false := by simp
  have t2 : ((n : Int) % 64 == 0) = false := by simp; omega
  clear hc hw
  go_enter Tryz.func172, Tryz.ntmps172
  go_wp2_with fail
  go_quiet ((first | (go_at_call 193; exact quiet_w (H.out _)) | (go_at_call 194; exact quiet_w (H2.out _))))
  go_wp2
  go_ret
  refine ⟨congrArg (fun z => Ending.returned (.bool z)) ?_, bdN ((Below.refl _ _).alloc (Nat.le_refl _) _) _⟩
  exact shr_zero x (n % 64)
theorem right_any (n : Int) (A : Option Addr) (l c : Nat) (ws : List Nat) (w : World) (hw : Words w A l ws) :
    Calls Tryz.prog 172 #[.agg #[.int .i64 n, .slice A l c]] w fun e w' => e = .returned (.bool (rightB n ws)) ∧ Below w.heap.size w w' := by
  unfold rightB
  cases h : lmb n with
  | false => simpa using right_out n A l c h w
  | true =>
    have hn := (lmb_iff n).1 h
    obtain ⟨m, rfl⟩ := Int.eq_ofNat_of_zero_le hn.1
    rw [Int.toNat_natCast, hw.1]
    by_cases hl : l = nw m
    · have e1 : (l == nw m) = true := by simpa using hl
      rw [e1]
      by_cases hm : m % 64 = 0
      · have e2 : (m % 64 == 0) = true := by simpa using hm
        rw [e2]
        exact right_full m A l c h hl hm w
      · have e2 : (m % 64 == 0) = false := by simpa using hm
        rw [e2]
        exact right_part m A l c ws h hl hm w hw
    · have e1 : (l == nw m) = false := by simpa using hl
      rw [e1]
      exact right_len m A l c h hl w
end
section
/- Contract of the statements' few: a row with at most ten words. -/
set_option linter.unusedVariables false
set_option linter.unusedSimpArgs false
open Go.RowKit
/-- A slice value as Go has it: nil is empty, without capacity. -/
def SliceOk (A : Option Addr) (l c : Nat) : Prop := l ≤ c ∧ c ≤ maxLen ∧ (A = none → l = 0 ∧ c = 0)
end
section
/- EquationsAdd: the walk. -/
set_option linter.unusedVariables false
set_option linter.unusedSimpArgs false
open Go.RowKit
set_option maxRecDepth 100000
theorem Box.far4 {w : World} {g g' : Nat} {t : TypeId} {cs : Array Value} (h : Box w g t cs) (hn : g ≠ g') (a b c d : Value) : Box ((((w.setCell ⟨g', 0, none⟩ a).setCell ⟨g', 1, none⟩ b).setCell ⟨g', 2, none⟩ c).setCell ⟨g', 3, none⟩ d) g t cs :=
  (((h.far (p := ⟨g', 0, none⟩) hn a).far (p := ⟨g', 1, none⟩) hn b).far (p := ⟨g', 2, none⟩) hn c).far (p := ⟨g', 3, none⟩) hn d
theorem storeB_new (k s c : Int) : storeB k s c [] = sizesB k s c := by
  rw [storeB_eq]
  unfold sizesB kB
  by_cases h : 1 ≤ c
  · have : (0 : Int) ≤ c := by omega
    simp [allB, twiceB, this]
  · simp [h]
theorem eadd_law (k s c : Int) (A : Option Addr) (l d : Nat) (xs : List SymR) (x : SymR) (w : World) (hx : Syms w A l xs) (hl : l ≤ d) (hd : d ≤ maxLen) (hn : A = none → d = 0) (h66 : xs.length ≤ 66) :
    Calls Tryz.prog 91 #[.agg #[.int .i64 k, .int .i64 s, .int .i64 c, .slice A l d], .agg #[.int .u64 (x.1 : Int), .string x.2]] w fun e w' => ∃ K S C A' zs d', e = .returned (.tuple #[.agg #[.int .i64 K, .int .i64 S, .int .i64 C, .slice A' zs.length d'], .int .i64 (addE k s c xs x)]) ∧
      ((addE k s c xs x = 0 → K = k ∧ S = s ∧ C = c ∧ zs = xs ++ [x]) ∧ (¬ addE k s c xs x = 0 → K = 0 ∧ S = 0 ∧ C = 0 ∧ zs = [])) ∧ Syms w' A' zs.length zs ∧ zs.length ≤ d' ∧ d' ≤ maxLen ∧ (A' = none → d' = 0) ∧ zs.length ≤ 67 ∧ Below w.heap.size w w' := by
  by_cases he : addE k s c xs x = 0
  · refine (eadd_yes k s c A l d xs x w hx hl hd hn he).mono ?_
    rintro e w' ⟨A', d', rfl, h1, h2, h3, h4, hb⟩
    exact ⟨k, s, c, A', xs ++ [x], d', by rw [he], ⟨fun _ => ⟨rfl, rfl, rfl, rfl⟩, fun h => absurd he h⟩, h1, h2, h3, h4, by rw [List.length_append]; show xs.length + 1 ≤ 67; omega, hb⟩
  · refine (eadd_no k s c A l d xs x w hx hl hd he).mono ?_
    rintro e w' ⟨A', d', rfl, h1, h2, h3, h4, hb⟩
    exact ⟨0, 0, 0, A', [], d', rfl, ⟨fun h => absurd h he, fun _ => ⟨rfl, rfl, rfl, rfl⟩⟩, h1, h2, h3, h4, Nat.zero_le _, hb⟩
theorem addE_yes {k s c : Int} {xs : List SymR} {x : SymR} (h : storeB k s c xs = true) : addE k s c xs x = whyI s c xs x := by unfold addE; rw [if_pos h]
end
section
/- How a slice of words and a slice of ints that came in are opened (without rows). -/
set_option linter.unusedVariables false
set_option linter.unusedSimpArgs false
open Go.RowKit Go.Joins Go.ChangeShapes Go.WideShapes
theorem cellsU64 : Tryz.prog.cellsOf 22 = 1 := by kernel_rfl
theorem addr_at {w : World} {a : Addr} {v : Value} (h : w.cell? (a.add 0) = some v) : ∃ b o, a = ⟨b, o, none⟩ := by
  obtain ⟨b, o, s⟩ := a
  have := World.cell?_spot h
  simp [Addr.add] at this
  subst this
  exact ⟨b, o, rfl⟩
end
section
/- How a store and a symbol that came in are opened. -/
set_option linter.unusedVariables false
set_option linter.unusedSimpArgs false
open Go.RowKit Go.Joins Go.ChangeShapes Go.WideShapes
set_option maxRecDepth 100000
theorem cellsSymO : Tryz.prog.cellsOf 29 = 2 := by kernel_rfl
theorem cellsStrO : Tryz.prog.cellsOf 9 = 1 := by kernel_rfl
theorem u64_nat {a : Int} (h : (Lit.int .u64 a).wf = true) : ∃ n : Nat, a = (n : Int) ∧ n < 18446744073709551616 := by
  have := bounds_u64 h
  exact ⟨a.toNat, by omega, by omega⟩
/-- A slice of symbols that came in. -/
theorem open_syms {H : Type} {enc : TypeId × Value → H} {W : World} {fuel : Nat} {cs : List Value} {x : DataW H × List MemPlace}
    (h : DataW.trod enc Tryz.prog W 0 (fun _ => true) true fuel 23 cs = some x) : ∃ A l c xs, cs = [.slice A l c] ∧ SliceOk A l c ∧ Syms W A l xs ∧ ∀ j, (xs.getD j default).1 < 18446744073709551616 := by
  rcases Go.Deep.open_slice_pairs Tryz.underlying23 Tryz.underlying29 cellsSymO rfl rfl cellsU64 cellsStrO h with ⟨hcs, _⟩ | ⟨a, len, cap, m, n, V0, V1, D0, D1, P0, P1, hcs, _, hl, hm, hmm, _, hx⟩
  · exact ⟨none, 0, 0, [], hcs, ⟨Nat.le_refl _, Nat.zero_le _, fun _ => ⟨rfl, rfl⟩⟩, Recs.nil _ _, fun j => by simp [default]⟩
  · have hmm' : m = cap := by simpa using hmm
    have each : ∀ i, i < len → ∃ r : SymR, V0 i = .int .u64 (r.1 : Nat) ∧ V1 i = .string r.2 ∧ r.1 < 18446744073709551616 := fun i hi => by
      obtain ⟨h0, h1, h2, h3⟩ := hx i (by omega)
      obtain ⟨z, e0, -, wz⟩ := DataW.trod_int Tryz.underlying22 h2
      obtain ⟨s, e1, -, ws⟩ := DataW.trod_string Tryz.underlying9 h3
      obtain ⟨k, rfl, hk⟩ := u64_nat wz
      simp at e0 e1
      exact ⟨(k, s), e0, e1, hk⟩
    obtain ⟨q, hq⟩ := Go.Deep.choose_lt each
    have hg : ∀ j, j < len → ((List.range len).map q).getD j default = q j := fun j hj => by simp [List.getD, hj]
    refine ⟨some a, len, cap, (List.range len).map q, hcs, ⟨hl, hm, fun h => by cases h⟩, ⟨by simp, fun hp => ?_⟩, fun j => ?_⟩
    · obtain ⟨b, o, ha⟩ : ∃ b o, a = ⟨b, o, none⟩ := by
        have := (hx 0 (by omega)).1
        exact addr_at (by simpa using this)
      subst ha
      have hadd : ∀ j, Addr.add { block := b, off := o } j = ⟨b, o + j, none⟩ := fun j => by
        by_cases h : j = 0 <;> simp [Addr.add, h]
      refine ⟨b, o, rfl, ?_, fun j hj k v hv => ?_⟩
      · have := block_lt_of_cell (hx 0 (by omega)).1
        rw [hadd] at this
        exact this
      · obtain ⟨h0, h1, -, -⟩ := hx j (by omega)
        rw [hadd] at h0 h1
        obtain ⟨e0, e1, -⟩ := hq j hj
        rw [hg j hj] at hv
        match k, hv with
        | 0, hv =>
          simp [encS] at hv
          rw [Nat.add_zero, h0, e0, hv]
        | 1, hv =>
          simp [encS] at hv
          rw [Nat.add_assoc, h1, e1, hv]
    · by_cases hj : j < len
      · rw [hg j hj]; exact (hq j hj).2.2
      · have e : ((List.range len).map q).getD j default = default := by
          simp only [List.getD]
          rw [List.getElem?_eq_none (by simp; omega)]; rfl
        rw [e]; decide
end
section
/- How a row (a struct with a slice of words) and a slice of ints that came in are opened. -/
set_option linter.unusedVariables false
set_option linter.unusedSimpArgs false
open Go.RowKit Go.Joins Go.ChangeShapes Go.WideShapes
end
section
/- Contracts of layer 2: block.sizeMayBe, block.Zero, block.Nought, the reference's Nought, the law's cut. -/
set_option linter.unusedVariables false
set_option linter.unusedSimpArgs false
open Go.RowKit
def smb (n : Int) : Bool := decide (0 ≤ n) && decide (n ≤ 64)
theorem smb_iff (n : Int) : smb n = true ↔ 0 ≤ n ∧ n ≤ 64 := by simp [smb]
theorem smb_no (n : Int) : smb n = false ↔ ¬ (0 ≤ n ∧ n ≤ 64) := by rw [← smb_iff]; simp
theorem sizeMayBe_any (n : Int) (w : World) : Calls Tryz.prog 183 #[.int .i64 n] w fun e w' => e = .returned (.bool (smb n)) ∧ w = w' := by
  by_cases h : 0 ≤ n
  · by_cases h2 : n ≤ 64
    · have e : smb n = true := (smb_iff n).2 ⟨h, h2⟩
      rw [e]; clear e
      go_enter Tryz.func183, Tryz.ntmps183
      go_wp2
      go_ret
      exact ⟨rfl, rfl⟩
    · have e : smb n = false := (smb_no n).2 (by omega)
      rw [e]; clear e
      have t : decide (n ≤ 64) = false := by simpa using h2
      go_enter Tryz.func183, Tryz.ntmps183
      go_wp2
      go_ret
      exact ⟨by simp, rfl⟩
  · have e : smb n = false := (smb_no n).2 (by omega)
    rw [e]; clear e
    have t : decide (0 ≤ n) = false := by simpa using h
    go_enter Tryz.func183, Tryz.ntmps183
    go_wp2
    go_ret
    exact ⟨by simp, rfl⟩
/-- Are all bytes 0? -/
def noughtL (l : List UInt8) : Bool := l.all fun b => b == 0
theorem take_snoc (s : ByteArray) (k : Nat) (h : k < s.size) : s.data.toList.take (k + 1) = s.data.toList.take k ++ [s[k]] := by
  have hk : k < s.data.toList.length := by simpa using h
  rw [List.take_succ_eq_append_getElem hk]
  rfl
theorem nought_not (s : ByteArray) (k : Nat) (h : k < s.size) (hz : ¬ s[k] = 0) : noughtL s.data.toList = false := by
  rw [Bool.eq_false_iff]
  intro ha
  have := List.all_eq_true.1 ha (s[k]) (by rw [show s[k] = s.data.toList[k]'(by simpa using h) from rfl]; exact List.getElem_mem _)
  exact hz (by simpa using this)
theorem nought_any (s : ByteArray) (hs : s.size ≤ maxLen) (w : World) : Calls Tryz.prog 167 #[.string s] w fun e w' => e = .returned (.bool (noughtL s.data.toList)) ∧ w = w' := by
  unfold maxLen at hs
  go_enter Tryz.func167, Tryz.ntmps167
  go_wp2_with fail
  go_loop [6] (fun i => ∃ k : Nat, k ≤ s.size ∧ i = .int .i64 k ∧ Hid (noughtL (s.data.toList.take k) = true)) (fun i => s.size - (intOf i).toNat)
  case atStart => exact ⟨0, by omega, rfl, Lib.hid (by simp [noughtL])⟩
  case round =>
    obtain ⟨k, hk, rfl, HN⟩ := hrel
    by_cases hlt : k < s.size
    · by_cases hz : s[k] = 0
      · go_wp2
        go_round
        case rel => exact ⟨k + 1, by omega, by go_num, Lib.hid (by have := HN.out; rw [take_snoc s k hlt]; simp [noughtL, List.all_append] at this ⊢; exact ⟨this, hz⟩)⟩
        case measure => simp [intOf]; omega
      · have hz' : s[k].toNat ≠ 0 := fun h => hz (UInt8.toNat_inj.1 (by simpa using h))
        have t : ((s[k].toNat : Int) != 0) = true := by simpa using hz'
        have HE := Lib.hid (nought_not s k hlt hz)
        go_wp2
        go_ret
        exact ⟨by rw [HE.out]; rfl, rfl⟩
    · obtain rfl : k = s.size := by omega
      have HE := Lib.hid (show noughtL s.data.toList = true by have := HN.out; rwa [List.take_of_length_le (by simp)] at this)
      go_wp2
      go_ret
      exact ⟨by rw [HE.out]; rfl, rfl⟩
theorem uint8_info : (Tryz.prog.info? 5).map (fun i => (i.zero, i.size, i.bytes)) = some (some (.int .u8 0), 1, 1) := by kernel_rfl
/-- A row of bytes in memory. -/
def bytesA (l : List UInt8) : Array Value := (l.map fun (x : UInt8) => Value.int .u8 (x.toNat : Int)).toArray
theorem bytesA_get (l : List UInt8) (j : Nat) (h : j < l.length) : (bytesA l)[j]? = some (.int .u8 ((l.getD j 0).toNat : Int)) := by
  simp [bytesA, List.getD, h]
theorem bytesA_set (l : List UInt8) (k : Nat) (x : UInt8) : (bytesA l).setIfInBounds k (.int .u8 (x.toNat : Int)) = bytesA (l.set k x) := by
  simp [bytesA, List.map_set]
theorem makeB_any (n : Nat) (hn : n ≤ 1000000) (w : World) :
    (Instr.makeSlice 147 (.int .i64 (n : Int)) (.int .i64 (n : Int))).run Tryz.prog w = .ok (.slice (some ⟨w.heap.size, 0, none⟩) n n) (w.alloc (.cells (bytesA (List.replicate n 0)) 5)) := by
  obtain ⟨i0, hi, hz0, hz1, hz2⟩ := info_parts uint8_info
  have hr := run_make (P := Tryz.prog) w _ _ i0 _ Tryz.underlying147 hi hz0 .i64 .i64 n n (by omega) (by omega) (by rw [hz2]; omega) (by omega)
  simp only [Int.toNat_natCast, hz1, Nat.mul_one] at hr
  rw [hr]
  have : madeCells (Value.int .u8 0).cells n = bytesA (List.replicate n 0) := by
    apply Array.toList_inj.1
    have := toList_madeCells_one (Value.int .u8 0) n
    simpa [Value.cells, bytesA] using this
  rw [this]
theorem backB {w : World} {g n : Nat} {t : TypeId} {l : List UInt8} (h : Box w g t (bytesA l)) (hn : l.length = n) :
    (convert 147 9 (.slice (some ⟨g, 0, none⟩) n n)).run Tryz.prog w = .ok (.string ⟨l.toArray⟩) w := by
  subst hn
  refine run_convert_bytes_back (P := Tryz.prog) w 147 9 5 ⟨g, 0, none⟩ _ l Tryz.underlying147 Tryz.underlying5 Tryz.underlying9 ?_
  intro j hj
  have hadd : Addr.add { block := g, off := 0 } j = ⟨g, j, none⟩ := by
    by_cases h : j = 0 <;> simp [Addr.add, h]
  rw [hadd, h.cell j, bytesA_get l j hj]
  simp [List.getD, hj]
def zeroB (n : Nat) : ByteArray := ⟨(List.replicate n (0 : UInt8)).toArray⟩
theorem zero_yes (n : Nat) (h : smb n = true) (w : World) : Calls Tryz.prog 185 #[.int .i64 n] w fun e w' => e = .returned (.tuple #[.string (zeroB n), .int .i64 0]) ∧ Below w.heap.size w w' := by
  have H := Lib.hid (sizeMayBe_any n)
  have hn := (smb_iff n).1 h
  have m := makeB_any n (by omega) w
  have c := backB (Box.new w 5 (bytesA (List.replicate n 0))) (n := n) (by simp)
  go_enter Tryz.func185, Tryz.ntmps185
  go_wp2_with fail
  refine (H.out _).mono ?_
  rintro e w1 ⟨rfl, rfl⟩
  go_wp2_with fail
  go_ret2
  exact ⟨rfl, (Below.refl _ _).alloc (Nat.le_refl _) _⟩
end
section
/- Contracts of layer 2: block.allHave, block.put. -/
set_option linter.unusedVariables false
set_option linter.unusedSimpArgs false
open Go.RowKit
/-- Texts in memory: a slice of strings. -/
def Texts (w : World) (A : Option Addr) (len : Nat) (ss : List ByteArray) : Prop :=
  ss.length = len ∧ (∀ j, (ss.getD j ByteArray.empty).size ≤ maxLen) ∧
    (0 < len → ∃ b off, A = some ⟨b, off, none⟩ ∧ b < w.heap.size ∧ ∀ j, j < len → w.cell? ⟨b, off + j, none⟩ = some (.string (ss.getD j ByteArray.empty)))
theorem Texts.mono {w w' : World} {A : Option Addr} {len : Nat} {ss : List ByteArray} (h : Texts w A len ss) {B : Nat} (hB : w.heap.size ≤ B) (hb : Below B w w') : Texts w' A len ss := by
  refine ⟨h.1, h.2.1, fun hp => ?_⟩
  obtain ⟨b, off, rfl, hlt, hc⟩ := h.2.2 hp
  exact ⟨b, off, rfl, Nat.lt_of_lt_of_le hlt hb.size, fun j hj => (hb.cell (p := ⟨b, off + j, none⟩) (Nat.lt_of_lt_of_le hlt hB)).trans (hc j hj)⟩
theorem Texts.below {w w' : World} {A : Option Addr} {len : Nat} {ss : List ByteArray} (h : Texts w A len ss) (hb : Below w.heap.size w w') : Texts w' A len ss := h.mono (Nat.le_refl _) hb
theorem Texts.nil (w : World) (A : Option Addr) : Texts w A 0 [] := ⟨rfl, by simp [maxLen], fun h => by omega⟩
/-- Have all texts n bytes? -/
def allL (n : Int) (ss : List ByteArray) : Bool := ss.all fun s => (s.size : Int) == n
theorem allL_snoc (n : Int) (ss : List ByteArray) (j : Nat) (h : j < ss.length) : allL n (ss.take (j + 1)) = (allL n (ss.take j) && (((ss.getD j ByteArray.empty).size : Int) == n)) := by
  unfold allL
  rw [List.take_succ_eq_append_getElem h, List.all_append]
  simp [List.getD, h]
theorem allL_not (n : Int) (ss : List ByteArray) (j : Nat) (h : j < ss.length) (hz : ¬ ((ss.getD j ByteArray.empty).size : Int) = n) : allL n ss = false := by
  rw [Bool.eq_false_iff]
  intro ha
  have := List.all_eq_true.1 ha (ss[j]) (List.getElem_mem _)
  exact hz (by simpa [List.getD, h] using this)
theorem allHave_any (n : Int) (A : Option Addr) (l c : Nat) (ss : List ByteArray) (w : World) (ht : Texts w A l ss) (hl : l ≤ maxLen) :
    Calls Tryz.prog 184 #[.int .i64 n, .slice A l c] w fun e w' => e = .returned (.bool (allL n ss)) ∧ w = w' := by
  unfold maxLen at hl
  have hlen := Lib.hid ht.1
  have HT := Lib.hid ht
  clear ht
  go_enter Tryz.func184, Tryz.ntmps184
  go_wp2_with fail
  go_loop [9] (fun i => ∃ k : Nat, k ≤ l ∧ i = .int .i64 k ∧ Hid (allL n (ss.take k) = true)) (fun i => l - (intOf i).toNat)
  case atStart => exact ⟨0, by omega, rfl, Lib.hid (by simp [allL])⟩
  case round =>
    obtain ⟨k, hk, rfl, HN⟩ := hrel
    by_cases hlt : k < l
    · obtain ⟨b, off, rfl, hb, hc⟩ := HT.out.2.2 (by omega)
      have c1 := hc k hlt
      have hm := HT.out.2.1 k
      have HS := Lib.hid (allL_snoc n ss k (by rw [hlen.out]; exact hlt))
      have HNO := Lib.hid (allL_not n ss k (by rw [hlen.out]; exact hlt))
      generalize ss.getD k ByteArray.empty = s at *
      unfold maxLen at hm
      clear hc
      by_cases hz : (s.size : Int) = n
      · have t : ((s.size : Int) != n) = false := by simpa using hz
        have HZ := Lib.hid hz
        clear hz
        go_wp2
        go_round
        case rel => exact ⟨k + 1, by omega, by go_num, Lib.hid (by rw [HS.out, HN.out, HZ.out]; simp)⟩
        case measure => simp [intOf]; omega
      · have t : ((s.size : Int) != n) = true := by simpa using hz
        go_wp2
        go_ret
        exact ⟨by rw [HNO.out hz]; rfl, rfl⟩
    · obtain rfl : k = l := by omega
      have HE := Lib.hid (show allL n ss = true by have := HN.out; rwa [List.take_of_length_le (by rw [hlen.out]; omega)] at this)
      go_wp2
      go_ret
      exact ⟨by rw [HE.out]; rfl, rfl⟩
def mixL (l t : List UInt8) (j : Nat) : List UInt8 := (List.range l.length).map fun i => if i < j then l.getD i 0 ^^^ t.getD i 0 else l.getD i 0
def bxL (l t : List UInt8) : List UInt8 := (List.range l.length).map fun i => l.getD i 0 ^^^ t.getD i 0
theorem mixL_length (l t : List UInt8) (j : Nat) : (mixL l t j).length = l.length := by simp [mixL]
theorem xorL_length (l t : List UInt8) : (bxL l t).length = l.length := by simp [bxL]
theorem mixL_zero (l t : List UInt8) : mixL l t 0 = l := by
  apply List.ext_getElem
  · simp [mixL]
  · intro i h1 h2; simp [mixL, List.getD, h2]
theorem mixL_full (l t : List UInt8) (n : Nat) (h : l.length = n) : mixL l t n = bxL l t := by
  subst h
  apply List.ext_getElem
  · simp [mixL, bxL]
  · intro i h1 h2
    have : i < l.length := by simpa [bxL] using h2
    simp [mixL, bxL, this]
theorem mixL_get (l t : List UInt8) (j : Nat) (h : j < l.length) : (mixL l t j).getD j 0 = l.getD j 0 := by
  simp [mixL, List.getD, h]
theorem mixL_set (l t : List UInt8) (j : Nat) (h : j < l.length) : (mixL l t j).set j (l.getD j 0 ^^^ t.getD j 0) = mixL l t (j + 1) := by
  apply List.ext_getElem
  · simp [mixL]
  · intro i h1 h2
    have hi : i < l.length := by simpa [mixL] using h2
    rw [List.getElem_set]
    by_cases e : j = i
    · subst e; simp [mixL, List.getD, h]
    · rw [if_neg e]
      have e2 : (i < j + 1) = (i < j) := by apply propext; omega
      simp [mixL, e2]
theorem xor_u8 (a b : UInt8) : bits BinOp.xor IntKind.u8 (a.toNat : Int) (b.toNat : Int) = ((a ^^^ b).toNat : Int) := by
  have ha := a.toNat_lt
  have hb := b.toNat_lt
  rw [u8_xor_nat _ _ (by omega) (by omega), UInt8.toNat_xor]
theorem put_any (g n : Nat) (l : List UInt8) (s : ByteArray) (w : World) (hg : Box w g 5 (bytesA l)) (hl : l.length = n) (hs : s.size = n) (hn : n ≤ 1000000) :
    Calls Tryz.prog 186 #[.slice (some ⟨g, 0, none⟩) n n, .string s] w fun e w' => e = .returned (.tuple #[]) ∧ Box w' g 5 (bytesA (bxL l s.data.toList)) ∧ Below g w w' := by
  have HL := Lib.hid hl
  have HS := Lib.hid hs
  have HG := Lib.hid hg
  clear hl hs hg
  go_enter Tryz.func186, Tryz.ntmps186
  go_wp2_with fail
  go_loopw [7] (fun i wr => ∃ j : Nat, j ≤ n ∧ i = .int .i64 j ∧ Box wr g 5 (bytesA (mixL l s.data.toList j)) ∧ Below g w wr)
    (fun i _ => n - (intOf i).toNat)
  case atStart => exact ⟨0, by omega, rfl, by rw [mixL_zero]; exact HG.out, Below.refl _ _⟩
  case round =>
    obtain ⟨j, hj, rfl, R, HB⟩ := hrel
    have R := Lib.hid R
    have HB := Lib.hid HB
    by_cases hlt : j < n
    · have hlj : j < l.length := by rw [HL.out]; exact hlt
      have hsj : j < s.size := by rw [HS.out]; exact hlt
      have cg : wr.cell? ⟨g, j, none⟩ = some (.int .u8 ((l.getD j 0).toNat : Int)) := by
        rw [R.out.cell j, bytesA_get _ j (by rw [mixL_length]; exact hlj), mixL_get l _ j hlj]
      have fg := R.out.free j
      have HE := Lib.hid (show s.data.toList.getD j 0 = s[j] by simp [List.getD, hsj]; rfl)
      have HX := Lib.hid (xor_u8 (l.getD j 0) s[j])
      have HLJ := Lib.hid hlj
      clear hlj
      obtain ⟨a, ha⟩ : ∃ a, a = l.getD j 0 := ⟨_, rfl⟩
      obtain ⟨b, hb⟩ : ∃ b, b = s[j] := ⟨_, rfl⟩
      rw [← ha] at cg HX
      have HA := Lib.hid ha
      have t := xor_u8 a s[j]
      clear ha hb b
      go_wp2
      go_region
      all_goals (
        have P1 := Lib.hid ((R.out.put j (.int .u8 ((a ^^^ s[j]).toNat : Int))).drew)
        have e : (bytesA (mixL l s.data.toList j)).setIfInBounds j (.int .u8 ((a ^^^ s[j]).toNat : Int)) = bytesA (mixL l s.data.toList (j + 1)) := by
          rw [bytesA_set, HA.out, ← HE.out, mixL_set l _ j HLJ.out]
        have E1 := Lib.hid e
        clear e
        have P2 := Lib.hid ((HB.out.setCell (p := ⟨g, j, none⟩) (Nat.le_refl _) (.int .u8 ((a ^^^ s[j]).toNat : Int))).drew)
        go_wp2
        go_roundw
        case rel => exact ⟨j + 1, by omega, by go_num, by have := P1.out; rw [E1.out] at this; simpa only [UInt8.toNat_xor] using this, by simpa only [UInt8.toNat_xor] using P2.out⟩
        case measure => simp [intOf]; omega)
    · obtain rfl : j = n := by omega
      go_wp2
      go_end0
      exact ⟨rfl, by have := R.out; rwa [mixL_full l _ _ HL.out] at this, HB.out⟩
end
section
/- How a slice of texts that came in is opened. -/
set_option linter.unusedVariables false
set_option linter.unusedSimpArgs false
open Go.RowKit Go.Joins Go.ChangeShapes Go.WideShapes
end
section
/- Layer 22: events, calls and spans as values and cells; how events that came in are opened; two calls compared. -/
set_option linter.unusedVariables false
set_option linter.unusedSimpArgs false
open Go.RowKit Go.Joins Go.ChangeShapes Go.WideShapes
set_option maxRecDepth 100000
/-- A call: what, object, K, size, cap, the symbol's number and its data. -/
abbrev CallR := Int × Nat × Int × Int × Int × Nat × ByteArray
/-- A reply: why, n, and the slice of blocks. -/
structure RepR where
  why : Int
  n : Int
  A : Option Addr
  l : Nat
  c : Nat
structure EvR where
  c : Int
  b : Int
  n : Int
  call : CallR
  rep : RepR
instance : Inhabited RepR := ⟨⟨0, 0, none, 0, 0⟩⟩
instance : Inhabited EvR := ⟨⟨0, 0, 0, default, default⟩⟩
abbrev callL (c : CallR) : List Value := [.int .i64 c.1, .int .u64 (c.2.1 : Nat), .int .i64 c.2.2.1, .int .i64 c.2.2.2.1, .int .i64 c.2.2.2.2.1, .int .u64 (c.2.2.2.2.2.1 : Nat), .string c.2.2.2.2.2.2]
abbrev repL (r : RepR) : List Value := [.int .i64 r.why, .int .i64 r.n, .slice r.A r.l r.c]
def encE (e : EvR) : List Value := .int .i64 e.c :: .int .i64 e.b :: .int .i64 e.n :: (callL e.call ++ repL e.rep)
/-- A reply whose blocks read as texts. -/
def RepOk (w : World) (r : RepR) : Prop := ∃ ss, Texts w r.A r.l ss ∧ r.l ≤ r.c ∧ r.c ≤ maxLen
theorem RepOk.below {w w' : World} {r : RepR} (h : RepOk w r) (hb : Below w.heap.size w w') : RepOk w' r := by
  obtain ⟨ss, h1, h2, h3⟩ := h
  exact ⟨ss, h1.below hb, h2, h3⟩
theorem RepOk.zero (w : World) : RepOk w default := ⟨[], Texts.nil _ _, Nat.le_refl _, Nat.zero_le _⟩
/-- A slice of events. -/
structure Evs (w : World) (A : Option Addr) (l : Nat) (xs : List EvR) : Prop where
  recs : Recs encE 13 w A l xs
  reps : ∀ j, RepOk w (xs.getD j default).rep
theorem Evs.below {w w' : World} {A : Option Addr} {l : Nat} {xs : List EvR} (h : Evs w A l xs) (hb : Below w.heap.size w w') : Evs w' A l xs := ⟨h.recs.below hb, fun j => (h.reps j).below hb⟩
theorem Evs.take {w : World} {A : Option Addr} {l : Nat} {xs : List EvR} (h : Evs w A l xs) (k : Nat) (hk : k ≤ l) : Evs w A k (xs.take k) := by
  refine ⟨h.recs.take k hk, fun j => ?_⟩
  by_cases hj : j < k
  · have e : (xs.take k).getD j default = xs.getD j default := by simp [List.getD, List.getElem?_take_of_lt hj]
    rw [e]; exact h.reps j
  · have e : (xs.take k).getD j default = default := by simp [List.getD, List.getElem?_take, hj]
    rw [e]; exact RepOk.zero w
theorem Evs.len {w : World} {A : Option Addr} {l : Nat} {xs : List EvR} (h : Evs w A l xs) : xs.length = l := h.recs.1
theorem u64_natH {a : Int} (h : (Lit.int .u64 a).wf = true) : ∃ n : Nat, a = (n : Int) ∧ n < 18446744073709551616 := by
  have := bounds_u64 h
  exact ⟨a.toNat, by omega, by omega⟩
section
variable {H : Type} {enc : TypeId × Value → H} {W : World} {fuel : Nat} {cs : List Value} {x : DataW H × List MemPlace}
end
end
section
/- Layer 18: objects, calls and replies as data and as values; how objects came in. -/
set_option linter.unusedVariables false
set_option linter.unusedSimpArgs false
open Go.RowKit Go.Joins Go.ChangeShapes Go.WideShapes
set_option maxRecDepth 100000
/-- A store: K, size, cap, symbols. -/
abbrev StoR := Int × Int × Int × List SymR
/-- An object: its number, its store, whether it is closed. -/
abbrev ObR := Nat × StoR × Int
/-- A reply: why, a number, blocks. -/
abbrev ReplyR := Int × Int × List ByteArray
abbrev obA (o : ObR) (A : Option Addr) (d : Nat) : Array Value := #[.int .u64 (o.1 : Nat), .int .i64 o.2.1.1, .int .i64 o.2.1.2.1, .int .i64 o.2.1.2.2.1, .slice A o.2.1.2.2.2.length d, .int .i64 o.2.2]
def ObAt (w : World) (v : Value) (o : ObR) : Prop := ∃ A d, v = .agg (obA o A d) ∧ SliceOk A o.2.1.2.2.2.length d ∧ Syms w A o.2.1.2.2.2.length o.2.1.2.2.2
theorem ObAt.below {w w' : World} {v : Value} {o : ObR} (h : ObAt w v o) (hb : Below w.heap.size w w') : ObAt w' v o := by
  obtain ⟨A, d, h1, h2, h3⟩ := h
  exact ⟨A, d, h1, h2, Recs.below h3 hb⟩
def RpAt (w : World) (v : Value) (r : ReplyR) : Prop := ∃ A c, v = .agg #[.int .i64 r.1, .int .i64 r.2.1, .slice A r.2.2.length c] ∧ Texts w A r.2.2.length r.2.2 ∧ r.2.2.length ≤ c ∧ c ≤ maxLen
theorem RpAt.below {w w' : World} {v : Value} {r : ReplyR} (h : RpAt w v r) (hb : Below w.heap.size w w') : RpAt w' v r := by
  obtain ⟨A, c, h1, h2, h3⟩ := h
  exact ⟨A, c, h1, h2.below hb, h3⟩
theorem RpAt.nil (w : World) (why n : Int) : RpAt w (.agg #[.int .i64 why, .int .i64 n, .slice none 0 0]) (why, n, []) := ⟨none, 0, rfl, Texts.nil _ _, Nat.le_refl _, Nat.zero_le _⟩
def rightO (o : ObR) : Bool := storeB o.2.1.1 o.2.1.2.1 o.2.1.2.2.1 o.2.1.2.2.2 && (decide (o.2.2 = 0) || decide (o.2.2 = 1))
instance decSto : DecidableEq StoR := inferInstanceAs (DecidableEq (Int × Int × Int × List (Nat × ByteArray)))
instance decOb : DecidableEq ObR := inferInstanceAs (DecidableEq (Nat × (Int × Int × Int × List (Nat × ByteArray)) × Int))
def likeO (a b : ObR) : Bool := decide (a = b)
theorem likeB_eq (k s c : Int) (xs : List SymR) (k2 s2 c2 : Int) (ys : List SymR) : likeB k s c xs k2 s2 c2 ys = decide ((k, s, c, xs) = ((k2, s2, c2, ys) : StoR)) := by
  unfold likeB
  rw [Bool.eq_iff_iff]
  simp only [Bool.and_eq_true, beq_iff_eq, decide_eq_true_eq, Prod.mk.injEq]
  constructor
  · rintro ⟨⟨⟨h1, h2⟩, h3⟩, h4⟩; exact ⟨h1, h2, h3, h4⟩
  · rintro ⟨h1, h2, h3, h4⟩; exact ⟨⟨⟨h1, h2⟩, h3⟩, h4⟩
def obZ : ObR := (0, (0, 0, 0, []), 0)
/-- What a call opens. -/
def openO (c : CallR) : ObR × ReplyR :=
  if c.1 = 0 then (if sizesB c.2.2.1 c.2.2.2.1 c.2.2.2.2.1 then ((c.2.1, (c.2.2.1, c.2.2.2.1, c.2.2.2.2.1, []), 0), (0, c.2.2.1, [])) else (obZ, (2, 0, []))) else (obZ, (1, 0, []))
theorem cellsObO : Tryz.prog.cellsOf 27 = 6 := by kernel_rfl
theorem array6O {α : Type} {cs : Array α} (h : cs.size = 6) : ∃ a b c d e f, cs = #[a, b, c, d, e, f] := by
  obtain ⟨l⟩ := cs
  match l, h with
  | [a, b, c, d, e, f], _ => exact ⟨a, b, c, d, e, f, rfl⟩
theorem array7O {α : Type} {cs : Array α} (h : cs.size = 7) : ∃ a b c d e f g, cs = #[a, b, c, d, e, f, g] := by
  obtain ⟨l⟩ := cs
  match l, h with
  | [a, b, c, d, e, f, g], _ => exact ⟨a, b, c, d, e, f, g, rfl⟩
/-- The numbers of symbols are of 64 bits. -/
def Ids (xs : List SymR) : Prop := ∀ j, (xs.getD j default).1 < 18446744073709551616
theorem open_obL {H : Type} {enc : TypeId × Value → H} {W : World} {fuel : Nat} {cs : List Value} {x : DataW H × List MemPlace} (hl : cs.length = 6)
    (h : DataW.trod enc Tryz.prog W 0 (fun _ => true) true fuel 27 cs = some x) : ∃ (o : ObR) (A : Option Addr) (d : Nat), cs = (obA o A d).toList ∧ SliceOk A o.2.1.2.2.2.length d ∧ Syms W A o.2.1.2.2.2.length o.2.1.2.2.2 ∧ Ids o.2.1.2.2.2 ∧ o.1 < 18446744073709551616 := by
  match cs, hl with
  | [v0, v1, v2, v3, v4, v5], _ =>
  obtain ⟨xs, n, -, -, -, hxl, hf⟩ := DataW.trod_struct Tryz.underlying27 h
  match xs, hxl with
  | [y0, y1, y2], _ =>
  have g0 := hf 0 _ rfl
  have g1 := hf 1 _ rfl
  have g2 := hf 2 _ rfl
  have ei : Tryz.prog.cellsOf 3 = 1 := by kernel_rfl
  have eu : Tryz.prog.cellsOf 22 = 1 := by kernel_rfl
  have es : Tryz.prog.cellsOf 25 = 4 := by kernel_rfl
  have esl : Tryz.prog.cellsOf 23 = 1 := by kernel_rfl
  simp [ei, eu, es] at g0 g1 g2
  obtain ⟨a0, e0, -, w0⟩ := DataW.trod_int Tryz.underlying22 g0
  obtain ⟨a2, e2, -, w2⟩ := DataW.trod_int Tryz.underlying3 g2
  obtain ⟨z0, z1, z2, z3, n', hx, _, h0, h1, h2, h3⟩ := trod_struct4 Tryz.underlying25 g1
  simp [ei, esl] at h0 h1 h2 h3
  obtain ⟨b0, f0, -, x0⟩ := DataW.trod_int Tryz.underlying3 h0
  obtain ⟨b1, f1, -, x1⟩ := DataW.trod_int Tryz.underlying3 h1
  obtain ⟨b2, f2, -, x2⟩ := DataW.trod_int Tryz.underlying3 h2
  obtain ⟨A, l, c, us, f3, hs, hw, hb⟩ := open_syms h3
  obtain ⟨q, rfl, hq⟩ := u64_nat w0
  simp at e0 e2 f0 f1 f2 f3
  subst e0 e2 f0 f1 f2 f3
  obtain rfl : us.length = l := hw.1
  exact ⟨(q, (b0, b1, b2, us), a2), A, c, rfl, hs, hw, hb, hq⟩
theorem open_object {H : Type} {enc : TypeId × Value → H} {W : World} {r : Reach} {b0 : Nat} {v : Value} {d : DataW H} {p : List MemPlace}
    (hv : Value.okWide Tryz.prog W r b0 27 v) (h : DataW.Trod enc Tryz.prog W 0 (fun _ => true) true 27 v d p) :
    ∃ o : ObR, ObAt W v o ∧ Ids o.2.1.2.2.2 ∧ o.1 < 18446744073709551616 := by
  obtain ⟨cs, rfl, hsz⟩ := okWide_struct Tryz.underlying27 hv
  obtain ⟨c0, c1, c2, c3, c4, c5, rfl⟩ := array6O (hsz.trans cellsObO)
  obtain ⟨fuel, hf⟩ := h
  obtain ⟨o, A, d, e, h1, h2, h3, h4⟩ := open_obL rfl hf
  exact ⟨o, ⟨A, d, congrArg (fun l : List Value => Value.agg l.toArray) e, h1, h2⟩, h3, h4⟩
theorem cellsCaO : Tryz.prog.cellsOf 31 = 7 := by kernel_rfl
abbrev callV (c : CallR) : Value := .agg (callL c).toArray
theorem open_callB {H : Type} {enc : TypeId × Value → H} {W : World} {fuel : Nat} {cs : List Value} {x : DataW H × List MemPlace} (hl : cs.length = 7) (h : DataW.trod enc Tryz.prog W 0 (fun _ => true) true fuel 31 cs = some x) : ∃ c : CallR, cs = callL c ∧ c.2.1 < 18446744073709551616 ∧ c.2.2.2.2.2.1 < 18446744073709551616 ∧ c.2.2.2.2.2.2.size ≤ maxLen := by
  match cs, hl with
  | [v0, v1, v2, v3, v4, v5, v6], _ =>
  obtain ⟨xs, n, -, -, -, hxl, hf⟩ := DataW.trod_struct Tryz.underlying31 h
  match xs, hxl with
  | [y0, y1, y2, y3, y4, y5], _ =>
  have g0 := hf 0 _ rfl
  have g1 := hf 1 _ rfl
  have g2 := hf 2 _ rfl
  have g3 := hf 3 _ rfl
  have g4 := hf 4 _ rfl
  have g5 := hf 5 _ rfl
  have ei : Tryz.prog.cellsOf 3 = 1 := by kernel_rfl
  have eu : Tryz.prog.cellsOf 22 = 1 := by kernel_rfl
  have es : Tryz.prog.cellsOf 29 = 2 := by kernel_rfl
  simp [ei, eu, es] at g0 g1 g2 g3 g4 g5
  obtain ⟨a0, e0, -, w0⟩ := DataW.trod_int Tryz.underlying3 g0
  obtain ⟨a1, e1, -, w1⟩ := DataW.trod_int Tryz.underlying22 g1
  obtain ⟨a2, e2, -, w2⟩ := DataW.trod_int Tryz.underlying3 g2
  obtain ⟨a3, e3, -, w3⟩ := DataW.trod_int Tryz.underlying3 g3
  obtain ⟨a4, e4, -, w4⟩ := DataW.trod_int Tryz.underlying3 g4
  obtain ⟨z0, z1, n', -, -, k0, k1⟩ := trod_struct2 Tryz.underlying29 g5
  simp [eu, show Tryz.prog.cellsOf 9 = 1 by kernel_rfl] at k0 k1
  obtain ⟨a5, e5, -, w5⟩ := DataW.trod_int Tryz.underlying22 k0
  obtain ⟨a6, e6, -, w6⟩ := DataW.trod_string Tryz.underlying9 k1
  obtain ⟨q1, rfl, hq1⟩ := u64_natH w1
  obtain ⟨q5, rfl, hq5⟩ := u64_natH w5
  simp at e0 e1 e2 e3 e4 e5 e6
  subst e0 e1 e2 e3 e4 e5 e6
  exact ⟨(a0, q1, a2, a3, a4, q5, a6), rfl, hq1, hq5, w6⟩
theorem open_call {H : Type} {enc : TypeId × Value → H} {W : World} {r : Reach} {b0 : Nat} {v : Value} {d : DataW H} {p : List MemPlace}
    (hv : Value.okWide Tryz.prog W r b0 31 v) (h : DataW.Trod enc Tryz.prog W 0 (fun _ => true) true 31 v d p) :
    ∃ c : CallR, v = callV c ∧ c.2.1 < 18446744073709551616 ∧ c.2.2.2.2.2.1 < 18446744073709551616 ∧ c.2.2.2.2.2.2.size ≤ maxLen := by
  obtain ⟨cs, rfl, hsz⟩ := okWide_struct Tryz.underlying31 hv
  obtain ⟨c0, c1, c2, c3, c4, c5, c6, rfl⟩ := array7O (hsz.trans cellsCaO)
  obtain ⟨fuel, hf⟩ := h
  obtain ⟨c, e, h1, h2, h3⟩ := open_callB rfl hf
  exact ⟨c, congrArg (fun l : List Value => Value.agg l.toArray) e, h1, h2, h3⟩
end
section
/- Contract of block.Sum. -/
set_option linter.unusedVariables false
set_option linter.unusedSimpArgs false
open Go.RowKit
/-- The xor of all texts, byte by byte, from n bytes 0 on. -/
def sumL (n : Nat) (ss : List ByteArray) : List UInt8 := ss.foldl (fun acc s => bxL acc s.data.toList) (List.replicate n 0)
theorem foldl_xorL_length (ss : List ByteArray) (l : List UInt8) : (ss.foldl (fun acc s => bxL acc s.data.toList) l).length = l.length := by
  induction ss generalizing l with
  | nil => rfl
  | cons s ss ih => rw [List.foldl_cons, ih, xorL_length]
theorem sumL_length (n : Nat) (ss : List ByteArray) : (sumL n ss).length = n := by simp [sumL, foldl_xorL_length]
theorem xorL_zero (n : Nat) (s : ByteArray) (h : s.size = n) : bxL (List.replicate n 0) s.data.toList = s.data.toList := by
  subst h
  apply List.ext_getElem
  · simp [bxL]
  · intro i h1 h2
    have : i < s.size := by simpa using h2
    simp [bxL, List.getD, this, List.getElem?_replicate]
theorem sumL_one (n : Nat) (ss : List ByteArray) (h : 0 < ss.length) (hs : (ss.getD 0 ByteArray.empty).size = n) : sumL n (ss.take 1) = (ss.getD 0 ByteArray.empty).data.toList := by
  cases ss with
  | nil => simp at h
  | cons s r => simp only [List.take_succ_cons, List.take_zero, sumL, List.foldl_cons, List.foldl_nil]; simp at hs; rw [xorL_zero n s hs]; simp
theorem sumL_snoc (n : Nat) (ss : List ByteArray) (j : Nat) (h : j < ss.length) : bxL (sumL n (ss.take j)) (ss.getD j ByteArray.empty).data.toList = sumL n (ss.take (j + 1)) := by
  unfold sumL
  rw [List.take_succ_eq_append_getElem h, List.foldl_append]
  simp [List.getD, h]
theorem allL_at {n : Int} {ss : List ByteArray} (h : allL n ss = true) (j : Nat) (hj : j < ss.length) : ((ss.getD j ByteArray.empty).size : Int) = n := by
  have := List.all_eq_true.1 h (ss[j]) (List.getElem_mem _)
  simpa [List.getD, hj] using this
theorem sum_size (n : Int) (A : Option Addr) (l c : Nat) (h : smb n = false) (w : World) : Calls Tryz.prog 162 #[.int .i64 n, .slice A l c] w fun e w' => e = .returned (.tuple #[.string ⟨#[]⟩, .int .i64 2]) ∧ Below w.heap.size w w' := by
  have H := Lib.hid (sizeMayBe_any n)
  go_enter Tryz.func162, Tryz.ntmps162
  go_wp2_with fail
  refine (H.out _).mono ?_
  rintro e w1 ⟨rfl, rfl⟩
  go_wp2_with fail
  go_ret2
  exact ⟨rfl, Below.refl _ _⟩
theorem sum_have (n : Int) (A : Option Addr) (l c : Nat) (ss : List ByteArray) (w : World) (ht : Texts w A l ss) (hl : l ≤ maxLen) (h : smb n = true) (h2 : allL n ss = false) : Calls Tryz.prog 162 #[.int .i64 n, .slice A l c] w fun e w' => e = .returned (.tuple #[.string ⟨#[]⟩, .int .i64 2]) ∧ Below w.heap.size w w' := by
  have H := Lib.hid (sizeMayBe_any n)
  have H2 := Lib.hid (allHave_any n A l c ss w ht hl)
  clear ht
  go_enter Tryz.func162, Tryz.ntmps162
  go_wp2_with fail
  refine (H.out _).mono ?_
  rintro e w1 ⟨rfl, rfl⟩
  go_wp2_with fail
  refine H2.out.mono ?_
  rintro e w1 ⟨rfl, rfl⟩
  go_wp2_with fail
  go_ret2
  exact ⟨rfl, Below.refl _ _⟩
theorem sum_many (n : Int) (A : Option Addr) (l c : Nat) (ss : List ByteArray) (w : World) (ht : Texts w A l ss) (hl : l ≤ maxLen) (h : smb n = true) (h2 : allL n ss = true) (h3 : 64 < l) : Calls Tryz.prog 162 #[.int .i64 n, .slice A l c] w fun e w' => e = .returned (.tuple #[.string ⟨#[]⟩, .int .i64 2]) ∧ Below w.heap.size w w' := by
  have H := Lib.hid (sizeMayBe_any n)
  have H2 := Lib.hid (allHave_any n A l c ss w ht hl)
  clear ht
  unfold maxLen at hl
  have g : (64 : Int) < l := by omega
  go_enter Tryz.func162, Tryz.ntmps162
  go_wp2_with fail
  refine (H.out _).mono ?_
  rintro e w1 ⟨rfl, rfl⟩
  go_wp2_with fail
  refine H2.out.mono ?_
  rintro e w1 ⟨rfl, rfl⟩
  go_wp2_with fail
  go_ret2
  exact ⟨rfl, Below.refl _ _⟩
theorem sum_none (n : Nat) (A : Option Addr) (c : Nat) (w : World) (h : smb n = true) : Calls Tryz.prog 162 #[.int .i64 n, .slice A 0 c] w fun e w' => e = .returned (.tuple #[.string ⟨(sumL n []).toArray⟩, .int .i64 0]) ∧ Below w.heap.size w w' := by
  have H := Lib.hid (sizeMayBe_any n)
  have H2 := Lib.hid (allHave_any n A 0 c [] w (Texts.nil w A) (Nat.zero_le _))
  have t : allL n [] = true := rfl
  go_enter Tryz.func162, Tryz.ntmps162
  go_wp2_with fail
  refine (H.out _).mono ?_
  rintro e w1 ⟨rfl, rfl⟩
  go_wp2_with fail
  refine H2.out.mono ?_
  rintro e w1 ⟨rfl, rfl⟩
  go_wp2_with fail
  refine (zero_yes n h _).mono ?_
  rintro e w1 ⟨rfl, hb⟩
  go_wp2_with fail
  go_ret2
  exact ⟨rfl, hb⟩
theorem copyB {w : World} {g n : Nat} {t : TypeId} {l : List UInt8} {s : ByteArray} (h : Box w g t (bytesA l)) (hl : l.length = n) (hs : s.size = n) :
    (Builtin.copy_ #[147, 9] 3 #[.slice (some ⟨g, 0, none⟩) n n, .string s]).run Tryz.prog w = .ok (goInt s.size) (w.setRow g (bytesA s.data.toList)) := by
  have hsz : (bytesA l).size = n := by simp [bytesA, hl]
  have hi : (Tryz.prog.info? 5).map (·.size) = some 1 := by kernel_rfl
  have hcp := Lib.run_copy_row_string (P := Tryz.prog) w 147 9 3 5 g 0 n n s (bytesA l) t Tryz.underlying147 hi h (by omega) (by omega)
  rw [hcp]
  have : ((bytesA l).toList.take 0 ++ Lib.byteCells s.data.toList ++ (bytesA l).toList.drop (0 + s.size)).toArray = bytesA s.data.toList := by
    rw [List.take_zero, List.nil_append, List.drop_of_length_le (by rw [Array.length_toList]; omega), List.append_nil]
    rfl
  rw [this]
set_option maxRecDepth 100000 in
set_option maxHeartbeats 1000000 in
theorem sum_some (n : Nat) (A : Option Addr) (l c : Nat) (ss : List ByteArray) (w : World) (ht : Texts w A l ss) (h : smb n = true) (h2 : allL n ss = true) (h3 : l ≤ 64) (h0 : 0 < l) (hlc : l ≤ c) (hcm : c ≤ maxLen) :
    Calls Tryz.prog 162 #[.int .i64 n, .slice A l c] w fun e w' => e = .returned (.tuple #[.string ⟨(sumL n ss).toArray⟩, .int .i64 0]) ∧ Below w.heap.size w w' := by
  have H := Lib.hid (sizeMayBe_any n)
  have H2 := Lib.hid (allHave_any n A l c ss w ht (by unfold maxLen; omega))
  have HL := Lib.hid ht.1
  have HA := Lib.hid h2
  have hn := (smb_iff n).1 h
  obtain ⟨b, off, rfl, hb, hc⟩ := ht.2.2 h0
  have HC := Lib.hid hc
  have hs0 : (ss.getD 0 ByteArray.empty).size = n := by have := allL_at h2 0 (by rw [ht.1]; exact h0); omega
  have c0 : (w.alloc (.cells (bytesA (List.replicate n 0)) 5)).cell? ⟨b, off, none⟩ = some (.string (ss.getD 0 ByteArray.empty)) :=
    (((Below.refl w.heap.size w).alloc (Nat.le_refl _) _).cell (p := ⟨b, off, none⟩) hb).trans (hc 0 h0)
  have m := makeB_any n (by omega) w
  have bx := Box.new w 5 (bytesA (List.replicate n 0))
  have cp := copyB bx (n := n) (s := ss.getD 0 ByteArray.empty) (by simp) hs0
  have HY := Lib.hid (show Box ((w.alloc (.cells (bytesA (List.replicate n 0)) 5)).setRow w.heap.size (bytesA (ss.getD 0 ByteArray.empty).data.toList)) w.heap.size 5 (bytesA (sumL n (ss.take 1))) from by
    rw [sumL_one n ss (by rw [ht.1]; exact h0) hs0]; exact setRow_heap _ _ _ _ _ _ bx)
  have HB := Lib.hid (below_setRow ((Below.refl w.heap.size w).alloc (Nat.le_refl _) (.cells (bytesA (List.replicate n 0)) 5)) (Nat.le_refl _) (bytesA (ss.getD 0 ByteArray.empty).data.toList))
  generalize ss.getD 0 ByteArray.empty = s0 at *
  clear ht hc hs0 bx
  unfold maxLen at hcm
  have g1 : ¬ (64 : Int) < l := by omega
  have g2 : ¬ (l : Int) = 0 := by omega
  have g3 : ((l : Int) == 0) = false := by simpa using (show ¬ l = 0 by omega)
  have g4 : (1 : Int) ≤ l := by omega
  have g5 : (0 : Int) < l := by omega
  have g6 : (l : Int) ≤ c := by omega
  by_cases hc1 : c = 1
  · subst hc1
    obtain rfl : l = 1 := by omega
    go_enter Tryz.func162, Tryz.ntmps162
    go_wp2_with fail
    refine (H.out _).mono ?_
    rintro e w1 ⟨rfl, rfl⟩
    go_wp2_with fail
    refine H2.out.mono ?_
    rintro e w1 ⟨rfl, rfl⟩
    go_wp2_with fail
    generalize (w.alloc (.cells (bytesA (List.replicate n 0)) 5)).setRow w.heap.size (bytesA s0.data.toList) = W at *
    clear c0 m cp H H2
    go_loopw [40] (fun i wr => ∃ j : Nat, j ≤ 0 ∧ i = .int .i64 j ∧ Box wr w.heap.size 5 (bytesA (sumL n (ss.take (j + 1)))) ∧ Below w.heap.size w wr)
      (fun i _ => 0 - (intOf i).toNat)
    case atStart => exact ⟨0, by omega, rfl, HY.out, HB.out⟩
    case round =>
      obtain ⟨j, hj, rfl, R, HB⟩ := hrel
      have R := Lib.hid R
      have HB := Lib.hid HB
      obtain rfl : j = 0 := by omega
      have cv := backB R.out (n := n) (sumL_length _ _)
      have HF := Lib.hid (show ss.take (0 + 1) = ss from List.take_of_length_le (by rw [HL.out]; omega))
      go_wp2_with fail
      go_ret2
      exact ⟨by rw [HF.out]; rfl, HB.out⟩
  · have g7 : ¬ c = 1 := hc1
    go_enter Tryz.func162, Tryz.ntmps162
    go_wp2_with fail
    refine (H.out _).mono ?_
    rintro e w1 ⟨rfl, rfl⟩
    go_wp2_with fail
    refine H2.out.mono ?_
    rintro e w1 ⟨rfl, rfl⟩
    go_wp2_with fail
    generalize (w.alloc (.cells (bytesA (List.replicate n 0)) 5)).setRow w.heap.size (bytesA s0.data.toList) = W at *
    clear c0 m cp H H2
    go_loopw [40] (fun i wr => ∃ j : Nat, j ≤ l - 1 ∧ i = .int .i64 j ∧ Box wr w.heap.size 5 (bytesA (sumL n (ss.take (j + 1)))) ∧ Below w.heap.size w wr)
      (fun i _ => l - 1 - (intOf i).toNat)
    case atStart => exact ⟨0, by omega, rfl, HY.out, HB.out⟩
    case round =>
      obtain ⟨j, hj, rfl, R, HB⟩ := hrel
      have R := Lib.hid R
      have HB := Lib.hid HB
      by_cases hlt : j < l - 1
      · have c1 : wr.cell? ⟨b, off + 1 + j, none⟩ = some (.string (ss.getD (j + 1) ByteArray.empty)) :=
          (HB.out.cell (p := ⟨b, off + 1 + j, none⟩) hb).trans (by have := HC.out (j + 1) (by omega); rwa [show off + (j + 1) = off + 1 + j by omega] at this)
        have hz : (ss.getD (j + 1) ByteArray.empty).size = n := by have := allL_at HA.out (j + 1) (by rw [HL.out]; omega); omega
        have HZ := Lib.hid hz
        have HS := Lib.hid (sumL_snoc n ss (j + 1) (by rw [HL.out]; omega))
        clear hz
        generalize ss.getD (j + 1) ByteArray.empty = s at *
        have q1 : (j : Int) < ((l - 1 : Nat) : Int) := by omega
        go_wp2_with fail
        refine (put_any w.heap.size n _ s _ R.out (sumL_length _ _) HZ.out (by omega)).mono ?_
        rintro e w2 ⟨rfl, R2, hb2⟩
        have R2 := Lib.hid R2
        have HB2 := Lib.hid (HB.out.trans hb2)
        clear hb2
        go_wp2_with fail
        go_roundw
        case rel => exact ⟨j + 1, by omega, by go_num, by have := R2.out; rw [HS.out] at this; exact this, HB2.out⟩
        case measure => simp [intOf]; omega
      · obtain rfl : j = l - 1 := by omega
        have cv := backB R.out (n := n) (sumL_length _ _)
        have HF := Lib.hid (show ss.take (l - 1 + 1) = ss from List.take_of_length_le (by rw [HL.out]; omega))
        go_wp2_with fail
        go_ret2
        exact ⟨by rw [HF.out]; rfl, HB.out⟩
end
section
/- Contracts of block.Sum (all cases), block.Xor, the law's alive. -/
set_option linter.unusedVariables false
set_option linter.unusedSimpArgs false
open Go.RowKit
/-- May texts be summed? -/
def okS (n : Int) (ss : List ByteArray) : Bool := smb n && allL n ss && decide (ss.length ≤ 64)
def sumS (n : Int) (ss : List ByteArray) : ByteArray := if okS n ss then ⟨(sumL n.toNat ss).toArray⟩ else ⟨#[]⟩
def sumE (n : Int) (ss : List ByteArray) : Int := if okS n ss then 0 else 2
theorem sum_any (n : Int) (A : Option Addr) (l c : Nat) (ss : List ByteArray) (w : World) (ht : Texts w A l ss) (hlc : l ≤ c) (hcm : c ≤ maxLen) :
    Calls Tryz.prog 162 #[.int .i64 n, .slice A l c] w fun e w' => e = .returned (.tuple #[.string (sumS n ss), .int .i64 (sumE n ss)]) ∧ Below w.heap.size w w' := by
  have hlen := ht.1
  cases h : smb n with
  | false =>
    have e : okS n ss = false := by simp [okS, h]
    unfold sumS sumE; rw [e]
    exact sum_size n A l c h w
  | true =>
    cases h2 : allL n ss with
    | false =>
      have e : okS n ss = false := by simp [okS, h2]
      unfold sumS sumE; rw [e]
      exact sum_have n A l c ss w ht (by omega) h h2
    | true =>
      by_cases h3 : l ≤ 64
      · have e : okS n ss = true := by simp [okS, h, h2, hlen, h3]
        unfold sumS sumE; rw [e]
        obtain ⟨k, rfl⟩ := Int.eq_ofNat_of_zero_le ((smb_iff n).1 h).1
        by_cases h0 : l = 0
        · subst h0
          obtain rfl : ss = [] := List.length_eq_zero_iff.1 hlen
          exact sum_none k A c w h
        · exact sum_some k A l c ss w ht h h2 h3 (by omega) hlc hcm
      · have e : okS n ss = false := by simp [okS, hlen, h3]
        unfold sumS sumE; rw [e]
        exact sum_many n A l c ss w ht (by omega) h h2 (by omega)
theorem pair_texts (w : World) (t : TypeId) (a b : ByteArray) (ha : a.size ≤ maxLen) (hb : b.size ≤ maxLen) : Texts (w.alloc (.cells #[.string a, .string b] t)) (some ⟨w.heap.size, 0, none⟩) 2 [a, b] := by
  have bx := Box.new w t #[.string a, .string b]
  refine ⟨rfl, fun j => ?_, fun _ => ⟨w.heap.size, 0, rfl, by simp, fun j hj => ?_⟩⟩
  · match j with
    | 0 => exact ha
    | 1 => exact hb
    | j + 2 => simp [List.getD, maxLen]
  · rw [Nat.zero_add, bx.cell j]
    match j, hj with
    | 0, _ => rfl
    | 1, _ => rfl
theorem bxor_any (a b : ByteArray) (ha : a.size ≤ maxLen) (hb : b.size ≤ maxLen) (w : World) :
    Calls Tryz.prog 188 #[.string a, .string b] w fun e w' => e = .returned (.tuple #[.string (sumS a.size [a, b]), .int .i64 (sumE a.size [a, b])]) ∧ Below w.heap.size w w' := by
  have HT := Lib.hid (pair_texts w 9 a b ha hb)
  unfold maxLen at ha hb
  go_enter Tryz.func188, Tryz.ntmps188
  go_wp2_with fail
  refine (sum_any a.size _ 2 2 [a, b] _ HT.out (Nat.le_refl _) (by unfold maxLen; omega)).mono ?_
  rintro e w1 ⟨rfl, hb⟩
  have HB := Lib.hid (chain ((Below.refl w.heap.size w).alloc (Nat.le_refl _) (.cells #[.string a, .string b] 9)) hb)
  clear hb
  go_wp2_with fail
  go_ret2
  exact ⟨rfl, HB.out⟩
end
section
/- Two boxes of rows, stored anew one after the other. No program. -/
set_option linter.unusedVariables false
set_option linter.unusedSimpArgs false
open Go.RowKit
theorem Ints.drew {w : World} {A : Option Addr} {len : Nat} {zs : List Int} (h : Ints w A len zs) : Ints w.drew A len zs := h
theorem Ints.take {w : World} {A : Option Addr} {len : Nat} {zs : List Int} (h : Ints w A len zs) (k : Nat) (hk : k ≤ len) : Ints w A k (zs.take k) := by
  refine ⟨by simp [h.1]; omega, fun j => ?_, fun hp => ?_⟩
  · by_cases hj : j < k
    · have := h.2.1 j
      simpa [List.getD, List.getElem?_take, hj] using this
    · simp [List.getD, List.getElem?_take, hj]
  · obtain ⟨b, off, rfl, hlt, hc⟩ := h.2.2 (by omega)
    refine ⟨b, off, rfl, hlt, fun j hj => ?_⟩
    rw [hc j (by omega)]
    simp [List.getD, List.getElem?_take, hj]
theorem Ints.low {w : World} {A : Option Addr} {len : Nat} {zs : List Int} (h : Ints w A len zs) : 0 < len → ∀ p o, A = some ⟨p, o, none⟩ → p < w.heap.size := by
  intro hp p o hA
  obtain ⟨p', o', hA', hlt, _⟩ := h.2.2 hp
  rw [hA] at hA'
  injection hA' with hA'
  injection hA' with e1 e2
  omega
end
section
/- Contracts of layer 2's reference: Why, Ones. -/
set_option linter.unusedVariables false
set_option linter.unusedSimpArgs false
open Go.RowKit
end
section
/- Contracts of the reference's words, Bit and Right. -/
set_option linter.unusedVariables false
set_option linter.unusedSimpArgs false
open Go.RowKit
theorem refWords_any (n : Nat) (h : n ≤ 1000000) (w : World) : Calls Tryz.prog 141 #[.int .i64 n] w fun e w' => e = .returned (.int .i64 (nw n)) ∧ w = w' := by
  go_enter Tryz.func141, Tryz.ntmps141
  go_wp2
  go_ret
  exact ⟨congrArg (fun z => Ending.returned (.int .i64 z)) (by unfold nw; omega), rfl⟩
def bitAt (us : List Nat) (i : Nat) : Nat := us.getD (i / 64) 0 / 2 ^ (i % 64) % 2
theorem bit_any (n : Int) (A : Option Addr) (l c i : Nat) (us : List Nat) (w : World) (hu : Words w A l us) (hi : i < 64 * l) (hl : l ≤ 1000000) :
    Calls Tryz.prog 120 #[.agg #[.int .i64 n, .slice A l c], .int .i64 i] w fun e w' => e = .returned (.int .i64 (bitAt us i : Nat)) ∧ Below w.heap.size w w' := by
  obtain ⟨b, o, rfl, hlt, hc⟩ := hu.2.2 (by omega)
  have c1 := hc (i / 64) (by omega)
  have hx := hu.2.1 (i / 64)
  have HV : Hid ((((us.getD (i / 64) 0 : Nat) : Int) / 2 ^ (i % 64)) % 2 = ((bitAt us i : Nat) : Int)) := by
    show _ = _
    unfold bitAt
    have e : ((us.getD (i / 64) 0 : Nat) : Int) / 2 ^ (i % 64) = ((us.getD (i / 64) 0 / 2 ^ (i % 64) : Nat) : Int) := by simp [Int.natCast_ediv]
    rw [e]; omega
  generalize us.getD (i / 64) 0 = x at *
  have hle : (x : Int) / 2 ^ (i % 64) ≤ x := by
    have e : (x : Int) / 2 ^ (i % 64) = ((x / 2 ^ (i % 64) : Nat) : Int) := by simp [Int.natCast_ediv]
    rw [e]
    have := Nat.div_le_self x (2 ^ (i % 64))
    omega
  have hge : 0 ≤ (x : Int) / 2 ^ (i % 64) := by
    have e : (x : Int) / 2 ^ (i % 64) = ((x / 2 ^ (i % 64) : Nat) : Int) := by simp [Int.natCast_ediv]
    rw [e]; exact Int.natCast_nonneg _
  clear hc hu
  go_enter Tryz.func120, Tryz.ntmps120
  go_wp2
  go_ret
  exact ⟨congrArg (fun z => Ending.returned (.int .i64 z)) HV.out, (Below.refl _ _).alloc (Nat.le_refl _) _⟩
theorem rightB_core (n l : Nat) (us : List Nat) (h : lmb n = true) (hl : us.length = l) (hn : l = nw n) : rightB n us = (n % 64 == 0 || us.getD (l - 1) 0 / 2 ^ (n % 64) == 0) := by
  unfold rightB
  rw [h, Int.toNat_natCast, hl, hn]
  simp
theorem right_of_bits (n l : Nat) (us : List Nat) (h : lmb n = true) (hl : us.length = l) (hn : l = nw n) (hlt : ∀ j, us.getD j 0 < 18446744073709551616) (hb : ∀ i, n ≤ i → i < 64 * l → bitAt us i = 0) : rightB n us = true := by
  rw [rightB_core n l us h hl hn]
  by_cases h0 : n % 64 = 0
  · simp [h0]
  · have hp : 1 ≤ l := by rw [hn]; unfold nw; omega
    have hd : n / 64 = l - 1 := by rw [hn]; unfold nw; omega
    have : us.getD (l - 1) 0 < 2 ^ (n % 64) := by
      apply Nat.lt_pow_two_of_testBit
      intro i hi
      by_cases hi64 : i < 64
      · have := hb (64 * (l - 1) + i) (by omega) (by omega)
        unfold bitAt at this
        rw [show (64 * (l - 1) + i) / 64 = l - 1 by omega, show (64 * (l - 1) + i) % 64 = i by omega] at this
        rw [Nat.testBit_eq_decide_div_mod_eq, this]
        rfl
      · exact Nat.testBit_lt_two_pow (Nat.lt_of_lt_of_le (hlt (l - 1)) (show 2 ^ 64 ≤ 2 ^ i from Nat.pow_le_pow_right (by omega) (by omega)))
    have e : us.getD (l - 1) 0 / 2 ^ (n % 64) = 0 := Nat.div_eq_of_lt this
    rw [e]; simp
theorem not_right_of_bit (n l i : Nat) (us : List Nat) (h : lmb n = true) (hl : us.length = l) (hn : l = nw n) (h1 : n ≤ i) (h2 : i < 64 * l) (hb : bitAt us i = 1) : rightB n us = false := by
  rw [rightB_core n l us h hl hn]
  have hnw : nw n = (n + 63) / 64 := rfl
  have h0 : ¬ n % 64 = 0 := by omega
  have hd : i / 64 = l - 1 := by omega
  have hr : n % 64 ≤ i % 64 := by omega
  unfold bitAt at hb
  rw [hd] at hb
  have hne : us.getD (l - 1) 0 / 2 ^ (n % 64) ≠ 0 := by
    intro e
    have hp : 0 < 2 ^ (n % 64) := Nat.two_pow_pos _
    have hlt : us.getD (l - 1) 0 < 2 ^ (n % 64) := by
      rcases Nat.div_eq_zero_iff.1 e with h | h
      · omega
      · exact h
    have : us.getD (l - 1) 0 / 2 ^ (i % 64) = 0 := Nat.div_eq_of_lt (Nat.lt_of_lt_of_le hlt (Nat.pow_le_pow_right (by omega) hr))
    rw [this] at hb
    simp at hb
  have e1 : (n % 64 == 0) = false := by simpa using h0
  have e2 : (us.getD (l - 1) 0 / 2 ^ (n % 64) == 0) = false := by rw [beq_eq_false_iff_ne]; exact hne
  rw [e1, e2]; rfl
theorem bitAt_le (us : List Nat) (i : Nat) : bitAt us i = 0 ∨ bitAt us i = 1 := by unfold bitAt; omega
end
section
/- Contract of the reference's From: a row of bits. -/
set_option linter.unusedVariables false
set_option linter.unusedSimpArgs false
open Go.RowKit
def accM (b : Nat → Bool) (i : Nat) : Nat → Nat
  | 0 => 0
  | m + 1 => 2 * accM b i m + if b (64 * i + (63 - m)) then 1 else 0
theorem accM_lt (b : Nat → Bool) (i m : Nat) : accM b i m < 2 ^ m := by
  induction m with
  | zero => simp [accM]
  | succ m ih =>
    simp only [accM, Nat.pow_succ]
    split <;> omega
def bitsOf (zs : List Int) (j : Nat) : Bool := decide (j < zs.length) && zs.getD j 0 == 1
def fromL (b : Nat → Bool) (k : Nat) : List Nat := (List.range k).map fun i => accM b i 64
theorem fromL_succ (b : Nat → Bool) (k : Nat) : fromL b (k + 1) = fromL b k ++ [accM b k 64] := by simp [fromL, List.range_succ]
theorem fromL_len (b : Nat → Bool) (k : Nat) : (fromL b k).length = k := by simp [fromL]
theorem u64_info : (Tryz.prog.info? 22).map (fun i => (i.zero, i.size, i.bytes)) = some (some (.int .u64 0), 1, 8) := by kernel_rfl
end
section
/- Contract of law 02's few: the first 66 texts, each cut. -/
set_option linter.unusedVariables false
set_option linter.unusedSimpArgs false
open Go.RowKit
theorem string_info : (Tryz.prog.info? 9).map (fun i => (i.zero, i.size, i.bytes)) = some (some (.string ⟨#[]⟩), 1, 16) := by kernel_rfl
theorem own_texts {w : World} {base e n : Nat} {v : Value} {ss : List ByteArray} (h : w.ownsRow base e 1 v n (ss.map Value.string)) (hz : ∀ j, (ss.getD j ByteArray.empty).size ≤ maxLen) : ∃ A c, v = .slice A n c ∧ n ≤ c ∧ c ≤ maxLen ∧ Texts w A n ss := by
  have hl : ss.length = n := by have := h.1; simpa using this
  rcases h.2 with ⟨rfl, h0⟩ | ⟨g, cap, cur, rfl, hb, hh, hn, hm, hs, hx⟩
  · subst h0
    obtain rfl : ss = [] := List.length_eq_zero_iff.1 hl
    exact ⟨none, 0, rfl, Nat.le_refl _, Nat.zero_le _, Texts.nil _ _⟩
  · refine ⟨_, _, rfl, hn, hm, hl, hz, fun hp => ?_⟩
    have hbx : Box w g e cur := hh
    refine ⟨g, 0, rfl, hbx.lt, fun j hj => ?_⟩
    rw [Nat.zero_add, hbx.cell j]
    have e1 : (cur.toList.take (n * 1))[j]? = (ss.map Value.string)[j]? := by rw [hx]
    rw [Nat.mul_one, List.getElem?_take, if_pos hj] at e1
    have hjz : j < ss.length := by omega
    simp only [List.getElem?_map, List.getElem?_eq_getElem hjz, Option.map_some] at e1
    rw [← Array.getElem?_toList, e1]
    simp [List.getD, hjz]
end
section
/- The reference's Texts: two rows of texts that are the same. -/
set_option linter.unusedVariables false
set_option linter.unusedSimpArgs false
open Go.RowKit
end
section
/- Layer 18: contracts: what may be, what is the same, what is opened, of both sides. -/
set_option linter.unusedVariables false
set_option linter.unusedSimpArgs false
open Go.RowKit Go.Lib
set_option maxRecDepth 100000
theorem Box.sixO {w : World} {g : Nat} {t : TypeId} {a b c d e f : Value} (h : Box w g t #[a, b, c, d, e, f]) : w.cell? ⟨g, 0, none⟩ = some a ∧ w.cell? ⟨g, 1, none⟩ = some b ∧ w.cell? ⟨g, 2, none⟩ = some c ∧ w.cell? ⟨g, 3, none⟩ = some d ∧ w.cell? ⟨g, 4, none⟩ = some e ∧ w.cell? ⟨g, 5, none⟩ = some f := ⟨h.cell 0, h.cell 1, h.cell 2, h.cell 3, h.cell 4, h.cell 5⟩
theorem Box.sevenO {w : World} {g : Nat} {t : TypeId} {a b c d e f k : Value} (h : Box w g t #[a, b, c, d, e, f, k]) : w.cell? ⟨g, 0, none⟩ = some a ∧ w.cell? ⟨g, 1, none⟩ = some b ∧ w.cell? ⟨g, 2, none⟩ = some c ∧ w.cell? ⟨g, 3, none⟩ = some d ∧ w.cell? ⟨g, 4, none⟩ = some e ∧ w.cell? ⟨g, 5, none⟩ = some f ∧ w.cell? ⟨g, 6, none⟩ = some k := ⟨h.cell 0, h.cell 1, h.cell 2, h.cell 3, h.cell 4, h.cell 5, h.cell 6⟩
theorem Box.threeO {w : World} {g : Nat} {t : TypeId} {a b c : Value} (h : Box w g t #[a, b, c]) : w.cell? ⟨g, 0, none⟩ = some a ∧ w.cell? ⟨g, 1, none⟩ = some b ∧ w.cell? ⟨g, 2, none⟩ = some c := ⟨h.cell 0, h.cell 1, h.cell 2⟩
/-- A return of two structs in cells. -/
theorem close_two {P : Program} {fn : Func} {R : Ending → World → Prop} {a : Act} {W : World} {p q : Tmp} {T U : TypeId} {g g' : Nat} {cs ds : Array Value} {d d' : TypeDesc} (hr : fn.results = #[.cell p T, .cell q U])
    (hp : a.tmps.getD p undef = .pointer (some ⟨g, 0, none⟩)) (hq : a.tmps.getD q undef = .pointer (some ⟨g', 0, none⟩)) (hd : a.defers = []) (hbox : Box W g T cs) (hbox' : Box W g' U ds) (hu : P.underlying T = some d) (hu' : P.underlying U = some d')
    (hk : (match d with | .struct _ | .array _ _ => true | _ => false) = true) (hk' : (match d' with | .struct _ | .array _ _ => true | _ => false) = true) (hi : (P.info? T).map (·.size) = some cs.size) (hi' : (P.info? U).map (·.size) = some ds.size)
    (hR : R (.returned (.tuple #[.agg cs, .agg ds])) W) : bodyPost P fn R .ret a W := by
  refine bodyPost_ret ?_ hd hR
  have hp' : a.tmps[p]?.getD undef = .pointer (some ⟨g, 0, none⟩) := by simpa using hp
  have hq' : a.tmps[q]?.getD undef = .pointer (some ⟨g', 0, none⟩) := by simpa using hq
  simp [results, hr, hp', hq', asAddr, run_loadVar_row W g T T cs (0, 0) d hbox hu hk hi, run_loadVar_row W g' U U ds (0, 0) d' hbox' hu' hk' hi']
set_option maxHeartbeats 1000000 in
theorem oright_any (v : Value) (o : ObR) (w : World) (h : ObAt w v o) : Calls Tryz.prog 27 #[v] w fun e w' => e = .returned (.bool (rightO o)) ∧ Below w.heap.size w w' := by
  obtain ⟨A, d, rfl, hs, hx⟩ := h
  obtain ⟨id, ⟨k, s, c, xs⟩, cl⟩ := o
  dsimp only at hs hx
  have b1 : Below w.heap.size w (w.alloc (.cells (obA (id, (k, s, c, xs), cl) A d) 27)) := (Below.refl _ _).alloc (Nat.le_refl _) _
  have Q := Lib.hid (Box.new w 27 (obA (id, (k, s, c, xs), cl) A d))
  have HB := Lib.hid b1
  have HR := Lib.hid (eright_any k s c A xs.length d xs _ (Recs.below hx b1) hs.1 hs.2.1)
  have HE : rightO (id, (k, s, c, xs), cl) = (storeB k s c xs && (decide (cl = 0) || decide (cl = 1))) := rfl
  rw [HE]
  obtain ⟨r0, r1, r2, r3, r4, r5⟩ := Q.out.sixO
  clear b1 hs hx HE
  cases hb : storeB k s c xs with
  | false =>
    rw [hb] at HR
    clear hb
    go_enter Tryz.func27, Tryz.ntmps27
    go_wp2_with fail
    refine HR.out.mono ?_
    rintro e w2 ⟨rfl, hb2⟩
    have HB2 := Lib.hid (chain HB.out hb2)
    clear hb2
    go_wp2_with fail
    go_ret
    exact ⟨rfl, HB2.out⟩
  | true =>
    rw [hb] at HR
    clear hb
    go_enter Tryz.func27, Tryz.ntmps27
    go_wp2_with fail
    refine HR.out.mono ?_
    rintro e w2 ⟨rfl, hb2⟩
    have HB2 := Lib.hid (chain HB.out hb2)
    have Q2 := Lib.hid (Q.out.keep hb2)
    clear hb2 r0 r1 r2 r3 r4 r5
    obtain ⟨r0, r1, r2, r3, r4, r5⟩ := Q2.out.sixO
    by_cases h0 : cl = 0
    · subst h0
      go_wp2_with fail
      go_ret
      exact ⟨by simp, HB2.out⟩
    · have t0 : (cl == 0) = false := by simpa using h0
      by_cases h1 : cl = 1
      · subst h1
        go_wp2_with fail
        go_ret
        exact ⟨by simp, HB2.out⟩
      · have t1 : (cl == 1) = false := by simpa using h1
        go_wp2_with fail
        go_ret
        exact ⟨by simp [h0, h1], HB2.out⟩
set_option maxHeartbeats 1000000 in
theorem oright18_any (v : Value) (o : ObR) (w : World) (h : ObAt w v o) : Calls Tryz.prog 30 #[v] w fun e w' => e = .returned (.bool (rightO o)) ∧ Below w.heap.size w w' := by
  obtain ⟨A, d, rfl, hs, hx⟩ := h
  obtain ⟨id, ⟨k, s, c, xs⟩, cl⟩ := o
  dsimp only at hs hx
  have b1 : Below w.heap.size w (w.alloc (.cells (obA (id, (k, s, c, xs), cl) A d) 27)) := (Below.refl _ _).alloc (Nat.le_refl _) _
  have Q := Lib.hid (Box.new w 27 (obA (id, (k, s, c, xs), cl) A d))
  have HB := Lib.hid b1
  have HR := Lib.hid (refRight12_any k s c A xs.length d xs _ (Recs.below hx b1) hs.1 hs.2.1)
  have HE : rightO (id, (k, s, c, xs), cl) = (storeB k s c xs && (decide (cl = 0) || decide (cl = 1))) := rfl
  have HN : (decide (cl = 0) || decide (cl = 1)) = (decide (0 ≤ cl) && decide (cl ≤ 1)) := by
    rw [Bool.eq_iff_iff]; simp only [Bool.or_eq_true, Bool.and_eq_true, decide_eq_true_eq]; omega
  rw [HE, HN]
  obtain ⟨r0, r1, r2, r3, r4, r5⟩ := Q.out.sixO
  clear b1 hs hx HE HN
  cases hb : storeB k s c xs with
  | false =>
    rw [hb] at HR
    clear hb
    go_enter Tryz.func30, Tryz.ntmps30
    go_wp2_with fail
    refine HR.out.mono ?_
    rintro e w2 ⟨rfl, hb2⟩
    have HB2 := Lib.hid (chain HB.out hb2)
    clear hb2
    go_wp2_with fail
    go_ret
    exact ⟨rfl, HB2.out⟩
  | true =>
    rw [hb] at HR
    clear hb
    go_enter Tryz.func30, Tryz.ntmps30
    go_wp2_with fail
    refine HR.out.mono ?_
    rintro e w2 ⟨rfl, hb2⟩
    have HB2 := Lib.hid (chain HB.out hb2)
    have Q2 := Lib.hid (Q.out.keep hb2)
    clear hb2 r0 r1 r2 r3 r4 r5
    obtain ⟨r0, r1, r2, r3, r4, r5⟩ := Q2.out.sixO
    by_cases h0 : cl ≥ 0
    · by_cases h1 : cl ≤ 1
      · go_wp2_with fail
        go_ret
        exact ⟨by simp; omega, HB2.out⟩
      · go_wp2_with fail
        go_ret
        exact ⟨by simp; omega, HB2.out⟩
    · go_wp2_with fail
      go_ret
      exact ⟨by simp; omega, HB2.out⟩
theorem likeO_eq (id : Nat) (k s c : Int) (xs : List SymR) (cl : Int) (id2 : Nat) (k2 s2 c2 : Int) (ys : List SymR) (cl2 : Int) : likeO (id, (k, s, c, xs), cl) (id2, (k2, s2, c2, ys), cl2) = (((id : Int) == (id2 : Int)) && ((cl == cl2) && likeB k s c xs k2 s2 c2 ys)) := by
  unfold likeO
  rw [likeB_eq, Bool.eq_iff_iff]
  simp only [Bool.and_eq_true, beq_iff_eq, decide_eq_true_eq, Prod.mk.injEq]
  constructor
  · rintro ⟨h1, h2, h3⟩; exact ⟨by rw [h1], h3, h2⟩
  · rintro ⟨h1, h3, h2⟩; exact ⟨by omega, h2, h3⟩
set_option maxHeartbeats 2000000 in
theorem osame_any (va : Value) (a : ObR) (vb : Value) (b : ObR) (w : World) (ha : ObAt w va a) (hb : ObAt w vb b) : Calls Tryz.prog 12 #[va, vb] w fun e w' => e = .returned (.bool (likeO a b)) ∧ Below w.heap.size w w' := by
  obtain ⟨A, d, rfl, hs, hx⟩ := ha
  obtain ⟨B, d2, rfl, hs2, hy⟩ := hb
  obtain ⟨id, ⟨k, s, c, xs⟩, cl⟩ := a
  obtain ⟨id2, ⟨k2, s2, c2, ys⟩, cl2⟩ := b
  dsimp only at hs hx hs2 hy
  have b1 : Below w.heap.size w (w.alloc (.cells (obA (id, (k, s, c, xs), cl) A d) 27)) := (Below.refl _ _).alloc (Nat.le_refl _) _
  have b2 := b1.alloc b1.size (.cells (obA (id2, (k2, s2, c2, ys), cl2) B d2) 27)
  have Q := Lib.hid ((Box.new w 27 (obA (id, (k, s, c, xs), cl) A d)).alloc (.cells (obA (id2, (k2, s2, c2, ys), cl2) B d2) 27))
  have u0 := Box.new (w.alloc (.cells (obA (id, (k, s, c, xs), cl) A d) 27)) 27 (obA (id2, (k2, s2, c2, ys), cl2) B d2)
  simp only [World.size_alloc] at u0
  have U := Lib.hid u0
  have HB := Lib.hid b2
  have HL := Lib.hid (refSame12_any k s c A xs.length d xs k2 s2 c2 B ys.length d2 ys _ (Recs.below hx b2) (Recs.below hy b2) (Nat.le_trans hs.1 hs.2.1) (Nat.le_trans hs2.1 hs2.2.1))
  rw [likeO_eq]
  obtain ⟨r0, r1, r2, r3, r4, r5⟩ := Q.out.sixO
  obtain ⟨s0, s1, s2, s3, s4, s5⟩ := U.out.sixO
  clear b1 b2 hs hx hs2 hy u0
  cases h0 : ((id : Int) == (id2 : Int)) with
  | false =>
    go_enter Tryz.func12, Tryz.ntmps12
    go_wp2_with fail
    go_ret
    exact ⟨rfl, HB.out⟩
  | true =>
    cases h1 : (cl == cl2) with
    | false =>
      go_enter Tryz.func12, Tryz.ntmps12
      go_wp2_with fail
      go_ret
      exact ⟨rfl, HB.out⟩
    | true =>
      go_enter Tryz.func12, Tryz.ntmps12
      go_wp2_with fail
      refine HL.out.mono ?_
      rintro e w2 ⟨rfl, hb2⟩
      have HB2 := Lib.hid (chain HB.out hb2)
      clear hb2
      go_wp2_with fail
      go_ret
      exact ⟨by simp, HB2.out⟩
end
section
/- The law of HTail where several stores of the head write what earlier loads have read: each thing that is held is held till the store with its number has come (a number past the end: to the head's end). No program. -/
set_option linter.unusedVariables false
set_option linter.unusedSimpArgs false
section
variable {P : Program} {ops : Array Oper} {Q : Exit → Act → World → Prop} {md : Region.Mode} {Ss : List (Nat × (World → Prop))}
/-- What is held: each predicate, while its number has not come. -/
def heldK : List (Nat × (World → Prop)) → Array Bool → World → Prop
  | [], _, _ => True
  | (k, S) :: l, listed, w => (listed.getD k false = false → S w) ∧ heldK l listed w
theorem heldK_set {listed : Array Bool} {w : World} {i : Nat} : ∀ {l : List (Nat × (World → Prop))}, (l.all fun p => decide (i ≠ p.1)) = true → (heldK l (listed.setIfInBounds i true) w ↔ heldK l listed w)
  | [], _ => Iff.rfl
  | (k, S) :: l, h => by
    simp only [List.all_cons, Bool.and_eq_true, decide_eq_true_eq] at h
    unfold heldK; rw [getD_set_ne false h.1, heldK_set h.2]
theorem heldK_at {listed : Array Bool} {w : World} {p : Nat × (World → Prop)} : ∀ {l : List (Nat × (World → Prop))} {j : Nat}, l[j]? = some p → heldK l listed w → listed.getD p.1 false = false → p.2 w
  | [], _, h, _, _ => by cases h
  | (k, S) :: l, 0, h, hh, hl => by cases h; exact hh.1 hl
  | (k, S) :: l, j + 1, h, hh, hl => heldK_at (l := l) (j := j) h hh.2 hl
def headK (P : Program) (md : Region.Mode) (ops : Array Oper) (Q : Exit → Act → World → Prop) (Ss : List (Nat × (World → Prop))) (m : Nat) (L : Array Bool → Act → World → Prop) : Nat → Array Bool → Act → World → Prop
  | 0, listed, a, w => L listed a w
  | f + 1, listed, a, w => Region.ready md ops listed ≠ [] ∧ ∀ i ∈ Region.ready md ops listed, i < m ∧ wpOp P ops Q i (fun a' w' => heldK Ss (listed.setIfInBounds i true) w' ∧ headK P md ops Q Ss m L f (listed.setIfInBounds i true) a' w') a w
theorem any_of_headK {m g : Nat} {L : Array Bool → Act → World → Prop} (hL : ∀ listed a w, L listed a w → wpAny P md ops Q g listed a w) :
    ∀ (f : Nat) (listed : Array Bool) (a : Act) (w : World), headK P md ops Q Ss m L f listed a w → wpAny P md ops Q (f + g) listed a w
  | 0, listed, a, w, h => by rw [Nat.zero_add]; exact hL _ _ _ h
  | f + 1, listed, a, w, h => by
    rw [show f + 1 + g = (f + g) + 1 by omega]
    exact ⟨fun h0 => absurd h0 h.1, fun i hi => wpOp_mono (fun a' w' h' => any_of_headK hL f _ a' w' h'.2) (h.2 i hi).2⟩
theorem headK_first {m i : Nat} {oi : Oper} {v : Value} {L : Array Bool → Act → World → Prop} {T : World → Prop} (hi : ops[i]? = some oi) (hsel : ∀ (j : Nat) (o : Oper) cs b, ops[j]? = some o → o.op ≠ .select cs b)
    (hik : (Ss.all fun p => decide (i ≠ p.1)) = true) (hT : ∀ listed, HeadInv md ops m listed → listed.getD i true = false → ∀ w, heldK Ss listed w → T w)
    (hw : ∀ listed, HeadInv md ops m listed → ∀ i, i < m → listed.getD i true = false → ∀ t, m ≤ t → t ∉ Region.ready md ops listed) (him : i < m)
    (hQ : ∀ c a w, Q (.panic c) (a.put oi.dst v) w → Q (.panic c) a w) (hdone : ∀ listed a w, L listed a w → ∀ j ∈ Region.ready md ops listed, m ≤ j) :
    ∀ (f : Nat) (listed : Array Bool) (a : Act) (w : World), HeadInv md ops m listed →
      (∀ j oj, ops[j]? = some oj → j ≠ i → listed.getD j true = false → (∀ e ∈ oj.after, Region.binds md e = true → e.on ≠ i) → oi.apart ops oj = true) →
      i ∈ Region.ready md ops listed → YieldsIf P ops T oi v a → heldK Ss listed w →
      headK P md ops Q Ss m L f (listed.setIfInBounds i true) (a.put oi.dst v) w → headK P md ops Q Ss m L (f + 1) listed a w := by
  intro f
  induction f with
  | zero =>
    intro listed a w inv _ hr hy hS H
    have hun := (mem_ready.1 hr).1
    refine ⟨fun h => (by rw [h] at hr; cases hr), fun j hj => ?_⟩
    have hjm : j < m := by
      rcases Nat.lt_or_ge j m with h | h
      · exact h
      · exact absurd hj (hw listed inv i him hun j h)
    refine ⟨hjm, ?_⟩
    by_cases hji : j = i
    · subst hji; exact hy.wpOp hi (hT listed inv hun w hS) ⟨(heldK_set hik).2 hS, H⟩
    · have := hdone _ _ _ H j (ready_mono hj hji)
      omega
  | succ f ih =>
    intro listed a w inv hfree hr hy hS H
    have hun := (mem_ready.1 hr).1
    refine ⟨fun h => (by rw [h] at hr; cases hr), fun j hj => ?_⟩
    have hjm : j < m := by
      rcases Nat.lt_or_ge j m with h | h
      · exact h
      · exact absurd hj (hw listed inv i him hun j h)
    refine ⟨hjm, ?_⟩
    by_cases hji : j = i
    · subst hji; exact hy.wpOp hi (hT listed inv hun w hS) ⟨(heldK_set hik).2 hS, H⟩
    · have h1 := (H.2 j (ready_mono hj hji)).2
      obtain ⟨hjun, oj, hoj, hall⟩ := mem_ready.1 hj
      have hnot : ∀ e ∈ oj.after, Region.binds md e = true → e.on ≠ i := fun e he hb heq => by
        have h1 := hall e he hb
        rw [heq, getD_both hun] at h1
        cases h1
      have h2 := wpOp_putIf hoj (hfree j oj hoj hji hjun hnot) (fun cs b => hsel i oi cs b hi) (fun cs b => hsel j oj cs b hoj) hQ hy h1
      have hfree' : ∀ l ol, ops[l]? = some ol → l ≠ i → (listed.setIfInBounds j true).getD l true = false →
          (∀ e ∈ ol.after, Region.binds md e = true → e.on ≠ i) → oi.apart ops ol = true := fun l ol hl hli hun hno => by
        refine hfree l ol hl hli ?_ hno
        by_cases hjl : j = l
        · subst hjl; exact hjun
        · rw [getD_set_ne true hjl] at hun; exact hun
      refine wpOp_mono (fun a' w' h3 => ?_) h2
      have h4 := h3.2.1
      rw [Array.setIfInBounds_comm _ _ (Ne.symm hji)] at h4
      have h5 := (heldK_set hik).1 h4
      refine ⟨h5, ih (listed.setIfInBounds j true) a' w' (inv.set hj hjm) hfree' (ready_mono hr (Ne.symm hji)) h3.1 h5 ?_⟩
      rw [Array.setIfInBounds_comm _ _ hji]
      exact h3.2.2
/-- What every taking asks of the region and of number i. -/
def takeB (md : Region.Mode) (ops : Array Oper) (Ss : List Nat) (m i : Nat) (listed : Array Bool) : Bool :=
  Region.noSelect ops && barB md ops m && decide (i < m) && headB md ops m listed && Region.free md ops listed i && (Region.ready md ops listed).contains i && (Ss.all fun k => decide (i ≠ k))
theorem takeB_all {listed : Array Bool} {m i : Nat} (h : takeB md ops (Ss.map (·.1)) m i listed = true) : Region.noSelect ops = true ∧ barB md ops m = true ∧ i < m ∧ headB md ops m listed = true ∧ Region.free md ops listed i = true ∧ (Region.ready md ops listed).contains i = true ∧ (Ss.all fun p => decide (i ≠ p.1)) = true := by
  unfold takeB at h
  simp only [Bool.and_eq_true, decide_eq_true_eq, List.all_map, Function.comp_def] at h
  obtain ⟨⟨⟨⟨⟨⟨h1, h2⟩, h5⟩, h6⟩, h7⟩, h8⟩, h9⟩ := h
  exact ⟨h1, h2, h5, h6, h7, h8, h9⟩
/-- Take number i first, which reads nothing. -/
theorem headK_take {m i : Nat} {oi : Oper} {v : Value} {f : Nat} {listed : Array Bool} {a : Act} {w : World} {L : Array Bool → Act → World → Prop} (hi : ops[i]? = some oi)
    (hall : takeB md ops (Ss.map (·.1)) m i listed = true)
    (hQ : ∀ c a w, Q (.panic c) (a.put oi.dst v) w → Q (.panic c) a w) (hdone : ∀ listed a w, L listed a w → ∀ j ∈ Region.ready md ops listed, m ≤ j)
    (hy : YieldsIf P ops (fun _ => True) oi v a) (hS : heldK Ss listed w) (h : headK P md ops Q Ss m L f (listed.setIfInBounds i true) (a.put oi.dst v) w) : headK P md ops Q Ss m L (f + 1) listed a w := by
  obtain ⟨h1, h2, h5, h6, h7, h8, h9⟩ := takeB_all hall
  exact headK_first hi (Region.noSelect_spec h1) h9 (fun _ _ _ _ _ => trivial) (fun listed _ i him hun t ht => bar_waits h2 listed i him hun t ht) h5 hQ hdone f listed a w (headB_inv h6) (Region.free_spec hi h7) (by simpa using h8) hy hS h
/-- Take number i first, which reads what the j-th of those held says: the store that ends it waits for i, or there is none. -/
theorem headK_load {m i : Nat} {oi : Oper} {v : Value} {f : Nat} {listed : Array Bool} {a : Act} {w : World} {L : Array Bool → Act → World → Prop} (j k : Nat) (S : World → Prop) (hj : Ss[j]? = some (k, S)) (hi : ops[i]? = some oi)
    (hall : (takeB md ops (Ss.map (·.1)) m i listed && (decide (ops.size ≤ k) || Region.waitsFor md ops k i)) = true)
    (hQ : ∀ c a w, Q (.panic c) (a.put oi.dst v) w → Q (.panic c) a w) (hdone : ∀ listed a w, L listed a w → ∀ j ∈ Region.ready md ops listed, m ≤ j)
    (hy : YieldsIf P ops S oi v a) (hS : heldK Ss listed w) (h : headK P md ops Q Ss m L f (listed.setIfInBounds i true) (a.put oi.dst v) w) : headK P md ops Q Ss m L (f + 1) listed a w := by
  simp only [Bool.and_eq_true, Bool.or_eq_true, decide_eq_true_eq] at hall
  obtain ⟨h1, h2, h5, h6, h7, h8, h9⟩ := takeB_all hall.1
  refine headK_first hi (Region.noSelect_spec h1) h9 (fun listed inv hun w hw => heldK_at hj hw ?_) (fun listed _ i him hun t ht => bar_waits h2 listed i him hun t ht) h5 hQ hdone f listed a w (headB_inv h6) (Region.free_spec hi h7) (by simpa using h8) hy hS h
  rcases hall.2 with hk | hk
  · have hk2 : listed.size ≤ k := by rw [inv.size]; exact hk
    show listed.getD k false = false
    simp [Array.getD_eq_getD_getElem?, Array.getElem?_eq_none hk2]
  · obtain ⟨ok, hok, e, he, hbd, hon⟩ := Region.waitsFor_spec hk
    show listed.getD k false = false
    cases hl : listed.getD k false with
    | false => rfl
    | true =>
      have := inv.closed k ok hok hl e he hbd
      rw [hon, getD_both hun] at this
      cases this
/-- Only number i may come up: behind it what is held is to be shown anew. -/
theorem headK_one {m i : Nat} {o : Oper} {f : Nat} {listed : Array Bool} {a : Act} {w : World} {L : Array Bool → Act → World → Prop} (hr : (Region.ready md ops listed == [i] && decide (i < m)) = true) (ho : ops[i]? = some o)
    (h : ∀ K' : Act → World → Prop, Shut (∀ a w, heldK Ss (listed.setIfInBounds i true) w → headK P md ops Q Ss m L f (listed.setIfInBounds i true) a w → K' a w) → if Region.wanted o (yielded ops a.tmps) = true then Oper.wp P o a w K' Q else K' (a.put o.dst undef) w) : headK P md ops Q Ss m L (f + 1) listed a w := by
  simp only [Bool.and_eq_true, beq_iff_eq, decide_eq_true_eq] at hr
  refine ⟨by rw [hr.1]; simp, fun j hj => ?_⟩
  rw [hr.1] at hj
  have hji : j = i := by simpa using hj
  subst hji
  exact ⟨hr.2, wpOp_step ho (fun K' hK => h K' (fun a w hS hW => hK a w ⟨hS, hW⟩))⟩
theorem wp_heldK_bar {id : Nat} {a : Act} {w : World} {l : List Oper} (Ss : List (Nat × (World → Prop))) (m : Nat) (hmx : P.follows .mixedOrders = true) (hm : m ≤ l.length)
    (h : headK P .any l.toArray Q Ss m (fun listed a w => passedB m listed = true ∧ wpAny P .any l.toArray Q (l.length - m) listed a w) m (Array.replicate l.toArray.size false) a w.drew) : (Code.region id l.toArray true).wp P Q a w := by
  refine wp_region_any hmx ?_
  have := any_of_headK (g := l.length - m) (fun listed a' w' hL => hL.2) _ _ _ _ h
  rw [show m + (l.length - m) = l.toArray.size by simp; omega] at this
  exact this
end
end
section
/- Layer 18: few, Open of both sides, replies compared, alive. -/
set_option linter.unusedVariables false
set_option linter.unusedSimpArgs false
open Go.RowKit Go.Lib
set_option maxRecDepth 100000
/-- An object and a reply are returned, apart. -/
def DoOut (o : ObR) (r : ReplyR) (w : World) (e : Ending) (w' : World) : Prop :=
  ∃ A d B c, e = .returned (.tuple #[.agg (obA o A d), .agg #[.int .i64 r.1, .int .i64 r.2.1, .slice B r.2.2.length c]]) ∧ SliceOk A o.2.1.2.2.2.length d ∧ Syms w' A o.2.1.2.2.2.length o.2.1.2.2.2 ∧ Texts w' B r.2.2.length r.2.2 ∧ r.2.2.length ≤ c ∧ c ≤ maxLen ∧ Below w.heap.size w w'
theorem below_set3o {B : Nat} {w x : World} (h : Below B w x) {g : Nat} (hg : B ≤ g) (a b c : Value) : Below B w (((x.setCell ⟨g, 0, none⟩ a).setCell ⟨g, 1, none⟩ b).setCell ⟨g, 2, none⟩ c) := ((h.setCell (p := ⟨g, 0, none⟩) hg a).setCell (p := ⟨g, 1, none⟩) hg b).setCell (p := ⟨g, 2, none⟩) hg c
theorem below_set6o {B : Nat} {w x : World} (h : Below B w x) {g : Nat} (hg : B ≤ g) (a b c d e f : Value) : Below B w ((((((x.setCell ⟨g, 0, none⟩ a).setCell ⟨g, 1, none⟩ b).setCell ⟨g, 2, none⟩ c).setCell ⟨g, 3, none⟩ d).setCell ⟨g, 4, none⟩ e).setCell ⟨g, 5, none⟩ f) :=
  (((below_set3o h hg a b c).setCell (p := ⟨g, 3, none⟩) hg d).setCell (p := ⟨g, 4, none⟩) hg e).setCell (p := ⟨g, 5, none⟩) hg f
theorem Box.put3o {w : World} {g : Nat} {t : TypeId} {a b c u v x : Value} (h : Box w g t #[a, b, c]) : Box (((w.setCell ⟨g, 0, none⟩ u).setCell ⟨g, 1, none⟩ v).setCell ⟨g, 2, none⟩ x) g t #[u, v, x] := ((h.put 0 u).put 1 v).put 2 x
theorem Box.put6o {w : World} {g : Nat} {t : TypeId} {a b c d e f u v x y z k : Value} (h : Box w g t #[a, b, c, d, e, f]) : Box ((((((w.setCell ⟨g, 0, none⟩ u).setCell ⟨g, 1, none⟩ v).setCell ⟨g, 2, none⟩ x).setCell ⟨g, 3, none⟩ y).setCell ⟨g, 4, none⟩ z).setCell ⟨g, 5, none⟩ k) g t #[u, v, x, y, z, k] := (((((h.put 0 u).put 1 v).put 2 x).put 3 y).put 4 z).put 5 k
theorem Box.far3o {w : World} {g g' : Nat} {t : TypeId} {cs : Array Value} (h : Box w g t cs) (hn : g ≠ g') (a b c : Value) : Box (((w.setCell ⟨g', 0, none⟩ a).setCell ⟨g', 1, none⟩ b).setCell ⟨g', 2, none⟩ c) g t cs := ((h.far (p := ⟨g', 0, none⟩) hn a).far (p := ⟨g', 1, none⟩) hn b).far (p := ⟨g', 2, none⟩) hn c
theorem Box.far6o {w : World} {g g' : Nat} {t : TypeId} {cs : Array Value} (h : Box w g t cs) (hn : g ≠ g') (a b c d e f : Value) : Box ((((((w.setCell ⟨g', 0, none⟩ a).setCell ⟨g', 1, none⟩ b).setCell ⟨g', 2, none⟩ c).setCell ⟨g', 3, none⟩ d).setCell ⟨g', 4, none⟩ e).setCell ⟨g', 5, none⟩ f) g t cs := (((h.far3o hn a b c).far (p := ⟨g', 3, none⟩) hn d).far (p := ⟨g', 4, none⟩) hn e).far (p := ⟨g', 5, none⟩) hn f
abbrev opW (c : CallR) (w : World) : World := ((w.alloc (.cells (callL c).toArray 31)).alloc (.cells #[.int .u64 0, .int .i64 0, .int .i64 0, .int .i64 0, .slice none 0 0, .int .i64 0] 27)).alloc (.cells #[.int .i64 0, .int .i64 0, .slice none 0 0] 36)
theorem opW_three (c : CallR) (w : World) : Box (opW c w) w.heap.size 31 (callL c).toArray ∧ Box (opW c w) (w.heap.size + 1) 27 #[.int .u64 0, .int .i64 0, .int .i64 0, .int .i64 0, .slice none 0 0, .int .i64 0] ∧ Box (opW c w) (w.heap.size + 1 + 1) 36 #[.int .i64 0, .int .i64 0, .slice none 0 0] ∧ Below w.heap.size w (opW c w) := by
  refine ⟨((Box.new w _ _).alloc _).alloc _, ?_, ?_, (((Below.refl _ _).alloc (Nat.le_refl _) _).alloc (by simp) _).alloc (by simp; omega) _⟩
  · have q := (Box.new (w.alloc (.cells (callL c).toArray 31)) 27 #[.int .u64 0, .int .i64 0, .int .i64 0, .int .i64 0, .slice none 0 0, .int .i64 0]).alloc (.cells #[.int .i64 0, .int .i64 0, .slice none 0 0] 36)
    simpa only [World.size_alloc] using q
  · have q := Box.new ((w.alloc (.cells (callL c).toArray 31)).alloc (.cells #[.int .u64 0, .int .i64 0, .int .i64 0, .int .i64 0, .slice none 0 0, .int .i64 0] 27)) 36 #[.int .i64 0, .int .i64 0, .slice none 0 0]
    simpa only [World.size_alloc] using q
theorem enew18 (k s c : Int) (w : World) :
    Calls Tryz.prog 64 #[.int .i64 k, .int .i64 s, .int .i64 c] w fun e w' => ∃ nK nS nC nE A d, e = .returned (.tuple #[.agg #[.int .i64 nK, .int .i64 nS, .int .i64 nC, .slice A 0 d], .int .i64 nE]) ∧ ((sizesB k s c = true → nK = k ∧ nS = s ∧ nC = c ∧ nE = 0) ∧ (sizesB k s c = false → nK = 0 ∧ nS = 0 ∧ nC = 0 ∧ nE = 2)) ∧ SliceOk A 0 d ∧ Syms w' A 0 [] ∧ Below w.heap.size w w' := by
  refine (enew_any k s c w).mono ?_
  rintro e w' ⟨A, d, rfl, h1, -, h3, h4, hb⟩
  rw [storeB_new]
  refine ⟨_, _, _, _, A, d, rfl, ⟨fun h => ?_, fun h => ?_⟩, ⟨Nat.zero_le _, h3, fun e => ⟨rfl, h4 e⟩⟩, h1, hb⟩
  · rw [h]; exact ⟨rfl, rfl, rfl, rfl⟩
  · rw [h]; exact ⟨rfl, rfl, rfl, rfl⟩
theorem opW_gen (a b r : Array Value) (w : World) : Box (((w.alloc (.cells a 31)).alloc (.cells b 27)).alloc (.cells r 36)) (w.heap.size + 1) 27 b ∧ Box (((w.alloc (.cells a 31)).alloc (.cells b 27)).alloc (.cells r 36)) (w.heap.size + 1 + 1) 36 r ∧ Below w.heap.size w (((w.alloc (.cells a 31)).alloc (.cells b 27)).alloc (.cells r 36)) := by
  refine ⟨?_, ?_, (((Below.refl _ _).alloc (Nat.le_refl _) _).alloc (by simp) _).alloc (by simp; omega) _⟩
  · have q := (Box.new (w.alloc (.cells a 31)) 27 b).alloc (.cells r 36)
    simpa only [World.size_alloc] using q
  · have q := Box.new ((w.alloc (.cells a 31)).alloc (.cells b 27)) 36 r
    simpa only [World.size_alloc] using q
set_option maxHeartbeats 4000000 in
theorem oopen_no1 (what : Int) (ob : Nat) (k s cp : Int) (id : Nat) (dt : ByteArray) (h0 : ¬ what = 0) (w : World) : Calls Tryz.prog 34 #[callV (what, ob, k, s, cp, id, dt)] w (DoOut obZ (1, 0, []) w) := by
  obtain ⟨q0, q1, q2, b3⟩ := opW_three (what, ob, k, s, cp, id, dt) w
  have Q0 := Lib.hid q0
  obtain ⟨p1, p2, b4⟩ := opW_gen (callL (what, ob, k, s, cp, id, dt)).toArray #[.int .u64 0, .int .i64 0, .int .i64 0, .int .i64 0, .slice none 0 0, .int .i64 0] #[.int .i64 1, .int .i64 0, .slice none 0 0] w
  have P1 := Lib.hid p1
  have P2 := Lib.hid p2
  have HB := Lib.hid b4
  obtain ⟨r0, r1, r2, r3, r4, r5, r6⟩ := Q0.out.sevenO
  clear q0 q1 q2 b3 p1 p2 b4
  have t9 : (what != 0) = true := by simpa using h0
  clear h0
  go_enter Tryz.func34, Tryz.ntmps34
  go_wp2_with fail
  refine close_two Tryz.results34 rfl rfl rfl P1.out P2.out Tryz.underlying27 Tryz.underlying36 rfl rfl (by kernel_rfl) (by kernel_rfl) ?_
  exact ⟨none, 0, none, 0, rfl, ⟨Nat.le_refl _, Nat.zero_le _, fun _ => ⟨rfl, rfl⟩⟩, Recs.nil _ _, Texts.nil _ _, Nat.le_refl _, Nat.zero_le _, HB.out⟩
set_option maxHeartbeats 8000000 in
theorem oopen_no2 (ob : Nat) (k s cp : Int) (id : Nat) (dt : ByteArray) (hz : sizesB k s cp = false) (w : World) : Calls Tryz.prog 34 #[callV (0, ob, k, s, cp, id, dt)] w (DoOut obZ (2, 0, []) w) := by
  obtain ⟨q0, q1, q2, b3⟩ := opW_three (0, ob, k, s, cp, id, dt) w
  have Q0 := Lib.hid q0
  have Q1 := Lib.hid q1
  have Q2 := Lib.hid q2
  have HB := Lib.hid b3
  obtain ⟨r0, r1, r2, r3, r4, r5, r6⟩ := Q0.out.sevenO
  obtain ⟨s0, s1, s2, s3, s4, s5⟩ := Q1.out.sixO
  obtain ⟨t0, t1, t2⟩ := Q2.out.threeO
  have f0 := Q1.out.free 0
  have f1 := Q1.out.free 1
  have f2 := Q1.out.free 2
  have f3 := Q1.out.free 3
  have f4 := Q1.out.free 4
  have f5 := Q1.out.free 5
  have g0 := Q2.out.free 0
  have g1 := Q2.out.free 1
  have g2 := Q2.out.free 2
  clear q0 q1 q2 b3
  have HN := Lib.hid (enew18 k s cp (opW (0, ob, k, s, cp, id, dt) w))
  rw [hz] at HN
  clear hz
  go_enter Tryz.func34, Tryz.ntmps34
  go_wp2_with fail
  refine HN.out.mono ?_
  rintro e w2 ⟨nK, nS, nC, nE, A, d, rfl, ⟨-, h2⟩, -, hx, hb⟩
  obtain ⟨e1, e2, e3, e4⟩ := h2 trivial
  subst e1 e2 e3 e4
  have b4 : Below w2.heap.size w2 (w2.alloc (.cells #[.int .i64 0, .int .i64 0, .int .i64 0, .slice A 0 d] 25)) := (Below.refl _ _).alloc (Nat.le_refl _) _
  have hbb := chain hb b4
  have P1 := Lib.hid (Q1.out.keep hbb)
  have P2 := Lib.hid (Q2.out.keep hbb)
  have HB2 := Lib.hid (chain HB.out hbb)
  clear hbb b4 hb hx h2 HN r0 r1 r2 r3 r4 r5 r6 s0 s1 s2 s3 s4 s5 t0 t1 t2 f0 f1 f2 f3 f4 f5 g0 g1 g2
  obtain ⟨s0, s1, s2, s3, s4, s5⟩ := P1.out.sixO
  obtain ⟨t0, t1, t2⟩ := P2.out.threeO
  have f0 := P1.out.free 0
  have f1 := P1.out.free 1
  have f2 := P1.out.free 2
  have f3 := P1.out.free 3
  have f4 := P1.out.free 4
  have f5 := P1.out.free 5
  have g0 := P2.out.free 0
  have g1 := P2.out.free 1
  have g2 := P2.out.free 2
  go_wp2_with fail
  refine close_two Tryz.results34 rfl rfl rfl (P1.out.put6o.far3o (by omega) _ _ _) ((P2.out.far6o (g' := w.heap.size + 1) (by omega) _ _ _ _ _ _).put3o) Tryz.underlying27 Tryz.underlying36 rfl rfl (by kernel_rfl) (by kernel_rfl) ?_
  exact ⟨none, 0, none, 0, rfl, ⟨Nat.le_refl _, Nat.zero_le _, fun _ => ⟨rfl, rfl⟩⟩, Recs.nil _ _, Texts.nil _ _, Nat.le_refl _, Nat.zero_le _, below_set3o (below_set6o HB2.out (by omega) _ _ _ _ _ _) (by omega) _ _ _⟩
set_option maxHeartbeats 8000000 in
theorem oopen_yes (ob : Nat) (k s cp : Int) (id : Nat) (dt : ByteArray) (hz : sizesB k s cp = true) (w : World) : Calls Tryz.prog 34 #[callV (0, ob, k, s, cp, id, dt)] w (DoOut (ob, (k, s, cp, []), 0) (0, k, []) w) := by
  obtain ⟨q0, q1, q2, b3⟩ := opW_three (0, ob, k, s, cp, id, dt) w
  have Q0 := Lib.hid q0
  have Q1 := Lib.hid q1
  have Q2 := Lib.hid q2
  have HB := Lib.hid b3
  obtain ⟨r0, r1, r2, r3, r4, r5, r6⟩ := Q0.out.sevenO
  obtain ⟨s0, s1, s2, s3, s4, s5⟩ := Q1.out.sixO
  obtain ⟨t0, t1, t2⟩ := Q2.out.threeO
  have f0 := Q1.out.free 0
  have f1 := Q1.out.free 1
  have f2 := Q1.out.free 2
  have f3 := Q1.out.free 3
  have f4 := Q1.out.free 4
  have f5 := Q1.out.free 5
  have g0 := Q2.out.free 0
  have g1 := Q2.out.free 1
  have g2 := Q2.out.free 2
  clear q0 q1 q2 b3
  have HN := Lib.hid (enew18 k s cp (opW (0, ob, k, s, cp, id, dt) w))
  rw [hz] at HN
  clear hz
  go_enter Tryz.func34, Tryz.ntmps34
  go_wp2_with fail
  refine HN.out.mono ?_
  rintro e w2 ⟨nK, nS, nC, nE, A, d, rfl, ⟨h2, -⟩, hs, hx, hb⟩
  obtain ⟨e1, e2, e3, e4⟩ := h2 trivial
  subst e1 e2 e3 e4
  have b4 : Below w2.heap.size w2 (w2.alloc (.cells #[.int .i64 nK, .int .i64 nS, .int .i64 nC, .slice A 0 d] 25)) := (Below.refl _ _).alloc (Nat.le_refl _) _
  have hbb := chain hb b4
  have P0 := Lib.hid (Q0.out.keep hbb)
  have P1 := Lib.hid (Q1.out.keep hbb)
  have P2 := Lib.hid (Q2.out.keep hbb)
  have PS := Lib.hid (Box.new w2 25 #[.int .i64 nK, .int .i64 nS, .int .i64 nC, .slice A 0 d])
  have HB2 := Lib.hid (chain HB.out hbb)
  have HSo := Lib.hid hs
  have HXs := Lib.hid (Recs.below hx b4)
  have HG := Lib.hid (show w.heap.size + 1 + 1 < w2.heap.size from Nat.lt_of_lt_of_le Q2.out.lt hb.size)
  clear hbb b4 hb hx h2 HN r0 r1 r2 r3 r4 r5 r6 s0 s1 s2 s3 s4 s5 t0 t1 t2 f0 f1 f2 f3 f4 f5 g0 g1 g2
  obtain ⟨r0, r1, r2, r3, r4, r5, r6⟩ := P0.out.sevenO
  obtain ⟨s0, s1, s2, s3, s4, s5⟩ := P1.out.sixO
  obtain ⟨t0, t1, t2⟩ := P2.out.threeO
  obtain ⟨p0, p1, p2, p3, -, -, -, -⟩ := PS.out.four
  have f0 := P1.out.free 0
  have f1 := P1.out.free 1
  have f2 := P1.out.free 2
  have f3 := P1.out.free 3
  have f4 := P1.out.free 4
  have f5 := P1.out.free 5
  have g0 := P2.out.free 0
  have g1 := P2.out.free 1
  have g2 := P2.out.free 2
  have hgg := HG.out
  go_upto_region 6 with (fail)
  refine wp_heldK_bar [(8, (fun (w' : World) => w'.cell? ⟨w.heap.size, 1, none⟩ = some (.int .u64 (ob : Int)) ∧ w'.cell? ⟨w.heap.size, 2, none⟩ = some (.int .i64 nK) ∧ w'.cell? ⟨w2.heap.size, 0, none⟩ = some (.int .i64 nK) ∧ w'.cell? ⟨w2.heap.size, 1, none⟩ = some (.int .i64 nS) ∧ w'.cell? ⟨w2.heap.size, 2, none⟩ = some (.int .i64 nC) ∧ w'.cell? ⟨w2.heap.size, 3, none⟩ = some (.slice A 0 d)))] 9 (by kernel_rfl) (by decide) ?_
  have hS0 := (show ((fun (w' : World) => w'.cell? ⟨w.heap.size, 1, none⟩ = some (.int .u64 (ob : Int)) ∧ w'.cell? ⟨w.heap.size, 2, none⟩ = some (.int .i64 nK) ∧ w'.cell? ⟨w2.heap.size, 0, none⟩ = some (.int .i64 nK) ∧ w'.cell? ⟨w2.heap.size, 1, none⟩ = some (.int .i64 nS) ∧ w'.cell? ⟨w2.heap.size, 2, none⟩ = some (.int .i64 nC) ∧ w'.cell? ⟨w2.heap.size, 3, none⟩ = some (.slice A 0 d))) (w2.alloc (.cells #[.int .i64 nK, .int .i64 nS, .int .i64 nC, .slice A 0 d] 25)).drew from ⟨r1, r2, p0, p1, p2, p3⟩)
  refine headK_take (i := 0) (v := ?_) rfl (by kernel_rfl) (fun _ _ _ h => h) (fun _ _ _ h => passed_ready h.1) (Or.inl ⟨by rfl, ?hy1⟩) ⟨fun _ => hS0, trivial⟩ ?rest1
  case hy1 => intro w _; go_simp; try (with_reducible rfl)
  case rest1 =>
  try simp only [Act.put, List.setIfInBounds_toArray, List.set_cons_zero, List.set_cons_succ]
  refine headK_load 0 8 _ rfl (i := 1) (v := ?_) rfl (by kernel_rfl) (fun _ _ _ h => h) (fun _ _ _ h => passed_ready h.1) (Or.inl ⟨by rfl, ?hy2⟩) ⟨fun _ => hS0, trivial⟩ ?rest2
  case hy2 => intro w hSw; (try dsimp only at hSw); obtain ⟨hc0, hc1, hc2, hc3, hc4, hc5⟩ := hSw; go_simp; try (with_reducible rfl)
  case rest2 =>
  try simp only [Act.put, List.setIfInBounds_toArray, List.set_cons_zero, List.set_cons_succ]
  refine headK_load 0 8 _ rfl (i := 2) (v := ?_) rfl (by kernel_rfl) (fun _ _ _ h => h) (fun _ _ _ h => passed_ready h.1) (Or.inl ⟨by rfl, ?hy3⟩) ⟨fun _ => hS0, trivial⟩ ?rest3
  case hy3 => intro w hSw; (try dsimp only at hSw); obtain ⟨hc0, hc1, hc2, hc3, hc4, hc5⟩ := hSw; go_simp; try (with_reducible rfl)
  case rest3 =>
  try simp only [Act.put, List.setIfInBounds_toArray, List.set_cons_zero, List.set_cons_succ]
  refine headK_take (i := 3) (v := ?_) rfl (by kernel_rfl) (fun _ _ _ h => h) (fun _ _ _ h => passed_ready h.1) (Or.inl ⟨by rfl, ?hy4⟩) ⟨fun _ => hS0, trivial⟩ ?rest4
  case hy4 => intro w _; go_simp; try (with_reducible rfl)
  case rest4 =>
  try simp only [Act.put, List.setIfInBounds_toArray, List.set_cons_zero, List.set_cons_succ]
  refine headK_take (i := 4) (v := ?_) rfl (by kernel_rfl) (fun _ _ _ h => h) (fun _ _ _ h => passed_ready h.1) (Or.inl ⟨by rfl, ?hy5⟩) ⟨fun _ => hS0, trivial⟩ ?rest5
  case hy5 => intro w _; go_simp; try (with_reducible rfl)
  case rest5 =>
  try simp only [Act.put, List.setIfInBounds_toArray, List.set_cons_zero, List.set_cons_succ]
  refine headK_load 0 8 _ rfl (i := 5) (v := ?_) rfl (by kernel_rfl) (fun _ _ _ h => h) (fun _ _ _ h => passed_ready h.1) (Or.inl ⟨by rfl, ?hy6⟩) ⟨fun _ => hS0, trivial⟩ ?rest6
  case hy6 => intro w hSw; (try dsimp only at hSw); obtain ⟨hc0, hc1, hc2, hc3, hc4, hc5⟩ := hSw; go_simp; try (with_reducible rfl)
  case rest6 =>
  try simp only [Act.put, List.setIfInBounds_toArray, List.set_cons_zero, List.set_cons_succ]
  refine headK_take (i := 6) (v := ?_) rfl (by kernel_rfl) (fun _ _ _ h => h) (fun _ _ _ h => passed_ready h.1) (Or.inl ⟨by rfl, ?hy7⟩) ⟨fun _ => hS0, trivial⟩ ?rest7
  case hy7 => intro w _; go_simp; try (with_reducible rfl)
  case rest7 =>
  try simp only [Act.put, List.setIfInBounds_toArray, List.set_cons_zero, List.set_cons_succ]
  refine headK_one (i := 7) (by kernel_rfl) rfl (fun K hK => ?_)
  go_simp
  have hS0 := (show ((fun (w' : World) => w'.cell? ⟨w.heap.size, 1, none⟩ = some (.int .u64 (ob : Int)) ∧ w'.cell? ⟨w.heap.size, 2, none⟩ = some (.int .i64 nK) ∧ w'.cell? ⟨w2.heap.size, 0, none⟩ = some (.int .i64 nK) ∧ w'.cell? ⟨w2.heap.size, 1, none⟩ = some (.int .i64 nS) ∧ w'.cell? ⟨w2.heap.size, 2, none⟩ = some (.int .i64 nC) ∧ w'.cell? ⟨w2.heap.size, 3, none⟩ = some (.slice A 0 d))) (((((((w2.alloc (.cells #[.int .i64 nK, .int .i64 nS, .int .i64 nC, .slice A 0 d] 25)).setCell ⟨w.heap.size + 1, 0, none⟩ (.int .u64 (ob : Int))).setCell ⟨w.heap.size + 1, 1, none⟩ (.int .i64 nK)).setCell ⟨w.heap.size + 1, 2, none⟩ (.int .i64 nS)).setCell ⟨w.heap.size + 1, 3, none⟩ (.int .i64 nC)).setCell ⟨w.heap.size + 1, 4, none⟩ (.slice A 0 d)).setCell ⟨w.heap.size + 1, 5, none⟩ (.int .i64 0)).drew from ⟨(P0.out.far6o (g' := w.heap.size + 1) (by omega) (.int .u64 (ob : Int)) (.int .i64 nK) (.int .i64 nS) (.int .i64 nC) (.slice A 0 d) (.int .i64 0)).drew.cell 1, (P0.out.far6o (g' := w.heap.size + 1) (by omega) (.int .u64 (ob : Int)) (.int .i64 nK) (.int .i64 nS) (.int .i64 nC) (.slice A 0 d) (.int .i64 0)).drew.cell 2, (PS.out.far6o (g' := w.heap.size + 1) (by omega) (.int .u64 (ob : Int)) (.int .i64 nK) (.int .i64 nS) (.int .i64 nC) (.slice A 0 d) (.int .i64 0)).drew.cell 0, (PS.out.far6o (g' := w.heap.size + 1) (by omega) (.int .u64 (ob : Int)) (.int .i64 nK) (.int .i64 nS) (.int .i64 nC) (.slice A 0 d) (.int .i64 0)).drew.cell 1, (PS.out.far6o (g' := w.heap.size + 1) (by omega) (.int .u64 (ob : Int)) (.int .i64 nK) (.int .i64 nS) (.int .i64 nC) (.slice A 0 d) (.int .i64 0)).drew.cell 2, (PS.out.far6o (g' := w.heap.size + 1) (by omega) (.int .u64 (ob : Int)) (.int .i64 nK) (.int .i64 nS) (.int .i64 nC) (.slice A 0 d) (.int .i64 0)).drew.cell 3⟩)
  refine hK.out _ _ ⟨fun _ => hS0, trivial⟩ ?_
  clear hK K
  try simp only [Act.put, List.setIfInBounds_toArray, List.set_cons_zero, List.set_cons_succ]
  refine headK_one (i := 8) (by kernel_rfl) rfl (fun K hK => ?_)
  go_simp
  refine hK.out _ _ ⟨fun h => Bool.noConfusion (show true = false from h), trivial⟩ ?_
  clear hK K
  try simp only [Act.put, List.setIfInBounds_toArray, List.set_cons_zero, List.set_cons_succ]
  refine ⟨by kernel_rfl, ?_⟩
  refine wpAny_done (by kernel_rfl) ?_ _
  go_wp2_with fail
  refine close_two Tryz.results34 rfl rfl rfl ((P1.out.put6o.far3o (by omega) _ _ _).drew) (((P2.out.far6o (g' := w.heap.size + 1) (by omega) _ _ _ _ _ _).put3o).drew) Tryz.underlying27 Tryz.underlying36 rfl rfl (by kernel_rfl) (by kernel_rfl) ?_
  exact ⟨A, d, none, 0, rfl, HSo.out, Recs.nil _ _, Texts.nil _ _, Nat.le_refl _, Nat.zero_le _, (below_set3o (below_set6o HB2.out (by omega) _ _ _ _ _ _) (by omega) _ _ _).drew⟩
theorem oopen_any (c : CallR) (w : World) : Calls Tryz.prog 34 #[callV c] w (DoOut (openO c).1 (openO c).2 w) := by
  obtain ⟨what, ob, k, s, cp, id, dt⟩ := c
  by_cases h0 : what = 0
  · subst h0
    cases hz : sizesB k s cp with
    | false =>
      have HE : openO (0, ob, k, s, cp, id, dt) = (obZ, (2, 0, [])) := by unfold openO; rw [if_pos rfl, if_neg (by rw [hz]; decide)]
      rw [HE]; exact oopen_no2 ob k s cp id dt hz w
    | true =>
      have HE : openO (0, ob, k, s, cp, id, dt) = ((ob, (k, s, cp, []), 0), (0, k, [])) := by unfold openO; rw [if_pos rfl, if_pos hz]
      rw [HE]; exact oopen_yes ob k s cp id dt hz w
  · have HE : openO (what, ob, k, s, cp, id, dt) = (obZ, (1, 0, [])) := if_neg h0
    rw [HE]; exact oopen_no1 what ob k s cp id dt h0 w
end
section
/- Layer 18: the reference's Open; few; alive. -/
set_option linter.unusedVariables false
set_option linter.unusedSimpArgs false
open Go.RowKit Go.Lib
set_option maxRecDepth 100000
abbrev dZ : Array Value := #[.int .u64 0, .int .i64 0, .int .i64 0, .int .i64 0, .slice none 0 0, .int .i64 0, .int .i64 0, .int .i64 0, .slice none 0 0]
def fewN (s : Int) (l : Nat) : Nat := if 24 < min l 66 ∧ 6 < s then 24 else min l 66
/-- A call's own cut: at most 66 symbols, of great ones 24. -/
def fewO (o : ObR) : ObR := (o.1, (o.2.1.1, o.2.1.2.1, o.2.1.2.2.1, o.2.1.2.2.2.take (fewN o.2.1.2.1 o.2.1.2.2.2.length)), o.2.2)
theorem fewN_le (s : Int) (l : Nat) : fewN s l ≤ l ∧ fewN s l ≤ 66 := by unfold fewN; split <;> omega
theorem oW_gen (a b : Array Value) (w : World) : Box ((w.alloc (.cells a 27)).alloc (.cells b 27)) w.heap.size 27 a ∧ Box ((w.alloc (.cells a 27)).alloc (.cells b 27)) (w.heap.size + 1) 27 b ∧ Below w.heap.size w ((w.alloc (.cells a 27)).alloc (.cells b 27)) := by
  refine ⟨(Box.new w _ _).alloc _, ?_, ((Below.refl _ _).alloc (Nat.le_refl _) _).alloc (by simp) _⟩
  have q := Box.new (w.alloc (.cells a 27)) 27 b
  simpa only [World.size_alloc] using q
abbrev oC (id : Nat) (k s c : Int) (A : Option Addr) (m d : Nat) (cl : Int) : Array Value := #[.int .u64 (id : Int), .int .i64 k, .int .i64 s, .int .i64 c, .slice A m d, .int .i64 cl]
abbrev oZ : Array Value := #[.int .u64 0, .int .i64 0, .int .i64 0, .int .i64 0, .slice none 0 0, .int .i64 0]
def FewOut (o : ObR) (w0 w : World) (e : Ending) (w' : World) : Prop := ∃ A d, e = .returned (.agg (obA o A d)) ∧ SliceOk A o.2.1.2.2.2.length d ∧ Syms w0 A o.2.1.2.2.2.length o.2.1.2.2.2 ∧ Below w.heap.size w w'
set_option maxHeartbeats 4000000 in
theorem few18_any (v : Value) (o : ObR) (w0 w : World) (h : ObAt w0 v o) : Calls Tryz.prog 8 #[v] w (FewOut (fewO o) w0 w) := by
  obtain ⟨A, d, rfl, hs, hx⟩ := h
  obtain ⟨id, ⟨k, s, c, xs⟩, cl⟩ := o
  dsimp only at hs hx
  have h1 := fewN_le s xs.length
  have hf : (xs.take (fewN s xs.length)).length = fewN s xs.length := by rw [List.length_take]; omega
  have HOut := Lib.hid (fun (m : Nat) (hm : m = fewN s xs.length) (w' : World) (hb : Below w.heap.size w w') => show FewOut (fewO (id, (k, s, c, xs), cl)) w0 w (.returned (.agg (oC id k s c A m d cl))) w' from by
    subst hm
    refine ⟨A, d, ?_, ⟨?_, hs.2.1, fun e => ⟨?_, (hs.2.2 e).2⟩⟩, ?_, hb⟩
    · show _ = Ending.returned (.agg (obA (id, (k, s, c, xs.take (fewN s xs.length)), cl) A d))
      show _ = Ending.returned (.agg #[.int .u64 (id : Int), .int .i64 k, .int .i64 s, .int .i64 c, .slice A (xs.take (fewN s xs.length)).length d, .int .i64 cl])
      rw [hf]
    · show (xs.take (fewN s xs.length)).length ≤ d
      rw [hf]; exact Nat.le_trans h1.1 hs.1
    · show (xs.take (fewN s xs.length)).length = 0
      have := (hs.2.2 e).1
      rw [hf]; omega
    · show Syms w0 A (xs.take (fewN s xs.length)).length (xs.take (fewN s xs.length))
      rw [hf]; exact hx.take _ h1.1)
  obtain ⟨m, hm⟩ : ∃ m, m = min xs.length 66 := ⟨_, rfl⟩
  have hdm : min (xs.length : Int) 66 = (m : Int) := by omega
  have hm0 : (0 : Int) ≤ (m : Int) := by omega
  have hmd : (m : Int) ≤ (d : Int) := by have := hs.1; omega
  have HF := Lib.hid (show fewN s xs.length = if 24 < m ∧ 6 < s then 24 else m by unfold fewN; rw [hm])
  obtain ⟨q0, -, b4⟩ := oW_gen (oC id k s c A xs.length d cl) oZ w
  have Q0 := Lib.hid q0
  have HL := Lib.hid (show ∃ l, l = xs.length from ⟨_, rfl⟩)
  clear hs hx h1 hf q0 b4 hm
  obtain ⟨l, hl⟩ := HL.out
  show Calls Tryz.prog 8 #[.agg (oC id k s c A xs.length d cl)] w (FewOut (fewO (id, (k, s, c, xs), cl)) w0 w)
  rw [← hl] at HOut hdm HF Q0 ⊢
  clear hl HL
  obtain ⟨r0, r1, r2, r3, r4, r5⟩ := Q0.out.sixO
  by_cases hl6 : (66 : Int) < (l : Int)
  · obtain rfl : m = 66 := by omega
    by_cases h2 : s > 6
    · have h24d : (24 : Int) ≤ (d : Int) := by omega
      have h66d : (66 : Int) ≤ (d : Int) := by omega
      have HO := Lib.hid (HOut.out 24 (by rw [HF.out]; rw [if_pos ⟨by omega, h2⟩]))
      obtain ⟨-, p1, b5⟩ := oW_gen (oC id k s c A 24 d cl) (oC id k s c A 24 d cl) w
      have P1 := Lib.hid p1
      have B5 := Lib.hid b5
      clear p1 b5 HOut HF
      go_enter Tryz.func8, Tryz.ntmps8
      go_wp2_with fail
      refine close_one Tryz.results8 rfl rfl P1.out Tryz.underlying27 rfl (by kernel_rfl) ?_
      exact HO.out _ B5.out
    · have h66d : (66 : Int) ≤ (d : Int) := by omega
      have HO := Lib.hid (HOut.out 66 (by rw [HF.out]; rw [if_neg (fun h => h2 h.2)]))
      obtain ⟨-, p1, b5⟩ := oW_gen (oC id k s c A 66 d cl) (oC id k s c A 66 d cl) w
      have P1 := Lib.hid p1
      have B5 := Lib.hid b5
      clear p1 b5 HOut HF
      go_enter Tryz.func8, Tryz.ntmps8
      go_wp2_with fail
      refine close_one Tryz.results8 rfl rfl P1.out Tryz.underlying27 rfl (by kernel_rfl) ?_
      exact HO.out _ B5.out
  · obtain rfl : m = l := by omega
    have hl7 : (m : Int) ≤ 66 := by omega
    by_cases h1 : (m : Int) > 24
    · have h24 : (24 : Int) ≤ (m : Int) := by omega
      by_cases h2 : s > 6
      · have h24d : (24 : Int) ≤ (d : Int) := by omega
        have HO := Lib.hid (HOut.out 24 (by rw [HF.out]; rw [if_pos ⟨by omega, h2⟩]))
        obtain ⟨-, p1, b5⟩ := oW_gen (oC id k s c A 24 d cl) (oC id k s c A 24 d cl) w
        have P1 := Lib.hid p1
        have B5 := Lib.hid b5
        clear p1 b5 HOut HF
        go_enter Tryz.func8, Tryz.ntmps8
        go_wp2_with fail
        refine close_one Tryz.results8 rfl rfl P1.out Tryz.underlying27 rfl (by kernel_rfl) ?_
        exact HO.out _ B5.out
      · have h24e : (24 : Int) ≤ (m : Int) := h24
        have HO := Lib.hid (HOut.out m (by rw [HF.out]; rw [if_neg (fun h => h2 h.2)]))
        obtain ⟨-, p1, b5⟩ := oW_gen (oC id k s c A m d cl) (oC id k s c A m d cl) w
        have P1 := Lib.hid p1
        have B5 := Lib.hid b5
        clear p1 b5 HOut HF
        go_enter Tryz.func8, Tryz.ntmps8
        go_wp2_with fail
        refine close_one Tryz.results8 rfl rfl P1.out Tryz.underlying27 rfl (by kernel_rfl) ?_
        exact HO.out _ B5.out
    · have h24 : ¬ (24 : Int) < (m : Int) := by omega
      have HO := Lib.hid (HOut.out m (by rw [HF.out]; rw [if_neg (fun h => h1 (by omega))]))
      obtain ⟨-, p1, b5⟩ := oW_gen (oC id k s c A m d cl) (oC id k s c A m d cl) w
      have P1 := Lib.hid p1
      have B5 := Lib.hid b5
      clear p1 b5 HOut HF
      go_enter Tryz.func8, Tryz.ntmps8
      go_wp2_with fail
      refine close_one Tryz.results8 rfl rfl P1.out Tryz.underlying27 rfl (by kernel_rfl) ?_
      exact HO.out _ B5.out
theorem alive_open : openO (0, 7, 2, 1, 3, 0, ⟨#[]⟩) = ((7, (2, 1, 3, []), 0), (0, 2, [])) := by decide +kernel
set_option maxHeartbeats 4000000 in
theorem alive18_any (w : World) : Calls Tryz.prog 11 #[] w fun e w' => e = .returned (.bool true) ∧ Below w.heap.size w w' := by
  have hO := oopen_any (0, 7, 2, 1, 3, 0, ⟨#[]⟩) w
  rw [alive_open] at hO
  have HO := Lib.hid hO
  clear hO
  go_enter Tryz.func11, Tryz.ntmps11
  go_wp2_with fail
  refine HO.out.mono ?_
  rintro e w2 ⟨A, d, B, c, rfl, -, -, -, -, -, hb⟩
  have b1 : Below w2.heap.size w2 (w2.alloc (.cells (obA (7, (2, 1, 3, []), 0) A d) 27)) := (Below.refl _ _).alloc (Nat.le_refl _) _
  have b2 := b1.alloc b1.size (.cells #[.int .i64 0, .int .i64 2, .slice B 0 c] 36)
  have HB := Lib.hid (chain hb b2)
  clear b1 b2 hb HO
  go_wp2_with fail
  go_ret
  exact ⟨rfl, HB.out⟩
end
section
/- Layer 6, its arithmetic: mixed is one to one, so some number of a state is below whatever the bound leaves out. No program. -/
set_option linter.unusedVariables false
set_option linter.unusedSimpArgs false
def mixA (z : Nat) : Nat := ((z ^^^ z / 1073741824) * 13787848793156543929) % 18446744073709551616
def mixB (z : Nat) : Nat := ((z ^^^ z / 134217728) * 10723151780598845931) % 18446744073709551616
def mixN (z : Nat) : Nat := mixB (mixA z) ^^^ mixB (mixA z) / 2147483648
theorem shx_inj (k : Nat) (hk : 1 ≤ k) (x y : Nat) (h : x ^^^ x / 2 ^ k = y ^^^ y / 2 ^ k) : x = y := by
  have hd : (x ^^^ y) = (x ^^^ y) / 2 ^ k := by
    apply Nat.eq_of_testBit_eq
    intro i
    have h1 := congrArg (fun z => Nat.testBit z i) h
    simp only [Nat.testBit_xor, Nat.testBit_div_two_pow] at h1 ⊢
    revert h1
    cases x.testBit i <;> cases y.testBit i <;> cases x.testBit (i + k) <;> cases y.testBit (i + k) <;> decide
  have h0 : x ^^^ y = 0 := by
    rcases Nat.eq_zero_or_pos (x ^^^ y) with e | e
    · exact e
    · have : (x ^^^ y) / 2 ^ k < x ^^^ y := Nat.div_lt_self e (Nat.one_lt_two_pow (by omega))
      omega
  apply Nat.eq_of_testBit_eq
  intro i
  have h1 := congrArg (fun z => Nat.testBit z i) h0
  simp only [Nat.testBit_xor, Nat.zero_testBit] at h1
  revert h1
  cases x.testBit i <;> cases y.testBit i <;> decide
theorem mul_inj (c d q : Nat) (hcd : c * d = 1 + q * 18446744073709551616) (x y : Nat) (hx : x < 18446744073709551616) (hy : y < 18446744073709551616) (h : x * c % 18446744073709551616 = y * c % 18446744073709551616) : x = y := by
  have k : ∀ z, z < 18446744073709551616 → (z * c % 18446744073709551616) * d % 18446744073709551616 = z := fun z hz => by
    rw [Nat.mod_mul_mod, Nat.mul_assoc, hcd, Nat.mul_add, Nat.mul_one, ← Nat.mul_assoc, Nat.add_mul_mod_self_right, Nat.mod_eq_of_lt hz]
  rw [← k x hx, h, k y hy]
theorem xor_lt (x k : Nat) (hx : x < 18446744073709551616) : x ^^^ x / k < 18446744073709551616 :=
  Nat.xor_lt_two_pow (n := 64) hx (Nat.lt_of_le_of_lt (Nat.div_le_self _ _) hx)
theorem mixA_lt (z : Nat) : mixA z < 18446744073709551616 := Nat.mod_lt _ (by omega)
theorem mixB_lt (z : Nat) : mixB z < 18446744073709551616 := Nat.mod_lt _ (by omega)
theorem mixN_lt (z : Nat) : mixN z < 18446744073709551616 := xor_lt _ _ (mixB_lt _)
theorem mixA_inj (x y : Nat) (hx : x < 18446744073709551616) (hy : y < 18446744073709551616) (h : mixA x = mixA y) : x = y :=
  shx_inj 30 (by omega) x y (mul_inj 13787848793156543929 10871156337175269513 8125545580553827436 (by decide) _ _ (xor_lt x _ hx) (xor_lt y _ hy) h)
theorem mixB_inj (x y : Nat) (hx : x < 18446744073709551616) (hy : y < 18446744073709551616) (h : mixB x = mixB y) : x = y :=
  shx_inj 27 (by omega) x y (mul_inj 10723151780598845931 3573116690164977347 2077064247507883091 (by decide) _ _ (xor_lt x _ hx) (xor_lt y _ hy) h)
theorem mixN_inj (x y : Nat) (hx : x < 18446744073709551616) (hy : y < 18446744073709551616) (h : mixN x = mixN y) : x = y :=
  mixA_inj x y hx hy (mixB_inj _ _ (mixA_lt x) (mixA_lt y) (shx_inj 31 (by omega) _ _ h))
/-- The next state. -/
def nextS (s : Nat) : Nat := (s + 11400714819323198485) % 18446744073709551616
theorem nextS_lt (s : Nat) : nextS s < 18446744073709551616 := Nat.mod_lt _ (by omega)
/-- The state behind so many numbers. -/
def stN (s j : Nat) : Nat := (s + j * 11400714819323198485) % 18446744073709551616
theorem stN_succ (s j : Nat) : stN s (j + 1) = nextS (stN s j) := by
  unfold stN nextS
  rw [Nat.mod_add_mod, Nat.succ_mul, Nat.add_assoc]
theorem add_cancel (s a b : Nat) (h : (s + a) % 18446744073709551616 = (s + b) % 18446744073709551616) : a % 18446744073709551616 = b % 18446744073709551616 := by omega
theorem stN_next (s j : Nat) : stN (nextS s) j = stN s (j + 1) := by
  unfold stN nextS
  rw [Nat.mod_add_mod, Nat.succ_mul, Nat.add_assoc, Nat.add_comm 11400714819323198485]
theorem stN_lt (s j : Nat) : stN s j < 18446744073709551616 := Nat.mod_lt _ (by omega)
theorem stN_inj (s i j : Nat) (hi : i < 1000) (hj : j < 1000) (h : stN s i = stN s j) : i = j := by
  have h1 : i < 18446744073709551616 := by omega
  have h2 : j < 18446744073709551616 := by omega
  exact mul_inj 11400714819323198485 17428512612931826493 10771413168148108919 (by decide) i j h1 h2 (add_cancel _ _ _ h)
theorem pigeon : ∀ (n : Nat) (f : Nat → Nat), (∀ i, i ≤ n → f i < n) → ∃ i j, i < j ∧ j ≤ n ∧ f i = f j
  | 0, f, h => absurd (h 0 (Nat.le_refl _)) (Nat.not_lt_zero _)
  | n + 1, f, h => by
    by_cases hc : ∃ i, i ≤ n ∧ f i = f (n + 1)
    · obtain ⟨i, hi, e⟩ := hc
      exact ⟨i, n + 1, by omega, Nat.le_refl _, e⟩
    · have hne : ∀ i, i ≤ n → f i ≠ f (n + 1) := fun i hi e => hc ⟨i, hi, e⟩
      have hv := h (n + 1) (Nat.le_refl _)
      obtain ⟨i, j, hij, hj, e⟩ := pigeon n (fun i => if f i = n then f (n + 1) else f i) (fun i hi => by
        have h1 := h i (by omega)
        have h2 := hne i hi
        by_cases h3 : f i = n
        · simp only [if_pos h3]; omega
        · simp only [if_neg h3]; omega)
      have h1 := hne i (by omega)
      have h2 := hne j hj
      refine ⟨i, j, hij, by omega, ?_⟩
      by_cases h3 : f i = n <;> by_cases h4 : f j = n
      · rw [h3, h4]
      · simp only [if_pos h3, if_neg h4] at e; exact absurd e.symm h2
      · simp only [if_neg h3, if_pos h4] at e; exact absurd e h1
      · simpa only [if_neg h3, if_neg h4] using e
/-- A state whose next number serves. -/
def good (over s : Nat) : Prop := mixN (nextS s) + over < 18446744073709551616
instance (over s : Nat) : Decidable (good over s) := inferInstanceAs (Decidable (_ < _))
/-- One of the next so many serves. -/
def gw (over : Nat) : Nat → Nat → Prop
  | 0, _ => False
  | k + 1, s => good over s ∨ gw over k (nextS s)
theorem stN_zero (s : Nat) (hs : s < 18446744073709551616) : stN s 0 = s := by
  unfold stN
  rw [Nat.zero_mul, Nat.add_zero, Nat.mod_eq_of_lt hs]
theorem gw_of (over k : Nat) : ∀ (s j : Nat), j < k → good over (stN s j) → s < 18446744073709551616 → gw over k s := by
  induction k with
  | zero => exact fun s j h _ _ => absurd h (Nat.not_lt_zero _)
  | succ k ih =>
    intro s j h hg hs
    cases j with
    | zero => exact .inl (by rwa [stN_zero s hs] at hg)
    | succ j => exact .inr (ih (nextS s) j (Nat.lt_of_succ_lt_succ h) (by rw [stN_next]; exact hg) (nextS_lt s))
theorem diff_lt {a b m : Nat} (h1 : a < m) (h2 : m ≤ a + b) : a + b - m < b := by omega
theorem diff_inj {a c b m : Nat} (h1 : m ≤ a + b) (h2 : m ≤ c + b) (e : a + b - m = c + b - m) : a = c := by omega
theorem gw_all (over s : Nat) (ho : over < 512) (hs : s < 18446744073709551616) : gw over 512 s := by
  by_cases h : ∃ j, j < 512 ∧ good over (stN s j)
  · obtain ⟨j, hj, hg⟩ := h
    exact gw_of over 512 s j hj hg hs
  · exfalso
    have hb : ∀ j, j < 512 → 18446744073709551616 ≤ mixN (stN s (j + 1)) + over := fun j hj => by
      have h1 : ¬ good over (stN s j) := fun hg => h ⟨j, hj, hg⟩
      unfold good at h1
      rw [← stN_succ] at h1
      exact Nat.le_of_not_lt h1
    obtain ⟨i, j, hij, hj, e⟩ := pigeon over (fun j => mixN (stN s (j + 1)) + over - 18446744073709551616) (fun j hj => diff_lt (mixN_lt _) (hb j (Nat.lt_of_le_of_lt hj ho)))
    have hj2 : j < 512 := Nat.lt_of_le_of_lt hj ho
    have hi2 : i < 512 := Nat.lt_trans hij hj2
    have h3 := mixN_inj _ _ (stN_lt s (i + 1)) (stN_lt s (j + 1)) (diff_inj (hb i hi2) (hb j hj2) e)
    have h4 := stN_inj s (i + 1) (j + 1) (Nat.lt_trans (Nat.succ_lt_succ hi2) (by decide)) (Nat.lt_trans (Nat.succ_lt_succ hj2) (by decide)) h3
    have h5 : i = j := Nat.succ.inj h4
    exact absurd hij (by rw [h5]; exact Nat.lt_irrefl _)
/-- The number below n, and the state behind it; at most so many tries. -/
def belowF (n over : Nat) : Nat → Nat → Nat × Nat
  | 0, s => (s, 0)
  | k + 1, s => if good over s then (nextS s, mixN (nextS s) % n) else belowF n over k (nextS s)
def belowN (n s : Nat) : Nat × Nat := belowF n (18446744073709551616 % n) 512 s
theorem over_lt (n : Nat) (h1 : 1 ≤ n) (h2 : n ≤ 512) : 18446744073709551616 % n < 512 := Nat.lt_of_lt_of_le (Nat.mod_lt _ (by omega)) h2
theorem belowF_lt (n over : Nat) (hn : 1 ≤ n) (k : Nat) : ∀ (s : Nat), s < 18446744073709551616 → (belowF n over k s).1 < 18446744073709551616 ∧ (belowF n over k s).2 < n := by
  induction k with
  | zero => exact fun s hs => ⟨hs, hn⟩
  | succ k ih =>
    intro s hs
    unfold belowF
    split
    · exact ⟨nextS_lt s, Nat.mod_lt _ hn⟩
    · exact ih (nextS s) (nextS_lt s)
theorem belowN_lt (n s : Nat) (hn : 1 ≤ n) (hs : s < 18446744073709551616) : (belowN n s).1 < 18446744073709551616 ∧ (belowN n s).2 < n := belowF_lt n _ hn 512 s hs
end
end Go.Proofs.YtcikoaeiopbbbaaGreat
