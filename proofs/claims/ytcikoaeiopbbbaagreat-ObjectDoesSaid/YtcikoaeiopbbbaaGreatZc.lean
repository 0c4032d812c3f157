/- Parts: Rnd1, RngC, Rnd3, Rnd4, Rnd5, Rnd2, RndR1, RndS, RndR2, RndR3, RefNums, RndH, OwnU, DegM, Deg1, DegW1, QTail, DegW2. -/
import Derived.Test.YtcikoaeiopbbbaaGreatZb
import Derived.BigQuiet
import Derived.BigRegion
import Derived.Deep.DeepCutAuto
import Derived.Deep.LoopGhost
import Derived.Deep.QuietTactic
import Derived.Deep.RegionWith
import Derived.IntWalk
import Derived.Lib.BitFns
import Derived.Lib.Hide
import Derived.Lib.Slices
import Derived.Lib.Small
import Derived.Lib.Strings
import Derived.Lib.Walk
import Derived.LoopIn
import Derived.LoopNIn
import Derived.Maps.AppendAt
import Derived.OwnWalkIn
import Derived.RangeFuncBound
import Derived.RangeFuncBox
import Derived.RangeFuncCalls
import Derived.RangeFuncLeaves
import Derived.RangeFuncNested
import Derived.RegionTactic
import Derived.Shelf.Abstract
import Derived.Shelf.RegionOpen
import Derived.Sort.LoopGhostIn
import Derived.Sort.QuietIn
import Derived.Sort.QuietTacIn
import Derived.Sort.QuietThIn
import Derived.StillTail
import Derived.TacticsIn
import Derived.TacticsInMore
import Derived.Test.YtcikoaeiopbbbaaGreatChecked
import Derived.Test.YtcikoaeiopbbbaaGreatRows
import Derived.Test.YtcikoaeiopbbbaaGreatShelf
import Derived.WalkKit
namespace Go.Proofs.YtcikoaeiopbbbaaGreat
section
/- Contracts of layer 6: mixed, Next, Start, boundMayBe; the reference's Mixed, rest. -/
set_option linter.unusedVariables false
set_option linter.unusedSimpArgs false
open Go.RowKit
theorem xor_cast (x k : Nat) (hx : x < 18446744073709551616) : bits BinOp.xor IntKind.u64 (x : Int) ((x / k : Nat) : Int) = ((x ^^^ x / k : Nat) : Int) :=
  u64_xor_nat _ _ (by omega) (by have := Nat.div_le_self x k; omega)
theorem div_cast (x k : Nat) : (x : Int) / (k : Int) = ((x / k : Nat) : Int) := by simp
theorem mixA_int (z : Nat) (hz : z < 18446744073709551616) : IntKind.u64.wrap (bits BinOp.xor IntKind.u64 (z : Int) ((z : Int) / 1073741824) * 13787848793156543929) = ((mixA z : Nat) : Int) := by
  rw [show (z : Int) / 1073741824 = ((z / 1073741824 : Nat) : Int) from div_cast z 1073741824, xor_cast z _ hz, IntKind.wrap_u64, mixA, Int.natCast_emod, Int.natCast_mul]
  rfl
theorem mixB_int (z : Nat) (hz : z < 18446744073709551616) : IntKind.u64.wrap (bits BinOp.xor IntKind.u64 (z : Int) ((z : Int) / 134217728) * 10723151780598845931) = ((mixB z : Nat) : Int) := by
  rw [show (z : Int) / 134217728 = ((z / 134217728 : Nat) : Int) from div_cast z 134217728, xor_cast z _ hz, IntKind.wrap_u64, mixB, Int.natCast_emod, Int.natCast_mul]
  rfl
theorem mixN_int (z : Nat) : bits BinOp.xor IntKind.u64 ((mixB (mixA z) : Nat) : Int) (((mixB (mixA z) : Nat) : Int) / 2147483648) = ((mixN z : Nat) : Int) := by
  rw [show ((mixB (mixA z) : Nat) : Int) / 2147483648 = ((mixB (mixA z) / 2147483648 : Nat) : Int) from div_cast _ 2147483648, xor_cast _ _ (mixB_lt _), mixN]
theorem tdiv_wrap (x k : Nat) (hx : x < 18446744073709551616) : IntKind.u64.wrap ((x : Int).tdiv (k : Int)) = (x : Int) / (k : Int) := by
  rw [Int.tdiv_eq_ediv_of_nonneg (Int.natCast_nonneg x), div_cast]
  exact IntWalk.u64_in _ ⟨Int.natCast_nonneg _, by have := Nat.div_le_self x k; omega⟩
theorem rest_int (n : Nat) (h1 : 1 ≤ n) (h2 : n ≤ 512) : (IntKind.u64.wrap (18446744073709551615 % (n : Int) + 1)).tmod (n : Int) = ((18446744073709551616 % n : Nat) : Int) := by
  have e : (18446744073709551615 : Int) % (n : Int) = ((18446744073709551615 % n : Nat) : Int) := rfl
  have hl : 18446744073709551615 % n < n := Nat.mod_lt _ h1
  have e2 : (18446744073709551615 % n + 1) % n = 18446744073709551616 % n := Nat.mod_add_mod _ _ _
  rw [e]
  generalize 18446744073709551615 % n = r at *
  generalize 18446744073709551616 % n = m at *
  rw [IntWalk.u64_in _ (by omega), Int.tmod_eq_emod_of_nonneg (by omega), ← e2]
  rfl
theorem ret_u64 (x y : Int) (h : x = y) : Ending.returned (.int .u64 x) = .returned (.int .u64 y) := by rw [h]
set_option maxHeartbeats 1000000 in
theorem mixed_any (z : Nat) (hz : z < 18446744073709551616) (w : World) : Calls Tryz.prog 197 #[.int .u64 z] w fun e w' => e = .returned (.int .u64 (mixN z : Nat)) ∧ w = w' := by
  go_enter Tryz.func197, Tryz.ntmps197
  go_wp2
  go_ret
  exact ⟨ret_u64 _ _ (by rw [mixA_int z hz, mixB_int _ (mixA_lt z), mixN_int]), rfl⟩
theorem refMixed_any (z : Nat) (hz : z < 18446744073709551616) (w : World) : Calls Tryz.prog 137 #[.int .u64 z] w fun e w' => e = .returned (.int .u64 (mixN z : Nat)) ∧ w = w' := by
  go_enter Tryz.func137, Tryz.ntmps137
  go_wp2
  go_ret
  exact ⟨ret_u64 _ _ (by rw [mixA_int z hz, show IntKind.u64.wrap (((mixA z : Nat) : Int).tdiv 134217728) = ((mixA z : Nat) : Int) / 134217728 from tdiv_wrap _ 134217728 (mixA_lt z), mixB_int _ (mixA_lt z), show IntKind.u64.wrap (((mixB (mixA z) : Nat) : Int).tdiv 2147483648) = ((mixB (mixA z) : Nat) : Int) / 2147483648 from tdiv_wrap _ 2147483648 (mixB_lt _), mixN_int]), rfl⟩
theorem bound_any (n : Int) (w : World) : Calls Tryz.prog 203 #[.int .i64 n] w fun e w' => e = .returned (.bool (decide (1 ≤ n ∧ n ≤ 512))) ∧ w = w' := by
  by_cases h : 1 ≤ n
  · by_cases h2 : n ≤ 512
    · rw [decide_eq_true ⟨h, h2⟩]
      go_enter Tryz.func203, Tryz.ntmps203
      go_wp2
      go_ret
      exact ⟨rfl, rfl⟩
    · rw [decide_eq_false (fun x => h2 x.2)]
      have t : decide (n ≤ 512) = false := by simpa using h2
      go_enter Tryz.func203, Tryz.ntmps203
      go_wp2
      go_ret
      exact ⟨by simp, rfl⟩
  · rw [decide_eq_false (fun x => h x.1)]
    have t : decide (1 ≤ n) = false := by simpa using h
    go_enter Tryz.func203, Tryz.ntmps203
    go_wp2
    go_ret
    exact ⟨by simp, rfl⟩
theorem rest_any (n : Nat) (h1 : 1 ≤ n) (h2 : n ≤ 512) (w : World) : Calls Tryz.prog 192 #[.int .u64 n] w fun e w' => e = .returned (.int .u64 (18446744073709551616 % n : Nat)) ∧ w = w' := by
  have g : (1 : Int) ≤ n := by omega
  go_enter Tryz.func192, Tryz.ntmps192
  go_wp2
  go_ret
  exact ⟨ret_u64 _ _ (rest_int n h1 h2), rfl⟩
theorem next_any (s : Nat) (hs : s < 18446744073709551616) (w : World) : Calls Tryz.prog 178 #[.int .u64 s] w fun e w' => e = .returned (.tuple #[.int .u64 (nextS s : Nat), .int .u64 (mixN (nextS s) : Nat)]) ∧ w = w' := by
  have e : IntKind.u64.wrap ((s : Int) + 11400714819323198485) = ((nextS s : Nat) : Int) := by
    rw [IntKind.wrap_u64, nextS]; rfl
  have HM := Lib.hid (mixed_any (nextS s) (nextS_lt s))
  generalize nextS s = t at *
  go_enter Tryz.func178, Tryz.ntmps178
  go_wp2_with fail
  refine (HM.out _).mono ?_
  rintro e' w1 ⟨rfl, rfl⟩
  go_wp2_with fail
  go_ret2
  exact ⟨rfl, rfl⟩
theorem start_any (s : Nat) (hs : s < 18446744073709551616) (w : World) : Calls Tryz.prog 179 #[.int .u64 s] w fun e w' => e = .returned (.int .u64 (mixN s : Nat)) ∧ w = w' := by
  have HM := Lib.hid (mixed_any s hs)
  go_enter Tryz.func179, Tryz.ntmps179
  go_wp2_with fail
  refine (HM.out _).mono ?_
  rintro e' w1 ⟨rfl, rfl⟩
  go_wp2_with fail
  go_ret
  exact ⟨rfl, rfl⟩
end
section
/- A law of one's own for 'for .. := range seq' where the iterator keeps its state in a box of its own (a captured variable), and ends only when the body does. No program. -/
set_option linter.unusedVariables false
set_option linter.unusedSimpArgs false
open Go.RowKit
variable {F : Fence} {n : Nat} {P : Program}
/-- What such an iterator promises: s is its state, B its box, next what a round is handed; k rounds at most are to come. -/
def SeqCell {σ : Type} (F : Fence) (n : Nat) (P : Program) (g : Nat) (lb : Array Value) (encs : σ → Array Value) (next : σ → σ) (B : Nat) (T : TypeId) (val : σ → Value) : Prop :=
  ∀ (l : Nat) (J : Nat → σ → World → Prop) (Jx : World → Prop) (k₀ : Nat) (s₀ : σ) (W : World),
    (∀ k s W v, J k s W → J k s (W.setCell ⟨B, 0, none⟩ v)) → (∀ k s W, J k s W → J k s W.drew) → (∀ s W, ¬ J 0 s W) →
    (∀ k s W, J (k + 1) s W → YieldAt F (n - 1) P l (encs (next s)) W fun e W' => (e = .returned (.bool true) ∧ J k (next s) W' ∧ W'.heap[B]? = W.heap[B]?) ∨ (e = .returned (.bool false) ∧ Jx W')) →
    J k₀ s₀ W → Boxed W B T (val s₀) →
    CallsIn F n P g (#[.func (.yield l) #[] #[]] ++ lb) W fun e W' => (∃ v, e = .returned v) ∧ Jx W'
/-- How a round may be left. -/
def postCell {σ : Type} (A B : Nat) (I : Nat → σ → World → Prop) (Ix : World → Prop) (k : Nat) (s : σ) (W : World) : Exit → Act → World → Prop
  | .normal, _, W' => KeepsFrom A W W' ∧ W'.heap[B]? = W.heap[B]? ∧ I k s W'
  | .ret, _, W' => KeepsFrom A W W' ∧ Ix W'
  | .exit _, _, _ => False
  | .goto _, _, _ => False
  | .panic _, _, _ => False
  | .outgrown, _, _ => False
theorem drew_own {β : Type} {B : Nat} {I : β → World → Prop} (h : OwnFrom B I) {s : β} {W : World} (hs : I s W) : I s W.drew :=
  h s W W.drew none hs ⟨rfl, rfl, rfl, Nat.le_refl _, fun _ _ _ => rfl⟩ (fun r e => by cases e)
theorem range_cell {σ : Type} {g : Operand} {ps : Array Tmp} {assign body : Code} {Q : Exit → Act → World → Prop} {a : Act} {w : World}
    (hro : F.round = none) (h1 : 1 ≤ n) {gf : Nat} {lb : Array Value} (hg : a.eval g = .func (.func gf) #[] lb) (hFg : F.fn gf) (eg : ∀ args w, (callFunc gf args).run P w = .ok (.enter gf args) w)
    {encs : σ → Array Value} {next : σ → σ} {B : Nat} {T : TypeId} {val : σ → Value} (hseq : SeqCell F (n - 1) P gf lb encs next B T val) (hps : ∀ x, (encs x).size = ps.size)
    (I : Nat → σ → World → Prop) (Ix : World → Prop) (hI : OwnFrom w.heap.size (fun (p : Nat × σ) W => I p.1 p.2 W)) (hIx : OwnFrom w.heap.size (fun (_ : Unit) W => Ix W))
    (hIB : ∀ k s W v, I k s W → I k s (W.setCell ⟨B, 0, none⟩ v)) (hI0 : ∀ s W, ¬ I 0 s W) (k₀ : Nat) (s₀ : σ) (h0 : I k₀ s₀ w) (hbox : Boxed w B T (val s₀)) (a₁ : σ → Act)
    (hassign : ∀ (l : Nat) (x : σ) (W : World) (K : Act → World → Prop), K (a₁ x) W →
      assign.wpIn (F.inRound l) (n - 1 - 1) P (Exit.then K (fun _ _ _ => False)) { tmps := (ps.zip (encs x)).foldl (fun t (p, v) => t.setIfInBounds p v) a.tmps, defers := [] } W)
    (hbody : ∀ (l k : Nat) (s : σ) (W : World), I (k + 1) s W → body.wpIn (F.inRound l) (n - 1 - 1) P (postCell w.heap.size B I Ix k (next s) W) (a₁ (next s)) W)
    (hstop : ∀ (D : Nat) (W : World), w.heap.size ≤ D → Ix W → W.heap[D]? = some (.deferred (some [])) → Code.ret.wpIn F n P Q { a with defers := { target := .collected D, args := #[] } :: a.defers } W) :
    (Code.rangeFunc g ps assign body).wpIn F n P Q a w := by
  have hBlt : B < w.heap.size := hbox.lt
  refine wpIn_rangeFunc ?_
  intro fn hfn
  rw [hro]
  obtain ⟨rc, hrc⟩ : ∃ rc : LoopState → Option Code → Loop, rc = fun st pe => { state := st, pending := pe, fn, tmps := a.tmps, params := ps, assign, body, defers := w.heap.size } := ⟨_, rfl⟩
  obtain ⟨W1, hW1⟩ : ∃ W1, (w.alloc (.deferred (some []))).alloc (.loop (rc .ready none)) = W1 := ⟨_, rfl⟩
  have hL1 : W1.heap[w.heap.size + 1]? = some (.loop (rc .ready none)) := by
    rw [← hW1]; have := World.alloc_heap_new (w.alloc (.deferred (some []))) (.loop (rc .ready none)); rwa [World.size_alloc] at this
  have hK1 : W1.heap[w.heap.size]? = some (.deferred (some [])) := by
    rw [← hW1]; exact (Below.heap_alloc _ _ _ (by simp)).trans (World.alloc_heap_new w _)
  have hI1 : I k₀ s₀ W1 := by rw [← hW1]; exact hI.alloc (s := (k₀, s₀)) _ (hI.alloc (s := (k₀, s₀)) _ h0)
  have hB1 : Boxed W1 B T (val s₀) := by rw [← hW1]; exact (hbox.alloc _).alloc _
  refine ⟨w.heap.size + 1, [{ target := .collected w.heap.size, args := #[] }], W1, { target := .fn (.func gf) lb, args := #[.func (.yield (w.heap.size + 1)) #[] #[]] }, W1, gf,
    #[.func (.yield (w.heap.size + 1)) #[] #[]] ++ lb, W1, ?_, ?_, ?_, ?_, fun _ => h1, ?_⟩
  · rw [← hW1, hrc]; exact run_enterLoop_outer _ _ _ _ _
  · simp only [resolve, hg]
    simp [go_sem]
  · intro f' hf'; simp [Target.leads] at hf'; subst hf'; exact hFg
  · simp [invoke, go_sem, eg]
  · have other : ∀ (k : Nat) (W : World) (v : Value), w.heap.size ≤ k → (W.setCell ⟨B, 0, none⟩ v).heap[k]? = W.heap[k]? := fun k W v hk => Below.heap_setCell W ⟨B, 0, none⟩ v k (by show k ≠ B; omega)
    refine (hseq (w.heap.size + 1)
      (fun k s W => I k s W ∧ W.heap[w.heap.size + 1]? = some (.loop (rc .ready none)) ∧ W.heap[w.heap.size]? = some (.deferred (some [])))
      (fun W => Ix W ∧ W.heap[w.heap.size + 1]? = some (.loop (rc .done (some .ret))) ∧ W.heap[w.heap.size]? = some (.deferred (some [])))
      k₀ s₀ W1
      (fun k s W v hs => ⟨hIB k s W v hs.1, (other _ W v (by omega)).trans hs.2.1, (other _ W v (Nat.le_refl _)).trans hs.2.2⟩)
      (fun k s W hs => ⟨drew_own hI (s := (k, s)) hs.1, hs.2.1, hs.2.2⟩)
      (fun s W hs => hI0 s W hs.1) ?_ ⟨hI1, hL1, hK1⟩ hB1).mono ?_
    · rintro k s W ⟨hi, hl, hk⟩
      have hlt : w.heap.size + 1 < W.heap.size := (Array.getElem?_eq_some_iff.1 hl).1
      have hy := run_yield (P := P) (args := encs (next s)) hl (by rw [hrc]; exact hps _)
      rw [hrc] at hy
      refine ⟨fn, _, assign, body, hy, roundIn_of_wpIn hfn (hassign _ (next s) W _ ⟨_, run_beginRound hl (by rw [hrc]), ?_⟩)⟩
      have hl2 : (W.putObj (w.heap.size + 1) (.loop { rc .ready none with state := .busy })).heap[w.heap.size + 1]? = some (.loop { rc .ready none with state := .busy }) := World.putObj_heap_same hlt
      have hk2 : (W.putObj (w.heap.size + 1) (.loop { rc .ready none with state := .busy })).heap[w.heap.size]? = some (.deferred (some [])) := (World.putObj_heap_other (by omega)).trans hk
      have hb2 : ∀ (V : World) (o : Obj), (V.putObj (w.heap.size + 1) o).heap[B]? = V.heap[B]? := fun V o => World.putObj_heap_other (by omega)
      refine wpIn_mono (hbody _ k s _ (hI.putObj (s := (k + 1, s)) _ hi (by omega) hl rfl)) ?_
      have fin : ∀ (jump : Option Code) (W3 : World), KeepsFrom w.heap.size (W.putObj (w.heap.size + 1) (.loop { rc .ready none with state := .busy })) W3 →
          (Instr.endRound (w.heap.size + 1) jump).run P W3 = .ok (.bool jump.isNone) (W3.putObj (w.heap.size + 1) (.loop (rc (if jump.isNone then .ready else .done) jump))) ∧
          W3.heap[w.heap.size + 1]? = some (.loop { rc .ready none with state := .busy }) ∧
          (W3.putObj (w.heap.size + 1) (.loop (rc (if jump.isNone then .ready else .done) jump))).heap[w.heap.size + 1]? = some (.loop (rc (if jump.isNone then .ready else .done) jump)) ∧
          (W3.putObj (w.heap.size + 1) (.loop (rc (if jump.isNone then .ready else .done) jump))).heap[w.heap.size]? = some (.deferred (some [])) := fun jump W3 hk3 => by
        have hl3 := hk3.same _ _ (by omega) hl2 rfl
        have := run_endRound (P := P) jump hl3
        rw [hrc] at this ⊢
        exact ⟨this, by rw [hrc] at hl3; exact hl3, World.putObj_heap_same (Array.getElem?_eq_some_iff.1 hl3).1, (World.putObj_heap_other (by omega)).trans (hk3.same _ _ (Nat.le_refl _) hk2 rfl)⟩
      rintro e a3 W3 hp
      cases e with
      | normal =>
        obtain ⟨hk3, hkp3, hi3⟩ := hp
        obtain ⟨hr, hl3, hl4, hk4⟩ := fin none W3 hk3
        exact ⟨_, _, hr, .inl ⟨rfl, ⟨hI.putObj (s := (k, next s)) _ hi3 (by omega) hl3 rfl, hl4, hk4⟩, (hb2 _ _).trans (hkp3.trans (hb2 _ _))⟩⟩
      | ret =>
        obtain ⟨hk3, hi3⟩ := hp
        obtain ⟨hr, hl3, hl4, hk4⟩ := fin (some .ret) W3 hk3
        exact ⟨_, _, hr, .inr ⟨rfl, hIx.putObj (s := ()) _ hi3 (by omega) hl3 rfl, hl4, hk4⟩⟩
      | exit id => exact hp.elim
      | goto t => exact hp.elim
      | panic ch => exact hp.elim
      | outgrown => exact hp.elim
    · rintro e W2 ⟨⟨v, rfl⟩, hi, hl, hk⟩
      exact ⟨some .ret, _, by have := run_endLoop (P := P) hl (by rw [hrc]; simp); rw [hrc] at this; exact this, hstop _ _ (Nat.le_refl _) (hIx.putObj (s := ()) _ hi (by omega) hl rfl) ((World.putObj_heap_other (by omega)).trans hk)⟩
end
section
/- Contract of layer 6: the iterator of the numbers. -/
set_option linter.unusedVariables false
set_option linter.unusedSimpArgs false
open Go.RowKit Go.Shelf
attribute [local go_sem] Oper.semAt_some
/-- A state. -/
def St : Type := { s : Nat // s < 18446744073709551616 }
def St.next (s : St) : St := ⟨nextS s.1, nextS_lt s.1⟩
def St.val (s : St) : Value := .int .u64 (s.1 : Int)
def St.encs (s : St) : Array Value := #[.int .u64 (s.1 : Int), .int .u64 (mixN s.1 : Nat)]
set_option maxRecDepth 100000 in
set_option maxHeartbeats 4000000 in
theorem numbers_cell (n : Nat) (hn : 1 ≤ n) (B : Nat) : SeqCell Fence.wide n Tryz.prog 227 #[.pointer (some ⟨B, 0, none⟩)] St.encs St.next B 22 St.val := by
  intro l J Jx k₀ s₀ W hJB hJd hJ0 hY h0 hbox
  refine callsIn_of_wp Tryz.func227 rfl trivial ?_ rfl
  simp only [Tryz.ntmps227, List.size_toArray, List.length_cons, List.length_nil, Nat.reduceAdd, Nat.reduceSub, Array.replicate_succ, Array.replicate_zero, List.push_toArray, List.append_toArray, List.nil_append, List.cons_append]
  gi_wp2
  gi_loopg [3] k₀ (fun k s3 wr => ∃ s : St, J k s wr ∧ Boxed wr B 22 s.val)
  case atStart => exact ⟨s₀, h0, hbox⟩
  case round =>
    obtain ⟨s, hs, hb⟩ := hrel
    cases gk with
    | zero => exact (hJ0 s wr hs).elim
    | succ k =>
      have HY := hY k s (wr.setCell ⟨B, 0, none⟩ (.int .u64 (nextS s.1 : Nat))) (hJB _ _ _ _ hs)
      have hb2 : Boxed (wr.setCell ⟨B, 0, none⟩ (.int .u64 (nextS s.1 : Nat))) B 22 (.int .u64 (nextS s.1 : Nat)) := hb.set _
      have HN := Lib.hid (next_any s.1 s.2)
      have e1 := hb.cell
      have e2 := hb.frozen
      have e3 := hb2.cell
      have HB2 := Lib.hid hb2
      have HNX := Lib.hid (show (St.next s).val = .int .u64 (nextS s.1 : Nat) from rfl)
      simp only [St.val] at e1
      obtain ⟨fn, tmps, assign, body, hy, hR⟩ := HY
      simp only [St.encs, St.next] at hy
      clear hb hb2 hs
      generalize hV : wr.setCell ⟨B, 0, none⟩ (.int .u64 (nextS s.1 : Nat)) = V at *
      have HV := Lib.hid hV
      have hR' := Lib.hid hR
      clear hR
      gi_wp2_with (refine ⟨trivial, ?_⟩; gi_at_call 178; refine (callsIn_wide.2 (HN.out _)).mono ?_; rintro e w' ⟨rfl, rfl⟩)
      refine RoundIn.mono hR'.out ?_
      rintro e W3 (⟨rfl, hJ3, hk3⟩ | ⟨rfl, hJx3⟩)
      · gi_wp2
        gi_roundg k
        case rel => exact ⟨s.next, hJ3, by rw [HNX.out]; exact hk3.trans HB2.out⟩
        case measure => omega
      · gi_wp2
        refine bodyPost_ret (results_none rfl _ _ _) rfl ?_
        exact ⟨⟨_, rfl⟩, hJx3⟩
end
section
/- Contract of layer 6: Below. -/
set_option linter.unusedVariables false
set_option linter.unusedSimpArgs false
open Go.RowKit Go.Shelf
attribute [local go_sem] Oper.semAt_some
theorem run_loadVar_cell_int {P : Program} (W : World) (g : Nat) (T : TypeId) (k : IntKind) (v : Int) (hu : P.underlying T = some (.int k)) (hc : W.cell? ⟨g, 0, none⟩ = some (.int k v)) : (loadVar T ⟨g, 0, none⟩).run P W = .ok (.int k v) W := by
  have hagg : (isAgg T).run P W = .ok false W := by
    unfold isAgg
    rw [Sem.run_bind, run_underlying hu W]
    rfl
  have hl : (load ⟨g, 0, none⟩).run P W = .ok (.int k v) W := by go_simp
  simp [loadVar, Sem.run_bind, hagg, hl, Result.andThen]
/-- A return of three values in boxes. -/
theorem results_cells3 {P : Program} {fn : Func} {W : World} {p q r : Tmp} {T1 T2 T3 : TypeId} {g1 g2 g3 : Nat} {k1 k2 k3 : IntKind} {v1 v2 v3 : Int} (hr : fn.results = #[.cell p T1, .cell q T2, .cell r T3]) (tmps : Array Value)
    (hp : tmps.getD p undef = .pointer (some ⟨g1, 0, none⟩)) (hq : tmps.getD q undef = .pointer (some ⟨g2, 0, none⟩)) (hs : tmps.getD r undef = .pointer (some ⟨g3, 0, none⟩))
    (b1 : Box W g1 T1 #[.int k1 v1]) (b2 : Box W g2 T2 #[.int k2 v2]) (b3 : Box W g3 T3 #[.int k3 v3]) (u1 : P.underlying T1 = some (.int k1)) (u2 : P.underlying T2 = some (.int k2)) (u3 : P.underlying T3 = some (.int k3)) :
    (results fn tmps).run P W = .ok (.tuple #[.int k1 v1, .int k2 v2, .int k3 v3]) W := by
  have hp' : tmps[p]?.getD undef = .pointer (some ⟨g1, 0, none⟩) := by simpa using hp
  have hq' : tmps[q]?.getD undef = .pointer (some ⟨g2, 0, none⟩) := by simpa using hq
  have hs' : tmps[r]?.getD undef = .pointer (some ⟨g3, 0, none⟩) := by simpa using hs
  have c1 := b1.cell 0
  have c2 := b2.cell 0
  have c3 := b3.cell 0
  simp at c1 c2 c3
  simp [results, hr, hp', hq', hs', asAddr, run_loadVar_cell_int W g1 T1 k1 v1 u1 c1, run_loadVar_cell_int W g2 T2 k2 v2 u2 c2, run_loadVar_cell_int W g3 T3 k3 v3 u3 c3, Sem.run_bind, Result.andThen]
/-- The iterator that numbers hands back: its box. -/
def NumOut (s : Nat) (w : World) (e : Ending) (w' : World) : Prop :=
  ∃ B, e = .returned (.func (.func 227) #[] #[.pointer (some ⟨B, 0, none⟩)]) ∧ Boxed w' B 22 (.int .u64 s) ∧ w.heap.size ≤ B ∧ Below w.heap.size w w'
theorem numbers_any (s : Nat) (w : World) : Calls Tryz.prog 216 #[.int .u64 s] w (NumOut s w) := by
  go_enter Tryz.func216, Tryz.ntmps216
  go_wp2_with fail
  go_ret
  exact ⟨_, rfl, Box.new w _ _, Nat.le_refl _, (Below.refl w.heap.size w).alloc (Nat.le_refl _) _⟩
/-- The five boxes of Below: three results, the bound, what is left over. -/
def Five (h : Nat) (x : Nat) (y : Nat) (n over : Nat) (W : World) : Prop :=
  Boxed W h 22 (.int .u64 x) ∧ Boxed W (h + 1) 3 (.int .i64 y) ∧ Boxed W (h + 2) 33 (.int .i64 0) ∧ Boxed W (h + 3) 22 (.int .u64 n) ∧ Boxed W (h + 4) 22 (.int .u64 over)
theorem Five.keep {h x y n over : Nat} {W W' : World} (H : Five h x y n over W) (hk : ∀ b, b < h + 5 → W'.heap[b]? = W.heap[b]?) : Five h x y n over W' :=
  ⟨(hk _ (by omega)).trans H.1, (hk _ (by omega)).trans H.2.1, (hk _ (by omega)).trans H.2.2.1, (hk _ (by omega)).trans H.2.2.2.1, (hk _ (by omega)).trans H.2.2.2.2⟩
theorem Five.own {β : Type} (h : Nat) (x y : Nat) (n over : Nat) (A : Nat) : OwnFrom A (fun (_ : β) W => Five h x y n over W) :=
  OwnFrom.and (Own.from (boxed_own _ _ (fun _ => .int .u64 x)) _) (OwnFrom.and (Own.from (boxed_own _ _ (fun _ => .int .i64 y)) _) (OwnFrom.and (Own.from (boxed_own _ _ (fun _ => .int .i64 0)) _) (OwnFrom.and (Own.from (boxed_own _ _ (fun _ => .int .u64 n)) _) (Own.from (boxed_own _ _ (fun _ => .int .u64 over)) _))))
theorem Five.put {h x y n over : Nat} {W : World} (H : Five h x y n over W) (x' y' : Nat) : Five h x' y' n over (((W.setCell ⟨h, 0, none⟩ (.int .u64 x')).setCell ⟨h + 1, 0, none⟩ (.int .i64 y')).setCell ⟨h + 2, 0, none⟩ (.int .i64 0)) := by
  obtain ⟨b0, b1, b2, b3, b4⟩ := H
  refine ⟨?_, ?_, ?_, ?_, ?_⟩
  · exact ((b0.set _).other (by omega) _).other (by omega) _
  · exact ((b1.other (by omega) _).set _).other (by omega) _
  · exact ((b2.other (by omega) _).other (by omega) _).set _
  · exact ((b3.other (by omega) _).other (by omega) _).other (by omega) _
  · exact ((b4.other (by omega) _).other (by omega) _).other (by omega) _
theorem Five.start (w : World) (n over : Nat) : Five w.heap.size 0 0 n over (((((w.alloc (.cells #[.int .u64 0] 22)).alloc (.cells #[.int .i64 0] 3)).alloc (.cells #[.int .i64 0] 33)).alloc (.cells #[.int .u64 n] 22)).alloc (.cells #[.int .u64 over] 22)) := by
  have k0 := Box.new w 22 #[.int .u64 0]
  have k1 := Box.new (w.alloc (.cells #[.int .u64 0] 22)) 3 #[.int .i64 0]
  have k2 := Box.new ((w.alloc (.cells #[.int .u64 0] 22)).alloc (.cells #[.int .i64 0] 3)) 33 #[.int .i64 0]
  have k3 := Box.new (((w.alloc (.cells #[.int .u64 0] 22)).alloc (.cells #[.int .i64 0] 3)).alloc (.cells #[.int .i64 0] 33)) 22 #[.int .u64 n]
  have k4 := Box.new ((((w.alloc (.cells #[.int .u64 0] 22)).alloc (.cells #[.int .i64 0] 3)).alloc (.cells #[.int .i64 0] 33)).alloc (.cells #[.int .u64 n] 22)) 22 #[.int .u64 over]
  simp only [World.size_alloc] at k1 k2 k3 k4
  exact ⟨(((k0.alloc _).alloc _).alloc _).alloc _, ((k1.alloc _).alloc _).alloc _, (k2.alloc _).alloc _, k3.alloc _, k4⟩
theorem below_allocs (w : World) (o0 o1 o2 o3 o4 : Obj) : Below w.heap.size w (((((w.alloc o0).alloc o1).alloc o2).alloc o3).alloc o4) :=
  (((((Below.refl _ w).alloc (Nat.le_refl _) o0).alloc (by simp) o1).alloc (by simp; omega) o2).alloc (by simp; omega) o3).alloc (by simp; omega) o4
theorem over_int (n : Nat) (h1 : 1 ≤ n) (h2 : n ≤ 512) : (IntKind.u64.wrap (-(n : Int))).tmod (n : Int) = ((18446744073709551616 % n : Nat) : Int) := by
  have e : IntKind.u64.wrap (-(n : Int)) = ((18446744073709551616 - n : Nat) : Int) := by rw [IntKind.wrap_u64]; omega
  have e2 : (18446744073709551616 - n) % n = 18446744073709551616 % n := by
    have : 18446744073709551616 = (18446744073709551616 - n) + n := by omega
    conv => rhs; rw [this]
    rw [Nat.add_mod_right]
  rw [e, Int.tmod_eq_emod_of_nonneg (by omega), ← e2]
  rfl
theorem fin_post {A h n over x y : Nat} {w W : World} {b : Nat × Nat} {z : Int} (hF : Five h 0 0 n over W) (hB : Below h w W) (hb : b = (x, y)) (hz : z = (y : Int)) :
    KeepsFrom A W (((W.setCell ⟨h, 0, none⟩ (.int .u64 x)).setCell ⟨h + 1, 0, none⟩ (.int .i64 z)).setCell ⟨h + 1 + 1, 0, none⟩ (.int .i64 0)).drew ∧
    Five h b.1 b.2 n over (((W.setCell ⟨h, 0, none⟩ (.int .u64 x)).setCell ⟨h + 1, 0, none⟩ (.int .i64 z)).setCell ⟨h + 1 + 1, 0, none⟩ (.int .i64 0)).drew ∧
    Below h w (((W.setCell ⟨h, 0, none⟩ (.int .u64 x)).setCell ⟨h + 1, 0, none⟩ (.int .i64 z)).setCell ⟨h + 1 + 1, 0, none⟩ (.int .i64 0)).drew := by
  subst hb hz
  refine ⟨?_, (hF.put x y).keep (fun _ _ => rfl), (((hB.setCell (p := ⟨h, 0, none⟩) (Nat.le_refl _) _).setCell (p := ⟨h + 1, 0, none⟩) (Nat.le_succ _) _).setCell (p := ⟨h + 1 + 1, 0, none⟩) (by show h ≤ h + 1 + 1; omega) _).drew⟩
  exact ((((KeepsOthers.setCell _ _ _).trans (KeepsOthers.setCell _ _ _)).trans (KeepsOthers.setCell _ _ _)).trans (KeepsOthers.drew _)).from _
set_option maxRecDepth 100000 in
set_option maxHeartbeats 4000000 in
theorem below_in (s n : Nat) (hs : s < 18446744073709551616) (h1 : 1 ≤ n) (h2 : n ≤ 512) (w : World) :
    CallsIn Fence.wide 5 Tryz.prog 211 #[.int .u64 s, .int .i64 n] w fun e w' => e = .returned (.tuple #[.int .u64 ((belowN n s).1 : Nat), .int .i64 ((belowN n s).2 : Nat), .int .i64 0]) ∧ Below w.heap.size w w' := by
  have H := Lib.hid (bound_any n)
  rw [decide_eq_true (p := 1 ≤ (n : Int) ∧ (n : Int) ≤ 512) (by omega)] at H
  have HN := Lib.hid (numbers_any s)
  generalize hbb : belowN n s = b at *
  have HB0 := Lib.hid (show belowF n (18446744073709551616 % n) 512 s = b from hbb)
  clear hbb
  have ho := over_lt n h1 h2
  have HG := Lib.hid (gw_all (18446744073709551616 % n) s ho hs)
  have hov := over_int n h1 h2
  generalize 18446744073709551616 % n = over at *
  have g1 : (1 : Int) ≤ n := by omega
  refine callsIn_of_wp_marks Tryz.func211 rfl trivial ?_ rfl
  simp only [Tryz.ntmps211, List.size_toArray, List.length_cons, List.length_nil, Nat.reduceAdd, Nat.reduceSub, Array.replicate_succ, Array.replicate_zero, List.push_toArray, List.append_toArray, List.nil_append, List.cons_append]
  gi_wp2_with (refine ⟨trivial, ?_⟩; first | (gi_at_call 203; refine (callsIn_wide.2 (H.out _)).mono ?_; rintro e w' ⟨rfl, rfl⟩) | (gi_at_call 216; refine (callsIn_wide.2 (HN.out _)).mono ?_; rintro e w1 ⟨B, rfl, b1, hge, hb⟩))
  clear hov
  have F0 : Five w.heap.size 0 0 n over w1 := by
    refine (Five.start w n over).keep (fun b hb' => hb.block b (by simp; omega))
  have B0 : Below w.heap.size w w1 := (below_allocs w _ _ _ _ _).trans (hb.mono (by simp; omega))
  simp only [World.size_alloc] at hge
  clear hb H HN
  have hg5 : w.heap.size + 5 ≤ B := hge
  refine range_cell rfl (by omega) (gf := 227) (lb := #[.pointer (some ⟨B, 0, none⟩)]) rfl trivial (enters_of Tryz.func227 (by kernel_rfl) rfl)
    (numbers_cell (5 - 1) (by omega) B) (fun _ => rfl)
    (fun k (t : St) W => (Hid (gw over k t.1) ∧ Hid (belowF n over k t.1 = b)) ∧ Five w.heap.size 0 0 n over W ∧ Below w.heap.size w W)
    (fun W => Five w.heap.size b.1 b.2 n over W ∧ Below w.heap.size w W)
    (OwnFrom.and (ownFrom_pure _ (fun p : Nat × St => Hid (gw over p.1 p.2.1) ∧ Hid (belowF n over p.1 p.2.1 = b))) (OwnFrom.and (Five.own _ _ _ _ _ _) (ownFrom_below (Nat.le_refl _) B0.size)))
    (OwnFrom.and (Five.own _ _ _ _ _ _) (ownFrom_below (Nat.le_refl _) B0.size))
    (fun k t W v hi => ⟨hi.1, hi.2.1.keep (fun c hc => Below.heap_setCell W ⟨B, 0, none⟩ v c (by show c ≠ B; omega)), hi.2.2.setCell (p := ⟨B, 0, none⟩) (by show w.heap.size ≤ B; omega) v⟩)
    (fun t W hi => hi.1.1.out.elim)
    512 ⟨s, hs⟩ ⟨⟨HG, HB0⟩, F0, B0⟩ b1
    (fun x => { tmps := #[.int .u64 s, .int .i64 n, undef, undef, .pointer (some ⟨w.heap.size, 0, none⟩), .pointer (some ⟨w.heap.size + 1, 0, none⟩), .pointer (some ⟨w.heap.size + 1 + 1, 0, none⟩), .pointer (some ⟨w.heap.size + 1 + 1 + 1, 0, none⟩), .pointer (some ⟨w.heap.size + 1 + 1 + 1 + 1, 0, none⟩), .int .u64 x.1, .int .u64 (mixN x.1 : Nat), .int .i64 n, .bool true, .bool false, .int .i64 n, .int .u64 n, .int .u64 n, .int .u64 (IntKind.u64.wrap (-(n : Int))), .int .u64 n, .int .u64 over, .int .u64 s, .func (.func 227) #[] #[.pointer (some ⟨B, 0, none⟩)], .int .u64 x.1, .int .u64 (mixN x.1 : Nat), undef, undef, undef, undef, undef, undef, undef, undef, undef, undef, undef, undef, undef], defers := [] }) ?assign ?body ?stop
  case assign =>
    intro l x W K hK
    simp only [St.encs]
    gi_wp2
    exact hK
  case body =>
    rintro l k t W ⟨⟨hgw, hbf⟩, hF, hB⟩
    have HGD := Lib.hid (show good over t.1 ↔ mixN t.next.1 + over < 18446744073709551616 from Iff.rfl)
    have HGW := Lib.hid (show good over t.1 ∨ gw over k t.next.1 from hgw.out)
    have HBF := Lib.hid (show belowF n over (k + 1) t.1 = if good over t.1 then (t.next.1, mixN t.next.1 % n) else belowF n over k t.next.1 from rfl)
    rw [hbf.out] at HBF
    have hxl := mixN_lt t.next.1
    dsimp only
    generalize t.next = u at *
    have HF := Lib.hid hF
    have HB := Lib.hid hB
    have HPC : Hid (∀ W' , (KeepsFrom w1.heap.size W W' ∧ W'.heap[B]? = W.heap[B]? ∧ (Hid (gw over k u.1) ∧ Hid (belowF n over k u.1 = b)) ∧ Five w.heap.size 0 0 n over W' ∧ Below w.heap.size w W') → True) := Lib.hid (fun _ _ => trivial)
    clear hgw hbf hF hB HPC
    obtain ⟨e0, e1, e2, e3, e4⟩ := HF.out
    have d0 := e0.cell
    have d1 := e1.cell
    have d2 := e2.cell
    have d3 := e3.cell
    have d4 := e4.cell
    have f0 := e0.frozen
    have f1 := e1.frozen
    have f2 := e2.frozen
    clear e0 e1 e2 e3 e4
    have hmx : Tryz.prog.follows .mixedOrders = true := by kernel_rfl
    have HZ := Lib.hid (show IntKind.i64.wrap (((mixN u.1 : Nat) : Int) % (n : Int)) = ((mixN u.1 % n : Nat) : Int) by
      have := Nat.mod_lt (mixN u.1) h1
      exact IntWalk.i64_in _ (by omega))
    by_cases ho0 : over = 0
    · have t1 : ((over : Int) == 0) = true := beq_iff_eq.2 (by omega)
      have hg2 : good over t.1 := HGD.out.2 (by omega)
      rw [if_pos hg2] at HBF
      gi_wp2
      gi_region_o
      all_goals (gi_wp2; exact fin_post HF.out HB.out HBF.out HZ.out)
    · have t1 : ((over : Int) == 0) = false := beq_eq_false_iff_ne.2 (by omega)
      obtain ⟨T, hT⟩ : ∃ T : Nat, T + over = 18446744073709551616 := ⟨18446744073709551616 - over, by omega⟩
      have hT2 : IntKind.u64.wrap (-(over : Int)) = (T : Int) := by rw [IntKind.wrap_u64]; omega
      by_cases hx : mixN u.1 < T
      · have hx' : ((mixN u.1 : Nat) : Int) < (T : Int) := by omega
        have hg2 : good over t.1 := HGD.out.2 (by omega)
        rw [if_pos hg2] at HBF
        clear hT
        gi_wp2
        gi_region_o
        all_goals (gi_wp2; exact fin_post HF.out HB.out HBF.out HZ.out)
      · have hx' : ¬ ((mixN u.1 : Nat) : Int) < (T : Int) := by omega
        have hg2 : ¬ good over t.1 := fun y => by have := HGD.out.1 y; omega
        rw [if_neg hg2] at HBF
        have HGW2 := Lib.hid (HGW.out.resolve_left hg2)
        clear hT
        gi_wp2
        exact ⟨KeepsFrom.refl _ _, rfl, ⟨HGW2, Lib.hid (Eq.symm HBF.out)⟩, HF.out, HB.out⟩
  case stop =>
    rintro D W hD ⟨hF, hB⟩ hK
    have hw1 : w.heap.size + 5 ≤ w1.heap.size := by have := b1.lt; omega
    gi_wp2
    refine ⟨by simp, .inl ⟨_, _, rfl, run_takeDeferred hK, ?_⟩⟩
    have hF2 : Five w.heap.size b.1 b.2 n over (W.putObj D (.deferred none)) := hF.keep (fun c hc => World.putObj_heap_other (by omega))
    exact ⟨_, results_cells3 Tryz.results211 _ rfl rfl rfl hF2.1 hF2.2.1 hF2.2.2.1 Tryz.underlying22 Tryz.underlying3 Tryz.underlying33, rfl, hB.trans (belowK_b (w := w) (Nat.le_refl _) W D _ _ (by omega) hK rfl rfl)⟩
end
section
/- Contracts of layer 6: Shuffle. -/
set_option linter.unusedVariables false
set_option linter.unusedSimpArgs false
open Go.RowKit
theorem below_any (s n : Nat) (hs : s < 18446744073709551616) (h1 : 1 ≤ n) (h2 : n ≤ 512) (w : World) :
    Calls Tryz.prog 211 #[.int .u64 s, .int .i64 n] w fun e w' => e = .returned (.tuple #[.int .u64 ((belowN n s).1 : Nat), .int .i64 ((belowN n s).2 : Nat), .int .i64 0]) ∧ Below w.heap.size w w' := callsIn_wide.1 (below_in s n hs h1 h2 w)
/-- A row of small numbers at the head of a block, free to be written. -/
def NatsAt (w : World) (g : Nat) (zs : List Nat) : Prop := ∀ j, j < zs.length → w.cell? ⟨g, j, none⟩ = some (.int .i64 (zs.getD j 0 : Nat)) ∧ w.frozen? ⟨g, j, none⟩ = false
theorem NatsAt.put {w : World} {g : Nat} {zs : List Nat} (h : NatsAt w g zs) (i x : Nat) (hi : i < zs.length) : NatsAt (w.setCell ⟨g, i, none⟩ (.int .i64 (x : Int))) g (zs.set i x) := by
  intro j hj
  rw [List.length_set] at hj
  obtain ⟨h1, h2⟩ := h j hj
  refine ⟨?_, by rw [World.frozen?_setCell]; exact h2⟩
  by_cases e : i = j
  · subst e
    rw [World.cell?_setCell_same' _ _ _ (by rw [h1]; rfl)]
    simp [List.getD, hj]
  · rw [World.cell?_setCell_other _ _ _ _ (by intro x; injection x; omega), h1]
    simp [List.getD, List.getElem?_set, e]
theorem NatsAt.drew {w : World} {g : Nat} {zs : List Nat} (h : NatsAt w g zs) : NatsAt w.drew g zs := h
theorem NatsAt.keep {w w' : World} {g : Nat} {zs : List Nat} (h : NatsAt w g zs) {B : Nat} (hb : Below B w w') (hg : g < B) : NatsAt w' g zs := fun j hj =>
  ⟨(hb.cell (p := ⟨g, j, none⟩) hg).trans (h j hj).1, (hb.frozen (p := ⟨g, j, none⟩) hg).trans (h j hj).2⟩
theorem make_nats {P : Program} (t e : TypeId) (i : TypeInfo) (ht : P.underlying t = some (.slice e)) (hi : P.info? e = some i) (hz : i.zero = some (.int .i64 0)) (hs : i.size = 1) (hb : i.bytes = 8) (n : Nat) (hn : n ≤ 1000000) (w : World) :
    (Instr.makeSlice t (.int .i64 (n : Int)) (.int .i64 (n : Int))).run P w = .ok (.slice (some ⟨w.heap.size, 0, none⟩) n n) (w.alloc (.cells (Array.replicate n (.int .i64 0)) e)) := by
  have hr := run_make (P := P) w t e i _ ht hi hz .i64 .i64 n n (by omega) (by omega) (by rw [hb]; omega) (by omega)
  simp only [Int.toNat_natCast, hs, Nat.mul_one] at hr
  rw [hr]
  have : madeCells (Value.int .i64 0).cells n = Array.replicate n (Value.int .i64 0) := by
    apply Array.toList_inj.1
    have := toList_madeCells_one (Value.int .i64 0) n
    simpa [Value.cells] using this
  rw [this]
theorem made_nats (w : World) (e : TypeId) (n : Nat) : NatsAt (w.alloc (.cells (Array.replicate n (.int .i64 0)) e)) w.heap.size (List.replicate n 0) := by
  intro j hj
  have hj' : j < n := by simpa using hj
  have hb := Box.new w e (Array.replicate n (.int .i64 0))
  exact ⟨by rw [hb.cell j]; simp [List.getD, hj'], hb.free j⟩
/-- Numbers in an order. -/
def swapN (l : List Nat) (i j : Nat) : List Nat := (l.set i (l.getD j 0)).set j (l.getD i 0)
theorem swapN_len (l : List Nat) (i j : Nat) : (swapN l i j).length = l.length := by simp [swapN]
def shufF : Nat → Nat → List Nat → Nat × List Nat
  | 0, s, l => (s, l)
  | i + 1, s, l => shufF i (belowN (i + 2) s).1 (swapN l (i + 1) (belowN (i + 2) s).2)
def shufN (n s : Nat) : Nat × List Nat := shufF (n - 1) s (List.range n)
theorem int_infoR : (Tryz.prog.info? 3).map (fun i => (i.zero, i.size, i.bytes)) = some (some (.int .i64 0), 1, 8) := by kernel_rfl
/-- The first numbers in their places. -/
def fillN (n k : Nat) : List Nat := (List.range n).map fun j => if j < k then j else 0
theorem fillN_len (n k : Nat) : (fillN n k).length = n := by simp [fillN]
theorem fillN_zero (n : Nat) : fillN n 0 = List.replicate n 0 := by
  apply List.ext_getElem
  · simp [fillN]
  · intro i h1 h2; simp [fillN]
theorem fillN_full (n : Nat) : fillN n n = List.range n := by
  apply List.ext_getElem
  · simp [fillN]
  · intro i h1 h2
    have : i < n := by simpa [fillN] using h1
    simp [fillN, this]
theorem fillN_succ (n k : Nat) (h : k < n) : (fillN n k).set k k = fillN n (k + 1) := by
  apply List.ext_getElem
  · simp [fillN]
  · intro i h1 h2
    rw [List.getElem_set]
    by_cases e : k = i
    · subst e; simp [fillN]
    · rw [if_neg e]
      simp only [fillN, List.getElem_map, List.getElem_range]
      by_cases hi : i < k
      · rw [if_pos hi, if_pos (by omega)]
      · rw [if_neg hi, if_neg (by omega)]
theorem shufF_step (i s : Nat) (l : List Nat) (h : 1 ≤ i) : shufF i s l = shufF (i - 1) (belowN (i + 1) s).1 (swapN l i (belowN (i + 1) s).2) := by
  obtain ⟨p, rfl⟩ : ∃ p, i = p + 1 := ⟨i - 1, by omega⟩
  rfl
theorem NatsAt.swap {w : World} {g : Nat} {zs : List Nat} (h : NatsAt w g zs) (i j : Nat) (hi : i < zs.length) (hj : j < zs.length) :
    NatsAt (((w.setCell ⟨g, i, none⟩ (.int .i64 (zs.getD j 0 : Nat))).setCell ⟨g, j, none⟩ (.int .i64 (zs.getD i 0 : Nat))).drew) g (swapN zs i j) :=
  (h.put i _ hi).put j _ (by simpa using hj)
/-- What Shuffle hands back. -/
def ShufOut (n s : Nat) (w : World) (e : Ending) (w' : World) : Prop :=
  ∃ g, e = .returned (.tuple #[.int .u64 ((shufN n s).1 : Nat), .slice (some ⟨g, 0, none⟩) n n, .int .i64 0]) ∧ NatsAt w' g (shufN n s).2 ∧ (shufN n s).2.length = n ∧ w.heap.size ≤ g ∧ g < w'.heap.size ∧ Below w.heap.size w w'
set_option maxRecDepth 100000 in
set_option maxHeartbeats 2000000 in
theorem shuffle_yes (s n : Nat) (hs : s < 18446744073709551616) (h1 : 1 ≤ n) (h2 : n ≤ 512) (w : World) : Calls Tryz.prog 204 #[.int .u64 s, .int .i64 n] w (ShufOut n s w) := by
  have H := Lib.hid (bound_any n)
  rw [decide_eq_true (p := 1 ≤ (n : Int) ∧ (n : Int) ≤ 512) (by omega)] at H
  obtain ⟨i0, hi, hz0, hz1, hz2⟩ := info_parts int_infoR
  have hmk := make_nats (P := Tryz.prog) 106 3 i0 Tryz.underlying106 hi hz0 hz1 hz2 n (by omega) w
  have HNA := Lib.hid (made_nats w 3 n)
  have HB := Lib.hid ((Below.refl w.heap.size w).alloc (Nat.le_refl _) (.cells (Array.replicate n (.int .i64 0)) 3))
  have HL := Lib.hid (Box.new w 3 (Array.replicate n (.int .i64 0))).lt
  go_enter Tryz.func204, Tryz.ntmps204
  go_wp2_with fail
  refine (H.out _).mono ?_
  rintro e w1 ⟨rfl, rfl⟩
  go_wp2_with fail
  generalize w.alloc (.cells (Array.replicate n (.int .i64 0)) 3) = W0 at *
  clear hmk
  have HSH := Lib.hid (show shufF (n - 1) s (List.range n) = shufN n s from rfl)
  generalize hRR : shufN n s = R at HSH
  have HRR := Lib.hid hRR
  clear hRR
  go_loopw [18] (fun i wr => ∃ k : Nat, k ≤ n ∧ i = .int .i64 k ∧ NatsAt wr w.heap.size (fillN n k) ∧ Below w.heap.size w wr ∧ Hid (w.heap.size < wr.heap.size)) (fun i _ => n - (intOf i).toNat)
  case atStart => exact ⟨0, by omega, rfl, by rw [fillN_zero]; exact HNA.out, HB.out, HL⟩
  case round =>
    obtain ⟨k, hk, rfl, hna, hbel, hlt⟩ := hrel
    have HN := Lib.hid hna
    have HBe := Lib.hid hbel
    clear hna hbel
    by_cases hkn : k < n
    · have hkn' : (k : Int) < n := by omega
      obtain ⟨c, f⟩ := HN.out k (by rw [fillN_len]; omega)
      have P1 := Lib.hid (HN.out.put k k (by rw [fillN_len]; omega))
      have P2 := Lib.hid (HBe.out.setCell (p := ⟨w.heap.size, k, none⟩) (Nat.le_refl _) (.int .i64 (k : Int)))
      go_wp2
      go_roundw
      case rel => exact ⟨k + 1, by omega, by go_num, by rw [← fillN_succ n k hkn]; exact P1.out, P2.out, by have := hlt.out; exact Lib.hid (by simpa [World.setCell] using this)⟩
      case measure => simp [intOf] <;> omega
    · obtain rfl : k = n := by omega
      rw [fillN_full] at HN
      have HLT := hlt
      clear hlt
      have hn1 : IntKind.i64.wrap ((k : Int) - 1) = (k : Int) - 1 := IntWalk.i64_in _ (by omega)
      go_wp2
      clear hn1
      go_loopw [0, 28] (fun st i wr2 => ∃ (d t : Nat) (zs : List Nat), d ≤ k - 1 ∧ i = .int .i64 d ∧ st = .int .u64 t ∧ t < 18446744073709551616 ∧ zs.length = k ∧ Hid (NatsAt wr2 w.heap.size zs) ∧ Hid (Below w.heap.size w wr2) ∧ Hid (w.heap.size < wr2.heap.size) ∧ Hid (shufF (k - 1 - d) t zs = R)) (fun _ i _ => k - (intOf i).toNat)
      case atStart => exact ⟨0, s, List.range k, by omega, rfl, rfl, hs, by simp, HN, HBe, HLT, HSH⟩
      case round =>
        obtain ⟨d, t, zs, hd, rfl, rfl, ht, hzl, hna, hbel, hlt, hsh⟩ := hrel
        have HZL := Lib.hid hzl
        clear hzl
        by_cases hdk : d < k - 1
        · have hdk' : (d : Int) < (k : Int) - 1 := by omega
          obtain ⟨i, hi⟩ : ∃ i, i = k - 1 - d := ⟨_, rfl⟩
          have e1 : (k : Int) - 1 - (d : Int) = (i : Int) := by omega
          have hi1 : 1 ≤ i := by omega
          have hik : i < k := by omega
          have hik' : (i : Int) < (k : Int) := by omega
          rw [← hi, shufF_step i t zs hi1] at hsh
          have HI := Lib.hid hi
          clear hi
          go_wp2_with fail
          rw [show (i : Int) + 1 = ((i + 1 : Nat) : Int) from rfl]
          refine (below_any t (i + 1) ht (by omega) (by omega) _).mono ?_
          rintro e w2 ⟨rfl, hb⟩
          have hbl := belowN_lt (i + 1) t (by omega) ht
          have HNA := Lib.hid (hna.out.keep hb hlt.out)
          have HB2 := Lib.hid (hbel.out.trans (hb.mono (Nat.le_of_lt hlt.out)))
          have HL2 := Lib.hid (Nat.lt_of_lt_of_le hlt.out hb.size)
          clear hb hna hbel hlt
          generalize belowN (i + 1) t = bb at *
          obtain ⟨t', j⟩ := bb
          simp only at hbl
          obtain ⟨ht', hj⟩ := hbl
          have hjk : j < k := by omega
          have hjk' : (j : Int) < (k : Int) := by omega
          obtain ⟨c1, f1⟩ := HNA.out i (by rw [HZL.out]; exact hik)
          obtain ⟨c2, f2⟩ := HNA.out j (by rw [HZL.out]; exact hjk)
          have P1 := Lib.hid (HNA.out.swap i j (by rw [HZL.out]; exact hik) (by rw [HZL.out]; exact hjk))
          have P2 := Lib.hid (((HB2.out.setCell (p := ⟨w.heap.size, i, none⟩) (Nat.le_refl _) (.int .i64 (zs.getD j 0 : Nat))).setCell (p := ⟨w.heap.size, j, none⟩) (Nat.le_refl _) (.int .i64 (zs.getD i 0 : Nat))).drew)
          have P3 := Lib.hid (show (swapN zs i j).length = k by rw [swapN_len, HZL.out])
          have P4 := Lib.hid (show shufF (k - 1 - (d + 1)) t' (swapN zs i j) = R by rw [show k - 1 - (d + 1) = i - 1 by have := HI.out; omega]; exact hsh.out)
          have P5 := Lib.hid (show w.heap.size < (((w2.setCell ⟨w.heap.size, i, none⟩ (.int .i64 (zs.getD j 0 : Nat))).setCell ⟨w.heap.size, j, none⟩ (.int .i64 (zs.getD i 0 : Nat))).drew).heap.size by have := HL2.out; simpa [World.setCell] using this)
          clear hsh e1 HNA
          generalize swapN zs i j = zs' at *
          generalize zs.getD i 0 = x at *
          generalize zs.getD j 0 = y at *
          by_cases hij : i = j
          · subst hij
            have hxy : y = x := by
              rw [c1] at c2
              injection c2 with c2
              injection c2 with _ c2
              omega
            subst hxy
            clear c2 f2
            go_wp2_with fail
            go_region
            go_wp2_with fail
            go_roundw
            case rel => exact ⟨d + 1, t', zs', by omega, by go_num, rfl, ht', P3.out, P1, P2, P5, P4⟩
            case measure => simp [intOf] <;> omega
          · have hji : j ≠ i := fun e => hij e.symm
            go_wp2_with fail
            go_region
            go_wp2_with fail
            go_roundw
            case rel => exact ⟨d + 1, t', zs', by omega, by go_num, rfl, ht', P3.out, P1, P2, P5, P4⟩
            case measure => simp [intOf] <;> omega
        · have hdk' : ¬ (d : Int) < (k : Int) - 1 := by omega
          rw [show k - 1 - d = 0 by omega] at hsh
          have HR := Lib.hid (show R = (t, zs) from hsh.out.symm)
          go_wp2_with fail
          go_ret3
          unfold ShufOut
          rw [HRR.out, HR.out]
          exact ⟨_, rfl, hna.out, HZL.out, Nat.le_refl _, hlt.out, hbel.out⟩
end
section
/- Contract of layer 6's reference: Below. -/
set_option linter.unusedVariables false
set_option linter.unusedSimpArgs false
open Go.RowKit
theorem step_wrap (s : Nat) : IntKind.u64.wrap ((s : Int) + 11400714819323198485) = ((nextS s : Nat) : Int) := by
  rw [IntKind.wrap_u64, nextS]; rfl
set_option maxHeartbeats 1000000 in
theorem refBelow_any (s n : Nat) (hs : s < 18446744073709551616) (h1 : 1 ≤ n) (h2 : n ≤ 512) (w : World) :
    Calls Tryz.prog 170 #[.int .u64 s, .int .i64 n] w fun e w' => e = .returned (.agg #[.int .u64 ((belowN n s).1 : Nat), .int .i64 ((belowN n s).2 : Nat)]) ∧ Below w.heap.size w w' := by
  have HT := Lib.hid (show belowN n s = belowN n s from rfl)
  generalize hb : belowN n s = b at HT ⊢
  have HB := Lib.hid hb
  clear hb HT
  have HR := Lib.hid (rest_any n h1 h2)
  have ho := over_lt n h1 h2
  have HG := Lib.hid (gw_all (18446744073709551616 % n) s ho hs)
  have HB2 := Lib.hid (show belowF n (18446744073709551616 % n) 512 s = b from HB.out)
  generalize 18446744073709551616 % n = over at *
  have g1 : (1 : Int) ≤ n := by omega
  have Z := Lib.hid (Box.new w 227 #[.int .u64 0, .int .i64 0])
  have B := Lib.hid ((Below.refl w.heap.size w).alloc (Nat.le_refl _) (.cells #[.int .u64 0, .int .i64 0] 227))
  obtain ⟨c0, c1, f0, f1⟩ := Z.out.two
  obtain ⟨T, hT⟩ : ∃ T : Nat, T + over = 18446744073709551615 := ⟨18446744073709551615 - over, by omega⟩
  have hT2 : IntKind.u64.wrap (18446744073709551615 - (over : Int)) = (T : Int) := by rw [IntWalk.u64_in _ (by omega)]; omega
  have HT := Lib.hid hT
  clear hT
  go_enter Tryz.func170, Tryz.ntmps170
  go_wp2_with fail
  refine (HR.out _).mono ?_
  rintro e w1 ⟨rfl, rfl⟩
  go_wp2_with fail
  clear hT2
  go_loopg [0, 6] 512 (fun k s0 s6 wr => ∃ t : Nat, t < 18446744073709551616 ∧ s0 = .int .u64 t ∧ Hid (gw over k t) ∧ Hid (belowF n over k t = b) ∧ wr = w.alloc (.cells #[.int .u64 0, .int .i64 0] 227))
  case atStart => exact ⟨s, hs, rfl, HG, HB2, rfl⟩
  case round =>
    obtain ⟨t, ht, rfl, hgw, hbf, rfl⟩ := hrel
    cases gk with
    | zero => exact hgw.out.elim
    | succ k =>
      have hst := step_wrap t
      have hlt := nextS_lt t
      have HGD := Lib.hid (show good over t ↔ mixN (nextS t) ≤ T from by
        have := HT.out
        unfold good
        constructor
        · intro h; omega
        · intro h; omega)
      have HBF := Lib.hid (show belowF n over (k + 1) t = if good over t then (nextS t, mixN (nextS t) % n) else belowF n over k (nextS t) from rfl)
      rw [hbf.out] at HBF
      have HGW := Lib.hid (show good over t ∨ gw over k (nextS t) from hgw.out)
      have HM := Lib.hid (refMixed_any (nextS t) hlt)
      have hxl := mixN_lt (nextS t)
      generalize nextS t = t' at *
      generalize mixN t' = x at *
      by_cases hg : x ≤ T
      · have hg' : (x : Int) ≤ (T : Int) := by omega
        have hg2 : good over t := HGD.out.2 hg
        rw [if_pos hg2] at HBF
        clear hgw hbf hg2
        go_wp2_with fail
        refine (HM.out _).mono ?_
        rintro e w1 ⟨rfl, rfl⟩
        go_wp2_with fail
        refine close_one Tryz.results170 rfl rfl (Box.new w _ _) Tryz.underlying227 rfl (by kernel_rfl) ?_
        have ew : wrap64 ((x : Int) % (n : Int)) = ((x % n : Nat) : Int) := by
          rw [← IntWalk.i64_left]
          have := Nat.mod_lt x h1
          exact IntWalk.i64_in _ (by omega)
        rw [ew, HBF.out]
        exact ⟨rfl, (Below.refl w.heap.size w).alloc (Nat.le_refl _) _⟩
      · have hg' : ¬ (x : Int) ≤ (T : Int) := by omega
        have hg2 : ¬ good over t := fun y => hg (HGD.out.1 y)
        rw [if_neg hg2] at HBF
        have HBF2 : Hid (belowF n over k t' = b) := Lib.hid (Eq.symm HBF.out)
        have hgw2 := Lib.hid (HGW.out.resolve_left hg2)
        clear hg2 hgw hbf
        go_wp2_with fail
        refine (HM.out _).mono ?_
        rintro e w1 ⟨rfl, rfl⟩
        go_wp2_with fail
        go_roundg k
        case rel => exact ⟨t', hlt, rfl, hgw2, HBF2, rfl⟩
        case measure => omega
end
section
/- Contract of layer 6's reference: Shuffle. -/
set_option linter.unusedVariables false
set_option linter.unusedSimpArgs false
open Go.RowKit
def natV (x : Nat) : Value := .int .i64 (x : Int)
/-- A row of the call's own, of one number or more, as a row that may be written. -/
theorem own_nats {w : World} {base e n : Nat} {v : Value} {zs : List Nat} (h : w.ownsRow base e 1 v n (zs.map natV)) (hn : 0 < n) : ∃ g c, v = .slice (some ⟨g, 0, none⟩) n c ∧ n ≤ c ∧ base ≤ g ∧ g < w.heap.size ∧ NatsAt w g zs ∧ zs.length = n := by
  have hl : zs.length = n := by have := h.1; simpa using this
  rcases h.2 with ⟨_, h0⟩ | ⟨g, cap, cur, rfl, hb, hh, hcap, hm, hs, hx⟩
  · omega
  · have hbx : Box w g e cur := hh
    refine ⟨g, cap, rfl, hcap, hb, hbx.lt, fun j hj => ?_, hl⟩
    rw [hbx.cell j, hbx.free j]
    refine ⟨?_, rfl⟩
    have e1 : (cur.toList.take (n * 1))[j]? = (zs.map natV)[j]? := by rw [hx]
    rw [Nat.mul_one, List.getElem?_take, if_pos (by omega)] at e1
    simp only [List.getElem?_map, List.getElem?_eq_getElem hj, Option.map_some] at e1
    rw [← Array.getElem?_toList, e1]
    simp [List.getD, hj, natV]
theorem range_snoc (k : Nat) : (List.range (k + 1)).map natV = (List.range k).map natV ++ [natV k] := by simp [List.range_succ]
theorem NatsAt.far {w : World} {g : Nat} {zs : List Nat} (h : NatsAt w g zs) {p : Addr} (hp : g ≠ p.block) (u : Value) : NatsAt (w.setCell p u) g zs := fun j hj =>
  ⟨by rw [World.cell?_of_block (a := ⟨g, j, none⟩) (heap_setCell_other w p g u hp)]; exact (h j hj).1, by rw [World.frozen?_setCell]; exact (h j hj).2⟩
/-- What the reference's Shuffle hands back. -/
def RShufOut (n s : Nat) (w : World) (e : Ending) (w' : World) : Prop :=
  ∃ g c, e = .returned (.agg #[.int .u64 ((shufN n s).1 : Nat), .slice (some ⟨g, 0, none⟩) n c]) ∧ n ≤ c ∧ NatsAt w' g (shufN n s).2 ∧ (shufN n s).2.length = n ∧ w.heap.size ≤ g ∧ g < w'.heap.size ∧ Below w.heap.size w w'
set_option maxRecDepth 100000 in
set_option maxHeartbeats 2000000 in
theorem refShuffle_any (s n : Nat) (hs : s < 18446744073709551616) (h1 : 1 ≤ n) (h2 : n ≤ 512) (w : World) : Calls Tryz.prog 153 #[.int .u64 s, .int .i64 n] w (RShufOut n s w) := by
  obtain ⟨i0, hi, hz0, hz1, hz2⟩ := info_parts int_infoR
  have HI := Lib.hid hi
  have HZ0 := Lib.hid hz0
  have HZ1 := Lib.hid hz1
  have HZ2 := Lib.hid hz2
  clear hi hz0 hz1 hz2
  have HSH := Lib.hid (show shufF (n - 1) s (List.range n) = shufN n s from rfl)
  generalize hRR : shufN n s = R at HSH
  have HRR := Lib.hid hRR
  clear hRR
  go_enter Tryz.func153, Tryz.ntmps153
  go_wp2_with fail
  have HO := own_empty (w.alloc (.cells #[.int .u64 0, .slice none 0 0] 184)) (w.heap.size + 1) 3 (by simp)
  have HZ := ((Box.new w 184 #[.int .u64 0, .slice none 0 0]).alloc (.cells #[] 3))
  have HB := (((Below.refl w.heap.size w).alloc (Nat.le_refl _) (.cells #[.int .u64 0, .slice none 0 0] 184)).alloc (by simp) (.cells #[] 3))
  simp only [World.size_alloc] at HO
  have HS : ((w.alloc (.cells #[.int .u64 0, .slice none 0 0] 184)).alloc (.cells #[] 3)).heap.size = w.heap.size + 2 := by simp
  generalize (w.alloc (.cells #[.int .u64 0, .slice none 0 0] 184)).alloc (.cells #[] 3) = W0 at *
  have HO := Lib.hid HO
  have HZ := Lib.hid HZ
  have HB := Lib.hid HB
  have HS := Lib.hid HS
  go_loopw [5, 6] (fun v i wr => ∃ k : Nat, k ≤ n ∧ i = .int .i64 k ∧ Hid (wr.ownsRow (w.heap.size + 1) 3 1 v k ((List.range k).map natV)) ∧ Hid (Below (w.heap.size + 1) W0 wr)) (fun _ i _ => n - (intOf i).toNat)
  case atStart => exact ⟨0, by omega, rfl, HO, Lib.hid (Below.refl _ _)⟩
  case round =>
    obtain ⟨k, hk, rfl, hown, hbel⟩ := hrel
    by_cases hkn : k < n
    · have hkn' : (k : Int) < n := by omega
      obtain ⟨A', c', rfl, _⟩ := own_form hown.out
      have hi' := HI.out
      have hz0' := HZ0.out
      have hz1' := HZ1.out
      have hz2' := HZ2.out
      have hsz := Lib.hid (show w.heap.size + 1 ≤ wr.heap.size by have := hbel.out.size; have := HS.out; omega)
      have XO := Lib.hid (hown.out.alloc (.cells #[.int .i64 (k : Int)] 3))
      have XB := Lib.hid (hbel.out.alloc hsz.out (.cells #[.int .i64 (k : Int)] 3))
      have N2 := Lib.hid (fun q hq => (hown.out.lt q hq).1)
      have HBS := Lib.hid (show w.heap.size + 1 ≤ (wr.alloc (.cells #[.int .i64 (k : Int)] 3)).heap.size by have := hsz.out; simp; omega)
      have HSN := Lib.hid (range_snoc k)
      go_wp2_with (at_builtin; refine wpList_append_own _ rfl _ _ 106 rfl (w.heap.size + 1) 3 i0 (.int .i64 0) 1 8 Tryz.underlying106 hi' hz0' hz1' hz2' rfl (by decide) _ _ _ rfl XO.out ⟨wr.heap.size, 0, none⟩ 1 1 [.int .i64 (k : Int)] rfl rfl (cell_one_new _ _ _) (by simp [Value.oneCell']) (by simp [maxLen]; omega) (by omega) HBS.out ?_; intro v' w2 hown' hgrow _; have HC := Lib.hid (XB.out.grown hgrow HBS.out N2.out); have HO2 := Lib.hid hown'; clear hown' hgrow)
      go_roundw
      case rel =>
        refine ⟨k + 1, by omega, by go_num, Lib.hid ?_, HC⟩
        rw [HSN.out]
        exact HO2.out
      case measure => simp [intOf] <;> omega
    · obtain rfl : k = n := by omega
      obtain ⟨g, c, rfl, hcap, hg0, hg1, hna, hzl⟩ := own_nats hown.out (by omega)
      have Z2 := Lib.hid (HZ.out.below hbel.out (by omega))
      have B2 := Lib.hid (HB.out.trans (hbel.out.mono (by omega)))
      have HNA := Lib.hid hna
      have HG1 := Lib.hid hg1
      clear hna hown hbel hzl hg1
      have hn1 : IntKind.i64.wrap ((k : Int) - 1) = ((k - 1 : Nat) : Int) := by rw [IntWalk.i64_in _ (by omega)]; omega
      have hkc : (k : Int) ≤ c := by omega
      go_wp2_with fail
      go_loopw [0, 7] (fun st i wr2 => ∃ (d t : Nat) (zs : List Nat), d ≤ k - 1 ∧ i = .int .i64 d ∧ st = .int .u64 t ∧ t < 18446744073709551616 ∧ Hid (zs.length = k) ∧ Hid (NatsAt wr2 g zs) ∧ Hid (Box wr2 w.heap.size 184 #[.int .u64 0, .slice none 0 0]) ∧ Hid (Below w.heap.size w wr2) ∧ Hid (g < wr2.heap.size) ∧ Hid (shufF d t zs = R)) (fun _ i _ => (intOf i).toNat)
      case atStart => exact ⟨k - 1, s, List.range k, Nat.le_refl _, rfl, rfl, hs, Lib.hid (by simp), HNA, Z2, B2, HG1, HSH⟩
      case round =>
        clear hn1 HNA Z2 B2 HG1 HSH
        obtain ⟨d, t, zs, hd, rfl, rfl, ht, HZL, HNA, Z2, B2, HG1, HSF⟩ := hrel
        by_cases hd0 : 0 < d
        · have hd0' : (0 : Int) < d := by omega
          have HSF2 := Lib.hid (show shufF (d - 1) (belowN (d + 1) t).1 (swapN zs d (belowN (d + 1) t).2) = R by rw [← shufF_step d t zs hd0]; exact HSF.out)
          clear HSF
          go_wp2_with fail
          rw [show (d : Int) + 1 = ((d + 1 : Nat) : Int) from rfl]
          refine (refBelow_any t (d + 1) ht (by omega) (by omega) _).mono ?_
          rintro e w2 ⟨rfl, hb⟩
          have hbl := belowN_lt (d + 1) t (by omega) ht
          generalize belowN (d + 1) t = bb at *
          obtain ⟨t', j⟩ := bb
          simp only at hbl HSF2
          obtain ⟨ht', hj⟩ := hbl
          have hsz := Lib.hid (show wr.heap.size ≤ w2.heap.size from hb.size)
          have NA2 := Lib.hid (HNA.out.keep hb HG1.out)
          have Z3 := Lib.hid (Z2.out.keep hb)
          have B3 := Lib.hid (chain B2.out hb)
          have G3 := Lib.hid (Nat.lt_of_lt_of_le HG1.out hb.size)
          clear hb HNA Z2 B2 HG1
          go_upto_region 10 with (fail)
          have NA3 := Lib.hid (NA2.out.keep ((Below.refl _ w2).alloc (Nat.le_refl _) (.cells #[.int .u64 (t' : Int), .int .i64 (j : Int)] 227)) G3.out)
          have Z3 := Lib.hid (Z3.out.alloc (.cells #[.int .u64 (t' : Int), .int .i64 (j : Int)] 227))
          have B3 := Lib.hid (B3.out.alloc B3.out.size (.cells #[.int .u64 (t' : Int), .int .i64 (j : Int)] 227))
          have SB := Lib.hid (Box.new w2 227 #[.int .u64 (t' : Int), .int .i64 (j : Int)])
          have hne : g ≠ w2.heap.size := Nat.ne_of_lt G3.out
          have G3 := Lib.hid (show g < (w2.alloc (.cells #[.int .u64 (t' : Int), .int .i64 (j : Int)] 227)).heap.size by have := G3.out; simp; omega)
          clear NA2
          generalize hq : w2.heap.size = q at *
          clear hq
          generalize w2.alloc (.cells #[.int .u64 (t' : Int), .int .i64 (j : Int)] 227) = w3 at *
          have hdk : d < k := by omega
          have hjk : j < k := by omega
          have hdc : (d : Int) < k := by omega
          have hjc : (j : Int) < k := by omega
          obtain ⟨c1, f1⟩ := NA3.out d (by rw [HZL.out]; exact hdk)
          obtain ⟨c2, f2⟩ := NA3.out j (by rw [HZL.out]; exact hjk)
          obtain ⟨e1, e2, -, -⟩ := SB.out.two
          have P1 := Lib.hid (show NatsAt ((w3.setCell ⟨g, d, none⟩ (.int .i64 (zs.getD j 0 : Nat))).setCell ⟨g, j, none⟩ (.int .i64 (zs.getD d 0 : Nat))) g (swapN zs d j) from NA3.out.swap d j (by rw [HZL.out]; exact hdk) (by rw [HZL.out]; exact hjk))
          have P2 := Lib.hid ((B3.out.setCell (p := ⟨g, d, none⟩) (by show w.heap.size ≤ g; omega) (.int .i64 (zs.getD j 0 : Nat))).setCell (p := ⟨g, j, none⟩) (by show w.heap.size ≤ g; omega) (.int .i64 (zs.getD d 0 : Nat)))
          have P3 := Lib.hid (show (swapN zs d j).length = k by rw [swapN_len, HZL.out])
          have P5 := Lib.hid (show g < ((w3.setCell ⟨g, d, none⟩ (.int .i64 (zs.getD j 0 : Nat))).setCell ⟨g, j, none⟩ (.int .i64 (zs.getD d 0 : Nat))).heap.size by have := G3.out; simpa [World.setCell] using this)
          have P6 := Lib.hid ((Z3.out.far (p := ⟨g, d, none⟩) (by show w.heap.size ≠ g; omega) (.int .i64 (zs.getD j 0 : Nat))).far (p := ⟨g, j, none⟩) (by show w.heap.size ≠ g; omega) (.int .i64 (zs.getD d 0 : Nat)))
          have hd1 : IntKind.i64.wrap ((d : Int) - 1) = ((d - 1 : Nat) : Int) := by rw [IntWalk.i64_in _ (by omega)]; omega
          clear NA3 Z3 B3 SB G3 HZL
          generalize swapN zs d j = zs' at *
          generalize zs.getD d 0 = x at *
          generalize zs.getD j 0 = y at *
          generalize hd1e : d - 1 = d1 at *
          have hd1l : d1 ≤ k - 1 := by omega
          have hd1m : d1 < d := by omega
          clear hd1e
          by_cases hij : d = j
          · subst hij
            have hxy : y = x := by
              rw [c1] at c2
              injection c2 with c2
              injection c2 with _ c2
              omega
            subst hxy
            clear c2 f2
            go_wp2_with fail
            go_roundw
            case rel => exact ⟨d1, t', zs', hd1l, by go_num, rfl, ht', P3, P1, P6, P2, P5, HSF2⟩
            case measure => simp [intOf] <;> omega
          · have hji : j ≠ d := fun e => hij e.symm
            go_wp2_with fail
            go_roundw
            case rel => exact ⟨d1, t', zs', hd1l, by go_num, rfl, ht', P3, P1, P6, P2, P5, HSF2⟩
            case measure => simp [intOf] <;> omega
        · obtain rfl : d = 0 := by omega
          have hd0' : ¬ (0 : Int) < 0 := by omega
          have HR := Lib.hid (show R = (t, zs) from (Eq.symm HSF.out))
          obtain ⟨e1, e2, f1, f2⟩ := Z2.out.two
          go_wp2_with fail
          refine close_one Tryz.results153 rfl rfl Z2.out.put2 Tryz.underlying184 rfl (by kernel_rfl) ?_
          unfold RShufOut
          rw [HRR.out, HR.out]
          refine ⟨g, c, rfl, hcap, ?_, HZL.out, by omega, by have := HG1.out; simpa [World.setCell] using this, (B2.out.setCell (p := ⟨w.heap.size, 0, none⟩) (Nat.le_refl _) _).setCell (p := ⟨w.heap.size, 1, none⟩) (Nat.le_refl _) _⟩
          exact (HNA.out.far (p := ⟨w.heap.size, 0, none⟩) (by show g ≠ w.heap.size; omega) _).far (p := ⟨w.heap.size, 1, none⟩) (by show g ≠ w.heap.size; omega) _
end
section
/- Layer 6, its lists: an order has each number once; so many of them, rising. No program. -/
set_option linter.unusedVariables false
set_option linter.unusedSimpArgs false
theorem swapN_perm (l : List Nat) (i j : Nat) (hi : i < l.length) (hj : j < l.length) : (swapN l i j).Perm l := by
  rw [List.perm_iff_count]
  intro a
  have g1 : l.getD j 0 = l[j] := by simp [List.getD, hj]
  have g2 : l.getD i 0 = l[i] := by simp [List.getD, hi]
  have hj2 : j < (l.set i l[j]).length := by simpa using hj
  have e : (l.set i l[j])[j] = l[j] := by
    rw [List.getElem_set]
    split
    · rfl
    · rfl
  unfold swapN
  rw [g1, g2, List.count_set hj2, e, List.count_set hi]
  have p1 : (if l[i] == a then 1 else 0) ≤ l.count a := by
    split
    · rename_i h
      have : l[i] = a := by simpa using h
      rw [← this]
      exact List.count_pos_iff.2 (List.getElem_mem hi)
    · omega
  generalize hx : (if l[i] == a then 1 else 0) = x at *
  generalize hy : (if l[j] == a then 1 else 0) = y at *
  omega
theorem shufF_perm : ∀ (i s : Nat) (l : List Nat), i < l.length → s < 18446744073709551616 → (shufF i s l).2.Perm l ∧ (shufF i s l).1 < 18446744073709551616
  | 0, s, l, _, hs => ⟨List.Perm.refl _, hs⟩
  | i + 1, s, l, h, hs => by
    have hb := belowN_lt (i + 2) s (by omega) hs
    have ih := shufF_perm i (belowN (i + 2) s).1 (swapN l (i + 1) (belowN (i + 2) s).2) (by rw [swapN_len]; omega) hb.1
    exact ⟨ih.1.trans (swapN_perm _ _ _ h (by omega)), ih.2⟩
theorem shufN_perm (n s : Nat) (hn : 1 ≤ n) (hs : s < 18446744073709551616) : (shufN n s).2.Perm (List.range n) ∧ (shufN n s).1 < 18446744073709551616 :=
  shufF_perm (n - 1) s (List.range n) (by simp; omega) hs
/-- So many of an order, rising. -/
def someN (n many s : Nat) : List Nat := (List.range n).filter fun i => ((shufN n s).2.take many).contains i
theorem range_sorted (n : Nat) : (List.range n).Pairwise (· < ·) := List.pairwise_lt_range
theorem nodup_shuf (n s : Nat) (hn : 1 ≤ n) (hs : s < 18446744073709551616) : (shufN n s).2.Nodup :=
  (shufN_perm n s hn hs).1.nodup_iff.2 List.nodup_range
theorem some_perm (n many s : Nat) (hn : 1 ≤ n) (hs : s < 18446744073709551616) : (someN n many s).Perm ((shufN n s).2.take many) := by
  have hp := (shufN_perm n s hn hs).1
  have hnd : ((shufN n s).2.take many).Nodup := (nodup_shuf n s hn hs).sublist (List.take_sublist _ _)
  rw [List.perm_iff_count]
  intro a
  have hnd2 : (someN n many s).Nodup := List.nodup_range.sublist List.filter_sublist
  rw [hnd.count, hnd2.count]
  have hm : a ∈ someN n many s ↔ a ∈ (shufN n s).2.take many := by
    unfold someN
    rw [List.mem_filter]
    constructor
    · rintro ⟨_, h⟩; simpa using h
    · intro h
      exact ⟨hp.mem_iff.1 (List.mem_of_mem_take h), by simpa using h⟩
  simp only [hm]
theorem some_sort (n many s : Nat) (hn : 1 ≤ n) (hs : s < 18446744073709551616) : ((shufN n s).2.take many).mergeSort (fun x y => decide (x ≤ y)) = someN n many s := by
  have h1 : (((shufN n s).2.take many).mergeSort (fun x y => decide (x ≤ y))).Perm (someN n many s) := (List.mergeSort_perm _ _).trans (some_perm n many s hn hs).symm
  refine List.Perm.eq_of_pairwise (le := fun x y => x ≤ y) (fun a b _ _ h1 h2 => Nat.le_antisymm h1 h2) ?_ ?_ h1
  · have := List.pairwise_mergeSort (le := fun x y : Nat => decide (x ≤ y)) (by intro a b c; simp; omega) (by intro a b; simp; omega) ((shufN n s).2.take many)
    simpa using this
  · exact ((range_sorted n).sublist List.filter_sublist).imp (fun h => Nat.le_of_lt h)
theorem some_len (n many s : Nat) (hn : 1 ≤ n) (hs : s < 18446744073709551616) (hm : many ≤ n) : (someN n many s).length = many := by
  rw [(some_perm n many s hn hs).length_eq, List.length_take, (shufN_perm n s hn hs).1.length_eq, List.length_range]
  omega
theorem some_int (n many s : Nat) (hn : 1 ≤ n) (hs : s < 18446744073709551616) : (((shufN n s).2.take many).map fun x : Nat => (x : Int)).mergeSort (fun x y => decide (x ≤ y)) = (someN n many s).map fun x : Nat => (x : Int) := by
  rw [← some_sort n many s hn hs]
  refine (List.map_mergeSort ?_).symm
  intro a _ b _
  simp
end
section
/- Contracts of layer 6's reference: in, Some. -/
set_option linter.unusedVariables false
set_option linter.unusedSimpArgs false
open Go.RowKit
theorem contains_take_succ (zs : List Nat) (i x : Nat) (hi : i < zs.length) : (zs.take (i + 1)).contains x = ((zs.take i).contains x || (zs.getD i 0 == x)) := by
  rw [List.take_succ_eq_append_getElem hi]
  have : zs.getD i 0 = zs[i] := by simp [List.getD, hi]
  rw [this, Bool.eq_iff_iff]
  simp only [List.contains_iff_mem, List.mem_append, List.mem_singleton, Bool.or_eq_true, beq_iff_eq]
  exact or_congr Iff.rfl eq_comm
/-- Is a number in a row? -/
def hasN (l : List Nat) (x : Nat) : Bool := l.contains x
set_option maxHeartbeats 1000000 in
theorem inN_any (g c k many x : Nat) (zs : List Nat) (w : World) (hz : zs.length = k) (hna : NatsAt w g zs) (hm : many ≤ k) (hc : k ≤ c) (hk : k ≤ 512) :
    Calls Tryz.prog 154 #[.slice (some ⟨g, 0, none⟩) k c, .int .i64 many, .int .i64 x] w fun e w' => e = .returned (.bool (hasN (zs.take many) x)) ∧ w = w' := by
  have HNA := Lib.hid hna
  have HZ := Lib.hid hz
  clear hna hz
  have hmc : (many : Int) ≤ c := by omega
  have hmk : (many : Int) ≤ k := by omega
  go_enter Tryz.func154, Tryz.ntmps154
  go_wp2_with fail
  go_loop [13] (fun i => ∃ j : Nat, j ≤ many ∧ i = .int .i64 j ∧ Hid (hasN (zs.take j) x = false)) (fun i => many - (intOf i).toNat)
  case atStart => exact ⟨0, by omega, rfl, Lib.hid rfl⟩
  case round =>
    obtain ⟨j, hj, rfl, HNO⟩ := hrel
    by_cases hjm : j < many
    · have hjm' : (j : Int) < many := by omega
      obtain ⟨c1, f1⟩ := HNA.out j (by rw [HZ.out]; omega)
      have HS := Lib.hid (show hasN (zs.take (j + 1)) x = (hasN (zs.take j) x || (zs.getD j 0 == x)) from contains_take_succ zs j x (by rw [HZ.out]; omega))
      rw [HNO.out] at HS
      have HT := Lib.hid (show zs.getD j 0 = x → hasN (zs.take many) x = true from fun e => by
        unfold hasN
        rw [List.contains_iff_mem, ← e]
        have hl : j < zs.length := by rw [HZ.out]; omega
        have : zs.getD j 0 = (zs.take many)[j]'(by simp; omega) := by simp [List.getD, hl]
        rw [this]
        exact List.getElem_mem _)
      generalize zs.getD j 0 = y at *
      by_cases hyx : y = x
      · have t1 : ((y : Int) == (x : Int)) = true := beq_iff_eq.2 (by omega)
        have HR := Lib.hid (HT.out hyx)
        clear hyx
        go_wp2
        go_ret
        exact ⟨by rw [HR.out]; rfl, rfl⟩
      · have t1 : ((y : Int) == (x : Int)) = false := beq_eq_false_iff_ne.2 (by omega)
        have HS2 := Lib.hid (show hasN (zs.take (j + 1)) x = false by rw [HS.out, beq_eq_false_iff_ne.2 hyx]; rfl)
        clear hyx
        go_wp2
        go_round
        case rel => exact ⟨j + 1, by omega, by go_num, HS2⟩
        case measure => simp [intOf] <;> omega
    · obtain rfl : j = many := by omega
      have hjm' : ¬ (j : Int) < j := by omega
      go_wp2
      go_ret
      exact ⟨by rw [HNO.out]; rfl, rfl⟩
theorem own_lower {w : World} {base base' e size n : Nat} {v : Value} {xs : List Value} (h : w.ownsRow base e size v n xs) (hb : base' ≤ base) : w.ownsRow base' e size v n xs := by
  refine ⟨h.1, ?_⟩
  rcases h.2 with h0 | ⟨g, cap, cur, rfl, h1, h2⟩
  · exact .inl h0
  · exact .inr ⟨g, cap, cur, rfl, Nat.le_trans hb h1, h2⟩
theorem range_filter_succ (p : Nat → Bool) (k : Nat) : (List.range (k + 1)).filter p = (List.range k).filter p ++ (if p k = true then [k] else []) := by
  rw [List.range_succ, List.filter_append, List.filter_cons, List.filter_nil]
/-- What the reference's Some hands back. -/
def RSomeOut (n many s : Nat) (w : World) (e : Ending) (w' : World) : Prop :=
  ∃ v, e = .returned (.agg #[.int .u64 ((shufN n s).1 : Nat), v]) ∧ w'.ownsRow w.heap.size 3 1 v (someN n many s).length ((someN n many s).map natV) ∧ Below w.heap.size w w'
set_option maxRecDepth 100000 in
set_option maxHeartbeats 2000000 in
theorem refSome_any (s n many : Nat) (hs : s < 18446744073709551616) (h1 : 1 ≤ n) (h2 : n ≤ 512) (hm : many ≤ n) (w : World) : Calls Tryz.prog 140 #[.int .u64 s, .int .i64 n, .int .i64 many] w (RSomeOut n many s w) := by
  obtain ⟨i0, hi, hz0, hz1, hz2⟩ := info_parts int_infoR
  have HI := Lib.hid hi
  have HZ0 := Lib.hid hz0
  have HZ1 := Lib.hid hz1
  have HZ2 := Lib.hid hz2
  clear hi hz0 hz1 hz2
  have hsl : (someN n many s) = (List.range n).filter (hasN ((shufN n s).2.take many)) := rfl
  have HSL := Lib.hid hsl
  clear hsl
  have Z0 := Lib.hid (Box.new w 184 #[.int .u64 0, .slice none 0 0])
  have B0 := Lib.hid ((Below.refl w.heap.size w).alloc (Nat.le_refl _) (.cells #[.int .u64 0, .slice none 0 0] 184))
  go_enter Tryz.func140, Tryz.ntmps140
  go_wp2_with fail
  refine (refShuffle_any s n hs h1 h2 _).mono ?_
  rintro e w1 ⟨g, c, rfl, hcap, hna, hzl, hg0, hg1, hb⟩
  have HR := Lib.hid (show ∀ e w', RSomeOut n many s w e w' ↔ (∃ v, e = .returned (.agg #[.int .u64 ((shufN n s).1 : Nat), v]) ∧ w'.ownsRow w.heap.size 3 1 v ((List.range n).filter (hasN ((shufN n s).2.take many))).length (((List.range n).filter (hasN ((shufN n s).2.take many))).map natV) ∧ Below w.heap.size w w') from fun e w' => by unfold RSomeOut; rw [HSL.out])
  clear HSL
  generalize (shufN n s).1 = st at *
  generalize (shufN n s).2 = T at *
  have Z1 := Lib.hid (((Z0.out.keep hb).alloc (.cells #[.int .u64 st, .slice (some ⟨g, 0, none⟩) n c] 184)).alloc (.cells #[.int .u64 st, .slice none 0 0] 184))
  have B1 := Lib.hid (chain B0.out hb)
  have B2 := Lib.hid ((B1.out.alloc B1.out.size (.cells #[.int .u64 st, .slice (some ⟨g, 0, none⟩) n c] 184)).alloc (by have := B1.out.size; simp; omega) (.cells #[.int .u64 st, .slice none 0 0] 184))
  have NA := Lib.hid (hna.keep (((Below.refl _ w1).alloc (Nat.le_refl _) (.cells #[.int .u64 st, .slice (some ⟨g, 0, none⟩) n c] 184)).alloc (by simp) (.cells #[.int .u64 st, .slice none 0 0] 184)) hg1)
  have SB := Lib.hid ((Box.new w1 184 #[.int .u64 st, .slice (some ⟨g, 0, none⟩) n c]).alloc (.cells #[.int .u64 st, .slice none 0 0] 184))
  have OB := Box.new (w1.alloc (.cells #[.int .u64 st, .slice (some ⟨g, 0, none⟩) n c] 184)) 184 #[.int .u64 st, .slice none 0 0]
  simp only [World.size_alloc] at OB
  have OB := Lib.hid OB
  have HZL := Lib.hid hzl
  have hw1 : w.heap.size + 1 ≤ w1.heap.size := by have := hb.size; simpa using this
  have hgw : w.heap.size + 1 ≤ g := by simpa using hg0
  have HSZ := Lib.hid (show ((w1.alloc (.cells #[.int .u64 st, .slice (some ⟨g, 0, none⟩) n c] 184)).alloc (.cells #[.int .u64 st, .slice none 0 0] 184)).heap.size = w1.heap.size + 2 by simp)
  clear hna hzl hg0 hb Z0 B0 B1
  go_wp2_with fail
  generalize (w1.alloc (.cells #[.int .u64 st, .slice (some ⟨g, 0, none⟩) n c] 184)).alloc (.cells #[.int .u64 st, .slice none 0 0] 184) = W0 at *
  generalize hbq : w1.heap.size = b at *
  clear hbq
  go_loopw [9] (fun i wr => ∃ (k : Nat) (v : Value), k ≤ n ∧ i = .int .i64 k ∧ Hid (Box wr (b + 1) 184 #[.int .u64 st, v]) ∧ Hid (wr.ownsRow (b + 2) 3 1 v ((List.range k).filter (hasN (T.take many))).length (((List.range k).filter (hasN (T.take many))).map natV)) ∧
    Hid (Box wr b 184 #[.int .u64 st, .slice (some ⟨g, 0, none⟩) n c]) ∧ Hid (NatsAt wr g T) ∧ Hid (Box wr w.heap.size 184 #[.int .u64 0, .slice none 0 0]) ∧ Hid (Below w.heap.size w wr) ∧ Hid (b + 2 ≤ wr.heap.size)) (fun i _ => n - (intOf i).toNat)
  case atStart => exact ⟨0, _, by omega, rfl, OB, Lib.hid (World.ownsRow_nil _ _ _ _), SB, NA, Z1, B2, Lib.hid (by rw [HSZ.out]; exact Nat.le_refl _)⟩
  case round =>
    clear OB SB NA Z1 B2
    obtain ⟨k, v, hk, rfl, OB, HO, SB, NA, Z1, B2, HS2⟩ := hrel
    by_cases hkn : k < n
    · have hkn' : (k : Int) < n := by omega
      obtain ⟨a0, a1, -, -⟩ := SB.out.two
      go_wp2_with fail
      refine (inN_any g c n many k T _ HZL.out NA.out hm hcap h2).mono ?_
      rintro e w2 ⟨rfl, rfl⟩
      have HFL := Lib.hid (range_filter_succ (hasN (T.take many)) k)
      generalize hL : (List.range k).filter (hasN (T.take many)) = L at *
      have hLn : L.length ≤ k := by rw [← hL]; exact Nat.le_trans (List.length_filter_le _ _) (by simp)
      have HLn := Lib.hid hL
      clear hL
      cases hh : hasN (T.take many) k with
      | true =>
        rw [hh] at HFL
        clear hh
        obtain ⟨A', c', rfl, _⟩ := own_form HO.out
        obtain ⟨e0, e1, -, -⟩ := OB.out.two
        have hi' := HI.out
        have hz0' := HZ0.out
        have hz1' := HZ1.out
        have hz2' := HZ2.out
        have XO := Lib.hid (HO.out.alloc (.cells #[.int .i64 (k : Int)] 3))
        have XK := Lib.hid ((Below.refl (b + 2) wr).alloc HS2.out (.cells #[.int .i64 (k : Int)] 3))
        have N2 := Lib.hid (fun q hq => (HO.out.lt q hq).1)
        have HBS := Lib.hid (show b + 2 ≤ (wr.alloc (.cells #[.int .i64 (k : Int)] 3)).heap.size by have := HS2.out; simp; omega)
        go_wp2_with (at_builtin; refine wpList_append_own _ rfl _ _ 106 rfl (b + 2) 3 i0 (.int .i64 0) 1 8 Tryz.underlying106 hi' hz0' hz1' hz2' rfl (by decide) _ _ _ rfl XO.out ⟨wr.heap.size, 0, none⟩ 1 1 [.int .i64 (k : Int)] rfl rfl (cell_one_new _ _ _) (by simp [Value.oneCell']) (by simp [maxLen]; omega) (by omega) HBS.out ?_; intro v' w2 hown' hgrow _; obtain ⟨g', cap', rfl⟩ := ownsRow_succ hown'; have XK2 := Lib.hid (XK.out.grown hgrow HBS.out N2.out); have HO2 := Lib.hid hown'; have OB2 := Lib.hid (OB.out.below XK2.out (by omega)); obtain ⟨m0, m1, q0, q1⟩ := OB2.out.two; clear hown' hgrow e0 e1)
        have hgb : g ≠ b + 1 := by omega
        have hbb : b ≠ b + 1 := by omega
        have hwb : w.heap.size ≠ b + 1 := by omega
        go_roundw
        case rel =>
          refine ⟨k + 1, _, by omega, by go_num, Lib.hid (OB2.out.put 1 _), ?_, Lib.hid ((SB.out.below XK2.out (by omega)).far (p := ⟨b + 1, 1, none⟩) hbb _), Lib.hid ((NA.out.keep XK2.out (by omega)).far (p := ⟨b + 1, 1, none⟩) hgb _), Lib.hid ((Z1.out.below XK2.out (by omega)).far (p := ⟨b + 1, 1, none⟩) hwb _), Lib.hid ((B2.out.trans (XK2.out.mono (by omega))).setCell (p := ⟨b + 1, 1, none⟩) (by show w.heap.size ≤ b + 1; omega) _), Lib.hid ?_⟩
          · rw [HFL.out, if_pos trivial, List.length_append, List.length_singleton, List.map_append]
            exact Lib.hid (own_far HO2.out OB2.out (by decide) 1 (.slice (some ⟨g', 0, none⟩) (L.length + 1) cap'))
          · have h1 := XK2.out.size
            have h2 := HS2.out
            have : (w2.setCell ⟨b + 1, 1, none⟩ (.slice (some ⟨g', 0, none⟩) (L.length + 1) cap')).heap.size = w2.heap.size := by simp [World.setCell]
            omega
        case measure => simp [intOf] <;> omega
      | false =>
        rw [hh] at HFL
        clear hh
        go_wp2_with fail
        go_roundw
        case rel =>
          refine ⟨k + 1, v, by omega, by go_num, OB, ?_, SB, NA, Z1, B2, HS2⟩
          rw [HFL.out]
          simpa using HO
        case measure => simp [intOf] <;> omega
    · obtain rfl : k = n := by omega
      have hkk : ¬ (k : Int) < k := by omega
      obtain ⟨A', c', rfl, _⟩ := own_form HO.out
      obtain ⟨e0, e1, -, -⟩ := OB.out.two
      obtain ⟨m0, m1, q0, q1⟩ := Z1.out.two
      go_wp2_with fail
      refine close_one Tryz.results140 rfl rfl Z1.out.put2 Tryz.underlying184 rfl (by kernel_rfl) ((HR.out _ _).2 ⟨_, rfl, ?_, (B2.out.setCell (p := ⟨w.heap.size, 0, none⟩) (Nat.le_refl _) _).setCell (p := ⟨w.heap.size, 1, none⟩) (Nat.le_refl _) _⟩)
      have h1 := own_far HO.out Z1.out (by decide) 0 (.int .u64 st)
      have h2 := own_far h1 (Z1.out.put 0 _) (by decide) 1 (.slice A' (List.filter (hasN (T.take many)) (List.range k)).length c')
      exact own_lower h2 (by omega)
end
section
/- Contract of layer 6: Some (over the shelf's contracts of slices.Clone and slices.Sort). -/
set_option linter.unusedVariables false
set_option linter.unusedSimpArgs false
open Go.RowKit Go.Sort
/-- A row of the call's own that is not nil, as a row that may be written. -/
theorem own_nats' {w : World} {base e n : Nat} {v : Value} {zs : List Nat} (h : w.ownsRow base e 1 v n (zs.map natV)) (hne : v ≠ .slice none 0 0) : ∃ g c, v = .slice (some ⟨g, 0, none⟩) n c ∧ n ≤ c ∧ base ≤ g ∧ g < w.heap.size ∧ NatsAt w g zs ∧ zs.length = n := by
  have hl : zs.length = n := by have := h.1; simpa using this
  rcases h.2 with ⟨h0, _⟩ | ⟨g, cap, cur, rfl, hb, hh, hcap, hm, hs, hx⟩
  · exact absurd h0 hne
  · have hbx : Box w g e cur := hh
    refine ⟨g, cap, rfl, hcap, hb, hbx.lt, fun j hj => ?_, hl⟩
    rw [hbx.cell j, hbx.free j]
    refine ⟨?_, rfl⟩
    have e1 : (cur.toList.take (n * 1))[j]? = (zs.map natV)[j]? := by rw [hx]
    rw [Nat.mul_one, List.getElem?_take, if_pos (by omega)] at e1
    simp only [List.getElem?_map, List.getElem?_eq_getElem hj, Option.map_some] at e1
    rw [← Array.getElem?_toList, e1]
    simp [List.getD, hj, natV]
theorem mapBlock_other (w : World) (blk k : Nat) (f : Array Value → Array Value) (h : k ≠ blk) : (mapBlock w blk f).heap[k]? = w.heap[k]? := by
  simp only [mapBlock, Array.getElem?_modify]
  rw [if_neg (fun e => h e.symm)]
/-- The world behind a sort. -/
theorem sorted_below (w : World) (n blk off : Nat) (d : Array Int) (os : Array Obj) (h : blk < w.heap.size) : Below blk w (grow (putRow (Value.int .i64) (Sort.ahead w n) blk off d) os) :=
  ⟨rfl, rfl, rfl, by simp, fun k hk => by
    rw [heap_grow_old _ _ (by simp; omega)]
    exact mapBlock_other _ _ _ _ (by omega)⟩
theorem holds_nats {w : World} {g : Nat} {zs : List Nat} (h : NatsAt w g zs) : Holds (Value.int .i64) w g 0 (zs.map fun x : Nat => (x : Int)).toArray := by
  intro j hj
  have hj' : j < zs.length := by simpa using hj
  obtain ⟨h1, h2⟩ := h j hj'
  rw [Nat.zero_add]
  refine ⟨?_, h2⟩
  rw [h1]
  simp [List.getD, hj']
theorem nats_holds {w : World} {g : Nat} {zs : List Nat} (h : Holds (Value.int .i64) w g 0 (zs.map fun x : Nat => (x : Int)).toArray) : NatsAt w g zs := by
  intro j hj
  obtain ⟨h1, h2⟩ := h j (by simpa using hj)
  rw [Nat.zero_add] at h1 h2
  refine ⟨?_, h2⟩
  rw [h1]
  simp [List.getD, hj]
/-- slices.Sort at a row of small numbers. -/
theorem sort_nats (g c k : Nat) (zs zs' : List Nat) (hz : zs.length = k) (w : World) (h : NatsAt w g zs) (hg : g < w.heap.size) (hs : (zs.map fun x : Nat => (x : Int)).mergeSort (fun x y => decide (x ≤ y)) = zs'.map fun x : Nat => (x : Int)) (hk : k ≤ 512) :
    Calls Tryz.prog 206 #[.slice (some ⟨g, 0, none⟩) k c] w fun e w' => e = .returned (.tuple #[]) ∧ NatsAt w' g zs' ∧ Below g w w' := by
  have hl : (zs.map fun x : Nat => (x : Int)).length = k := by simpa using hz
  have hl2 : zs'.length = zs.length := by
    have := congrArg List.length hs
    simpa using this.symm
  have := Tryz.slices_Sort_int g 0 c (zs.map fun x : Nat => (x : Int)) w (holds_nats h) hg (by omega)
  rw [hl] at this
  refine this.mono ?_
  rintro e w' ⟨rfl, n, os, rfl⟩
  refine ⟨rfl, ?_, sorted_below w n g 0 _ os hg⟩
  rw [hs]
  refine nats_holds (holds_grow _ _ _ _ _ _ (by simpa using hg) ?_)
  exact holds_putRow _ (Sort.ahead w n) g 0 (zs.map fun x : Nat => (x : Int)).toArray _ (holds_nats h) (by simp [hl2])
/-- What Some hands back. -/
def SomeOut (n many s : Nat) (w : World) (e : Ending) (w' : World) : Prop :=
  ∃ g c, e = .returned (.tuple #[.int .u64 ((shufN n s).1 : Nat), .slice (some ⟨g, 0, none⟩) many c, .int .i64 0]) ∧ many ≤ c ∧ NatsAt w' g (someN n many s) ∧ (someN n many s).length = many ∧ w.heap.size ≤ g ∧ g < w'.heap.size ∧ Below w.heap.size w w'
set_option maxRecDepth 100000 in
set_option maxHeartbeats 2000000 in
theorem some_yes (s n many : Nat) (hs : s < 18446744073709551616) (h1 : 1 ≤ n) (h2 : n ≤ 512) (hm : many ≤ n) (w : World) : Calls Tryz.prog 182 #[.int .u64 s, .int .i64 n, .int .i64 many] w (SomeOut n many s w) := by
  have H := Lib.hid (bound_any n)
  rw [decide_eq_true (p := 1 ≤ (n : Int) ∧ (n : Int) ≤ 512) (by omega)] at H
  have HSI := Lib.hid (some_int n many s h1 hs)
  have HSL := Lib.hid (some_len n many s h1 hs hm)
  have hm0 : ¬ (many : Int) < 0 := by omega
  have hm1 : ¬ (n : Int) < many := by omega
  have hm2 : (many : Int) ≤ n := by omega
  go_enter Tryz.func182, Tryz.ntmps182
  go_wp2_with fail
  refine (H.out _).mono ?_
  rintro e w1 ⟨rfl, rfl⟩
  go_wp2_with fail
  refine (shuffle_yes s n hs h1 h2 _).mono ?_
  rintro e w1 ⟨g, rfl, hna, hzl, hg0, hg1, hb⟩
  have HNA := Lib.hid hna
  have HZL := Lib.hid hzl
  have B1 := Lib.hid hb
  clear hna hzl hb
  go_wp2_with fail
  have HCL := Tryz.slices_Clone_int g 0 many n ((shufN n s).2.map fun x : Nat => (x : Int)) w1 (by simp [HZL.out]; exact hm) (by omega) (fun j hj => by
    have hj' : j < (shufN n s).2.length := by simpa using hj
    rw [Nat.zero_add, (HNA.out j hj').1]
    simp [List.getD, hj'])
  refine HCL.mono ?_
  clear HCL
  rintro e w2 ⟨v, rfl, hown, hne, hb⟩
  have hown2 : w2.ownsRow w1.heap.size 3 1 v many (((shufN n s).2.take many).map natV) := by
    rw [← List.map_take, List.map_map] at hown
    exact hown
  obtain ⟨g2, c2, rfl, hc2, hg2, hg3, hn2, hl2⟩ := own_nats' hown2 hne
  have B2 := Lib.hid (chain B1.out hb)
  have HN2 := Lib.hid hn2
  have HL2 := Lib.hid hl2
  have hw1 := B1.out.size
  clear hown hown2 hne hb hn2 hl2 HNA HZL
  have HS : ∀ W, Hid (W = w2) → Calls Tryz.prog 206 #[.slice (some ⟨g2, 0, none⟩) many c2] W fun e w' => e = .returned (.tuple #[]) ∧ NatsAt w' g2 (someN n many s) ∧ Below g2 W w' := by
    rintro W hW
    have hW : W = w2 := hW
    subst hW
    by_cases h0 : many = 0
    · subst h0
      refine (Tryz.slices_Sort_int_none (some ⟨g2, 0, none⟩) c2 W).mono ?_
      rintro e w' ⟨rfl, rfl⟩
      refine ⟨rfl, ?_, Below.refl _ _⟩
      have := HSL.out
      intro j hj
      omega
    · exact sort_nats g2 c2 many _ _ HL2.out W HN2.out hg3 HSI.out (by omega)
  have HS := Lib.hid HS
  go_wp2_with fail
  refine (HS.out w2 (Lib.hid rfl)).mono ?_
  rintro e w3 ⟨rfl, hn3, hb⟩
  go_wp2_with fail
  go_ret3
  exact ⟨g2, c2, rfl, hc2, hn3, HSL.out, by omega, Nat.lt_of_lt_of_le hg3 hb.size, B2.out.trans (hb.mono (by omega))⟩
end
section
/- Contract of the reference's Numbers: are two rows the same? -/
set_option linter.unusedVariables false
set_option linter.unusedSimpArgs false
open Go.RowKit
end
section
/- Layer 6: rows of small numbers as rows of ints. -/
set_option linter.unusedVariables false
set_option linter.unusedSimpArgs false
open Go.RowKit
def castZ (zs : List Nat) : List Int := zs.map fun x : Nat => (x : Int)
theorem castZ_getD (zs : List Nat) (j : Nat) : (castZ zs).getD j 0 = ((zs.getD j 0 : Nat) : Int) := by
  by_cases h : j < zs.length
  · simp [castZ, List.getD, h]
  · simp [castZ, List.getD, List.getElem?_eq_none (Nat.le_of_not_lt h)]
theorem nats_ints {w : World} {g k : Nat} {zs : List Nat} (h : NatsAt w g zs) (hz : zs.length = k) (hg : g < w.heap.size) (hb : ∀ x ∈ zs, x ≤ 1000000) : Ints w (some ⟨g, 0, none⟩) k (castZ zs) := by
  refine ⟨by simpa [castZ] using hz, fun j => ?_, fun _ => ⟨g, 0, rfl, hg, fun j hj => ?_⟩⟩
  · rw [castZ_getD]
    have : zs.getD j 0 ≤ 1000000 := by
      by_cases hj : j < zs.length
      · have : zs.getD j 0 = zs[j] := by simp [List.getD, hj]
        rw [this]; exact hb _ (List.getElem_mem hj)
      · simp [List.getD, List.getElem?_eq_none (Nat.le_of_not_lt hj)]
    omega
  · rw [castZ_getD, Nat.zero_add]
    exact (h j (by omega)).1
theorem some_bound (n many s : Nat) (h2 : n ≤ 512) : ∀ x ∈ someN n many s, x ≤ 1000000 := by
  intro x hx
  have := List.mem_filter.1 hx
  have : x < n := by simpa using this.1
  omega
theorem own_natInts {w : World} {base n : Nat} {A : Option Addr} {c : Nat} {zs : List Nat} (h : w.ownsRow base 3 1 (.slice A n c) n (zs.map natV)) (hb : ∀ x ∈ zs, x ≤ 1000000) : Ints w A n (castZ zs) := by
  have h' : w.ownsRow base 3 1 (.slice A n c) n ((castZ zs).map (Value.int .i64)) := by
    have : (castZ zs).map (Value.int .i64) = zs.map natV := by simp [castZ, natV, Function.comp_def]
    rw [this]; exact h
  refine own_ints h' (fun j => ?_)
  rw [castZ_getD]
  have : zs.getD j 0 ≤ 1000000 := by
    by_cases hj : j < zs.length
    · have : zs.getD j 0 = zs[j] := by simp [List.getD, hj]
      rw [this]; exact hb _ (List.getElem_mem hj)
    · simp [List.getD, List.getElem?_eq_none (Nat.le_of_not_lt hj)]
  omega
end
section
/- Words as values; rows of the call's own, from a lower base. No program. -/
set_option linter.unusedVariables false
set_option linter.unusedSimpArgs false
open Go.RowKit
def u64V (x : Nat) : Value := .int .u64 (x : Int)
theorem own_low {w : World} {base base' e size n : Nat} {v : Value} {xs : List Value} (h : w.ownsRow base e size v n xs) (hb : base' ≤ base) : w.ownsRow base' e size v n xs := by
  refine ⟨h.1, ?_⟩
  rcases h.2 with h0 | ⟨g, cap, cur, rfl, h1, h2⟩
  · exact .inl h0
  · exact .inr ⟨g, cap, cur, rfl, Nat.le_trans hb h1, h2⟩
end
section
/- Plain mathematics of layer 7: roots, tables. No program. -/
set_option linter.unusedVariables false
set_option linter.unusedSimpArgs false
theorem countP_lt (n m : Nat) : (List.range n).countP (fun i => decide (i < m)) = min n m := by
  induction n with
  | zero => simp
  | succ n ih =>
    rw [List.range_succ, List.countP_append, ih]
    by_cases h : n < m
    · simp [h]; omega
    · simp [h]; omega
/-- How many of the numbers below 65536 have squares of at most k. -/
def cnt (k : Nat) : Nat := (List.range 65536).countP (fun i => !decide (k < i * i))
theorem exists_root (k : Nat) : ∃ s, s * s ≤ k ∧ k < (s + 1) * (s + 1) := by
  induction k with
  | zero => exact ⟨0, by omega, by omega⟩
  | succ k ih =>
    obtain ⟨s, h1, h2⟩ := ih
    by_cases h : k + 1 < (s + 1) * (s + 1)
    · exact ⟨s, by omega, h⟩
    · refine ⟨s + 1, by omega, ?_⟩
      have e : (s + 1 + 1) * (s + 1 + 1) = (s + 1) * (s + 1) + 2 * s + 3 := by
        simp only [Nat.add_mul, Nat.mul_add]; omega
      omega
theorem sq_le {a b : Nat} (h : a ≤ b) : a * a ≤ b * b := Nat.mul_le_mul h h
theorem cnt_of (k s : Nat) (h1 : s * s ≤ k) (h2 : k < (s + 1) * (s + 1)) (hs : s < 65536) : cnt k = s + 1 := by
  unfold cnt
  have : (List.range 65536).countP (fun i => !decide (k < i * i)) = (List.range 65536).countP (fun i => decide (i < s + 1)) := by
    apply List.countP_congr
    intro i _
    have : (k < i * i) ↔ ¬ (i < s + 1) := by
      constructor
      · intro h h3
        have := sq_le (show i ≤ s by omega)
        omega
      · intro h
        have := sq_le (show s + 1 ≤ i by omega)
        omega
    simp [this]
  rw [this, countP_lt]
  omega
/-- A number's square root, rounded down. -/
def root (k : Nat) : Nat := cnt k - 1
theorem root_of (k s : Nat) (h1 : s * s ≤ k) (h2 : k < (s + 1) * (s + 1)) (hk : k ≤ 2147483647) : root k = s ∧ cnt k = s + 1 := by
  have hs : s < 65536 := by
    rcases Nat.lt_or_ge s 65536 with h | h
    · exact h
    · have := sq_le h; omega
  have := cnt_of k s h1 h2 hs
  exact ⟨by unfold root; omega, this⟩
theorem root_spec (k : Nat) (hk : k ≤ 2147483647) : root k * root k ≤ k ∧ k < (root k + 1) * (root k + 1) ∧ cnt k = root k + 1 ∧ root k < 65536 := by
  obtain ⟨s, h1, h2⟩ := exists_root k
  obtain ⟨e, e2⟩ := root_of k s h1 h2 hk
  have hs : s < 65536 := by
    rcases Nat.lt_or_ge s 65536 with h | h
    · exact h
    · have := sq_le h; omega
  rw [e, e2]
  exact ⟨h1, h2, rfl, hs⟩
/-- May a table be? -/
def risesFrom : Nat → List Nat → Bool
  | _, [] => true
  | a, x :: l => decide (a < x) && risesFrom x l
def tabB (ws : List Nat) : Bool := decide (1 ≤ ws.length) && decide (ws.length ≤ 64) && risesFrom 0 ws
theorem rises_at : ∀ (ws : List Nat) (a k : Nat), risesFrom a ws = true → k < ws.length → a < ws.getD k 0 ∧ (k + 1 < ws.length → ws.getD k 0 < ws.getD (k + 1) 0)
  | [], _, _, _, h => by simp at h
  | x :: l, a, k, h, hk => by
    simp only [risesFrom, Bool.and_eq_true, decide_eq_true_eq] at h
    cases k with
    | zero =>
      refine ⟨by simpa using h.1, fun hl => ?_⟩
      have := (rises_at l x 0 h.2 (by simpa using hl)).1
      simpa using this
    | succ k =>
      have := rises_at l x k h.2 (by simpa using hk)
      simp only [List.length_cons] at hk
      refine ⟨by have := this.1; simp only [List.getD_cons_succ]; omega, fun hl => ?_⟩
      simpa using this.2 (by simpa using hl)
theorem rises_mono (ws : List Nat) (h : risesFrom 0 ws = true) (a b : Nat) (hab : a ≤ b) (hb : b < ws.length) : ws.getD a 0 ≤ ws.getD b 0 := by
  induction b with
  | zero => obtain rfl : a = 0 := by omega
            exact Nat.le_refl _
  | succ b ih =>
    by_cases e : a = b + 1
    · rw [e]; exact Nat.le_refl _
    · have h1 := ih (by omega) (by omega)
      have h2 := (rises_at ws 0 b h (by omega)).2 hb
      omega
theorem rises_take (ws : List Nat) (a k : Nat) (hk : k < ws.length) : risesFrom a (ws.take (k + 1)) = (risesFrom a (ws.take k) && decide ((if k = 0 then a else ws.getD (k - 1) 0) < ws.getD k 0)) := by
  induction ws generalizing a k with
  | nil => simp at hk
  | cons x l ih =>
    cases k with
    | zero => simp [risesFrom]
    | succ k =>
      rw [List.take_succ_cons, List.take_succ_cons, risesFrom, risesFrom, ih x k (by simpa using hk), Bool.and_assoc]
      cases k with
      | zero => simp
      | succ k => simp
theorem rises_stop (ws : List Nat) (k : Nat) (hk : k ≤ ws.length) (h : risesFrom 0 (ws.take k) = false) : risesFrom 0 ws = false := by
  rw [Bool.eq_false_iff]
  intro ha
  have : ∀ j, j ≤ ws.length → risesFrom 0 (ws.take j) = true := by
    intro j hj
    have hz := List.take_append_drop j ws
    generalize ws.take j = p at *
    generalize ws.drop j = q at *
    subst hz
    clear h hk hj
    have : ∀ (p : List Nat) (a : Nat), risesFrom a (p ++ q) = true → risesFrom a p = true := by
      intro p
      induction p with
      | nil => intro a _; rfl
      | cons x p ih =>
        intro a h
        simp only [List.cons_append, risesFrom, Bool.and_eq_true] at h ⊢
        exact ⟨h.1, ih x h.2⟩
    exact this p 0 ha
  rw [this k hk] at h
  cases h
/-- The degree that a number picks. -/
def pickN (ws : List Nat) (n : Nat) : Nat := (List.range ws.length).countP (fun i => !decide (n < ws.getD i 0))
theorem pickN_of (ws : List Nat) (n s : Nat) (h1 : ∀ i, i < s → ws.getD i 0 ≤ n) (h2 : ∀ i, s ≤ i → i < ws.length → n < ws.getD i 0) (hs : s ≤ ws.length) : pickN ws n = s := by
  unfold pickN
  have : (List.range ws.length).countP (fun i => !decide (n < ws.getD i 0)) = (List.range ws.length).countP (fun i => decide (i < s)) := by
    apply List.countP_congr
    intro i hi
    have hi' : i < ws.length := by simpa using hi
    by_cases h : i < s
    · have := h1 i h
      simp [h]
      simp [List.getD] at this
      omega
    · have := h2 i (by omega) hi'
      simp [h]
      simp [List.getD] at this
      omega
  rw [this, countP_lt]
  omega
end
section
/- Contracts of layer 7: sort.Search with a predicate that leaves old memory; Root. -/
set_option linter.unusedVariables false
set_option linter.unusedSimpArgs false
open Go.RowKit
/-- What a search asks of its predicate. -/
def Asks (P : Program) (g : Nat) (cb : Array Value) (n : Nat) (p : Nat → Bool) (w : World) : Prop :=
  ∀ (W : World) (i : Nat), i < n → Below w.heap.size w W → Calls P g (#[.int .i64 i] ++ cb) W fun e W' => e = .returned (.bool (p i)) ∧ Below w.heap.size w W'
def Parted (n : Nat) (p : Nat → Bool) (lo hi : Nat) : Prop := (∀ t, t < lo → p t = false) ∧ (∀ t, hi ≤ t → t < n → p t = true)
theorem parted_count (n : Nat) (p : Nat → Bool) (k : Nat) (hk : k ≤ n) (h : Parted n p k k) : (List.range n).countP (fun i => !p i) = k := by
  have : (List.range n).countP (fun i => !p i) = (List.range n).countP (fun i => decide (i < k)) := by
    apply List.countP_congr
    intro i hi
    have hi' : i < n := by simpa using hi
    by_cases e : i < k
    · simp [e, h.1 i e]
    · simp [e, h.2 i (by omega) hi']
  rw [this, countP_lt]; omega
set_option maxHeartbeats 2000000 in
theorem search_any (g : Nat) (cb : Array Value) (n : Nat) (p : Nat → Bool) (w : World) (eg : ∀ args w, (callFunc g args).run Tryz.prog w = .ok (.enter g args) w) (hsz : n < 4611686018427387904)
    (hf : Asks Tryz.prog g cb n p w) (hmono : ∀ a b, a ≤ b → b < n → p a = true → p b = true) :
    Calls Tryz.prog 201 #[.int .i64 n, .func (.func g) #[] cb] w fun e w' => e = .returned (.int .i64 ((List.range n).countP (fun i => !p i) : Nat)) ∧ Below w.heap.size w w' := by
  have M := Lib.hid hmono
  have CN := Lib.hid (parted_count n p)
  clear hmono
  generalize (List.range n).countP (fun i => !p i) = cnt at *
  go_enter Tryz.func201, Tryz.ntmps201
  go_wp2
  go_loopg [5, 6] n (fun kx s5 s6 wr => ∃ (lo hi : Nat), s5 = .int .i64 lo ∧ s6 = .int .i64 hi ∧ lo ≤ hi ∧ hi ≤ n ∧ hi - lo ≤ kx ∧ Below w.heap.size w wr ∧ Parted n p lo hi)
  case atStart => exact ⟨0, n, rfl, rfl, Nat.zero_le _, Nat.le_refl _, by omega, Below.refl _ _, ⟨fun t ht => absurd ht (Nat.not_lt_zero _), fun t h1 h2 => by omega⟩⟩
  case round =>
    obtain ⟨lo, hi, rfl, rfl, hlh, hin, hg, hbel, I⟩ := hrel
    by_cases hlt : lo < hi
    · have hc := hf _ ((lo + hi) / 2) (by omega) hbel
      rw [show (((lo + hi) / 2 : Nat) : Int) = ((lo : Int) + (hi : Int)) / 2 by omega] at hc
      cases hp : p ((lo + hi) / 2) <;> rw [hp] at hc
      · have HP := Lib.hid hp
        clear hp
        go_wp2_with (go_at_fn g; refine hc.mono ?_; rintro e w' ⟨rfl, hb2⟩)
        go_roundg (hi - ((lo + hi) / 2 + 1))
        case measure => omega
        case rel =>
          have I2 : Parted n p ((lo + hi) / 2 + 1) hi := ⟨fun t ht => (by
            cases h : p t with
            | false => rfl
            | true => have := M.out t ((lo + hi) / 2) (by omega) (by omega) h; rw [HP.out] at this; cases this), I.2⟩
          exact ⟨(lo + hi) / 2 + 1, hi, by rw [show ((lo : Int) + (hi : Int)) / 2 + 1 = (((lo + hi) / 2 + 1 : Nat) : Int) by omega], rfl, by omega, hin, Nat.le_refl _, hb2, I2⟩
      · have HP := Lib.hid hp
        clear hp
        go_wp2_with (go_at_fn g; refine hc.mono ?_; rintro e w' ⟨rfl, hb2⟩)
        go_roundg ((lo + hi) / 2 - lo)
        case measure => omega
        case rel =>
          have I2 : Parted n p lo ((lo + hi) / 2) := ⟨I.1, fun t ht htn => M.out ((lo + hi) / 2) t ht htn HP.out⟩
          exact ⟨lo, (lo + hi) / 2, rfl, by rw [show ((lo : Int) + (hi : Int)) / 2 = (((lo + hi) / 2 : Nat) : Int) by omega], by omega, by omega, Nat.le_refl _, hb2, I2⟩
    · obtain rfl : hi = lo := by omega
      have ecnt := CN.out hi hin I
      subst ecnt
      go_wp2
      go_ret
      exact ⟨rfl, hbel⟩
theorem sq_cast (i : Nat) : (i : Int) * (i : Int) = ((i * i : Nat) : Int) := by simp
theorem rootF_any (bk k i : Nat) (W : World) (hi : i < 65536) (hk : k ≤ 2147483647) (hc : W.cell? ⟨bk, 0, none⟩ = some (.int .i64 k)) :
    Calls Tryz.prog 214 (#[.int .i64 i] ++ #[.pointer (some ⟨bk, 0, none⟩)]) W fun e w' => e = .returned (.bool (decide (k < i * i))) ∧ ∃ q, w' = W.drewN q := by
  have h1 : i * i ≤ 4294836225 := Nat.mul_le_mul (show i ≤ 65535 by omega) (show i ≤ 65535 by omega)
  have h2 : (i : Int) * (i : Int) ≤ 4294836225 := by rw [sq_cast]; omega
  have h3 : 0 ≤ (i : Int) * (i : Int) := by rw [sq_cast]; omega
  have e : decide (k < i * i) = decide ((k : Int) < (i : Int) * (i : Int)) := decide_eq_decide.2 (by rw [sq_cast]; omega)
  rw [e]
  clear e h1
  go_enter Tryz.func214, Tryz.ntmps214
  go_wp2
  go_ret
  exact ⟨rfl, 0, rfl⟩
set_option maxHeartbeats 1000000 in
theorem root_yes (k : Nat) (hk : k ≤ 2147483647) (w : World) :
    Calls Tryz.prog 207 #[.int .i64 k] w fun e w' => e = .returned (.tuple #[.int .i64 (root k : Nat), .int .i64 0]) ∧ Below w.heap.size w w' := by
  obtain ⟨W0, hW0⟩ : ∃ W0, W0 = w.alloc (.cells #[.int .i64 k] 3) := ⟨_, rfl⟩
  have hB0 : Below w.heap.size w W0 := by rw [hW0]; exact (Below.refl _ _).alloc (Nat.le_refl _) _
  have bx : Box W0 w.heap.size 3 #[.int .i64 k] := by rw [hW0]; exact Box.new _ _ _
  have eg : ∀ args w, (callFunc 214 args).run Tryz.prog w = .ok (.enter 214 args) w := enters_of Tryz.func214 (by kernel_rfl) rfl
  have hf : Asks Tryz.prog 214 #[.pointer (some ⟨w.heap.size, 0, none⟩)] 65536 (fun i => decide (k < i * i)) W0 := fun W i hi hb =>
    (rootF_any w.heap.size k i W hi hk ((bx.keep hb).cell 0)).mono fun _ _ ⟨he, q, hq⟩ => ⟨he, by rw [hq]; exact bdN hb q⟩
  have hS := search_any 214 _ 65536 _ W0 eg (by omega) hf (fun a b hab _ h => by have := sq_le hab; simp at h ⊢; omega)
  have hc := (root_spec k hk).2.2
  rw [show (List.range 65536).countP (fun i => !decide (k < i * i)) = root k + 1 from hc.1] at hS
  have hr : root k < 65536 := hc.2
  have HS := Lib.hid hS
  have HW0 := Lib.hid hW0
  have HB := Lib.hid hB0
  generalize root k = r at *
  clear hc hS hf bx hB0 hW0
  have t2 : ¬ (2147483647 : Int) < k := by omega
  go_enter Tryz.func207, Tryz.ntmps207
  go_wp2_with fail
  rw [← HW0.out]
  refine HS.out.mono ?_
  rintro e w' ⟨rfl, hb⟩
  go_wp2_with fail
  go_ret2
  exact ⟨by simp, chain HB.out hb⟩
end
section
/- Contracts of layer 7: plain, more, math/bits.Len64 at small numbers. -/
set_option linter.unusedVariables false
set_option linter.unusedSimpArgs false
open Go.RowKit
def plainN (d k : Nat) : Nat := if d = 1 then 4294967296 / k else 4294967296 / (d * (d - 1))
def moreN (d p t k : Nat) : Nat := if d < p then 4294967296 * t / (d * k) else if d = p then 4294967296 * t * Lib.bitLen t / k else 0
theorem mul_cast (a b : Nat) : (a : Int) * (b : Int) = ((a * b : Nat) : Int) := by simp
theorem tab_size : Lib.len8tab.size = 256 := by decide +kernel
theorem len_tab : ∀ n : Fin 256, wrap64 (wrap64 ((Lib.len8tab[n.val]'(by rw [tab_size]; exact n.isLt)).toNat : Int)) = (Lib.bitLen n.val : Int) := by decide +kernel
set_option maxHeartbeats 4000000 in
set_option maxRecDepth 100000 in
theorem len64_int (x : Int) (w : World) (h0 : 0 ≤ x) (h1 : x < 256) : Calls Tryz.prog 215 #[.int .u64 x] w fun e w' => e = .returned (.int .i64 (Lib.bitLen x.toNat)) ∧ w = w' := by
  go_enter Tryz.func215, Tryz.ntmps215
  go_wp2
  go_ret
  refine ⟨congrArg Ending.returned (congrArg (Value.int IntKind.i64) ?_), rfl⟩
  exact len_tab ⟨x.toNat, by omega⟩
theorem len64_any (x : Nat) (hx : x < 256) (w : World) : Calls Tryz.prog 215 #[.int .u64 x] w fun e w' => e = .returned (.int .i64 (Lib.bitLen x : Nat)) ∧ w = w' := by
  have := len64_int x w (by omega) (by omega)
  rwa [Int.toNat_natCast] at this
theorem bitLen_le (x : Nat) (hx : x < 256) : Lib.bitLen x ≤ 8 := by
  have := Lib.bitLen_le8' (x : Int) (by omega) (by omega)
  rw [Int.toNat_natCast] at this
  omega
theorem plain_any (d k : Nat) (h1 : 1 ≤ d) (h2 : d ≤ 64) (h3 : 1 ≤ k) (h4 : k ≤ 64) (w : World) :
    Calls Tryz.prog 209 #[.int .u64 d, .int .u64 k] w fun e w' => e = .returned (.int .u64 (plainN d k : Nat)) ∧ w = w' := by
  by_cases hd : d = 1
  · subst hd
    have g : (1 : Int) ≤ k := by omega
    go_enter Tryz.func209, Tryz.ntmps209
    go_wp2
    go_ret
    exact ⟨rfl, rfl⟩
  · obtain ⟨c, rfl⟩ : ∃ c, d = c + 1 := ⟨d - 1, by omega⟩
    have t : (((c + 1 : Nat) : Int) == 1) = false := beq_eq_false_iff_ne.2 (by omega)
    have e : plainN (c + 1) k = 4294967296 / ((c + 1) * c) := by rw [plainN, if_neg hd]; rfl
    rw [e]
    have q0 : 1 * 1 ≤ (c + 1) * c := Nat.mul_le_mul (by omega) (by omega)
    have q1 : (c + 1) * c ≤ 64 * 63 := Nat.mul_le_mul (by omega) (by omega)
    have q2 : ((c : Int) + 1) * (c : Int) = (((c + 1) * c : Nat) : Int) := by simp
    have q3 : 1 ≤ ((c : Int) + 1) * (c : Int) := by rw [q2]; omega
    have q4 : ((c : Int) + 1) * (c : Int) ≤ 4032 := by rw [q2]; omega
    have HQ := Lib.hid q2
    clear q2 e
    go_enter Tryz.func209, Tryz.ntmps209
    go_wp2
    go_ret
    exact ⟨congrArg (fun z => Ending.returned (.int .u64 z)) (by rw [HQ.out]; simp), rfl⟩
set_option maxHeartbeats 1000000 in
theorem more_any (d p t k : Nat) (h1 : 1 ≤ d) (h2 : d ≤ 64) (h3 : 1 ≤ k) (h4 : k ≤ 64) (h5 : 1 ≤ t) (h6 : t ≤ 64) (h7 : p ≤ 64) (w : World) :
    Calls Tryz.prog 210 #[.int .u64 d, .int .u64 p, .int .u64 t, .int .u64 k] w fun e w' => e = .returned (.int .u64 (moreN d p t k : Nat)) ∧ w = w' := by
  have g1 : (1 : Int) ≤ k := by omega
  by_cases hd : d < p
  · have e : moreN d p t k = 4294967296 * t / (d * k) := by rw [moreN, if_pos hd]
    rw [e]
    have g : (d : Int) < p := by omega
    have q0 : 1 * 1 ≤ d * k := Nat.mul_le_mul (by omega) (by omega)
    have q1 : d * k ≤ 64 * 64 := Nat.mul_le_mul (by omega) (by omega)
    have q2 : (d : Int) * (k : Int) = ((d * k : Nat) : Int) := by simp
    have q3 : 1 ≤ (d : Int) * (k : Int) := by rw [q2]; omega
    have q4 : (d : Int) * (k : Int) ≤ 4096 := by rw [q2]; omega
    have HQ := Lib.hid q2
    clear q2 e
    go_enter Tryz.func210, Tryz.ntmps210
    go_wp2
    go_ret
    exact ⟨congrArg (fun z => Ending.returned (.int .u64 z)) (by rw [HQ.out]; simp), rfl⟩
  · have g : ¬ (d : Int) < p := by omega
    by_cases hp : d = p
    · have e : moreN d p t k = 4294967296 * t * Lib.bitLen t / k := by rw [moreN, if_neg hd, if_pos hp]
      rw [e]
      have g2 : ((d : Int) == (p : Int)) = true := beq_iff_eq.2 (by omega)
      have HL := Lib.hid (len64_any t (by omega) w)
      have hb := bitLen_le t (by omega)
      generalize Lib.bitLen t = z at *
      have q1 : t * z ≤ 64 * 8 := Nat.mul_le_mul (by omega) (by omega)
      have q2 : 4294967296 * (t : Int) * (z : Int) = ((4294967296 * (t * z) : Nat) : Int) := by rw [Int.mul_assoc, mul_cast]; simp
      have q3 : 0 ≤ 4294967296 * (t : Int) * (z : Int) := by rw [q2]; omega
      have q4 : 4294967296 * (t : Int) * (z : Int) ≤ 2199023255552 := by rw [q2]; omega
      have HQ := Lib.hid q2
      clear q2 e hp hd
      go_enter Tryz.func210, Tryz.ntmps210
      go_wp2_with fail
      refine HL.out.mono ?_
      rintro e w1 ⟨rfl, rfl⟩
      go_wp2
      go_ret
      exact ⟨congrArg (fun z => Ending.returned (.int .u64 z)) (by rw [HQ.out, Nat.mul_assoc]; simp), rfl⟩
    · have e : moreN d p t k = 0 := by rw [moreN, if_neg hd, if_neg hp]
      rw [e]
      have g2 : ((d : Int) == (p : Int)) = false := beq_eq_false_iff_ne.2 (by omega)
      clear e hp
      go_enter Tryz.func210, Tryz.ntmps210
      go_wp2
      go_ret
      exact ⟨rfl, rfl⟩
end
section
/- A law of one's own for a region that draws its order inside a fence: its first operations and calls leave the world alone but for draws, the rest come one after the other (a call that writes among them). One walk serves every order. No program. -/
set_option linter.unusedVariables false
set_option linter.unusedSimpArgs false
section
variable {F : Fence} {n : Nat} {P : Program} {ops : Array Oper} {md : Region.Mode} {C : World → Prop}
/-- Whatever order the first m operations take, f of them are still to come; L at the end. -/
def headIn (F : Fence) (n : Nat) (P : Program) (md : Region.Mode) (ops : Array Oper) (C : World → Prop) (m : Nat) (L : Array Bool → Act → Prop) : Nat → Array Bool → Act → Prop
  | 0, listed, a => L listed a
  | f + 1, listed, a => Region.ready md ops listed ≠ [] ∧ ∀ i ∈ Region.ready md ops listed, i < m ∧ qOpIn F n P ops C i (headIn F n P md ops C m L f (listed.setIfInBounds i true)) a
theorem any_of_head {m g : Nat} {L : Array Bool → Act → Prop} {Q : Exit → Act → World → Prop} (hro : F.round = none) (hL : ∀ listed a w, C w → L listed a → wpAnyIn F n P md ops Q g listed a w) :
    ∀ (f : Nat) (listed : Array Bool) (a : Act) (w : World), C w → headIn F n P md ops C m L f listed a → wpAnyIn F n P md ops Q (f + g) listed a w
  | 0, listed, a, w, hw, h => by rw [Nat.zero_add]; exact hL _ _ _ hw h
  | f + 1, listed, a, w, hw, h => by
    rw [show f + 1 + g = (f + g) + 1 by omega]
    exact ⟨fun h0 => absurd h0 h.1, fun i hi => wpOpIn_of_qOpIn hro hw (fun a' w' hw' h' => any_of_head hro hL f _ a' w' hw' h') (h.2 i hi).2⟩
theorem head_first {m i : Nat} {oi : Oper} {v : Value} {L : Array Bool → Act → Prop} (hi : ops[i]? = some oi) (hsel : ∀ (j : Nat) (o : Oper) cs b, ops[j]? = some o → o.op ≠ .select cs b)
    (hs : Region.sinkB md ops m = true) (hc : Region.chainB md ops m = true) (hm : m < ops.size) (him : i < m) (hdone : ∀ listed a, L listed a → ∀ j ∈ Region.ready md ops listed, m ≤ j) :
    ∀ (f : Nat) (listed : Array Bool) (a : Act), HeadInv md ops m listed →
      (∀ j oj, ops[j]? = some oj → j ≠ i → listed.getD j true = false → (∀ e ∈ oj.after, Region.binds md e = true → e.on ≠ i) → oi.apart ops oj = true) →
      i ∈ Region.ready md ops listed → YieldsQuiet F n P ops C oi v a →
      headIn F n P md ops C m L f (listed.setIfInBounds i true) (a.put oi.dst v) → headIn F n P md ops C m L (f + 1) listed a := by
  intro f
  induction f with
  | zero =>
    intro listed a inv _ hr hy H
    have hun := (mem_ready.1 hr).1
    refine ⟨fun h => (by rw [h] at hr; cases hr), fun j hj => ?_⟩
    have hjm : j < m := by
      rcases Nat.lt_or_ge j m with h | h
      · exact h
      · exact absurd hj (tail_waits hs hc hm inv _ i rfl him hun j h)
    refine ⟨hjm, ?_⟩
    by_cases hji : j = i
    · subst hji; exact hy.qOpIn hi H
    · have := hdone _ _ H j (ready_mono hj hji)
      omega
  | succ f ih =>
    intro listed a inv hfree hr hy H
    have hun := (mem_ready.1 hr).1
    refine ⟨fun h => (by rw [h] at hr; cases hr), fun j hj => ?_⟩
    have hjm : j < m := by
      rcases Nat.lt_or_ge j m with h | h
      · exact h
      · exact absurd hj (tail_waits hs hc hm inv _ i rfl him hun j h)
    refine ⟨hjm, ?_⟩
    by_cases hji : j = i
    · subst hji; exact hy.qOpIn hi H
    · have h1 := (H.2 j (ready_mono hj hji)).2
      obtain ⟨hjun, oj, hoj, hall⟩ := mem_ready.1 hj
      have hnot : ∀ e ∈ oj.after, Region.binds md e = true → e.on ≠ i := fun e he hb heq => by
        have h1 := hall e he hb
        rw [heq, getD_both hun] at h1
        cases h1
      have h2 := qOpIn_put hoj (hfree j oj hoj hji hjun hnot) (fun cs b => hsel i oi cs b hi) (fun cs b => hsel j oj cs b hoj) hy h1
      have hfree' : ∀ k ok, ops[k]? = some ok → k ≠ i → (listed.setIfInBounds j true).getD k true = false →
          (∀ e ∈ ok.after, Region.binds md e = true → e.on ≠ i) → oi.apart ops ok = true := fun k ok hk hki hun hno => by
        refine hfree k ok hk hki ?_ hno
        by_cases hjk : j = k
        · subst hjk; exact hjun
        · rw [getD_set_ne true hjk] at hun; exact hun
      refine qOpIn_mono (fun a' h3 => ih (listed.setIfInBounds j true) a' (inv.set hj hjm) hfree' (ready_mono hr (Ne.symm hji)) h3.1 ?_) h2
      rw [Array.setIfInBounds_comm _ _ hji]
      exact h3.2
theorem any_of_list {Q : Exit → Act → World → Prop} : ∀ (l : List Oper) (k : Nat) (listed : Array Bool) (a : Act) (w : World), (∀ j, l[j]? = ops[k + j]?) →
    Region.seqB md ops l.length k listed = true → wpListIn F n P ops Q l a w → wpAnyIn F n P md ops Q l.length listed a w
  | [], _, _, _, _, _, hB, h => ⟨by simpa [Region.seqB] using hB, h⟩
  | o :: l, k, listed, a, w, hl, hB, h => by
    have h0 : ops[k]? = some o := by simpa using (hl 0).symm
    simp only [List.length_cons, Region.seqB, Bool.and_eq_true, decide_eq_true_eq] at hB
    refine ⟨fun h1 => (by rw [hB.1] at h1; cases h1), fun i hi => ?_⟩
    rw [hB.1] at hi
    have hik : i = k := by simpa using hi
    subst hik
    have hw : wpOpIn F n P ops Q i (wpListIn F n P ops Q l) a w := by unfold wpOpIn; simp only [h0]; exact h
    exact wpOpIn_mono (fun a' w' h' => any_of_list l (i + 1) _ a' w' (fun j => by have := hl (j + 1); simpa [Nat.add_assoc, Nat.add_comm 1 j] using this) hB.2 h') hw
theorem head_lex {m g : Nat} {Lq : Act → Prop} (hsel : Region.noSelect ops = true) (hs : Region.sinkB md ops m = true) (hc : Region.chainB md ops m = true) (hm : m < ops.size) :
    ∀ (l : List Oper) (k : Nat) (listed : Array Bool) (a : Act), (∀ j, j < l.length → l[j]? = ops[k + j]?) → k + l.length = m → HeadInv md ops m listed →
    Region.lexHead md ops g l.length k listed = true → wpQuietIn F n P ops C Lq l a →
    headIn F n P md ops C m (fun listed' a' => Region.seqB md ops g m listed' = true ∧ Lq a') l.length listed a
  | [], k, listed, a, _, hk, _, hB, h => by
    have : k = m := by simpa using hk
    subst this
    exact ⟨by simpa [Region.lexHead] using hB, h⟩
  | o :: l, k, listed, a, hl, hk, inv, hB, h => by
    have h0 : ops[k]? = some o := by simpa using (hl 0 (by simp)).symm
    simp only [List.length_cons, Region.lexHead, Bool.and_eq_true] at hB
    obtain ⟨⟨hr, hf⟩, hB'⟩ := hB
    have hkm : k < m := by simp only [List.length_cons] at hk; omega
    have hr' : k ∈ Region.ready md ops listed := by simpa using hr
    have hst : qOpIn F n P ops C k (wpQuietIn F n P ops C Lq l) a := by unfold qOpIn; simp only [h0]; exact h
    obtain ⟨v, hy, hK⟩ := yieldsQuiet_of_qOpIn h0 hst
    exact head_first h0 (Region.noSelect_spec hsel) hs hc hm hkm (fun listed' a' hL => seqB_ready hL.1) l.length listed a inv (Region.free_spec h0 hf) hr' hy
      (head_lex hsel hs hc hm l (k + 1) _ _ (fun j hj => by have := hl (j + 1) (by simp; omega); simpa [Nat.add_assoc, Nat.add_comm 1 j] using this) (by simp only [List.length_cons] at hk; omega) (inv.set hr' hkm) hB' hK)
/-- ONE WALK: the first m operations quietly, whatever world some draws leave; the rest in their order. -/
theorem wpIn_quiet_tail {id : Nat} {Q : Exit → Act → World → Prop} {a : Act} {w : World} {l : List Oper} (m : Nat) (hro : F.round = none) (hmx : P.follows .mixedOrders = true) (hB : Region.lexTailB .any l.toArray m = true)
    (h : wpQuietIn F n P l.toArray (fun w' => ∃ d, w' = w.drewN d) (fun a' => ∀ w', (∃ d, w' = w.drewN d) → wpListIn F n P l.toArray Q (l.drop m) a' w') (l.take m) a) : (Code.region id l.toArray true).wpIn F n P Q a w := by
  simp only [Region.lexTailB, Bool.and_eq_true, decide_eq_true_eq] at hB
  obtain ⟨⟨⟨⟨hsel, hm⟩, hs⟩, hc⟩, hlex⟩ := hB
  have hm' : m < l.length := by simpa using hm
  have htl : (l.take m).length = m := by simp; omega
  have hdl : (l.drop m).length = l.toArray.size - m := by simp
  have inv0 : HeadInv .any l.toArray m (Array.replicate l.toArray.size false) :=
    ⟨by simp, fun j oj _ hl => (by rw [getD_replicate_false] at hl; cases hl), fun t _ ht => getD_in (by simpa using ht) (getD_replicate_false _ _)⟩
  have H := head_lex (F := F) (n := n) (C := fun w' => ∃ d, w' = w.drewN d) (md := .any) (g := l.toArray.size - m) hsel hs hc hm (l.take m) 0 _ a (fun j hj => by
    have hj' : j < m := by rw [htl] at hj; exact hj
    simp [hj']) (by simpa using htl) inv0 (by rw [htl]; exact hlex) h
  refine wpIn_region_any hmx ?_
  have := any_of_head (Q := Q) (g := l.toArray.size - m) hro (fun listed a' w' hw' hL => by
    have := any_of_list (F := F) (n := n) (md := .any) (Q := Q) (l.drop m) m listed a' w' (fun j => by simp [List.getElem?_drop]) (by rw [hdl]; exact hL.1) (hL.2 w' hw')
    rwa [hdl] at this) _ _ _ { w with drawn := w.drawn + 1 } ⟨1, rfl⟩ H
  rw [htl, show m + (l.toArray.size - m) = l.toArray.size by omega] at this
  exact this
end
end
section
/- Contracts of layer 7: the iterator of the weights. -/
set_option linter.unusedVariables false
set_option linter.unusedSimpArgs false
open Go.RowKit Go.Shelf
attribute [local go_sem] Oper.semAt_some
/-- The weight of degree d of k blocks. -/
def wgt (k d : Nat) : Nat := plainN d k + moreN d (k / root k) (root k) k
def wgts (k j : Nat) : List Nat := (List.range j).map fun i => wgt k (i + 1)
theorem wgts_succ (k j : Nat) : wgts k (j + 1) = wgts k j ++ [wgt k (j + 1)] := by simp [wgts, List.range_succ]
theorem wgts_len (k j : Nat) : (wgts k j).length = j := by simp [wgts]
theorem abides_drewN {β : Type} {B : Nat} {J : β → World → Prop} (h : AbidesFrom B J) {s : β} {W : World} (hs : J s W) (d : Nat) : J s (W.drewN d) :=
  h s W (W.drewN d) none hs ⟨rfl, rfl, rfl, Nat.le_refl _, fun _ _ _ => rfl⟩ (fun r e => by cases e)
theorem quietIn_w {F : Fence} {n : Nat} {P : Program} {f : FuncId} {args : Array Value} {w : World} {k : Nat} {v : Value}
    (h : CallsIn F n P f args (w.drewN k) fun e w' => e = .returned v ∧ w.drewN k = w') : CallsIn F n P f args (w.drewN k) fun e w'' => e = .returned v ∧ ∃ m, w'' = w.drewN m :=
  h.mono fun _ _ ⟨he, hm⟩ => ⟨he, k, hm.symm⟩
/-- What the iterator asks of a round: its three boxes stay. -/
def Kp3 (B1 B2 B3 : Nat) (W W' : World) : Prop := ∀ b, b = B1 ∨ b = B2 ∨ b = B3 → W'.heap[b]? = W.heap[b]?
theorem Kp3.trans {B1 B2 B3 : Nat} {A B C : World} (h : Kp3 B1 B2 B3 A B) (k : Kp3 B1 B2 B3 B C) : Kp3 B1 B2 B3 A C := fun b hb => (k b hb).trans (h b hb)
theorem Kp3.refl (B1 B2 B3 : Nat) (A : World) : Kp3 B1 B2 B3 A A := fun _ _ => rfl
/-- How a round ends: it goes on, or it says 'no more'. -/
def Rnd (B1 B2 B3 : Nat) (J Jx : List Nat → World → Prop) (ys : List Nat) (W : World) (b : Bool) (W' : World) : Prop := (b = true → J ys W' ∧ Kp3 B1 B2 B3 W W') ∧ (b = false → Jx ys W')
def RndE (B1 B2 B3 : Nat) (J Jx : List Nat → World → Prop) (ys : List Nat) (W : World) (e : Ending) (W' : World) : Prop := ∃ b : Bool, e = .returned (.bool b) ∧ Rnd B1 B2 B3 J Jx ys W b W'
theorem rnd_of {B1 B2 B3 : Nat} {J Jx : List Nat → World → Prop} {ys : List Nat} {W : World} (e : Ending) (W' : World) (h : (e = .returned (.bool true) ∧ J ys W' ∧ Kp3 B1 B2 B3 W W') ∨ (e = .returned (.bool false) ∧ Jx ys W')) : RndE B1 B2 B3 J Jx ys W e W' := by
  rcases h with ⟨rfl, h1, h2⟩ | ⟨rfl, h1⟩
  · exact ⟨true, rfl, fun _ => ⟨h1, h2⟩, (fun h => by cases h)⟩
  · exact ⟨false, rfl, (fun h => by cases h), fun _ => h1⟩
set_option maxRecDepth 100000 in
set_option maxHeartbeats 4000000 in
theorem weights1_in (F : Fence) (hF : F = Fence.wide) (n : Nat) (hn : 1 ≤ n) (l B1 B2 B3 k p t : Nat) (hk1 : 1 ≤ k) (hk : k ≤ 64) (ht1 : 1 ≤ t) (ht : t ≤ 64) (hp : p ≤ 64)
    (hbd : ∀ d, d ≤ k → plainN d k + moreN d p t k < 18446744073709551616) (J Jx : List Nat → World → Prop) (m₀ : Nat) (hJ : AbidesFrom m₀ J)
    (hY : ∀ (pre : List Nat) (x : Nat) (W : World), J pre W → pre.length < k → YieldAt F (n - 1) Tryz.prog l #[.int .u64 (x : Int)] W fun e W' =>
      (e = .returned (.bool true) ∧ J (pre ++ [x]) W' ∧ Kp3 B1 B2 B3 W W') ∨ (e = .returned (.bool false) ∧ Jx (pre ++ [x]) W'))
    (W : World) (h1 : W.cell? ⟨B1, 0, none⟩ = some (.int .u64 k)) (h2 : W.cell? ⟨B2, 0, none⟩ = some (.int .u64 p)) (h3 : W.cell? ⟨B3, 0, none⟩ = some (.int .u64 t)) (h0 : J [] W) :
    CallsIn F n Tryz.prog 208 #[.func (.yield l) #[] #[], .pointer (some ⟨B1, 0, none⟩), .pointer (some ⟨B2, 0, none⟩), .pointer (some ⟨B3, 0, none⟩)] W fun e W' => (∃ v, e = .returned v) ∧
      ((∃ ys, ys = (List.range k).map (fun i : Nat => plainN (i + 1) k + moreN (i + 1) p t k) ∧ J ys W') ∨ (∃ pre, (∃ j, j ≤ k ∧ pre = (List.range j).map (fun i : Nat => plainN (i + 1) k + moreN (i + 1) p t k)) ∧ Jx pre W')) := by
  subst hF
  refine callsIn_of_wp Tryz.func208 rfl trivial ?_ rfl
  simp only [Tryz.ntmps208, List.size_toArray, List.length_cons, List.length_nil, Nat.reduceAdd, Nat.reduceSub, Array.replicate_succ, Array.replicate_zero, List.push_toArray, List.append_toArray, List.nil_append, List.cons_append]
  gi_wp2
  gi_loopw [5] (fun i wr => ∃ e : Nat, 1 ≤ e ∧ e ≤ k + 1 ∧ i = .int .u64 (e : Nat) ∧ J ((List.range (e - 1)).map (fun i : Nat => plainN (i + 1) k + moreN (i + 1) p t k)) wr ∧ Kp3 B1 B2 B3 W wr)
    (fun i _ => k + 1 - (intOf i).toNat)
  case atStart => exact ⟨1, Nat.le_refl _, by omega, rfl, h0, Kp3.refl _ _ _ _⟩
  case round =>
    obtain ⟨e, he1, he, rfl, hJs, hnx⟩ := hrel
    have HNX := Lib.hid hnx
    have c1 := (World.cell?_of_block (a := ⟨B1, 0, none⟩) (hnx B1 (.inl rfl))).trans h1
    have c2 := (World.cell?_of_block (a := ⟨B2, 0, none⟩) (hnx B2 (.inr (.inl rfl)))).trans h2
    have c3 := (World.cell?_of_block (a := ⟨B3, 0, none⟩) (hnx B3 (.inr (.inr rfl)))).trans h3
    by_cases hlt : e ≤ k
    · have hsn : (List.range (e + 1 - 1)).map (fun i : Nat => plainN (i + 1) k + moreN (i + 1) p t k) = (List.range (e - 1)).map (fun i : Nat => plainN (i + 1) k + moreN (i + 1) p t k) ++ [plainN e k + moreN e p t k] := by
        obtain ⟨d, rfl⟩ : ∃ d, e = d + 1 := ⟨e - 1, by omega⟩
        simp [List.range_succ]
      have hlen : ((List.range (e - 1)).map (fun i : Nat => plainN (i + 1) k + moreN (i + 1) p t k)).length < k := by simp; omega
      have HYe := Lib.hid (fun W hW => hY _ (plainN e k + moreN e p t k) W hW hlen)
      have g : (e : Int) ≤ k := by omega
      have hb := hbd e hlt
      clear hnx hlen hY
      have HA := Lib.hid (plain_any e k (by omega) (by omega) hk1 hk)
      have HM := Lib.hid (more_any e p t k (by omega) (by omega) hk1 hk ht1 ht hp)
      have HSN := Lib.hid hsn
      have hmx : Tryz.prog.follows .mixedOrders = true := by kernel_rfl
      clear hsn
      generalize plainN e k = a at *
      generalize moreN e p t k = b at *
      have hwr : IntKind.u64.wrap ((a : Int) + (b : Int)) = (a : Int) + (b : Int) := IntWalk.u64_in _ (by omega)
      gi_wp2
      refine wpIn_quiet_tail 10 rfl (by kernel_rfl) (by kernel_rfl) ?_
      simp only [List.take_succ_cons, List.take_zero, List.drop_succ_cons, List.drop_zero]
      repeat
        refine wpQuietIn_step (fun _ _ _ _ => trivial) (fun K hK => ?_)
        go_simp
        first
          | (refine hK _ ?_; clear hK K)
          | (apply Exists.intro
             refine ⟨fun _ => ?_, hK _ ?_⟩
             (first | (gi_at_call 209; exact quietIn_w (callsIn_wide.2 (HA.out _))) | (gi_at_call 210; exact quietIn_w (callsIn_wide.2 (HM.out _))))
             clear hK K)
      refine wpQuietIn_nil ?_
      intro _ hw'
      obtain ⟨nq, rfl⟩ := hw'
      obtain ⟨fn, tmps, assign, body, hy, hR⟩ := HYe.out _ (abides_drewN hJ hJs nq)
      simp only [Int.natCast_add] at hy
      have hR' := Lib.hid (hR.mono rnd_of)
      clear hR
      gi_wp2
      refine RoundIn.mono hR'.out ?_
      rintro e' W3 ⟨bv, rfl, hP⟩
      cases bv
      · gi_wp2
        refine bodyPost_ret (results_none rfl _ _ _) rfl ?_
        exact ⟨⟨_, rfl⟩, .inr ⟨_, ⟨e, hlt, HSN.out.symm⟩, hP.2 rfl⟩⟩
      · gi_wp2
        go_roundw
        case rel => exact ⟨e + 1, by omega, by omega, by go_num, by rw [HSN.out]; exact (hP.1 rfl).1, Kp3.trans (B := wr.drewN nq) (fun b hb => HNX.out b hb) (hP.1 rfl).2⟩
        case measure => simp [intOf]; omega
    · obtain rfl : e = k + 1 := by omega
      have g : ¬ (((k + 1 : Nat) : Int) ≤ k) := by omega
      gi_wp2
      go_end0
      first
        | exact ⟨⟨_, rfl⟩, .inl hJs⟩
        | exact .inl hJs
        | exact ⟨⟨_, rfl⟩, .inl ⟨_, rfl, hJs⟩⟩
end
end Go.Proofs.YtcikoaeiopbbbaaGreat
