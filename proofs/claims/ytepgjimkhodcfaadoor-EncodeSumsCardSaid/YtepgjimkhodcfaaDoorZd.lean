/- Parts: DegW2, DegW3, Deg2, DegS1, Bitrow1, Bitrow2. -/
import Derived.Test.YtepgjimkhodcfaaDoorZc
import Derived.BigQuiet
import Derived.Deep.DeepCutAuto
import Derived.Deep.QuietTactic
import Derived.Deep.RegionHeld3
import Derived.IntWalk
import Derived.LoopIn
import Derived.LoopNIn
import Derived.Maps.AppendAt
import Derived.OwnWalkIn
import Derived.RangeFuncBound
import Derived.RangeFuncBox
import Derived.RangeFuncCalls
import Derived.RangeFuncLeaves
import Derived.RangeFuncNested
import Derived.Shelf.Abstract
import Derived.Shelf.RegionOpen
import Derived.StillTailTactics
import Derived.TacticsInMore
import Derived.Test.YtepgjimkhodcfaaDoorRows
namespace Go.Proofs.YtepgjimkhodcfaaDoor
section
/- Contracts of layer 7: the iterator of the weights. -/
set_option linter.unusedVariables false
set_option linter.unusedSimpArgs false
open Go.RowKit Go.Shelf
attribute [local go_sem] Oper.semAt_some
/-- The weight of degree d of k blocks. -/
def wgt (k d : Nat) : Nat := plainN d k + moreN d (k / root k) (root k) k
def wgts (k j : Nat) : List Nat := (List.range j).map fun i => wgt k (i + 1)
theorem wgts_succ (k j : Nat) : wgts k (j + 1) = wgts k j ++ [wgt k (j + 1)] := by simp [wgts, List.range_succ]
theorem wgts_len (k j : Nat) : (wgts k j).length = j := by simp [wgts]
theorem abides_drew {β : Type} {B : Nat} {J : β → World → Prop} (h : AbidesFrom B J) {s : β} {W : World} (hs : J s W) : J s W.drew :=
  h s W W.drew none hs ⟨rfl, rfl, rfl, Nat.le_refl _, fun _ _ _ => rfl⟩ (fun r e => by cases e)
theorem abides_drewN {β : Type} {B : Nat} {J : β → World → Prop} (h : AbidesFrom B J) {s : β} {W : World} (hs : J s W) (d : Nat) : J s (W.drewN d) :=
  h s W (W.drewN d) none hs ⟨rfl, rfl, rfl, Nat.le_refl _, fun _ _ _ => rfl⟩ (fun r e => by cases e)
theorem quietIn_w {F : Fence} {n : Nat} {P : Program} {f : FuncId} {args : Array Value} {w : World} {k : Nat} {v : Value}
    (h : CallsIn F n P f args (w.drewN k) fun e w' => e = .returned v ∧ w.drewN k = w') : CallsIn F n P f args (w.drewN k) fun e w'' => e = .returned v ∧ ∃ m, w'' = w.drewN m :=
  h.mono fun _ _ ⟨he, hm⟩ => ⟨he, k, hm.symm⟩
/-- What the iterator asks of a round: its three boxes stay. -/
def Kp3 (B1 B2 B3 : Nat) (W W' : World) : Prop := ∀ b, b = B1 ∨ b = B2 ∨ b = B3 → W'.heap[b]? = W.heap[b]?
theorem Kp3.trans {B1 B2 B3 : Nat} {A B C : World} (h : Kp3 B1 B2 B3 A B) (k : Kp3 B1 B2 B3 B C) : Kp3 B1 B2 B3 A C := fun b hb => (k b hb).trans (h b hb)
theorem Kp3.refl (B1 B2 B3 : Nat) (A : World) : Kp3 B1 B2 B3 A A := fun _ _ => rfl
/-- How a round ends: it goes on, or it says 'no more'. -/
def Rnd (B1 B2 B3 : Nat) (J Jx : List Nat → World → Prop) (ys : List Nat) (W : World) (b : Bool) (W' : World) : Prop := (b = true → J ys W' ∧ Kp3 B1 B2 B3 W W') ∧ (b = false → Jx ys W')
def RndE (B1 B2 B3 : Nat) (J Jx : List Nat → World → Prop) (ys : List Nat) (W : World) (e : Ending) (W' : World) : Prop := ∃ b : Bool, e = .returned (.bool b) ∧ Rnd B1 B2 B3 J Jx ys W b W'
theorem rnd_of {B1 B2 B3 : Nat} {J Jx : List Nat → World → Prop} {ys : List Nat} {W : World} (e : Ending) (W' : World) (h : (e = .returned (.bool true) ∧ J ys W' ∧ Kp3 B1 B2 B3 W W') ∨ (e = .returned (.bool false) ∧ Jx ys W')) : RndE B1 B2 B3 J Jx ys W e W' := by
  rcases h with ⟨rfl, h1, h2⟩ | ⟨rfl, h1⟩
  · exact ⟨true, rfl, fun _ => ⟨h1, h2⟩, (fun h => by cases h)⟩
  · exact ⟨false, rfl, (fun h => by cases h), fun _ => h1⟩
set_option maxRecDepth 100000 in
set_option maxHeartbeats 4000000 in
theorem weights1_in (F : Fence) (hF : F = Fence.wide) (n : Nat) (hn : 1 ≤ n) (l B1 B2 B3 k p t : Nat) (hk1 : 1 ≤ k) (hk : k ≤ 64) (ht1 : 1 ≤ t) (ht : t ≤ 64) (hp : p ≤ 64)
    (hbd : ∀ d, d ≤ k → plainN d k + moreN d p t k < 18446744073709551616) (J Jx : List Nat → World → Prop) (m₀ : Nat) (hJ : AbidesFrom m₀ J)
    (hY : ∀ (pre : List Nat) (x : Nat) (W : World), J pre W → pre.length < k → YieldAt F (n - 1) Tryd.prog l #[.int .u64 (x : Int)] W fun e W' =>
      (e = .returned (.bool true) ∧ J (pre ++ [x]) W' ∧ Kp3 B1 B2 B3 W W') ∨ (e = .returned (.bool false) ∧ Jx (pre ++ [x]) W'))
    (W : World) (h1 : W.cell? ⟨B1, 0, none⟩ = some (.int .u64 k)) (h2 : W.cell? ⟨B2, 0, none⟩ = some (.int .u64 p)) (h3 : W.cell? ⟨B3, 0, none⟩ = some (.int .u64 t)) (h0 : J [] W) :
    CallsIn F n Tryd.prog 94 #[.func (.yield l) #[] #[], .pointer (some ⟨B1, 0, none⟩), .pointer (some ⟨B2, 0, none⟩), .pointer (some ⟨B3, 0, none⟩)] W fun e W' => (∃ v, e = .returned v) ∧
      ((∃ ys, ys = (List.range k).map (fun i : Nat => plainN (i + 1) k + moreN (i + 1) p t k) ∧ J ys W') ∨ (∃ pre, (∃ j, j ≤ k ∧ pre = (List.range j).map (fun i : Nat => plainN (i + 1) k + moreN (i + 1) p t k)) ∧ Jx pre W')) := by
  subst hF
  refine callsIn_of_wp Tryd.func94 rfl trivial ?_ rfl
  simp only [Tryd.ntmps94, List.size_toArray, List.length_cons, List.length_nil, Nat.reduceAdd, Nat.reduceSub, Array.replicate_succ, Array.replicate_zero, List.push_toArray, List.append_toArray, List.nil_append, List.cons_append]
  gi_wp2
  gi_loopw [5] (fun i wr => ∃ e : Nat, 1 ≤ e ∧ e ≤ k + 1 ∧ i = .int .u64 (e : Nat) ∧ J ((List.range (e - 1)).map (fun i : Nat => plainN (i + 1) k + moreN (i + 1) p t k)) wr ∧ Kp3 B1 B2 B3 W wr)
    (fun i _ => k + 1 - (intOf i).toNat)
  case atStart => exact ⟨1, Nat.le_refl _, by omega, rfl, h0, Kp3.refl _ _ _ _⟩
  case round =>
    obtain ⟨e, he1, he, rfl, hJs, hnx⟩ := hrel
    have HNX := Lib.hid hnx
    have c1 := (World.cell?_of_block (a := ⟨B1, 0, none⟩) (hnx B1 (.inl rfl))).trans h1
    have c2 := (World.cell?_of_block (a := ⟨B2, 0, none⟩) (hnx B2 (.inr (.inl rfl)))).trans h2
    have c3 := (World.cell?_of_block (a := ⟨B3, 0, none⟩) (hnx B3 (.inr (.inr rfl)))).trans h3
    by_cases hlt : e ≤ k
    · have hsn : (List.range (e + 1 - 1)).map (fun i : Nat => plainN (i + 1) k + moreN (i + 1) p t k) = (List.range (e - 1)).map (fun i : Nat => plainN (i + 1) k + moreN (i + 1) p t k) ++ [plainN e k + moreN e p t k] := by
        obtain ⟨d, rfl⟩ : ∃ d, e = d + 1 := ⟨e - 1, by omega⟩
        simp [List.range_succ]
      have hlen : ((List.range (e - 1)).map (fun i : Nat => plainN (i + 1) k + moreN (i + 1) p t k)).length < k := by simp; omega
      have HYe := Lib.hid (fun W hW => hY _ (plainN e k + moreN e p t k) W hW hlen)
      have g : (e : Int) ≤ k := by omega
      have hb := hbd e hlt
      clear hnx hlen hY
      have HA := Lib.hid (plain_any e k (by omega) (by omega) hk1 hk)
      have HM := Lib.hid (more_any e p t k (by omega) (by omega) hk1 hk ht1 ht hp)
      have HSN := Lib.hid hsn
      have hmx : Tryd.prog.follows .mixedOrders = true := by kernel_rfl
      clear hsn
      generalize plainN e k = a at *
      generalize moreN e p t k = b at *
      have hwr : IntKind.u64.wrap ((a : Int) + (b : Int)) = (a : Int) + (b : Int) := IntWalk.u64_in _ (by omega)
      gi_wp2
      refine wpIn_quiet_tail 10 rfl (by kernel_rfl) (by kernel_rfl) ?_
      simp only [List.take_succ_cons, List.take_zero, List.drop_succ_cons, List.drop_zero]
      repeat
        refine wpQuietIn_step (fun _ _ _ _ => trivial) (fun K hK => ?_)
        go_simp
        first
          | (refine hK _ ?_; clear hK K)
          | (apply Exists.intro
             refine ⟨fun _ => ?_, hK _ ?_⟩
             (first | (gi_at_call 95; exact quietIn_w (callsIn_wide.2 (HA.out _))) | (gi_at_call 96; exact quietIn_w (callsIn_wide.2 (HM.out _))))
             clear hK K)
      refine wpQuietIn_nil ?_
      intro _ hw'
      obtain ⟨nq, rfl⟩ := hw'
      obtain ⟨fn, tmps, assign, body, hy, hR⟩ := HYe.out _ (abides_drewN hJ hJs nq)
      simp only [Int.natCast_add] at hy
      have hR' := Lib.hid (hR.mono rnd_of)
      clear hR
      gi_wp2
      refine RoundIn.mono hR'.out ?_
      rintro e' W3 ⟨bv, rfl, hP⟩
      cases bv
      · gi_wp2
        refine bodyPost_ret (results_none rfl _ _ _) rfl ?_
        exact ⟨⟨_, rfl⟩, .inr ⟨_, ⟨e, hlt, HSN.out.symm⟩, hP.2 rfl⟩⟩
      · gi_wp2
        go_roundw
        case rel => exact ⟨e + 1, by omega, by omega, by go_num, by rw [HSN.out]; exact (hP.1 rfl).1, Kp3.trans (B := wr.drewN nq) (fun b hb => HNX.out b hb) (hP.1 rfl).2⟩
        case measure => simp [intOf]; omega
    · obtain rfl : e = k + 1 := by omega
      have g : ¬ (((k + 1 : Nat) : Int) ≤ k) := by omega
      gi_wp2
      go_end0
      first
        | exact ⟨⟨_, rfl⟩, .inl hJs⟩
        | exact .inl hJs
        | exact ⟨⟨_, rfl⟩, .inl ⟨_, rfl, hJs⟩⟩
end
section
/- Contracts of layer 7: blocksMayBe, weights, Weights. -/
set_option linter.unusedVariables false
set_option linter.unusedSimpArgs false
open Go.RowKit Go.Shelf
attribute [local go_sem] Oper.semAt_some
def kmb (n : Int) : Bool := decide (1 ≤ n) && decide (n ≤ 64)
theorem kmb_yes {n : Int} (h : 1 ≤ n ∧ n ≤ 64) : kmb n = true := by simp [kmb, h]
theorem kmb_no {n : Int} (h : ¬ (1 ≤ n ∧ n ≤ 64)) : kmb n = false := by
  rw [Bool.eq_false_iff]; intro e; simp [kmb] at e; exact h e
theorem kmb_any (n : Int) (w : World) : Calls Tryd.prog 82 #[.int .i64 n] w fun e w' => e = .returned (.bool (kmb n)) ∧ w = w' := by
  by_cases h : 1 ≤ n
  · by_cases h2 : n ≤ 64
    · rw [kmb_yes ⟨h, h2⟩]
      go_enter Tryd.func82, Tryd.ntmps82
      go_wp2
      go_ret
      exact ⟨rfl, rfl⟩
    · rw [kmb_no (fun x => h2 x.2)]
      have t : decide (n ≤ 64) = false := by simpa using h2
      go_enter Tryd.func82, Tryd.ntmps82
      go_wp2
      go_ret
      exact ⟨by simp, rfl⟩
  · rw [kmb_no (fun x => h x.1)]
    have t : decide (1 ≤ n) = false := by simpa using h
    go_enter Tryd.func82, Tryd.ntmps82
    go_wp2
    go_ret
    exact ⟨by simp, rfl⟩
theorem root_small : ∀ k : Fin 65, 1 ≤ k.val → 1 ≤ root k.val ∧ root k.val ≤ 8 := by
  intro k h
  obtain ⟨h1, h2, _, _⟩ := root_spec k.val (by omega)
  have hk := k.isLt
  constructor
  · rcases Nat.eq_zero_or_pos (root k.val) with e | e
    · rw [e] at h2; omega
    · exact e
  · rcases Nat.lt_or_ge 8 (root k.val) with e | e
    · have := sq_le (show 9 ≤ root k.val from e); omega
    · exact e
/-- The iterator that weights hands back: its three boxes. -/
def ItOut (k : Nat) (w : World) (e : Ending) (w' : World) : Prop :=
  ∃ B1 B2 B3, e = .returned (.func (.func 94) #[] #[.pointer (some ⟨B1, 0, none⟩), .pointer (some ⟨B2, 0, none⟩), .pointer (some ⟨B3, 0, none⟩)]) ∧ Box w' B1 35 #[.int .u64 k] ∧ Box w' B2 35 #[.int .u64 (k / root k : Nat)] ∧ Box w' B3 35 #[.int .u64 (root k : Nat)] ∧ (w.heap.size ≤ B1 ∧ w.heap.size ≤ B2 ∧ w.heap.size ≤ B3) ∧ Below w.heap.size w w'
theorem weights_any (k : Nat) (h1 : 1 ≤ k) (h2 : k ≤ 64) (w : World) : Calls Tryd.prog 83 #[.int .i64 k] w (ItOut k w) := by
  have hr := root_small ⟨k, by omega⟩ h1
  simp only at hr
  have HR := Lib.hid (root_yes k (by omega) w)
  have HX := Lib.hid (show IntKind.u64.wrap ((k : Int) / (root k : Int)) = ((k / root k : Nat) : Int) by
    have : (k : Int) / (root k : Int) = ((k / root k : Nat) : Int) := by simp
    rw [this]; have h := Nat.div_le_self k (root k); generalize k / root k = q at *; exact IntWalk.u64_in _ (by omega))
  unfold ItOut
  generalize root k = r at *
  obtain ⟨g1, g2⟩ := hr
  go_enter Tryd.func83, Tryd.ntmps83
  go_wp2_with fail
  refine HR.out.mono ?_
  rintro e w1 ⟨rfl, hb⟩
  have HB := Lib.hid hb
  clear hb
  go_wp2
  go_ret
  rw [HX.out]
  have b1 := ((Box.new w1 35 #[.int .u64 k]).alloc (.cells #[.int .u64 r] 35)).alloc (.cells #[.int .u64 (k / r : Nat)] 35)
  have b3 := (Box.new (w1.alloc (.cells #[.int .u64 k] 35)) 35 #[.int .u64 r]).alloc (.cells #[.int .u64 (k / r : Nat)] 35)
  have b2 := Box.new ((w1.alloc (.cells #[.int .u64 k] 35)).alloc (.cells #[.int .u64 r] 35)) 35 #[.int .u64 (k / r : Nat)]
  simp only [World.size_alloc] at b2 b3
  have hsz := HB.out.size
  exact ⟨_, _, _, rfl, b1, b2, b3, ⟨by omega, by omega, by omega⟩, chain HB.out ((((Below.refl _ w1).alloc (Nat.le_refl _) _).alloc (by simp) _).alloc (by simp; omega) _)⟩
/-- Weights and sums are small. -/
theorem wgt_small (k d : Nat) (hk : 1 ≤ k) (hk2 : k ≤ 64) (t p : Nat) (ht : t ≤ 8) : plainN d k + moreN d p t k ≤ 300000000000 := by
  have h1 : plainN d k ≤ 4294967296 := by
    unfold plainN; split <;> exact Nat.div_le_self _ _
  have h2 : moreN d p t k ≤ 4294967296 * 64 := by
    unfold moreN
    have hb : Lib.bitLen t ≤ 8 := bitLen_le t (by omega)
    split
    · exact Nat.le_trans (Nat.div_le_self _ _) (Nat.mul_le_mul (Nat.le_refl _) (by omega))
    · split
      · refine Nat.le_trans (Nat.div_le_self _ _) ?_
        rw [Nat.mul_assoc]
        exact Nat.mul_le_mul (Nat.le_refl _) (Nat.mul_le_mul ht hb)
      · omega
  omega
theorem weights_stops (n : Nat) (hn : 1 ≤ n) (B1 B2 B3 k : Nat) (hk1 : 1 ≤ k) (hk : k ≤ 64) (w : World) (b1 : Box w B1 35 #[.int .u64 k]) (b2 : Box w B2 35 #[.int .u64 (k / root k : Nat)]) (b3 : Box w B3 35 #[.int .u64 (root k : Nat)]) :
    SeqStopsK Fence.wide n Tryd.prog 94 #[.pointer (some ⟨B1, 0, none⟩), .pointer (some ⟨B2, 0, none⟩), .pointer (some ⟨B3, 0, none⟩)] (fun x : Nat => #[Value.int .u64 (x : Int)]) (Kp3 B1 B2 B3) (fun ys => ys = wgts k k) (fun _ => True) k w := fun l J Jx W hW hJ _ hY h0 => by
  have hr := root_small ⟨k, by omega⟩ hk1
  simp only at hr
  refine (weights1_in Fence.wide rfl n hn l B1 B2 B3 k (k / root k) (root k) hk1 hk hr.1 (by omega) (Nat.le_trans (Nat.div_le_self _ _) hk) (fun d hd => by have := wgt_small k d hk1 hk (root k) (k / root k) hr.2; omega) J Jx W.heap.size hJ hY W ((b1.keep hW).cell 0) ((b2.keep hW).cell 0) ((b3.keep hW).cell 0) h0).mono ?_
  rintro e W' ⟨he, ⟨ys, rfl, hj⟩ | ⟨pre, _, hj⟩⟩
  · exact ⟨he, .inl ⟨_, rfl, hj⟩⟩
  · exact ⟨he, .inr ⟨_, trivial, hj⟩⟩
theorem u64_infoW : (Tryd.prog.info? 35).map (fun i => (i.zero, i.size, i.bytes)) = some (some (.int .u64 0), 1, 8) := by kernel_rfl
/-- A slice of words, and no error, is returned. -/
def WordsOut (zs : List Nat) (w : World) (e : Ending) (w' : World) : Prop := ∃ v, e = .returned (.tuple #[v, .int .i64 0]) ∧ w'.ownsRow w.heap.size 35 1 v zs.length (zs.map u64V) ∧ Below w.heap.size w w'
theorem keep3 {W w1 : World} {B B1 B2 B3 n1 : Nat} {v v' : Value} {e k : Nat} {xs : List Value} {tmp : Obj} (hrow : W.ownsRow n1 e 1 v k xs) (hgrow : (W.alloc tmp).grownBy w1 v.ownBlock) (hs : n1 ≤ W.heap.size)
    (h1 : B1 < n1) (h2 : B2 < n1) (h3 : B3 < n1) (q1 : B1 ≠ B) (q2 : B2 ≠ B) (q3 : B3 ≠ B) : Kp3 B1 B2 B3 W (w1.setCell ⟨B, 0, none⟩ v') := by
  intro b hb
  have hbn : b < n1 ∧ b ≠ B := by rcases hb with rfl | rfl | rfl <;> exact ⟨‹_›, ‹_›⟩
  have hne : some b ≠ v.ownBlock := fun e => by have := (hrow.lt b e.symm).1; omega
  rw [heap_setCell_other w1 ⟨B, 0, none⟩ b v' hbn.2, hgrow.block b (by simp; omega) hne, Below.heap_alloc W tmp b (by omega)]
theorem kp3_put {B1 B2 B3 : Nat} {w : World} (h1 : B1 < w.heap.size) (h2 : B2 < w.heap.size) (h3 : B3 < w.heap.size) (W : World) (l : Nat) (o o' : Obj) (hl : w.heap.size ≤ l) (_ : W.heap[l]? = some o) (_ : o.isCells = false) (_ : o.isWalk = false) : Kp3 B1 B2 B3 W (W.putObj l o') := by
  intro b hb
  exact World.putObj_heap_other (by rcases hb with rfl | rfl | rfl <;> omega)
theorem box_ne {W : World} {a b : Nat} {t u : TypeId} {x y : Array Value} (h : Box W a t x) (k : Box W b u y) (hne : t ≠ u) : a ≠ b := by
  intro e
  subst e
  unfold Box at h k
  rw [h] at k
  injection k with k
  injection k with _ ht
  exact hne ht
/-- The sum of weights, modulo 2^64. -/
def sumN (xs : List Nat) : Nat := xs.foldl (fun s x => (s + x) % 18446744073709551616) 0
theorem sumN_snoc (xs : List Nat) (x : Nat) : sumN (xs ++ [x]) = (sumN xs + x) % 18446744073709551616 := by simp [sumN]
/-- The sums of the first weights, one by one. -/
def tbl (xs : List Nat) : List Nat := (List.range xs.length).map fun i => sumN (xs.take (i + 1))
theorem tbl_snoc (xs : List Nat) (x : Nat) : tbl (xs ++ [x]) = tbl xs ++ [sumN (xs ++ [x])] := by
  unfold tbl
  rw [List.length_append, List.length_singleton, List.range_succ, List.map_append]
  congr 1
  · apply List.map_congr_left
    intro i hi
    have : i < xs.length := by simpa using hi
    rw [List.take_append_of_le_length (by omega)]
  · simp [List.take_of_length_le]
theorem wrap_nat (s x : Nat) : IntKind.u64.wrap ((s : Int) + (x : Int)) = (((s + x) % 18446744073709551616 : Nat) : Int) := by
  rw [IntKind.wrap_u64]; omega
theorem tbl_len (xs : List Nat) : (tbl xs).length = xs.length := by simp [tbl]
theorem tableN_no (n : Int) (h : kmb n = false) (w : World) : Calls Tryd.prog 70 #[.int .i64 n] w fun e w' => e = .returned (.tuple #[.slice none 0 0, .int .i64 2]) ∧ Below w.heap.size w w' := by
  have H := Lib.hid (kmb_any n w)
  rw [h] at H
  go_enter Tryd.func70, Tryd.ntmps70
  go_wp2_with fail
  refine H.out.mono ?_
  rintro e w1 ⟨rfl, rfl⟩
  go_wp2_with fail
  go_ret2
  exact ⟨rfl, Below.refl _ _⟩
set_option maxRecDepth 100000 in
set_option maxHeartbeats 4000000 in
theorem tableN_in (k : Nat) (hk1 : 1 ≤ k) (hk : k ≤ 64) (w : World) : CallsIn Fence.wide 5 Tryd.prog 70 #[.int .i64 k] w (WordsOut (tbl (wgts k k)) w) := by
  obtain ⟨i0, hi, hz0, hz1, hz2⟩ := info_parts u64_infoW
  have H := Lib.hid (kmb_any k w)
  rw [kmb_yes (n := (k : Int)) (by omega)] at H
  have HWt := Lib.hid (weights_any k hk1 hk ((w.alloc (.cells #[.slice none 0 0] 36)).alloc (.cells #[.int .u64 0] 35)))
  refine callsIn_of_wp_marks Tryd.func70 rfl trivial ?_ rfl
  simp only [Tryd.ntmps70, List.size_toArray, List.length_cons, List.length_nil, Nat.reduceAdd, Nat.reduceSub, Array.replicate_succ, Array.replicate_zero, List.push_toArray, List.append_toArray, List.nil_append, List.cons_append]
  gi_wp2_with (refine ⟨trivial, ?_⟩; first | (gi_at_call 82; refine (callsIn_wide.2 H.out).mono ?_; rintro e w' ⟨rfl, rfl⟩) | (gi_at_call 83; refine (callsIn_wide.2 HWt.out).mono ?_; rintro e w1 ⟨B1, B2, B3, rfl, b1, b2, b3, hge, hb⟩))
  have bO : Boxed w1 w.heap.size 36 (.slice none 0 0) := ((Box.new w 36 #[.slice none 0 0]).alloc (.cells #[.int .u64 0] 35)).keep hb
  have bS : Boxed w1 (w.heap.size + 1) 35 (.int .u64 0) := by
    have := (Box.new (w.alloc (.cells #[.slice none 0 0] 36)) 35 #[.int .u64 0]).keep hb
    rwa [World.size_alloc] at this
  have hB0 : Below w.heap.size w w1 := chain (((Below.refl w.heap.size w).alloc (Nat.le_refl _) (.cells #[.slice none 0 0] 36)).alloc (by simp) (.cells #[.int .u64 0] 35)) hb
  simp only [World.size_alloc] at hge
  obtain ⟨p1, p2, p3⟩ := hge
  have l1 := b1.lt
  have l2 := b2.lt
  have l3 := b3.lt
  have lO := bO.lt
  have lS := bS.lt
  clear hb
  refine wpIn_rangeFunc_ownG rfl (by omega) (gf := 94) (lb := #[.pointer (some ⟨B1, 0, none⟩), .pointer (some ⟨B2, 0, none⟩), .pointer (some ⟨B3, 0, none⟩)]) rfl trivial (enters_of Tryd.func94 (by kernel_rfl) rfl)
    (weights_stops (5 - 1) (by omega) B1 B2 B3 k hk1 hk w1 b1 b2 b3) Kp3.trans (kp3_put l1 l2 l3) (Below.refl _ _) (fun _ => rfl)
    (fun pre W => (∃ v, Boxed W w.heap.size 36 v ∧ W.ownsRow w1.heap.size 35 1 v (tbl pre).length ((tbl pre).map u64V) ∧ True) ∧ (Boxed W (w.heap.size + 1) 35 (.int .u64 (sumN pre : Nat))) ∧ Below w.heap.size w W ∧ w1.heap.size ≤ W.heap.size)
    (fun _ _ _ => False)
    (OwnFrom.and (Own.from (holdsRow_own w1.heap.size w.heap.size 36 35 1 (fun pre : List Nat => (tbl pre).length) (fun pre : List Nat => (tbl pre).map u64V) (fun _ _ => True)) _) (OwnFrom.and (Own.from (boxed_own (w.heap.size + 1) 35 (fun pre : List Nat => .int .u64 (sumN pre : Nat))) _) (OwnFrom.and (ownFrom_below (Nat.le_refl _) (by omega)) (fun _ _ _ _ hs hg _ => Nat.le_trans hs hg.size))))
    (fun _ _ _ _ _ hs _ _ => hs)
    ⟨⟨_, bO, World.ownsRow_nil _ _ _ _, trivial⟩, bS, hB0, Nat.le_refl _⟩
    (fun x => { tmps := #[.int .i64 k, undef, .slice none 0 0, .int .i64 0, .pointer (some ⟨w.heap.size, 0, none⟩), .pointer (some ⟨w.heap.size + 1, 0, none⟩), .int .u64 (x : Int), .int .i64 k, .bool true, .bool false, .int .i64 k, .func (.func 94) #[] #[.pointer (some ⟨B1, 0, none⟩), .pointer (some ⟨B2, 0, none⟩), .pointer (some ⟨B3, 0, none⟩)], .int .u64 (x : Int), undef, undef, undef, undef, undef, undef, undef, undef], defers := [] }) ?assign ?body ?done ?stop
  case assign =>
    intro l x W K hK
    gi_wp2
    exact hK
  case body =>
    rintro l pre x W ⟨⟨v, hv, hrow, _⟩, hS, hB, hsz⟩ hlt
    have hq : some (w.heap.size + 1) ≠ v.ownBlock := fun e => by have := (hrow.lt _ e.symm).1; omega
    have HN := Lib.hid (sumN_snoc pre x)
    have HT := Lib.hid (tbl_snoc pre x)
    have HTL := Lib.hid (tbl_len pre)
    have hwn := wrap_nat (sumN pre) x
    rw [← HN.out] at hwn
    generalize hs' : sumN (pre ++ [x]) = s' at *
    have HE := Lib.hid hs'
    clear hs'
    generalize sumN pre = s0 at *
    have hv' := hv.other (B' := w.heap.size + 1) (by omega) (.int .u64 (s' : Int))
    have hS' : Boxed (W.setCell ⟨w.heap.size + 1, 0, none⟩ (.int .u64 (s' : Int))) (w.heap.size + 1) 35 (.int .u64 (s' : Int)) := hS.set _
    have hrow' := hrow.kept (grownBy_setCell' W (w.heap.size + 1) (.int .u64 (s' : Int))) (.inr hq.symm)
    have hB' := hB.setCell (p := ⟨w.heap.size + 1, 0, none⟩) (by simp) (.int .u64 (s' : Int))
    have hko : KeepsOthers W (W.setCell ⟨w.heap.size + 1, 0, none⟩ (.int .u64 (s' : Int))) := KeepsOthers.setCell _ _ _
    have hk1 : Kp3 B1 B2 B3 W (W.setCell ⟨w.heap.size + 1, 0, none⟩ (.int .u64 (s' : Int))) := fun b hb => heap_setCell_other _ _ _ _ (by rcases hb with rfl | rfl | rfl <;> (show _ ≠ w.heap.size + 1; omega))
    have hsz' : w1.heap.size ≤ (W.setCell ⟨w.heap.size + 1, 0, none⟩ (.int .u64 (s' : Int))).heap.size := Nat.le_trans hsz hko.size
    have e1 := hS.cell
    have e2 := hS.frozen
    have e3 := hv'.cell
    have e4 := hS'.cell
    have HKO := Lib.hid hko
    have HK1 := Lib.hid hk1
    have HTL2 := Lib.hid (show (tbl pre).length = pre.length from HTL.out)
    clear hk1 hko
    rw [HTL.out] at hrow'
    generalize hW' : W.setCell ⟨w.heap.size + 1, 0, none⟩ (.int .u64 (s' : Int)) = W' at *
    have HW' := Lib.hid hW'
    gi_wp2_with (gi_at_builtin; refine wpListIn_append_own _ rfl _ _ 36 rfl w1.heap.size 35 i0 (.int .u64 0) 1 8 Tryd.underlying36 hi hz0 hz1 hz2 rfl (by decide) _ _ _ rfl (hrow'.alloc _) ⟨W'.heap.size, 0, none⟩ 1 1 [.int .u64 (s' : Int)] rfl rfl (cell_one_new _ _ _) (by simp [Value.oneCell']) (by simp [maxLen]; omega) (by omega) (by simp; omega) ?_; intro v' w2 hown' hgrow _; obtain ⟨g', cap', rfl⟩ := ownsRow_succ hown'; obtain ⟨hv1, hv2, hr2, hk2, hb2⟩ := hv'.appended (by decide) (own_low hrow' (by omega)) hB'.size (Nat.le_refl _) (own_low hown' (by omega)) hgrow; have hr3 := hown'.kept (grownBy_setCell' w2 w.heap.size (.slice (some ⟨g', 0, none⟩) (pre.length + 1) cap')) (.inr (hv1.not_row (by decide) hown').symm); have hkp := keep3 (B := w.heap.size) (v' := .slice (some ⟨g', 0, none⟩) (pre.length + 1) cap') hrow' hgrow hsz' l1 l2 l3 (by omega) (by omega) (by omega); have hc1 := hv1.cell; have hf1 := hv1.frozen)
    have hS3 := ((hS'.alloc _).kept hgrow hq).other (B' := w.heap.size) (by omega) (.slice (some ⟨g', 0, none⟩) (pre.length + 1) cap')
    refine ⟨(HKO.out.trans hk2).from _, HK1.out.trans hkp, ⟨_, hv2, ?_, trivial⟩, ?_, hB'.trans hb2, Nat.le_trans hsz' hk2.size⟩
    · rw [HT.out, List.length_append, HTL.out, List.map_append]
      exact hr3
    · rw [HE.out]; exact hS3
  case done =>
    rintro D ys W hD rfl ⟨⟨v, hv, hrow, _⟩, hS, hB, hsz⟩ hK
    have hc := hv.cell
    gi_wp2
    refine ⟨by simp, .inl ⟨_, _, rfl, run_takeDeferred hK, ?_⟩⟩
    exact ⟨_, results_tmp2 rfl _ _ _, v, rfl, own_low (ownsRow_putObj hrow _ hK rfl) (by omega), hB.trans (belowK_b (w := w) (Nat.le_refl _) W D _ _ (by omega) hK rfl rfl)⟩
  case stop =>
    rintro D c pre W _ _ h _
    exact h.elim
theorem tableN_any (k : Nat) (hk1 : 1 ≤ k) (hk : k ≤ 64) (w : World) : Calls Tryd.prog 70 #[.int .i64 k] w (WordsOut (tbl (wgts k k)) w) := callsIn_wide.1 (tableN_in k hk1 hk w)
end
section
/- Contracts of layer 7: tableMayBe, Pick, the law's alive. -/
set_option linter.unusedVariables false
set_option linter.unusedSimpArgs false
open Go.RowKit
def lastOf (ws : List Nat) (k : Nat) : Nat := if k = 0 then 0 else ws.getD (k - 1) 0
theorem lastOf_succ (ws : List Nat) (k : Nat) : lastOf ws (k + 1) = ws.getD k 0 := by simp [lastOf]
theorem rises_no (ws : List Nat) (k : Nat) (hk : k < ws.length) (h : ws.getD k 0 ≤ lastOf ws k) : risesFrom 0 ws = false := by
  refine rises_stop ws (k + 1) (by omega) ?_
  rw [rises_take ws 0 k hk]
  have : ¬ ((if k = 0 then 0 else ws.getD (k - 1) 0) < ws.getD k 0) := by unfold lastOf at h; omega
  simp only [this, decide_false, Bool.and_false]
theorem rises_go (ws : List Nat) (k : Nat) (hk : k < ws.length) (h : ¬ ws.getD k 0 ≤ lastOf ws k) (ht : risesFrom 0 (ws.take k) = true) : risesFrom 0 (ws.take (k + 1)) = true := by
  rw [rises_take ws 0 k hk, ht]
  have : ((if k = 0 then 0 else ws.getD (k - 1) 0) < ws.getD k 0) := by unfold lastOf at h; omega
  simp only [this, decide_true, Bool.and_self]
set_option maxHeartbeats 1000000 in
theorem table_any (A : Option Addr) (l c : Nat) (ws : List Nat) (w : World) (hw : Words w A l ws) (hl : l ≤ maxLen) :
    Calls Tryd.prog 84 #[.slice A l c] w fun e w' => e = .returned (.bool (tabB ws)) ∧ w = w' := by
  unfold maxLen at hl
  have hlen := hw.1
  by_cases h0 : l = 0
  · have e : tabB ws = false := by simp [tabB, hlen, h0]
    rw [e]; subst h0
    clear e hlen hw
    go_enter Tryd.func84, Tryd.ntmps84
    go_wp2
    go_ret
    exact ⟨rfl, rfl⟩
  · by_cases h64 : 64 < l
    · have e : tabB ws = false := by simp [tabB, hlen]; omega
      rw [e]
      clear e hlen hw
      have t1 : ((l : Int) == 0) = false := by simpa using h0
      have t2 : (64 : Int) < l := by omega
      go_enter Tryd.func84, Tryd.ntmps84
      go_wp2
      go_ret
      exact ⟨rfl, rfl⟩
    · have e : tabB ws = risesFrom 0 ws := by simp [tabB, hlen, show 1 ≤ l by omega, show l ≤ 64 by omega]
      rw [e]
      clear e
      have t1 : ((l : Int) == 0) = false := by simpa using h0
      have t2 : ¬ (64 : Int) < l := by omega
      have HL := Lib.hid hlen
      have HW := Lib.hid hw
      clear hlen hw
      go_enter Tryd.func84, Tryd.ntmps84
      go_wp2_with fail
      go_loop [3, 16] (fun v i => ∃ k : Nat, k ≤ l ∧ i = .int .i64 k ∧ v = .int .u64 (lastOf ws k : Nat) ∧ Hid (risesFrom 0 (ws.take k) = true)) (fun _ i => l - (intOf i).toNat)
      case atStart => exact ⟨0, by omega, rfl, rfl, Lib.hid (by simp [risesFrom])⟩
      case round =>
        obtain ⟨k, hk, rfl, rfl, HN⟩ := hrel
        by_cases hlt : k < l
        · have hkl' : (k : Int) < (l : Int) := by omega
          obtain ⟨b, off, rfl, hb, hc⟩ := HW.out.2.2 (by omega)
          have c1 := hc k hlt
          clear hc
          have HS := Lib.hid (lastOf_succ ws k)
          by_cases hx : ws.getD k 0 ≤ lastOf ws k
          · have HE := Lib.hid (rises_no ws k (by rw [HL.out]; exact hlt) hx)
            generalize ws.getD k 0 = x at *
            generalize lastOf ws k = y at *
            have t : (x : Int) ≤ (y : Int) := by omega
            go_wp2
            go_ret
            exact ⟨by rw [HE.out]; rfl, rfl⟩
          · have HE := Lib.hid (rises_go ws k (by rw [HL.out]; exact hlt) hx HN.out)
            generalize ws.getD k 0 = x at *
            generalize lastOf ws k = y at *
            have t : ¬ (x : Int) ≤ (y : Int) := by omega
            go_wp2
            go_round
            case rel => exact ⟨k + 1, by omega, by go_num, by rw [HS.out], HE⟩
            case measure => simp [intOf] <;> omega
        · obtain rfl : l = k := by omega
          have hkl' : ¬ (l : Int) < (l : Int) := by omega
          have HE := Lib.hid (show risesFrom 0 ws = true by have := HN.out; rwa [List.take_of_length_le (by rw [HL.out]; omega)] at this)
          go_wp2
          go_ret
          exact ⟨by rw [HE.out]; rfl, rfl⟩
/-- The degree that a number picks of a table. -/
def pickD (ws : List Nat) (n : Nat) : Nat := pickN ws (n % ws.getD (ws.length - 1) 0) + 1
theorem pick_no (A : Option Addr) (l c : Nat) (ws : List Nat) (n : Nat) (w : World) (hw : Words w A l ws) (hl : l ≤ maxLen) (ht : tabB ws = false) :
    Calls Tryd.prog 71 #[.slice A l c, .int .u64 n] w fun e w' => e = .returned (.tuple #[.int .i64 0, .int .i64 1]) ∧ Below w.heap.size w w' := by
  have H := Lib.hid (table_any A l c ws _ ((hw.alloc (.cells #[.slice A l c] 36)).alloc (.cells #[.int .u64 n] 35)) hl)
  rw [ht] at H
  clear hw ht
  go_enter Tryd.func71, Tryd.ntmps71
  go_wp2_with fail
  refine H.out.mono ?_
  rintro e w1 ⟨rfl, rfl⟩
  go_wp2_with fail
  go_ret2
  exact ⟨rfl, ((Below.refl _ _).alloc (Nat.le_refl _) _).alloc (by simp) _⟩
theorem tab_at {ws : List Nat} (h : tabB ws = true) : 1 ≤ ws.length ∧ ws.length ≤ 64 ∧ risesFrom 0 ws = true := by
  simp only [tabB, Bool.and_eq_true, decide_eq_true_eq] at h
  exact ⟨h.1.1, h.1.2, h.2⟩
theorem pickF_any (bt bn b off l c n i : Nat) (x : Nat) (W : World) (hi : i < l) (hl : l ≤ 64) (hlc : l ≤ c) (ht : W.cell? ⟨bt, 0, none⟩ = some (.slice (some ⟨b, off, none⟩) l c)) (hn : W.cell? ⟨bn, 0, none⟩ = some (.int .u64 n)) (hc : W.cell? ⟨b, off + i, none⟩ = some (.int .u64 x)) :
    Calls Tryd.prog 86 (#[.int .i64 i] ++ #[.pointer (some ⟨bt, 0, none⟩), .pointer (some ⟨bn, 0, none⟩)]) W fun e w' => e = .returned (.bool (decide (n < x))) ∧ ∃ q, w' = W.drewN q := by
  have e : decide (n < x) = decide ((n : Int) < (x : Int)) := decide_eq_decide.2 (by omega)
  have hiz : (i : Int) < (l : Int) := by omega
  rw [e]
  go_enter Tryd.func86, Tryd.ntmps86
  go_wp2
  go_region
  all_goals go_wp2
  all_goals go_ret
  all_goals exact ⟨by first | rfl | simp, 1, rfl⟩
theorem pickS_any (g1 g2 b off l c r : Nat) (ws : List Nat) (W : World) (t1 t2 : TypeId) (bt : Box W g1 t1 #[.slice (some ⟨b, off, none⟩) l c]) (bn : Box W g2 t2 #[.int .u64 (r : Int)]) (hb : b < W.heap.size)
    (hc : ∀ j, j < l → W.cell? ⟨b, off + j, none⟩ = some (.int .u64 (ws.getD j 0 : Nat))) (hl : ws.length = l) (h64 : l ≤ 64) (hlc : l ≤ c) (hm : ∀ a b, a ≤ b → b < ws.length → ws.getD a 0 ≤ ws.getD b 0) :
    Calls Tryd.prog 85 #[.int .i64 l, .func (.func 86) #[] #[.pointer (some ⟨g1, 0, none⟩), .pointer (some ⟨g2, 0, none⟩)]] W fun e w' => e = .returned (.int .i64 (pickN ws r : Nat)) ∧ Below W.heap.size W w' := by
  have eg : ∀ args w, (callFunc 86 args).run Tryd.prog w = .ok (.enter 86 args) w := enters_of Tryd.func86 (by kernel_rfl) rfl
  have hf : Asks Tryd.prog 86 #[.pointer (some ⟨g1, 0, none⟩), .pointer (some ⟨g2, 0, none⟩)] l (fun i => decide (r < ws.getD i 0)) W := fun W' i hi hb2 =>
    (pickF_any g1 g2 b off l c r i (ws.getD i 0) W' hi h64 hlc ((bt.keep hb2).cell 0) ((bn.keep hb2).cell 0) ((hb2.cell (p := ⟨b, off + i, none⟩) hb).trans (hc i hi))).mono fun _ _ ⟨he, q, hq⟩ => ⟨he, by rw [hq]; exact bdN hb2 q⟩
  have hS := search_any 86 _ l _ W eg (by omega) hf (fun a b hab hbl h => by
    have := hm a b hab (by omega)
    have h' : r < ws.getD a 0 := of_decide_eq_true h
    exact decide_eq_true (by omega))
  have e : (List.range l).countP (fun i => !decide (r < ws.getD i 0)) = pickN ws r := by rw [pickN, hl]
  rw [e] at hS
  exact hS
theorem pickN_le (ws : List Nat) (n : Nat) : pickN ws n ≤ ws.length := by
  have := List.countP_le_length (p := fun i => !decide (n < ws.getD i 0)) (l := List.range ws.length)
  simpa [pickN] using this
theorem last_pos {ws : List Nat} (h : tabB ws = true) : 0 < ws.getD (ws.length - 1) 0 := by
  obtain ⟨h1, _, h3⟩ := tab_at h
  exact (rises_at ws 0 (ws.length - 1) h3 (by omega)).1
set_option maxHeartbeats 1000000 in
theorem pick_yes (A : Option Addr) (l c : Nat) (ws : List Nat) (n : Nat) (w : World) (hw : Words w A l ws) (hl : l ≤ maxLen) (hlc : l ≤ c) (hn : n < 18446744073709551616) (ht : tabB ws = true) :
    Calls Tryd.prog 71 #[.slice A l c, .int .u64 n] w fun e w' => e = .returned (.tuple #[.int .i64 (pickD ws n : Nat), .int .i64 0]) ∧ Below w.heap.size w w' := by
  obtain ⟨h1, h64, hr⟩ := tab_at ht
  have hp := last_pos ht
  have H := Lib.hid (table_any A l c ws _ ((hw.alloc (.cells #[.slice A l c] 36)).alloc (.cells #[.int .u64 n] 35)) hl)
  rw [ht] at H
  have hlen := hw.1
  rw [hlen] at h1 h64 hp
  have hlt := hw.2.1 (l - 1)
  obtain ⟨b, off, rfl, hb, hc⟩ := hw.2.2 h1
  have c1 : ((w.alloc (.cells #[.slice (some ⟨b, off, none⟩) l c] 36)).alloc (.cells #[.int .u64 n] 35)).cell? ⟨b, off + (l - 1), none⟩ = some (.int .u64 (ws.getD (l - 1) 0 : Nat)) :=
    ((((Below.refl w.heap.size w).alloc (Nat.le_refl _) _).alloc (by simp) _).cell (p := ⟨b, off + (l - 1), none⟩) hb).trans (hc (l - 1) (by omega))
  have B1 : Below w.heap.size w ((w.alloc (.cells #[.slice (some ⟨b, off, none⟩) l c] 36)).alloc (.cells #[.int .u64 n] 35)) := ((Below.refl w.heap.size w).alloc (Nat.le_refl _) _).alloc (by simp) _
  have bt := (Box.new w 36 #[.slice (some ⟨b, off, none⟩) l c]).alloc (.cells #[.int .u64 n] 35)
  have bn := Box.new (w.alloc (.cells #[.slice (some ⟨b, off, none⟩) l c] 36)) 35 #[.int .u64 n]
  simp only [World.size_alloc] at bn
  have HM := Lib.hid (rises_mono ws hr)
  have HC := Lib.hid hc
  have HB := Lib.hid hb
  have HL := Lib.hid hlen
  clear hw hc hb hlen ht hr
  go_enter Tryd.func71, Tryd.ntmps71
  go_wp2_with fail
  refine H.out.mono ?_
  rintro e w1 ⟨rfl, rfl⟩
  clear H
  go_wp2_with fail
  generalize (w.alloc (.cells #[.slice (some ⟨b, off, none⟩) l c] 36)).alloc (.cells #[.int .u64 n] 35) = W1 at *
  have k1 := bt.cell 0
  have k2 := bn.cell 0
  have k3 := bn.free 0
  have g1 : (1 : Int) ≤ l := by omega
  have g2 : (l : Int) ≤ 64 := by omega
  have g3 : ((l : Int) - 1).toNat = l - 1 := by omega
  have HX := Lib.hid (show ws.getD (l - 1) 0 = ws.getD (ws.length - 1) 0 by rw [HL.out])
  have HT := Lib.hid bt
  have HN := Lib.hid bn
  have BB := Lib.hid B1
  clear bt bn B1
  generalize ws.getD (l - 1) 0 = x at *
  have g4 : (0 : Int) < x := by omega
  have g5 : (x : Int) ≠ 0 := by omega
  have P2 := HN.out.put 0 (.int .u64 ((n : Int) % (x : Int)))
  have P1 := HT.out.far (p := ⟨w.heap.size + 1, 0, none⟩) (by simp) (.int .u64 ((n : Int) % (x : Int)))
  have PB := BB.out.setCell (p := ⟨w.heap.size + 1, 0, none⟩) (by simp) (.int .u64 ((n : Int) % (x : Int)))
  have HS := Lib.hid (pickS_any w.heap.size (w.heap.size + 1) b off l c (n % x) ws _ _ _ P1.drew (by have := P2.drew; rw [← Int.natCast_emod] at this; exact this) (Nat.lt_of_lt_of_le HB.out PB.size)
    (fun j hj => (PB.cell (p := ⟨b, off + j, none⟩) HB.out).trans (HC.out j hj)) HL.out h64 hlc HM.out)
  have HPB := Lib.hid PB
  have HPD := Lib.hid (show pickD ws n = pickN ws (n % x) + 1 by rw [pickD, ← HX.out])
  have hle := pickN_le ws (n % x)
  rw [HL.out] at hle
  generalize pickN ws (n % x) = r at *
  clear P1 P2 PB
  go_region
  go_wp2_with fail
  refine HS.out.mono ?_
  rintro e w1 ⟨rfl, hbel⟩
  have B2 := Lib.hid (HPB.out.drew.trans (hbel.mono HPB.out.size))
  clear hbel HS HPB
  go_wp2_with fail
  go_ret2
  exact ⟨by rw [HPD.out]; rfl, B2.out⟩
theorem two_words (w : World) (t : TypeId) (a b : Nat) (ha : a < 18446744073709551616) (hb : b < 18446744073709551616) : Words (w.alloc (.cells #[.int .u64 a, .int .u64 b] t)) (some ⟨w.heap.size, 0, none⟩) 2 [a, b] := by
  have bx := Box.new w t #[.int .u64 a, .int .u64 b]
  refine ⟨rfl, fun j => ?_, fun _ => ⟨w.heap.size, 0, rfl, by simp, fun j hj => ?_⟩⟩
  · match j with
    | 0 => exact ha
    | 1 => exact hb
    | j + 2 => simp [List.getD]
  · rw [Nat.zero_add, bx.cell j]
    match j, hj with
    | 0, _ => rfl
    | 1, _ => rfl
end
section
/- Plain mathematics of DegreeSums. -/
set_option linter.unusedVariables false
set_option linter.unusedSimpArgs false
open Go.RowKit
/-- The root of small numbers. -/
def rootS (k : Nat) : Nat := if k < 1 then 0 else if k < 4 then 1 else if k < 9 then 2 else if k < 16 then 3 else if k < 25 then 4 else if k < 36 then 5 else if k < 49 then 6 else if k < 64 then 7 else 8
theorem root_rootS (k : Nat) (hk : k ≤ 64) : root k = rootS k := by
  unfold rootS
  repeat' split
  all_goals exact (root_of k _ (by omega) (by omega) (by omega)).1
def wgtS (k d : Nat) : Nat := plainN d k + moreN d (k / rootS k) (rootS k) k
theorem wgts_S (k : Nat) (hk : k ≤ 64) : wgts k k = (List.range k).map fun i => wgtS k (i + 1) := by
  unfold wgts wgt wgtS
  rw [root_rootS k hk]
theorem tab_all : ∀ k : Fin 65, 1 ≤ k.val → tabB (tbl ((List.range k.val).map fun i => wgtS k.val (i + 1))) = true := by decide +kernel
theorem tab_k (k : Nat) (h1 : 1 ≤ k) (h2 : k ≤ 64) : tabB (tbl (wgts k k)) = true := by
  rw [wgts_S k h2]; exact tab_all ⟨k, by omega⟩ h1
theorem pick_range {ts : List Nat} (h : tabB ts = true) (n : Nat) : 1 ≤ pickD ts n ∧ pickD ts n ≤ ts.length := by
  obtain ⟨h1, _, hr⟩ := tab_at h
  have hp := last_pos h
  have hm := Nat.mod_lt n hp
  unfold pickD
  refine ⟨by omega, ?_⟩
  have : pickN ts (n % ts.getD (ts.length - 1) 0) < ts.length := by
    unfold pickN
    have hc := List.countP_le_length (p := fun i => !decide (n % ts.getD (ts.length - 1) 0 < ts.getD i 0)) (l := List.range ts.length)
    rcases Nat.lt_or_ge ((List.range ts.length).countP (fun i => !decide (n % ts.getD (ts.length - 1) 0 < ts.getD i 0))) ts.length with h | h
    · exact h
    · exfalso
      have e : (List.range ts.length).countP (fun i => !decide (n % ts.getD (ts.length - 1) 0 < ts.getD i 0)) = (List.range ts.length).length := Nat.le_antisymm hc (by rw [List.length_range]; exact h)
      have := List.countP_eq_length.1 e (ts.length - 1) (by simp; omega)
      simp at this
      have hm' : n % ts.getD (ts.length - 1) 0 < ts.getD (ts.length - 1) 0 := hm
      simp [List.getD] at hm'
      omega
  omega
theorem pick_own {ts : List Nat} (h : tabB ts = true) (i : Nat) (hi : i < ts.length) : pickD ts (ts.getD i 0 - 1) = i + 1 := by
  obtain ⟨h1, _, hr⟩ := tab_at h
  have hle := rises_mono ts hr i (ts.length - 1) (by omega) (by omega)
  have h0 := (rises_at ts 0 i hr hi).1
  unfold pickD
  rw [Nat.mod_eq_of_lt (by omega), pickN_of ts _ i (fun j hj => ?_) (fun j h1 h2 => ?_) (by omega)]
  · have := rises_mono ts hr (j + 1) i (by omega) hi
    have := (rises_at ts 0 j hr (by omega)).2 (by omega)
    omega
  · have := rises_mono ts hr i j h1 h2
    omega
theorem pick_next {ts : List Nat} (h : tabB ts = true) (i : Nat) (hi : i < ts.length) : pickD ts (ts.getD i 0) = if i = ts.length - 1 then 1 else i + 2 := by
  obtain ⟨h1, _, hr⟩ := tab_at h
  have hle := rises_mono ts hr i (ts.length - 1) (by omega) (by omega)
  unfold pickD
  by_cases e : i = ts.length - 1
  · rw [if_pos e, ← e, Nat.mod_self, pickN_of ts 0 0 (fun j hj => by omega) (fun j _ h2 => (rises_at ts 0 j hr h2).1) (by omega)]
  · have hs := (rises_at ts 0 i hr hi).2 (by omega)
    have hle2 := rises_mono ts hr (i + 1) (ts.length - 1) (by omega) (by omega)
    rw [if_neg e, Nat.mod_eq_of_lt (by omega), pickN_of ts _ (i + 1) (fun j hj => rises_mono ts hr j i (by omega) hi) (fun j h1 h2 => ?_) (by omega)]
    have := rises_mono ts hr (i + 1) j h1 h2
    omega
theorem tbl_at (xs : List Nat) (i : Nat) (hi : i < xs.length) : (tbl xs).getD i 0 = sumN (xs.take (i + 1)) := by simp [tbl, List.getD, hi]
theorem sumN_take (xs : List Nat) (i : Nat) (hi : i < xs.length) : sumN (xs.take (i + 1)) = (sumN (xs.take i) + xs.getD i 0) % 18446744073709551616 := by
  rw [List.take_succ_eq_append_getElem hi, sumN_snoc]
  simp [List.getD, hi]
theorem sumN_lt (xs : List Nat) : sumN xs < 18446744073709551616 := by
  rcases List.eq_nil_or_concat xs with rfl | ⟨l, x, rfl⟩
  · simp [sumN]
  · rw [List.concat_eq_append, sumN_snoc]; exact Nat.mod_lt _ (by omega)
theorem wgt_ne {xs : List Nat} (h : tabB (tbl xs) = true) (i : Nat) (hi : i < xs.length) : xs.getD i 0 ≠ 0 := by
  obtain ⟨h1, _, hr⟩ := tab_at h
  have hl := tbl_len xs
  intro e
  have hs : sumN (xs.take (i + 1)) = sumN (xs.take i) := by
    rw [sumN_take xs i hi, e]
    have := sumN_lt (xs.take i)
    omega
  cases i with
  | zero =>
    have := (rises_at (tbl xs) 0 0 hr (by omega)).1
    have h2 := (tbl_at xs 0 hi).trans hs
    rw [h2] at this
    simp [sumN] at this
  | succ i =>
    have := (rises_at (tbl xs) 0 i hr (by omega)).2 (by omega)
    rw [tbl_at xs i (by omega), tbl_at xs (i + 1) hi, hs] at this
    omega
theorem own_slice {w : World} {base e n : Nat} {v : Value} {zs : List Nat} (h : w.ownsRow base e 1 v n (zs.map u64V)) (hz : ∀ j, zs.getD j 0 < 18446744073709551616) : ∃ A c, v = .slice A n c ∧ n ≤ c ∧ c ≤ maxLen ∧ Words w A n zs := by
  rcases h.2 with ⟨rfl, h0⟩ | ⟨g, cap, cur, rfl, hb, hh, hn, hm, hs, hx⟩
  · have hl : zs.length = n := by have := h.1; simpa using this
    subst h0
    obtain rfl : zs = [] := List.length_eq_zero_iff.1 hl
    exact ⟨none, 0, rfl, Nat.le_refl _, Nat.zero_le _, Words.nil _ _⟩
  · exact ⟨_, _, rfl, hn, hm, own_words h hz⟩
theorem tbl_lt (xs : List Nat) (j : Nat) : (tbl xs).getD j 0 < 18446744073709551616 := by
  by_cases h : j < xs.length
  · rw [tbl_at xs j h]; exact sumN_lt _
  · have : (tbl xs)[j]? = none := List.getElem?_eq_none (by rw [tbl_len]; omega)
    simp [List.getD, this]
theorem wgts_lt (k : Nat) (h1 : 1 ≤ k) (h2 : k ≤ 64) (j : Nat) : (wgts k k).getD j 0 < 18446744073709551616 := by
  by_cases h : j < k
  · have hr := (root_small ⟨k, by omega⟩ h1).2
    have := wgt_small k (j + 1) h1 h2 (root k) (k / root k) hr
    have e : (wgts k k).getD j 0 = wgt k (j + 1) := by simp [wgts, List.getD, h]
    rw [e, wgt]; omega
  · have : (wgts k k)[j]? = none := List.getElem?_eq_none (by rw [wgts_len]; omega)
    simp [List.getD, this]
end
section
/- Contracts of package bitrow's small functions: lengthMayBe, wordsFor, isPlace, Right. -/
set_option linter.unusedVariables false
set_option linter.unusedSimpArgs false
open Go.RowKit
theorem quiet_w {P : Program} {f : FuncId} {args : Array Value} {w : World} {n : Nat} {v : Value}
    (h : Calls P f args (w.drewN n) fun e w' => e = .returned v ∧ w.drewN n = w') : Calls P f args (w.drewN n) fun e w'' => e = .returned v ∧ ∃ m, w'' = w.drewN m :=
  h.mono fun _ _ ⟨he, hm⟩ => ⟨he, n, hm.symm⟩
def lmb (n : Int) : Bool := decide (0 ≤ n) && decide (n ≤ 512)
theorem lmb_iff (n : Int) : lmb n = true ↔ 0 ≤ n ∧ n ≤ 512 := by simp [lmb]
theorem lmb_no (n : Int) : lmb n = false ↔ ¬ (0 ≤ n ∧ n ≤ 512) := by rw [← lmb_iff]; simp
theorem lengthMayBe_any (n : Int) (w : World) : Calls Tryd.prog 73 #[.int .i64 n] w fun e w' => e = .returned (.bool (lmb n)) ∧ w = w' := by
  by_cases h : 0 ≤ n
  · by_cases h2 : n ≤ 512
    · have e : lmb n = true := (lmb_iff n).2 ⟨h, h2⟩
      rw [e]; clear e
      go_enter Tryd.func73, Tryd.ntmps73
      go_wp2
      go_ret
      exact ⟨rfl, rfl⟩
    · have e : lmb n = false := (lmb_no n).2 (by omega)
      rw [e]; clear e
      have t : decide (n ≤ 512) = false := by simpa using h2
      go_enter Tryd.func73, Tryd.ntmps73
      go_wp2
      go_ret
      exact ⟨by simp, rfl⟩
  · have e : lmb n = false := (lmb_no n).2 (by omega)
    rw [e]; clear e
    have t : decide (0 ≤ n) = false := by simpa using h
    go_enter Tryd.func73, Tryd.ntmps73
    go_wp2
    go_ret
    exact ⟨by simp, rfl⟩
def nw (n : Nat) : Nat := (n + 63) / 64
theorem wordsFor_any (n : Nat) (h : n ≤ 512) (w : World) : Calls Tryd.prog 74 #[.int .i64 n] w fun e w' => e = .returned (.int .i64 (nw n)) ∧ w = w' := by
  go_enter Tryd.func74, Tryd.ntmps74
  go_wp2
  go_ret
  exact ⟨congrArg (fun z => Ending.returned (.int .i64 z)) (by unfold nw; omega), rfl⟩
theorem isPlace_any (n : Int) (A : Option Addr) (l c : Nat) (i : Int) (w : World) : Calls Tryd.prog 67 #[.agg #[.int .i64 n, .slice A l c], .int .i64 i] w fun e w' => e = .returned (.bool (decide (0 ≤ i) && decide (i < n))) ∧ Below w.heap.size w w' := by
  by_cases h : 0 ≤ i
  · have t : decide (0 ≤ i) = true := by simpa using h
    rw [t, Bool.true_and]; clear t
    go_enter Tryd.func67, Tryd.ntmps67
    go_wp2
    all_goals go_ret
    all_goals exact ⟨rfl, (Below.refl _ _).alloc (Nat.le_refl _) _⟩
  · have t : decide (0 ≤ i) = false := by simpa using h
    rw [t, Bool.false_and]
    go_enter Tryd.func67, Tryd.ntmps67
    go_wp2
    all_goals go_ret
    all_goals exact ⟨rfl, (Below.refl _ _).alloc (Nat.le_refl _) _⟩
def rightB (n : Int) (ws : List Nat) : Bool := lmb n && (ws.length == nw n.toNat) && (n.toNat % 64 == 0 || (ws.getD (ws.length - 1) 0) / 2 ^ (n.toNat % 64) == 0)
theorem shr_zero (x k : Nat) : (((x : Int) / 2 ^ k) == 0) = (x / 2 ^ k == 0) := by
  rw [Bool.eq_iff_iff]
  have e : (x : Int) / 2 ^ k = ((x / 2 ^ k : Nat) : Int) := by simp [Int.natCast_ediv]
  rw [e]
  simp only [beq_iff_eq]
  omega
theorem right_out (n : Int) (A : Option Addr) (l c : Nat) (h : lmb n = false) (w : World) :
    Calls Tryd.prog 53 #[.agg #[.int .i64 n, .slice A l c]] w fun e w' => e = .returned (.bool false) ∧ Below w.heap.size w w' := by
  have H := Lib.hid (lengthMayBe_any n)
  go_enter Tryd.func53, Tryd.ntmps53
  go_wp2_with fail
  go_quiet ((go_at_call 73; exact quiet_w (H.out _)))
  go_wp2
  go_ret
  exact ⟨rfl, bdN ((Below.refl _ _).alloc (Nat.le_refl _) _) _⟩
theorem right_len (n : Nat) (A : Option Addr) (l c : Nat) (h : lmb n = true) (hl : l ≠ nw n) (w : World) :
    Calls Tryd.prog 53 #[.agg #[.int .i64 n, .slice A l c]] w fun e w' => e = .returned (.bool false) ∧ Below w.heap.size w w' := by
  have hn := (lmb_iff n).1 h
  have H := Lib.hid (lengthMayBe_any n)
  have H2 := Lib.hid (wordsFor_any n (by omega))
  have t : ((l : Int) != (nw n : Int)) = true := by rw [bne_iff_ne]; omega
  go_enter Tryd.func53, Tryd.ntmps53
  go_wp2_with fail
  go_quiet ((first | (go_at_call 73; exact quiet_w (H.out _)) | (go_at_call 74; exact quiet_w (H2.out _))))
  go_wp2
  go_ret
  exact ⟨rfl, bdN ((Below.refl _ _).alloc (Nat.le_refl _) _) _⟩
theorem right_full (n : Nat) (A : Option Addr) (l c : Nat) (h : lmb n = true) (hl : l = nw n) (hm : n % 64 = 0) (w : World) :
    Calls Tryd.prog 53 #[.agg #[.int .i64 n, .slice A l c]] w fun e w' => e = .returned (.bool true) ∧ Below w.heap.size w w' := by
  have hn := (lmb_iff n).1 h
  have H := Lib.hid (lengthMayBe_any n)
  have H2 := Lib.hid (wordsFor_any n (by omega))
  subst hl
  have t : ((nw n : Int) != (nw n : Int)) = false := by simp
  have t2 : ((n : Int) % 64 == 0) = true := by simp; omega
  clear hm
  go_enter Tryd.func53, Tryd.ntmps53
  go_wp2_with fail
  go_quiet ((first | (go_at_call 73; exact quiet_w (H.out _)) | (go_at_call 74; exact quiet_w (H2.out _))))
  go_wp2
  go_ret
  exact ⟨rfl, bdN ((Below.refl _ _).alloc (Nat.le_refl _) _) _⟩
theorem right_part (n : Nat) (A : Option Addr) (l c : Nat) (ws : List Nat) (h : lmb n = true) (hl : l = nw n) (hm : n % 64 ≠ 0) (w : World) (hw : Words w A l ws) :
    Calls Tryd.prog 53 #[.agg #[.int .i64 n, .slice A l c]] w fun e w' => e = .returned (.bool (ws.getD (l - 1) 0 / 2 ^ (n % 64) == 0)) ∧ Below w.heap.size w w' := by
  have hn := (lmb_iff n).1 h
  have H := Lib.hid (lengthMayBe_any n)
  have H2 := Lib.hid (wordsFor_any n (by omega))
  have hp : 0 < nw n := by unfold nw; omega
  subst hl
  obtain ⟨b, off, rfl, hlt, hc⟩ := hw.2.2 hp
  have hx := hw.2.1 (nw n - 1)
  have c1 := hc (nw n - 1) (by omega)
  generalize ws.getD (nw n - 1) 0 = x at *
  have hnw : nw n ≤ 8 := by unfold nw; omega
  have t : ((nw n : Int) != (nw n : Int)) = false := by simp
  have t2 : ((n : Int) % 64 == 0) = false := by simp; omega
  clear hc hw
  go_enter Tryd.func53, Tryd.ntmps53
  go_wp2_with fail
  go_quiet ((first | (go_at_call 73; exact quiet_w (H.out _)) | (go_at_call 74; exact quiet_w (H2.out _))))
  go_wp2
  go_ret
  refine ⟨congrArg (fun z => Ending.returned (.bool z)) ?_, bdN ((Below.refl _ _).alloc (Nat.le_refl _) _) _⟩
  exact shr_zero x (n % 64)
theorem right_any (n : Int) (A : Option Addr) (l c : Nat) (ws : List Nat) (w : World) (hw : Words w A l ws) :
    Calls Tryd.prog 53 #[.agg #[.int .i64 n, .slice A l c]] w fun e w' => e = .returned (.bool (rightB n ws)) ∧ Below w.heap.size w w' := by
  unfold rightB
  cases h : lmb n with
  | false => simpa using right_out n A l c h w
  | true =>
    have hn := (lmb_iff n).1 h
    obtain ⟨m, rfl⟩ := Int.eq_ofNat_of_zero_le hn.1
    rw [Int.toNat_natCast, hw.1]
    by_cases hl : l = nw m
    · have e1 : (l == nw m) = true := by simpa using hl
      rw [e1]
      by_cases hm : m % 64 = 0
      · have e2 : (m % 64 == 0) = true := by simpa using hm
        rw [e2]
        exact right_full m A l c h hl hm w
      · have e2 : (m % 64 == 0) = false := by simpa using hm
        rw [e2]
        exact right_part m A l c ws h hl hm w hw
    · have e1 : (l == nw m) = false := by simpa using hl
      rw [e1]
      exact right_len m A l c h hl w
end
section
/- Contracts of bitrow.joined, Xor, And. -/
set_option linter.unusedVariables false
set_option linter.unusedSimpArgs false
open Go.RowKit
def zrow : Value := .agg #[.int .i64 0, .slice none 0 0]
set_option maxHeartbeats 400000 in
/-- What a call that answers a row and an error leaves. -/
def RowOut (n : Int) (zs : List Nat) (er : Int) (w : World) (e : Ending) (w' : World) : Prop :=
  ∃ A l c, e = .returned (.tuple #[.agg #[.int .i64 n, .slice A l c], .int .i64 er]) ∧ Words w' A l zs ∧ Below w.heap.size w w'
theorem rightB_len8 {n : Int} {us : List Nat} (h : rightB n us = true) {l : Nat} (e : us.length = l) : l ≤ 8 := by
  simp only [rightB, Bool.and_eq_true, beq_iff_eq] at h
  have hn := (lmb_iff n).1 h.1.1
  have := h.1.2
  unfold nw at this
  omega
theorem rightB_len {n : Int} {us vs : List Nat} (h : rightB n us = true) (h2 : rightB n vs = true) {l k : Nat} (e : us.length = l) (e2 : vs.length = k) : k = l := by
  simp only [rightB, Bool.and_eq_true, beq_iff_eq] at h h2
  have := h.1.2
  have := h2.1.2
  omega
theorem uint64_info : (Tryd.prog.info? 35).map (fun i => (i.zero, i.size, i.bytes)) = some (some (.int .u64 0), 1, 8) := by kernel_rfl
theorem make_any (n : Nat) (hn : n ≤ 1000000) (w : World) :
    (Instr.makeSlice 36 (.int .i64 (n : Int)) (.int .i64 (n : Int))).run Tryd.prog w = .ok (.slice (some ⟨w.heap.size, 0, none⟩) n n) (w.alloc (.cells (numsA (List.replicate n 0)) 35)) := by
  obtain ⟨i0, hi, hz0, hz1, hz2⟩ := info_parts uint64_info
  exact make_words _ _ i0 Tryd.underlying36 hi hz0 hz1 hz2 n hn w
def part (g : Nat → Nat → Nat) (us vs : List Nat) (k : Nat) : List Nat := (List.zipWith g us vs).take k ++ List.replicate (us.length - k) 0
theorem part_zero (g : Nat → Nat → Nat) (us vs : List Nat) : part g us vs 0 = List.replicate us.length 0 := by simp [part]
theorem part_len (g : Nat → Nat → Nat) (us vs : List Nat) (j k : Nat) (hu : us.length = k) (hv : vs.length = k) : (part g us vs j).length = k := by
  simp [part]; omega
theorem part_get (g : Nat → Nat → Nat) (us vs : List Nat) (j i k : Nat) (hu : us.length = k) (hv : vs.length = k) (hi : i < k) (hj : j ≤ k) : (part g us vs j).getD i 0 = if i < j then g (us.getD i 0) (vs.getD i 0) else 0 := by
  unfold part
  have hl : ((List.zipWith g us vs).take j).length = j := by simp; omega
  by_cases h : i < j
  · rw [if_pos h]
    have h1 : i < us.length := by omega
    have h2 : i < vs.length := by omega
    simp only [List.getD, List.getElem?_append]
    rw [if_pos (by omega)]
    simp [h, h1, h2, List.getElem?_zipWith]
  · rw [if_neg h]
    simp only [List.getD, List.getElem?_append]
    rw [if_neg (by omega), List.getElem?_replicate]
    split <;> rfl
theorem part_fresh (g : Nat → Nat → Nat) (us vs : List Nat) (j k : Nat) (hu : us.length = k) (hv : vs.length = k) (hj : j < k) : (numsA (part g us vs j))[j]? = some (.int .u64 0) := by
  rw [numsA_get _ _ (by rw [part_len g us vs j k hu hv]; exact hj), part_get g us vs j j k hu hv hj (by omega)]
  simp
theorem part_set (g : Nat → Nat → Nat) (us vs : List Nat) (j k : Nat) (hu : us.length = k) (hv : vs.length = k) (hj : j < k) : (part g us vs j).set j (g (us.getD j 0) (vs.getD j 0)) = part g us vs (j + 1) := by
  apply List.ext_getElem
  · rw [List.length_set, part_len g us vs j k hu hv, part_len g us vs (j + 1) k hu hv]
  · intro i h1 h2
    have hi : i < k := by rw [part_len g us vs (j + 1) k hu hv] at h2; exact h2
    have e1 := part_get g us vs j i k hu hv hi (by omega)
    have e2 := part_get g us vs (j + 1) i k hu hv hi (by omega)
    have l1 : i < (part g us vs j).length := by rw [part_len g us vs j k hu hv]; exact hi
    simp only [List.getD, List.getElem?_eq_getElem l1, Option.getD_some] at e1
    simp only [List.getD, List.getElem?_eq_getElem h2, Option.getD_some] at e2
    rw [List.getElem_set, e2]
    by_cases e : j = i
    · subst e; simp [List.getD]
    · rw [if_neg e, e1]
      have : (i < j) ↔ (i < j + 1) := by omega
      simp only [this, List.getD]
theorem part_full (g : Nat → Nat → Nat) (us vs : List Nat) (k : Nat) (hu : us.length = k) (hv : vs.length = k) : part g us vs k = List.zipWith g us vs := by
  unfold part
  rw [List.take_of_length_le (by simp; omega), hu]
  simp
theorem part_lt (us vs : List Nat) (j i : Nat) (hu : ∀ j, us.getD j 0 < 18446744073709551616) (hv : ∀ j, vs.getD j 0 < 18446744073709551616) : (part (· ^^^ ·) us vs j).getD i 0 < 18446744073709551616 := by
  unfold part
  simp only [List.getD, List.getElem?_append]
  split
  · rw [List.getElem?_take]
    split
    · rw [List.getElem?_zipWith]
      have h1 := hu i
      have h2 := hv i
      simp only [List.getD] at h1 h2
      cases e1 : us[i]? <;> cases e2 : vs[i]? <;> simp [e1, e2] at h1 h2 ⊢
      exact Nat.xor_lt_two_pow (n := 64) h1 h2
    · simp
  · rw [List.getElem?_replicate]
    split <;> simp
end
end Go.Proofs.YtepgjimkhodcfaaDoor
