/- Layer 22: the iterator history.eventsOf: a client's events from a place on. -/
import Derived.Test.YtmbmmfdobkbbfaaHi1
import Derived.Test.YtmbmmfdobkbbfaaQTail
import Derived.RangeFuncBox
import Derived.RangeFuncNested
import Derived.RangeFuncBound
import Derived.RangeFuncCalls
import Derived.RangeFuncLeaves
import Derived.Shelf.Abstract
import Derived.Shelf.RegionOpen
import Derived.OwnWalkIn
import Derived.TacticsInMore
import Derived.LoopNIn
import Derived.LoopIn
import Derived.Maps.AppendAt
import Derived.IntWalk
namespace Go.Proofs.Ytmbmmfdobkbbfaa
set_option linter.unusedVariables false
set_option linter.unusedSimpArgs false
open Go.RowKit Go.Shelf
attribute [local go_sem] Oper.semAt_some
set_option maxRecDepth 100000
abbrev evA (e : EvR) : Array Value := #[.int .i64 e.c, .int .i64 e.b, .int .i64 e.n, .int .i64 e.call.1, .int .u64 (e.call.2.1 : Nat), .int .i64 e.call.2.2.1, .int .i64 e.call.2.2.2.1, .int .i64 e.call.2.2.2.2.1, .int .u64 (e.call.2.2.2.2.2.1 : Nat), .string e.call.2.2.2.2.2.2, .int .i64 e.rep.why, .int .i64 e.rep.n, .slice e.rep.A e.rep.l e.rep.c]
theorem evA_list (e : EvR) : encE e = (evA e).toList := rfl
/-- The places below m, from a on, of a client's events. -/
def ixs (h : List EvR) (c : Int) (a m : Nat) : List Nat := (List.range m).filter fun j => decide (a ≤ j) && (h.getD j default).c == c
theorem ixs_yes (h : List EvR) (c : Int) (a m : Nat) (ha : a ≤ m) (hc : (h.getD m default).c = c) : ixs h c a (m + 1) = ixs h c a m ++ [m] := by
  unfold ixs; rw [List.range_succ, List.filter_append]; rw [List.filter_cons_of_pos (by simp only [Bool.and_eq_true, decide_eq_true_eq, beq_iff_eq]; exact ⟨ha, hc⟩)]; rfl
theorem ixs_no (h : List EvR) (c : Int) (a m : Nat) (hc : ¬ (h.getD m default).c = c) : ixs h c a (m + 1) = ixs h c a m := by
  unfold ixs; rw [List.range_succ, List.filter_append]; rw [List.filter_cons_of_neg (by simp only [Bool.and_eq_true, decide_eq_true_eq, beq_iff_eq]; exact fun h => hc h.2)]; exact List.append_nil _
theorem ixs_start (h : List EvR) (c : Int) (a : Nat) : ixs h c a a = [] := by
  unfold ixs; rw [List.filter_eq_nil_iff]; intro j hj; have := List.mem_range.1 hj; simp; intro h1; omega
theorem ixs_prefix (h : List EvR) (c : Int) (a : Nat) {m n : Nat} (hmn : m ≤ n) : ixs h c a m <+: ixs h c a n := by
  obtain ⟨d, rfl⟩ := Nat.le.dest hmn
  unfold ixs
  rw [List.range_add, List.filter_append]
  exact List.prefix_append _ _
theorem ixs_len (h : List EvR) (c : Int) (a m : Nat) : (ixs h c a m).length ≤ m := by
  have := List.length_filter_le (fun j => decide (a ≤ j) && (h.getD j default).c == c) (List.range m)
  simpa [ixs] using this
/-- What the iterator asks of a round: some blocks stay. -/
def KpS (S : Nat → Prop) (W W' : World) : Prop := ∀ b, S b → W'.heap[b]? = W.heap[b]?
theorem KpS.trans {S : Nat → Prop} {A B C : World} (h : KpS S A B) (k : KpS S B C) : KpS S A C := fun b hb => (k b hb).trans (h b hb)
theorem KpS.refl (S : Nat → Prop) (A : World) : KpS S A A := fun _ _ => rfl
def RndS (S : Nat → Prop) (J Jx : List Nat → World → Prop) (ys : List Nat) (W : World) (b : Bool) (W' : World) : Prop := (b = true → J ys W' ∧ KpS S W W') ∧ (b = false → Jx ys W')
def RndSE (S : Nat → Prop) (J Jx : List Nat → World → Prop) (ys : List Nat) (W : World) (e : Ending) (W' : World) : Prop := ∃ b : Bool, e = .returned (.bool b) ∧ RndS S J Jx ys W b W'
theorem rndS_of {S : Nat → Prop} {J Jx : List Nat → World → Prop} {ys : List Nat} {W : World} (e : Ending) (W' : World) (h : (e = .returned (.bool true) ∧ J ys W' ∧ KpS S W W') ∨ (e = .returned (.bool false) ∧ Jx ys W')) : RndSE S J Jx ys W e W' := by
  rcases h with ⟨rfl, h1, h2⟩ | ⟨rfl, h1⟩
  · exact ⟨true, rfl, fun _ => ⟨h1, h2⟩, (fun h => by cases h)⟩
  · exact ⟨false, rfl, (fun h => by cases h), fun _ => h1⟩
theorem kpS_put {S : Nat → Prop} {w : World} (hS : ∀ b, S b → b < w.heap.size) (W : World) (l : Nat) (o o' : Obj) (hl : w.heap.size ≤ l) (_ : W.heap[l]? = some o) (_ : o.isCells = false) (_ : o.isWalk = false) : KpS S W (W.putObj l o') := by
  intro b hb
  exact World.putObj_heap_other (by have := hS b hb; omega)
theorem abides_drewN {β : Type} {B : Nat} {J : β → World → Prop} (h : AbidesFrom B J) {s : β} {W : World} (hs : J s W) (d : Nat) : J s (W.drewN d) :=
  h s W (W.drewN d) none hs ⟨rfl, rfl, rfl, Nat.le_refl _, fun _ _ _ => rfl⟩ (fun r e => by cases e)
theorem Evs.at13 {w : World} {A : Option Addr} {l : Nat} {xs : List EvR} (h : Evs w A l xs) (j : Nat) (hj : j < l) : ∃ b off, A = some ⟨b, off, none⟩ ∧ b < w.heap.size ∧ ∀ k v, (evA (xs.getD j default)).toList[k]? = some v → w.cell? ⟨b, off + j * 13 + k, none⟩ = some v := by
  obtain ⟨b, off, e, hlt, hc⟩ := h.recs.at j hj
  exact ⟨b, off, e, hlt, fun k v hv => hc k v (by rw [evA_list]; exact hv)⟩
set_option maxHeartbeats 4000000 in
theorem events1_in (n : Nat) (hn : 1 ≤ n) (l B1 B2 B3 : Nat) (c : Int) (a : Nat) (A : Option Addr) (len cp : Nat) (h : List EvR) (ha : a ≤ len) (hlm : len ≤ 1000000) (S : Nat → Prop) (hS1 : S B1) (hS2 : S B2) (hS3 : S B3) (hSA : ∀ b off, 0 < len → A = some ⟨b, off, none⟩ → S b) (J Jx : List Nat → World → Prop) (m₀ : Nat) (hJ : AbidesFrom m₀ J)
    (hY : ∀ (pre : List Nat) (x : Nat) (W : World), J pre W → pre.length < len → YieldAt Fence.wide (n - 1) Try.prog l #[.int .i64 (x : Int), .agg (evA (h.getD x default))] W fun e W' =>
      (e = .returned (.bool true) ∧ J (pre ++ [x]) W' ∧ KpS S W W') ∨ (e = .returned (.bool false) ∧ Jx (pre ++ [x]) W'))
    (W : World) (h1 : W.cell? ⟨B1, 0, none⟩ = some (.int .i64 (a : Nat))) (h2 : W.cell? ⟨B2, 0, none⟩ = some (.slice A len cp)) (h3 : W.cell? ⟨B3, 0, none⟩ = some (.int .i64 c)) (hH : Evs W A len h) (h0 : J [] W) :
    CallsIn Fence.wide n Try.prog 27 #[.func (.yield l) #[] #[], .pointer (some ⟨B1, 0, none⟩), .pointer (some ⟨B2, 0, none⟩), .pointer (some ⟨B3, 0, none⟩)] W fun e W' => (∃ v, e = .returned v) ∧
      ((∃ ys, ys = ixs h c a len ∧ J ys W') ∨ (∃ pre, (pre <+: ixs h c a len ∧ pre ≠ []) ∧ Jx pre W')) := by
  refine callsIn_of_wp Try.func27 rfl trivial ?_ rfl
  simp only [Try.ntmps27, List.size_toArray, List.length_cons, List.length_nil, Nat.reduceAdd, Nat.reduceSub, Array.replicate_succ, Array.replicate_zero, List.push_toArray, List.append_toArray, List.nil_append, List.cons_append]
  have HH := Lib.hid hH
  have HY := Lib.hid hY
  have HSA := Lib.hid hSA
  clear hH hY hSA
  gi_wp2
  gi_loopw [5] (fun i wr => ∃ j : Nat, a ≤ j ∧ j ≤ len ∧ i = .int .i64 j ∧ J (ixs h c a j) wr ∧ Hid (KpS S W wr)) (fun i _ => len - (intOf i).toNat)
  case atStart => exact ⟨a, Nat.le_refl _, ha, rfl, by rw [ixs_start]; exact h0, Lib.hid (KpS.refl _ _)⟩
  case round =>
    obtain ⟨j, haj, hj, rfl, hJs, HK⟩ := hrel
    have c1 := (World.cell?_of_block (a := ⟨B1, 0, none⟩) (HK.out B1 hS1)).trans h1
    have c2 := (World.cell?_of_block (a := ⟨B2, 0, none⟩) (HK.out B2 hS2)).trans h2
    have c3 := (World.cell?_of_block (a := ⟨B3, 0, none⟩) (HK.out B3 hS3)).trans h3
    by_cases hlt : j < len
    · have hlt' : (j : Int) < (len : Int) := Int.ofNat_lt.2 hlt
      obtain ⟨b, off, rfl, hlb, hcs⟩ := HH.out.at13 j hlt
      have hkb := HK.out b (HSA.out b off (by omega) rfl)
      have HC := Lib.hid (fun k v (hv : (evA (h.getD j default)).toList[k]? = some v) => (World.cell?_of_block (a := ⟨b, off + j * 13 + k, none⟩) hkb).trans (hcs k v hv))
      have HYe := Lib.hid (fun W hW => HY.out (ixs h c a j) j W hW (Nat.lt_of_le_of_lt (ixs_len h c a j) hlt))
      have HIy := Lib.hid (ixs_yes h c a j haj)
      have HIn := Lib.hid (ixs_no h c a j)
      have HPr := Lib.hid (ixs_prefix h c a (show j + 1 ≤ len from hlt))
      have hmx : Try.prog.follows .mixedOrders = true := by kernel_rfl
      generalize h.getD j default = e at *
      obtain ⟨ec, eb, en, ⟨k0, k1, k2, k3, k4, k5, k6⟩, ⟨r0, r1, r2, r3, r4⟩⟩ := e
      dsimp only at HC HYe HIy HIn
      have d0 := HC.out 0 _ rfl
      have d1 := HC.out 1 _ rfl
      have d2 := HC.out 2 _ rfl
      have d3 := HC.out 3 _ rfl
      have d4 := HC.out 4 _ rfl
      have d5 := HC.out 5 _ rfl
      have d6 := HC.out 6 _ rfl
      have d7 := HC.out 7 _ rfl
      have d8 := HC.out 8 _ rfl
      have d9 := HC.out 9 _ rfl
      have d10 := HC.out 10 _ rfl
      have d11 := HC.out 11 _ rfl
      have d12 := HC.out 12 _ rfl
      simp only [Nat.add_zero] at d0
      clear HC hcs hkb
      by_cases hec : ec = c
      · subst hec
        have t1 : (ec == ec) = true := by simp
        gi_wp2
        refine wpIn_quiet_tail 14 rfl (by kernel_rfl) (by kernel_rfl) ?_
        simp only [List.take_succ_cons, List.take_zero, List.drop_succ_cons, List.drop_zero]
        repeat
          refine wpQuietIn_step (fun _ _ _ _ => trivial) (fun K hK => ?_)
          go_simp
          (refine hK _ ?_; clear hK K)
        refine wpQuietIn_nil ?_
        intro _ hw'
        obtain ⟨nq, rfl⟩ := hw'
        obtain ⟨fn, tmps, assign, body, hy, hR⟩ := HYe.out _ (abides_drewN hJ hJs nq)
        dsimp only [evA] at hy
        have hR' := Lib.hid (hR.mono rndS_of)
        have HI := Lib.hid (HIy.out (by trivial))
        clear hR
        gi_wp2
        refine RoundIn.mono hR'.out ?_
        rintro e' W3 ⟨bv, rfl, hP⟩
        cases bv
        · gi_wp2
          refine bodyPost_ret (results_none rfl _ _ _) rfl ?_
          exact ⟨⟨_, rfl⟩, .inr ⟨_, ⟨by rw [← HI.out]; exact HPr.out, by simp⟩, hP.2 rfl⟩⟩
        · gi_wp2
          go_roundw
          case rel => exact ⟨j + 1, by omega, by omega, by go_num, by rw [HI.out]; exact (hP.1 rfl).1, Lib.hid (KpS.trans (B := wr.drewN nq) (fun b hb => HK.out b hb) (hP.1 rfl).2)⟩
          case measure => simp [intOf]; omega
      · have t1 : (ec == c) = false := by simp [hec]
        have HI := Lib.hid (HIn.out hec)
        gi_wp2
        refine wpIn_quiet_tail 14 rfl (by kernel_rfl) (by kernel_rfl) ?_
        simp only [List.take_succ_cons, List.take_zero, List.drop_succ_cons, List.drop_zero]
        repeat
          refine wpQuietIn_step (fun _ _ _ _ => trivial) (fun K hK => ?_)
          go_simp
          (refine hK _ ?_; clear hK K)
        refine wpQuietIn_nil ?_
        intro _ hw'
        obtain ⟨nq, rfl⟩ := hw'
        gi_wp2
        all_goals
          refine ⟨(fun f hf => by cases hf), ?_⟩
          gi_wp2
          go_roundw
          case rel => exact ⟨j + 1, by omega, by omega, by go_num, by rw [HI.out]; exact abides_drewN hJ hJs nq, Lib.hid (fun b hb => HK.out b hb)⟩
          case measure => simp [intOf]; omega
    · obtain rfl : j = len := by omega
      have hlt' : ¬ (j : Int) < (j : Int) := Int.lt_irrefl _
      gi_wp2
      go_end0
      first
        | exact ⟨⟨_, rfl⟩, .inl hJs⟩
        | exact .inl hJs
        | exact ⟨⟨_, rfl⟩, .inl ⟨_, rfl, hJs⟩⟩
/-- What eventsOf hands back: an iterator over three boxes. -/
def EventsOut (c : Int) (a : Nat) (A : Option Addr) (len cp : Nat) (w : World) (e : Ending) (w' : World) : Prop :=
  ∃ B, e = .returned (.func (.func 27) #[] #[.pointer (some ⟨B + 2, 0, none⟩), .pointer (some ⟨B, 0, none⟩), .pointer (some ⟨B + 1, 0, none⟩)]) ∧ Box w' (B + 2) 3 #[.int .i64 (a : Nat)] ∧ Box w' B 22 #[.slice A len cp] ∧ Box w' (B + 1) 3 #[.int .i64 c] ∧ w.heap.size ≤ B ∧ Below w.heap.size w w'
theorem eventsOf_any (c : Int) (a : Nat) (A : Option Addr) (len cp : Nat) (w : World) : Calls Try.prog 25 #[.slice A len cp, .int .i64 c, .int .i64 (a : Nat)] w (EventsOut c a A len cp w) := by
  have q0 := ((Box.new w 22 #[.slice A len cp]).alloc (.cells #[.int .i64 c] 3)).alloc (.cells #[.int .i64 (a : Nat)] 3)
  have q1 := (Box.new (w.alloc (.cells #[.slice A len cp] 22)) 3 #[.int .i64 c]).alloc (.cells #[.int .i64 (a : Nat)] 3)
  have q2 := Box.new ((w.alloc (.cells #[.slice A len cp] 22)).alloc (.cells #[.int .i64 c] 3)) 3 #[.int .i64 (a : Nat)]
  have hb : Below w.heap.size w (((w.alloc (.cells #[.slice A len cp] 22)).alloc (.cells #[.int .i64 c] 3)).alloc (.cells #[.int .i64 (a : Nat)] 3)) := (((Below.refl _ _).alloc (Nat.le_refl _) _).alloc (by simp) _).alloc (by simp; omega) _
  simp only [World.size_alloc] at q1 q2
  have HQ := Lib.hid (And.intro q0 (And.intro q1 (And.intro q2 hb)))
  clear q0 q1 q2 hb
  go_enter Try.func25, Try.ntmps25
  go_wp2
  go_ret
  exact ⟨w.heap.size, rfl, HQ.out.2.2.1, HQ.out.1, HQ.out.2.1, Nat.le_refl _, HQ.out.2.2.2⟩
theorem events_stops (n : Nat) (hn : 1 ≤ n) (B : Nat) (c : Int) (a : Nat) (A : Option Addr) (len cp : Nat) (h : List EvR) (ha : a ≤ len) (hlm : len ≤ 1000000) (S : Nat → Prop) (hS1 : S (B + 2)) (hS2 : S B) (hS3 : S (B + 1)) (hSA : ∀ b off, 0 < len → A = some ⟨b, off, none⟩ → S b) (w : World)
    (h1 : Box w (B + 2) 3 #[.int .i64 (a : Nat)]) (h2 : Box w B 22 #[.slice A len cp]) (h3 : Box w (B + 1) 3 #[.int .i64 c]) (hH : Evs w A len h) :
    SeqStopsK Fence.wide n Try.prog 27 #[.pointer (some ⟨B + 2, 0, none⟩), .pointer (some ⟨B, 0, none⟩), .pointer (some ⟨B + 1, 0, none⟩)] (fun x : Nat => #[Value.int .i64 (x : Int), .agg (evA (h.getD x default))]) (KpS S) (fun ys => ys = ixs h c a len) (fun pre => pre <+: ixs h c a len ∧ pre ≠ []) len w := fun l J Jx W hw hJ _ hY h0 =>
  events1_in n hn l (B + 2) B (B + 1) c a A len cp h ha hlm S hS1 hS2 hS3 hSA J Jx W.heap.size hJ (fun pre x W hj hlt => hY pre x W hj hlt) W ((h1.keep hw).cell 0) ((h2.keep hw).cell 0) ((h3.keep hw).cell 0) (hH.below hw) h0
end Go.Proofs.Ytmbmmfdobkbbfaa
