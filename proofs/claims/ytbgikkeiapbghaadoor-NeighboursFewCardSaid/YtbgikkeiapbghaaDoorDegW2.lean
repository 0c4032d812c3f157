/- Contracts of layer 7: the iterator of the weights. -/
import Derived.Test.YtbgikkeiapbghaaDoorDegW1
import Derived.Test.YtbgikkeiapbghaaDoorQTail
import Derived.RangeFuncBox
import Derived.RangeFuncNested
import Derived.RangeFuncBound
import Derived.RangeFuncCalls
import Derived.RangeFuncLeaves
import Derived.Shelf.Abstract
import Derived.Shelf.RegionOpen
import Derived.OwnWalkIn
import Derived.TacticsInMore
import Derived.LoopNIn
import Derived.LoopIn
import Derived.Maps.AppendAt
import Derived.IntWalk
namespace Go.Proofs.YtbgikkeiapbghaaDoor
open Go.RowKit Go.Shelf
attribute [local go_sem] Oper.semAt_some
/-- The weight of degree d of k blocks. -/
def wgt (k d : Nat) : Nat := plainN d k + moreN d (k / root k) (root k) k
def wgts (k j : Nat) : List Nat := (List.range j).map fun i => wgt k (i + 1)
theorem wgts_succ (k j : Nat) : wgts k (j + 1) = wgts k j ++ [wgt k (j + 1)] := by simp [wgts, List.range_succ]
theorem wgts_len (k j : Nat) : (wgts k j).length = j := by simp [wgts]
theorem abides_drew {β : Type} {B : Nat} {J : β → World → Prop} (h : AbidesFrom B J) {s : β} {W : World} (hs : J s W) : J s W.drew :=
  h s W W.drew none hs ⟨rfl, rfl, rfl, Nat.le_refl _, fun _ _ _ => rfl⟩ (fun r e => by cases e)
theorem abides_drewN {β : Type} {B : Nat} {J : β → World → Prop} (h : AbidesFrom B J) {s : β} {W : World} (hs : J s W) (d : Nat) : J s (W.drewN d) :=
  h s W (W.drewN d) none hs ⟨rfl, rfl, rfl, Nat.le_refl _, fun _ _ _ => rfl⟩ (fun r e => by cases e)
theorem quietIn_w {F : Fence} {n : Nat} {P : Program} {f : FuncId} {args : Array Value} {w : World} {k : Nat} {v : Value}
    (h : CallsIn F n P f args (w.drewN k) fun e w' => e = .returned v ∧ w.drewN k = w') : CallsIn F n P f args (w.drewN k) fun e w'' => e = .returned v ∧ ∃ m, w'' = w.drewN m :=
  h.mono fun _ _ ⟨he, hm⟩ => ⟨he, k, hm.symm⟩
/-- What the iterator asks of a round: its three boxes stay. -/
def Kp3 (B1 B2 B3 : Nat) (W W' : World) : Prop := ∀ b, b = B1 ∨ b = B2 ∨ b = B3 → W'.heap[b]? = W.heap[b]?
theorem Kp3.trans {B1 B2 B3 : Nat} {A B C : World} (h : Kp3 B1 B2 B3 A B) (k : Kp3 B1 B2 B3 B C) : Kp3 B1 B2 B3 A C := fun b hb => (k b hb).trans (h b hb)
theorem Kp3.refl (B1 B2 B3 : Nat) (A : World) : Kp3 B1 B2 B3 A A := fun _ _ => rfl
/-- How a round ends: it goes on, or it says 'no more'. -/
def Rnd (B1 B2 B3 : Nat) (J Jx : List Nat → World → Prop) (ys : List Nat) (W : World) (b : Bool) (W' : World) : Prop := (b = true → J ys W' ∧ Kp3 B1 B2 B3 W W') ∧ (b = false → Jx ys W')
def RndE (B1 B2 B3 : Nat) (J Jx : List Nat → World → Prop) (ys : List Nat) (W : World) (e : Ending) (W' : World) : Prop := ∃ b : Bool, e = .returned (.bool b) ∧ Rnd B1 B2 B3 J Jx ys W b W'
theorem rnd_of {B1 B2 B3 : Nat} {J Jx : List Nat → World → Prop} {ys : List Nat} {W : World} (e : Ending) (W' : World) (h : (e = .returned (.bool true) ∧ J ys W' ∧ Kp3 B1 B2 B3 W W') ∨ (e = .returned (.bool false) ∧ Jx ys W')) : RndE B1 B2 B3 J Jx ys W e W' := by
  rcases h with ⟨rfl, h1, h2⟩ | ⟨rfl, h1⟩
  · exact ⟨true, rfl, fun _ => ⟨h1, h2⟩, (fun h => by cases h)⟩
  · exact ⟨false, rfl, (fun h => by cases h), fun _ => h1⟩
set_option maxRecDepth 100000 in
set_option maxHeartbeats 4000000 in
theorem weights1_in (F : Fence) (hF : F = Fence.wide) (n : Nat) (hn : 1 ≤ n) (l B1 B2 B3 k p t : Nat) (hk1 : 1 ≤ k) (hk : k ≤ 64) (ht1 : 1 ≤ t) (ht : t ≤ 64) (hp : p ≤ 64)
    (hbd : ∀ d, d ≤ k → plainN d k + moreN d p t k < 18446744073709551616) (J Jx : List Nat → World → Prop) (m₀ : Nat) (hJ : AbidesFrom m₀ J)
    (hY : ∀ (pre : List Nat) (x : Nat) (W : World), J pre W → pre.length < k → YieldAt F (n - 1) Tryd.prog l #[.int .u64 (x : Int)] W fun e W' =>
      (e = .returned (.bool true) ∧ J (pre ++ [x]) W' ∧ Kp3 B1 B2 B3 W W') ∨ (e = .returned (.bool false) ∧ Jx (pre ++ [x]) W'))
    (W : World) (h1 : W.cell? ⟨B1, 0, none⟩ = some (.int .u64 k)) (h2 : W.cell? ⟨B2, 0, none⟩ = some (.int .u64 p)) (h3 : W.cell? ⟨B3, 0, none⟩ = some (.int .u64 t)) (h0 : J [] W) :
    CallsIn F n Tryd.prog 39 #[.func (.yield l) #[] #[], .pointer (some ⟨B1, 0, none⟩), .pointer (some ⟨B2, 0, none⟩), .pointer (some ⟨B3, 0, none⟩)] W fun e W' => (∃ v, e = .returned v) ∧
      ((∃ ys, ys = (List.range k).map (fun i : Nat => plainN (i + 1) k + moreN (i + 1) p t k) ∧ J ys W') ∨ (∃ pre, (∃ j, j ≤ k ∧ pre = (List.range j).map (fun i : Nat => plainN (i + 1) k + moreN (i + 1) p t k)) ∧ Jx pre W')) := by
  subst hF
  refine callsIn_of_wp Tryd.func39 rfl trivial ?_ rfl
  simp only [Tryd.ntmps39, List.size_toArray, List.length_cons, List.length_nil, Nat.reduceAdd, Nat.reduceSub, Array.replicate_succ, Array.replicate_zero, List.push_toArray, List.append_toArray, List.nil_append, List.cons_append]
  gi_wp2
  gi_loopw [5] (fun i wr => ∃ e : Nat, 1 ≤ e ∧ e ≤ k + 1 ∧ i = .int .u64 (e : Nat) ∧ J ((List.range (e - 1)).map (fun i : Nat => plainN (i + 1) k + moreN (i + 1) p t k)) wr ∧ Kp3 B1 B2 B3 W wr)
    (fun i _ => k + 1 - (intOf i).toNat)
  case atStart => exact ⟨1, Nat.le_refl _, by omega, rfl, h0, Kp3.refl _ _ _ _⟩
  case round =>
    obtain ⟨e, he1, he, rfl, hJs, hnx⟩ := hrel
    have HNX := Lib.hid hnx
    have c1 := (World.cell?_of_block (a := ⟨B1, 0, none⟩) (hnx B1 (.inl rfl))).trans h1
    have c2 := (World.cell?_of_block (a := ⟨B2, 0, none⟩) (hnx B2 (.inr (.inl rfl)))).trans h2
    have c3 := (World.cell?_of_block (a := ⟨B3, 0, none⟩) (hnx B3 (.inr (.inr rfl)))).trans h3
    by_cases hlt : e ≤ k
    · have hsn : (List.range (e + 1 - 1)).map (fun i : Nat => plainN (i + 1) k + moreN (i + 1) p t k) = (List.range (e - 1)).map (fun i : Nat => plainN (i + 1) k + moreN (i + 1) p t k) ++ [plainN e k + moreN e p t k] := by
        obtain ⟨d, rfl⟩ : ∃ d, e = d + 1 := ⟨e - 1, by omega⟩
        simp [List.range_succ]
      have hlen : ((List.range (e - 1)).map (fun i : Nat => plainN (i + 1) k + moreN (i + 1) p t k)).length < k := by simp; omega
      have HYe := Lib.hid (fun W hW => hY _ (plainN e k + moreN e p t k) W hW hlen)
      have g : (e : Int) ≤ k := by omega
      have hb := hbd e hlt
      clear hnx hlen hY
      have HA := Lib.hid (plain_any e k (by omega) (by omega) hk1 hk)
      have HM := Lib.hid (more_any e p t k (by omega) (by omega) hk1 hk ht1 ht hp)
      have HSN := Lib.hid hsn
      have hmx : Tryd.prog.follows .mixedOrders = true := by kernel_rfl
      clear hsn
      generalize plainN e k = a at *
      generalize moreN e p t k = b at *
      have hwr : IntKind.u64.wrap ((a : Int) + (b : Int)) = (a : Int) + (b : Int) := IntWalk.u64_in _ (by omega)
      gi_wp2
      refine wpIn_quiet_tail 10 rfl (by kernel_rfl) (by kernel_rfl) ?_
      simp only [List.take_succ_cons, List.take_zero, List.drop_succ_cons, List.drop_zero]
      repeat
        refine wpQuietIn_step (fun _ _ _ _ => trivial) (fun K hK => ?_)
        go_simp
        first
          | (refine hK _ ?_; clear hK K)
          | (apply Exists.intro
             refine ⟨fun _ => ?_, hK _ ?_⟩
             (first | (gi_at_call 40; exact quietIn_w (callsIn_wide.2 (HA.out _))) | (gi_at_call 41; exact quietIn_w (callsIn_wide.2 (HM.out _))))
             clear hK K)
      refine wpQuietIn_nil ?_
      intro _ hw'
      obtain ⟨nq, rfl⟩ := hw'
      obtain ⟨fn, tmps, assign, body, hy, hR⟩ := HYe.out _ (abides_drewN hJ hJs nq)
      simp only [Int.natCast_add] at hy
      have hR' := Lib.hid (hR.mono rnd_of)
      clear hR
      gi_wp2
      refine RoundIn.mono hR'.out ?_
      rintro e' W3 ⟨bv, rfl, hP⟩
      cases bv
      · gi_wp2
        refine bodyPost_ret (results_none rfl _ _ _) rfl ?_
        exact ⟨⟨_, rfl⟩, .inr ⟨_, ⟨e, hlt, HSN.out.symm⟩, hP.2 rfl⟩⟩
      · gi_wp2
        go_roundw
        case rel => exact ⟨e + 1, by omega, by omega, by go_num, by rw [HSN.out]; exact (hP.1 rfl).1, Kp3.trans (B := wr.drewN nq) (fun b hb => HNX.out b hb) (hP.1 rfl).2⟩
        case measure => simp [intOf]; omega
    · obtain rfl : e = k + 1 := by omega
      have g : ¬ (((k + 1 : Nat) : Int) ≤ k) := by omega
      gi_wp2
      go_end0
      first
        | exact ⟨⟨_, rfl⟩, .inl hJs⟩
        | exact .inl hJs
        | exact ⟨⟨_, rfl⟩, .inl ⟨_, rfl, hJs⟩⟩
end Go.Proofs.YtbgikkeiapbghaaDoor
