/- The iterator bitrow.ones: the places of the bits 1, rising. -/
import Derived.Test.YtfeaollpeaphlaaDoorTz
import Derived.RangeFuncBox
import Derived.RangeFuncNested
import Derived.RangeFuncBound
import Derived.RangeFuncCalls
import Derived.RangeFuncLeaves
import Derived.Shelf.Abstract
import Derived.Shelf.RegionOpen
import Derived.OwnWalkIn
import Derived.TacticsInMore
import Derived.LoopNIn
import Derived.LoopIn
import Derived.Maps.AppendAt
import Derived.IntWalk
namespace Go.Proofs.YtfeaollpeaphlaaDoor
set_option linter.unusedVariables false
set_option linter.unusedSimpArgs false
open Go.RowKit Go.Shelf
attribute [local go_sem] Oper.semAt_some
/-- What the iterator asks of a round: some blocks stay. -/
def KpS (S : Nat → Prop) (W W' : World) : Prop := ∀ b, S b → W'.heap[b]? = W.heap[b]?
theorem KpS.trans {S : Nat → Prop} {A B C : World} (h : KpS S A B) (k : KpS S B C) : KpS S A C := fun b hb => (k b hb).trans (h b hb)
theorem KpS.refl (S : Nat → Prop) (A : World) : KpS S A A := fun _ _ => rfl
/-- How a round of the iterator is left. -/
def RndS (S : Nat → Prop) (J Jx : List Nat → World → Prop) (ys : List Nat) (W : World) (b : Bool) (W' : World) : Prop := (b = true → J ys W' ∧ KpS S W W') ∧ (b = false → Jx ys W')
def RndSE (S : Nat → Prop) (J Jx : List Nat → World → Prop) (ys : List Nat) (W : World) (e : Ending) (W' : World) : Prop := ∃ b : Bool, e = .returned (.bool b) ∧ RndS S J Jx ys W b W'
theorem rndS_of {S : Nat → Prop} {J Jx : List Nat → World → Prop} {ys : List Nat} {W : World} (e : Ending) (W' : World) (h : (e = .returned (.bool true) ∧ J ys W' ∧ KpS S W W') ∨ (e = .returned (.bool false) ∧ Jx ys W')) : RndSE S J Jx ys W e W' := by
  rcases h with ⟨rfl, h1, h2⟩ | ⟨rfl, h1⟩
  · exact ⟨true, rfl, fun _ => ⟨h1, h2⟩, (fun h => by cases h)⟩
  · exact ⟨false, rfl, (fun h => by cases h), fun _ => h1⟩
theorem plcN_prefix (us : List Nat) (a b : Nat) (h : a ≤ b) : plcN us a <+: plcN us b := by
  obtain ⟨d, rfl⟩ := Nat.le.dest h
  unfold plcN
  rw [List.range_add, List.filter_append]
  exact List.prefix_append _ _
theorem plcN_len (us : List Nat) (m : Nat) : (plcN us m).length ≤ m := by
  have := List.length_filter_le (fun p => bitAt us p == 1) (List.range m)
  simpa [plcN] using this
theorem plcN_lt (us : List Nat) (m : Nat) {p : Nat} (h : p ∈ plcN us m) : p < m := by
  have := (List.mem_filter.1 h).1
  simpa using this
set_option maxRecDepth 100000 in
set_option maxHeartbeats 4000000 in
theorem ones1_in (n : Nat) (hn : 1 ≤ n) (l B : Nat) (N : Int) (A : Option Addr) (len c : Nat) (us : List Nat) (hl : len ≤ 100000) (S : Nat → Prop) (hS0 : S 0) (hSB : S B) (hSA : ∀ b off, 0 < len → A = some ⟨b, off, none⟩ → S b) (J Jx : List Nat → World → Prop)
    (hY : ∀ (pre : List Nat) (x : Nat) (W : World), J pre W → pre.length < 64 * len → pre ++ [x] <+: plcN us (64 * len) → YieldAt Fence.wide (n - 1) Tryd.prog l #[.int .i64 (x : Int)] W fun e W' =>
      (e = .returned (.bool true) ∧ J (pre ++ [x]) W' ∧ KpS S W W') ∨ (e = .returned (.bool false) ∧ Jx (pre ++ [x]) W'))
    (W : World) (hB : Box W B 24 #[.int .i64 N, .slice A len c]) (hW : Words W A len us) (hT : TabAt W 0) (h0 : J [] W) :
    CallsIn Fence.wide n Tryd.prog 45 #[.func (.yield l) #[] #[], .pointer (some ⟨B, 0, none⟩)] W fun e W' => (∃ v, e = .returned v) ∧
      ((∃ ys, ys = plcN us (64 * len) ∧ J ys W') ∨ (∃ pre, (pre <+: plcN us (64 * len) ∧ pre ≠ []) ∧ Jx pre W')) := by
  refine callsIn_of_wp Tryd.func45 rfl trivial ?_ rfl
  simp only [Tryd.ntmps45, List.size_toArray, List.length_cons, List.length_nil, Nat.reduceAdd, Nat.reduceSub, Array.replicate_succ, Array.replicate_zero, List.push_toArray, List.append_toArray, List.nil_append, List.cons_append]
  obtain ⟨-, b1, -, -⟩ := hB.two
  have HY := Lib.hid hY
  have HW := Lib.hid hW
  have HT := Lib.hid hT
  have HSA := Lib.hid hSA
  clear hY hW hT hSA hB
  gi_wp2
  gi_loopw [8, 3, 4] (fun i _ _ wr => ∃ j : Nat, j ≤ len ∧ i = .int .i64 j ∧ J (plcN us (64 * j)) wr ∧ Hid (KpS S W wr)) (fun i _ _ _ => len - (intOf i).toNat)
  case atStart => exact ⟨0, Nat.zero_le _, rfl, h0, Lib.hid (KpS.refl _ _)⟩
  case round =>
    obtain ⟨j, hj, rfl, hJs, HK⟩ := hrel
    by_cases hlt : j < len
    · obtain ⟨b, off, rfl, hlb, hc⟩ := HW.out.2.2 (by omega)
      have c1 := (World.cell?_of_block (a := ⟨b, off + j, none⟩) (HK.out b (HSA.out b off (by omega) rfl))).trans (hc j hlt)
      have hx := HW.out.2.1 j
      obtain ⟨wo, rfl⟩ : ∃ wo : World, wo = wr := ⟨_, rfl⟩
      obtain ⟨x, ex⟩ : ∃ x, x = us.getD j 0 := ⟨_, rfl⟩
      have HSt := Lib.hid (hi_step us j)
      have HDn := Lib.hid (hi_done us j)
      rw [← ex] at c1 hx HSt HDn
      have HX := Lib.hid hx
      have hz0 := hiW_zero x
      have HZ0 := Lib.hid hz0
      clear hc b1 hz0 ex
      gi_wp2
      clear c1
      gi_loopw [4] (fun v wi => ∃ t : Nat, t ≤ 64 ∧ v = .int .u64 (hiW x t : Nat) ∧ J (plcN us (64 * j + t)) wi ∧ Hid (KpS S W wi)) (fun v _ => (intOf v).toNat)
      case atStart => exact ⟨0, by omega, by rw [HZ0.out], hJs, HK⟩
      case round =>
        clear hJs HK
        obtain ⟨t, ht, rfl, hJi, HKi⟩ := hrel
        have hh := hiW_lt x t HX.out
        by_cases hz : hiW x t = 0
        · have HD := Lib.hid (HDn.out t ht hz)
          have HJ := Lib.hid hJi
          rw [hz]
          clear hz hh hJi
          gi_wp2
          go_roundw
          case rel => exact ⟨j + 1, by omega, by go_num, by rw [← HD.out]; exact HJ.out, HKi⟩
          case measure => simp [intOf]; omega
        · obtain ⟨s, m, hs1, hs2, he1, he2, hp⟩ := HSt.out t HX.out hz
          have hst := strike_low s m
          rw [← he1, ← he2] at hst
          have HTZ := Lib.hid (tz_any (hiW x t) s m hh he1)
          have HP := Lib.hid hp
          have hlen := plcN_len us (64 * j + t)
          have hpre : plcN us (64 * j + t) ++ [64 * j + s] <+: plcN us (64 * len) := by
            rw [← hp]; exact plcN_prefix us _ _ (by omega)
          have HPre := Lib.hid hpre
          have hy0 := HY.out (plcN us (64 * j + t)) (64 * j + s) wr hJi (by have := hpre.length_le; have := plcN_len us (64 * len); simp at *; omega) hpre
          rw [show (((64 * j + s : Nat)) : Int) = (j : Int) * 64 + (s : Int) by omega] at hy0
          obtain ⟨fn, tmps, assign, body, hy, hR⟩ := hy0
          have htab := HT.out.same (HKi.out 0 hS0)
          have HTab := Lib.hid htab
          have hnx := hiW_lt x (s + 1) HX.out
          have hand : bits BinOp.and IntKind.u64 ((hiW x t : Nat) : Int) (((hiW x t : Nat) : Int) - 1) = ((hiW x (s + 1) : Nat) : Int) := by
            have := u64_and_nat (hiW x t) (hiW x t - 1) hh (by omega)
            rw [hst, show (((hiW x t - 1 : Nat)) : Int) = ((hiW x t : Nat) : Int) - 1 by omega] at this
            exact this
          have hR' := Lib.hid (hR.mono rndS_of)
          have t0 : (((hiW x t : Nat) : Int) != 0) = true := by rw [bne_iff_ne]; omega
          have hp1 : 1 ≤ ((hiW x t : Nat) : Int) := by omega
          have HLT := Lib.hid (show hiW x (s + 1) < hiW x t by rw [he2, he1]; have := Nat.two_pow_pos s; exact Nat.mul_lt_mul_of_pos_left (by omega) this)
          clear hR hst he1 he2 hp hpre htab hJi hz
          generalize hiW x t = h at *
          generalize e2 : hiW x (s + 1) = h2 at *
          have E2 := Lib.hid e2
          clear e2
          gi_wp2
          refine ⟨trivial, (callsIn_wide.2 (HTZ.out _ HTab.out)).mono ?_⟩
          rintro e w' ⟨rfl, rfl⟩
          gi_wp2
          refine RoundIn.mono hR'.out ?_
          rintro e W3 ⟨bv, rfl, hP⟩
          cases bv
          · gi_wp2
            refine bodyPost_ret (results_none rfl _ _ _) rfl ?_
            exact ⟨⟨_, rfl⟩, .inr ⟨_, ⟨HPre.out, by simp⟩, hP.2 rfl⟩⟩
          · gi_wp2
            go_roundw
            case rel => exact ⟨s + 1, by omega, by rw [E2.out], by rw [HP.out]; exact (hP.1 rfl).1, Lib.hid (HKi.out.trans (hP.1 rfl).2)⟩
            case measure => have := HLT.out; simp [intOf]; omega
    · obtain rfl : j = len := by omega
      have hlt' : ¬ (j : Int) < j := by omega
      gi_wp2
      go_end0
      first
        | exact ⟨⟨_, rfl⟩, .inl hJs⟩
        | exact .inl hJs
        | exact ⟨⟨_, rfl⟩, .inl ⟨_, rfl, hJs⟩⟩
end Go.Proofs.YtfeaollpeaphlaaDoor
