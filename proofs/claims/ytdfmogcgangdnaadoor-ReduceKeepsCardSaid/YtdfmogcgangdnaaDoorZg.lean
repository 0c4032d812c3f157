/- Parts: Plc, Tz, Ones, OnesP, BackM, MmM, PopM, Oc, OnesQ. -/
import Derived.Test.YtdfmogcgangdnaaDoorZf
import Derived.IntWalk
import Derived.Laws.BitsAllLaws
import Derived.LoopIn
import Derived.LoopNIn
import Derived.Maps.AppendAt
import Derived.OwnWalkIn
import Derived.RangeFuncBound
import Derived.RangeFuncBox
import Derived.RangeFuncCalls
import Derived.RangeFuncLeaves
import Derived.RangeFuncNested
import Derived.Shelf.Abstract
import Derived.Shelf.RegionOpen
import Derived.TacticsInMore
namespace Go.Proofs.YtdfmogcgangdnaaDoor
section
/- The places of the bits 1 of words, and how they are found word by word, lowest bit first. No program. -/
set_option linter.unusedVariables false
set_option linter.unusedSimpArgs false
/-- Where bits are 1, of the first m. -/
def plcN (us : List Nat) (m : Nat) : List Nat := (List.range m).filter fun p => bitAt us p == 1
theorem plcN_succ (us : List Nat) (m : Nat) : plcN us (m + 1) = plcN us m ++ if bitAt us m = 1 then [m] else [] := by
  unfold plcN
  rw [List.range_succ, List.filter_append]
  by_cases h : bitAt us m = 1 <;> simp [h]
/-- A word without its low bits. -/
def hiW (x t : Nat) : Nat := 2 ^ t * (x / 2 ^ t)
theorem hiW_bit (x t j : Nat) : (hiW x t).testBit j = (decide (t ≤ j) && x.testBit j) := by
  unfold hiW
  rw [Nat.testBit_two_pow_mul, Nat.testBit_div_two_pow]
  by_cases h : t ≤ j
  · simp [h, Nat.sub_add_cancel h]
  · simp [h]
theorem bitAt_bit (us : List Nat) (i j : Nat) (h : j < 64) : (bitAt us (64 * i + j) = 1) = ((us.getD i 0).testBit j = true) := by
  unfold bitAt
  rw [show (64 * i + j) / 64 = i by omega, show (64 * i + j) % 64 = j by omega, Nat.testBit_eq_decide_div_mod_eq]
  simp
theorem plcN_skip (us : List Nat) (i t s : Nat) (hs : t + s ≤ 64) (h : ∀ j, t ≤ j → j < t + s → (us.getD i 0).testBit j = false) : plcN us (64 * i + (t + s)) = plcN us (64 * i + t) := by
  induction s with
  | zero => rfl
  | succ s ih =>
    rw [show 64 * i + (t + (s + 1)) = (64 * i + (t + s)) + 1 by omega, plcN_succ, ih (by omega) (fun j h1 h2 => h j h1 (by omega))]
    have : ¬ bitAt us (64 * i + (t + s)) = 1 := by
      rw [bitAt_bit us i (t + s) (by omega), h (t + s) (by omega) (by omega)]; simp
    rw [if_neg this, List.append_nil]
theorem hi_done (us : List Nat) (i t : Nat) (ht : t ≤ 64) (h : hiW (us.getD i 0) t = 0) : plcN us (64 * i + t) = plcN us (64 * (i + 1)) := by
  have := plcN_skip us i t (64 - t) (by omega) (fun j h1 h2 => by
    have := hiW_bit (us.getD i 0) t j
    rw [h] at this
    simpa [h1] using this.symm)
  rw [show t + (64 - t) = 64 by omega] at this
  rw [← this, show 64 * (i + 1) = 64 * i + 64 by omega]
theorem hi_step (us : List Nat) (i t : Nat) (hx : us.getD i 0 < 18446744073709551616) (h : hiW (us.getD i 0) t ≠ 0) :
    ∃ s m, t ≤ s ∧ s < 64 ∧ hiW (us.getD i 0) t = 2 ^ s * (2 * m + 1) ∧ hiW (us.getD i 0) (s + 1) = 2 ^ s * (2 * m) ∧ plcN us (64 * i + (s + 1)) = plcN us (64 * i + t) ++ [64 * i + s] := by
  obtain ⟨s, m, e⟩ := odd_form (hiW (us.getD i 0) t) (by omega)
  have hb : ∀ j, (decide (t ≤ j) && (us.getD i 0).testBit j) = if j < s then false else if j = s then true else m.testBit (j - s - 1) := fun j => by
    rw [← hiW_bit, e, odd_bit]
  have h0 := hb s
  simp only [Nat.lt_irrefl, if_false, if_true, Bool.and_eq_true, decide_eq_true_eq] at h0
  have hs : s < 64 := by
    refine Nat.lt_of_not_le fun h6 => ?_
    have := Nat.testBit_lt_two_pow (i := s) (Nat.lt_of_lt_of_le hx (show 2 ^ 64 ≤ 2 ^ s from Nat.pow_le_pow_right (by omega) h6))
    rw [this] at h0; exact absurd h0.2 (by decide)
  refine ⟨s, m, h0.1, hs, e, ?_, ?_⟩
  · apply Nat.eq_of_testBit_eq
    intro j
    rw [hiW_bit, Nat.testBit_two_pow_mul]
    have := hb j
    by_cases h1 : s + 1 ≤ j
    · have h2 : t ≤ j := by omega
      have h3 : ¬ j < s := by omega
      have h4 : ¬ j = s := by omega
      simp only [h2, h3, h4, decide_true, Bool.true_and, if_false] at this
      have h5 : s ≤ j := by omega
      obtain ⟨d, rfl⟩ : ∃ d, j = s + (d + 1) := ⟨j - s - 1, by omega⟩
      simp only [h1, h5, decide_true, Bool.true_and, this]
      rw [show s + (d + 1) - s = d + 1 by omega, show d + 1 - 1 = d by omega, Nat.testBit_succ, show 2 * m / 2 = m by omega]
    · have h6 : (decide (s + 1 ≤ j)) = false := by simpa using h1
      rw [h6, Bool.false_and]
      by_cases h7 : s ≤ j
      · obtain rfl : j = s := by omega
        simp [Nat.testBit_zero]
      · simp [h7]
  · rw [show 64 * i + (s + 1) = (64 * i + s) + 1 by omega, plcN_succ]
    have e1 : plcN us (64 * i + s) = plcN us (64 * i + t) := by
      have := plcN_skip us i t (s - t) (by omega) (fun j h1 h2 => by
        have := hb j
        have h3 : j < s := by omega
        simpa [h1, h3] using this)
      rwa [show t + (s - t) = s by omega] at this
    have e2 : bitAt us (64 * i + s) = 1 := by rw [bitAt_bit us i s hs]; exact h0.2
    rw [e1, if_pos e2]
theorem hiW_zero (x : Nat) : hiW x 0 = x := by simp [hiW]
theorem hiW_lt (x t : Nat) (hx : x < 18446744073709551616) : hiW x t < 18446744073709551616 := Nat.lt_of_le_of_lt (Nat.mul_div_le x (2 ^ t)) hx
end
section
/- math/bits.TrailingZeros64, where its table lies as the library has it. -/
set_option linter.unusedVariables false
set_option linter.unusedSimpArgs false
open Go.RowKit
/-- The library's table lies in block 0. -/
def TabAt (w : World) (g : Nat) : Prop := g < w.heap.size ∧ ∀ i, i < 64 → w.cell? ⟨g, i, none⟩ = some (.int .u8 (dbTab.getD i 99 : Nat))
theorem TabAt.below {w w' : World} {g : Nat} (h : TabAt w g) (hb : Below w.heap.size w w') : TabAt w' g := ⟨Nat.lt_of_lt_of_le h.1 hb.size, fun i hi => (hb.cell (p := ⟨g, i, none⟩) h.1).trans (h.2 i hi)⟩
theorem TabAt.same {w w' : World} {g : Nat} (h : TabAt w g) (hb : w'.heap[g]? = w.heap[g]?) : TabAt w' g := by
  refine ⟨?_, fun i hi => (World.cell?_of_block (a := ⟨g, i, none⟩) hb).trans (h.2 i hi)⟩
  rcases Nat.lt_or_ge g w'.heap.size with hl | hg
  · exact hl
  · have h1 := h.1
    rw [Array.getElem?_eq_none hg, Array.getElem?_eq_getElem h1] at hb; cases hb
theorem neg_in (x : Nat) (h1 : 0 < x) (hx : x < 18446744073709551616) : IntKind.u64.wrap (-(x : Int)) = ((18446744073709551616 - x : Nat) : Int) := by rw [IntKind.wrap_u64]; omega
theorem prod_in (y : Nat) : IntKind.u64.wrap ((y : Int) * 285870213051353865) / 288230376151711744 = ((y * 285870213051353865 % 18446744073709551616 / 288230376151711744 : Nat) : Int) := by rw [IntKind.wrap_u64]; omega
theorem quo_lt (y : Nat) : y * 285870213051353865 % 18446744073709551616 / 288230376151711744 < 64 := by omega
theorem exp_lt (s m : Nat) (hx : 2 ^ s * (2 * m + 1) < 18446744073709551616) : s < 64 := by
  refine Nat.lt_of_not_le fun h => ?_
  have h1 : 2 ^ 64 ≤ 2 ^ s := Nat.pow_le_pow_right (by omega) h
  have h2 : 2 ^ s * 1 ≤ 2 ^ s * (2 * m + 1) := Nat.mul_le_mul_left _ (by omega)
  omega
theorem tz_val (x s m : Nat) (hx : x < 18446744073709551616) (e : x = 2 ^ s * (2 * m + 1)) :
    ∃ q : Nat, q < 64 ∧ IntKind.u64.wrap (bits BinOp.and IntKind.u64 (x : Int) (IntKind.u64.wrap (-(x : Int))) * 285870213051353865) / 288230376151711744 = (q : Int) ∧ dbTab.getD q 99 = s := by
  have hp : 0 < x := by rw [e]; exact Nat.mul_pos (Nat.two_pow_pos s) (by omega)
  have hl := only_low s m (by rw [← e]; exact hx)
  rw [← e] at hl
  refine ⟨2 ^ s * 285870213051353865 % 18446744073709551616 / 288230376151711744, quo_lt _, ?_, db_at ⟨s, exp_lt s m (by rw [← e]; exact hx)⟩⟩
  rw [neg_in x hp hx, u64_and_nat x (18446744073709551616 - x) hx (by omega), hl, prod_in]
set_option maxHeartbeats 1000000 in
theorem tz_any (x s m : Nat) (hx : x < 18446744073709551616) (e : x = 2 ^ s * (2 * m + 1)) (w : World) (ht : TabAt w 0) :
    Calls Tryd.prog 51 #[.int .u64 x] w fun e w' => e = .returned (.int .i64 (s : Nat)) ∧ w = w' := by
  have hp : 0 < x := by rw [e]; exact Nat.mul_pos (Nat.two_pow_pos s) (by omega)
  obtain ⟨q, hq1, hq2, hq3⟩ := tz_val x s m hx e
  have hs := exp_lt s m (by rw [← e]; exact hx)
  have t : ((x : Int) == 0) = false := by simp; omega
  have hc := ht.2 q hq1
  rw [hq3] at hc
  clear hq3 e ht
  go_enter Tryd.func51, Tryd.ntmps51
  go_wp2
  go_ret
  exact ⟨rfl, rfl⟩
end
section
/- The iterator bitrow.ones: the places of the bits 1, rising. -/
set_option linter.unusedVariables false
set_option linter.unusedSimpArgs false
open Go.RowKit Go.Shelf
attribute [local go_sem] Oper.semAt_some
/-- What the iterator asks of a round: some blocks stay. -/
def KpS (S : Nat → Prop) (W W' : World) : Prop := ∀ b, S b → W'.heap[b]? = W.heap[b]?
theorem KpS.trans {S : Nat → Prop} {A B C : World} (h : KpS S A B) (k : KpS S B C) : KpS S A C := fun b hb => (k b hb).trans (h b hb)
theorem KpS.refl (S : Nat → Prop) (A : World) : KpS S A A := fun _ _ => rfl
/-- How a round of the iterator is left. -/
def RndS (S : Nat → Prop) (J Jx : List Nat → World → Prop) (ys : List Nat) (W : World) (b : Bool) (W' : World) : Prop := (b = true → J ys W' ∧ KpS S W W') ∧ (b = false → Jx ys W')
def RndSE (S : Nat → Prop) (J Jx : List Nat → World → Prop) (ys : List Nat) (W : World) (e : Ending) (W' : World) : Prop := ∃ b : Bool, e = .returned (.bool b) ∧ RndS S J Jx ys W b W'
theorem rndS_of {S : Nat → Prop} {J Jx : List Nat → World → Prop} {ys : List Nat} {W : World} (e : Ending) (W' : World) (h : (e = .returned (.bool true) ∧ J ys W' ∧ KpS S W W') ∨ (e = .returned (.bool false) ∧ Jx ys W')) : RndSE S J Jx ys W e W' := by
  rcases h with ⟨rfl, h1, h2⟩ | ⟨rfl, h1⟩
  · exact ⟨true, rfl, fun _ => ⟨h1, h2⟩, (fun h => by cases h)⟩
  · exact ⟨false, rfl, (fun h => by cases h), fun _ => h1⟩
theorem plcN_prefix (us : List Nat) (a b : Nat) (h : a ≤ b) : plcN us a <+: plcN us b := by
  obtain ⟨d, rfl⟩ := Nat.le.dest h
  unfold plcN
  rw [List.range_add, List.filter_append]
  exact List.prefix_append _ _
theorem plcN_len (us : List Nat) (m : Nat) : (plcN us m).length ≤ m := by
  have := List.length_filter_le (fun p => bitAt us p == 1) (List.range m)
  simpa [plcN] using this
theorem plcN_lt (us : List Nat) (m : Nat) {p : Nat} (h : p ∈ plcN us m) : p < m := by
  have := (List.mem_filter.1 h).1
  simpa using this
set_option maxRecDepth 100000 in
set_option maxHeartbeats 4000000 in
theorem ones1_in (n : Nat) (hn : 1 ≤ n) (l B : Nat) (N : Int) (A : Option Addr) (len c : Nat) (us : List Nat) (hl : len ≤ 100000) (S : Nat → Prop) (hS0 : S 0) (hSB : S B) (hSA : ∀ b off, 0 < len → A = some ⟨b, off, none⟩ → S b) (J Jx : List Nat → World → Prop)
    (hY : ∀ (pre : List Nat) (x : Nat) (W : World), J pre W → pre.length < 64 * len → pre ++ [x] <+: plcN us (64 * len) → YieldAt Fence.wide (n - 1) Tryd.prog l #[.int .i64 (x : Int)] W fun e W' =>
      (e = .returned (.bool true) ∧ J (pre ++ [x]) W' ∧ KpS S W W') ∨ (e = .returned (.bool false) ∧ Jx (pre ++ [x]) W'))
    (W : World) (hB : Box W B 27 #[.int .i64 N, .slice A len c]) (hW : Words W A len us) (hT : TabAt W 0) (h0 : J [] W) :
    CallsIn Fence.wide n Tryd.prog 50 #[.func (.yield l) #[] #[], .pointer (some ⟨B, 0, none⟩)] W fun e W' => (∃ v, e = .returned v) ∧
      ((∃ ys, ys = plcN us (64 * len) ∧ J ys W') ∨ (∃ pre, (pre <+: plcN us (64 * len) ∧ pre ≠ []) ∧ Jx pre W')) := by
  refine callsIn_of_wp Tryd.func50 rfl trivial ?_ rfl
  simp only [Tryd.ntmps50, List.size_toArray, List.length_cons, List.length_nil, Nat.reduceAdd, Nat.reduceSub, Array.replicate_succ, Array.replicate_zero, List.push_toArray, List.append_toArray, List.nil_append, List.cons_append]
  obtain ⟨-, b1, -, -⟩ := hB.two
  have HY := Lib.hid hY
  have HW := Lib.hid hW
  have HT := Lib.hid hT
  have HSA := Lib.hid hSA
  clear hY hW hT hSA hB
  gi_wp2
  gi_loopw [8, 3, 4] (fun i _ _ wr => ∃ j : Nat, j ≤ len ∧ i = .int .i64 j ∧ J (plcN us (64 * j)) wr ∧ Hid (KpS S W wr)) (fun i _ _ _ => len - (intOf i).toNat)
  case atStart => exact ⟨0, Nat.zero_le _, rfl, h0, Lib.hid (KpS.refl _ _)⟩
  case round =>
    obtain ⟨j, hj, rfl, hJs, HK⟩ := hrel
    by_cases hlt : j < len
    · obtain ⟨b, off, rfl, hlb, hc⟩ := HW.out.2.2 (by omega)
      have c1 := (World.cell?_of_block (a := ⟨b, off + j, none⟩) (HK.out b (HSA.out b off (by omega) rfl))).trans (hc j hlt)
      have hx := HW.out.2.1 j
      obtain ⟨wo, rfl⟩ : ∃ wo : World, wo = wr := ⟨_, rfl⟩
      obtain ⟨x, ex⟩ : ∃ x, x = us.getD j 0 := ⟨_, rfl⟩
      have HSt := Lib.hid (hi_step us j)
      have HDn := Lib.hid (hi_done us j)
      rw [← ex] at c1 hx HSt HDn
      have HX := Lib.hid hx
      have hz0 := hiW_zero x
      have HZ0 := Lib.hid hz0
      clear hc b1 hz0 ex
      gi_wp2
      clear c1
      gi_loopw [4] (fun v wi => ∃ t : Nat, t ≤ 64 ∧ v = .int .u64 (hiW x t : Nat) ∧ J (plcN us (64 * j + t)) wi ∧ Hid (KpS S W wi)) (fun v _ => (intOf v).toNat)
      case atStart => exact ⟨0, by omega, by rw [HZ0.out], hJs, HK⟩
      case round =>
        clear hJs HK
        obtain ⟨t, ht, rfl, hJi, HKi⟩ := hrel
        have hh := hiW_lt x t HX.out
        by_cases hz : hiW x t = 0
        · have HD := Lib.hid (HDn.out t ht hz)
          have HJ := Lib.hid hJi
          rw [hz]
          clear hz hh hJi
          gi_wp2
          go_roundw
          case rel => exact ⟨j + 1, by omega, by go_num, by rw [← HD.out]; exact HJ.out, HKi⟩
          case measure => simp [intOf]; omega
        · obtain ⟨s, m, hs1, hs2, he1, he2, hp⟩ := HSt.out t HX.out hz
          have hst := strike_low s m
          rw [← he1, ← he2] at hst
          have HTZ := Lib.hid (tz_any (hiW x t) s m hh he1)
          have HP := Lib.hid hp
          have hlen := plcN_len us (64 * j + t)
          have hpre : plcN us (64 * j + t) ++ [64 * j + s] <+: plcN us (64 * len) := by
            rw [← hp]; exact plcN_prefix us _ _ (by omega)
          have HPre := Lib.hid hpre
          have hy0 := HY.out (plcN us (64 * j + t)) (64 * j + s) wr hJi (by have := hpre.length_le; have := plcN_len us (64 * len); simp at *; omega) hpre
          rw [show (((64 * j + s : Nat)) : Int) = (j : Int) * 64 + (s : Int) by omega] at hy0
          obtain ⟨fn, tmps, assign, body, hy, hR⟩ := hy0
          have htab := HT.out.same (HKi.out 0 hS0)
          have HTab := Lib.hid htab
          have hnx := hiW_lt x (s + 1) HX.out
          have hand : bits BinOp.and IntKind.u64 ((hiW x t : Nat) : Int) (((hiW x t : Nat) : Int) - 1) = ((hiW x (s + 1) : Nat) : Int) := by
            have := u64_and_nat (hiW x t) (hiW x t - 1) hh (by omega)
            rw [hst, show (((hiW x t - 1 : Nat)) : Int) = ((hiW x t : Nat) : Int) - 1 by omega] at this
            exact this
          have hR' := Lib.hid (hR.mono rndS_of)
          have t0 : (((hiW x t : Nat) : Int) != 0) = true := by rw [bne_iff_ne]; omega
          have hp1 : 1 ≤ ((hiW x t : Nat) : Int) := by omega
          have HLT := Lib.hid (show hiW x (s + 1) < hiW x t by rw [he2, he1]; have := Nat.two_pow_pos s; exact Nat.mul_lt_mul_of_pos_left (by omega) this)
          clear hR hst he1 he2 hp hpre htab hJi hz
          generalize hiW x t = h at *
          generalize e2 : hiW x (s + 1) = h2 at *
          have E2 := Lib.hid e2
          clear e2
          gi_wp2
          refine ⟨trivial, (callsIn_wide.2 (HTZ.out _ HTab.out)).mono ?_⟩
          rintro e w' ⟨rfl, rfl⟩
          gi_wp2
          refine RoundIn.mono hR'.out ?_
          rintro e W3 ⟨bv, rfl, hP⟩
          cases bv
          · gi_wp2
            refine bodyPost_ret (results_none rfl _ _ _) rfl ?_
            exact ⟨⟨_, rfl⟩, .inr ⟨_, ⟨HPre.out, by simp⟩, hP.2 rfl⟩⟩
          · gi_wp2
            go_roundw
            case rel => exact ⟨s + 1, by omega, by rw [E2.out], by rw [HP.out]; exact (hP.1 rfl).1, Lib.hid (HKi.out.trans (hP.1 rfl).2)⟩
            case measure => have := HLT.out; simp [intOf]; omega
    · obtain rfl : j = len := by omega
      have hlt' : ¬ (j : Int) < j := by omega
      gi_wp2
      go_end0
      first
        | exact ⟨⟨_, rfl⟩, .inl hJs⟩
        | exact .inl hJs
        | exact ⟨⟨_, rfl⟩, .inl ⟨_, rfl, hJs⟩⟩
end
section
/- bitrow.ones, and bitrow.Places: the places of the bits 1. -/
set_option linter.unusedVariables false
set_option linter.unusedSimpArgs false
open Go.RowKit Go.Shelf
attribute [local go_sem] Oper.semAt_some
theorem ownP_low {w : World} {base base' e size n : Nat} {v : Value} {xs : List Value} (h : w.ownsRow base e size v n xs) (hb : base' ≤ base) : w.ownsRow base' e size v n xs := by
  refine ⟨h.1, ?_⟩
  rcases h.2 with h0 | ⟨g, cap, cur, rfl, h1, h2⟩
  · exact .inl h0
  · exact .inr ⟨g, cap, cur, rfl, Nat.le_trans hb h1, h2⟩
def plcV (x : Nat) : Value := .int .i64 (x : Int)
theorem int_infoP : (Tryd.prog.info? 3).map (fun i => (i.zero, i.size, i.bytes)) = some (some (.int .i64 0), 1, 8) := by kernel_rfl
theorem keepS {W w1 : World} {B n1 : Nat} {S : Nat → Prop} {v v' : Value} {e k : Nat} {xs : List Value} {tmp : Obj} (hrow : W.ownsRow n1 e 1 v k xs) (hgrow : (W.alloc tmp).grownBy w1 v.ownBlock) (hs : n1 ≤ W.heap.size)
    (hS : ∀ b, S b → b < n1 ∧ b ≠ B) : KpS S W (w1.setCell ⟨B, 0, none⟩ v') := by
  intro b hb
  have hbn := hS b hb
  have hne : some b ≠ v.ownBlock := fun e => by have := (hrow.lt b e.symm).1; omega
  rw [heap_setCell_other w1 ⟨B, 0, none⟩ b v' hbn.2, hgrow.block b (by simp; omega) hne, Below.heap_alloc W tmp b (by omega)]
theorem kpS_put {S : Nat → Prop} {w : World} (hS : ∀ b, S b → b < w.heap.size) (W : World) (l : Nat) (o o' : Obj) (hl : w.heap.size ≤ l) (_ : W.heap[l]? = some o) (_ : o.isCells = false) (_ : o.isWalk = false) : KpS S W (W.putObj l o') := by
  intro b hb
  exact World.putObj_heap_other (by have := hS b hb; omega)
theorem TabAt.put2 {w : World} {g : Nat} {t : TypeId} {a b : Value} (h : TabAt w 0) (hb : Box w g t #[a, b]) (hg : g ≠ 0) (u v : Value) : TabAt ((w.setCell ⟨g, 0, none⟩ u).setCell ⟨g, 1, none⟩ v) 0 := by
  refine h.same ?_
  rw [heap_setCell_other _ ⟨g, 1, none⟩ _ v (Ne.symm hg), heap_setCell_other _ ⟨g, 0, none⟩ _ u (Ne.symm hg)]
/-- What ones hands back: an iterator over a box of the row. -/
def OnesOut (N : Int) (A : Option Addr) (len c : Nat) (w : World) (e : Ending) (w' : World) : Prop :=
  ∃ B, e = .returned (.func (.func 50) #[] #[.pointer (some ⟨B, 0, none⟩)]) ∧ Box w' B 27 #[.int .i64 N, .slice A len c] ∧ w.heap.size ≤ B ∧ Below w.heap.size w w'
theorem onesIt_any (N : Int) (A : Option Addr) (len c : Nat) (w : World) : Calls Tryd.prog 33 #[.agg #[.int .i64 N, .slice A len c]] w (OnesOut N A len c w) := by
  go_enter Tryd.func33, Tryd.ntmps33
  go_wp2
  go_ret
  exact ⟨_, rfl, Box.new _ _ _, Nat.le_refl _, (Below.refl _ _).alloc (Nat.le_refl _) _⟩
theorem ones_stops (n : Nat) (hn : 1 ≤ n) (B : Nat) (N : Int) (A : Option Addr) (len c : Nat) (us : List Nat) (hl : len ≤ 100000) (S : Nat → Prop) (hS0 : S 0) (hSB : S B) (hSA : ∀ b off, 0 < len → A = some ⟨b, off, none⟩ → S b) (w : World)
    (hB : Box w B 27 #[.int .i64 N, .slice A len c]) (hW : Words w A len us) (hT : TabAt w 0) :
    SeqStopsK Fence.wide n Tryd.prog 50 #[.pointer (some ⟨B, 0, none⟩)] (fun x : Nat => #[Value.int .i64 (x : Int)]) (KpS S) (fun ys => ys = plcN us (64 * len)) (fun pre => pre <+: plcN us (64 * len) ∧ pre ≠ []) (64 * len) w := fun l J Jx W hw hJ _ hY h0 =>
  ones1_in n hn l B N A len c us hl S hS0 hSB hSA J Jx (fun pre x W hj hlt _ => hY pre x W hj hlt) W (hB.keep hw) (hW.below hw) (hT.below hw) h0
def plcZ (ys : List Nat) : List Int := ys.map fun x : Nat => (x : Int)
theorem plcZ_getD (ys : List Nat) (j : Nat) : (plcZ ys).getD j 0 = (ys.getD j 0 : Nat) := by
  simp only [plcZ, List.getD, List.getElem?_map]
  cases ys[j]? <;> simp
theorem own_plcInts {w : World} {base n : Nat} {A : Option Addr} {c : Nat} {ys : List Nat} (h : w.ownsRow base 3 1 (.slice A n c) n (ys.map plcV)) (hb : ∀ x ∈ ys, x ≤ 1000000) : Ints w A n (plcZ ys) := by
  have e : (plcZ ys).map (Value.int .i64) = ys.map plcV := by simp [plcZ, plcV, Function.comp_def]
  rw [← e] at h
  refine own_ints h fun j => ?_
  rw [plcZ_getD]
  have : ys.getD j 0 ≤ 1000000 := by
    simp only [List.getD]
    cases hx : ys[j]? with
    | none => simp
    | some y => simpa using hb y (List.mem_of_getElem? hx)
  omega
/-- A slice of numbers of its own, and no error, is returned. -/
def PlcOut (ys : List Nat) (w : World) (e : Ending) (w' : World) : Prop := ∃ v, e = .returned (.tuple #[v, .int .i64 0]) ∧ w'.ownsRow w.heap.size 3 1 v ys.length (ys.map plcV) ∧ Below w.heap.size w w'
set_option maxRecDepth 100000 in
set_option maxHeartbeats 2000000 in
theorem plc_in (N : Int) (A : Option Addr) (len c : Nat) (us : List Nat) (w : World) (hr : rightB N us = true) (hW : Words w A len us) (hT : TabAt w 0) : CallsIn Fence.wide 5 Tryd.prog 56 #[.agg #[.int .i64 N, .slice A len c]] w (PlcOut (plcN us (64 * len)) w) := by
  obtain ⟨i0, hi, hz0, hz1, hz2⟩ := info_parts int_infoP
  have hl8 := rightB_len8 hr hW.1
  have HW := Lib.hid (hW.alloc (.cells #[.int .i64 N, .slice A len c] 27))
  have HT := Lib.hid (hT.below ((Below.refl _ _).alloc (Nat.le_refl _) (.cells #[.int .i64 N, .slice A len c] 27)))
  have Q0 := Lib.hid (Box.new w 27 #[.int .i64 N, .slice A len c])
  have HB := Lib.hid (show Below w.heap.size w (w.alloc (.cells #[.int .i64 N, .slice A len c] 27)) from (Below.refl _ _).alloc (Nat.le_refl _) _)
  have hT0 := hT.1
  have HLt := Lib.hid (show ∀ b off, 0 < len → A = some ⟨b, off, none⟩ → b < w.heap.size from fun b off h e => by
    obtain ⟨b', off', e', hlt, _⟩ := hW.2.2 h
    rw [e] at e'; injection e' with e'; injection e' with e1 _; omega)
  have HR := Lib.hid (right_any N A len c us _ HW.out)
  rw [hr] at HR
  clear hW hT
  refine callsIn_of_wp_marks Tryd.func56 rfl trivial ?_ rfl
  simp only [Tryd.ntmps56, List.size_toArray, List.length_cons, List.length_nil, Nat.reduceAdd, Nat.reduceSub, Array.replicate_succ, Array.replicate_zero, List.push_toArray, List.append_toArray, List.nil_append, List.cons_append]
  gi_wp2
  refine ⟨trivial, (callsIn_wide.2 HR.out).mono ?_⟩
  rintro e x1 ⟨rfl, hb⟩
  have Q1 := Lib.hid ((Q0.out.keep hb).alloc (.cells #[.slice none 0 0] 29))
  have HW1 := Lib.hid ((HW.out.below hb).alloc (.cells #[.slice none 0 0] 29))
  have HT1 := Lib.hid ((HT.out.below hb).below ((Below.refl _ _).alloc (Nat.le_refl _) (.cells #[.slice none 0 0] 29)))
  have HB1 := Lib.hid ((chain HB.out hb).alloc (chain HB.out hb).size (.cells #[.slice none 0 0] 29))
  have hs0 : w.heap.size < x1.heap.size := (Q0.out.keep hb).lt
  obtain ⟨r0, r1, -, -⟩ := Q1.out.two
  have hld := run_loadVar_row (P := Tryd.prog) (x1.alloc (.cells #[.slice none 0 0] 29)) w.heap.size 27 27 #[.int .i64 N, .slice A len c] (0, 0) _ Q1.out Tryd.underlying27 rfl (by kernel_rfl)
  clear hb Q0 HW HT HB HR
  gi_wp2
  refine ⟨trivial, (callsIn_wide.2 (onesIt_any N A len c _)).mono ?_⟩
  rintro e w1 ⟨B, rfl, bB, hge, hb⟩
  have bO : Boxed w1 x1.heap.size 29 (.slice none 0 0) := (Box.new x1 29 #[.slice none 0 0]).keep hb
  have hB0 : Below w.heap.size w w1 := chain HB1.out hb
  have hw1 := HW1.out.below hb
  have ht1 := HT1.out.below hb
  have lB := bB.lt
  have lO := bO.lt
  have hsz1 := hB0.size
  simp only [World.size_alloc] at hge
  clear hb r0 r1 hld Q1
  gi_wp2
  have hS : ∀ b, (b < w1.heap.size ∧ b ≠ x1.heap.size) → b < w1.heap.size ∧ b ≠ x1.heap.size := fun b h => h
  refine wpIn_rangeFunc_ownG rfl (by omega) (gf := 50) (lb := #[.pointer (some ⟨B, 0, none⟩)]) rfl trivial (enters_of Tryd.func50 (by kernel_rfl) rfl)
    (ones_stops (5 - 1) (by omega) B N A len c us (by omega) (fun b => b < w1.heap.size ∧ b ≠ x1.heap.size) ⟨by omega, by omega⟩ ⟨lB, by omega⟩ (fun b off h e => by have := HLt.out b off h e; omega) w1 bB hw1 ht1) KpS.trans (kpS_put (fun b h => h.1)) (Below.refl _ _) (fun _ => rfl)
    (fun pre W => (∃ v, Boxed W x1.heap.size 29 v ∧ W.ownsRow w1.heap.size 3 1 v pre.length (pre.map plcV) ∧ True) ∧ Below w.heap.size w W ∧ w1.heap.size ≤ W.heap.size)
    (fun _ _ _ => False)
    (OwnFrom.and (Own.from (holdsRow_own w1.heap.size x1.heap.size 29 3 1 (fun pre : List Nat => pre.length) (fun pre : List Nat => pre.map plcV) (fun _ _ => True)) _) (OwnFrom.and (ownFrom_below (Nat.le_refl _) (by omega)) (fun _ _ _ _ hs hg _ => Nat.le_trans hs hg.size)))
    (fun _ _ _ _ _ hs _ _ => hs)
    ⟨⟨_, bO, World.ownsRow_nil _ _ _ _, trivial⟩, hB0, Nat.le_refl _⟩
    (fun x => { tmps := #[.agg #[.int .i64 N, .slice A len c], .pointer (some ⟨w.heap.size, 0, none⟩), .slice none 0 0, .int .i64 0, .pointer (some ⟨x1.heap.size, 0, none⟩), .int .i64 (x : Int), .agg #[.int .i64 N, .slice A len c], .bool true, .bool false, .agg #[.int .i64 N, .slice A len c], .func (.func 50) #[] #[.pointer (some ⟨B, 0, none⟩)], .int .i64 (x : Int), undef, undef, undef, undef, undef], defers := [] }) ?assign ?body ?done ?stop
  case assign =>
    intro l x W K hK
    gi_wp2
    exact hK
  case body =>
    rintro l pre x W ⟨⟨v, hv, hrow, _⟩, hB, hsz⟩ hlt
    have hc := hv.cell
    have hlo : x1.heap.size < w1.heap.size := lO
    gi_wp2_with (gi_at_builtin; refine wpListIn_append_own _ rfl _ _ 29 rfl w1.heap.size 3 i0 (.int .i64 0) 1 8 Tryd.underlying29 hi hz0 hz1 hz2 rfl (by decide) _ _ _ rfl (hrow.alloc _) ⟨W.heap.size, 0, none⟩ 1 1 [.int .i64 (x : Int)] rfl rfl (cell_one_new _ _ _) (by simp [Value.oneCell']) (by simp [maxLen]; omega) (by omega) (by simp; omega) ?_; intro v' w2 hown' hgrow _; obtain ⟨g', cap', rfl⟩ := ownsRow_succ hown'; obtain ⟨hv1, hv2, hr2, hk2, hb2⟩ := hv.appended (by decide) (ownP_low hrow (by omega)) hB.size (by omega) (ownP_low hown' (by omega)) hgrow; have hr3 := hown'.kept (grownBy_setCell' w2 x1.heap.size (.slice (some ⟨g', 0, none⟩) (pre.length + 1) cap')) (.inr (hv1.not_row (by decide) hown').symm); have hkp := keepS (B := x1.heap.size) (v' := .slice (some ⟨g', 0, none⟩) (pre.length + 1) cap') hrow hgrow hsz hS; have hc1 := hv1.cell; have hf1 := hv1.frozen)
    exact ⟨hk2.from _, hkp, ⟨_, hv2, by simpa [plcV] using hr3, trivial⟩, hB.trans hb2, Nat.le_trans hsz hk2.size⟩
  case done =>
    rintro D ys W hD rfl ⟨⟨v, hv, hrow, _⟩, hB, hsz⟩ hK
    have hc := hv.cell
    gi_wp2
    refine ⟨by simp, .inl ⟨_, _, rfl, run_takeDeferred hK, ?_⟩⟩
    exact ⟨_, results_tmp2 rfl _ _ _, v, rfl, ownP_low (ownsRow_putObj hrow _ hK rfl) (by omega), hB.trans (belowK_b (w := w) (Nat.le_refl _) W D _ _ (by omega) hK rfl rfl)⟩
  case stop =>
    rintro D c pre W _ _ h _
    exact h.elim
theorem plc_yes (N : Int) (A : Option Addr) (len c : Nat) (us : List Nat) (w : World) (hr : rightB N us = true) (hW : Words w A len us) (hT : TabAt w 0) : Calls Tryd.prog 56 #[.agg #[.int .i64 N, .slice A len c]] w (PlcOut (plcN us (64 * len)) w) := callsIn_wide.1 (plc_in N A len c us w hr hW hT)
end
section
/- Rows and their places: a row is that of its places; counts. No program. -/
set_option linter.unusedVariables false
set_option linter.unusedSimpArgs false
theorem plcZ_mem (us : List Nat) (m : Nat) (z : Int) (h : z ∈ plcZ (plcN us m)) : ∃ p : Nat, z = p ∧ p < m ∧ bitAt us p = 1 := by
  obtain ⟨p, hp, rfl⟩ := List.mem_map.1 h
  have := List.mem_filter.1 hp
  exact ⟨p, rfl, by simpa using this.1, by simpa using this.2⟩
theorem there_plc (us : List Nat) (N : Nat) : there (N : Int) (plcZ (plcN us N)) = true := by
  simp only [there, List.all_eq_true]
  intro z hz
  obtain ⟨p, rfl, h1, -⟩ := plcZ_mem us N z hz
  simp; omega
theorem ofBits_plc (us : List Nat) (N : Nat) (hr : rightB (N : Int) us = true) (hlt : ∀ j, us.getD j 0 < 18446744073709551616) : ofBits N (plcZ (plcN us N)) = us := by
  have hlen := right_len_eq hr
  rw [Int.toNat_natCast] at hlen
  apply List.ext_getElem (by rw [ofBits_len, hlen])
  intro i h1 h2
  have g1 : (ofBits N (plcZ (plcN us N)))[i] = (ofBits N (plcZ (plcN us N))).getD i 0 := by simp [List.getD, h1]
  have g2 : us[i] = us.getD i 0 := by simp [List.getD, h2]
  rw [g1, g2]
  rw [ofBits_len] at h1
  apply Nat.eq_of_testBit_eq
  intro j
  rw [ofBits_test N _ i j h1]
  by_cases hj : j < 64
  · rw [Bool.eq_iff_iff, ← bitAt_bit us i j hj]
    simp only [List.any_eq_true, Bool.and_eq_true, beq_iff_eq]
    constructor
    · rintro ⟨z, hz, e1, e2⟩
      obtain ⟨p, rfl, -, h4⟩ := plcZ_mem us N z hz
      rw [Int.toNat_natCast] at e1 e2
      rw [← h4]; congr 1; omega
    · intro h
      have hN : 64 * i + j < N := by
        refine Nat.lt_of_not_le fun hle => ?_
        have := right_bits hr (64 * i + j) hle (by omega)
        omega
      refine ⟨((64 * i + j : Nat) : Int), List.mem_map.2 ⟨64 * i + j, List.mem_filter.2 ⟨by simpa using hN, by simpa using h⟩, rfl⟩, ?_, ?_⟩
      · rw [Int.toNat_natCast]; omega
      · rw [Int.toNat_natCast]; omega
  · have : (us.getD i 0).testBit j = false := Nat.testBit_lt_two_pow (Nat.lt_of_lt_of_le (hlt i) (show 2 ^ 64 ≤ 2 ^ j from Nat.pow_le_pow_right (by omega) (by omega)))
    rw [this, List.any_eq_false]
    intro z _
    simp; omega
theorem zip_bit (f : Nat → Nat → Nat) (us vs : List Nat) (p : Nat) (hu : p / 64 < us.length) (hv : p / 64 < vs.length) : (bitAt (List.zipWith f us vs) p == 1) = (f (us.getD (p / 64) 0) (vs.getD (p / 64) 0)).testBit (p % 64) := by
  rw [bitAt_test, zip_last f us vs _ hu hv]
theorem count_join (us vs : List Nat) (hl : us.length = vs.length) (m : Nat) (hm : m ≤ 64 * us.length) :
    (plcN us m).length + (plcN vs m).length = (plcN (xorL us vs) m).length + 2 * (plcN (andL us vs) m).length := by
  induction m with
  | zero => simp [plcN]
  | succ m ih =>
    have ih := ih (by omega)
    have hx : (bitAt (xorL us vs) m == 1) = _ := zip_bit (· ^^^ ·) us vs m (by omega) (by omega)
    have ha : (bitAt (andL us vs) m == 1) = _ := zip_bit (· &&& ·) us vs m (by omega) (by omega)
    rw [Nat.testBit_xor, ← bitAt_test, ← bitAt_test] at hx
    rw [Nat.testBit_and, ← bitAt_test, ← bitAt_test] at ha
    rw [plcN_succ, plcN_succ, plcN_succ, plcN_succ]
    simp only [List.length_append]
    have b1 := bitAt_le us m
    have b2 := bitAt_le vs m
    have b3 := bitAt_le (xorL us vs) m
    have b4 := bitAt_le (andL us vs) m
    rcases b1 with b1 | b1 <;> rcases b2 with b2 | b2 <;> rcases b3 with b3 | b3 <;> rcases b4 with b4 | b4 <;> simp [b1, b2, b3, b4] at hx ha ⊢ <;> omega
theorem xor_backL (us vs : List Nat) (hl : us.length = vs.length) : xorL (xorL us vs) vs = us := by
  apply List.ext_getElem
  · simp [xorL, hl]
  · intro i h1 h2
    simp [xorL, Nat.xor_assoc]
end
section
/- Mathematics of a product of matrices. -/
set_option linter.unusedVariables false
set_option linter.unusedSimpArgs false
theorem bitAt_xor (us vs : List Nat) (p : Nat) (hu : p / 64 < us.length) (hv : p / 64 < vs.length) : bitAt (xorL us vs) p = (bitAt us p + bitAt vs p) % 2 := by
  have hx : (bitAt (xorL us vs) p == 1) = _ := zip_bit (· ^^^ ·) us vs p hu hv
  rw [Nat.testBit_xor, ← bitAt_test, ← bitAt_test] at hx
  have b1 := bitAt_le us p
  have b2 := bitAt_le vs p
  have b3 := bitAt_le (xorL us vs) p
  rcases b1 with b1 | b1 <;> rcases b2 with b2 | b2 <;> rcases b3 with b3 | b3 <;> simp [b1, b2, b3] at hx ⊢
theorem bitAt_zeros (n p : Nat) : bitAt (List.replicate n 0) p = 0 := by
  unfold bitAt
  have : (List.replicate n 0).getD (p / 64) 0 = 0 := by
    simp only [List.getD, List.getElem?_replicate]; split <;> rfl
  rw [this]; simp
theorem right_zeros (n : Nat) (h : lmb (n : Int) = true) : rightB (n : Int) (List.replicate (nw n) 0) = true := by
  simp only [rightB, h, Int.toNat_natCast, List.length_replicate, Bool.true_and, beq_self_eq_true]
  have : (List.replicate (nw n) 0).getD (nw n - 1) 0 = 0 := by
    simp only [List.getD, List.getElem?_replicate]; split <;> rfl
  rw [this]; simp
theorem xorL_lt (us vs : List Nat) (hu : ∀ j, us.getD j 0 < 18446744073709551616) (hv : ∀ j, vs.getD j 0 < 18446744073709551616) (j : Nat) : (xorL us vs).getD j 0 < 18446744073709551616 := by
  unfold xorL
  simp only [List.getD, List.getElem?_zipWith]
  have h1 := hu j
  have h2 := hv j
  simp only [List.getD] at h1 h2
  cases e1 : us[j]? <;> cases e2 : vs[j]? <;> simp [e1, e2] at h1 h2 ⊢
  exact Nat.xor_lt_two_pow (n := 64) h1 h2
/-- Two rows that may be, of the same bits, are the same. -/
theorem right_ext {n : Nat} {us vs : List Nat} (h1 : rightB (n : Int) us = true) (h2 : rightB (n : Int) vs = true) (hu : ∀ j, us.getD j 0 < 18446744073709551616) (hv : ∀ j, vs.getD j 0 < 18446744073709551616) (h : ∀ i, i < n → bitAt us i = bitAt vs i) : us = vs := by
  rw [← ofBits_plc us n h1 hu, ← ofBits_plc vs n h2 hv]
  have : plcN us n = plcN vs n := by
    unfold plcN
    apply List.filter_congr
    intro p hp
    rw [h p (by simpa using hp)]
  rw [this]
/-- The xor of those rows that stand at some places. -/
def xrowsF (ms : List (Int × List Nat)) (acc : List Nat) (ps : List Nat) : List Nat := ps.foldl (fun acc p => xorL acc (ms.getD p (0, [])).2) acc
def xrows (n : Nat) (ms : List (Int × List Nat)) (ps : List Nat) : List Nat := xrowsF ms (List.replicate (nw n) 0) ps
theorem xrows_snoc (n : Nat) (ms : List (Int × List Nat)) (ps : List Nat) (p : Nat) : xrows n ms (ps ++ [p]) = xorL (xrows n ms ps) (ms.getD p (0, [])).2 := by simp [xrows, xrowsF]
theorem xrowsF_right {n : Nat} {ms : List (Int × List Nat)} (hr : rightM n ms = true) (ps : List Nat) (hp : ∀ p ∈ ps, p < ms.length) (acc : List Nat) (ha : rightB (n : Int) acc = true) : rightB (n : Int) (xrowsF ms acc ps) = true := by
  induction ps generalizing acc with
  | nil => exact ha
  | cons p ps ih => exact ih (fun q hq => hp q (List.mem_cons_of_mem _ hq)) _ (right_xor ha (rightM_at hr p (hp p (List.mem_cons_self ..))).2)
theorem xrowsF_lt {ms : List (Int × List Nat)} (hz : ∀ i j, ((ms.getD i (0, [])).2).getD j 0 < 18446744073709551616) (ps : List Nat) (acc : List Nat) (ha : ∀ j, acc.getD j 0 < 18446744073709551616) (j : Nat) : (xrowsF ms acc ps).getD j 0 < 18446744073709551616 := by
  induction ps generalizing acc with
  | nil => exact ha j
  | cons p ps ih => exact ih _ (xorL_lt _ _ ha (hz p))
theorem rightM_lmb {n : Nat} {ms : List (Int × List Nat)} (hr : rightM n ms = true) : lmb (n : Int) = true := by
  have := rightM_bd hr
  exact (lmb_iff n).2 ⟨by omega, by omega⟩
theorem xrows_right {n : Nat} {ms : List (Int × List Nat)} (hr : rightM n ms = true) (ps : List Nat) (hp : ∀ p ∈ ps, p < ms.length) : rightB (n : Int) (xrows n ms ps) = true := xrowsF_right hr ps hp _ (right_zeros n (rightM_lmb hr))
theorem xrows_lt (n : Nat) {ms : List (Int × List Nat)} (hz : ∀ i j, ((ms.getD i (0, [])).2).getD j 0 < 18446744073709551616) (ps : List Nat) (j : Nat) : (xrows n ms ps).getD j 0 < 18446744073709551616 := xrowsF_lt hz ps _ (zeros_lt _) j
theorem right_has {n : Nat} {us : List Nat} (h : rightB (n : Int) us = true) {i : Nat} (hi : i < n) : i / 64 < us.length := by
  have := right_len_eq h
  rw [Int.toNat_natCast] at this
  unfold nw at this; omega
theorem xrowsF_bit {n : Nat} {ms : List (Int × List Nat)} (hr : rightM n ms = true) (ps : List Nat) (hp : ∀ p ∈ ps, p < ms.length) (acc : List Nat) (ha : rightB (n : Int) acc = true) (i : Nat) (hi : i < n) : bitAt (xrowsF ms acc ps) i = (bitAt acc i + (ps.map fun p => mbit ms p i).sum) % 2 := by
  induction ps generalizing acc with
  | nil =>
    have := bitAt_le acc i
    simp [xrowsF]; omega
  | cons p ps ih =>
    have hp0 := (rightM_at hr p (hp p (List.mem_cons_self ..))).2
    have := ih (fun q hq => hp q (List.mem_cons_of_mem _ hq)) _ (right_xor ha hp0)
    have e : xrowsF ms acc (p :: ps) = xrowsF ms (xorL acc (ms.getD p (0, [])).2) ps := rfl
    rw [e, this, bitAt_xor _ _ _ (right_has ha hi) (right_has hp0 hi), List.map_cons, List.sum_cons]
    show (_ % 2 + _) % 2 = (_ + (bitAt (ms.getD p (0, [])).2 i + _)) % 2
    omega
theorem xrows_bit {n : Nat} {ms : List (Int × List Nat)} (hr : rightM n ms = true) (ps : List Nat) (hp : ∀ p ∈ ps, p < ms.length) (i : Nat) (hi : i < n) : bitAt (xrows n ms ps) i = (ps.map fun p => mbit ms p i).sum % 2 := by
  unfold xrows
  rw [xrowsF_bit hr ps hp _ (right_zeros n (rightM_lmb hr)) i hi, bitAt_zeros, Nat.zero_add]
/-- The sum of products of bits. -/
def psum (us : List Nat) (ms : List (Int × List Nat)) (i : Nat) : Nat → Nat
  | 0 => 0
  | k + 1 => psum us ms i k + bitAt us k * mbit ms k i
theorem psum_le (us : List Nat) (ms : List (Int × List Nat)) (i k : Nat) : psum us ms i k ≤ k := by
  induction k with
  | zero => exact Nat.le_refl _
  | succ k ih =>
    simp only [psum]
    rcases bitAt_le us k with h | h <;> rcases mbit_le ms k i with h' | h' <;> rw [h, h'] <;> omega
theorem psum_plc (us : List Nat) (ms : List (Int × List Nat)) (i k : Nat) : ((plcN us k).map fun p => mbit ms p i).sum = psum us ms i k := by
  induction k with
  | zero => rfl
  | succ k ih =>
    rw [plcN_succ, List.map_append, List.sum_append, ih]
    simp only [psum]
    rcases bitAt_le us k with h | h <;> simp [h]
/-- A row times a matrix of n columns. -/
def mulW (n : Nat) (ms : List (Int × List Nat)) (us : List Nat) : List Nat := xrows n ms (plcN us ms.length)
theorem plc_lt {us : List Nat} {k : Nat} : ∀ p ∈ plcN us k, p < k := fun _ h => plcN_lt us k h
theorem mulW_right {n : Nat} {ms : List (Int × List Nat)} (hr : rightM n ms = true) (us : List Nat) : rightB (n : Int) (mulW n ms us) = true := xrows_right hr _ plc_lt
theorem mulW_lt (n : Nat) {ms : List (Int × List Nat)} (hz : ∀ i j, ((ms.getD i (0, [])).2).getD j 0 < 18446744073709551616) (us : List Nat) (j : Nat) : (mulW n ms us).getD j 0 < 18446744073709551616 := xrows_lt n hz _ j
theorem mulW_bit {n : Nat} {ms : List (Int × List Nat)} (hr : rightM n ms = true) (us : List Nat) (i : Nat) (hi : i < n) : bitAt (mulW n ms us) i = psum us ms i ms.length % 2 := by
  unfold mulW
  rw [xrows_bit hr _ plc_lt i hi, psum_plc]
/-- The row times the matrix as numbers. -/
def mulZ (us : List Nat) (ms : List (Int × List Nat)) (k : Nat) : List Int := (List.range k).map fun i => ((psum us ms i ms.length % 2 : Nat) : Int)
theorem mulZ_succ (us : List Nat) (ms : List (Int × List Nat)) (k : Nat) : mulZ us ms (k + 1) = mulZ us ms k ++ [((psum us ms k ms.length % 2 : Nat) : Int)] := by simp [mulZ, List.range_succ]
theorem mulZ_len (us : List Nat) (ms : List (Int × List Nat)) (k : Nat) : (mulZ us ms k).length = k := by simp [mulZ]
theorem mulZ_bound (us : List Nat) (ms : List (Int × List Nat)) (k j : Nat) : -9223372036854775808 ≤ (mulZ us ms k).getD j 0 ∧ (mulZ us ms k).getD j 0 ≤ 9223372036854775807 := by
  by_cases hj : j < k
  · have e : (mulZ us ms k).getD j 0 = ((psum us ms j ms.length % 2 : Nat) : Int) := by simp [mulZ, List.getD, hj]
    rw [e]; omega
  · have e : (mulZ us ms k)[j]? = none := List.getElem?_eq_none (by rw [mulZ_len]; omega)
    simp only [List.getD, e, Option.getD_none]; omega
theorem hasB_plcZ (l : List Nat) (j : Nat) : hasB (plcZ l) (j : Int) = l.contains j := by
  unfold hasB plcZ
  rw [Bool.eq_iff_iff]
  simp only [List.contains_iff_mem, List.mem_map]
  constructor
  · rintro ⟨a, h, e⟩
    obtain rfl : a = j := by omega
    exact h
  · exact fun h => ⟨j, h, rfl⟩
/-- A list of bits is read back as the row that has them. -/
theorem from_row {n : Nat} {us : List Nat} (h : rightB (n : Int) us = true) (hu : ∀ j, us.getD j 0 < 18446744073709551616) (zs : List Int) (hz : zs = (List.range n).map fun i => ((bitAt us i : Nat) : Int)) : fromL (bitsOf zs) (nw n) = us := by
  have e : zs = ofInts (plcZ (plcN us n)) n := by
    rw [hz]
    unfold ofInts
    apply List.map_congr_left
    intro j hj
    have hj' : j < n := by simpa using hj
    rw [hasB_plcZ]
    have e : (plcN us n).contains j = (bitAt us j == 1) := by
      rw [Bool.eq_iff_iff]
      simp [plcN, hj']
    rw [e]
    rcases bitAt_le us j with h | h <;> simp [h]
  rw [e, from_of n _ (there_plc us n), ofBits_plc us n h hu]
theorem from_mul {n : Nat} {ms : List (Int × List Nat)} (hr : rightM n ms = true) (hz : ∀ i j, ((ms.getD i (0, [])).2).getD j 0 < 18446744073709551616) (us : List Nat) : fromL (bitsOf (mulZ us ms n)) (nw n) = mulW n ms us := by
  refine from_row (mulW_right hr us) (mulW_lt n hz us) _ ?_
  unfold mulZ
  apply List.map_congr_left
  intro i hi
  rw [mulW_bit hr us i (by simpa using hi)]
def mulM (n : Nat) (ms rs : List (Int × List Nat)) : List (Int × List Nat) := (List.range rs.length).map fun i => ((n : Int), mulW n ms (rs.getD i (0, [])).2)
theorem mulM_len (n : Nat) (ms rs : List (Int × List Nat)) : (mulM n ms rs).length = rs.length := by simp [mulM]
theorem mulM_at (n : Nat) (ms rs : List (Int × List Nat)) (i : Nat) (h : i < rs.length) : (mulM n ms rs).getD i (0, []) = ((n : Int), mulW n ms (rs.getD i (0, [])).2) := by simp [mulM, List.getD, h]
theorem mulM_lt (n : Nat) {ms : List (Int × List Nat)} (rs : List (Int × List Nat)) (hz : ∀ i j, ((ms.getD i (0, [])).2).getD j 0 < 18446744073709551616) (i j : Nat) : (((mulM n ms rs).getD i (0, [])).2).getD j 0 < 18446744073709551616 := by
  by_cases h : i < rs.length
  · rw [mulM_at n ms rs i h]; exact mulW_lt n hz _ j
  · have e : (mulM n ms rs)[i]? = none := List.getElem?_eq_none (by rw [mulM_len]; omega)
    simp [List.getD, e]
theorem mulM_take (n : Nat) (ms rs : List (Int × List Nat)) (i : Nat) (h : i < rs.length) : (mulM n ms rs).take (i + 1) = (mulM n ms rs).take i ++ [((n : Int), mulW n ms (rs.getD i (0, [])).2)] := by
  rw [take_one (mulM n ms rs) i (0, []) (by rw [mulM_len]; exact h), mulM_at n ms rs i h]
end
section
/- How many bits of a word are 1, byte by byte, and folded. No program. -/
set_option linter.unusedVariables false
set_option linter.unusedSimpArgs false
/-- A number by its bytes, the lowest first. -/
def valB : List Nat → Nat
  | [] => 0
  | c :: cs => c + 256 * valB cs
theorem valB_and (m : Nat) (hm : m < 256) : ∀ cs : List Nat, (∀ c ∈ cs, c < 256) → valB cs &&& valB (List.replicate cs.length m) = valB (cs.map (· &&& m))
  | [], _ => by simp [valB]
  | c :: cs, h => by
    have hc : c < 256 := h c (by simp)
    have ih := valB_and m hm cs (fun x hx => h x (by simp [hx]))
    have e1 : (valB (c :: cs) &&& valB (List.replicate (c :: cs).length m)) / 2 ^ 8 = valB (c :: cs) / 2 ^ 8 &&& valB (List.replicate (c :: cs).length m) / 2 ^ 8 := Nat.and_div_two_pow
    have e2 : (valB (c :: cs) &&& valB (List.replicate (c :: cs).length m)) % 2 ^ 8 = (valB (c :: cs) % 2 ^ 8) &&& (valB (List.replicate (c :: cs).length m) % 2 ^ 8) := Nat.and_mod_two_pow
    simp only [List.length_cons, List.replicate_succ, valB] at *
    rw [show (c + 256 * valB cs) / 2 ^ 8 = valB cs by omega, show (m + 256 * valB (List.replicate cs.length m)) / 2 ^ 8 = valB (List.replicate cs.length m) by omega, ih] at e1
    rw [show (c + 256 * valB cs) % 2 ^ 8 = c by omega, show (m + 256 * valB (List.replicate cs.length m)) % 2 ^ 8 = m by omega] at e2
    have := Nat.div_add_mod ((c + 256 * valB cs) &&& (m + 256 * valB (List.replicate cs.length m))) (2 ^ 8)
    rw [e1, e2] at this
    simp only [List.map_cons, valB]
    omega
/-- Bytes shifted down by k bits. -/
def shrB (p q : Nat) : List Nat → List Nat
  | [] => []
  | [c] => [c / p]
  | c :: d :: r => (c / p + d % p * q) :: shrB p q (d :: r)
theorem div_cut (c p q y : Nat) (hp : 0 < p) (e : p * q = 256) : (c + 256 * y) / p = c / p + q * y := by
  rw [← e, Nat.mul_assoc, Nat.add_mul_div_left _ _ hp]
theorem shrB_val (p q : Nat) (hp : 0 < p) (e : p * q = 256) : ∀ cs : List Nat, valB (shrB p q cs) = valB cs / p
  | [] => by simp [shrB, valB]
  | [c] => by simp [shrB, valB]
  | c :: d :: r => by
    have ih := shrB_val p q hp e (d :: r)
    show c / p + d % p * q + 256 * valB (shrB p q (d :: r)) = (c + 256 * valB (d :: r)) / p
    rw [ih, div_cut c p q _ hp e, ← e]
    have h1 := Nat.div_add_mod (valB (d :: r)) p
    have h2 : valB (d :: r) % p = d % p := by
      simp only [valB]
      rw [← e, Nat.mul_assoc, Nat.add_mul_mod_self_left]
    rw [h2] at h1
    have h3 : q * valB (d :: r) = q * (p * (valB (d :: r) / p) + d % p) := by rw [h1]
    rw [h3, Nat.mul_add, Nat.mul_comm (d % p) q, ← Nat.mul_assoc q p, Nat.mul_comm q p]
    omega
theorem shrB_len (p q : Nat) : ∀ cs : List Nat, (shrB p q cs).length = cs.length
  | [] => rfl
  | [c] => rfl
  | c :: d :: r => by simp only [shrB, List.length_cons]; rw [shrB_len p q (d :: r)]; rfl
theorem shrB_lt (p q : Nat) (hp : 0 < p) (e : p * q = 256) : ∀ cs : List Nat, (∀ c ∈ cs, c < 256) → ∀ c ∈ shrB p q cs, c < 256
  | [], _ => by simp [shrB]
  | [c], h => by
    intro x hx
    have : x = c / p := by simpa [shrB] using hx
    have := h c (by simp)
    have := Nat.div_le_self c p
    omega
  | c :: d :: r, h => by
    intro x hx
    rcases List.mem_cons.1 (show x ∈ (c / p + d % p * q) :: shrB p q (d :: r) from hx) with rfl | hx
    · have h1 := h c (by simp)
      have h2 : c / p < q := by rw [Nat.div_lt_iff_lt_mul hp, Nat.mul_comm, e]; exact h1
      have h3 : d % p < p := Nat.mod_lt _ hp
      have h4 : (d % p + 1) * q ≤ p * q := Nat.mul_le_mul_right _ h3
      rw [Nat.add_mul, Nat.one_mul, e] at h4
      omega
    · exact shrB_lt p q hp e (d :: r) (fun y hy => h y (by simp [hy])) x hx
theorem valB_add : ∀ xa bs : List Nat, xa.length = bs.length → valB xa + valB bs = valB (List.zipWith (· + ·) xa bs)
  | [], [], _ => rfl
  | a :: xa, b :: bs, h => by
    have ih := valB_add xa bs (by simpa using h)
    simp only [valB, List.zipWith_cons_cons]
    omega
  | [], _ :: _, h => by simp at h
  | _ :: _, [], h => by simp at h
/-- Two masked halves put together, byte by byte. -/
theorem half_map (p q m : Nat) (f : Nat → Nat) (hf : ∀ c, c < 256 → ∀ z, z < p → ((c / p + z * q) &&& m) + (c &&& m) = f c) (hf0 : ∀ c, c < 256 → ((c / p) &&& m) + (c &&& m) = f c) (hp : 0 < p) :
    ∀ cs : List Nat, (∀ c ∈ cs, c < 256) → List.zipWith (· + ·) ((shrB p q cs).map (· &&& m)) (cs.map (· &&& m)) = cs.map f
  | [], _ => rfl
  | [c], h => by simp [shrB, hf0 c (h c (by simp))]
  | c :: d :: r, h => by
    have ih := half_map p q m f hf hf0 hp (d :: r) (fun y hy => h y (by simp [hy]))
    simp only [shrB, List.map_cons, List.zipWith_cons_cons] at *
    rw [ih, hf c (h c (by simp)) (d % p) (Nat.mod_lt _ hp)]
/-- Two halves put together, and masked, byte by byte. -/
theorem both_map : ∀ cs : List Nat, (List.zipWith (· + ·) (shrB 16 16 cs) cs).map (· &&& 15) = cs.map fun c => (c / 16 + c) % 16
  | [] => rfl
  | [c] => by
    simp only [shrB, List.zipWith_cons_cons, List.zipWith_nil_left, List.map_cons, List.map_nil]
    exact congrArg (fun y => [y]) (Nat.and_two_pow_sub_one_eq_mod (c / 16 + c) 4)
  | c :: d :: r => by
    have ih := both_map (d :: r)
    simp only [shrB, List.map_cons, List.zipWith_cons_cons] at *
    rw [ih, show (c / 16 + d % 16 * 16 + c) &&& 15 = (c / 16 + d % 16 * 16 + c) % 2 ^ 4 from Nat.and_two_pow_sub_one_eq_mod _ 4, show (c / 16 + d % 16 * 16 + c) % 2 ^ 4 = (c / 16 + c) % 16 by omega]
theorem both_lt : ∀ cs : List Nat, (∀ c ∈ cs, c / 16 ≤ 4 ∧ c % 16 ≤ 4) → ∀ x ∈ List.zipWith (· + ·) (shrB 16 16 cs) cs, x < 256
  | [], _ => by simp [shrB]
  | [c], h => by
    intro x hx
    have := h c (by simp)
    have : x = c / 16 + c := by simpa [shrB] using hx
    omega
  | c :: d :: r, h => by
    intro x hx
    simp only [shrB, List.zipWith_cons_cons] at hx
    rcases List.mem_cons.1 hx with rfl | hx
    · have h1 := h c (by simp)
      have h2 := h d (by simp)
      omega
    · exact both_lt (d :: r) (fun y hy => h y (by simp [hy])) x hx
def f1 (c : Nat) : Nat := ((c / 2) &&& 85) + (c &&& 85)
def f2 (c : Nat) : Nat := ((c / 4) &&& 51) + (c &&& 51)
/-- How many bits of a byte are 1. -/
def pop8 (c : Nat) : Nat := ((List.range 8).filter c.testBit).length
theorem f1_ok : ∀ c : Fin 256, ∀ z : Fin 2, ((c.val / 2 + z.val * 128) &&& 85) + (c.val &&& 85) = f1 c.val := by decide +kernel
theorem f1_lt : ∀ c : Fin 256, f1 c.val < 171 := by decide +kernel
theorem f2_ok : ∀ c : Fin 256, ∀ z : Fin 4, ((c.val / 4 + z.val * 64) &&& 51) + (c.val &&& 51) = f2 c.val := by decide +kernel
theorem f2_lt : ∀ c : Fin 256, f2 (f1 c.val) / 16 ≤ 4 ∧ f2 (f1 c.val) % 16 ≤ 4 := by decide +kernel
theorem pop_ok : ∀ c : Fin 256, (f2 (f1 c.val) / 16 + f2 (f1 c.val)) % 16 = pop8 c.val := by decide +kernel
theorem pop_le : ∀ c : Fin 256, pop8 c.val ≤ 8 := by decide +kernel
/-- The three steps that count within bytes. -/
def stepA (x : Nat) : Nat := ((x / 2) &&& 6148914691236517205) + (x &&& 6148914691236517205)
def stepB (x : Nat) : Nat := ((x / 4) &&& 3689348814741910323) + (x &&& 3689348814741910323)
def stepC (x : Nat) : Nat := (x / 16 + x) &&& 1085102592571150095
theorem step_half (p q m : Nat) (f : Nat → Nat) (M : Nat) (hm : m < 256) (hp : 0 < p) (e : p * q = 256) (hf : ∀ c : Fin 256, ∀ z : Fin p, ((c.val / p + z.val * q) &&& m) + (c.val &&& m) = f c.val) (cs : List Nat) (h : ∀ c ∈ cs, c < 256) (hM : M = valB (List.replicate cs.length m)) :
    ((valB cs / p) &&& M) + (valB cs &&& M) = valB (cs.map f) := by
  have l1 := shrB_len p q cs
  have e1 := valB_and m hm (shrB p q cs) (shrB_lt p q hp e cs h)
  have e2 := valB_and m hm cs h
  rw [l1, shrB_val p q hp e] at e1
  rw [hM, e1, e2, valB_add _ _ (by simp [l1]), half_map p q m f (fun c hc z hz => hf ⟨c, hc⟩ ⟨z, hz⟩) (fun c hc => by have := hf ⟨c, hc⟩ ⟨0, hp⟩; simpa using this) hp cs h]
theorem steps (cs : List Nat) (h : ∀ c ∈ cs, c < 256) (h8 : cs.length = 8) : stepC (stepB (stepA (valB cs))) = valB (cs.map pop8) ∧ stepA (valB cs) = valB (cs.map f1) ∧ stepB (stepA (valB cs)) = valB (cs.map fun c => f2 (f1 c)) := by
  have a1 : stepA (valB cs) = valB (cs.map f1) := step_half 2 128 85 f1 _ (by decide) (by decide) rfl f1_ok cs h (by rw [h8]; decide)
  have hb : ∀ c ∈ cs.map f1, c < 256 := by
    intro x hx
    obtain ⟨c, hc, rfl⟩ := List.mem_map.1 hx
    have := f1_lt ⟨c, h c hc⟩
    simp only at this
    omega
  have a2 : stepB (valB (cs.map f1)) = valB ((cs.map f1).map f2) := step_half 4 64 51 f2 _ (by decide) (by decide) rfl f2_ok _ hb (by rw [List.length_map, h8]; decide)
  rw [List.map_map] at a2
  refine ⟨?_, a1, by rw [a1, a2]; rfl⟩
  rw [a1, a2]
  unfold stepC
  have hc : ∀ x ∈ cs.map (f2 ∘ f1), x / 16 ≤ 4 ∧ x % 16 ≤ 4 := by
    intro x hx
    obtain ⟨c, hc, rfl⟩ := List.mem_map.1 hx
    exact f2_lt ⟨c, h c hc⟩
  rw [← shrB_val 16 16 (by decide) rfl, valB_add _ _ (by rw [shrB_len])]
  have e3 := valB_and 15 (by decide) _ (both_lt _ hc)
  have hl : (List.zipWith (· + ·) (shrB 16 16 (cs.map (f2 ∘ f1))) (cs.map (f2 ∘ f1))).length = 8 := by simp [shrB_len, h8]
  rw [hl, both_map, List.map_map] at e3
  rw [show (1085102592571150095 : Nat) = valB (List.replicate 8 15) by decide, e3]
  congr 1
  apply List.map_congr_left
  intro c hc
  exact pop_ok ⟨c, h c hc⟩
/-- The bytes of a word. -/
def bytesW (x : Nat) : List Nat := (List.range 8).map fun i => x / 256 ^ i % 256
theorem bytesW_eq (x : Nat) : bytesW x = [x % 256, x / 256 % 256, x / 65536 % 256, x / 16777216 % 256, x / 4294967296 % 256, x / 1099511627776 % 256, x / 281474976710656 % 256, x / 72057594037927936 % 256] := by simp [bytesW, List.range_succ]
theorem bytesW_val (x : Nat) (h : x < 18446744073709551616) : valB (bytesW x) = x := by
  rw [bytesW_eq]
  simp only [valB]
  omega
/-- The sums of bytes, folded. -/
theorem fold_sum (a b c d e f g i : Nat) (h : a ≤ 8 ∧ b ≤ 8 ∧ c ≤ 8 ∧ d ≤ 8 ∧ e ≤ 8 ∧ f ≤ 8 ∧ g ≤ 8 ∧ i ≤ 8) (z t u v : Nat) (hz : z = valB [a, b, c, d, e, f, g, i]) (ht : t = z + z / 256) (hu : u = t + t / 65536) (hv : v = u + u / 4294967296) :
    v % 128 = a + b + c + d + e + f + g + i ∧ v < 18446744073709551616 := by
  simp only [valB] at hz
  have t1 : t = (a + b) + 256 * ((b + c) + 256 * ((c + d) + 256 * ((d + e) + 256 * ((e + f) + 256 * ((f + g) + 256 * ((g + i) + 256 * i)))))) := by omega
  clear ht hz
  have u1 : u = (a + b + c + d) + 256 * ((b + c + d + e) + 256 * ((c + d + e + f) + 256 * ((d + e + f + g) + 256 * ((e + f + g + i) + 256 * ((f + g + i) + 256 * ((g + i) + 256 * i)))))) := by omega
  clear hu t1
  have v1 : u / 4294967296 = (e + f + g + i) + 256 * ((f + g + i) + 256 * ((g + i) + 256 * i)) := by omega
  rw [v1, u1] at hv
  omega
/-- How many of the first m bits are 1. -/
def popW (x m : Nat) : Nat := ((List.range m).filter x.testBit).length
theorem popW_step (x m : Nat) : popW x (m + 8) = popW x m + pop8 (x / 2 ^ m % 256) := by
  unfold popW pop8
  rw [List.range_add, List.filter_append, List.length_append, List.filter_map, List.length_map]
  congr 2
  apply List.filter_congr
  intro j hj
  have hj : j < 8 := by simpa using hj
  show x.testBit (m + j) = _
  rw [show (256 : Nat) = 2 ^ 8 from rfl, Nat.testBit_mod_two_pow, Nat.testBit_div_two_pow, Nat.add_comm]
  simp [hj]
theorem popW_bytes (x : Nat) : popW x 64 = pop8 (x % 256) + pop8 (x / 256 % 256) + pop8 (x / 65536 % 256) + pop8 (x / 16777216 % 256) + pop8 (x / 4294967296 % 256) + pop8 (x / 1099511627776 % 256) + pop8 (x / 281474976710656 % 256) + pop8 (x / 72057594037927936 % 256) := by
  have s0 := popW_step x 0
  have s1 := popW_step x 8
  have s2 := popW_step x 16
  have s3 := popW_step x 24
  have s4 := popW_step x 32
  have s5 := popW_step x 40
  have s6 := popW_step x 48
  have s7 := popW_step x 56
  have z : popW x 0 = 0 := rfl
  simp only [Nat.reduceAdd, Nat.reducePow, Nat.div_one] at s0 s1 s2 s3 s4 s5 s6 s7
  omega
/-- The library's count of a word's bits, step by step. -/
theorem count_word (x : Nat) (hx : x < 18446744073709551616) (z t u v : Nat) (hz : z = stepC (stepB (stepA x))) (ht : t = z + z / 256) (hu : u = t + t / 65536) (hv : v = u + u / 4294967296) : v % 128 = popW x 64 ∧ v < 18446744073709551616 := by
  have hb : ∀ c ∈ bytesW x, c < 256 := by
    intro c hc
    rw [bytesW] at hc
    obtain ⟨i, -, rfl⟩ := List.mem_map.1 hc
    exact Nat.mod_lt _ (by omega)
  have h1 := (steps (bytesW x) hb (by simp [bytesW])).1
  rw [bytesW_val x hx] at h1
  rw [h1, bytesW_eq] at hz
  rw [popW_bytes]
  have hp : ∀ y : Nat, pop8 (y % 256) ≤ 8 := fun y => pop_le ⟨y % 256, Nat.mod_lt _ (by omega)⟩
  exact fold_sum _ _ _ _ _ _ _ _ ⟨hp x, hp _, hp _, hp _, hp _, hp _, hp _, hp _⟩ z t u v hz ht hu hv
theorem steps_small (x : Nat) : stepA x < 18446744073709551616 ∧ stepB (stepA x) < 18446744073709551616 ∧ stepA x = ((x / 2) &&& 6148914691236517205) + (x &&& 6148914691236517205) := by
  have h1 : (x / 2) &&& 6148914691236517205 ≤ 6148914691236517205 := Nat.and_le_right
  have h2 : x &&& 6148914691236517205 ≤ 6148914691236517205 := Nat.and_le_right
  have h3 : (stepA x / 4) &&& 3689348814741910323 ≤ 3689348814741910323 := Nat.and_le_right
  have h4 : stepA x &&& 3689348814741910323 ≤ 3689348814741910323 := Nat.and_le_right
  refine ⟨?_, ?_, rfl⟩
  · unfold stepA; omega
  · show (stepA x / 4 &&& 3689348814741910323) + (stepA x &&& 3689348814741910323) < _; omega
end
section
/- math/bits.OnesCount64, bitrow.Count. -/
set_option linter.unusedVariables false
set_option linter.unusedSimpArgs false
open Go.RowKit
theorem ofInt_i64N (a : Nat) (ha : a < 9223372036854775808) : (BitVec.ofInt 64 (a : Int)).toNat = a := by
  rw [BitVec.ofInt_natCast, BitVec.toNat_ofNat]; exact Nat.mod_eq_of_lt (by omega)
theorem i64_and_nat (a b : Nat) (ha : a < 9223372036854775808) (hb : b < 9223372036854775808) : bits .and .i64 (a : Int) (b : Int) = ((a &&& b : Nat) : Int) := by
  have hx : a &&& b < 2 ^ 63 := Nat.and_lt_two_pow _ (by omega)
  show IntKind.i64.wrap ((BitVec.ofInt 64 (a : Int) &&& BitVec.ofInt 64 (b : Int)).toNat : Int) = _
  rw [BitVec.toNat_and, ofInt_i64N a ha, ofInt_i64N b hb]
  exact IntWalk.i64_in _ (by omega)
theorem low7 (v : Nat) : v &&& 127 = v % 128 := Nat.and_two_pow_sub_one_eq_mod v 7
set_option maxHeartbeats 1000000 in
theorem ones64_any (x : Nat) (hx : x < 18446744073709551616) (w : World) :
    Calls Tryd.prog 49 #[.int .u64 x] w fun e w' => e = .returned (.int .i64 (popW x 64 : Nat)) ∧ w = w' := by
  obtain ⟨a1, ea1⟩ : ∃ a, a = (x / 2) &&& 6148914691236517205 := ⟨_, rfl⟩
  obtain ⟨a2, ea2⟩ : ∃ a, a = x &&& 6148914691236517205 := ⟨_, rfl⟩
  obtain ⟨b1, eb1⟩ : ∃ a, a = ((a1 + a2) / 4) &&& 3689348814741910323 := ⟨_, rfl⟩
  obtain ⟨b2, eb2⟩ : ∃ a, a = (a1 + a2) &&& 3689348814741910323 := ⟨_, rfl⟩
  obtain ⟨z, ez⟩ : ∃ a, a = ((b1 + b2) / 16 + (b1 + b2)) &&& 1085102592571150095 := ⟨_, rfl⟩
  have la1 : a1 ≤ 6148914691236517205 := by rw [ea1]; exact Nat.and_le_right
  have la2 : a2 ≤ 6148914691236517205 := by rw [ea2]; exact Nat.and_le_right
  have lb1 : b1 ≤ 3689348814741910323 := by rw [eb1]; exact Nat.and_le_right
  have lb2 : b2 ≤ 3689348814741910323 := by rw [eb2]; exact Nat.and_le_right
  have lz : z ≤ 1085102592571150095 := by rw [ez]; exact Nat.and_le_right
  have hv := (count_word x hx z (z + z / 256) ((z + z / 256) + (z + z / 256) / 65536) _ (by rw [ez, eb1, eb2, ea1, ea2]; rfl) rfl rfl rfl).1
  have s1 : bits BinOp.and IntKind.u64 ((x : Int) / 2) 6148914691236517205 = (a1 : Int) := by
    have := u64_and_nat (x / 2) 6148914691236517205 (by omega) (by omega)
    rw [← ea1] at this; exact this
  have s2 : bits BinOp.and IntKind.u64 (x : Int) 6148914691236517205 = (a2 : Int) := by
    have := u64_and_nat x 6148914691236517205 hx (by omega)
    rw [← ea2] at this; exact this
  have s3 : bits BinOp.and IntKind.u64 (((a1 : Int) + (a2 : Int)) / 4) 3689348814741910323 = (b1 : Int) := by
    have := u64_and_nat ((a1 + a2) / 4) 3689348814741910323 (by omega) (by omega)
    rw [← eb1] at this; exact this
  have s4 : bits BinOp.and IntKind.u64 ((a1 : Int) + (a2 : Int)) 3689348814741910323 = (b2 : Int) := by
    have := u64_and_nat (a1 + a2) 3689348814741910323 (by omega) (by omega)
    rw [← eb2] at this; exact this
  have s5 : bits BinOp.and IntKind.u64 (((b1 : Int) + (b2 : Int)) / 16 + ((b1 : Int) + (b2 : Int))) 1085102592571150095 = (z : Int) := by
    have := u64_and_nat ((b1 + b2) / 16 + (b1 + b2)) 1085102592571150095 (by omega) (by omega)
    rw [← ez] at this; exact this
  have s6 : bits BinOp.and IntKind.i64 (((z : Int) + (z : Int) / 256) + ((z : Int) + (z : Int) / 256) / 65536 + (((z : Int) + (z : Int) / 256) + ((z : Int) + (z : Int) / 256) / 65536) / 4294967296) 127 = ((popW x 64 : Nat) : Int) := by
    have := i64_and_nat (((z + z / 256) + (z + z / 256) / 65536) + ((z + z / 256) + (z + z / 256) / 65536) / 4294967296) 127 (by omega) (by omega)
    rw [low7, hv] at this; exact this
  clear hv ea1 ea2 eb1 eb2 ez
  go_enter Tryd.func49, Tryd.ntmps49
  go_wp2
  go_ret
  exact ⟨rfl, rfl⟩
end
section
/- bitrow.Count, bitrow.Get. -/
set_option linter.unusedVariables false
set_option linter.unusedSimpArgs false
open Go.RowKit
theorem plcN_word (us : List Nat) (j : Nat) : (plcN us (64 * (j + 1))).length = (plcN us (64 * j)).length + popW (us.getD j 0) 64 := by
  unfold plcN popW
  rw [show 64 * (j + 1) = 64 * j + 64 by omega, List.range_add, List.filter_append, List.length_append, List.filter_map, List.length_map]
  congr 2
  apply List.filter_congr
  intro p hp
  have hp : p < 64 := by simpa using hp
  show (bitAt us (64 * j + p) == 1) = _
  rw [Bool.eq_iff_iff, beq_iff_eq, bitAt_bit us j p hp]
theorem count_no (N : Int) (A : Option Addr) (len c : Nat) (us : List Nat) (w : World) (hr : rightB N us = false) (hW : Words w A len us) :
    Calls Tryd.prog 32 #[.agg #[.int .i64 N, .slice A len c]] w fun e w' => e = .returned (.tuple #[.int .i64 0, .int .i64 1]) ∧ Below w.heap.size w w' := by
  have Q := Lib.hid (Box.new w 27 #[.int .i64 N, .slice A len c])
  have HB := Lib.hid (show Below w.heap.size w (w.alloc (.cells #[.int .i64 N, .slice A len c] 27)) from (Below.refl _ _).alloc (Nat.le_refl _) _)
  have HR := Lib.hid (right_any N A len c us _ (hW.alloc (.cells #[.int .i64 N, .slice A len c] 27)))
  rw [hr] at HR
  obtain ⟨r0, r1, -, -⟩ := Q.out.two
  clear hW hr
  go_enter Tryd.func32, Tryd.ntmps32
  go_wp2_with fail
  refine HR.out.mono ?_
  rintro e w1 ⟨rfl, hb⟩
  have B := Lib.hid (chain HB.out hb)
  clear hb
  go_wp2
  go_ret2
  exact ⟨rfl, B.out⟩
set_option maxHeartbeats 1000000 in
theorem count_yes (N : Int) (A : Option Addr) (len c : Nat) (us : List Nat) (w : World) (hr : rightB N us = true) (hW : Words w A len us) :
    Calls Tryd.prog 32 #[.agg #[.int .i64 N, .slice A len c]] w fun e w' => e = .returned (.tuple #[.int .i64 ((plcN us (64 * len)).length : Nat), .int .i64 0]) ∧ Below w.heap.size w w' := by
  have hl8 := rightB_len8 hr hW.1
  have Q := Lib.hid (Box.new w 27 #[.int .i64 N, .slice A len c])
  have HB := Lib.hid (show Below w.heap.size w (w.alloc (.cells #[.int .i64 N, .slice A len c] 27)) from (Below.refl _ _).alloc (Nat.le_refl _) _)
  have HW := Lib.hid (hW.alloc (.cells #[.int .i64 N, .slice A len c] 27))
  have HR := Lib.hid (right_any N A len c us _ HW.out)
  rw [hr] at HR
  obtain ⟨r0, r1, -, -⟩ := Q.out.two
  clear hW hr
  go_enter Tryd.func32, Tryd.ntmps32
  go_wp2_with fail
  refine HR.out.mono ?_
  rintro e w1 ⟨rfl, hb⟩
  have B := Lib.hid (chain HB.out hb)
  have HW := Lib.hid (HW.out.below hb)
  have Q := Lib.hid (Q.out.keep hb)
  clear hb HR HB r0 r1
  obtain ⟨r0, r1, -, -⟩ := Q.out.two
  go_wp2
  clear r0 r1
  go_loop [13, 4, 6] (fun i m _ => ∃ j : Nat, j ≤ len ∧ i = .int .i64 j ∧ m = .int .i64 ((plcN us (64 * j)).length : Nat)) (fun i _ _ => len - (intOf i).toNat)
  case atStart => exact ⟨0, by omega, rfl, rfl⟩
  case round =>
    obtain ⟨j, hj, rfl, rfl⟩ := hrel
    have hm := plcN_len us (64 * j)
    have HN := Lib.hid (plcN_word us j)
    generalize hme : (plcN us (64 * j)).length = m at *
    have HE := Lib.hid hme
    clear hme
    by_cases hlt : j < len
    · obtain ⟨b, off, rfl, hlb, hc⟩ := HW.out.2.2 (by omega)
      have c1 := hc j hlt
      have hx := HW.out.2.1 j
      have hp : popW (us.getD j 0) 64 ≤ 64 := by
        have := List.length_filter_le (us.getD j 0).testBit (List.range 64)
        simpa [popW] using this
      have HC := Lib.hid (ones64_any (us.getD j 0) hx)
      generalize popW (us.getD j 0) 64 = p at *
      generalize us.getD j 0 = x at *
      clear hc
      go_wp2_with fail
      refine (HC.out _).mono ?_
      rintro e w2 ⟨rfl, rfl⟩
      clear HC c1
      go_wp2
      go_round
      case rel => exact ⟨j + 1, by omega, by go_num, by rw [HN.out]; go_num⟩
      case measure => simp [intOf]; omega
    · obtain rfl : j = len := by omega
      go_wp2
      go_ret2
      exact ⟨by rw [HE.out]; rfl, B.out⟩
end
end Go.Proofs.YtdfmogcgangdnaaDoor
