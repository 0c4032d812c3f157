/- Parts: Oc, Tz, Ones, OnesP, OnesQ, Bs1, Bs2, Bs3. -/
import Derived.Test.YtdfmogcgangdnaaDoorZf
import Derived.Deep.RegionHeld3
import Derived.Deep.RegionLawGrows
import Derived.IntWalk
import Derived.Laws.BitsAllLaws
import Derived.LoopIn
import Derived.LoopNIn
import Derived.Maps.AppendAt
import Derived.OwnWalkIn
import Derived.RangeFuncBound
import Derived.RangeFuncBox
import Derived.RangeFuncCalls
import Derived.RangeFuncLeaves
import Derived.RangeFuncNested
import Derived.Shelf.Abstract
import Derived.Shelf.RegionOpen
import Derived.TacticsInMore
namespace Go.Proofs.YtdfmogcgangdnaaDoor
section
/- math/bits.OnesCount64, bitrow.Count. -/
set_option linter.unusedVariables false
set_option linter.unusedSimpArgs false
open Go.RowKit
theorem ofInt_i64N (a : Nat) (ha : a < 9223372036854775808) : (BitVec.ofInt 64 (a : Int)).toNat = a := by
  rw [BitVec.ofInt_natCast, BitVec.toNat_ofNat]; exact Nat.mod_eq_of_lt (by omega)
theorem i64_and_nat (a b : Nat) (ha : a < 9223372036854775808) (hb : b < 9223372036854775808) : bits .and .i64 (a : Int) (b : Int) = ((a &&& b : Nat) : Int) := by
  have hx : a &&& b < 2 ^ 63 := Nat.and_lt_two_pow _ (by omega)
  show IntKind.i64.wrap ((BitVec.ofInt 64 (a : Int) &&& BitVec.ofInt 64 (b : Int)).toNat : Int) = _
  rw [BitVec.toNat_and, ofInt_i64N a ha, ofInt_i64N b hb]
  exact IntWalk.i64_in _ (by omega)
theorem low7 (v : Nat) : v &&& 127 = v % 128 := Nat.and_two_pow_sub_one_eq_mod v 7
set_option maxHeartbeats 1000000 in
theorem ones64_any (x : Nat) (hx : x < 18446744073709551616) (w : World) :
    Calls Tryd.prog 49 #[.int .u64 x] w fun e w' => e = .returned (.int .i64 (popW x 64 : Nat)) ∧ w = w' := by
  obtain ⟨a1, ea1⟩ : ∃ a, a = (x / 2) &&& 6148914691236517205 := ⟨_, rfl⟩
  obtain ⟨a2, ea2⟩ : ∃ a, a = x &&& 6148914691236517205 := ⟨_, rfl⟩
  obtain ⟨b1, eb1⟩ : ∃ a, a = ((a1 + a2) / 4) &&& 3689348814741910323 := ⟨_, rfl⟩
  obtain ⟨b2, eb2⟩ : ∃ a, a = (a1 + a2) &&& 3689348814741910323 := ⟨_, rfl⟩
  obtain ⟨z, ez⟩ : ∃ a, a = ((b1 + b2) / 16 + (b1 + b2)) &&& 1085102592571150095 := ⟨_, rfl⟩
  have la1 : a1 ≤ 6148914691236517205 := by rw [ea1]; exact Nat.and_le_right
  have la2 : a2 ≤ 6148914691236517205 := by rw [ea2]; exact Nat.and_le_right
  have lb1 : b1 ≤ 3689348814741910323 := by rw [eb1]; exact Nat.and_le_right
  have lb2 : b2 ≤ 3689348814741910323 := by rw [eb2]; exact Nat.and_le_right
  have lz : z ≤ 1085102592571150095 := by rw [ez]; exact Nat.and_le_right
  have hv := (count_word x hx z (z + z / 256) ((z + z / 256) + (z + z / 256) / 65536) _ (by rw [ez, eb1, eb2, ea1, ea2]; rfl) rfl rfl rfl).1
  have s1 : bits BinOp.and IntKind.u64 ((x : Int) / 2) 6148914691236517205 = (a1 : Int) := by
    have := u64_and_nat (x / 2) 6148914691236517205 (by omega) (by omega)
    rw [← ea1] at this; exact this
  have s2 : bits BinOp.and IntKind.u64 (x : Int) 6148914691236517205 = (a2 : Int) := by
    have := u64_and_nat x 6148914691236517205 hx (by omega)
    rw [← ea2] at this; exact this
  have s3 : bits BinOp.and IntKind.u64 (((a1 : Int) + (a2 : Int)) / 4) 3689348814741910323 = (b1 : Int) := by
    have := u64_and_nat ((a1 + a2) / 4) 3689348814741910323 (by omega) (by omega)
    rw [← eb1] at this; exact this
  have s4 : bits BinOp.and IntKind.u64 ((a1 : Int) + (a2 : Int)) 3689348814741910323 = (b2 : Int) := by
    have := u64_and_nat (a1 + a2) 3689348814741910323 (by omega) (by omega)
    rw [← eb2] at this; exact this
  have s5 : bits BinOp.and IntKind.u64 (((b1 : Int) + (b2 : Int)) / 16 + ((b1 : Int) + (b2 : Int))) 1085102592571150095 = (z : Int) := by
    have := u64_and_nat ((b1 + b2) / 16 + (b1 + b2)) 1085102592571150095 (by omega) (by omega)
    rw [← ez] at this; exact this
  have s6 : bits BinOp.and IntKind.i64 (((z : Int) + (z : Int) / 256) + ((z : Int) + (z : Int) / 256) / 65536 + (((z : Int) + (z : Int) / 256) + ((z : Int) + (z : Int) / 256) / 65536) / 4294967296) 127 = ((popW x 64 : Nat) : Int) := by
    have := i64_and_nat (((z + z / 256) + (z + z / 256) / 65536) + ((z + z / 256) + (z + z / 256) / 65536) / 4294967296) 127 (by omega) (by omega)
    rw [low7, hv] at this; exact this
  clear hv ea1 ea2 eb1 eb2 ez
  go_enter Tryd.func49, Tryd.ntmps49
  go_wp2
  go_ret
  exact ⟨rfl, rfl⟩
end
section
/- math/bits.TrailingZeros64, where its table lies as the library has it. -/
set_option linter.unusedVariables false
set_option linter.unusedSimpArgs false
open Go.RowKit
/-- The library's table lies in block 0. -/
def TabAt (w : World) (g : Nat) : Prop := g < w.heap.size ∧ ∀ i, i < 64 → w.cell? ⟨g, i, none⟩ = some (.int .u8 (dbTab.getD i 99 : Nat))
theorem TabAt.below {w w' : World} {g : Nat} (h : TabAt w g) (hb : Below w.heap.size w w') : TabAt w' g := ⟨Nat.lt_of_lt_of_le h.1 hb.size, fun i hi => (hb.cell (p := ⟨g, i, none⟩) h.1).trans (h.2 i hi)⟩
theorem TabAt.same {w w' : World} {g : Nat} (h : TabAt w g) (hb : w'.heap[g]? = w.heap[g]?) : TabAt w' g := by
  refine ⟨?_, fun i hi => (World.cell?_of_block (a := ⟨g, i, none⟩) hb).trans (h.2 i hi)⟩
  rcases Nat.lt_or_ge g w'.heap.size with hl | hg
  · exact hl
  · have h1 := h.1
    rw [Array.getElem?_eq_none hg, Array.getElem?_eq_getElem h1] at hb; cases hb
theorem neg_in (x : Nat) (h1 : 0 < x) (hx : x < 18446744073709551616) : IntKind.u64.wrap (-(x : Int)) = ((18446744073709551616 - x : Nat) : Int) := by rw [IntKind.wrap_u64]; omega
theorem prod_in (y : Nat) : IntKind.u64.wrap ((y : Int) * 285870213051353865) / 288230376151711744 = ((y * 285870213051353865 % 18446744073709551616 / 288230376151711744 : Nat) : Int) := by rw [IntKind.wrap_u64]; omega
theorem quo_lt (y : Nat) : y * 285870213051353865 % 18446744073709551616 / 288230376151711744 < 64 := by omega
theorem exp_lt (s m : Nat) (hx : 2 ^ s * (2 * m + 1) < 18446744073709551616) : s < 64 := by
  refine Nat.lt_of_not_le fun h => ?_
  have h1 : 2 ^ 64 ≤ 2 ^ s := Nat.pow_le_pow_right (by omega) h
  have h2 : 2 ^ s * 1 ≤ 2 ^ s * (2 * m + 1) := Nat.mul_le_mul_left _ (by omega)
  omega
theorem tz_val (x s m : Nat) (hx : x < 18446744073709551616) (e : x = 2 ^ s * (2 * m + 1)) :
    ∃ q : Nat, q < 64 ∧ IntKind.u64.wrap (bits BinOp.and IntKind.u64 (x : Int) (IntKind.u64.wrap (-(x : Int))) * 285870213051353865) / 288230376151711744 = (q : Int) ∧ dbTab.getD q 99 = s := by
  have hp : 0 < x := by rw [e]; exact Nat.mul_pos (Nat.two_pow_pos s) (by omega)
  have hl := only_low s m (by rw [← e]; exact hx)
  rw [← e] at hl
  refine ⟨2 ^ s * 285870213051353865 % 18446744073709551616 / 288230376151711744, quo_lt _, ?_, db_at ⟨s, exp_lt s m (by rw [← e]; exact hx)⟩⟩
  rw [neg_in x hp hx, u64_and_nat x (18446744073709551616 - x) hx (by omega), hl, prod_in]
set_option maxHeartbeats 1000000 in
theorem tz_any (x s m : Nat) (hx : x < 18446744073709551616) (e : x = 2 ^ s * (2 * m + 1)) (w : World) (ht : TabAt w 0) :
    Calls Tryd.prog 51 #[.int .u64 x] w fun e w' => e = .returned (.int .i64 (s : Nat)) ∧ w = w' := by
  have hp : 0 < x := by rw [e]; exact Nat.mul_pos (Nat.two_pow_pos s) (by omega)
  obtain ⟨q, hq1, hq2, hq3⟩ := tz_val x s m hx e
  have hs := exp_lt s m (by rw [← e]; exact hx)
  have t : ((x : Int) == 0) = false := by simp; omega
  have hc := ht.2 q hq1
  rw [hq3] at hc
  clear hq3 e ht
  go_enter Tryd.func51, Tryd.ntmps51
  go_wp2
  go_ret
  exact ⟨rfl, rfl⟩
end
section
/- The iterator bitrow.ones: the places of the bits 1, rising. -/
set_option linter.unusedVariables false
set_option linter.unusedSimpArgs false
open Go.RowKit Go.Shelf
attribute [local go_sem] Oper.semAt_some
/-- What the iterator asks of a round: some blocks stay. -/
def KpS (S : Nat → Prop) (W W' : World) : Prop := ∀ b, S b → W'.heap[b]? = W.heap[b]?
theorem KpS.trans {S : Nat → Prop} {A B C : World} (h : KpS S A B) (k : KpS S B C) : KpS S A C := fun b hb => (k b hb).trans (h b hb)
theorem KpS.refl (S : Nat → Prop) (A : World) : KpS S A A := fun _ _ => rfl
/-- How a round of the iterator is left. -/
def RndS (S : Nat → Prop) (J Jx : List Nat → World → Prop) (ys : List Nat) (W : World) (b : Bool) (W' : World) : Prop := (b = true → J ys W' ∧ KpS S W W') ∧ (b = false → Jx ys W')
def RndSE (S : Nat → Prop) (J Jx : List Nat → World → Prop) (ys : List Nat) (W : World) (e : Ending) (W' : World) : Prop := ∃ b : Bool, e = .returned (.bool b) ∧ RndS S J Jx ys W b W'
theorem rndS_of {S : Nat → Prop} {J Jx : List Nat → World → Prop} {ys : List Nat} {W : World} (e : Ending) (W' : World) (h : (e = .returned (.bool true) ∧ J ys W' ∧ KpS S W W') ∨ (e = .returned (.bool false) ∧ Jx ys W')) : RndSE S J Jx ys W e W' := by
  rcases h with ⟨rfl, h1, h2⟩ | ⟨rfl, h1⟩
  · exact ⟨true, rfl, fun _ => ⟨h1, h2⟩, (fun h => by cases h)⟩
  · exact ⟨false, rfl, (fun h => by cases h), fun _ => h1⟩
theorem plcN_prefix (us : List Nat) (a b : Nat) (h : a ≤ b) : plcN us a <+: plcN us b := by
  obtain ⟨d, rfl⟩ := Nat.le.dest h
  unfold plcN
  rw [List.range_add, List.filter_append]
  exact List.prefix_append _ _
theorem plcN_len (us : List Nat) (m : Nat) : (plcN us m).length ≤ m := by
  have := List.length_filter_le (fun p => bitAt us p == 1) (List.range m)
  simpa [plcN] using this
theorem plcN_lt (us : List Nat) (m : Nat) {p : Nat} (h : p ∈ plcN us m) : p < m := by
  have := (List.mem_filter.1 h).1
  simpa using this
set_option maxRecDepth 100000 in
set_option maxHeartbeats 4000000 in
theorem ones1_in (n : Nat) (hn : 1 ≤ n) (l B : Nat) (N : Int) (A : Option Addr) (len c : Nat) (us : List Nat) (hl : len ≤ 100000) (S : Nat → Prop) (hS0 : S 0) (hSB : S B) (hSA : ∀ b off, 0 < len → A = some ⟨b, off, none⟩ → S b) (J Jx : List Nat → World → Prop)
    (hY : ∀ (pre : List Nat) (x : Nat) (W : World), J pre W → pre.length < 64 * len → pre ++ [x] <+: plcN us (64 * len) → YieldAt Fence.wide (n - 1) Tryd.prog l #[.int .i64 (x : Int)] W fun e W' =>
      (e = .returned (.bool true) ∧ J (pre ++ [x]) W' ∧ KpS S W W') ∨ (e = .returned (.bool false) ∧ Jx (pre ++ [x]) W'))
    (W : World) (hB : Box W B 27 #[.int .i64 N, .slice A len c]) (hW : Words W A len us) (hT : TabAt W 0) (h0 : J [] W) :
    CallsIn Fence.wide n Tryd.prog 50 #[.func (.yield l) #[] #[], .pointer (some ⟨B, 0, none⟩)] W fun e W' => (∃ v, e = .returned v) ∧
      ((∃ ys, ys = plcN us (64 * len) ∧ J ys W') ∨ (∃ pre, (pre <+: plcN us (64 * len) ∧ pre ≠ []) ∧ Jx pre W')) := by
  refine callsIn_of_wp Tryd.func50 rfl trivial ?_ rfl
  simp only [Tryd.ntmps50, List.size_toArray, List.length_cons, List.length_nil, Nat.reduceAdd, Nat.reduceSub, Array.replicate_succ, Array.replicate_zero, List.push_toArray, List.append_toArray, List.nil_append, List.cons_append]
  obtain ⟨-, b1, -, -⟩ := hB.two
  have HY := Lib.hid hY
  have HW := Lib.hid hW
  have HT := Lib.hid hT
  have HSA := Lib.hid hSA
  clear hY hW hT hSA hB
  gi_wp2
  gi_loopw [8, 3, 4] (fun i _ _ wr => ∃ j : Nat, j ≤ len ∧ i = .int .i64 j ∧ J (plcN us (64 * j)) wr ∧ Hid (KpS S W wr)) (fun i _ _ _ => len - (intOf i).toNat)
  case atStart => exact ⟨0, Nat.zero_le _, rfl, h0, Lib.hid (KpS.refl _ _)⟩
  case round =>
    obtain ⟨j, hj, rfl, hJs, HK⟩ := hrel
    by_cases hlt : j < len
    · obtain ⟨b, off, rfl, hlb, hc⟩ := HW.out.2.2 (by omega)
      have c1 := (World.cell?_of_block (a := ⟨b, off + j, none⟩) (HK.out b (HSA.out b off (by omega) rfl))).trans (hc j hlt)
      have hx := HW.out.2.1 j
      obtain ⟨wo, rfl⟩ : ∃ wo : World, wo = wr := ⟨_, rfl⟩
      obtain ⟨x, ex⟩ : ∃ x, x = us.getD j 0 := ⟨_, rfl⟩
      have HSt := Lib.hid (hi_step us j)
      have HDn := Lib.hid (hi_done us j)
      rw [← ex] at c1 hx HSt HDn
      have HX := Lib.hid hx
      have hz0 := hiW_zero x
      have HZ0 := Lib.hid hz0
      clear hc b1 hz0 ex
      gi_wp2
      clear c1
      gi_loopw [4] (fun v wi => ∃ t : Nat, t ≤ 64 ∧ v = .int .u64 (hiW x t : Nat) ∧ J (plcN us (64 * j + t)) wi ∧ Hid (KpS S W wi)) (fun v _ => (intOf v).toNat)
      case atStart => exact ⟨0, by omega, by rw [HZ0.out], hJs, HK⟩
      case round =>
        clear hJs HK
        obtain ⟨t, ht, rfl, hJi, HKi⟩ := hrel
        have hh := hiW_lt x t HX.out
        by_cases hz : hiW x t = 0
        · have HD := Lib.hid (HDn.out t ht hz)
          have HJ := Lib.hid hJi
          rw [hz]
          clear hz hh hJi
          gi_wp2
          go_roundw
          case rel => exact ⟨j + 1, by omega, by go_num, by rw [← HD.out]; exact HJ.out, HKi⟩
          case measure => simp [intOf]; omega
        · obtain ⟨s, m, hs1, hs2, he1, he2, hp⟩ := HSt.out t HX.out hz
          have hst := strike_low s m
          rw [← he1, ← he2] at hst
          have HTZ := Lib.hid (tz_any (hiW x t) s m hh he1)
          have HP := Lib.hid hp
          have hlen := plcN_len us (64 * j + t)
          have hpre : plcN us (64 * j + t) ++ [64 * j + s] <+: plcN us (64 * len) := by
            rw [← hp]; exact plcN_prefix us _ _ (by omega)
          have HPre := Lib.hid hpre
          have hy0 := HY.out (plcN us (64 * j + t)) (64 * j + s) wr hJi (by have := hpre.length_le; have := plcN_len us (64 * len); simp at *; omega) hpre
          rw [show (((64 * j + s : Nat)) : Int) = (j : Int) * 64 + (s : Int) by omega] at hy0
          obtain ⟨fn, tmps, assign, body, hy, hR⟩ := hy0
          have htab := HT.out.same (HKi.out 0 hS0)
          have HTab := Lib.hid htab
          have hnx := hiW_lt x (s + 1) HX.out
          have hand : bits BinOp.and IntKind.u64 ((hiW x t : Nat) : Int) (((hiW x t : Nat) : Int) - 1) = ((hiW x (s + 1) : Nat) : Int) := by
            have := u64_and_nat (hiW x t) (hiW x t - 1) hh (by omega)
            rw [hst, show (((hiW x t - 1 : Nat)) : Int) = ((hiW x t : Nat) : Int) - 1 by omega] at this
            exact this
          have hR' := Lib.hid (hR.mono rndS_of)
          have t0 : (((hiW x t : Nat) : Int) != 0) = true := by rw [bne_iff_ne]; omega
          have hp1 : 1 ≤ ((hiW x t : Nat) : Int) := by omega
          have HLT := Lib.hid (show hiW x (s + 1) < hiW x t by rw [he2, he1]; have := Nat.two_pow_pos s; exact Nat.mul_lt_mul_of_pos_left (by omega) this)
          clear hR hst he1 he2 hp hpre htab hJi hz
          generalize hiW x t = h at *
          generalize e2 : hiW x (s + 1) = h2 at *
          have E2 := Lib.hid e2
          clear e2
          gi_wp2
          refine ⟨trivial, (callsIn_wide.2 (HTZ.out _ HTab.out)).mono ?_⟩
          rintro e w' ⟨rfl, rfl⟩
          gi_wp2
          refine RoundIn.mono hR'.out ?_
          rintro e W3 ⟨bv, rfl, hP⟩
          cases bv
          · gi_wp2
            refine bodyPost_ret (results_none rfl _ _ _) rfl ?_
            exact ⟨⟨_, rfl⟩, .inr ⟨_, ⟨HPre.out, by simp⟩, hP.2 rfl⟩⟩
          · gi_wp2
            go_roundw
            case rel => exact ⟨s + 1, by omega, by rw [E2.out], by rw [HP.out]; exact (hP.1 rfl).1, Lib.hid (HKi.out.trans (hP.1 rfl).2)⟩
            case measure => have := HLT.out; simp [intOf]; omega
    · obtain rfl : j = len := by omega
      have hlt' : ¬ (j : Int) < j := by omega
      gi_wp2
      go_end0
      first
        | exact ⟨⟨_, rfl⟩, .inl hJs⟩
        | exact .inl hJs
        | exact ⟨⟨_, rfl⟩, .inl ⟨_, rfl, hJs⟩⟩
end
section
/- bitrow.ones, and bitrow.Places: the places of the bits 1. -/
set_option linter.unusedVariables false
set_option linter.unusedSimpArgs false
open Go.RowKit Go.Shelf
attribute [local go_sem] Oper.semAt_some
theorem ownP_low {w : World} {base base' e size n : Nat} {v : Value} {xs : List Value} (h : w.ownsRow base e size v n xs) (hb : base' ≤ base) : w.ownsRow base' e size v n xs := by
  refine ⟨h.1, ?_⟩
  rcases h.2 with h0 | ⟨g, cap, cur, rfl, h1, h2⟩
  · exact .inl h0
  · exact .inr ⟨g, cap, cur, rfl, Nat.le_trans hb h1, h2⟩
def plcV (x : Nat) : Value := .int .i64 (x : Int)
theorem int_infoP : (Tryd.prog.info? 3).map (fun i => (i.zero, i.size, i.bytes)) = some (some (.int .i64 0), 1, 8) := by kernel_rfl
theorem keepS {W w1 : World} {B n1 : Nat} {S : Nat → Prop} {v v' : Value} {e k : Nat} {xs : List Value} {tmp : Obj} (hrow : W.ownsRow n1 e 1 v k xs) (hgrow : (W.alloc tmp).grownBy w1 v.ownBlock) (hs : n1 ≤ W.heap.size)
    (hS : ∀ b, S b → b < n1 ∧ b ≠ B) : KpS S W (w1.setCell ⟨B, 0, none⟩ v') := by
  intro b hb
  have hbn := hS b hb
  have hne : some b ≠ v.ownBlock := fun e => by have := (hrow.lt b e.symm).1; omega
  rw [heap_setCell_other w1 ⟨B, 0, none⟩ b v' hbn.2, hgrow.block b (by simp; omega) hne, Below.heap_alloc W tmp b (by omega)]
theorem kpS_put {S : Nat → Prop} {w : World} (hS : ∀ b, S b → b < w.heap.size) (W : World) (l : Nat) (o o' : Obj) (hl : w.heap.size ≤ l) (_ : W.heap[l]? = some o) (_ : o.isCells = false) (_ : o.isWalk = false) : KpS S W (W.putObj l o') := by
  intro b hb
  exact World.putObj_heap_other (by have := hS b hb; omega)
theorem TabAt.put2 {w : World} {g : Nat} {t : TypeId} {a b : Value} (h : TabAt w 0) (hb : Box w g t #[a, b]) (hg : g ≠ 0) (u v : Value) : TabAt ((w.setCell ⟨g, 0, none⟩ u).setCell ⟨g, 1, none⟩ v) 0 := by
  refine h.same ?_
  rw [heap_setCell_other _ ⟨g, 1, none⟩ _ v (Ne.symm hg), heap_setCell_other _ ⟨g, 0, none⟩ _ u (Ne.symm hg)]
/-- What ones hands back: an iterator over a box of the row. -/
def OnesOut (N : Int) (A : Option Addr) (len c : Nat) (w : World) (e : Ending) (w' : World) : Prop :=
  ∃ B, e = .returned (.func (.func 50) #[] #[.pointer (some ⟨B, 0, none⟩)]) ∧ Box w' B 27 #[.int .i64 N, .slice A len c] ∧ w.heap.size ≤ B ∧ Below w.heap.size w w'
theorem onesIt_any (N : Int) (A : Option Addr) (len c : Nat) (w : World) : Calls Tryd.prog 33 #[.agg #[.int .i64 N, .slice A len c]] w (OnesOut N A len c w) := by
  go_enter Tryd.func33, Tryd.ntmps33
  go_wp2
  go_ret
  exact ⟨_, rfl, Box.new _ _ _, Nat.le_refl _, (Below.refl _ _).alloc (Nat.le_refl _) _⟩
theorem ones_stops (n : Nat) (hn : 1 ≤ n) (B : Nat) (N : Int) (A : Option Addr) (len c : Nat) (us : List Nat) (hl : len ≤ 100000) (S : Nat → Prop) (hS0 : S 0) (hSB : S B) (hSA : ∀ b off, 0 < len → A = some ⟨b, off, none⟩ → S b) (w : World)
    (hB : Box w B 27 #[.int .i64 N, .slice A len c]) (hW : Words w A len us) (hT : TabAt w 0) :
    SeqStopsK Fence.wide n Tryd.prog 50 #[.pointer (some ⟨B, 0, none⟩)] (fun x : Nat => #[Value.int .i64 (x : Int)]) (KpS S) (fun ys => ys = plcN us (64 * len)) (fun pre => pre <+: plcN us (64 * len) ∧ pre ≠ []) (64 * len) w := fun l J Jx W hw hJ _ hY h0 =>
  ones1_in n hn l B N A len c us hl S hS0 hSB hSA J Jx (fun pre x W hj hlt _ => hY pre x W hj hlt) W (hB.keep hw) (hW.below hw) (hT.below hw) h0
def plcZ (ys : List Nat) : List Int := ys.map fun x : Nat => (x : Int)
theorem plcZ_getD (ys : List Nat) (j : Nat) : (plcZ ys).getD j 0 = (ys.getD j 0 : Nat) := by
  simp only [plcZ, List.getD, List.getElem?_map]
  cases ys[j]? <;> simp
theorem own_plcInts {w : World} {base n : Nat} {A : Option Addr} {c : Nat} {ys : List Nat} (h : w.ownsRow base 3 1 (.slice A n c) n (ys.map plcV)) (hb : ∀ x ∈ ys, x ≤ 1000000) : Ints w A n (plcZ ys) := by
  have e : (plcZ ys).map (Value.int .i64) = ys.map plcV := by simp [plcZ, plcV, Function.comp_def]
  rw [← e] at h
  refine own_ints h fun j => ?_
  rw [plcZ_getD]
  have : ys.getD j 0 ≤ 1000000 := by
    simp only [List.getD]
    cases hx : ys[j]? with
    | none => simp
    | some y => simpa using hb y (List.mem_of_getElem? hx)
  omega
/-- A slice of numbers of its own, and no error, is returned. -/
def PlcOut (ys : List Nat) (w : World) (e : Ending) (w' : World) : Prop := ∃ v, e = .returned (.tuple #[v, .int .i64 0]) ∧ w'.ownsRow w.heap.size 3 1 v ys.length (ys.map plcV) ∧ Below w.heap.size w w'
set_option maxRecDepth 100000 in
set_option maxHeartbeats 2000000 in
theorem plc_in (N : Int) (A : Option Addr) (len c : Nat) (us : List Nat) (w : World) (hr : rightB N us = true) (hW : Words w A len us) (hT : TabAt w 0) : CallsIn Fence.wide 5 Tryd.prog 56 #[.agg #[.int .i64 N, .slice A len c]] w (PlcOut (plcN us (64 * len)) w) := by
  obtain ⟨i0, hi, hz0, hz1, hz2⟩ := info_parts int_infoP
  have hl8 := rightB_len8 hr hW.1
  have HW := Lib.hid (hW.alloc (.cells #[.int .i64 N, .slice A len c] 27))
  have HT := Lib.hid (hT.below ((Below.refl _ _).alloc (Nat.le_refl _) (.cells #[.int .i64 N, .slice A len c] 27)))
  have Q0 := Lib.hid (Box.new w 27 #[.int .i64 N, .slice A len c])
  have HB := Lib.hid (show Below w.heap.size w (w.alloc (.cells #[.int .i64 N, .slice A len c] 27)) from (Below.refl _ _).alloc (Nat.le_refl _) _)
  have hT0 := hT.1
  have HLt := Lib.hid (show ∀ b off, 0 < len → A = some ⟨b, off, none⟩ → b < w.heap.size from fun b off h e => by
    obtain ⟨b', off', e', hlt, _⟩ := hW.2.2 h
    rw [e] at e'; injection e' with e'; injection e' with e1 _; omega)
  have HR := Lib.hid (right_any N A len c us _ HW.out)
  rw [hr] at HR
  clear hW hT
  refine callsIn_of_wp_marks Tryd.func56 rfl trivial ?_ rfl
  simp only [Tryd.ntmps56, List.size_toArray, List.length_cons, List.length_nil, Nat.reduceAdd, Nat.reduceSub, Array.replicate_succ, Array.replicate_zero, List.push_toArray, List.append_toArray, List.nil_append, List.cons_append]
  gi_wp2
  refine ⟨trivial, (callsIn_wide.2 HR.out).mono ?_⟩
  rintro e x1 ⟨rfl, hb⟩
  have Q1 := Lib.hid ((Q0.out.keep hb).alloc (.cells #[.slice none 0 0] 29))
  have HW1 := Lib.hid ((HW.out.below hb).alloc (.cells #[.slice none 0 0] 29))
  have HT1 := Lib.hid ((HT.out.below hb).below ((Below.refl _ _).alloc (Nat.le_refl _) (.cells #[.slice none 0 0] 29)))
  have HB1 := Lib.hid ((chain HB.out hb).alloc (chain HB.out hb).size (.cells #[.slice none 0 0] 29))
  have hs0 : w.heap.size < x1.heap.size := (Q0.out.keep hb).lt
  obtain ⟨r0, r1, -, -⟩ := Q1.out.two
  have hld := run_loadVar_row (P := Tryd.prog) (x1.alloc (.cells #[.slice none 0 0] 29)) w.heap.size 27 27 #[.int .i64 N, .slice A len c] (0, 0) _ Q1.out Tryd.underlying27 rfl (by kernel_rfl)
  clear hb Q0 HW HT HB HR
  gi_wp2
  refine ⟨trivial, (callsIn_wide.2 (onesIt_any N A len c _)).mono ?_⟩
  rintro e w1 ⟨B, rfl, bB, hge, hb⟩
  have bO : Boxed w1 x1.heap.size 29 (.slice none 0 0) := (Box.new x1 29 #[.slice none 0 0]).keep hb
  have hB0 : Below w.heap.size w w1 := chain HB1.out hb
  have hw1 := HW1.out.below hb
  have ht1 := HT1.out.below hb
  have lB := bB.lt
  have lO := bO.lt
  have hsz1 := hB0.size
  simp only [World.size_alloc] at hge
  clear hb r0 r1 hld Q1
  gi_wp2
  have hS : ∀ b, (b < w1.heap.size ∧ b ≠ x1.heap.size) → b < w1.heap.size ∧ b ≠ x1.heap.size := fun b h => h
  refine wpIn_rangeFunc_ownG rfl (by omega) (gf := 50) (lb := #[.pointer (some ⟨B, 0, none⟩)]) rfl trivial (enters_of Tryd.func50 (by kernel_rfl) rfl)
    (ones_stops (5 - 1) (by omega) B N A len c us (by omega) (fun b => b < w1.heap.size ∧ b ≠ x1.heap.size) ⟨by omega, by omega⟩ ⟨lB, by omega⟩ (fun b off h e => by have := HLt.out b off h e; omega) w1 bB hw1 ht1) KpS.trans (kpS_put (fun b h => h.1)) (Below.refl _ _) (fun _ => rfl)
    (fun pre W => (∃ v, Boxed W x1.heap.size 29 v ∧ W.ownsRow w1.heap.size 3 1 v pre.length (pre.map plcV) ∧ True) ∧ Below w.heap.size w W ∧ w1.heap.size ≤ W.heap.size)
    (fun _ _ _ => False)
    (OwnFrom.and (Own.from (holdsRow_own w1.heap.size x1.heap.size 29 3 1 (fun pre : List Nat => pre.length) (fun pre : List Nat => pre.map plcV) (fun _ _ => True)) _) (OwnFrom.and (ownFrom_below (Nat.le_refl _) (by omega)) (fun _ _ _ _ hs hg _ => Nat.le_trans hs hg.size)))
    (fun _ _ _ _ _ hs _ _ => hs)
    ⟨⟨_, bO, World.ownsRow_nil _ _ _ _, trivial⟩, hB0, Nat.le_refl _⟩
    (fun x => { tmps := #[.agg #[.int .i64 N, .slice A len c], .pointer (some ⟨w.heap.size, 0, none⟩), .slice none 0 0, .int .i64 0, .pointer (some ⟨x1.heap.size, 0, none⟩), .int .i64 (x : Int), .agg #[.int .i64 N, .slice A len c], .bool true, .bool false, .agg #[.int .i64 N, .slice A len c], .func (.func 50) #[] #[.pointer (some ⟨B, 0, none⟩)], .int .i64 (x : Int), undef, undef, undef, undef, undef], defers := [] }) ?assign ?body ?done ?stop
  case assign =>
    intro l x W K hK
    gi_wp2
    exact hK
  case body =>
    rintro l pre x W ⟨⟨v, hv, hrow, _⟩, hB, hsz⟩ hlt
    have hc := hv.cell
    have hlo : x1.heap.size < w1.heap.size := lO
    gi_wp2_with (gi_at_builtin; refine wpListIn_append_own _ rfl _ _ 29 rfl w1.heap.size 3 i0 (.int .i64 0) 1 8 Tryd.underlying29 hi hz0 hz1 hz2 rfl (by decide) _ _ _ rfl (hrow.alloc _) ⟨W.heap.size, 0, none⟩ 1 1 [.int .i64 (x : Int)] rfl rfl (cell_one_new _ _ _) (by simp [Value.oneCell']) (by simp [maxLen]; omega) (by omega) (by simp; omega) ?_; intro v' w2 hown' hgrow _; obtain ⟨g', cap', rfl⟩ := ownsRow_succ hown'; obtain ⟨hv1, hv2, hr2, hk2, hb2⟩ := hv.appended (by decide) (ownP_low hrow (by omega)) hB.size (by omega) (ownP_low hown' (by omega)) hgrow; have hr3 := hown'.kept (grownBy_setCell' w2 x1.heap.size (.slice (some ⟨g', 0, none⟩) (pre.length + 1) cap')) (.inr (hv1.not_row (by decide) hown').symm); have hkp := keepS (B := x1.heap.size) (v' := .slice (some ⟨g', 0, none⟩) (pre.length + 1) cap') hrow hgrow hsz hS; have hc1 := hv1.cell; have hf1 := hv1.frozen)
    exact ⟨hk2.from _, hkp, ⟨_, hv2, by simpa [plcV] using hr3, trivial⟩, hB.trans hb2, Nat.le_trans hsz hk2.size⟩
  case done =>
    rintro D ys W hD rfl ⟨⟨v, hv, hrow, _⟩, hB, hsz⟩ hK
    have hc := hv.cell
    gi_wp2
    refine ⟨by simp, .inl ⟨_, _, rfl, run_takeDeferred hK, ?_⟩⟩
    exact ⟨_, results_tmp2 rfl _ _ _, v, rfl, ownP_low (ownsRow_putObj hrow _ hK rfl) (by omega), hB.trans (belowK_b (w := w) (Nat.le_refl _) W D _ _ (by omega) hK rfl rfl)⟩
  case stop =>
    rintro D c pre W _ _ h _
    exact h.elim
theorem plc_yes (N : Int) (A : Option Addr) (len c : Nat) (us : List Nat) (w : World) (hr : rightB N us = true) (hW : Words w A len us) (hT : TabAt w 0) : Calls Tryd.prog 56 #[.agg #[.int .i64 N, .slice A len c]] w (PlcOut (plcN us (64 * len)) w) := callsIn_wide.1 (plc_in N A len c us w hr hW hT)
end
section
/- bitrow.Count, bitrow.Get. -/
set_option linter.unusedVariables false
set_option linter.unusedSimpArgs false
open Go.RowKit
theorem plcN_word (us : List Nat) (j : Nat) : (plcN us (64 * (j + 1))).length = (plcN us (64 * j)).length + popW (us.getD j 0) 64 := by
  unfold plcN popW
  rw [show 64 * (j + 1) = 64 * j + 64 by omega, List.range_add, List.filter_append, List.length_append, List.filter_map, List.length_map]
  congr 2
  apply List.filter_congr
  intro p hp
  have hp : p < 64 := by simpa using hp
  show (bitAt us (64 * j + p) == 1) = _
  rw [Bool.eq_iff_iff, beq_iff_eq, bitAt_bit us j p hp]
theorem count_no (N : Int) (A : Option Addr) (len c : Nat) (us : List Nat) (w : World) (hr : rightB N us = false) (hW : Words w A len us) :
    Calls Tryd.prog 32 #[.agg #[.int .i64 N, .slice A len c]] w fun e w' => e = .returned (.tuple #[.int .i64 0, .int .i64 1]) ∧ Below w.heap.size w w' := by
  have Q := Lib.hid (Box.new w 27 #[.int .i64 N, .slice A len c])
  have HB := Lib.hid (show Below w.heap.size w (w.alloc (.cells #[.int .i64 N, .slice A len c] 27)) from (Below.refl _ _).alloc (Nat.le_refl _) _)
  have HR := Lib.hid (right_any N A len c us _ (hW.alloc (.cells #[.int .i64 N, .slice A len c] 27)))
  rw [hr] at HR
  obtain ⟨r0, r1, -, -⟩ := Q.out.two
  clear hW hr
  go_enter Tryd.func32, Tryd.ntmps32
  go_wp2_with fail
  refine HR.out.mono ?_
  rintro e w1 ⟨rfl, hb⟩
  have B := Lib.hid (chain HB.out hb)
  clear hb
  go_wp2
  go_ret2
  exact ⟨rfl, B.out⟩
set_option maxHeartbeats 1000000 in
theorem count_yes (N : Int) (A : Option Addr) (len c : Nat) (us : List Nat) (w : World) (hr : rightB N us = true) (hW : Words w A len us) :
    Calls Tryd.prog 32 #[.agg #[.int .i64 N, .slice A len c]] w fun e w' => e = .returned (.tuple #[.int .i64 ((plcN us (64 * len)).length : Nat), .int .i64 0]) ∧ Below w.heap.size w w' := by
  have hl8 := rightB_len8 hr hW.1
  have Q := Lib.hid (Box.new w 27 #[.int .i64 N, .slice A len c])
  have HB := Lib.hid (show Below w.heap.size w (w.alloc (.cells #[.int .i64 N, .slice A len c] 27)) from (Below.refl _ _).alloc (Nat.le_refl _) _)
  have HW := Lib.hid (hW.alloc (.cells #[.int .i64 N, .slice A len c] 27))
  have HR := Lib.hid (right_any N A len c us _ HW.out)
  rw [hr] at HR
  obtain ⟨r0, r1, -, -⟩ := Q.out.two
  clear hW hr
  go_enter Tryd.func32, Tryd.ntmps32
  go_wp2_with fail
  refine HR.out.mono ?_
  rintro e w1 ⟨rfl, hb⟩
  have B := Lib.hid (chain HB.out hb)
  have HW := Lib.hid (HW.out.below hb)
  have Q := Lib.hid (Q.out.keep hb)
  clear hb HR HB r0 r1
  obtain ⟨r0, r1, -, -⟩ := Q.out.two
  go_wp2
  clear r0 r1
  go_loop [13, 4, 6] (fun i m _ => ∃ j : Nat, j ≤ len ∧ i = .int .i64 j ∧ m = .int .i64 ((plcN us (64 * j)).length : Nat)) (fun i _ _ => len - (intOf i).toNat)
  case atStart => exact ⟨0, by omega, rfl, rfl⟩
  case round =>
    obtain ⟨j, hj, rfl, rfl⟩ := hrel
    have hm := plcN_len us (64 * j)
    have HN := Lib.hid (plcN_word us j)
    generalize hme : (plcN us (64 * j)).length = m at *
    have HE := Lib.hid hme
    clear hme
    by_cases hlt : j < len
    · obtain ⟨b, off, rfl, hlb, hc⟩ := HW.out.2.2 (by omega)
      have c1 := hc j hlt
      have hx := HW.out.2.1 j
      have hp : popW (us.getD j 0) 64 ≤ 64 := by
        have := List.length_filter_le (us.getD j 0).testBit (List.range 64)
        simpa [popW] using this
      have HC := Lib.hid (ones64_any (us.getD j 0) hx)
      generalize popW (us.getD j 0) 64 = p at *
      generalize us.getD j 0 = x at *
      clear hc
      go_wp2_with fail
      refine (HC.out _).mono ?_
      rintro e w2 ⟨rfl, rfl⟩
      clear HC c1
      go_wp2
      go_round
      case rel => exact ⟨j + 1, by omega, by go_num, by rw [HN.out]; go_num⟩
      case measure => simp [intOf]; omega
    · obtain rfl : j = len := by omega
      go_wp2
      go_ret2
      exact ⟨by rw [HE.out]; rfl, B.out⟩
end
section
/- backsub: pair.has, pair.isAlone, pair.plus. -/
set_option linter.unusedVariables false
set_option linter.unusedSimpArgs false
open Go.RowKit
set_option maxRecDepth 100000
theorem pairHas_any (N x : Nat) (hN : N ≤ 512) (hx : x < 2 ^ N) (A : Option Addr) (l c p : Nat) (s : ByteArray) (hp : p < N) (w : World) (hw : Words w A l (rowOf N x)) :
    Calls Tryd.prog 59 #[.agg #[.int .i64 N, .slice A l c, .string s], .int .i64 (p : Int)] w fun e w' => e = .returned (.bool (x.testBit p)) ∧ Below w.heap.size w w' := by
  have hW : Below w.heap.size w (w.alloc (.cells #[.int .i64 N, .slice A l c, .string s] 84)) := (Below.refl _ _).alloc (Nat.le_refl _) _
  have Q := Box.new w 84 #[.int .i64 (N : Int), .slice A l c, .string s]
  have HG := Lib.hid (get_yes N p A l c (rowOf N x) _ (rowOf_right N x hN hx) hp (hw.below hW))
  rw [rowOf_bitN N x p hp] at HG
  have HW := Lib.hid hW
  obtain ⟨q0, q1, q2, -, -, -⟩ := Q.three
  clear hw hW Q
  cases hb : x.testBit p with
  | true =>
    rw [hb] at HG
    clear hb
    go_enter Tryd.func59, Tryd.ntmps59
    go_wp2_with fail
    refine HG.out.mono ?_
    rintro e w1 ⟨rfl, hb⟩
    have B := Lib.hid (chainN HW.out HW.out.size hb)
    clear hb
    go_wp2_with fail
    go_ret
    exact ⟨by simp, B.out⟩
  | false =>
    rw [hb] at HG
    clear hb
    go_enter Tryd.func59, Tryd.ntmps59
    go_wp2_with fail
    refine HG.out.mono ?_
    rintro e w1 ⟨rfl, hb⟩
    have B := Lib.hid (chainN HW.out HW.out.size hb)
    clear hb
    go_wp2_with fail
    go_ret
    exact ⟨by simp, B.out⟩
theorem Box.put3 {w : World} {g : Nat} {t : TypeId} {a b d u v x : Value} (h : Box w g t #[a, b, d]) : Box (((w.setCell ⟨g, 0, none⟩ u).setCell ⟨g, 1, none⟩ v).setCell ⟨g, 2, none⟩ x) g t #[u, v, x] := ((h.put 0 u).put 1 v).put 2 x
/-- How many places a number has. -/
def popN (N x : Nat) : Nat := (plcN (rowOf N x) (64 * (rowOf N x).length)).length
theorem isAlone_any (N x : Nat) (hN : N ≤ 512) (hx : x < 2 ^ N) (A : Option Addr) (l c : Nat) (s : ByteArray) (w : World) (hw : Words w A l (rowOf N x)) :
    Calls Tryd.prog 39 #[.agg #[.int .i64 N, .slice A l c, .string s]] w fun e w' => e = .returned (.bool (decide (popN N x = 1))) ∧ Below w.heap.size w w' := by
  have hl := hw.1
  have hW : Below w.heap.size w (w.alloc (.cells #[.int .i64 N, .slice A l c, .string s] 84)) := (Below.refl _ _).alloc (Nat.le_refl _) _
  have Q := Box.new w 84 #[.int .i64 (N : Int), .slice A l c, .string s]
  have HG := Lib.hid (count_yes N A l c (rowOf N x) _ (rowOf_right N x hN hx) (hw.below hW))
  have HW := Lib.hid hW
  obtain ⟨m, hm⟩ : ∃ m, m = popN N x := ⟨_, rfl⟩
  have hm2 : (plcN (rowOf N x) (64 * l)).length = m := by rw [hm, popN, hl]
  rw [hm2] at HG
  rw [← hm]
  obtain ⟨q0, q1, q2, -, -, -⟩ := Q.three
  clear hw hW Q hm hm2 hl
  by_cases h1 : m = 1
  · subst h1
    go_enter Tryd.func39, Tryd.ntmps39
    go_wp2_with fail
    refine HG.out.mono ?_
    rintro e w1 ⟨rfl, hb⟩
    have B := Lib.hid (chainN HW.out HW.out.size hb)
    clear hb
    go_wp2_with fail
    go_ret
    exact ⟨by simp, B.out⟩
  · have t : ((m : Int) == 1) = false := by simp; omega
    have t2 : decide (m = 1) = false := by simpa using h1
    rw [t2]
    go_enter Tryd.func39, Tryd.ntmps39
    go_wp2_with fail
    refine HG.out.mono ?_
    rintro e w1 ⟨rfl, hb⟩
    have B := Lib.hid (chainN HW.out HW.out.size hb)
    clear hb
    go_wp2_with fail
    go_ret
    exact ⟨by simp, B.out⟩
/-- Two pairs in one. -/
def PlusOut (N : Nat) (p : PV) (w : World) (e : Ending) (w' : World) : Prop :=
  ∃ A l c, e = .returned (.agg #[.int .i64 (N : Int), .slice A l c, .string p.2]) ∧ OwnW w' A l c (rowOf N p.1) ∧ Below w.heap.size w w'
theorem plus_any (N n : Nat) (hN : N ≤ 512) (hn : n ≤ 64) (p q : PV) (hp : GoodP N n p) (hq : GoodP N n q) (A B : Option Addr) (l c k d : Nat) (w : World) (hu : Words w A l (rowOf N p.1)) (hv : Words w B k (rowOf N q.1)) :
    Calls Tryd.prog 60 #[.agg #[.int .i64 N, .slice A l c, .string p.2], .agg #[.int .i64 N, .slice B k d, .string q.2]] w (PlusOut N (plusP p q) w) := by
  have b1 : Below w.heap.size w (((w.alloc (.cells #[.int .i64 N, .slice A l c, .string p.2] 84)).alloc (.cells #[.int .i64 N, .slice B k d, .string q.2] 84)).alloc (.cells #[.int .i64 0, .slice none 0 0, .string ⟨#[]⟩] 84)) := (((Below.refl _ _).alloc (Nat.le_refl _) _).alloc (by simp) _).alloc (by simp; omega) _
  have Q0 := ((Box.new w 84 #[.int .i64 (N : Int), .slice A l c, .string p.2]).alloc (.cells #[.int .i64 N, .slice B k d, .string q.2] 84)).alloc (.cells #[.int .i64 0, .slice none 0 0, .string ⟨#[]⟩] 84)
  have Q1 := (Box.new (w.alloc (.cells #[.int .i64 (N : Int), .slice A l c, .string p.2] 84)) 84 #[.int .i64 (N : Int), .slice B k d, .string q.2]).alloc (.cells #[.int .i64 0, .slice none 0 0, .string ⟨#[]⟩] 84)
  have Q2 := Box.new ((w.alloc (.cells #[.int .i64 (N : Int), .slice A l c, .string p.2] 84)).alloc (.cells #[.int .i64 N, .slice B k d, .string q.2] 84)) 84 #[.int .i64 0, .slice none 0 0, .string ⟨#[]⟩]
  simp only [World.size_alloc] at Q1 Q2
  have HQ0 := Lib.hid Q0
  have HQ1 := Lib.hid Q1
  have HQ2 := Lib.hid Q2
  have HB := Lib.hid b1
  have HX := Lib.hid (xor_num N p.1 q.1 hN hp.1 hq.1 A B l c k d _ (hu.below b1) (hv.below b1))
  have HS := Lib.hid (fun W => bxor_any p.2 q.2 (by rw [hp.2]; unfold maxLen; omega) (by rw [hq.2]; unfold maxLen; omega) W)
  have HE := Lib.hid (plus_sum hp.2 hq.2 hn)
  obtain ⟨a0, a1, a2, -, -, -⟩ := HQ0.out.three
  obtain ⟨c0, c1, c2, -, -, -⟩ := HQ1.out.three
  clear b1 Q0 Q1 Q2 hu hv
  go_enter Tryd.func60, Tryd.ntmps60
  go_wp2_with fail
  refine HX.out.mono ?_
  rintro e w1 ⟨A3, l3, c3, rfl, ow, hb⟩
  have HB1 := Lib.hid (chainN HB.out HB.out.size hb)
  have R0 := Lib.hid (HQ0.out.keep hb)
  have R1 := Lib.hid (HQ1.out.keep hb)
  have R2 := Lib.hid (HQ2.out.keep hb)
  have OW := Lib.hid ow
  clear hb ow HX HQ0 HQ1 HQ2 HB a0 a1 a2 c0 c1 c2
  obtain ⟨a0, a1, a2, -, -, -⟩ := R0.out.three
  obtain ⟨c0, c1, c2, -, -, -⟩ := R1.out.three
  have al : Below w1.heap.size w1 (w1.alloc (.cells #[.int .i64 (N : Int), .slice A3 l3 c3] 27)) := (Below.refl _ _).alloc (Nat.le_refl _) _
  have T := Lib.hid (Box.new w1 27 #[.int .i64 (N : Int), .slice A3 l3 c3])
  have AL1 := Lib.hid al
  obtain ⟨a0', a1', a2', -, -, -⟩ := (R0.out.keep al).three
  obtain ⟨c0', c1', c2', -, -, -⟩ := (R1.out.keep al).three
  clear al
  go_wp2_with fail
  refine (HS.out _).mono ?_
  rintro e w2 ⟨rfl, hb⟩
  have HB2 := Lib.hid (chainN HB1.out HB1.out.size (chainN AL1.out AL1.out.size hb))
  have T2 := Lib.hid (T.out.keep hb)
  have S2 := Lib.hid ((R2.out.keep AL1.out).keep hb)
  have OW2 := Lib.hid ((OW.out.below AL1.out).below hb)
  rw [HE.out]
  clear hb HS a0 a1 a2 c0 c1 c2 a0' a1' a2' c0' c1' c2' R0 R1 R2 T AL1 OW HB1 HE
  obtain ⟨t0, t1, -, -⟩ := T2.out.two
  obtain ⟨s0, s1, s2, f0, f1, f2⟩ := S2.out.three
  go_wp2_with fail
  refine close_one Tryd.results60 rfl rfl S2.out.put3 Tryd.underlying84 rfl (by kernel_rfl) ⟨A3, l3, c3, rfl, ?_, ?_⟩
  · exact (((OW2.out.far S2.out (by decide) _ _).far (S2.out.put _ _) (by decide) _ _).far ((S2.out.put _ _).put _ _) (by decide) _ _)
  · exact ((HB2.out.setCell (p := ⟨w.heap.size + 1 + 1, 0, none⟩) (by simp; omega) _).setCell (p := ⟨w.heap.size + 1 + 1, 1, none⟩) (by simp; omega) _).setCell (p := ⟨w.heap.size + 1 + 1, 2, none⟩) (by simp; omega) _
end
section
/- backsub: chosen. -/
set_option linter.unusedVariables false
set_option linter.unusedSimpArgs false
open Go.RowKit
set_option maxRecDepth 100000
theorem add_zero0 (g j : Nat) : (⟨g, 0, none⟩ : Addr).add j = ⟨g, j, none⟩ := by by_cases h : j = 0 <;> simp [Addr.add, h]
theorem add_off (g m j : Nat) : (⟨g, m, none⟩ : Addr).add j = ⟨g, m + j, none⟩ := by by_cases h : j = 0 <;> simp [Addr.add, h]
theorem CellsRow.olds {w : World} {base n g c : Nat} {t : TypeId} {xs : List Value} (h : CellsRow w base t (.slice (some ⟨g, 0, none⟩) n c) n xs) (hn : 0 < n) (m : Nat) : ∀ b, some (⟨g, 0, none⟩ : Addr) = some b → ∀ j u, (xs.take m)[j]? = some u → w.cell? (b.add j) = some u := by
  intro b hb j u hu
  injection hb with hb
  subst hb
  rw [add_zero0]
  obtain ⟨hl, -⟩ := List.getElem?_eq_some_iff.1 hu
  rw [List.length_take] at hl
  rw [List.getElem?_take_of_lt (by omega)] at hu
  exact (h.cell hn j u hu).1
theorem CellsRow.news {w : World} {base n g c : Nat} {t : TypeId} {xs : List Value} (h : CellsRow w base t (.slice (some ⟨g, 0, none⟩) n c) n xs) (hn : 0 < n) (m : Nat) : ∀ j u, (xs.drop m)[j]? = some u → w.cell? ((⟨g, m, none⟩ : Addr).add j) = some u := by
  intro j u hu
  rw [add_off]
  rw [List.getElem?_drop] at hu
  exact (h.cell hn _ u hu).1
theorem CellsRow.low {w : World} {base b2 n : Nat} {t : TypeId} {v : Value} {xs : List Value} (h : CellsRow w base t v n xs) (hb : b2 ≤ base) : CellsRow w b2 t v n xs := by
  obtain ⟨A, c, h1, h2, h3, h4⟩ := h
  exact ⟨A, c, h1, h2, h3, fun hn => by obtain ⟨g, cur, a, b, d, e⟩ := h4 hn; exact ⟨g, cur, a, Nat.le_trans hb b, d, e⟩⟩
theorem Box.quad {w : World} {g : Nat} {t : TypeId} {a b d e : Value} (h : Box w g t #[a, b, d, e]) : w.cell? ⟨g, 0, none⟩ = some a ∧ w.cell? ⟨g, 1, none⟩ = some b ∧ w.cell? ⟨g, 2, none⟩ = some d ∧ w.cell? ⟨g, 3, none⟩ = some e ∧ w.frozen? ⟨g, 0, none⟩ = false ∧ w.frozen? ⟨g, 1, none⟩ = false ∧ w.frozen? ⟨g, 2, none⟩ = false ∧ w.frozen? ⟨g, 3, none⟩ = false :=
  ⟨h.cell 0, h.cell 1, h.cell 2, h.cell 3, h.free 0, h.free 1, h.free 2, h.free 3⟩
theorem gn_box {w w1 : World} {b : Nat} {t : TypeId} {cs : Array Value} (h : Box w b t cs) (k : w.grownBy w1 none) : Box w1 b t cs := (k.block b h.lt (by intro e; cases e)).trans h
theorem gn_below {w w1 : World} (k : w.grownBy w1 none) : Below w.heap.size w w1 := ⟨k.os, k.tape, k.output, k.size, fun b hb => k.block b hb (by intro e; cases e)⟩
theorem gd_below {w w1 : World} (k : w.drew.grownBy w1 none) : Below w.heap.size w w1 := ⟨k.os, k.tape, k.output, k.size, fun b hb => k.block b hb (by intro e; cases e)⟩
theorem prC_one : ∀ (rs : List RowV) (L : List PV), ∀ u ∈ prC rs L, u.oneCell' = true
  | [], _, u, h => by simp [prC] at h
  | r :: rs, [], u, h => by simp [prC] at h
  | r :: rs, p :: L, u, h => by
    simp only [prC, List.mem_cons] at h
    rcases h with rfl | rfl | rfl | h
    · rfl
    · rfl
    · rfl
    · exact prC_one rs L u h
/-- A row stored into a box of an owner. -/
def ownW (W : World) (b N : Nat) (A : Option Addr) (l d : Nat) (s : ByteArray) (c : Nat) : World := (((W.setCell ⟨b, 0, none⟩ (.int .i64 (N : Int))).setCell ⟨b, 1, none⟩ (.slice A l d)).setCell ⟨b, 2, none⟩ (.string s)).setCell ⟨b, 3, none⟩ (.int .i64 (c : Int))
section
variable {W : World} {b N : Nat} {A : Option Addr} {l d : Nat} {s : ByteArray} {c : Nat} {x1 x2 x3 x4 : Value}
theorem ownW_box (h : Box W b 86 #[x1, x2, x3, x4]) : Box (ownW W b N A l d s c) b 86 #[.int .i64 (N : Int), .slice A l d, .string s, .int .i64 (c : Int)] := (((h.put 0 _).put 1 _).put 2 _).put 3 _
theorem ownW_row (h : Box W b 86 #[x1, x2, x3, x4]) {w0 : World} {n : Nat} {r : RowV} {x : Nat} (q : RowQ w0 W n r x) : RowQ w0 (ownW W b N A l d s c) n r x := (((q.far h (by decide) _ _).far (h.put _ _) (by decide) _ _).far ((h.put _ _).put _ _) (by decide) _ _).far (((h.put _ _).put _ _).put _ _) (by decide) _ _
theorem ownW_cells (h : Box W b 86 #[x1, x2, x3, x4]) {base n : Nat} {v : Value} {xs : List Value} (q : CellsRow W base 84 v n xs) : CellsRow (ownW W b N A l d s c) base 84 v n xs := (((q.far h (by decide) _ _).far (h.put _ _) (by decide) _ _).far ((h.put _ _).put _ _) (by decide) _ _).far (((h.put _ _).put _ _).put _ _) (by decide) _ _
theorem PairsQ.owned {N' : Nat} (h : Box W b 86 #[x1, x2, x3, x4]) {w0 : World} {base n : Nat} {v : Value} {L : List PV} (q : PairsQ w0 W base v n L) : PairsQ w0 (ownW W b N' A l d s c) base v n L := by
  obtain ⟨rs, h1, h2, h3⟩ := q
  exact ⟨rs, h1, ownW_cells h h2, fun j hj => ownW_row h (h3 j hj)⟩
theorem ownW_below {B : Nat} {w : World} (h : Below B w W) (hb : B ≤ b) : Below B w (ownW W b N A l d s c) := (((h.setCell (p := ⟨b, 0, none⟩) hb _).setCell (p := ⟨b, 1, none⟩) hb _).setCell (p := ⟨b, 2, none⟩) hb _).setCell (p := ⟨b, 3, none⟩) hb _
theorem ownW_size : (ownW W b N A l d s c).heap.size = W.heap.size := by simp [ownW, World.setCell]
end
/-- The pairs but one, in a row. -/
theorem PairsQ.erased {w0 w w1 : World} {b2 : Nat} {v1 : Value} {N : Nat} {L : List PV} {rs : List RowV} (h1 : rs.length = L.length) (h3 : ∀ j, j < L.length → RowQ w0 w N (rs.getD j (0, none, 0, 0)) (L.getD j pv0).1) (i m : Nat) (hi : i < L.length) (hm : m = L.length - 1)
    (ho : CellsRow w1 b2 84 v1 m (prC (rs.take i) (L.take i) ++ prC (rs.drop (i + 1)) (L.drop (i + 1)))) (hq : ∀ r x, RowQ w0 w N r x → RowQ w0 w1 N r x) : PairsQ w0 w1 b2 v1 N (L.eraseIdx i) := by
  have hl : (L.eraseIdx i).length = m := by rw [List.length_eraseIdx, if_pos hi, hm]
  rw [← prC_app _ _ (by simp [h1])] at ho
  have e1 : L.take i ++ L.drop (i + 1) = L.eraseIdx i := (List.eraseIdx_eq_take_drop_succ L i).symm
  have e2 : rs.take i ++ rs.drop (i + 1) = rs.eraseIdx i := (List.eraseIdx_eq_take_drop_succ rs i).symm
  rw [e1, e2] at ho
  refine ⟨rs.eraseIdx i, by rw [List.length_eraseIdx, List.length_eraseIdx, h1], by rw [hl]; exact ho, fun j hj => ?_⟩
  rw [hl] at hj
  have g1 : (L.eraseIdx i).getD j pv0 = if j < i then L.getD j pv0 else L.getD (j + 1) pv0 := by
    simp only [List.getD, List.getElem?_eraseIdx]; split <;> rfl
  have g2 : (rs.eraseIdx i).getD j (0, none, 0, 0) = if j < i then rs.getD j (0, none, 0, 0) else rs.getD (j + 1) (0, none, 0, 0) := by
    simp only [List.getD, List.getElem?_eraseIdx]; split <;> rfl
  rw [g1, g2]
  split
  · exact hq _ _ (h3 j (by omega))
  · exact hq _ _ (h3 (j + 1) (by omega))
/-- The pairs but the last, in the same block. -/
theorem PairsQ.short {w0 w : World} {base g c : Nat} {N : Nat} {L : List PV} (h : PairsQ w0 w base (.slice (some ⟨g, 0, none⟩) L.length c) N L) (i : Nat) (hi : i + 1 = L.length) (hc : i ≤ c) : PairsQ w0 w base (.slice (some ⟨g, 0, none⟩) i i) N (L.eraseIdx i) := by
  obtain ⟨rs, h1, h2, h3⟩ := h
  have e1 : L.eraseIdx i = L.take i := by rw [List.eraseIdx_eq_take_drop_succ, List.drop_of_length_le (by omega), List.append_nil]
  have hl : (L.eraseIdx i).length = i := by rw [e1, List.length_take]; omega
  refine ⟨rs.take i, by rw [hl, List.length_take]; omega, ?_, fun j hj => ?_⟩
  · have := h2.take rfl i (by omega) i (Nat.le_refl _) hc (i * 3)
    rw [prC_take rs L h1 i] at this
    rw [hl, e1]; exact this
  · rw [hl] at hj
    have g1 : (L.eraseIdx i).getD j pv0 = L.getD j pv0 := by rw [e1]; simp [List.getD, List.getElem?_take, hj]
    have g2 : (rs.take i).getD j (0, none, 0, 0) = rs.getD j (0, none, 0, 0) := by simp [List.getD, List.getElem?_take, hj]
    rw [g1, g2]; exact h3 j (by omega)
theorem pair_info : (Tryd.prog.info? 84).map (fun i => (i.zero, i.size, i.bytes)) = some (some (.agg #[.int .i64 0, .slice none 0 0, .string ⟨#[]⟩]), 3, 48) := by kernel_rfl
/-- The first pair that has a column, and the rest. -/
def ChosenOut (w0 : World) (base N : Nat) (L : List PV) (c : Nat) (w : World) (e : Ending) (w' : World) : Prop :=
  ∃ (i : Nat) (A : Option Addr) (l d : Nat) (v : Value), i < L.length ∧ (L.getD i pv0).1.testBit c = true ∧ e = .returned (.tuple #[.agg #[.int .i64 (N : Int), .slice A l d, .string (L.getD i pv0).2, .int .i64 (c : Int)], v]) ∧
    RowQ w0 w' N ((N : Int), A, l, d) (L.getD i pv0).1 ∧ PairsQ w0 w' base v N (L.eraseIdx i) ∧ Below w.heap.size w w'
set_option maxHeartbeats 4000000 in
theorem chosen_any (N n : Nat) (hN : N ≤ 512) (L : List PV) (hL : ∀ p ∈ L, GoodP N n p) (hlen : L.length ≤ 64) (c : Nat) (hc : c < N) (hex : ∃ i, i < L.length ∧ (L.getD i pv0).1.testBit c = true) (w0 : World) (base : Nat) (v : Value) (w : World) (hw0 : w0.heap.size ≤ w.heap.size) (hb0 : Below w0.heap.size w0 w) (hbase : base ≤ w.heap.size) (hr : PairsQ w0 w base v N L) :
    Calls Tryd.prog 57 #[v, .int .i64 (c : Int)] w (ChosenOut w0 base N L c w) := by
  obtain ⟨i0, hinf, hz0, hz1, hz2⟩ := info_parts pair_info
  have hpos : 0 < L.length := by obtain ⟨i, h1, -⟩ := hex; omega
  obtain ⟨g, cap, rfl, hgb, hgw, hcap, hcm⟩ := hr.form hpos
  unfold maxLen at hcm
  have b1 : Below w.heap.size w (w.alloc (.cells #[.int .i64 0, .slice none 0 0, .string ⟨#[]⟩, .int .i64 0] 86)) := (Below.refl _ _).alloc (Nat.le_refl _) _
  have Q := Lib.hid (Box.new w 86 #[.int .i64 0, .slice none 0 0, .string ⟨#[]⟩, .int .i64 0])
  have HR := Lib.hid (hr.keep b1)
  have HB := Lib.hid b1
  have HEX := Lib.hid hex
  have HL := Lib.hid hL
  have HB0 := Lib.hid hb0
  clear hr b1 hex hL hb0
  go_enter Tryd.func57, Tryd.ntmps57
  go_wp2_with fail
  go_loopw [10] (fun t wr => ∃ i : Nat, i ≤ L.length ∧ t = .int .i64 (i : Int) ∧ Hid (∀ j, j < i → (L.getD j pv0).1.testBit c = false) ∧ Hid (Below (w.heap.size + 1) (w.alloc (.cells #[.int .i64 0, .slice none 0 0, .string ⟨#[]⟩, .int .i64 0] 86)) wr)) (fun t _ => L.length - (intOf t).toNat)
  case atStart => exact ⟨0, Nat.zero_le _, rfl, Lib.hid (fun j h => by omega), Lib.hid (Below.refl _ _)⟩
  case round =>
    obtain ⟨i, hi, rfl, HF, HBr⟩ := hrel
    have HB2 := Lib.hid (show Below w.heap.size w wr from HB.out.trans (HBr.out.mono (by omega)))
    have HQ := Lib.hid (Q.out.below HBr.out (by omega))
    have HRw := Lib.hid (HR.out.keep (w' := wr) (HBr.out.mono (by simp)))
    by_cases hlt : i < L.length
    · have hlt' : (i : Int) < (L.length : Int) := by omega
      obtain ⟨A, l, d, x0, x1, x2, rq, -, -, -⟩ := HRw.out.at i hlt
      have gp := HL.out _ (getD_memP hlt)
      obtain ⟨f, hf⟩ : ∃ f, f = L.getD i pv0 := ⟨_, rfl⟩
      rw [← hf] at x2 rq gp
      have GP := Lib.hid gp
      have HFI := Lib.hid hf
      clear hf gp
      have al : Below wr.heap.size wr (wr.alloc (.cells #[.int .i64 (N : Int), .slice A l d, .string f.2] 84)) := (Below.refl _ _).alloc (Nat.le_refl _) _
      have RB := Lib.hid (Box.new wr 84 #[.int .i64 (N : Int), .slice A l d, .string f.2])
      have AL1 := Lib.hid al
      have RQ := Lib.hid (rq.below al)
      have HW := Lib.hid (RQ.out.words (Nat.le_refl _) (chainN (chainN HB0.out hw0 HB2.out) (Nat.le_trans hw0 HB2.out.size) al))
      have HH := Lib.hid (pairHas_any N f.1 hN GP.out.1 A l d c f.2 hc _ HW.out)
      obtain ⟨r0, r1, r2, -, -, -⟩ := RB.out.three
      have hgs : g < wr.heap.size := Nat.lt_of_lt_of_le hgw HB2.out.size
      have hws : w.heap.size < wr.heap.size := HQ.out.lt
      clear al rq HW
      cases hbit : f.1.testBit c with
      | false =>
        rw [hbit] at HH
        have HBt := Lib.hid hbit
        clear hbit
        go_wp2_with fail
        refine HH.out.mono ?_
        rintro e w1 ⟨rfl, hb⟩
        have HB3 := Lib.hid (HBr.out.trans ((chain AL1.out hb).mono (by omega)))
        clear hb
        go_wp2_with fail
        go_roundw
        case rel => exact ⟨i + 1, by omega, by go_num, Lib.hid (fun j k1 => by
          by_cases e : j = i
          · subst e; rw [← HFI.out]; exact HBt.out
          · exact HF.out j (by omega)), HB3⟩
        case measure => simp [intOf]; omega
      | true =>
        rw [hbit] at HH
        have HBt := Lib.hid hbit
        clear hbit
        go_wp2_with fail
        refine HH.out.mono ?_
        rintro e w1 ⟨rfl, hb⟩
        have HB3 := Lib.hid (HB2.out.trans ((chain AL1.out hb).mono HB2.out.size))
        have Q3 := Lib.hid ((HQ.out.keep AL1.out).keep hb)
        have R3 := Lib.hid (RB.out.keep hb)
        have RQ3 := Lib.hid (RQ.out.below hb)
        have HR3 := Lib.hid ((HRw.out.keep AL1.out).keep hb)
        clear hb r0 r1 r2 x0 x1 x2 HH HQ RB RQ HRw HF HBr AL1 HEX
        obtain ⟨r0, r1, r2, -, -, -⟩ := R3.out.three
        by_cases hend : i + 1 = L.length
        · have HE := Lib.hid hend
          obtain ⟨rs, k1, k2, k3⟩ := HR3.out
          have K1 := Lib.hid k1
          have K2 := Lib.hid k2
          clear k1 k2 k3
          have i0' : IntKind.i64.wrap ((i : Int) + 1) = (L.length : Int) := by rw [show (i : Int) + 1 = (L.length : Int) by omega]; exact IntWalk.i64_in _ (by omega)
          have i2 : (i : Int) ≤ (cap : Int) := by omega
          have i5 : i ≤ cap := by omega
          clear hend
          have C0 := Lib.hid (show CellsRow w1.drew base 84 (.slice (some ⟨g, 0, none⟩) L.length cap) L.length (prC rs L) from K2.out)
          obtain ⟨z0, z1, z2, z3, zf0, zf1, zf2, zf3⟩ := Q3.out.quad
          have F := Lib.hid (PairsQ.owned (N' := N) (A := A) (l := l) (d := d) (s := f.2) (c := c) (show Box w1.drew w.heap.size 86 _ from Q3.out) (HR3.out.short i HE.out i5))
          have G := Lib.hid (ownW_row (N := N) (A := A) (l := l) (d := d) (s := f.2) (c := c) Q3.out.drew RQ3.out)
          have D := Lib.hid (ownW_below (N := N) (A := A) (l := l) (d := d) (s := f.2) (c := c) HB3.out.drew (Nat.le_refl _))
          have BX := Lib.hid (ownW_box (N := N) (A := A) (l := l) (d := d) (s := f.2) (c := c) Q3.out.drew)
          by_cases hck : cap = L.length
          · clear HR3 K1 K2
            go_wp2_with fail
            go_region_law (first
              | (refine step_append_room rfl (.tmp 24) (.tmp 28) 79 rfl 84 i0 3 Tryd.underlying79 hinf hz1 g 0 i i (by simp [Act.eval, Act.put]) ⟨g, 0, none⟩ 0 (0) [] (by simp [Act.eval, Act.put]) rfl (by intro j u h; cases h) (by intro u h; cases h) (by omega) (by intro j h; cases h) ?_; simp only [World.setCells, Nat.add_zero]))
            all_goals
              go_wp2_with fail
              refine close_cell Tryd.results57 rfl rfl rfl BX.out Tryd.underlying86 rfl (by kernel_rfl) ⟨i, A, l, d, .slice (some ⟨g, 0, none⟩) i i, hlt, ?_⟩
              rw [← HFI.out]
              exact ⟨HBt.out, rfl, G.out, F.out, D.out⟩
          · clear HR3 K1 K2
            go_wp2_with fail
            go_region_law (first
              | (refine step_append_room rfl (.tmp 24) (.tmp 28) 79 rfl 84 i0 3 Tryd.underlying79 hinf hz1 g 0 i i (by simp [Act.eval, Act.put]) ⟨g, L.length * 3, none⟩ 0 (cap - L.length) [] (by simp [Act.eval, Act.put]) rfl (by intro j u h; cases h) (by intro u h; cases h) (by omega) (by intro j h; cases h) ?_; simp only [World.setCells, Nat.add_zero]))
            all_goals
              go_wp2_with fail
              refine close_cell Tryd.results57 rfl rfl rfl BX.out Tryd.underlying86 rfl (by kernel_rfl) ⟨i, A, l, d, .slice (some ⟨g, 0, none⟩) i i, hlt, ?_⟩
              rw [← HFI.out]
              exact ⟨HBt.out, rfl, G.out, F.out, D.out⟩
        · obtain ⟨rs, k1, k2, k3⟩ := HR3.out
          have K1 := Lib.hid k1
          have K2 := Lib.hid k2
          have K3 := Lib.hid k3
          clear k1 k2 k3
          obtain ⟨k, hk⟩ : ∃ k : Nat, k = i + 1 := ⟨_, rfl⟩
          have HKi := Lib.hid hk
          have i0' : IntKind.i64.wrap ((i : Int) + 1) = (k : Int) := by rw [show (i : Int) + 1 = (k : Int) by omega]; exact IntWalk.i64_in _ (by omega)
          have i1 : (k : Int) ≤ (L.length : Int) := by omega
          have i3 : ¬ cap = k := by omega
          have i4 : k < L.length := by omega
          have HF2 := Lib.hid (show i + (L.length - k) = L.length - 1 by omega)
          clear hk
          have i2 : (i : Int) ≤ (cap : Int) := by omega
          go_wp2_with fail
          have C0 := Lib.hid (show CellsRow w1.drew base 84 (.slice (some ⟨g, 0, none⟩) L.length cap) L.length (prC rs L) from K2.out)
          obtain ⟨z0, z1, z2, z3, zf0, zf1, zf2, zf3⟩ := Q3.out.quad
          go_region_law (first
            | (refine step_append_grows rfl (.tmp 24) (.tmp 28) 79 rfl 84 i0 (.agg #[.int .i64 0, .slice none 0 0, .string ⟨#[]⟩]) 3 48 Tryd.underlying79 hinf hz0 hz1 hz2 rfl (by decide) (some ⟨g, 0, none⟩) i i ((prC rs L).take (i * 3)) (by simp [Act.eval, Act.put]) (by intro h; cases h) (by rw [List.length_take, prC_len rs L K1.out]; omega) (C0.out.olds hpos _) ⟨g, k * 3, none⟩ (L.length - k) (cap - k) ((prC rs L).drop (k * 3)) (by simp [Act.eval, Act.put]) (by rw [List.length_drop, prC_len rs L K1.out]; omega) (C0.out.news hpos _) (fun u hu => prC_one rs L u (List.mem_of_mem_drop hu)) (by omega) (by unfold maxLen; omega) (by omega) ?_; intro v1 y1 hown hgrow; have HO := Lib.hid hown; have HG := Lib.hid hgrow; have QY := Lib.hid (gn_box Q3.out.drew hgrow); have RY := Lib.hid (gn_box R3.out.drew hgrow); clear hown hgrow; obtain ⟨s0', s1', s2', -, -, -⟩ := RY.out.three; obtain ⟨y0', y1', y2', y3', yf0, yf1, yf2, yf3⟩ := QY.out.quad))
          all_goals
            have ho := HO.out
            rw [HF2.out, prC_take rs L K1.out, HKi.out, prC_drop rs L K1.out] at ho
            have F := Lib.hid (PairsQ.erased (b2 := base) K1.out K3.out i (L.length - 1) hlt rfl (ownW_cells (N := N) (A := A) (l := l) (d := d) (s := f.2) (c := c) QY.out ((CellsRow.of ho).low (Nat.le_trans hbase HB3.out.size))) (fun r x q => ownW_row QY.out (q.below (gd_below HG.out))))
            have G := Lib.hid (ownW_row (N := N) (A := A) (l := l) (d := d) (s := f.2) (c := c) QY.out (RQ3.out.below (gd_below HG.out)))
            have D := Lib.hid (ownW_below (N := N) (A := A) (l := l) (d := d) (s := f.2) (c := c) (chainN HB3.out HB3.out.size (gd_below HG.out)) (Nat.le_refl _))
            have BX := Lib.hid (ownW_box (N := N) (A := A) (l := l) (d := d) (s := f.2) (c := c) QY.out)
            clear ho HO HG QY RY C0 K1 K2 K3 HR3 RQ3
            go_wp2_with fail
            refine close_cell Tryd.results57 rfl rfl rfl BX.out Tryd.underlying86 rfl (by kernel_rfl) ⟨i, A, l, d, v1, hlt, ?_⟩
            rw [← HFI.out]
            exact ⟨HBt.out, rfl, G.out, F.out, D.out⟩
    · obtain rfl : i = L.length := by omega
      obtain ⟨j, h1, h2⟩ := HEX.out
      rw [HF.out j h1] at h2
      cases h2
end
section
/- backsub: owner.clear. -/
set_option linter.unusedVariables false
set_option linter.unusedSimpArgs false
open Go.RowKit
set_option maxRecDepth 100000
theorem gr_trans {w w1 w2 : World} {r : Option Nat} (h : w.grownBy w1 r) (k : w1.grownBy w2 r) : w.grownBy w2 r :=
  ⟨k.os.trans h.os, k.tape.trans h.tape, k.output.trans h.output, Nat.le_trans h.size k.size, fun b hb hne => (k.block b (Nat.lt_of_lt_of_le hb h.size) hne).trans (h.block b hb hne)⟩
theorem gr_set (w : World) (g i : Nat) (u : Value) {r : Option Nat} (h : r = some g) : w.grownBy (w.setCell ⟨g, i, none⟩ u) r := by subst h; exact gk_set w g i u
/-- What lies below is kept. -/
theorem gr_low {w0 w w1 : World} {B : Nat} {r : Option Nat} (hb : Below B w0 w) (hB : B ≤ w.heap.size) (h : w.grownBy w1 r) (hr : ∀ g, r = some g → B ≤ g) : Below B w0 w1 :=
  hb.trans ⟨h.os, h.tape, h.output, h.size, fun b hb => h.block b (Nat.lt_of_lt_of_le hb hB) (fun e => by have := hr b e.symm; omega)⟩
theorem PairsQ.block {w0 w : World} {base g c m : Nat} {N : Nat} {L : List PV} (h : PairsQ w0 w base (.slice (some ⟨g, 0, none⟩) m c) N L) (hn : 0 < L.length) : ∃ cur, Box w g 84 cur := by
  obtain ⟨rs, h1, h2, h3⟩ := h
  obtain ⟨g', c', hv, -, -, -, cur, hb⟩ := h2.form hn
  injection hv with hv
  injection hv with hv
  injection hv with hv
  subst hv
  exact ⟨cur, hb⟩
theorem box_ne {w : World} {g b : Nat} {t u : TypeId} {cs ds : Array Value} (h : Box w g t cs) (k : Box w b u ds) (hne : t ≠ u) : g ≠ b := fun e => by
  subst e
  unfold Box at h k
  rw [h] at k
  injection k with k
  injection k with _ k
  exact hne k
section
variable {w0 W : World} {g i N : Nat} {A : Option Addr} {l d : Nat} {s : ByteArray} {cur : Array Value}
theorem prW_row (h : Box W g 84 cur) {n : Nat} {r : RowV} {x : Nat} (q : RowQ w0 W n r x) : RowQ w0 (((W.setCell ⟨g, i * 3, none⟩ (.int .i64 (N : Int))).setCell ⟨g, i * 3 + 1, none⟩ (.slice A l d)).setCell ⟨g, i * 3 + 2, none⟩ (.string s)) n r x := ((q.far h (by decide) _ _).far (h.put _ _) (by decide) _ _).far ((h.put _ _).put _ _) (by decide) _ _
theorem prW_box {b : Nat} {t : TypeId} {cs : Array Value} (q : Box W b t cs) (hne : b ≠ g) : Box (((W.setCell ⟨g, i * 3, none⟩ (.int .i64 (N : Int))).setCell ⟨g, i * 3 + 1, none⟩ (.slice A l d)).setCell ⟨g, i * 3 + 2, none⟩ (.string s)) b t cs := ((q.far (p := ⟨g, i * 3, none⟩) hne _).far (p := ⟨g, i * 3 + 1, none⟩) hne _).far (p := ⟨g, i * 3 + 2, none⟩) hne _
end
/-- A pair stored anew. -/
def prW (W : World) (g i N : Nat) (A : Option Addr) (l d : Nat) (s : ByteArray) : World := ((W.setCell ⟨g, i * 3, none⟩ (.int .i64 (N : Int))).setCell ⟨g, i * 3 + 1, none⟩ (.slice A l d)).setCell ⟨g, i * 3 + 2, none⟩ (.string s)
theorem prW_grown (W : World) (g i N : Nat) (A : Option Addr) (l d : Nat) (s : ByteArray) {r : Option Nat} (h : r = some g) : W.grownBy (prW W g i N A l d s) r := gr_trans (gr_trans (gr_set _ _ _ _ h) (gr_set _ _ _ _ h)) (gr_set _ _ _ _ h)
/-- What clear leaves. -/
def ClrOut (w0 : World) (base N : Nat) (v : Value) (L : List PV) (w : World) (r : Option Nat) (e : Ending) (w' : World) : Prop :=
  (∃ u, e = .returned u) ∧ PairsQ w0 w' base v N L ∧ w.grownBy w' r
set_option maxHeartbeats 4000000 in
theorem pclear_any (N n : Nat) (hN : N ≤ 512) (hn : n ≤ 64) (f : PV) (hf : GoodP N n f) (L : List PV) (hL : ∀ p ∈ L, GoodP N n p) (hlen : L.length ≤ 64) (c : Nat) (hc : c < N) (w0 : World) (base : Nat) (v : Value) (w : World) (hw0 : w0.heap.size ≤ w.heap.size) (hb0 : Below w0.heap.size w0 w) (hbase : w0.heap.size ≤ base)
    (A : Option Addr) (l d : Nat) (hq : RowQ w0 w N ((N : Int), A, l, d) f.1) (hr : PairsQ w0 w base v N L) (r : Option Nat) (hrr : ∀ g c, 0 < L.length → v = .slice (some ⟨g, 0, none⟩) L.length c → r = some g) (hrl : ∀ g, r = some g → w0.heap.size ≤ g) :
    Calls Tryd.prog 58 #[.agg #[.int .i64 (N : Int), .slice A l d, .string f.2, .int .i64 (c : Int)], v] w (ClrOut w0 base N v (clrP c f L) w r) := by
  have b1 : Below w.heap.size w (w.alloc (.cells #[.int .i64 (N : Int), .slice A l d, .string f.2, .int .i64 (c : Int)] 86)) := (Below.refl _ _).alloc (Nat.le_refl _) _
  have Q := Lib.hid (Box.new w 86 #[.int .i64 (N : Int), .slice A l d, .string f.2, .int .i64 (c : Int)])
  have HR := Lib.hid (hr.keep b1)
  have HQ := Lib.hid (hq.below b1)
  have HB := Lib.hid b1
  have HL := Lib.hid hL
  have HF := Lib.hid hf
  have HB0 := Lib.hid hb0
  have HRR := Lib.hid hrr
  have HRL := Lib.hid hrl
  obtain ⟨A0, cap, rfl, hcap, hcm⟩ := hr.form0
  unfold maxLen at hcm
  clear hr b1 hL hb0 hq hf hrr hrl
  go_enter Tryd.func58, Tryd.ntmps58
  go_wp2_with fail
  go_loopw [8] (fun t wr => ∃ i : Nat, i ≤ L.length ∧ t = .int .i64 (i : Int) ∧ Hid (Box wr w.heap.size 86 #[.int .i64 (N : Int), .slice A l d, .string f.2, .int .i64 (c : Int)]) ∧ Hid (RowQ w0 wr N ((N : Int), A, l, d) f.1) ∧ Hid (PairsQ w0 wr base (.slice A0 L.length cap) N (clrU c f L i)) ∧ Hid (w.grownBy wr r)) (fun t _ => L.length - (intOf t).toNat)
  case atStart => exact ⟨0, Nat.zero_le _, rfl, Q, HQ, Lib.hid (by rw [clrU_zero]; exact HR.out), Lib.hid (gk_below HB.out)⟩
  case round =>
    obtain ⟨i, hi, rfl, QB, RQ, PQ, HG⟩ := hrel
    have HCL := Lib.hid (clrU_len c f L i hi)
    have hws : w.heap.size < wr.heap.size := QB.out.lt
    by_cases hlt : i < L.length
    · have hlt' : (i : Int) < (L.length : Int) := by omega
      have pq := PQ.out
      obtain ⟨g, cap', hv, hgb, hgw, -, -⟩ := pq.form (by rw [HCL.out]; omega)
      injection hv with hv hc1 hcc
      subst hv
      clear hc1 hcc
      have HRg := Lib.hid (HRR.out g cap (by omega) rfl)
      rw [show L.length = (clrU c f L i).length from HCL.out.symm] at pq
      obtain ⟨A1, l1, d1, x0, x1, x2, rq, -, -, -⟩ := pq.at i (by rw [HCL.out]; exact hlt)
      have gp := clrU_good HF.out HL.out i _ (getD_memP (L := clrU c f L i) (i := i) (by rw [HCL.out]; exact hlt))
      rw [clrU_here c f L i hlt] at x2 rq gp
      obtain ⟨p, hp⟩ : ∃ p, p = L.getD i pv0 := ⟨_, rfl⟩
      rw [← hp] at x2 rq gp
      have GP := Lib.hid gp
      have HPI := Lib.hid hp
      have HBz := Lib.hid (gr_low HB0.out hw0 HG.out HRL.out)
      clear hp gp pq
      have al : Below wr.heap.size wr (wr.alloc (.cells #[.int .i64 (N : Int), .slice A1 l1 d1, .string p.2] 84)) := (Below.refl _ _).alloc (Nat.le_refl _) _
      have RB := Lib.hid (Box.new wr 84 #[.int .i64 (N : Int), .slice A1 l1 d1, .string p.2])
      have AL1 := Lib.hid al
      have RP := Lib.hid (rq.below al)
      have HW := Lib.hid (RP.out.words (Nat.le_refl _) (chainN HBz.out (by omega) al))
      have HH := Lib.hid (pairHas_any N p.1 hN GP.out.1 A1 l1 d1 c p.2 hc _ HW.out)
      obtain ⟨r0, r1, r2, -, -, -⟩ := RB.out.three
      obtain ⟨q0, q1, q2, q3, -, -, -, -⟩ := (QB.out.keep al).quad
      clear al rq HW
      cases hbit : p.1.testBit c with
      | false =>
        rw [hbit] at HH
        have HNo := Lib.hid (clrU_no c f L i hlt (by rw [← HPI.out]; exact hbit))
        clear hbit
        go_wp2_with fail
        refine HH.out.mono ?_
        rintro e w1 ⟨rfl, hb⟩
        have HC := Lib.hid (chain AL1.out hb)
        clear hb
        go_wp2_with fail
        go_roundw
        case rel => exact ⟨i + 1, by omega, by go_num, Lib.hid (QB.out.keep HC.out), Lib.hid (RQ.out.below HC.out), Lib.hid (by rw [HNo.out]; exact PQ.out.keep HC.out), Lib.hid (gr_trans HG.out (gk_below HC.out))⟩
        case measure => simp [intOf]; omega
      | true =>
        rw [hbit] at HH
        have HYes := Lib.hid (clrU_yes c f L i hlt (by rw [← HPI.out]; exact hbit))
        clear hbit
        go_wp2_with fail
        refine HH.out.mono ?_
        rintro e w1 ⟨rfl, hb⟩
        have HC := Lib.hid (chain AL1.out hb)
        have QB1 := Lib.hid (QB.out.keep HC.out)
        have RQ1 := Lib.hid (RQ.out.below HC.out)
        have PQ1 := Lib.hid (PQ.out.keep HC.out)
        have HG1 := Lib.hid (gr_trans HG.out (gk_below HC.out))
        have R1 := Lib.hid (RB.out.keep hb)
        have RP1 := Lib.hid (RP.out.below hb)
        have HBz1 := Lib.hid (chainN HBz.out (by omega) HC.out)
        clear hb QB RQ PQ HG RB RP HBz AL1 r0 r1 r2 q0 q1 q2 q3 x0 x1 x2 HH
        obtain ⟨r0, r1, r2, -, -, -⟩ := R1.out.three
        obtain ⟨q0, q1, q2, q3, -, -, -, -⟩ := QB1.out.quad
        have HX := Lib.hid (plus_any N n hN hn p f GP.out HF.out A1 A l1 d1 l d w1 (RP1.out.words (Nat.le_refl _) HBz1.out) (RQ1.out.words (Nat.le_refl _) HBz1.out))
        go_wp2_with fail
        refine HX.out.mono ?_
        rintro e w2 ⟨A3, l3, d3, rfl, ow, hb⟩
        have HC2 := Lib.hid (chainN HC.out HC.out.size hb)
        have QB2 := Lib.hid (QB1.out.keep hb)
        have RQ2 := Lib.hid (RQ1.out.below hb)
        have pq2 := PQ1.out.keep hb
        have HG2 := Lib.hid (gr_trans HG1.out (gk_below hb))
        have OW := Lib.hid (show RowQ w0 w2 N ((N : Int), A3, l3, d3) (plusP p f).1 from ⟨rfl, ow.ok, .inr ow⟩)
        rw [show L.length = (clrU c f L i).length from HCL.out.symm] at pq2
        have PQ2 := Lib.hid pq2
        obtain ⟨A5, l5, d5, z0, z1, z2, -, zf0, zf1, zf2⟩ := pq2.at i (by rw [HCL.out]; exact hlt)
        have hgw2 : g < w2.heap.size := Nat.lt_of_lt_of_le hgw HC2.out.size
        obtain ⟨cur, hcur⟩ := pq2.block (by rw [HCL.out]; omega)
        have HCur := Lib.hid hcur
        have n1 : ¬ w.heap.size = g := box_ne QB2.out hcur (by decide)
        clear hcur
        clear hb ow QB1 RQ1 PQ1 HG1 R1 RP1 HBz1 HX r0 r1 r2 q0 q1 q2 q3 pq2
        go_wp2_with fail
        go_roundw
        case rel =>
          have hput := PQ2.out.put i (by rw [HCL.out]; exact hlt) (plusP p f) OW.out
          rw [HPI.out, ← HYes.out, HCL.out] at hput
          rw [← HPI.out] at hput
          exact ⟨i + 1, by omega, by go_num, Lib.hid (prW_box QB2.out n1), Lib.hid (prW_row HCur.out RQ2.out), Lib.hid hput, Lib.hid (gr_trans HG2.out (prW_grown w2 g i N A3 l3 d3 (plusP p f).2 HRg.out))⟩
        case measure => simp [intOf]; omega
    · obtain rfl : i = L.length := by omega
      have hlt' : ¬ (L.length : Int) < (L.length : Int) := by omega
      have pq := PQ.out
      rw [clrU_all] at pq
      go_wp2_with fail
      go_end0
      exact ⟨⟨_, rfl⟩, pq, HG.out⟩
end
end Go.Proofs.YtdfmogcgangdnaaDoor
