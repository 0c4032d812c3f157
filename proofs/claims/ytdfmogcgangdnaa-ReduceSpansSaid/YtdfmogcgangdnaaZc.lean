/- Parts: Ref1, From, RefXor, RdT, Getr, OpenV, Mat1. -/
import Derived.Test.YtdfmogcgangdnaaZb
import Derived.Deep.AppendLies
import Derived.Deep.RegionHeld3
import Derived.Deep.RegionWith
import Derived.Deep.SlicePairs
import Derived.Lib.SmallJoins
import Derived.Maps.AppendAt
import Derived.OpenShut
import Derived.ProofKit
import Derived.Test.YtdfmogcgangdnaaRows
namespace Go.Proofs.Ytdfmogcgangdnaa
section
/- Contracts of the reference's words, Bit and Right. -/
set_option linter.unusedVariables false
set_option linter.unusedSimpArgs false
open Go.RowKit
theorem refWords_any (n : Nat) (h : n ≤ 1000000) (w : World) : Calls Try.prog 40 #[.int .i64 n] w fun e w' => e = .returned (.int .i64 (nw n)) ∧ w = w' := by
  go_enter Try.func40, Try.ntmps40
  go_wp2
  go_ret
  exact ⟨congrArg (fun z => Ending.returned (.int .i64 z)) (by unfold nw; omega), rfl⟩
def bitAt (us : List Nat) (i : Nat) : Nat := us.getD (i / 64) 0 / 2 ^ (i % 64) % 2
theorem bit_any (n : Int) (A : Option Addr) (l c i : Nat) (us : List Nat) (w : World) (hu : Words w A l us) (hi : i < 64 * l) (hl : l ≤ 1000000) :
    Calls Try.prog 41 #[.agg #[.int .i64 n, .slice A l c], .int .i64 i] w fun e w' => e = .returned (.int .i64 (bitAt us i : Nat)) ∧ Below w.heap.size w w' := by
  obtain ⟨b, o, rfl, hlt, hc⟩ := hu.2.2 (by omega)
  have c1 := hc (i / 64) (by omega)
  have hx := hu.2.1 (i / 64)
  have HV : Hid ((((us.getD (i / 64) 0 : Nat) : Int) / 2 ^ (i % 64)) % 2 = ((bitAt us i : Nat) : Int)) := by
    show _ = _
    unfold bitAt
    have e : ((us.getD (i / 64) 0 : Nat) : Int) / 2 ^ (i % 64) = ((us.getD (i / 64) 0 / 2 ^ (i % 64) : Nat) : Int) := by simp [Int.natCast_ediv]
    rw [e]; omega
  generalize us.getD (i / 64) 0 = x at *
  have hle : (x : Int) / 2 ^ (i % 64) ≤ x := by
    have e : (x : Int) / 2 ^ (i % 64) = ((x / 2 ^ (i % 64) : Nat) : Int) := by simp [Int.natCast_ediv]
    rw [e]
    have := Nat.div_le_self x (2 ^ (i % 64))
    omega
  have hge : 0 ≤ (x : Int) / 2 ^ (i % 64) := by
    have e : (x : Int) / 2 ^ (i % 64) = ((x / 2 ^ (i % 64) : Nat) : Int) := by simp [Int.natCast_ediv]
    rw [e]; exact Int.natCast_nonneg _
  clear hc hu
  go_enter Try.func41, Try.ntmps41
  go_wp2
  go_ret
  exact ⟨congrArg (fun z => Ending.returned (.int .i64 z)) HV.out, (Below.refl _ _).alloc (Nat.le_refl _) _⟩
theorem rightB_core (n l : Nat) (us : List Nat) (h : lmb n = true) (hl : us.length = l) (hn : l = nw n) : rightB n us = (n % 64 == 0 || us.getD (l - 1) 0 / 2 ^ (n % 64) == 0) := by
  unfold rightB
  rw [h, Int.toNat_natCast, hl, hn]
  simp
theorem right_of_bits (n l : Nat) (us : List Nat) (h : lmb n = true) (hl : us.length = l) (hn : l = nw n) (hlt : ∀ j, us.getD j 0 < 18446744073709551616) (hb : ∀ i, n ≤ i → i < 64 * l → bitAt us i = 0) : rightB n us = true := by
  rw [rightB_core n l us h hl hn]
  by_cases h0 : n % 64 = 0
  · simp [h0]
  · have hp : 1 ≤ l := by rw [hn]; unfold nw; omega
    have hd : n / 64 = l - 1 := by rw [hn]; unfold nw; omega
    have : us.getD (l - 1) 0 < 2 ^ (n % 64) := by
      apply Nat.lt_pow_two_of_testBit
      intro i hi
      by_cases hi64 : i < 64
      · have := hb (64 * (l - 1) + i) (by omega) (by omega)
        unfold bitAt at this
        rw [show (64 * (l - 1) + i) / 64 = l - 1 by omega, show (64 * (l - 1) + i) % 64 = i by omega] at this
        rw [Nat.testBit_eq_decide_div_mod_eq, this]
        rfl
      · exact Nat.testBit_lt_two_pow (Nat.lt_of_lt_of_le (hlt (l - 1)) (show 2 ^ 64 ≤ 2 ^ i from Nat.pow_le_pow_right (by omega) (by omega)))
    have e : us.getD (l - 1) 0 / 2 ^ (n % 64) = 0 := Nat.div_eq_of_lt this
    rw [e]; simp
theorem not_right_of_bit (n l i : Nat) (us : List Nat) (h : lmb n = true) (hl : us.length = l) (hn : l = nw n) (h1 : n ≤ i) (h2 : i < 64 * l) (hb : bitAt us i = 1) : rightB n us = false := by
  rw [rightB_core n l us h hl hn]
  have hnw : nw n = (n + 63) / 64 := rfl
  have h0 : ¬ n % 64 = 0 := by omega
  have hd : i / 64 = l - 1 := by omega
  have hr : n % 64 ≤ i % 64 := by omega
  unfold bitAt at hb
  rw [hd] at hb
  have hne : us.getD (l - 1) 0 / 2 ^ (n % 64) ≠ 0 := by
    intro e
    have hp : 0 < 2 ^ (n % 64) := Nat.two_pow_pos _
    have hlt : us.getD (l - 1) 0 < 2 ^ (n % 64) := by
      rcases Nat.div_eq_zero_iff.1 e with h | h
      · omega
      · exact h
    have : us.getD (l - 1) 0 / 2 ^ (i % 64) = 0 := Nat.div_eq_of_lt (Nat.lt_of_lt_of_le hlt (Nat.pow_le_pow_right (by omega) hr))
    rw [this] at hb
    simp at hb
  have e1 : (n % 64 == 0) = false := by simpa using h0
  have e2 : (us.getD (l - 1) 0 / 2 ^ (n % 64) == 0) = false := by rw [beq_eq_false_iff_ne]; exact hne
  rw [e1, e2]; rfl
theorem bitAt_le (us : List Nat) (i : Nat) : bitAt us i = 0 ∨ bitAt us i = 1 := by unfold bitAt; omega
set_option maxHeartbeats 400000 in
theorem refRight_any (n : Int) (A : Option Addr) (l c : Nat) (us : List Nat) (w : World) (hw : Words w A l us) :
    Calls Try.prog 17 #[.agg #[.int .i64 n, .slice A l c]] w fun e w' => e = .returned (.bool (rightB n us)) ∧ Below w.heap.size w w' := by
  have Q := Lib.hid (Box.new w 40 #[.int .i64 n, .slice A l c])
  have HW := Lib.hid (show Below w.heap.size w (w.alloc (.cells #[.int .i64 n, .slice A l c] 40)) from (Below.refl _ _).alloc (Nat.le_refl _) _)
  have HU := Lib.hid hw
  clear hw
  by_cases h0 : n < 0
  · have HF : Hid (rightB n us = false) := by
      show rightB n us = false
      unfold rightB
      rw [(lmb_no n).2 (by omega)]; rfl
    have t : decide (n < 0) = true := by simpa using h0
    go_enter Try.func17, Try.ntmps17
    go_wp2_with fail
    go_quiet (fail)
    go_wp2
    go_ret
    exact ⟨by rw [HF.out]; rfl, bdN HW.out _⟩
  · have t : decide (n < 0) = false := by simpa using h0
    by_cases h1 : 512 < n
    · have HF : Hid (rightB n us = false) := by
        show rightB n us = false
        unfold rightB
        rw [(lmb_no n).2 (by omega)]; rfl
      have t1 : decide (512 < n) = true := by simpa using h1
      go_enter Try.func17, Try.ntmps17
      go_wp2_with fail
      go_quiet (fail)
      go_wp2
      go_ret
      exact ⟨by rw [HF.out]; rfl, bdN HW.out _⟩
    · obtain ⟨m, rfl⟩ := Int.eq_ofNat_of_zero_le (show 0 ≤ n by omega)
      have t1 : decide ((512 : Int) < (m : Int)) = false := by simpa using h1
      have hlm : lmb m = true := (lmb_iff m).2 ⟨by omega, by omega⟩
      have HLM := Lib.hid hlm
      have H2 := Lib.hid (refWords_any m (by omega))
      clear hlm
      by_cases hl : l = nw m
      · have t2 : ((l : Int) != (nw m : Int)) = false := by simp [hl]
        have hnw : nw m ≤ 8 := by unfold nw; omega
        have hl8 : l ≤ 8 := by omega
        have HL := Lib.hid hl
        clear hl hnw
        have hm64 : m ≤ 512 := by omega
        go_enter Try.func17, Try.ntmps17
        go_wp2_with fail
        go_quiet ((go_at_call 40; exact quiet_w (H2.out _)))
        go_wp2
        clear t t1 t2
        go_loopw [3] (fun s wr => ∃ i : Nat, m ≤ i ∧ i ≤ 64 * l + 1000 ∧ s = .int .i64 i ∧ (∀ k, m ≤ k → k < i → bitAt us k = 0) ∧ Box wr w.heap.size 40 #[.int .i64 m, .slice A l c] ∧ Below w.heap.size w wr)
          (fun s _ => 64 * l + 1000 - (intOf s).toNat)
        case atStart => exact ⟨m, Nat.le_refl _, by omega, rfl, fun k h1 h2 => by omega, Q.out.drewN _, bdN HW.out _⟩
        case round =>
          obtain ⟨i, hi1, hi2, rfl, hz, B0, hbel⟩ := hrel
          have R0 := Lib.hid B0
          have HB := Lib.hid hbel
          have HZ := Lib.hid hz
          clear B0 hbel hz Q HW
          obtain ⟨a0, a1, -, -⟩ := R0.out.two
          by_cases hlt : i < 64 * l
          · have hlt' : (i : Int) < 64 * (l : Int) := by omega
            go_wp2_with fail
            refine (bit_any _ A l c i us _ (HU.out.below HB.out) hlt (by omega)).mono ?_
            rintro e w1 ⟨rfl, hb⟩
            have R1 := Lib.hid (R0.out.keep hb)
            have HC := Lib.hid (chain HB.out hb)
            clear hb a0 a1
            rcases bitAt_le us i with hb | hb
            · have HV := Lib.hid hb
              rw [hb]
              clear hb
              go_wp2
              go_roundw
              case rel =>
                refine ⟨i + 1, by omega, by omega, by go_num, fun k h1 h2 => ?_, R1.out, HC.out⟩
                by_cases h : k = i
                · rw [h]; exact HV.out
                · exact HZ.out k h1 (by omega)
              case measure => simp [intOf]; omega
            · have HF := Lib.hid (not_right_of_bit m l i us HLM.out HU.out.1 HL.out hi1 hlt hb)
              rw [hb]
              clear hb
              go_wp2
              go_ret
              exact ⟨by rw [HF.out]; rfl, HC.out⟩
          · have hlt' : ¬ (i : Int) < 64 * (l : Int) := by omega
            have HF := Lib.hid (right_of_bits m l us HLM.out HU.out.1 HL.out HU.out.2.1 (fun k h1 h2 => HZ.out k h1 (by omega)))
            go_wp2
            go_ret
            exact ⟨by rw [HF.out]; rfl, HB.out⟩
      · have t2 : ((l : Int) != (nw m : Int)) = true := by rw [bne_iff_ne]; omega
        have HF : Hid (rightB m us = false) := by
          show rightB m us = false
          unfold rightB
          have : (us.length == nw m) = false := by rw [HU.out.1]; simpa using hl
          rw [HLM.out, Int.toNat_natCast, this]; rfl
        go_enter Try.func17, Try.ntmps17
        go_wp2_with fail
        go_quiet ((go_at_call 40; exact quiet_w (H2.out _)))
        go_wp2
        go_ret
        exact ⟨by rw [HF.out]; rfl, bdN HW.out _⟩
end
section
/- Contract of the reference's From: a row of bits. -/
set_option linter.unusedVariables false
set_option linter.unusedSimpArgs false
open Go.RowKit
def accM (b : Nat → Bool) (i : Nat) : Nat → Nat
  | 0 => 0
  | m + 1 => 2 * accM b i m + if b (64 * i + (63 - m)) then 1 else 0
theorem accM_lt (b : Nat → Bool) (i m : Nat) : accM b i m < 2 ^ m := by
  induction m with
  | zero => simp [accM]
  | succ m ih =>
    simp only [accM, Nat.pow_succ]
    split <;> omega
def bitsOf (zs : List Int) (j : Nat) : Bool := decide (j < zs.length) && zs.getD j 0 == 1
def fromL (b : Nat → Bool) (k : Nat) : List Nat := (List.range k).map fun i => accM b i 64
theorem fromL_lt (b : Nat → Bool) (k j : Nat) : (fromL b k).getD j 0 < 18446744073709551616 := by
  unfold fromL
  simp only [List.getD, List.getElem?_map, List.getElem?_range]
  by_cases h : j < k
  · simp [h]
    exact accM_lt b j 64
  · simp [h]
theorem fromL_succ (b : Nat → Bool) (k : Nat) : fromL b (k + 1) = fromL b k ++ [accM b k 64] := by simp [fromL, List.range_succ]
theorem fromL_len (b : Nat → Bool) (k : Nat) : (fromL b k).length = k := by simp [fromL]
theorem u64_info : (Try.prog.info? 68).map (fun i => (i.zero, i.size, i.bytes)) = some (some (.int .u64 0), 1, 8) := by kernel_rfl
set_option maxHeartbeats 1000000 in
theorem from_any (A : Option Addr) (l c : Nat) (zs : List Int) (w : World) (hz : Ints w A l zs) (hl : l ≤ 10000) :
    Calls Try.prog 68 #[.slice A l c] w (OneRow l (fromL (bitsOf zs) (nw l)) w) := by
  obtain ⟨i0, hi, hz0, hz1, hz2⟩ := info_parts u64_info
  have hnw : nw l ≤ 1000 := by unfold nw; omega
  have Q0 := Lib.hid ((Box.new w 40 #[.int .i64 0, .slice none 0 0]).alloc (.cells #[.int .i64 l, .slice none 0 0] 40))
  have q1 := Box.new (w.alloc (.cells #[.int .i64 0, .slice none 0 0] 40)) 40 #[.int .i64 l, .slice none 0 0]
  simp only [World.size_alloc] at q1
  have Q1 := Lib.hid q1
  have HW := Lib.hid (show Below w.heap.size w ((w.alloc (.cells #[.int .i64 0, .slice none 0 0] 40)).alloc (.cells #[.int .i64 l, .slice none 0 0] 40)) from ((Below.refl _ _).alloc (Nat.le_refl _) _).alloc (by simp) _)
  have HZ := Lib.hid hz
  clear hz q1
  have HI := Lib.hid hi
  have HZ0 := Lib.hid hz0
  have HZ1 := Lib.hid hz1
  have HZ2 := Lib.hid hz2
  clear hi hz0 hz1 hz2
  go_enter Try.func68, Try.ntmps68
  go_wp2
  go_loopw [4] (fun t wr => ∃ (i : Nat) (v : Value), i ≤ nw l ∧ t = .int .i64 i ∧ Box wr (w.heap.size + 1) 40 #[.int .i64 l, v] ∧ wr.ownsRow w.heap.size 68 1 v i ((fromL (bitsOf zs) i).map fun (x : Nat) => Value.int .u64 (x : Int)) ∧ Box wr w.heap.size 40 #[.int .i64 0, .slice none 0 0] ∧ Below w.heap.size w wr)
    (fun t _ => nw l - (intOf t).toNat)
  case atStart => exact ⟨0, _, by omega, rfl, Q1.out, World.ownsRow_nil _ _ _ _, Q0.out, HW.out⟩
  case round =>
    obtain ⟨i, v, hi, rfl, B1, hown, B0, hbel⟩ := hrel
    have R1 := Lib.hid B1
    have R0 := Lib.hid B0
    have HO := Lib.hid hown
    have HB := Lib.hid hbel
    clear B1 B0 hown hbel Q0 Q1 HW
    by_cases hlt : i < nw l
    · go_wp2_with fail
      refine (refWords_any l (by omega) _).mono ?_
      rintro e w' ⟨rfl, rfl⟩
      go_wp2
      go_loop [6, 5] (fun s x => ∃ k : Nat, k ≤ 64 ∧ s = .int .i64 ((k : Int) - 1) ∧ x = .int .u64 (accM (bitsOf zs) i (64 - k) : Nat)) (fun s _ => (intOf s + 1).toNat)
      case atStart => exact ⟨64, by omega, rfl, rfl⟩
      case round =>
        obtain ⟨k, hk, rfl, rfl⟩ := hrel
        cases k with
        | zero =>
          obtain ⟨A', c', rfl, hA'⟩ := own_form HO.out
          obtain ⟨a0, a1, f0, f1⟩ := R1.out.two
          have hz := R1.out.lt
          have hacc := accM_lt (bitsOf zs) i 64
          generalize hX : accM (bitsOf zs) i (64 - 0) = x at *
          have HX := Lib.hid hX
          clear hX
          have hi' := HI.out
          have hz0' := HZ0.out
          have hz1' := HZ1.out
          have hz2' := HZ2.out
          have hne : (68 : TypeId) ≠ 40 := by decide
          have X1 := Lib.hid (R1.out.alloc (.cells #[.int .u64 (x : Int)] 68))
          have X0 := Lib.hid (R0.out.alloc (.cells #[.int .u64 (x : Int)] 68))
          have XO := Lib.hid (HO.out.alloc (.cells #[.int .u64 (x : Int)] 68))
          have XB := Lib.hid (HB.out.alloc HB.out.size (.cells #[.int .u64 (x : Int)] 68))
          have N1 := Lib.hid (own_ne XO.out X1.out hne)
          have N0 := Lib.hid (own_ne XO.out X0.out hne)
          have hsz : w.heap.size ≤ (wr.alloc (.cells #[.int .u64 (x : Int)] 68)).heap.size := XB.out.size
          have HSZ := Lib.hid hsz
          have N2 := Lib.hid (fun k hk => (HO.out.lt k hk).1)
          clear hsz hne
          go_wp2_with (at_builtin; refine wpList_append_own _ rfl _ _ 38 rfl w.heap.size 68 i0 (.int .u64 0) 1 8 Try.underlying38 hi' hz0' hz1' hz2' rfl (by decide) _ _ _ rfl XO.out ⟨wr.heap.size, 0, none⟩ 1 1 [.int .u64 (x : Int)] rfl rfl (cell_one_new _ _ _) (by simp [Value.oneCell']) (by simp [maxLen]; omega) (by omega) HSZ.out ?_; intro v' w1 hown' hgrow _; obtain ⟨A2, c2, rfl, hA2⟩ := own_form hown'; have S1 := Lib.hid (X1.out.grown hgrow N1.out); have S0 := Lib.hid (X0.out.grown hgrow N0.out); have HC := Lib.hid (XB.out.grown hgrow HSZ.out N2.out); have HO2 := Lib.hid hown'; clear hown' hgrow hA2; obtain ⟨e0, e1, g0, g1⟩ := S1.out.two)
          go_roundw
          case rel =>
            refine ⟨i + 1, _, by omega, by go_num, S1.out.put 1 _, ?_, S0.out.far (p := ⟨w.heap.size + 1, 1, none⟩) (by simp) _, HC.out.setCell (p := ⟨w.heap.size + 1, 1, none⟩) (by simp) _⟩
            have h1 := HO2.out
            rw [fromL_succ, List.map_append]
            have h2 : (accM (bitsOf zs) i 64) = x := HX.out
            rw [List.map_cons, List.map_nil, h2]
            exact own_far h1 S1.out (by decide) 1 _
          case measure => simp [intOf] <;> omega
        | succ j =>
          rw [show (((j + 1 : Nat) : Int) - 1) = (j : Int) by omega]
          have hx := accM_lt (bitsOf zs) i (64 - (j + 1))
          have hp : 2 ^ (64 - (j + 1)) ≤ 2 ^ 63 := Nat.pow_le_pow_right (by omega) (by omega)
          have hx2 : accM (bitsOf zs) i (64 - (j + 1)) < 9223372036854775808 := by omega
          have HS : Hid (accM (bitsOf zs) i (64 - j) = 2 * accM (bitsOf zs) i (64 - (j + 1)) + if bitsOf zs (64 * i + j) then 1 else 0) := by
            show _ = _
            rw [show 64 - j = (64 - (j + 1)) + 1 by omega]
            simp only [accM]
            rw [show 63 - (64 - (j + 1)) = j by omega]
          clear hx hp
          generalize accM (bitsOf zs) i (64 - (j + 1)) = x at *
          by_cases hin : 64 * i + j < l
          · obtain ⟨b, o, rfl, hlb, hc⟩ := HZ.out.2.2 (by omega)
            have cz := (HB.out.cell (p := ⟨b, o + (64 * i + j), none⟩) hlb).trans (hc (64 * i + j) hin)
            have hin' : 64 * (i : Int) + j < l := by omega
            obtain ⟨y, ey⟩ : ∃ y, y = zs.getD (64 * i + j) 0 := ⟨_, rfl⟩
            rw [← ey] at cz
            have EY := Lib.hid ey
            clear ey hc
            by_cases hy : y = 1
            · have t1 : (y == 1) = true := by simpa using hy
              clear hy
              have HB1 : Hid (bitsOf zs (64 * i + j) = true) := by
                show bitsOf zs (64 * i + j) = true
                unfold bitsOf
                rw [← EY.out, t1, HZ.out.1]
                simpa using hin
              go_wp2
              go_round
              case rel => exact ⟨j, by omega, rfl, by rw [HS.out, HB1.out]; first | rfl | go_num⟩
              case measure => simp [intOf] <;> omega
            · have t1 : (y == 1) = false := by simpa using hy
              clear hy
              have HB1 : Hid (bitsOf zs (64 * i + j) = false) := by
                show bitsOf zs (64 * i + j) = false
                unfold bitsOf
                rw [← EY.out, t1]; simp
              go_wp2
              go_round
              case rel => exact ⟨j, by omega, rfl, by rw [HS.out, HB1.out]; first | rfl | go_num⟩
              case measure => simp [intOf] <;> omega
          · have hin' : ¬ 64 * (i : Int) + j < l := by omega
            have HB1 : Hid (bitsOf zs (64 * i + j) = false) := by
              show bitsOf zs (64 * i + j) = false
              unfold bitsOf
              rw [HZ.out.1]; simp; omega
            go_wp2
            go_round
            case rel => exact ⟨j, by omega, rfl, by rw [HS.out, HB1.out]; first | rfl | go_num⟩
            case measure => simp [intOf] <;> omega
    · obtain rfl : i = nw l := by omega
      obtain ⟨A', c', rfl, hA'⟩ := own_form HO.out
      obtain ⟨a0, a1, -, -⟩ := R1.out.two
      obtain ⟨b0, b1, f0, f1⟩ := R0.out.two
      go_wp2_with fail
      refine (refWords_any l (by omega) _).mono ?_
      rintro e w' ⟨rfl, rfl⟩
      go_wp2
      refine close_one Try.results68 rfl rfl R0.out.put2 Try.underlying40 rfl (by kernel_rfl) ⟨_, _, _, rfl, ?_, ?_⟩
      · exact (own_words HO.out (fromL_lt _ _)).put2 R0.out _ _
      · exact (HB.out.setCell (p := ⟨w.heap.size, 0, none⟩) (Nat.le_refl _) _).setCell (p := ⟨w.heap.size, 1, none⟩) (Nat.le_refl _) _
end
section
/- Contracts of the reference's Xor and And. -/
set_option linter.unusedVariables false
set_option linter.unusedSimpArgs false
open Go.RowKit
theorem int_info : (Try.prog.info? 3).map (fun i => (i.zero, i.size, i.bytes)) = some (some (.int .i64 0), 1, 8) := by kernel_rfl
def bitSums (g : Nat → Nat → Nat) (us vs : List Nat) (i : Nat) : List Int := (List.range i).map fun j => ((g (bitAt us j) (bitAt vs j) : Nat) : Int)
theorem bitSums_succ (g : Nat → Nat → Nat) (us vs : List Nat) (i : Nat) : bitSums g us vs (i + 1) = bitSums g us vs i ++ [((g (bitAt us i) (bitAt vs i) : Nat) : Int)] := by simp [bitSums, List.range_succ]
theorem bitSums_len (g : Nat → Nat → Nat) (us vs : List Nat) (i : Nat) : (bitSums g us vs i).length = i := by simp [bitSums]
theorem bitSums_get (g : Nat → Nat → Nat) (us vs : List Nat) (i j : Nat) (h : j < i) : (bitSums g us vs i).getD j 0 = ((g (bitAt us j) (bitAt vs j) : Nat) : Int) := by simp [bitSums, List.getD, h]
theorem bitSums_lt (us vs : List Nat) (i j : Nat) : -9223372036854775808 ≤ (bitSums (fun x y => (x + y) % 2) us vs i).getD j 0 ∧ (bitSums (fun x y => (x + y) % 2) us vs i).getD j 0 ≤ 9223372036854775807 := by
  by_cases h : j < i
  · rw [bitSums_get _ us vs i j h]; omega
  · have hn : (bitSums (fun x y => (x + y) % 2) us vs i)[j]? = none := List.getElem?_eq_none (by rw [bitSums_len]; omega)
    simp only [List.getD, hn, Option.getD_none]
    omega
theorem accM_bit (b : Nat → Bool) (i m j : Nat) (hm : m ≤ 64) : (accM b i m).testBit j = (decide (j < m) && b (64 * i + (64 - m + j))) := by
  induction m generalizing j with
  | zero => simp [accM]
  | succ m ih =>
    simp only [accM]
    cases j with
    | zero =>
      rw [Nat.testBit_zero]
      have e : 64 - (m + 1) + 0 = 63 - m := by omega
      rw [e]
      cases b (64 * i + (63 - m)) <;> simp <;> omega
    | succ j =>
      rw [Nat.testBit_succ]
      have e : (2 * accM b i m + if b (64 * i + (63 - m)) = true then 1 else 0) / 2 = accM b i m := by split <;> omega
      rw [e, ih j (by omega)]
      have e2 : 64 - m + j = 64 - (m + 1) + (j + 1) := by omega
      rw [e2]
      have e3 : decide (j < m) = decide (j + 1 < m + 1) := by simp
      rw [e3]
theorem bitAt_test (us : List Nat) (i : Nat) : (bitAt us i == 1) = (us.getD (i / 64) 0).testBit (i % 64) := by
  rw [Nat.testBit_eq_decide_div_mod_eq]; rfl
/-- A row that may be has no bits behind its last. -/
theorem right_bits {n : Nat} {us : List Nat} (h : rightB n us = true) (i : Nat) (hi : n ≤ i) (hl : i < 64 * us.length) : bitAt us i = 0 := by
  have hlm := right_lmb h
  have hle := right_len_eq h
  rw [Int.toNat_natCast] at hle
  rcases bitAt_le us i with h0 | h1
  · exact h0
  · have := not_right_of_bit n us.length i us hlm rfl hle hi hl h1
    rw [h] at this
    cases this
theorem from_zip (g : Nat → Nat → Nat) (f : Nat → Nat → Nat) (hgf : ∀ x y k, (f x y).testBit k = (g (if x.testBit k then 1 else 0) (if y.testBit k then 1 else 0) == 1)) (h00 : g 0 0 = 0) (hf : ∀ x y, x < 18446744073709551616 → y < 18446744073709551616 → f x y < 18446744073709551616) (n : Nat) (us vs : List Nat) (h1 : rightB n us = true) (h2 : rightB n vs = true)
    (hu : ∀ j, us.getD j 0 < 18446744073709551616) (hv : ∀ j, vs.getD j 0 < 18446744073709551616) :
    fromL (bitsOf (bitSums g us vs n)) (nw n) = List.zipWith f us vs := by
  have l1 := right_len_eq h1
  have l2 := right_len_eq h2
  rw [Int.toNat_natCast] at l1 l2
  apply List.ext_getElem
  · rw [fromL_len]; simp; omega
  · intro i hi1 hi2
    have hi : i < nw n := by rw [fromL_len] at hi1; exact hi1
    have iu : i < us.length := by omega
    have iv : i < vs.length := by omega
    simp only [fromL, List.getElem_map, List.getElem_range, List.getElem_zipWith]
    have eu : us[i] = us.getD i 0 := by simp [List.getD, iu]
    have ev : vs[i] = vs.getD i 0 := by simp [List.getD, iv]
    rw [eu, ev]
    apply Nat.eq_of_testBit_eq
    intro j
    rw [accM_bit _ _ _ _ (Nat.le_refl _)]
    by_cases hj : j < 64
    · have e0 : 64 * i + (64 - 64 + j) = 64 * i + j := by omega
      have ed : (64 * i + j) / 64 = i := by omega
      have em : (64 * i + j) % 64 = j := by omega
      have bu : (if (us.getD i 0).testBit j then 1 else 0) = bitAt us (64 * i + j) := by
        have := bitAt_test us (64 * i + j)
        rw [ed, em] at this
        rw [← this]
        rcases bitAt_le us (64 * i + j) with h | h <;> rw [h] <;> rfl
      have bv : (if (vs.getD i 0).testBit j then 1 else 0) = bitAt vs (64 * i + j) := by
        have := bitAt_test vs (64 * i + j)
        rw [ed, em] at this
        rw [← this]
        rcases bitAt_le vs (64 * i + j) with h | h <;> rw [h] <;> rfl
      rw [e0, hgf, bu, bv]
      have hd : decide (j < 64) = true := by simpa using hj
      rw [hd, Bool.true_and]
      unfold bitsOf
      rw [bitSums_len]
      by_cases hn : 64 * i + j < n
      · rw [bitSums_get g us vs n _ hn]
        have : decide (64 * i + j < n) = true := by simpa using hn
        rw [this, Bool.true_and]
        rw [Bool.eq_iff_iff]
        simp only [beq_iff_eq]
        omega
      · have z1 := right_bits h1 (64 * i + j) (by omega) (by omega)
        have z2 := right_bits h2 (64 * i + j) (by omega) (by omega)
        have : decide (64 * i + j < n) = false := by simpa using hn
        rw [this, Bool.false_and, z1, z2, h00]; rfl
    · have hd : decide (j < 64) = false := by simpa using hj
      rw [hd, Bool.false_and]
      symm
      exact Nat.testBit_lt_two_pow (Nat.lt_of_lt_of_le (hf _ _ (hu i) (hv i)) (show 2 ^ 64 ≤ 2 ^ j from Nat.pow_le_pow_right (by omega) (by omega)))
theorem from_xor (n : Nat) (us vs : List Nat) (h1 : rightB n us = true) (h2 : rightB n vs = true) (hu : ∀ j, us.getD j 0 < 18446744073709551616) (hv : ∀ j, vs.getD j 0 < 18446744073709551616) :
    fromL (bitsOf (bitSums (fun x y => (x + y) % 2) us vs n)) (nw n) = xorL us vs := by
  refine from_zip _ _ ?_ rfl (fun x y hx hy => Nat.xor_lt_two_pow (n := 64) hx hy) n us vs h1 h2 hu hv
  intro x y k
  rw [Nat.testBit_xor]
  cases x.testBit k <;> cases y.testBit k <;> rfl
set_option maxHeartbeats 2000000 in
theorem refXor_any (n : Nat) (A B : Option Addr) (l c k d : Nat) (us vs : List Nat) (w : World) (hu : Words w A l us) (hv : Words w B k vs) (h1 : rightB n us = true) (h2 : rightB n vs = true) :
    Calls Try.prog 55 #[.agg #[.int .i64 n, .slice A l c], .agg #[.int .i64 n, .slice B k d]] w (OneRow n (xorL us vs) w) := by
  obtain ⟨i0, hi, hz0, hz1, hz2⟩ := info_parts int_info
  have hn := (lmb_iff n).1 (right_lmb h1)
  have q0 := ((Box.new w 40 #[.int .i64 n, .slice A l c]).alloc (.cells #[.int .i64 n, .slice B k d] 40)).alloc (.cells #[.int .i64 0, .slice none 0 0] 40)
  have q1 := (Box.new (w.alloc (.cells #[.int .i64 n, .slice A l c] 40)) 40 #[.int .i64 n, .slice B k d]).alloc (.cells #[.int .i64 0, .slice none 0 0] 40)
  have q2 := Box.new ((w.alloc (.cells #[.int .i64 n, .slice A l c] 40)).alloc (.cells #[.int .i64 n, .slice B k d] 40)) 40 #[.int .i64 0, .slice none 0 0]
  have hW : Below w.heap.size w (((w.alloc (.cells #[.int .i64 n, .slice A l c] 40)).alloc (.cells #[.int .i64 n, .slice B k d] 40)).alloc (.cells #[.int .i64 0, .slice none 0 0] 40)) := (((Below.refl _ _).alloc (Nat.le_refl _) _).alloc (by simp) _).alloc (by simp; omega) _
  simp only [World.size_alloc] at q1 q2
  go_enter Try.func55, Try.ntmps55
  go_wp2
  have hz := q2.lt
  have how := (own_empty (((w.alloc (.cells #[.int .i64 n, .slice A l c] 40)).alloc (.cells #[.int .i64 n, .slice B k d] 40)).alloc (.cells #[.int .i64 0, .slice none 0 0] 40)) w.heap.size 3 hW.size)
  simp only [World.size_alloc] at how
  have HOw := Lib.hid how
  clear how
  have Q0 := Lib.hid (q0.alloc (.cells #[] 3))
  have Q1 := Lib.hid (q1.alloc (.cells #[] 3))
  have Q2 := Lib.hid (q2.alloc (.cells #[] 3))
  have HW := Lib.hid (hW.alloc hW.size (.cells #[] 3))
  have HU := Lib.hid hu
  have HV := Lib.hid hv
  have HR1 := Lib.hid h1
  have HR2 := Lib.hid h2
  have hl8 := rightB_len8 h1 hu.1
  have hl := right_len_eq h1
  rw [hu.1, Int.toNat_natCast] at hl
  have hk := right_len_eq h2
  rw [hv.1, Int.toNat_natCast] at hk
  have hn64 : n ≤ 64 * l := by rw [hl]; unfold nw; omega
  have hn64' : n ≤ 64 * k := by rw [hk]; unfold nw; omega
  have hk8 := rightB_len8 h2 hv.1
  clear q0 q1 q2 hW hu hv h1 h2 hz hl hk
  have HI := Lib.hid hi
  have HZ0 := Lib.hid hz0
  have HZ1 := Lib.hid hz1
  have HZ2 := Lib.hid hz2
  clear hi hz0 hz1 hz2
  go_loopw [5, 6] (fun v t wr => ∃ i : Nat, i ≤ n ∧ t = .int .i64 i ∧ wr.ownsRow w.heap.size 3 1 v i ((bitSums (fun x y => (x + y) % 2) us vs i).map (Value.int .i64)) ∧ Box wr w.heap.size 40 #[.int .i64 n, .slice A l c] ∧ Box wr (w.heap.size + 1) 40 #[.int .i64 n, .slice B k d] ∧ Box wr (w.heap.size + 1 + 1) 40 #[.int .i64 0, .slice none 0 0] ∧ Below w.heap.size w wr)
    (fun _ t _ => n - (intOf t).toNat)
  case atStart => exact ⟨0, by omega, rfl, HOw.out, Q0.out, Q1.out, Q2.out, HW.out⟩
  case round =>
    obtain ⟨i, hi, rfl, hown, B0, B1, B2, hbel⟩ := hrel
    have R0 := Lib.hid B0
    have R1 := Lib.hid B1
    have R2 := Lib.hid B2
    have HO := Lib.hid hown
    have HB := Lib.hid hbel
    clear B0 B1 B2 hown hbel Q0 Q1 Q2 HW HOw
    obtain ⟨a0, a1, -, -⟩ := R0.out.two
    obtain ⟨b0, b1, -, -⟩ := R1.out.two
    by_cases hlt : i < n
    · have hlt' : (i : Int) < (n : Int) := by omega
      have bu := bitAt_le us i
      have bv := bitAt_le vs i
      have hi' := HI.out
      have hz0' := HZ0.out
      have hz1' := HZ1.out
      have hz2' := HZ2.out
      have hz := R2.out.lt
      have hne := Lib.hid (show (3 : TypeId) ≠ 40 by decide)
      generalize hX : bitAt us i = x at *
      generalize hY : bitAt vs i = y at *
      have HX := Lib.hid hX
      have HY := Lib.hid hY
      clear hX hY
      have hxy : (x : Int) + y ≤ 2 := by omega
      have hxy0 : 0 ≤ (x : Int) + y := by omega
      have f1 : IntKind.i64.wrap ((x : Int) + y) = (x : Int) + y := IntWalk.i64_in _ (by omega)
      have f2 : ((x : Int) + y).tmod 2 = (((x + y) % 2 : Nat) : Int) := by rw [Int.tmod_eq_emod_of_nonneg (by omega)]; omega
      have HC1 := Lib.hid (fun (W : World) (h : Words W A l us) => bit_any n A l c i us W h (by omega) (by omega))
      have HC2 := Lib.hid (fun (W : World) (h : Words W B k vs) => bit_any n B k d i vs W h (by omega) (by omega))
      rw [HX.out] at HC1
      rw [HY.out] at HC2
      go_wp2
      go_region_held3 (fun w' => w'.cell? ⟨w.heap.size, 0, none⟩ = some (.int .i64 n) ∧ w'.cell? ⟨w.heap.size, 1, none⟩ = some (.slice A l c) ∧ w'.cell? ⟨w.heap.size + 1, 0, none⟩ = some (.int .i64 n) ∧ w'.cell? ⟨w.heap.size + 1, 1, none⟩ = some (.slice B k d))
        (go_keep)
        (first
          | (go_at_call_of 41 (Value.agg #[.int .i64 n, .slice A l c]); refine (HC1.out _ (HU.out.below HB.out).drew).mono ?_; rintro e1 x1 ⟨rfl, hb1⟩; have P0 := Lib.hid (R0.out.drew.keep hb1); have P1 := Lib.hid (R1.out.drew.keep hb1); have P2 := Lib.hid (R2.out.drew.keep hb1); have O1 := Lib.hid (own_keep HO.out.drew hb1); have T1 := Lib.hid (chain HB.out.drew hb1); clear hb1; obtain ⟨k0, k1, -, -⟩ := P0.out.two; obtain ⟨k2, k3, -, -⟩ := P1.out.two)
          | (go_at_call_of 41 (Value.agg #[.int .i64 n, .slice B k d]); refine (HC2.out _ (HV.out.below T1.out)).mono ?_; rintro e2 x2 ⟨rfl, hb2⟩; have S0 := Lib.hid (P0.out.keep hb2); have S1 := Lib.hid (P1.out.keep hb2); have S2 := Lib.hid (P2.out.keep hb2); have O2 := Lib.hid (own_keep O1.out hb2); have T2 := Lib.hid (chain T1.out hb2); clear hb2; obtain ⟨m0, m1, -, -⟩ := S0.out.two; obtain ⟨m2, m3, -, -⟩ := S1.out.two; have X0 := Lib.hid (S0.out.alloc (.cells #[.int .i64 (((x + y) % 2 : Nat) : Int)] 3)); have X1 := Lib.hid (S1.out.alloc (.cells #[.int .i64 (((x + y) % 2 : Nat) : Int)] 3)); have X2 := Lib.hid (S2.out.alloc (.cells #[.int .i64 (((x + y) % 2 : Nat) : Int)] 3)); have XO := Lib.hid (O2.out.alloc (.cells #[.int .i64 (((x + y) % 2 : Nat) : Int)] 3)); have XB := Lib.hid (T2.out.alloc T2.out.size (.cells #[.int .i64 (((x + y) % 2 : Nat) : Int)] 3)); have N0 := Lib.hid (own_ne XO.out X0.out hne.out); have N1 := Lib.hid (own_ne XO.out X1.out hne.out); have N2 := Lib.hid (own_ne XO.out X2.out hne.out); have N3 := Lib.hid (fun k hk => (O2.out.lt k hk).1))
          | (refine step_append_lies _ (by rfl) _ _ _ (by rfl) w.heap.size 3 i0 _ 1 8 Try.underlying26 hi' hz0' hz1' hz2' rfl (by omega) _ _ _ (by rfl) XO.out ⟨x2.heap.size, 0, none⟩ 1 1 [.int .i64 (((x + y) % 2 : Nat) : Int)] (by rfl) (by rfl) (cell_one_new _ _ _) (by simp [Value.oneCell']) (by omega) (by simp [maxLen]; omega) (by omega) XB.out.size (x2.heap.size + 1) (by simp) ?_; intro gg cap w1 hown1 hgrow hat hlg; have Y0 := Lib.hid (X0.out.grown hgrow N0.out); have Y1 := Lib.hid (X1.out.grown hgrow N1.out); have Y2 := Lib.hid (X2.out.grown hgrow N2.out); have YB := Lib.hid (XB.out.grown hgrow XB.out.size N3.out); have YO := Lib.hid hown1; clear hgrow hat hown1; obtain ⟨p0, p1, -, -⟩ := Y0.out.two; obtain ⟨p2, p3, -, -⟩ := Y1.out.two))
      clear p0 p1 p2 p3 m0 m1 m2 m3 k0 k1 k2 k3 a0 a1 b0 b1 f1 f2 hi' hz0' hz1' hz2'
      go_wp2
      go_roundw
      case rel =>
        refine ⟨i + 1, by omega, by go_num, ?_, Y0.out, Y1.out, Y2.out, YB.out⟩
        have h := YO.out
        rw [bitSums_succ, List.map_append, HX.out, HY.out]
        exact h
      case measure => simp [intOf] <;> omega
    · obtain rfl : i = n := by omega
      have hlt' : ¬ (i : Int) < (i : Int) := by omega
      obtain ⟨A', c', rfl, hA'⟩ := own_form HO.out
      go_wp2_with fail
      refine (from_any A' i c' _ _ (own_ints HO.out (bitSums_lt us vs i)) (by omega)).mono ?_
      rintro e x1 ⟨A1, l1, c1, rfl, hw, hb⟩
      have P2 := Lib.hid (R2.out.keep hb)
      have T1 := Lib.hid (chain HB.out hb)
      have HWo := Lib.hid hw
      clear hw hb a0 a1 b0 b1
      obtain ⟨r0, r1, r2, r3⟩ := P2.out.two
      go_wp2
      refine close_one Try.results55 rfl rfl P2.out.put2 Try.underlying40 rfl (by kernel_rfl) ⟨_, _, _, rfl, ?_, ?_⟩
      · have h := HWo.out
        rw [from_xor i us vs HR1.out HR2.out HU.out.2.1 HV.out.2.1] at h
        exact h.put2 P2.out _ _
      · exact (T1.out.setCell (p := ⟨w.heap.size + 1 + 1, 0, none⟩) (by simp; omega) _).setCell (p := ⟨w.heap.size + 1 + 1, 1, none⟩) (by simp; omega) _
theorem bitSums_lt_and (us vs : List Nat) (i j : Nat) : -9223372036854775808 ≤ (bitSums (fun x y => x * y) us vs i).getD j 0 ∧ (bitSums (fun x y => x * y) us vs i).getD j 0 ≤ 9223372036854775807 := by
  by_cases h : j < i
  · rw [bitSums_get _ us vs i j h]
    rcases bitAt_le us j with h1 | h1 <;> rcases bitAt_le vs j with h2 | h2 <;> rw [h1, h2] <;> decide
  · have hn : (bitSums (fun x y => x * y) us vs i)[j]? = none := List.getElem?_eq_none (by rw [bitSums_len]; omega)
    simp only [List.getD, hn, Option.getD_none]
    omega
theorem from_and (n : Nat) (us vs : List Nat) (h1 : rightB n us = true) (h2 : rightB n vs = true) (hu : ∀ j, us.getD j 0 < 18446744073709551616) (hv : ∀ j, vs.getD j 0 < 18446744073709551616) :
    fromL (bitsOf (bitSums (fun x y => x * y) us vs n)) (nw n) = andL us vs := by
  refine from_zip _ _ ?_ rfl (fun x y hx hy => Nat.and_lt_two_pow (n := 64) _ hy) n us vs h1 h2 hu hv
  intro x y k
  rw [Nat.testBit_and]
  cases x.testBit k <;> cases y.testBit k <;> rfl
end
section
/- Rows of words, as numbers. -/
set_option linter.unusedVariables false
set_option linter.unusedSimpArgs false
open Go.RowKit
/-- The words of a row of N bits. -/
def rowOf (N x : Nat) : List Nat := (List.range (nw N)).map fun i => (x >>> (64 * i)) % 2 ^ 64
theorem rowOf_len (N x : Nat) : (rowOf N x).length = nw N := by simp [rowOf]
theorem rowOf_at (N x i : Nat) (h : i < nw N) : (rowOf N x).getD i 0 = (x >>> (64 * i)) % 2 ^ 64 := by simp [rowOf, List.getD, h]
theorem rowOf_lt (N x i : Nat) : (rowOf N x).getD i 0 < 18446744073709551616 := by
  by_cases h : i < nw N
  · rw [rowOf_at N x i h]; exact Nat.mod_lt _ (by decide)
  · have : (rowOf N x)[i]? = none := List.getElem?_eq_none (by rw [rowOf_len]; omega)
    simp [List.getD, this]
theorem rowOf_bit (N x p : Nat) (h : p < N) : (bitAt (rowOf N x) p == 1) = x.testBit p := by
  rw [bitAt_test, rowOf_at N x (p / 64) (by unfold nw; omega), Nat.testBit_mod_two_pow, Nat.testBit_shiftRight]
  have e : 64 * (p / 64) + p % 64 = p := by omega
  have l : p % 64 < 64 := Nat.mod_lt _ (by omega)
  rw [e]; simp [l]
theorem rowOf_bitN (N x p : Nat) (h : p < N) : bitAt (rowOf N x) p = if x.testBit p then 1 else 0 := by
  have hb := rowOf_bit N x p h
  rcases bitAt_le (rowOf N x) p with h0 | h0
  · rw [h0] at hb ⊢; rw [← hb]; rfl
  · rw [h0] at hb ⊢; rw [← hb]; rfl
theorem rowOf_xor (N x y : Nat) : xorL (rowOf N x) (rowOf N y) = rowOf N (x ^^^ y) := by
  unfold xorL rowOf
  rw [List.zipWith_map_left, List.zipWith_map_right]
  simp only [List.zipWith_self, Nat.shiftRight_xor_distrib, Nat.xor_mod_two_pow]
def valW : List Nat → Nat
  | [] => 0
  | u :: us => u + 2 ^ 64 * valW us
theorem valW_at : ∀ (us : List Nat) (i : Nat), (∀ j, us.getD j 0 < 18446744073709551616) → i < us.length → (valW us >>> (64 * i)) % 2 ^ 64 = us.getD i 0
  | [], i, _, h => by cases h
  | u :: us, 0, hl, _ => by
    have := hl 0
    simp only [List.getD_cons_zero] at this ⊢
    simp only [valW, Nat.mul_zero, Nat.shiftRight_zero]
    omega
  | u :: us, i + 1, hl, h => by
    have h0 := hl 0
    have ih := valW_at us i (fun j => by have := hl (j + 1); rwa [List.getD_cons_succ] at this) (by simpa using h)
    rw [List.getD_cons_succ, ← ih, show 64 * (i + 1) = 64 + 64 * i by omega, Nat.shiftRight_add]
    congr 2
    simp only [List.getD_cons_zero] at h0
    rw [Nat.shiftRight_eq_div_pow, valW]
    omega
theorem valW_lt : ∀ (us : List Nat), (∀ j, us.getD j 0 < 18446744073709551616) → valW us < 2 ^ (64 * us.length)
  | [], _ => by simp [valW]
  | u :: us, hl => by
    have h0 := hl 0
    have ih := valW_lt us (fun j => by have := hl (j + 1); rwa [List.getD_cons_succ] at this)
    simp only [List.getD_cons_zero] at h0
    rw [valW, List.length_cons, show 64 * (us.length + 1) = 64 + 64 * us.length by omega, Nat.pow_add]
    generalize 2 ^ (64 * us.length) = m at *
    have : 2 ^ 64 * valW us + 2 ^ 64 ≤ 2 ^ 64 * m := by rw [← Nat.mul_succ]; exact Nat.mul_le_mul_left _ ih
    omega
theorem valW_row (N : Nat) (us : List Nat) (hl : ∀ j, us.getD j 0 < 18446744073709551616) (hn : us.length = nw N) : us = rowOf N (valW us) := by
  apply List.ext_getElem
  · rw [rowOf_len, hn]
  · intro i h1 h2
    have h := valW_at us i hl h1
    simp only [rowOf, List.getElem_map, List.getElem_range]
    rw [h]; simp [List.getD, h1]
theorem valW_bit (us : List Nat) (p : Nat) (hl : ∀ j, us.getD j 0 < 18446744073709551616) (hp : p < 64 * us.length) : (valW us).testBit p = (bitAt us p == 1) := by
  rw [bitAt_test, ← valW_at us (p / 64) hl (by omega), Nat.testBit_mod_two_pow, Nat.testBit_shiftRight]
  have e : 64 * (p / 64) + p % 64 = p := by omega
  have l : p % 64 < 64 := Nat.mod_lt _ (by omega)
  rw [e]; simp [l]
/-- A row that may be is that of a number. -/
theorem row_of {N : Nat} {us : List Nat} (h : rightB N us = true) (hl : ∀ j, us.getD j 0 < 18446744073709551616) : us = rowOf N (valW us) ∧ valW us < 2 ^ N := by
  have hn : us.length = nw N := by
    have h' := h
    simp only [rightB, Bool.and_eq_true, beq_iff_eq, Int.toNat_natCast] at h'
    exact h'.1.2
  refine ⟨valW_row N us hl hn, ?_⟩
  apply Nat.lt_pow_two_of_testBit
  intro p hp
  by_cases hlt : p < 64 * us.length
  · rw [valW_bit us p hl hlt, right_bits h p hp hlt]; rfl
  · exact Nat.testBit_lt_two_pow (Nat.lt_of_lt_of_le (valW_lt us hl) (Nat.pow_le_pow_right (by omega) (by omega)))
theorem rowOf_right (N x : Nat) (hN : N ≤ 512) (hx : x < 2 ^ N) : rightB N (rowOf N x) = true := by
  have hl : lmb (N : Int) = true := (lmb_iff N).2 (by omega)
  simp only [rightB, hl, Bool.true_and, Int.toNat_natCast, rowOf_len, Bool.and_eq_true, beq_iff_eq, Bool.or_eq_true]
  refine ⟨by simp, ?_⟩
  by_cases h0 : N % 64 = 0
  · exact .inl h0
  · right
    have hnw : nw N - 1 < nw N := by unfold nw; omega
    rw [rowOf_at N x _ hnw, Nat.shiftRight_eq_div_pow]
    have e : 64 * (nw N - 1) + N % 64 = N := by unfold nw; omega
    have h1 : x / 2 ^ (64 * (nw N - 1)) < 2 ^ (N % 64) := by
      rw [Nat.div_lt_iff_lt_mul (Nat.two_pow_pos _), Nat.mul_comm, ← Nat.pow_add, e]; exact hx
    rw [Nat.div_eq_zero_iff]
    right
    exact Nat.lt_of_le_of_lt (Nat.mod_le _ _) h1
theorem rowOf_inj {N x y : Nat} (hx : x < 2 ^ N) (hy : y < 2 ^ N) (h : rowOf N x = rowOf N y) : x = y := by
  apply Nat.eq_of_testBit_eq
  intro p
  by_cases hp : p < N
  · rw [← rowOf_bit N x p hp, ← rowOf_bit N y p hp, h]
  · rw [Nat.testBit_lt_two_pow (Nat.lt_of_lt_of_le hx (Nat.pow_le_pow_right (by omega) (by omega))), Nat.testBit_lt_two_pow (Nat.lt_of_lt_of_le hy (Nat.pow_le_pow_right (by omega) (by omega)))]
theorem rowOf_zero (N : Nat) : rowOf N 0 = List.replicate (nw N) 0 := by
  apply List.ext_getElem
  · rw [rowOf_len, List.length_replicate]
  · intro i h1 h2
    simp [rowOf]
end
section
/- bitrow.Get. -/
set_option linter.unusedVariables false
set_option linter.unusedSimpArgs false
open Go.RowKit
/-- What Get tells. -/
def getV (N : Int) (us : List Nat) (i : Int) : Int := if rightB N us && (decide (0 ≤ i) && decide (i < N)) then (bitAt us i.toNat : Nat) else 0
def getE (N : Int) (us : List Nat) (i : Int) : Int := if rightB N us then if decide (0 ≤ i) && decide (i < N) then 0 else 3 else 1
theorem get_bad (N i : Int) (A : Option Addr) (len c : Nat) (us : List Nat) (w : World) (hr : rightB N us = false) (hW : Words w A len us) :
    Calls Try.prog 58 #[.agg #[.int .i64 N, .slice A len c], .int .i64 i] w fun e w' => e = .returned (.tuple #[.int .i64 0, .int .i64 1]) ∧ Below w.heap.size w w' := by
  have Q := Lib.hid (Box.new w 40 #[.int .i64 N, .slice A len c])
  have HB := Lib.hid (show Below w.heap.size w (w.alloc (.cells #[.int .i64 N, .slice A len c] 40)) from (Below.refl _ _).alloc (Nat.le_refl _) _)
  have HR := Lib.hid (right_any N A len c us _ (hW.alloc (.cells #[.int .i64 N, .slice A len c] 40)))
  rw [hr] at HR
  obtain ⟨r0, r1, -, -⟩ := Q.out.two
  clear hW hr
  go_enter Try.func58, Try.ntmps58
  go_wp2_with fail
  refine HR.out.mono ?_
  rintro e w1 ⟨rfl, hb⟩
  have B := Lib.hid (chain HB.out hb)
  clear hb
  go_wp2
  go_ret2
  exact ⟨rfl, B.out⟩
theorem get_far (N i : Int) (A : Option Addr) (len c : Nat) (us : List Nat) (w : World) (hr : rightB N us = true) (hi : (decide (0 ≤ i) && decide (i < N)) = false) (hW : Words w A len us) :
    Calls Try.prog 58 #[.agg #[.int .i64 N, .slice A len c], .int .i64 i] w fun e w' => e = .returned (.tuple #[.int .i64 0, .int .i64 3]) ∧ Below w.heap.size w w' := by
  have Q := Lib.hid (Box.new w 40 #[.int .i64 N, .slice A len c])
  have HB := Lib.hid (show Below w.heap.size w (w.alloc (.cells #[.int .i64 N, .slice A len c] 40)) from (Below.refl _ _).alloc (Nat.le_refl _) _)
  have HR := Lib.hid (right_any N A len c us _ (hW.alloc (.cells #[.int .i64 N, .slice A len c] 40)))
  rw [hr] at HR
  have HI := Lib.hid (isPlace_any N A len c i)
  rw [hi] at HI
  obtain ⟨r0, r1, -, -⟩ := Q.out.two
  clear hW hr hi
  go_enter Try.func58, Try.ntmps58
  go_wp2_with fail
  refine HR.out.mono ?_
  rintro e w1 ⟨rfl, hb⟩
  have B := Lib.hid (chain HB.out hb)
  have Q := Lib.hid (Q.out.keep hb)
  clear hb r0 r1
  obtain ⟨r0, r1, -, -⟩ := Q.out.two
  go_wp2_with fail
  refine (HI.out _).mono ?_
  rintro e w2 ⟨rfl, hb⟩
  have B := Lib.hid (chain B.out hb)
  clear hb
  go_wp2
  go_ret2
  exact ⟨rfl, B.out⟩
set_option maxHeartbeats 1000000 in
theorem get_yes (N i : Nat) (A : Option Addr) (len c : Nat) (us : List Nat) (w : World) (hr : rightB N us = true) (hi : i < N) (hW : Words w A len us) :
    Calls Try.prog 58 #[.agg #[.int .i64 N, .slice A len c], .int .i64 i] w fun e w' => e = .returned (.tuple #[.int .i64 (bitAt us i : Nat), .int .i64 0]) ∧ Below w.heap.size w w' := by
  have hl8 := rightB_len8 hr hW.1
  have hnw : i < 64 * len := by
    have h := hr
    simp only [rightB, Bool.and_eq_true, beq_iff_eq, Int.toNat_natCast] at h
    have h1 := h.1.2
    rw [hW.1] at h1
    unfold nw at h1
    omega
  have Q := Lib.hid (Box.new w 40 #[.int .i64 N, .slice A len c])
  have HB := Lib.hid (show Below w.heap.size w (w.alloc (.cells #[.int .i64 N, .slice A len c] 40)) from (Below.refl _ _).alloc (Nat.le_refl _) _)
  have HW := Lib.hid (hW.alloc (.cells #[.int .i64 N, .slice A len c] 40))
  have HR := Lib.hid (right_any N A len c us _ HW.out)
  rw [hr] at HR
  have HI := Lib.hid (isPlace_any N A len c i)
  rw [show (decide ((0 : Int) ≤ i) && decide ((i : Int) < N)) = true by simp; omega] at HI
  obtain ⟨r0, r1, -, -⟩ := Q.out.two
  clear hW hr
  go_enter Try.func58, Try.ntmps58
  go_wp2_with fail
  refine HR.out.mono ?_
  rintro e w1 ⟨rfl, hb⟩
  have B := Lib.hid (chain HB.out hb)
  have Q := Lib.hid (Q.out.keep hb)
  have HW := Lib.hid (HW.out.below hb)
  clear hb r0 r1
  obtain ⟨r0, r1, -, -⟩ := Q.out.two
  go_wp2_with fail
  refine (HI.out _).mono ?_
  rintro e w2 ⟨rfl, hb⟩
  have B := Lib.hid (chain B.out hb)
  have Q := Lib.hid (Q.out.keep hb)
  have HW := Lib.hid (HW.out.below hb)
  clear hb r0 r1 HI HR HB
  obtain ⟨r0, r1, -, -⟩ := Q.out.two
  obtain ⟨b, off, rfl, hlb, hc⟩ := HW.out.2.2 (by omega)
  have c1 := hc (i / 64) (by omega)
  have hx := HW.out.2.1 (i / 64)
  have hv : bits BinOp.and IntKind.u64 (((us.getD (i / 64) 0 : Nat) : Int) / 2 ^ (i % 64)) 1 = ((bitAt us i : Nat) : Int) := by
    have h1 := Nat.div_le_self (us.getD (i / 64) 0) (2 ^ (i % 64))
    have := u64_and_nat (us.getD (i / 64) 0 / 2 ^ (i % 64)) 1 (by omega) (by omega)
    rw [show us.getD (i / 64) 0 / 2 ^ (i % 64) &&& 1 = bitAt us i from Nat.and_one_is_mod _, Int.natCast_ediv] at this
    simpa using this
  have hb1 : bitAt us i ≤ 1 := by rcases bitAt_le us i with h | h <;> omega
  clear hc
  generalize hme : bitAt us i = v at *
  have HE := Lib.hid hme
  clear hme
  generalize us.getD (i / 64) 0 = x at *
  have g1 : (i : Int).tdiv 64 = ((i / 64 : Nat) : Int) := by rw [Int.tdiv_eq_ediv_of_nonneg (by omega)]; omega
  have g2 : (i : Int).tmod 64 = ((i % 64 : Nat) : Int) := by rw [Int.tmod_eq_emod_of_nonneg (by omega)]; omega
  have g3 : ((i / 64 : Nat) : Int) < (len : Int) := by omega
  go_wp2
  go_ret2
  exact ⟨by rw [HE.out]; rfl, B.out⟩
end
section
/- How a slice of words and a slice of ints that came in are opened (without rows). -/
set_option linter.unusedVariables false
set_option linter.unusedSimpArgs false
open Go.RowKit Go.Joins Go.ChangeShapes Go.WideShapes
theorem cellsU64 : Try.prog.cellsOf 68 = 1 := by kernel_rfl
theorem cellsInt : Try.prog.cellsOf 3 = 1 := by kernel_rfl
theorem addr_at {w : World} {a : Addr} {v : Value} (h : w.cell? (a.add 0) = some v) : ∃ b o, a = ⟨b, o, none⟩ := by
  obtain ⟨b, o, s⟩ := a
  have := World.cell?_spot h
  simp [Addr.add] at this
  subst this
  exact ⟨b, o, rfl⟩
theorem open_words {H : Type} {enc : TypeId × Value → H} {W : World} {fuel : Nat} {cs : List Value} {x : DataW H × List MemPlace}
    (h : DataW.trod enc Try.prog W 0 (fun _ => true) true fuel 38 cs = some x) : ∃ A l c us, cs = [.slice A l c] ∧ SliceOk A l c ∧ Words W A l us := by
  rcases open_ints Try.underlying38 Try.underlying68 cellsU64 h with ⟨hcs, _⟩ | ⟨a, len, cap, zs, hcs, _, hl, hm, hz, _, hcell, hwz⟩
  · exact ⟨none, 0, 0, [], hcs, ⟨Nat.le_refl _, Nat.zero_le _, fun _ => ⟨rfl, rfl⟩⟩, Words.nil _ _⟩
  · have hz' : zs.length = cap := by simpa using hz
    refine ⟨some a, len, cap, (zs.take len).map Int.toNat, hcs, ⟨hl, hm, fun h => by cases h⟩, ?_⟩
    have hget : ∀ j, j < len → ((zs.take len).map Int.toNat).getD j 0 = (zs.getD j 0).toNat := fun j hj => by
      have : j < zs.length := by omega
      simp [List.getD, hj, this]
    have hbd := range_u64 hwz
    refine ⟨by simp; omega, fun j => ?_, fun hp => ?_⟩
    · by_cases hj : j < len
      · rw [hget j hj]
        have := hbd j
        simp only [List.getD]
        omega
      · have hn : ((zs.take len).map Int.toNat)[j]? = none := List.getElem?_eq_none (by simp; omega)
        simp only [List.getD, hn, Option.getD_none]
        omega
    · obtain ⟨b, o, rfl⟩ := addr_at (hcell 0 (by omega))
      have hadd : ∀ j, Addr.add { block := b, off := o } j = ⟨b, o + j, none⟩ := fun j => by
        by_cases h : j = 0 <;> simp [Addr.add, h]
      refine ⟨b, o, rfl, ?_, fun j hj => ?_⟩
      · have := block_lt_of_cell (hcell 0 (by omega))
        rw [hadd] at this
        exact this
      · have := hcell j (by omega)
        rw [hadd] at this
        rw [this, hget j hj]
        have := hbd j
        have e : ((zs.getD j 0).toNat : Int) = zs.getD j 0 := by simp only [List.getD]; omega
        rw [e]
theorem open_nums {H : Type} {enc : TypeId × Value → H} {W : World} {fuel : Nat} {cs : List Value} {x : DataW H × List MemPlace}
    (h : DataW.trod enc Try.prog W 0 (fun _ => true) true fuel 26 cs = some x) : ∃ A l c zs, cs = [.slice A l c] ∧ SliceOk A l c ∧ Ints W A l zs := by
  rcases open_ints Try.underlying26 Try.underlying3 cellsInt h with ⟨hcs, _⟩ | ⟨a, len, cap, zs, hcs, _, hl, hm, hz, _, hcell, hwz⟩
  · exact ⟨none, 0, 0, [], hcs, ⟨Nat.le_refl _, Nat.zero_le _, fun _ => ⟨rfl, rfl⟩⟩, Ints.nil _ _⟩
  · have hz' : zs.length = cap := by simpa using hz
    refine ⟨some a, len, cap, zs.take len, hcs, ⟨hl, hm, fun h => by cases h⟩, ?_⟩
    have hget : ∀ j, j < len → (zs.take len).getD j 0 = zs.getD j 0 := fun j hj => by
      simp [List.getD, hj]
    have hbd := range_i64 hwz
    refine ⟨by simp; omega, fun j => ?_, fun hp => ?_⟩
    · by_cases hj : j < len
      · rw [hget j hj]
        have := hbd j
        simpa only [List.getD] using this
      · have hn : (zs.take len)[j]? = none := List.getElem?_eq_none (by simp; omega)
        simp [List.getD, hn]
    · obtain ⟨b, o, rfl⟩ := addr_at (hcell 0 (by omega))
      have hadd : ∀ j, Addr.add { block := b, off := o } j = ⟨b, o + j, none⟩ := fun j => by
        by_cases h : j = 0 <;> simp [Addr.add, h]
      refine ⟨b, o, rfl, ?_, fun j hj => ?_⟩
      · have := block_lt_of_cell (hcell 0 (by omega))
        rw [hadd] at this
        exact this
      · have := hcell j (by omega)
        rw [hadd] at this
        rw [this, hget j hj]
end
section
/- Matrices in memory: a slice of rows, and what it reads. -/
set_option linter.unusedVariables false
set_option linter.unusedSimpArgs false
open Go.RowKit Go.Joins Go.ChangeShapes Go.WideShapes
/-- The row at a place reads so many bits, and these words. -/
def RowAt (w : World) (b off : Nat) (r : Int × List Nat) : Prop :=
  ∃ B l c, w.cell? ⟨b, off, none⟩ = some (.int .i64 r.1) ∧ w.cell? ⟨b, off + 1, none⟩ = some (.slice B l c) ∧ SliceOk B l c ∧ Words w B l r.2
/-- The slice at A of len rows reads ms; it lies in no block below lo. -/
def MatAt (w : World) (lo : Nat) (A : Option Addr) (len : Nat) (ms : List (Int × List Nat)) : Prop :=
  ms.length = len ∧ (0 < len → ∃ b off, A = some ⟨b, off, none⟩ ∧ lo ≤ b ∧ b < w.heap.size ∧ ∀ j, j < len → RowAt w b (off + j * 2) (ms.getD j (0, [])))
section
variable {w w' : World} {lo : Nat} {A : Option Addr} {len : Nat} {ms : List (Int × List Nat)}
theorem RowAt.below {b off : Nat} {r : Int × List Nat} (h : RowAt w b off r) (hl : b < w.heap.size) (hb : Below w.heap.size w w') : RowAt w' b off r := by
  obtain ⟨B, l, c, h0, h1, h2, h3⟩ := h
  exact ⟨B, l, c, (hb.cell (p := ⟨b, off, none⟩) hl).trans h0, (hb.cell (p := ⟨b, off + 1, none⟩) hl).trans h1, h2, h3.below hb⟩
theorem MatAt.below (h : MatAt w lo A len ms) (hb : Below w.heap.size w w') : MatAt w' lo A len ms := by
  refine ⟨h.1, fun hp => ?_⟩
  obtain ⟨b, off, rfl, h1, h2, h3⟩ := h.2 hp
  exact ⟨b, off, rfl, h1, Nat.lt_of_lt_of_le h2 hb.size, fun j hj => (h3 j hj).below h2 hb⟩
theorem MatAt.mono (h : MatAt w lo A len ms) {B : Nat} (hB : w.heap.size ≤ B) (hb : Below B w w') : MatAt w' lo A len ms := h.below (hb.mono hB)
theorem MatAt.alloc (h : MatAt w lo A len ms) (o : Obj) : MatAt (w.alloc o) lo A len ms := h.below ((Below.refl _ _).alloc (Nat.le_refl _) o)
theorem MatAt.drew (h : MatAt w lo A len ms) : MatAt w.drew lo A len ms := h
theorem MatAt.drewN (h : MatAt w lo A len ms) (n : Nat) : MatAt (w.drewN n) lo A len ms := h
theorem MatAt.low (h : MatAt w lo A len ms) {l2 : Nat} (hl : l2 ≤ lo) : MatAt w l2 A len ms := by
  refine ⟨h.1, fun hp => ?_⟩
  obtain ⟨b, off, rfl, h1, h2, h3⟩ := h.2 hp
  exact ⟨b, off, rfl, by omega, h2, h3⟩
theorem MatAt.nil (w : World) (lo : Nat) (A : Option Addr) : MatAt w lo A 0 [] := ⟨rfl, fun h => by omega⟩
theorem MatAt.at (h : MatAt w lo A len ms) (j : Nat) (hj : j < len) : ∃ b off B l c, A = some ⟨b, off, none⟩ ∧ b < w.heap.size ∧ w.cell? ⟨b, off + j * 2, none⟩ = some (.int .i64 (ms.getD j (0, [])).1) ∧ w.cell? ⟨b, off + j * 2 + 1, none⟩ = some (.slice B l c) ∧ SliceOk B l c ∧ Words w B l (ms.getD j (0, [])).2 := by
  obtain ⟨b, off, rfl, h1, h2, h3⟩ := h.2 (by omega)
  obtain ⟨B, l, c, r0, r1, r2, r3⟩ := h3 j hj
  exact ⟨b, off, B, l, c, rfl, h2, r0, r1, r2, r3⟩
/-- A store into a box of a row or a matrix below. -/
theorem MatAt.far (h : MatAt w lo A len ms) {g : Nat} {t : TypeId} {x : Int} {S : Option Addr} {p q : Nat} (hb : Box w g t #[.int .i64 x, .slice S p q]) (hg : g < lo) (i : Nat) (u : Value) : MatAt (w.setCell ⟨g, i, none⟩ u) lo A len ms := by
  refine ⟨h.1, fun hp => ?_⟩
  obtain ⟨b, off, rfl, h1, h2, h3⟩ := h.2 hp
  refine ⟨b, off, rfl, h1, by simpa [World.setCell] using h2, fun j hj => ?_⟩
  obtain ⟨B, l, c, r0, r1, r2, r3⟩ := h3 j hj
  refine ⟨B, l, c, ?_, ?_, r2, ?_⟩
  · rw [World.cell?_setCell_other _ _ _ _ (by intro e; injection e; omega)]; exact r0
  · rw [World.cell?_setCell_other _ _ _ _ (by intro e; injection e; omega)]; exact r1
  · refine ⟨r3.1, r3.2.1, fun hp => ?_⟩
    obtain ⟨b', off', rfl, hlt, hc⟩ := r3.2.2 hp
    have hne := r3.off hb b' off' rfl hp
    refine ⟨b', off', rfl, by simpa [World.setCell] using hlt, fun j hj => ?_⟩
    rw [World.cell?_setCell_other _ _ _ _ (by intro e; injection e; omega)]
    exact hc j hj
theorem MatAt.put2 (h : MatAt w lo A len ms) {g : Nat} {t : TypeId} {x y : Int} {S : Option Addr} {p q : Nat} (hb : Box w g t #[.int .i64 x, .slice S p q]) (hg : g < lo) (v : Value) : MatAt ((w.setCell ⟨g, 0, none⟩ (.int .i64 y)).setCell ⟨g, 1, none⟩ v) lo A len ms :=
  (h.far hb hg 0 _).far (hb.put 0 (.int .i64 y)) hg 1 v
theorem MatAt.take (h : MatAt w lo A len ms) (k : Nat) (hk : k ≤ len) : MatAt w lo A k (ms.take k) := by
  refine ⟨by simp [h.1]; omega, fun hp => ?_⟩
  obtain ⟨b, off, rfl, h1, h2, h3⟩ := h.2 (by omega)
  refine ⟨b, off, rfl, h1, h2, fun j hj => ?_⟩
  have := h3 j (by omega)
  simpa [List.getD, List.getElem?_take, hj] using this
theorem MatAt.lt (h : MatAt w lo A len ms) (j i : Nat) : (ms.getD j (0, [])).2.getD i 0 < 18446744073709551616 := by
  by_cases hj : j < len
  · obtain ⟨b, off, rfl, h1, h2, h3⟩ := h.2 (by omega)
    obtain ⟨B, l, c, r0, r1, r2, r3⟩ := h3 j hj
    exact r3.2.1 i
  · have : ms[j]? = none := List.getElem?_eq_none (by rw [h.1]; omega)
    simp [List.getD, this]
end
theorem cellsRowM : Try.prog.cellsOf 40 = 2 := by kernel_rfl
theorem cellsIntM : Try.prog.cellsOf 3 = 1 := by kernel_rfl
theorem cellsWsM : Try.prog.cellsOf 38 = 1 := by kernel_rfl
theorem cellsRowsM : Try.prog.cellsOf 22 = 1 := by kernel_rfl
theorem cellsMatM : Try.prog.cellsOf 24 = 2 := by kernel_rfl
/-- A slice of rows that came in. -/
theorem open_rows {H : Type} {enc : TypeId × Value → H} {W : World} {fuel : Nat} {cs : List Value} {x : DataW H × List MemPlace}
    (h : DataW.trod enc Try.prog W 0 (fun _ => true) true fuel 22 cs = some x) : ∃ A l c ms, cs = [.slice A l c] ∧ SliceOk A l c ∧ MatAt W 0 A l ms := by
  rcases Go.Deep.open_slice_pairs Try.underlying22 Try.underlying40 cellsRowM rfl rfl cellsIntM cellsWsM h with ⟨hcs, _⟩ | ⟨a, len, cap, m, n, V0, V1, D0, D1, P0, P1, hcs, _, hl, hm, hmm, _, hx⟩
  · exact ⟨none, 0, 0, [], hcs, ⟨Nat.le_refl _, Nat.zero_le _, fun _ => ⟨rfl, rfl⟩⟩, MatAt.nil _ _ _⟩
  · have hmm' : m = cap := by simpa using hmm
    have each : ∀ i, i < len → ∃ r : Int × List Nat, ∃ B l c, V0 i = .int .i64 r.1 ∧ V1 i = .slice B l c ∧ SliceOk B l c ∧ Words W B l r.2 := fun i hi => by
      obtain ⟨h0, h1, h2, h3⟩ := hx i (by omega)
      obtain ⟨z, e0, -, wz⟩ := DataW.trod_int Try.underlying3 h2
      obtain ⟨B, l, c, us, e1, s1, ws⟩ := open_words h3
      simp at e0 e1
      exact ⟨(z, us), B, l, c, e0, e1, s1, ws⟩
    obtain ⟨q, hq⟩ := Go.Deep.choose_lt each
    refine ⟨some a, len, cap, (List.range len).map q, hcs, ⟨hl, hm, fun h => by cases h⟩, by simp, fun hp => ?_⟩
    obtain ⟨b, o, ha⟩ : ∃ b o, a = ⟨b, o, none⟩ := by
      have := (hx 0 (by omega)).1
      exact addr_at (by simpa using this)
    subst ha
    have hadd : ∀ j, Addr.add { block := b, off := o } j = ⟨b, o + j, none⟩ := fun j => by
      by_cases h : j = 0 <;> simp [Addr.add, h]
    refine ⟨b, o, rfl, Nat.zero_le _, ?_, fun j hj => ?_⟩
    · have := block_lt_of_cell (hx 0 (by omega)).1
      rw [hadd] at this
      exact this
    · obtain ⟨h0, h1, -, -⟩ := hx j (by omega)
      rw [hadd] at h0 h1
      obtain ⟨B, l, c, e0, e1, s1, ws⟩ := hq j hj
      have hg : ((List.range len).map q).getD j (0, []) = q j := by simp [List.getD, hj]
      rw [hg]
      rw [e0] at h0
      rw [e1] at h1
      exact ⟨B, l, c, h0, h1, s1, ws⟩
set_option maxRecDepth 100000 in
/-- A matrix that came in. -/
theorem open_mat {H : Type} {enc : TypeId × Value → H} {W : World} {r : Reach} {b0 : Nat} {v : Value} {d : DataW H} {p : List MemPlace}
    (hv : Value.okWide Try.prog W r b0 24 v) (h : DataW.Trod enc Try.prog W 0 (fun _ => true) true 24 v d p) :
    ∃ n A l c ms, v = .agg #[.int .i64 n, .slice A l c] ∧ (Lit.int .i64 n).wf = true ∧ SliceOk A l c ∧ MatAt W 0 A l ms := by
  obtain ⟨c0, c1, y0, y1, m, rfl, rfl, rfl, hy0, hy1⟩ := open_agg2 Try.underlying24 (by kernel_rfl) cellsMatM hv h
  obtain ⟨a, e0, -, wa⟩ := DataW.trod_int Try.underlying3 hy0
  obtain ⟨A, l, c, ms, e1, hs, hw⟩ := open_rows hy1
  simp at e0 e1
  subst e0 e1
  exact ⟨a, A, l, c, ms, rfl, wa, hs, hw⟩
end
end Go.Proofs.Ytdfmogcgangdnaa
