/- Contracts of the reference's words, Bit and Right. -/
import Derived.Test.YtljooknodnblbaaBitrow1
namespace Go.Proofs.Ytljooknodnblbaa
set_option linter.unusedVariables false
set_option linter.unusedSimpArgs false
open Go.RowKit
theorem refWords_any (n : Nat) (h : n ≤ 1000000) (w : World) : Calls Try.prog 30 #[.int .i64 n] w fun e w' => e = .returned (.int .i64 (nw n)) ∧ w = w' := by
  go_enter Try.func30, Try.ntmps30
  go_wp2
  go_ret
  exact ⟨congrArg (fun z => Ending.returned (.int .i64 z)) (by unfold nw; omega), rfl⟩
def bitAt (us : List Nat) (i : Nat) : Nat := us.getD (i / 64) 0 / 2 ^ (i % 64) % 2
theorem bit_any (n : Int) (A : Option Addr) (l c i : Nat) (us : List Nat) (w : World) (hu : Words w A l us) (hi : i < 64 * l) (hl : l ≤ 1000000) :
    Calls Try.prog 24 #[.agg #[.int .i64 n, .slice A l c], .int .i64 i] w fun e w' => e = .returned (.int .i64 (bitAt us i : Nat)) ∧ Below w.heap.size w w' := by
  obtain ⟨b, o, rfl, hlt, hc⟩ := hu.2.2 (by omega)
  have c1 := hc (i / 64) (by omega)
  have hx := hu.2.1 (i / 64)
  have HV : Hid ((((us.getD (i / 64) 0 : Nat) : Int) / 2 ^ (i % 64)) % 2 = ((bitAt us i : Nat) : Int)) := by
    show _ = _
    unfold bitAt
    have e : ((us.getD (i / 64) 0 : Nat) : Int) / 2 ^ (i % 64) = ((us.getD (i / 64) 0 / 2 ^ (i % 64) : Nat) : Int) := by simp [Int.natCast_ediv]
    rw [e]; omega
  generalize us.getD (i / 64) 0 = x at *
  have hle : (x : Int) / 2 ^ (i % 64) ≤ x := by
    have e : (x : Int) / 2 ^ (i % 64) = ((x / 2 ^ (i % 64) : Nat) : Int) := by simp [Int.natCast_ediv]
    rw [e]
    have := Nat.div_le_self x (2 ^ (i % 64))
    omega
  have hge : 0 ≤ (x : Int) / 2 ^ (i % 64) := by
    have e : (x : Int) / 2 ^ (i % 64) = ((x / 2 ^ (i % 64) : Nat) : Int) := by simp [Int.natCast_ediv]
    rw [e]; exact Int.natCast_nonneg _
  clear hc hu
  go_enter Try.func24, Try.ntmps24
  go_wp2
  go_ret
  exact ⟨congrArg (fun z => Ending.returned (.int .i64 z)) HV.out, (Below.refl _ _).alloc (Nat.le_refl _) _⟩
theorem rightB_core (n l : Nat) (us : List Nat) (h : lmb n = true) (hl : us.length = l) (hn : l = nw n) : rightB n us = (n % 64 == 0 || us.getD (l - 1) 0 / 2 ^ (n % 64) == 0) := by
  unfold rightB
  rw [h, Int.toNat_natCast, hl, hn]
  simp
theorem right_of_bits (n l : Nat) (us : List Nat) (h : lmb n = true) (hl : us.length = l) (hn : l = nw n) (hlt : ∀ j, us.getD j 0 < 18446744073709551616) (hb : ∀ i, n ≤ i → i < 64 * l → bitAt us i = 0) : rightB n us = true := by
  rw [rightB_core n l us h hl hn]
  by_cases h0 : n % 64 = 0
  · simp [h0]
  · have hp : 1 ≤ l := by rw [hn]; unfold nw; omega
    have hd : n / 64 = l - 1 := by rw [hn]; unfold nw; omega
    have : us.getD (l - 1) 0 < 2 ^ (n % 64) := by
      apply Nat.lt_pow_two_of_testBit
      intro i hi
      by_cases hi64 : i < 64
      · have := hb (64 * (l - 1) + i) (by omega) (by omega)
        unfold bitAt at this
        rw [show (64 * (l - 1) + i) / 64 = l - 1 by omega, show (64 * (l - 1) + i) % 64 = i by omega] at this
        rw [Nat.testBit_eq_decide_div_mod_eq, this]
        rfl
      · exact Nat.testBit_lt_two_pow (Nat.lt_of_lt_of_le (hlt (l - 1)) (show 2 ^ 64 ≤ 2 ^ i from Nat.pow_le_pow_right (by omega) (by omega)))
    have e : us.getD (l - 1) 0 / 2 ^ (n % 64) = 0 := Nat.div_eq_of_lt this
    rw [e]; simp
theorem not_right_of_bit (n l i : Nat) (us : List Nat) (h : lmb n = true) (hl : us.length = l) (hn : l = nw n) (h1 : n ≤ i) (h2 : i < 64 * l) (hb : bitAt us i = 1) : rightB n us = false := by
  rw [rightB_core n l us h hl hn]
  have hnw : nw n = (n + 63) / 64 := rfl
  have h0 : ¬ n % 64 = 0 := by omega
  have hd : i / 64 = l - 1 := by omega
  have hr : n % 64 ≤ i % 64 := by omega
  unfold bitAt at hb
  rw [hd] at hb
  have hne : us.getD (l - 1) 0 / 2 ^ (n % 64) ≠ 0 := by
    intro e
    have hp : 0 < 2 ^ (n % 64) := Nat.two_pow_pos _
    have hlt : us.getD (l - 1) 0 < 2 ^ (n % 64) := by
      rcases Nat.div_eq_zero_iff.1 e with h | h
      · omega
      · exact h
    have : us.getD (l - 1) 0 / 2 ^ (i % 64) = 0 := Nat.div_eq_of_lt (Nat.lt_of_lt_of_le hlt (Nat.pow_le_pow_right (by omega) hr))
    rw [this] at hb
    simp at hb
  have e1 : (n % 64 == 0) = false := by simpa using h0
  have e2 : (us.getD (l - 1) 0 / 2 ^ (n % 64) == 0) = false := by rw [beq_eq_false_iff_ne]; exact hne
  rw [e1, e2]; rfl
theorem bitAt_le (us : List Nat) (i : Nat) : bitAt us i = 0 ∨ bitAt us i = 1 := by unfold bitAt; omega
set_option maxHeartbeats 400000 in
theorem refRight_any (n : Int) (A : Option Addr) (l c : Nat) (us : List Nat) (w : World) (hw : Words w A l us) :
    Calls Try.prog 19 #[.agg #[.int .i64 n, .slice A l c]] w fun e w' => e = .returned (.bool (rightB n us)) ∧ Below w.heap.size w w' := by
  have Q := Lib.hid (Box.new w 37 #[.int .i64 n, .slice A l c])
  have HW := Lib.hid (show Below w.heap.size w (w.alloc (.cells #[.int .i64 n, .slice A l c] 37)) from (Below.refl _ _).alloc (Nat.le_refl _) _)
  have HU := Lib.hid hw
  clear hw
  by_cases h0 : n < 0
  · have HF : Hid (rightB n us = false) := by
      show rightB n us = false
      unfold rightB
      rw [(lmb_no n).2 (by omega)]; rfl
    have t : decide (n < 0) = true := by simpa using h0
    go_enter Try.func19, Try.ntmps19
    go_wp2_with fail
    go_quiet (fail)
    go_wp2
    go_ret
    exact ⟨by rw [HF.out]; rfl, bdN HW.out _⟩
  · have t : decide (n < 0) = false := by simpa using h0
    by_cases h1 : 512 < n
    · have HF : Hid (rightB n us = false) := by
        show rightB n us = false
        unfold rightB
        rw [(lmb_no n).2 (by omega)]; rfl
      have t1 : decide (512 < n) = true := by simpa using h1
      go_enter Try.func19, Try.ntmps19
      go_wp2_with fail
      go_quiet (fail)
      go_wp2
      go_ret
      exact ⟨by rw [HF.out]; rfl, bdN HW.out _⟩
    · obtain ⟨m, rfl⟩ := Int.eq_ofNat_of_zero_le (show 0 ≤ n by omega)
      have t1 : decide ((512 : Int) < (m : Int)) = false := by simpa using h1
      have hlm : lmb m = true := (lmb_iff m).2 ⟨by omega, by omega⟩
      have HLM := Lib.hid hlm
      have H2 := Lib.hid (refWords_any m (by omega))
      clear hlm
      by_cases hl : l = nw m
      · have t2 : ((l : Int) != (nw m : Int)) = false := by simp [hl]
        have hnw : nw m ≤ 8 := by unfold nw; omega
        have hl8 : l ≤ 8 := by omega
        have HL := Lib.hid hl
        clear hl hnw
        have hm64 : m ≤ 512 := by omega
        go_enter Try.func19, Try.ntmps19
        go_wp2_with fail
        go_quiet ((go_at_call 30; exact quiet_w (H2.out _)))
        go_wp2
        clear t t1 t2
        go_loopw [3] (fun s wr => ∃ i : Nat, m ≤ i ∧ i ≤ 64 * l + 1000 ∧ s = .int .i64 i ∧ (∀ k, m ≤ k → k < i → bitAt us k = 0) ∧ Box wr w.heap.size 37 #[.int .i64 m, .slice A l c] ∧ Below w.heap.size w wr)
          (fun s _ => 64 * l + 1000 - (intOf s).toNat)
        case atStart => exact ⟨m, Nat.le_refl _, by omega, rfl, fun k h1 h2 => by omega, Q.out.drewN _, bdN HW.out _⟩
        case round =>
          obtain ⟨i, hi1, hi2, rfl, hz, B0, hbel⟩ := hrel
          have R0 := Lib.hid B0
          have HB := Lib.hid hbel
          have HZ := Lib.hid hz
          clear B0 hbel hz Q HW
          obtain ⟨a0, a1, -, -⟩ := R0.out.two
          by_cases hlt : i < 64 * l
          · have hlt' : (i : Int) < 64 * (l : Int) := by omega
            go_wp2_with fail
            refine (bit_any _ A l c i us _ (HU.out.below HB.out) hlt (by omega)).mono ?_
            rintro e w1 ⟨rfl, hb⟩
            have R1 := Lib.hid (R0.out.keep hb)
            have HC := Lib.hid (chain HB.out hb)
            clear hb a0 a1
            rcases bitAt_le us i with hb | hb
            · have HV := Lib.hid hb
              rw [hb]
              clear hb
              go_wp2
              go_roundw
              case rel =>
                refine ⟨i + 1, by omega, by omega, by go_num, fun k h1 h2 => ?_, R1.out, HC.out⟩
                by_cases h : k = i
                · rw [h]; exact HV.out
                · exact HZ.out k h1 (by omega)
              case measure => simp [intOf]; omega
            · have HF := Lib.hid (not_right_of_bit m l i us HLM.out HU.out.1 HL.out hi1 hlt hb)
              rw [hb]
              clear hb
              go_wp2
              go_ret
              exact ⟨by rw [HF.out]; rfl, HC.out⟩
          · have hlt' : ¬ (i : Int) < 64 * (l : Int) := by omega
            have HF := Lib.hid (right_of_bits m l us HLM.out HU.out.1 HL.out HU.out.2.1 (fun k h1 h2 => HZ.out k h1 (by omega)))
            go_wp2
            go_ret
            exact ⟨by rw [HF.out]; rfl, HB.out⟩
      · have t2 : ((l : Int) != (nw m : Int)) = true := by rw [bne_iff_ne]; omega
        have HF : Hid (rightB m us = false) := by
          show rightB m us = false
          unfold rightB
          have : (us.length == nw m) = false := by rw [HU.out.1]; simpa using hl
          rw [HLM.out, Int.toNat_natCast, this]; rfl
        go_enter Try.func19, Try.ntmps19
        go_wp2_with fail
        go_quiet ((go_at_call 30; exact quiet_w (H2.out _)))
        go_wp2
        go_ret
        exact ⟨by rw [HF.out]; rfl, bdN HW.out _⟩
end Go.Proofs.Ytljooknodnblbaa
