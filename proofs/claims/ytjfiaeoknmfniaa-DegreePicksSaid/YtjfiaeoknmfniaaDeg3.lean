/- Contracts of layer 7's reference: Right, Pick. -/
import Derived.Test.YtjfiaeoknmfniaaDeg2
namespace Go.Proofs.Ytjfiaeoknmfniaa
open Go.RowKit
theorem tab_rises (ws : List Nat) : tabB ws = (risesFrom 0 ws && (decide (1 ≤ ws.length) && decide (ws.length ≤ 64))) := by
  unfold tabB; rw [Bool.and_comm]
set_option maxHeartbeats 1000000 in
theorem refRight7_any (A : Option Addr) (l c : Nat) (ws : List Nat) (w : World) (hw : Words w A l ws) (hl : l ≤ maxLen) (hlc : l ≤ c) :
    Calls Try.prog 34 #[.slice A l c] w fun e w' => e = .returned (.bool (tabB ws)) ∧ ∃ q, w' = w.drewN q := by
  unfold maxLen at hl
  have hlen := hw.1
  have HL := Lib.hid hlen
  have HW := Lib.hid hw
  have HT := Lib.hid (tab_rises ws)
  clear hlen hw
  go_enter Try.func34, Try.ntmps34
  go_wp2_with fail
  go_loopw [7] (fun i wr => ∃ k : Nat, k ≤ l ∧ i = .int .i64 k ∧ Hid (risesFrom 0 (ws.take k) = true) ∧ ∃ q, wr = w.drewN q) (fun i _ => l - (intOf i).toNat)
  case atStart => exact ⟨0, by omega, rfl, Lib.hid (by simp [risesFrom]), 0, rfl⟩
  case round =>
    obtain ⟨k, hk, rfl, HN, q, rfl⟩ := hrel
    by_cases hlt : k < l
    · have hkl' : (k : Int) < (l : Int) := by omega
      obtain ⟨b, off, rfl, hb, hc⟩ := HW.out.2.2 (by omega)
      have c1 := hc k hlt
      by_cases h0 : k = 0
      · subst h0
        clear hc
        rw [Nat.add_zero] at c1
        rw [show ((0 : Nat) : Int) = 0 from rfl]
        have hy : lastOf ws 0 = 0 := rfl
        by_cases hx : ws.getD 0 0 ≤ lastOf ws 0
        · have HE := Lib.hid (rises_no ws 0 (by rw [HL.out]; exact hlt) hx)
          rw [hy] at hx
          obtain ⟨x, hxx⟩ : ∃ x, x = ws.getD 0 0 := ⟨_, rfl⟩
          rw [← hxx] at c1 hx
          clear hy hxx
          obtain rfl : x = 0 := by omega
          go_wp2
          go_ret
          exact ⟨by rw [HT.out, HE.out]; rfl, q, rfl⟩
        · have HE := Lib.hid (rises_go ws 0 (by rw [HL.out]; exact hlt) hx HN.out)
          rw [hy] at hx
          obtain ⟨x, hxx⟩ : ∃ x, x = ws.getD 0 0 := ⟨_, rfl⟩
          rw [← hxx] at c1 hx
          clear hy hxx
          have t : ((x : Int) == 0) = false := beq_eq_false_iff_ne.2 (by omega)
          go_wp2
          go_roundw
          case rel => exact ⟨1, by omega, by go_num, HE, q, rfl⟩
          case measure => simp [intOf] <;> omega
      · have c0 := hc (k - 1) (by omega)
        have hy : lastOf ws k = ws.getD (k - 1) 0 := by simp [lastOf, h0]
        clear hc
        have t0 : ((k : Int) == 0) = false := beq_eq_false_iff_ne.2 (by omega)
        have g1 : (0 : Int) < k := by omega
        have g3 : ((k : Int) - 1).toNat = k - 1 := by omega
        have HK := Lib.hid h0
        clear h0
        by_cases hx : ws.getD k 0 ≤ lastOf ws k
        · have HE := Lib.hid (rises_no ws k (by rw [HL.out]; exact hlt) hx)
          rw [hy] at hx
          clear hy
          generalize ws.getD k 0 = x at *
          generalize ws.getD (k - 1) 0 = y at *
          have t : (x : Int) ≤ (y : Int) := by omega
          go_wp2
          go_ret
          exact ⟨by rw [HT.out, HE.out]; rfl, q, rfl⟩
        · have HE := Lib.hid (rises_go ws k (by rw [HL.out]; exact hlt) hx HN.out)
          rw [hy] at hx
          clear hy
          generalize ws.getD k 0 = x at *
          generalize ws.getD (k - 1) 0 = y at *
          have t : ¬ (x : Int) ≤ (y : Int) := by omega
          go_wp2
          go_roundw
          case rel => exact ⟨k + 1, by omega, by go_num, HE, q, rfl⟩
          case measure => simp [intOf] <;> omega
    · obtain rfl : l = k := by omega
      have hkl' : ¬ (l : Int) < (l : Int) := by omega
      have HE := Lib.hid (show tabB ws = (decide (1 ≤ l) && decide (l ≤ 64)) by have := HN.out; rw [List.take_of_length_le (by rw [HL.out]; omega)] at this; rw [HT.out, this, HL.out]; rfl)
      by_cases h1 : 1 ≤ l
      · by_cases h2 : l ≤ 64
        · have g1 : (1 : Int) ≤ l := by omega
          have g2 : (l : Int) ≤ 64 := by omega
          go_wp2
          go_ret
          exact ⟨by rw [HE.out, decide_eq_true h1, decide_eq_true h2]; rfl, q, rfl⟩
        · have g1 : (1 : Int) ≤ l := by omega
          have g2 : decide ((l : Int) ≤ 64) = false := by simp; omega
          have g3 : ¬ (l : Int) ≤ 64 := by omega
          go_wp2
          go_ret
          exact ⟨by rw [HE.out, decide_eq_false h2]; simp, q, rfl⟩
      · obtain rfl : l = 0 := by omega
        go_wp2
        go_ret
        exact ⟨by rw [HE.out]; rfl, q, rfl⟩
set_option maxHeartbeats 1000000 in
theorem refPick_any (A : Option Addr) (l c : Nat) (ws : List Nat) (n : Nat) (w : World) (hw : Words w A l ws) (hl : l ≤ maxLen) (hlc : l ≤ c) (hn : n < 18446744073709551616) (ht : tabB ws = true) :
    Calls Try.prog 35 #[.slice A l c, .int .u64 n] w fun e w' => e = .returned (.int .i64 (pickD ws n : Nat)) ∧ ∃ q, w' = w.drewN q := by
  unfold maxLen at hl
  obtain ⟨h1, h64, hr⟩ := tab_at ht
  have hp := last_pos ht
  have hlen := hw.1
  rw [hlen] at h1 h64 hp
  obtain ⟨b, off, rfl, hb, hc⟩ := hw.2.2 h1
  have c1 := hc (l - 1) (by omega)
  have HPD := Lib.hid (show pickD ws n = pickN ws (n % ws.getD (l - 1) 0) + 1 by rw [pickD, hlen])
  have HM := Lib.hid (rises_mono ws hr)
  have HC := Lib.hid hc
  have HL := Lib.hid hlen
  have HLT := Lib.hid (Nat.mod_lt n hp)
  clear hw hc hlen ht hr
  have g1 : (1 : Int) ≤ l := by omega
  have g2 : (l : Int) ≤ 64 := by omega
  have g3 : ((l : Int) - 1).toNat = l - 1 := by omega
  generalize hX : ws.getD (l - 1) 0 = x at *
  have HX := Lib.hid hX
  clear hX
  have g4 : (0 : Int) < x := by omega
  have g5 : (x : Int) ≠ 0 := by omega
  go_enter Try.func35, Try.ntmps35
  go_wp2_with fail
  go_loop [17] (fun i => ∃ k : Nat, k ≤ l ∧ i = .int .i64 k ∧ Hid (∀ i, i < k → ws.getD i 0 ≤ n % x)) (fun i => l - (intOf i).toNat)
  case atStart => exact ⟨0, by omega, rfl, Lib.hid (fun i hi => by omega)⟩
  case round =>
    obtain ⟨k, hk, rfl, HN⟩ := hrel
    by_cases hlt : k < l
    · have hkl' : (k : Int) < (l : Int) := by omega
      have c2 := HC.out k hlt
      by_cases hx : n % x < ws.getD k 0
      · have HE := Lib.hid (pickN_of ws (n % x) k HN.out (fun i h1 h2 => by have := HM.out k i h1 h2; omega) (by rw [HL.out]; omega))
        have t : (n : Int) % (x : Int) < (ws.getD k 0 : Nat) := by omega
        generalize ws.getD k 0 = y at *
        go_wp2
        go_ret
        exact ⟨by rw [HPD.out, HE.out]; rfl, 0, rfl⟩
      · have HE := Lib.hid (show ∀ i, i < k + 1 → ws.getD i 0 ≤ n % x from fun i hi => by
          by_cases e : i = k
          · rw [e]; omega
          · exact HN.out i (by omega))
        have t : ¬ (n : Int) % (x : Int) < (ws.getD k 0 : Nat) := by omega
        generalize ws.getD k 0 = y at *
        go_wp2
        go_round
        case rel => exact ⟨k + 1, by omega, by go_num, HE⟩
        case measure => simp [intOf] <;> omega
    · exfalso
      have := HN.out (l - 1) (by omega)
      have := HLT.out
      have := HX.out
      omega
end Go.Proofs.Ytjfiaeoknmfniaa
