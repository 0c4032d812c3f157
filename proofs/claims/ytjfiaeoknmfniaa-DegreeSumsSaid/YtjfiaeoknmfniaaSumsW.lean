/- DegreeSums: the walk. -/
import Derived.Test.YtjfiaeoknmfniaaDegS1
import Derived.Test.YtjfiaeoknmfniaaRootsX
namespace Go.Proofs.Ytjfiaeoknmfniaa
open Go.RowKit
set_option maxRecDepth 100000 in
set_option maxHeartbeats 4000000 in
theorem sumsD_walk (k0 : Int) (n : Nat) (hn : n < 18446744073709551616) (w : World) : Calls Try.prog 9 #[.int .i64 k0, .int .u64 n] w fun e w' => e = .returned (.bool true) ∧ Below w.heap.size w w' := by
  obtain ⟨m, hm, hm2⟩ := turn_mod k0 64 (by omega)
  obtain ⟨k, hk⟩ : ∃ k, k = m + 1 := ⟨_, rfl⟩
  have HM := Lib.hid (show k0.tmod 64 % 64 + 1 = (k : Int) by rw [hm, hk]; simp)
  have k1 : 1 ≤ k := by omega
  have k2 : k ≤ 64 := by omega
  have t1 := Int.tmod_lt_of_pos k0 (show (0 : Int) < 64 by omega)
  have t2 : -64 < k0.tmod 64 := Int.lt_tmod_of_pos k0 (by omega)
  clear hm hk hm2
  have HT := Lib.hid (tab_k k k1 k2)
  have HWL := Lib.hid (wgts_len k k)
  have HTL := Lib.hid ((tbl_len (wgts k k)).trans (wgts_len k k))
  have HWN := Lib.hid (weightsN_any k k1 k2)
  have HTN := Lib.hid (tableN_any k k1 k2)
  have HWb := Lib.hid (wgts_lt k k1 k2)
  have HTb := Lib.hid (tbl_lt (wgts k k))
  have HPR := Lib.hid (pick_range (tab_k k k1 k2) n)
  have HPO := Lib.hid (fun i hi => pick_own (tab_k k k1 k2) i hi)
  have HPN := Lib.hid (fun i hi => pick_next (tab_k k k1 k2) i hi)
  have HNE := Lib.hid (fun i hi => wgt_ne (tab_k k k1 k2) i hi)
  have HAT := Lib.hid (tbl_at (wgts k k))
  have HST := Lib.hid (sumN_take (wgts k k))
  have HR := Lib.hid (root_spec k (by omega))
  go_enter Try.func9, Try.ntmps9
  go_wp2_with fail
  simp only [Int.add_emod_right]
  rw [HM.out]
  clear t1 t2 HM
  refine (HWN.out _).mono ?_
  rintro e w1 ⟨v1, rfl, ho1, hb⟩
  rw [HWL.out] at ho1
  obtain ⟨A1, c1, rfl, q1, q1', hw1⟩ := own_slice ho1 HWb.out
  have W1 := Lib.hid hw1
  have B1 := Lib.hid hb
  clear ho1 hw1 hb HWN
  go_wp2_with fail
  refine (HTN.out _).mono ?_
  rintro e w2 ⟨v2, rfl, ho2, hb⟩
  rw [HTL.out] at ho2
  obtain ⟨A2, c2, rfl, q2, q2', hw2⟩ := own_slice ho2 HTb.out
  have W1 := Lib.hid (W1.out.below hb)
  have W2 := Lib.hid hw2
  have B2 := Lib.hid (chain B1.out hb)
  clear ho2 hw2 hb HTN
  generalize wgts k k = ws at *
  generalize tbl ws = ts at *
  go_wp2_with fail
  refine (pick_yes A2 k c2 ts n _ W2.out (by unfold maxLen; omega) q2 hn HT.out).mono ?_
  rintro e w3 ⟨rfl, hb⟩
  have W1 := Lib.hid (W1.out.below hb)
  have W2 := Lib.hid (W2.out.below hb)
  have B3 := Lib.hid (chain B2.out hb)
  clear hb
  obtain ⟨p1, p2⟩ := HPR.out
  rw [HTL.out] at p2
  generalize pickD ts n = d at *
  have z1 : decide ((d : Int) < 1) = false := by simp; omega
  have z2 : decide (k < d) = false := by simp; omega
  go_wp2_with fail
  refine (alive7_any _).mono ?_
  rintro e w4 ⟨rfl, hb⟩
  have W1 := Lib.hid (W1.out.below hb)
  have W2 := Lib.hid (W2.out.below hb)
  have B4 := Lib.hid (chain B3.out hb)
  clear hb HPR
  go_wp2_with fail
  go_loopw [11, 79] (fun s c wr => ∃ i : Nat, i ≤ k ∧ c = .int .i64 i ∧ s = .int .u64 (sumN (ws.take i) : Nat) ∧ Words wr A1 k ws ∧ Words wr A2 k ts ∧ Below w.heap.size w wr) (fun _ c _ => k - (intOf c).toNat)
  case atStart => exact ⟨0, by omega, rfl, rfl, W1.out, W2.out, B4.out⟩
  case round =>
    obtain ⟨i, hi, rfl, rfl, hw1, hw2, hbel⟩ := hrel
    have W1 := Lib.hid hw1
    have W2 := Lib.hid hw2
    have B4 := Lib.hid hbel
    clear hw1 hw2 hbel B1 B2 B3
    by_cases hlt : i < k
    · have hlt' : (i : Int) < k := by omega
      obtain ⟨ba, oa, hA1, hla, hca⟩ := W1.out.2.2 (by omega)
      subst hA1
      obtain ⟨bb, oo, hA2, hlb, hcb⟩ := W2.out.2.2 (by omega)
      subst hA2
      have cA := hca i hlt
      have cB := hcb i hlt
      clear hca hcb
      have hne := HNE.out i (by rw [HWL.out]; exact hlt)
      have HSU := Lib.hid ((HAT.out i (by rw [HWL.out]; exact hlt)).symm)
      have hsu := HST.out i (by rw [HWL.out]; exact hlt)
      rw [HSU.out] at hsu
      have HP1 := Lib.hid (HPO.out i (by rw [HTL.out]; exact hlt))
      have HPY := Lib.hid (HPN.out i (by rw [HTL.out]; exact hlt))
      rw [HTL.out] at HPY
      have hyl := HTb.out i
      have hy0 : 1 ≤ ts.getD i 0 := (rises_at ts 0 i (tab_at HT.out).2.2 (by rw [HTL.out]; exact hlt)).1
      have hwn := wrap_nat (sumN (ws.take i)) (ws.getD i 0)
      rw [← hsu] at hwn
      clear hsu
      generalize sumN (ws.take i) = s0 at *
      generalize ws.getD i 0 = x at *
      generalize hY : ts.getD i 0 = y at *
      have HY := Lib.hid hY
      clear hY
      have tx : ((x : Int) == 0) = false := beq_eq_false_iff_ne.2 (by omega)
      by_cases hlast : i = k - 1
      · skip
        have HP2 := Lib.hid (show pickD ts y = 1 by have := HPY.out; rw [if_pos hlast] at this; exact this)
        have ti : ((i : Int) == (k : Int) - 1) = true := beq_iff_eq.2 (by omega)
        clear hlast
        go_wp2_with fail
        rw [show (y : Int) - 1 = ((y - 1 : Nat) : Int) by omega]
        refine (pick_yes (some ⟨bb, oo, none⟩) k c2 ts (y - 1) _ W2.out (by unfold maxLen; omega) q2 (by omega) HT.out).mono ?_
        rintro e w5 ⟨rfl, hb⟩
        rw [HP1.out]
        have W1 := Lib.hid (W1.out.below hb)
        have W2 := Lib.hid (W2.out.below hb)
        have B5 := Lib.hid (chain B4.out hb)
        clear hb cA cB
        obtain ⟨b2, off2, hA2, hl2, hc2⟩ := W2.out.2.2 (by omega)
        obtain ⟨rfl, rfl⟩ : b2 = bb ∧ off2 = oo := by
          have := Option.some.inj hA2
          injection this with e1 e2
          exact ⟨e1.symm, e2.symm⟩
        have cB := hc2 i hlt
        rw [HY.out] at cB
        clear hc2 hA2
        go_wp2_with fail
        refine (pick_yes (some ⟨b2, off2, none⟩) k c2 ts y _ W2.out (by unfold maxLen; omega) q2 (by omega) HT.out).mono ?_
        rintro e w6 ⟨rfl, hb⟩
        rw [HP2.out]
        have W1 := Lib.hid (W1.out.below hb)
        have W2 := Lib.hid (W2.out.below hb)
        have B6 := Lib.hid (chain B5.out hb)
        clear hb cB
        obtain ⟨b3, off3, hA3, hl3, hc3⟩ := W2.out.2.2 (by omega)
        obtain ⟨rfl, rfl⟩ : b3 = b2 ∧ off3 = off2 := by
          have := Option.some.inj hA3
          injection this with e1 e2
          exact ⟨e1.symm, e2.symm⟩
        have cB := hc3 i hlt
        rw [HY.out] at cB
        clear hc3 hA3
        go_wp2_with fail
        go_roundw
        case rel => exact ⟨i + 1, by omega, by go_num, by rw [HSU.out], W1.out, W2.out, B6.out⟩
        case measure => simp [intOf] <;> omega
      · skip
        have HP2 := Lib.hid (show pickD ts y = i + 2 by have := HPY.out; rw [if_neg hlast] at this; exact this)
        have ti : ((i : Int) == (k : Int) - 1) = false := beq_eq_false_iff_ne.2 (by omega)
        clear hlast
        go_wp2_with fail
        rw [show (y : Int) - 1 = ((y - 1 : Nat) : Int) by omega]
        refine (pick_yes (some ⟨bb, oo, none⟩) k c2 ts (y - 1) _ W2.out (by unfold maxLen; omega) q2 (by omega) HT.out).mono ?_
        rintro e w5 ⟨rfl, hb⟩
        rw [HP1.out]
        have W1 := Lib.hid (W1.out.below hb)
        have W2 := Lib.hid (W2.out.below hb)
        have B5 := Lib.hid (chain B4.out hb)
        clear hb cA cB
        obtain ⟨b2, off2, hA2, hl2, hc2⟩ := W2.out.2.2 (by omega)
        obtain ⟨rfl, rfl⟩ : b2 = bb ∧ off2 = oo := by
          have := Option.some.inj hA2
          injection this with e1 e2
          exact ⟨e1.symm, e2.symm⟩
        have cB := hc2 i hlt
        rw [HY.out] at cB
        clear hc2 hA2
        go_wp2_with fail
        refine (pick_yes (some ⟨b2, off2, none⟩) k c2 ts y _ W2.out (by unfold maxLen; omega) q2 (by omega) HT.out).mono ?_
        rintro e w6 ⟨rfl, hb⟩
        rw [HP2.out]
        have W1 := Lib.hid (W1.out.below hb)
        have W2 := Lib.hid (W2.out.below hb)
        have B6 := Lib.hid (chain B5.out hb)
        clear hb cB
        obtain ⟨b3, off3, hA3, hl3, hc3⟩ := W2.out.2.2 (by omega)
        obtain ⟨rfl, rfl⟩ : b3 = b2 ∧ off3 = off2 := by
          have := Option.some.inj hA3
          injection this with e1 e2
          exact ⟨e1.symm, e2.symm⟩
        have cB := hc3 i hlt
        rw [HY.out] at cB
        clear hc3 hA3
        go_wp2_with fail
        go_roundw
        case rel => exact ⟨i + 1, by omega, by go_num, by rw [HSU.out], W1.out, W2.out, B6.out⟩
        case measure => simp [intOf] <;> omega
    · obtain rfl : i = k := by omega
      obtain ⟨r1, r2, _, r3⟩ := HR.out
      have HRY := Lib.hid (root_yes i (by omega))
      generalize root i = r at *
      have hr8 : r ≤ 8 := by
        rcases Nat.lt_or_ge 8 r with e | e
        · have := sq_le (show 9 ≤ r from e); omega
        · exact e
      have m1 : (r : Int) * (r : Int) ≤ i := by rw [sq_cast]; omega
      have m2 : (i : Int) < ((r : Int) + 1) * ((r : Int) + 1) := by
        have : ((r : Int) + 1) * ((r : Int) + 1) = (((r + 1) * (r + 1) : Nat) : Int) := by simp
        rw [this]; omega
      have m3 : ((r : Int) + 1) * ((r : Int) + 1) ≤ 100 := by
        have : ((r : Int) + 1) * ((r : Int) + 1) = (((r + 1) * (r + 1) : Nat) : Int) := by simp
        have h9 : (r + 1) * (r + 1) ≤ 9 * 9 := Nat.mul_le_mul (by omega) (by omega)
        rw [this]; omega
      have m4 : 0 ≤ (r : Int) * (r : Int) := by rw [sq_cast]; omega
      have hlt' : ¬ (i : Int) < i := by omega
      go_wp2_with fail
      refine (HRY.out _).mono ?_
      rintro e w5 ⟨rfl, hb⟩
      have B5 := Lib.hid (chain B4.out hb)
      clear hb
      go_wp2_with fail
      go_ret
      exact ⟨by simp, B5.out⟩
end Go.Proofs.Ytjfiaeoknmfniaa
