/- DegreeTables: the walk. -/
import Derived.Test.YtjfiaeoknmfniaaRefD5
namespace Go.Proofs.Ytjfiaeoknmfniaa
open Go.RowKit
set_option maxRecDepth 100000 in
set_option maxHeartbeats 2000000 in
theorem tables_in_in (K : Nat) (k1 : 1 ≤ K) (k2 : K ≤ 64) (N : Nat) (hN : N ≤ 2147483647) (w : World) : Calls Try.prog 7 #[.int .i64 (K : Int), .int .i64 (N : Int)] w fun e w' => e = .returned (.bool true) ∧ Below w.heap.size w w' := by
  have HR := Lib.hid (root_yes N hN)
  have HRR := Lib.hid (refRoot_any N hN)
  generalize root N = r at *
  have tR : ((r : Int) != (r : Int)) = false := by simp
  have z1 : decide ((0 : Int) ≤ (N : Int)) = true := by simp
  have z2 : (N : Int) ≤ 2147483647 := by omega
  have HWN := Lib.hid (weightsN_any K k1 k2)
  have HTN := Lib.hid (tableN_any K k1 k2)
  have HWR := Lib.hid (refWeights_any K k1 k2)
  have HTR := Lib.hid (refTable_any K k1 k2)
  have HWL := Lib.hid (wgts_len K K)
  have HTL := Lib.hid ((tbl_len (wgts K K)).trans (wgts_len K K))
  have HWb := Lib.hid (wgts_lt K k1 k2)
  have HTb := Lib.hid (tbl_lt (wgts K K))
  have y1 : decide ((K : Int) < 1) = false := by simp; omega
  have y2 : decide ((64 : Int) < (K : Int)) = false := by simp; omega
  generalize hT : tbl (wgts K K) = ts at *
  clear hT
  generalize wgts K K = ws at *
  go_enter Try.func7, Try.ntmps7
  go_wp2_with fail
  refine (HR.out _).mono ?_
  rintro e w1 ⟨rfl, hb⟩
  have B := Lib.hid hb
  clear hb
  go_wp2_with fail
  refine (HWN.out _).mono ?_
  rintro e w2 ⟨v1, rfl, ho1, hb⟩
  rw [HWL.out] at ho1
  obtain ⟨A1, c1, rfl, q1, q1', hw1⟩ := own_slice ho1 HWb.out
  have W1 := Lib.hid hw1
  have B := Lib.hid (chain B.out hb)
  clear ho1 hw1 hb
  go_wp2_with fail
  refine (HTN.out _).mono ?_
  rintro e w3 ⟨v2, rfl, ho2, hb⟩
  rw [HTL.out] at ho2
  obtain ⟨A2, c2, rfl, q2, q2', hw2⟩ := own_slice ho2 HTb.out
  have W1 := Lib.hid (W1.out.below hb)
  have W2 := Lib.hid hw2
  have B := Lib.hid (chain B.out hb)
  clear ho2 hw2 hb
  go_wp2_with fail
  refine (HRR.out _).mono ?_
  rintro e w4 ⟨rfl, rfl⟩
  go_wp2_with fail
  refine (alive7_any _).mono ?_
  rintro e w5 ⟨rfl, hb⟩
  have W1 := Lib.hid (W1.out.below hb)
  have W2 := Lib.hid (W2.out.below hb)
  have B := Lib.hid (chain B.out hb)
  clear hb
  go_wp2_with fail
  refine (HWR.out _).mono ?_
  rintro e w6 ⟨v3, rfl, ho3, hb⟩
  rw [HWL.out] at ho3
  obtain ⟨A3, c3, rfl, q3, q3', hw3⟩ := own_slice ho3 HWb.out
  have W1 := Lib.hid (W1.out.below hb)
  have W2 := Lib.hid (W2.out.below hb)
  have W3 := Lib.hid hw3
  have B := Lib.hid (chain B.out hb)
  clear ho3 hw3 hb
  go_wp2_with fail
  refine (same7_any A1 A3 K c1 K c3 ws ws _ W1.out W3.out (by omega) (by omega)).mono ?_
  rintro e w7 ⟨rfl, hb⟩
  rw [beq_self_eq_true]
  have W2 := Lib.hid (W2.out.below hb)
  have B := Lib.hid (chain B.out hb)
  clear hb
  go_wp2_with fail
  refine (HTR.out _).mono ?_
  rintro e w8 ⟨v4, rfl, ho4, hb⟩
  rw [HTL.out] at ho4
  obtain ⟨A4, c4, rfl, q4, q4', hw4⟩ := own_slice ho4 HTb.out
  have W2 := Lib.hid (W2.out.below hb)
  have W4 := Lib.hid hw4
  have B := Lib.hid (chain B.out hb)
  clear ho4 hw4 hb
  go_wp2_with fail
  refine (same7_any A2 A4 K c2 K c4 ts ts _ W2.out W4.out (by omega) (by omega)).mono ?_
  rintro e w9 ⟨rfl, hb⟩
  rw [beq_self_eq_true]
  have B := Lib.hid (chain B.out hb)
  clear hb
  go_wp2_with fail
  go_ret
  exact ⟨by simp, B.out⟩
set_option maxRecDepth 100000 in
set_option maxHeartbeats 2000000 in
theorem tables_in_neg (k : Int) (hk : k < 1) (N : Nat) (hN : N ≤ 2147483647) (w : World) : Calls Try.prog 7 #[.int .i64 k, .int .i64 (N : Int)] w fun e w' => e = .returned (.bool true) ∧ Below w.heap.size w w' := by
  have HR := Lib.hid (root_yes N hN)
  have HRR := Lib.hid (refRoot_any N hN)
  generalize root N = r at *
  have tR : ((r : Int) != (r : Int)) = false := by simp
  have z1 : decide ((0 : Int) ≤ (N : Int)) = true := by simp
  have z2 : (N : Int) ≤ 2147483647 := by omega
  have HWN := Lib.hid (weightsN_no k (kmb_no (by omega)))
  have HTN := Lib.hid (tableN_no k (kmb_no (by omega)))
  have y1 : decide (k < 1) = true := by simp; omega
  go_enter Try.func7, Try.ntmps7
  go_wp2_with fail
  refine (HR.out _).mono ?_
  rintro e w1 ⟨rfl, hb⟩
  have B := Lib.hid hb
  clear hb
  go_wp2_with fail
  refine (HWN.out _).mono ?_
  rintro e w2 ⟨rfl, hb⟩
  have B := Lib.hid (chain B.out hb)
  clear hb
  go_wp2_with fail
  refine (HTN.out _).mono ?_
  rintro e w3 ⟨rfl, hb⟩
  have B := Lib.hid (chain B.out hb)
  clear hb
  go_wp2_with fail
  refine (HRR.out _).mono ?_
  rintro e w4 ⟨rfl, rfl⟩
  go_wp2_with fail
  refine (alive7_any _).mono ?_
  rintro e w5 ⟨rfl, hb⟩
  have B := Lib.hid (chain B.out hb)
  clear hb
  go_wp2_with fail
  go_ret
  exact ⟨by simp, B.out⟩
set_option maxRecDepth 100000 in
set_option maxHeartbeats 2000000 in
theorem tables_in_big (k : Int) (hk : 64 < k) (N : Nat) (hN : N ≤ 2147483647) (w : World) : Calls Try.prog 7 #[.int .i64 k, .int .i64 (N : Int)] w fun e w' => e = .returned (.bool true) ∧ Below w.heap.size w w' := by
  have HR := Lib.hid (root_yes N hN)
  have HRR := Lib.hid (refRoot_any N hN)
  generalize root N = r at *
  have tR : ((r : Int) != (r : Int)) = false := by simp
  have z1 : decide ((0 : Int) ≤ (N : Int)) = true := by simp
  have z2 : (N : Int) ≤ 2147483647 := by omega
  have HWN := Lib.hid (weightsN_no k (kmb_no (by omega)))
  have HTN := Lib.hid (tableN_no k (kmb_no (by omega)))
  have y1 : decide (k < 1) = false := by simp; omega
  have y2 : decide (64 < k) = true := by simp; omega
  go_enter Try.func7, Try.ntmps7
  go_wp2_with fail
  refine (HR.out _).mono ?_
  rintro e w1 ⟨rfl, hb⟩
  have B := Lib.hid hb
  clear hb
  go_wp2_with fail
  refine (HWN.out _).mono ?_
  rintro e w2 ⟨rfl, hb⟩
  have B := Lib.hid (chain B.out hb)
  clear hb
  go_wp2_with fail
  refine (HTN.out _).mono ?_
  rintro e w3 ⟨rfl, hb⟩
  have B := Lib.hid (chain B.out hb)
  clear hb
  go_wp2_with fail
  refine (HRR.out _).mono ?_
  rintro e w4 ⟨rfl, rfl⟩
  go_wp2_with fail
  refine (alive7_any _).mono ?_
  rintro e w5 ⟨rfl, hb⟩
  have B := Lib.hid (chain B.out hb)
  clear hb
  go_wp2_with fail
  go_ret
  exact ⟨by simp, B.out⟩
set_option maxRecDepth 100000 in
set_option maxHeartbeats 2000000 in
theorem tables_neg_in (K : Nat) (k1 : 1 ≤ K) (k2 : K ≤ 64) (n : Int) (hn : n < 0) (w : World) : Calls Try.prog 7 #[.int .i64 (K : Int), .int .i64 n] w fun e w' => e = .returned (.bool true) ∧ Below w.heap.size w w' := by
  have HR := Lib.hid (root_no n (.inl hn))
  have z1 : decide (0 ≤ n) = false := by simp; omega
  have HWN := Lib.hid (weightsN_any K k1 k2)
  have HTN := Lib.hid (tableN_any K k1 k2)
  have HWR := Lib.hid (refWeights_any K k1 k2)
  have HTR := Lib.hid (refTable_any K k1 k2)
  have HWL := Lib.hid (wgts_len K K)
  have HTL := Lib.hid ((tbl_len (wgts K K)).trans (wgts_len K K))
  have HWb := Lib.hid (wgts_lt K k1 k2)
  have HTb := Lib.hid (tbl_lt (wgts K K))
  have y1 : decide ((K : Int) < 1) = false := by simp; omega
  have y2 : decide ((64 : Int) < (K : Int)) = false := by simp; omega
  generalize hT : tbl (wgts K K) = ts at *
  clear hT
  generalize wgts K K = ws at *
  go_enter Try.func7, Try.ntmps7
  go_wp2_with fail
  refine (HR.out _).mono ?_
  rintro e w1 ⟨rfl, hb⟩
  have B := Lib.hid hb
  clear hb
  go_wp2_with fail
  refine (HWN.out _).mono ?_
  rintro e w2 ⟨v1, rfl, ho1, hb⟩
  rw [HWL.out] at ho1
  obtain ⟨A1, c1, rfl, q1, q1', hw1⟩ := own_slice ho1 HWb.out
  have W1 := Lib.hid hw1
  have B := Lib.hid (chain B.out hb)
  clear ho1 hw1 hb
  go_wp2_with fail
  refine (HTN.out _).mono ?_
  rintro e w3 ⟨v2, rfl, ho2, hb⟩
  rw [HTL.out] at ho2
  obtain ⟨A2, c2, rfl, q2, q2', hw2⟩ := own_slice ho2 HTb.out
  have W1 := Lib.hid (W1.out.below hb)
  have W2 := Lib.hid hw2
  have B := Lib.hid (chain B.out hb)
  clear ho2 hw2 hb
  go_wp2_with fail
  refine (alive7_any _).mono ?_
  rintro e w5 ⟨rfl, hb⟩
  have W1 := Lib.hid (W1.out.below hb)
  have W2 := Lib.hid (W2.out.below hb)
  have B := Lib.hid (chain B.out hb)
  clear hb
  go_wp2_with fail
  refine (HWR.out _).mono ?_
  rintro e w6 ⟨v3, rfl, ho3, hb⟩
  rw [HWL.out] at ho3
  obtain ⟨A3, c3, rfl, q3, q3', hw3⟩ := own_slice ho3 HWb.out
  have W1 := Lib.hid (W1.out.below hb)
  have W2 := Lib.hid (W2.out.below hb)
  have W3 := Lib.hid hw3
  have B := Lib.hid (chain B.out hb)
  clear ho3 hw3 hb
  go_wp2_with fail
  refine (same7_any A1 A3 K c1 K c3 ws ws _ W1.out W3.out (by omega) (by omega)).mono ?_
  rintro e w7 ⟨rfl, hb⟩
  rw [beq_self_eq_true]
  have W2 := Lib.hid (W2.out.below hb)
  have B := Lib.hid (chain B.out hb)
  clear hb
  go_wp2_with fail
  refine (HTR.out _).mono ?_
  rintro e w8 ⟨v4, rfl, ho4, hb⟩
  rw [HTL.out] at ho4
  obtain ⟨A4, c4, rfl, q4, q4', hw4⟩ := own_slice ho4 HTb.out
  have W2 := Lib.hid (W2.out.below hb)
  have W4 := Lib.hid hw4
  have B := Lib.hid (chain B.out hb)
  clear ho4 hw4 hb
  go_wp2_with fail
  refine (same7_any A2 A4 K c2 K c4 ts ts _ W2.out W4.out (by omega) (by omega)).mono ?_
  rintro e w9 ⟨rfl, hb⟩
  rw [beq_self_eq_true]
  have B := Lib.hid (chain B.out hb)
  clear hb
  go_wp2_with fail
  go_ret
  exact ⟨by simp, B.out⟩
set_option maxRecDepth 100000 in
set_option maxHeartbeats 2000000 in
theorem tables_neg_neg (k : Int) (hk : k < 1) (n : Int) (hn : n < 0) (w : World) : Calls Try.prog 7 #[.int .i64 k, .int .i64 n] w fun e w' => e = .returned (.bool true) ∧ Below w.heap.size w w' := by
  have HR := Lib.hid (root_no n (.inl hn))
  have z1 : decide (0 ≤ n) = false := by simp; omega
  have HWN := Lib.hid (weightsN_no k (kmb_no (by omega)))
  have HTN := Lib.hid (tableN_no k (kmb_no (by omega)))
  have y1 : decide (k < 1) = true := by simp; omega
  go_enter Try.func7, Try.ntmps7
  go_wp2_with fail
  refine (HR.out _).mono ?_
  rintro e w1 ⟨rfl, hb⟩
  have B := Lib.hid hb
  clear hb
  go_wp2_with fail
  refine (HWN.out _).mono ?_
  rintro e w2 ⟨rfl, hb⟩
  have B := Lib.hid (chain B.out hb)
  clear hb
  go_wp2_with fail
  refine (HTN.out _).mono ?_
  rintro e w3 ⟨rfl, hb⟩
  have B := Lib.hid (chain B.out hb)
  clear hb
  go_wp2_with fail
  refine (alive7_any _).mono ?_
  rintro e w5 ⟨rfl, hb⟩
  have B := Lib.hid (chain B.out hb)
  clear hb
  go_wp2_with fail
  go_ret
  exact ⟨by simp, B.out⟩
set_option maxRecDepth 100000 in
set_option maxHeartbeats 2000000 in
theorem tables_neg_big (k : Int) (hk : 64 < k) (n : Int) (hn : n < 0) (w : World) : Calls Try.prog 7 #[.int .i64 k, .int .i64 n] w fun e w' => e = .returned (.bool true) ∧ Below w.heap.size w w' := by
  have HR := Lib.hid (root_no n (.inl hn))
  have z1 : decide (0 ≤ n) = false := by simp; omega
  have HWN := Lib.hid (weightsN_no k (kmb_no (by omega)))
  have HTN := Lib.hid (tableN_no k (kmb_no (by omega)))
  have y1 : decide (k < 1) = false := by simp; omega
  have y2 : decide (64 < k) = true := by simp; omega
  go_enter Try.func7, Try.ntmps7
  go_wp2_with fail
  refine (HR.out _).mono ?_
  rintro e w1 ⟨rfl, hb⟩
  have B := Lib.hid hb
  clear hb
  go_wp2_with fail
  refine (HWN.out _).mono ?_
  rintro e w2 ⟨rfl, hb⟩
  have B := Lib.hid (chain B.out hb)
  clear hb
  go_wp2_with fail
  refine (HTN.out _).mono ?_
  rintro e w3 ⟨rfl, hb⟩
  have B := Lib.hid (chain B.out hb)
  clear hb
  go_wp2_with fail
  refine (alive7_any _).mono ?_
  rintro e w5 ⟨rfl, hb⟩
  have B := Lib.hid (chain B.out hb)
  clear hb
  go_wp2_with fail
  go_ret
  exact ⟨by simp, B.out⟩
set_option maxRecDepth 100000 in
set_option maxHeartbeats 2000000 in
theorem tables_big_in (K : Nat) (k1 : 1 ≤ K) (k2 : K ≤ 64) (n : Int) (hn : 2147483647 < n) (w : World) : Calls Try.prog 7 #[.int .i64 (K : Int), .int .i64 n] w fun e w' => e = .returned (.bool true) ∧ Below w.heap.size w w' := by
  have HR := Lib.hid (root_no n (.inr hn))
  have z1 : 0 ≤ n := by omega
  have z2 : decide (n ≤ 2147483647) = false := by simp; omega
  have HWN := Lib.hid (weightsN_any K k1 k2)
  have HTN := Lib.hid (tableN_any K k1 k2)
  have HWR := Lib.hid (refWeights_any K k1 k2)
  have HTR := Lib.hid (refTable_any K k1 k2)
  have HWL := Lib.hid (wgts_len K K)
  have HTL := Lib.hid ((tbl_len (wgts K K)).trans (wgts_len K K))
  have HWb := Lib.hid (wgts_lt K k1 k2)
  have HTb := Lib.hid (tbl_lt (wgts K K))
  have y1 : decide ((K : Int) < 1) = false := by simp; omega
  have y2 : decide ((64 : Int) < (K : Int)) = false := by simp; omega
  generalize hT : tbl (wgts K K) = ts at *
  clear hT
  generalize wgts K K = ws at *
  go_enter Try.func7, Try.ntmps7
  go_wp2_with fail
  refine (HR.out _).mono ?_
  rintro e w1 ⟨rfl, hb⟩
  have B := Lib.hid hb
  clear hb
  go_wp2_with fail
  refine (HWN.out _).mono ?_
  rintro e w2 ⟨v1, rfl, ho1, hb⟩
  rw [HWL.out] at ho1
  obtain ⟨A1, c1, rfl, q1, q1', hw1⟩ := own_slice ho1 HWb.out
  have W1 := Lib.hid hw1
  have B := Lib.hid (chain B.out hb)
  clear ho1 hw1 hb
  go_wp2_with fail
  refine (HTN.out _).mono ?_
  rintro e w3 ⟨v2, rfl, ho2, hb⟩
  rw [HTL.out] at ho2
  obtain ⟨A2, c2, rfl, q2, q2', hw2⟩ := own_slice ho2 HTb.out
  have W1 := Lib.hid (W1.out.below hb)
  have W2 := Lib.hid hw2
  have B := Lib.hid (chain B.out hb)
  clear ho2 hw2 hb
  go_wp2_with fail
  refine (alive7_any _).mono ?_
  rintro e w5 ⟨rfl, hb⟩
  have W1 := Lib.hid (W1.out.below hb)
  have W2 := Lib.hid (W2.out.below hb)
  have B := Lib.hid (chain B.out hb)
  clear hb
  go_wp2_with fail
  refine (HWR.out _).mono ?_
  rintro e w6 ⟨v3, rfl, ho3, hb⟩
  rw [HWL.out] at ho3
  obtain ⟨A3, c3, rfl, q3, q3', hw3⟩ := own_slice ho3 HWb.out
  have W1 := Lib.hid (W1.out.below hb)
  have W2 := Lib.hid (W2.out.below hb)
  have W3 := Lib.hid hw3
  have B := Lib.hid (chain B.out hb)
  clear ho3 hw3 hb
  go_wp2_with fail
  refine (same7_any A1 A3 K c1 K c3 ws ws _ W1.out W3.out (by omega) (by omega)).mono ?_
  rintro e w7 ⟨rfl, hb⟩
  rw [beq_self_eq_true]
  have W2 := Lib.hid (W2.out.below hb)
  have B := Lib.hid (chain B.out hb)
  clear hb
  go_wp2_with fail
  refine (HTR.out _).mono ?_
  rintro e w8 ⟨v4, rfl, ho4, hb⟩
  rw [HTL.out] at ho4
  obtain ⟨A4, c4, rfl, q4, q4', hw4⟩ := own_slice ho4 HTb.out
  have W2 := Lib.hid (W2.out.below hb)
  have W4 := Lib.hid hw4
  have B := Lib.hid (chain B.out hb)
  clear ho4 hw4 hb
  go_wp2_with fail
  refine (same7_any A2 A4 K c2 K c4 ts ts _ W2.out W4.out (by omega) (by omega)).mono ?_
  rintro e w9 ⟨rfl, hb⟩
  rw [beq_self_eq_true]
  have B := Lib.hid (chain B.out hb)
  clear hb
  go_wp2_with fail
  go_ret
  exact ⟨by simp, B.out⟩
set_option maxRecDepth 100000 in
set_option maxHeartbeats 2000000 in
theorem tables_big_neg (k : Int) (hk : k < 1) (n : Int) (hn : 2147483647 < n) (w : World) : Calls Try.prog 7 #[.int .i64 k, .int .i64 n] w fun e w' => e = .returned (.bool true) ∧ Below w.heap.size w w' := by
  have HR := Lib.hid (root_no n (.inr hn))
  have z1 : 0 ≤ n := by omega
  have z2 : decide (n ≤ 2147483647) = false := by simp; omega
  have HWN := Lib.hid (weightsN_no k (kmb_no (by omega)))
  have HTN := Lib.hid (tableN_no k (kmb_no (by omega)))
  have y1 : decide (k < 1) = true := by simp; omega
  go_enter Try.func7, Try.ntmps7
  go_wp2_with fail
  refine (HR.out _).mono ?_
  rintro e w1 ⟨rfl, hb⟩
  have B := Lib.hid hb
  clear hb
  go_wp2_with fail
  refine (HWN.out _).mono ?_
  rintro e w2 ⟨rfl, hb⟩
  have B := Lib.hid (chain B.out hb)
  clear hb
  go_wp2_with fail
  refine (HTN.out _).mono ?_
  rintro e w3 ⟨rfl, hb⟩
  have B := Lib.hid (chain B.out hb)
  clear hb
  go_wp2_with fail
  refine (alive7_any _).mono ?_
  rintro e w5 ⟨rfl, hb⟩
  have B := Lib.hid (chain B.out hb)
  clear hb
  go_wp2_with fail
  go_ret
  exact ⟨by simp, B.out⟩
set_option maxRecDepth 100000 in
set_option maxHeartbeats 2000000 in
theorem tables_big_big (k : Int) (hk : 64 < k) (n : Int) (hn : 2147483647 < n) (w : World) : Calls Try.prog 7 #[.int .i64 k, .int .i64 n] w fun e w' => e = .returned (.bool true) ∧ Below w.heap.size w w' := by
  have HR := Lib.hid (root_no n (.inr hn))
  have z1 : 0 ≤ n := by omega
  have z2 : decide (n ≤ 2147483647) = false := by simp; omega
  have HWN := Lib.hid (weightsN_no k (kmb_no (by omega)))
  have HTN := Lib.hid (tableN_no k (kmb_no (by omega)))
  have y1 : decide (k < 1) = false := by simp; omega
  have y2 : decide (64 < k) = true := by simp; omega
  go_enter Try.func7, Try.ntmps7
  go_wp2_with fail
  refine (HR.out _).mono ?_
  rintro e w1 ⟨rfl, hb⟩
  have B := Lib.hid hb
  clear hb
  go_wp2_with fail
  refine (HWN.out _).mono ?_
  rintro e w2 ⟨rfl, hb⟩
  have B := Lib.hid (chain B.out hb)
  clear hb
  go_wp2_with fail
  refine (HTN.out _).mono ?_
  rintro e w3 ⟨rfl, hb⟩
  have B := Lib.hid (chain B.out hb)
  clear hb
  go_wp2_with fail
  refine (alive7_any _).mono ?_
  rintro e w5 ⟨rfl, hb⟩
  have B := Lib.hid (chain B.out hb)
  clear hb
  go_wp2_with fail
  go_ret
  exact ⟨by simp, B.out⟩
theorem tables_walk (k n : Int) (w : World) : Calls Try.prog 7 #[.int .i64 k, .int .i64 n] w fun e w' => e = .returned (.bool true) ∧ Below w.heap.size w w' := by
  by_cases a : n < 0
  · by_cases b : k < 1
    · exact tables_neg_neg k b n a w
    · by_cases c : 64 < k
      · exact tables_neg_big k c n a w
      · obtain ⟨K, rfl⟩ := Int.eq_ofNat_of_zero_le (show 0 ≤ k by omega)
        exact tables_neg_in K (by omega) (by omega) n a w
  · by_cases a2 : 2147483647 < n
    · by_cases b : k < 1
      · exact tables_big_neg k b n a2 w
      · by_cases c : 64 < k
        · exact tables_big_big k c n a2 w
        · obtain ⟨K, rfl⟩ := Int.eq_ofNat_of_zero_le (show 0 ≤ k by omega)
          exact tables_big_in K (by omega) (by omega) n a2 w
    · obtain ⟨N, rfl⟩ := Int.eq_ofNat_of_zero_le (show 0 ≤ n by omega)
      by_cases b : k < 1
      · exact tables_in_neg k b N (by omega) w
      · by_cases c : 64 < k
        · exact tables_in_big k c N (by omega) w
        · obtain ⟨K, rfl⟩ := Int.eq_ofNat_of_zero_le (show 0 ≤ k by omega)
          exact tables_in_in K (by omega) (by omega) N (by omega) w
end Go.Proofs.Ytjfiaeoknmfniaa
