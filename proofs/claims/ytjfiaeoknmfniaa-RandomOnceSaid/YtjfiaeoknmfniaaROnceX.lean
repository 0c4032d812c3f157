/- RandomOnce: the walk. -/
import Derived.Test.YtjfiaeoknmfniaaRndO2
namespace Go.Proofs.Ytjfiaeoknmfniaa
open Go.RowKit
theorem NatsAt.take {w : World} {g : Nat} {zs : List Nat} (h : NatsAt w g zs) (k : Nat) : NatsAt w g (zs.take k) := fun j hj => by
  have hj' : j < zs.length := Nat.lt_of_lt_of_le hj (by simp; omega)
  have : (zs.take k).getD j 0 = zs.getD j 0 := by
    have : j < k := by simp at hj; omega
    simp [List.getD, List.getElem?_take, this]
  rw [this]
  exact h j hj'
theorem some_facts (n many s : Nat) (h1 : 1 ≤ n) (hs : s < 18446744073709551616) (j : Nat) (hj : j < (someN n many s).length) :
    (someN n many s).getD j 0 < n ∧ (someN n many s).getD j 0 ∈ (shufN n s).2.take many ∧ (0 < j → (someN n many s).getD (j - 1) 0 < (someN n many s).getD j 0) := by
  have e : (someN n many s).getD j 0 = (someN n many s)[j] := by simp [List.getD, hj]
  have hm : (someN n many s)[j] ∈ someN n many s := List.getElem_mem hj
  have hf := List.mem_filter.1 (show (someN n many s)[j] ∈ (List.range n).filter _ from hm)
  refine ⟨by rw [e]; simpa using hf.1, by rw [e]; simpa using hf.2, fun h0 => ?_⟩
  have e2 : (someN n many s).getD (j - 1) 0 = (someN n many s)[j - 1] := by simp [List.getD, show j - 1 < (someN n many s).length by omega]
  rw [e, e2]
  have hp : (someN n many s).Pairwise (· < ·) := (range_sorted n).sublist List.filter_sublist
  exact List.pairwise_iff_getElem.1 hp (j - 1) j (by omega) hj (by omega)
set_option maxRecDepth 100000 in
set_option maxHeartbeats 4000000 in
theorem once_walk (s : Nat) (n many : Int) (hs : s < 18446744073709551616) (w : World) :
    Calls Try.prog 5 #[.int .u64 s, .int .i64 n, .int .i64 many] w fun e w' => e = .returned (.bool true) ∧ Below w.heap.size w w' := by
  obtain ⟨r, er, hr1, hr2⟩ := rem_int n 512 (by omega)
  have er : n.tmod 512 = r := er
  obtain ⟨N, eN, hN1, hN2⟩ : ∃ N : Nat, r % 512 + 1 = (N : Int) ∧ 1 ≤ N ∧ N ≤ 512 := ⟨(r % 512 + 1).toNat, by omega, by omega, by omega⟩
  obtain ⟨r2, er2, hr3, hr4⟩ := rem_int many (N + 1) (by omega)
  have er2 : many.tmod ((N : Int) + 1) = r2 := er2
  have hr3 : -((N : Int) + 1) < r2 := by omega
  have hr4 : r2 < (N : Int) + 1 := by omega
  obtain ⟨M, eM, hM⟩ : ∃ M : Nat, (r2 + (N : Int) + 1) % ((N : Int) + 1) = (M : Int) ∧ M ≤ N := by
    have h1 := Int.emod_nonneg (r2 + (N : Int) + 1) (b := (N : Int) + 1) (by omega)
    have h2 := Int.emod_lt_of_pos (r2 + (N : Int) + 1) (b := (N : Int) + 1) (by omega)
    exact ⟨((r2 + (N : Int) + 1) % ((N : Int) + 1)).toNat, by omega, by omega⟩
  have hN3 : (1 : Int) ≤ (N : Int) := by omega
  go_enter Try.func5, Try.ntmps5
  go_wp2_with fail
  rw [eM]
  have HP := Lib.hid (shufN_perm N s hN1 hs).1
  have HSL := Lib.hid (some_len N M s hN1 hs hM)
  have HSF := Lib.hid (some_facts N M s hN1 hs)
  refine (shuffle_yes s N hs hN1 hN2 _).mono ?_
  rintro e w1 ⟨g1, rfl, hn1, hz1, -, hg1, hb⟩
  have B := Lib.hid hb
  have A1 := Lib.hid hn1
  have L1 := Lib.hid hz1
  clear hb hn1 hz1 er eN er2 eM
  go_wp2_with fail
  refine (some_yes s N M hs hN1 hN2 hM _).mono ?_
  rintro e w2 ⟨g2, c2, rfl, -, hn2, hz2, -, hg2, hb⟩
  have B := Lib.hid (chain B.out hb)
  have A1 := Lib.hid (A1.out.keep hb hg1)
  have hg1 := Nat.lt_of_lt_of_le hg1 hb.size
  have A2 := Lib.hid hn2
  clear hb hn2 hz2
  generalize someN N M s = m at *
  generalize (shufN N s).2 = T at *
  generalize (shufN N s).1 = st at *
  have t0 : (((st : Nat) : Int) != ((st : Nat) : Int)) = false := by simp
  have t1 : (((N : Nat) : Int) != ((N : Nat) : Int)) = false := by simp
  have t2 : (((M : Nat) : Int) != ((M : Nat) : Int)) = false := by simp
  go_wp2_with fail
  refine (alive06_any _).mono ?_
  rintro e w3 ⟨rfl, hb⟩
  have B := Lib.hid (chain B.out hb)
  have A1 := Lib.hid (A1.out.keep hb hg1)
  have hg1 := Nat.lt_of_lt_of_le hg1 hb.size
  have A2 := Lib.hid (A2.out.keep hb hg2)
  have hg2 := Nat.lt_of_lt_of_le hg2 hb.size
  clear hb t0 t1 t2
  go_wp2_with fail
  refine (values_any g1 N N _).mono ?_
  rintro e w4 ⟨rfl, hw4⟩
  have hb4 : Below w3.heap.size w3 w4 := by rw [hw4]; exact (Below.refl _ _).alloc (Nat.le_refl _) _
  have BX := Lib.hid (show Box w4 w3.heap.size 34 #[.slice (some ⟨g1, 0, none⟩) N N] by rw [hw4]; exact Box.new _ _ _)
  have B := Lib.hid (chain B.out hb4)
  have A1 := Lib.hid (A1.out.keep hb4 hg1)
  have hg1 := Nat.lt_of_lt_of_le hg1 hb4.size
  have A2 := Lib.hid (A2.out.keep hb4 hg2)
  have hg2 := Nat.lt_of_lt_of_le hg2 hb4.size
  clear hw4 hb4
  go_wp2_with fail
  refine (sorted_any g1 N N T HP.out hN1 hN2 w3.heap.size _ BX.out A1.out hg1).mono ?_
  rintro e w5 ⟨g3, c3, rfl, hc3, hn3, -, hg3, hb⟩
  have B := Lib.hid (chain B.out hb)
  have A1 := Lib.hid (A1.out.keep hb hg1)
  have A2 := Lib.hid (A2.out.keep hb hg2)
  have A3 := Lib.hid hn3
  clear hb hn3 BX
  go_wp2_with fail
  go_loop [86] (fun i => ∃ j : Nat, j ≤ N ∧ i = .int .i64 j) (fun i => N - (intOf i).toNat)
  case atStart => exact ⟨0, by omega, rfl⟩
  case round =>
    obtain ⟨j, hj, rfl⟩ := hrel
    by_cases hjl : j < N
    · have hjl' : (j : Int) < N := by omega
      obtain ⟨ca, -⟩ := A3.out j (by simpa using hjl)
      rw [show (List.range N).getD j 0 = j by simp [List.getD, hjl]] at ca
      have t1 : (((j : Nat) : Int) != ((j : Nat) : Int)) = false := by simp
      go_wp2
      go_round
      case rel => exact ⟨j + 1, by omega, by go_num⟩
      case measure => simp [intOf] <;> omega
    · obtain rfl : j = N := by omega
      have hjl' : ¬ (j : Int) < j := by omega
      clear A3 hg3
      go_wp2
      go_loop [97] (fun i => ∃ q : Nat, q ≤ M ∧ i = .int .i64 q) (fun i => M - (intOf i).toNat)
      case atStart => exact ⟨0, by omega, rfl⟩
      case round =>
        obtain ⟨q, hq, rfl⟩ := hrel
        by_cases hql : q < M
        · have hql' : (q : Int) < M := by omega
          obtain ⟨ca, -⟩ := A2.out q (by rw [HSL.out]; exact hql)
          obtain ⟨f1, f2, f3⟩ := HSF.out q (by rw [HSL.out]; exact hql)
          have HIN := Lib.hid (decide_eq_true f2)
          have HLT : (T.take M).length = M := by simp [L1.out]; omega
          have HC := Lib.hid (fun W (h : NatsAt W g1 T) => contains_nats g1 j M (m.getD q 0) (T.take M) HLT W (h.take M) (by omega))
          have hMj : (M : Int) ≤ j := by omega
          clear f2 HLT
          rcases Nat.eq_zero_or_pos q with h0 | h0
          · subst h0
            generalize m.getD 0 0 = x at *
            have hx1 : ¬ (x : Int) < 0 := by omega
            have hx2 : ¬ (j : Int) ≤ x := by omega
            clear f1 f3
            go_wp2_with fail
            refine (HC.out _ A1.out).mono ?_
            rintro e w6 ⟨rfl, rfl⟩
            rw [HIN.out]
            go_wp2_with fail
            go_round
            case rel => exact ⟨0 + 1, by omega, by go_num⟩
            case measure => simp [intOf] <;> omega
          · have f4 := f3 h0
            obtain ⟨cb, -⟩ := A2.out (q - 1) (by rw [HSL.out]; omega)
            have hq1 : IntKind.i64.wrap ((q : Int) - 1) = ((q - 1 : Nat) : Int) := by rw [IntWalk.i64_in _ (by omega)]; omega
            have hq2 : (q : Int) - 1 = ((q - 1 : Nat) : Int) := by omega
            have hq3 : q - 1 < M := by omega
            have hq0 : (0 : Int) < q := by omega
            generalize q - 1 = q1 at *
            have hq4 : (q1 : Int) < M := by omega
            generalize m.getD q1 0 = y at *
            generalize m.getD q 0 = x at *
            have hx1 : ¬ (x : Int) < 0 := by omega
            have hx2 : ¬ (j : Int) ≤ x := by omega
            have hx3 : ¬ (x : Int) ≤ y := by omega
            clear f1 f3 f4
            go_wp2_with fail
            refine (HC.out _ A1.out).mono ?_
            rintro e w6 ⟨rfl, rfl⟩
            rw [HIN.out]
            go_wp2_with fail
            go_round
            case rel => exact ⟨q + 1, by omega, by go_num⟩
            case measure => simp [intOf] <;> omega
        · obtain rfl : q = M := by omega
          have hql' : ¬ (q : Int) < q := by omega
          have hbl := belowN_lt j s hN1 hs
          clear A1 A2 HSF HSL L1
          go_wp2_with fail
          refine (below_any s j hs hN1 hN2 _).mono ?_
          rintro e w6 ⟨rfl, hb⟩
          have B := Lib.hid (chain B.out hb)
          clear hb
          go_wp2_with fail
          refine (below_any s j hs hN1 hN2 _).mono ?_
          rintro e w7 ⟨rfl, hb⟩
          have B := Lib.hid (chain B.out hb)
          clear hb
          generalize (belowN j s).1 = b1 at *
          generalize (belowN j s).2 = b2 at *
          have t1 : (((b1 : Nat) : Int) == ((b1 : Nat) : Int)) = true := by simp
          have t2 : (((b2 : Nat) : Int) == ((b2 : Nat) : Int)) = true := by simp
          have hb2 : (b2 : Int) < j := by omega
          have hb3 : (0 : Int) ≤ b2 := by omega
          go_wp2_with fail
          go_ret
          exact ⟨rfl, B.out⟩
end Go.Proofs.Ytjfiaeoknmfniaa
