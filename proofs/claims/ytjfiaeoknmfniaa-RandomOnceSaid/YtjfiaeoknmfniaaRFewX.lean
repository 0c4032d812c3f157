/- RandomFew: the walk. -/
import Derived.Test.YtjfiaeoknmfniaaOrdersX
namespace Go.Proofs.Ytjfiaeoknmfniaa
open Go.RowKit
theorem rem_int (a : Int) (n : Nat) (hn : 0 < n) : ∃ r : Int, a.tmod (n : Int) = r ∧ -(n : Int) < r ∧ r < n := by
  refine ⟨_, rfl, ?_, ?_⟩
  · have := Int.lt_tmod_of_pos a (b := (n : Int)) (by omega); omega
  · have := Int.tmod_lt_of_pos a (b := (n : Int)) (by omega); omega
theorem some_all (n s : Nat) (h1 : 1 ≤ n) (hs : s < 18446744073709551616) : someN n n s = List.range n := by
  unfold someN
  rw [List.filter_eq_self.2]
  intro a ha
  have hp := shufN_perm n s h1 hs
  have hl : (shufN n s).2.length = n := by rw [hp.1.length_eq, List.length_range]
  rw [List.take_of_length_le (Nat.le_of_eq hl)]
  have := hp.1.mem_iff.2 ha
  simpa using this
theorem some_more (n many s x : Nat) (h : x ∈ someN n many s) : x ∈ someN n (many + 1) s := by
  unfold someN at *
  rw [List.mem_filter] at *
  refine ⟨h.1, ?_⟩
  have h2 : x ∈ (shufN n s).2.take many := by simpa using h.2
  have : x ∈ (shufN n s).2.take (many + 1) := List.take_subset_take_left _ (Nat.le_succ _) h2
  simpa using this
/-- slices.Contains at a row of small numbers. -/
theorem contains_nats (g c k x : Nat) (zs : List Nat) (hz : zs.length = k) (w : World) (h : NatsAt w g zs) (hk : k ≤ 512) :
    Calls Try.prog 24 #[.slice (some ⟨g, 0, none⟩) k c, .int .i64 x] w fun e w' => e = .returned (.bool (decide (x ∈ zs))) ∧ w = w' := by
  refine (Try.slices_Contains_int g 0 k c (castZ zs) x w (by simp [castZ, hz]) (by omega) (fun j hj => ?_)).mono ?_
  · have hj' : j < zs.length := by simpa [castZ] using hj
    rw [Nat.zero_add, (h j hj').1, castZ_getD]
  · rintro e w' ⟨rfl, rfl⟩
    refine ⟨?_, rfl⟩
    congr 2
    have hl : (castZ zs).length = k := by simp [castZ, hz]
    rw [List.take_of_length_le (Nat.le_of_eq hl), Bool.eq_iff_iff]
    simp only [castZ, List.contains_iff_mem, List.mem_map, decide_eq_true_eq]
    constructor
    · rintro ⟨a, ha, e⟩
      have : a = x := by omega
      exact this ▸ ha
    · exact fun h => ⟨x, h, rfl⟩
set_option maxRecDepth 100000 in
set_option maxHeartbeats 4000000 in
theorem few_walk (s : Nat) (n many : Int) (hs : s < 18446744073709551616) (w : World) :
    Calls Try.prog 6 #[.int .u64 s, .int .i64 n, .int .i64 many] w fun e w' => e = .returned (.bool true) ∧ Below w.heap.size w w' := by
  obtain ⟨r, er, hr1, hr2⟩ := rem_int n 512 (by omega)
  have er : n.tmod 512 = r := er
  obtain ⟨N, eN, hN1, hN2⟩ : ∃ N : Nat, r % 512 + 1 = (N : Int) ∧ 1 ≤ N ∧ N ≤ 512 := ⟨(r % 512 + 1).toNat, by omega, by omega, by omega⟩
  obtain ⟨r2, er2, hr3, hr4⟩ := rem_int many N (by omega)
  obtain ⟨M, eM, hM⟩ : ∃ M : Nat, r2 % (N : Int) = (M : Int) ∧ M < N := by
    have h1 := Int.emod_nonneg r2 (b := (N : Int)) (by omega)
    have h2 := Int.emod_lt_of_pos r2 (b := (N : Int)) (by omega)
    exact ⟨(r2 % (N : Int)).toNat, by omega, by omega⟩
  have hN3 : (1 : Int) ≤ (N : Int) := by omega
  go_enter Try.func6, Try.ntmps6
  go_wp2_with fail
  refine (some_yes s N 0 hs hN1 hN2 (by omega) _).mono ?_
  rintro e w1 ⟨g1, c1, rfl, -, -, -, -, -, hb⟩
  have B := Lib.hid hb
  clear hb
  go_wp2_with fail
  refine (some_yes s N N hs hN1 hN2 (by omega) _).mono ?_
  rintro e w2 ⟨g2, c2, rfl, -, hn2, hz2, -, hg2, hb⟩
  have B := Lib.hid (chain B.out hb)
  rw [some_all N s hN1 hs] at hn2
  have A2 := Lib.hid hn2
  clear hb hn2 hz2
  go_wp2_with fail
  refine (some_yes s N M hs hN1 hN2 (by omega) _).mono ?_
  rintro e w3 ⟨g3, c3, rfl, -, hn3, hz3, -, hg3, hb⟩
  have B := Lib.hid (chain B.out hb)
  have A2 := Lib.hid (A2.out.keep hb hg2)
  have hg2 := Nat.lt_of_lt_of_le hg2 hb.size
  have A3 := Lib.hid hn3
  have L3 := Lib.hid hz3
  clear hb hn3 hz3
  go_wp2_with fail
  rw [show (M : Int) + 1 = ((M + 1 : Nat) : Int) from rfl]
  refine (some_yes s N (M + 1) hs hN1 hN2 (by omega) _).mono ?_
  rintro e w4 ⟨g4, c4, rfl, -, hn4, hz4, -, hg4, hb⟩
  have B := Lib.hid (chain B.out hb)
  have A2 := Lib.hid (A2.out.keep hb hg2)
  have hg2 := Nat.lt_of_lt_of_le hg2 hb.size
  have A3 := Lib.hid (A3.out.keep hb hg3)
  have hg3 := Nat.lt_of_lt_of_le hg3 hb.size
  have A4 := Lib.hid hn4
  have L4 := Lib.hid hz4
  have HSUB := Lib.hid (fun x => some_more N M s x)
  clear hb hn4 hz4
  generalize someN N M s = T3 at *
  generalize someN N (M + 1) s = T4 at *
  generalize (shufN N s).1 = st at *
  clear er eN er2 eM
  have t1 : (((N : Nat) : Int) != ((N : Nat) : Int)) = false := by simp
  have t2 : ((((M + 1 : Nat) : Nat) : Int) != ((M : Nat) : Int) + 1) = false := by simp
  have t3 : (((M : Nat) : Int) + 1 != ((M : Nat) : Int) + 1) = false := by simp
  go_wp2_with fail
  refine (alive06_any _).mono ?_
  rintro e w5 ⟨rfl, hb⟩
  have B := Lib.hid (chain B.out hb)
  have A2 := Lib.hid (A2.out.keep hb hg2)
  have hg2 := Nat.lt_of_lt_of_le hg2 hb.size
  have A3 := Lib.hid (A3.out.keep hb hg3)
  have hg3 := Nat.lt_of_lt_of_le hg3 hb.size
  have A4 := Lib.hid (A4.out.keep hb hg4)
  clear hb t1 t2 t3
  go_wp2_with fail
  go_loop [105] (fun i => ∃ j : Nat, j ≤ N ∧ i = .int .i64 j) (fun i => N - (intOf i).toNat)
  case atStart => exact ⟨0, by omega, rfl⟩
  case round =>
    obtain ⟨j, hj, rfl⟩ := hrel
    by_cases hjl : j < N
    · have hjl' : (j : Int) < N := by omega
      obtain ⟨ca, -⟩ := A2.out j (by simpa using hjl)
      rw [show (List.range N).getD j 0 = j by simp [List.getD, hjl]] at ca
      have t1 : (((j : Nat) : Int) != ((j : Nat) : Int)) = false := by simp
      go_wp2
      go_round
      case rel => exact ⟨j + 1, by omega, by go_num⟩
      case measure => simp [intOf] <;> omega
    · obtain rfl : j = N := by omega
      have hjl' : ¬ (j : Int) < j := by omega
      clear A2 hg2
      go_wp2
      go_loop [116] (fun i => ∃ q : Nat, q ≤ M ∧ i = .int .i64 q) (fun i => M - (intOf i).toNat)
      case atStart => exact ⟨0, by omega, rfl⟩
      case round =>
        obtain ⟨q, hq, rfl⟩ := hrel
        by_cases hql : q < M
        · have hql' : (q : Int) < M := by omega
          obtain ⟨ca, -⟩ := A3.out q (by rw [L3.out]; exact hql)
          have hmem : T3.getD q 0 ∈ T3 := by
            have h1 : q < T3.length := by rw [L3.out]; exact hql
            have : T3.getD q 0 = T3[q] := by simp [List.getD, h1]
            rw [this]
            exact List.getElem_mem h1
          have HIN := Lib.hid (decide_eq_true (HSUB.out _ hmem))
          clear hmem
          generalize T3.getD q 0 = x at *
          go_wp2_with fail
          refine (contains_nats g4 c4 (M + 1) x T4 L4.out _ A4.out (by omega)).mono ?_
          rintro e w6 ⟨rfl, rfl⟩
          rw [HIN.out]
          go_wp2_with fail
          go_round
          case rel => exact ⟨q + 1, by omega, by go_num⟩
          case measure => simp [intOf] <;> omega
        · obtain rfl : q = M := by omega
          have hql' : ¬ (q : Int) < q := by omega
          have t1 : (((q : Nat) : Int) == ((q : Nat) : Int)) = true := by simp
          go_wp2
          go_ret
          exact ⟨rfl, B.out⟩
end Go.Proofs.Ytjfiaeoknmfniaa
