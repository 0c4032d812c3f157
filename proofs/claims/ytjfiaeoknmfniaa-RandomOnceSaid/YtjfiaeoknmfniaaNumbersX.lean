/- RandomNumbers: the walk. -/
import Derived.Test.YtjfiaeoknmfniaaRnd5
import Derived.Test.YtjfiaeoknmfniaaRnd2
import Derived.Deep.RegionWith
import Derived.Deep.DeepCutAuto
import Derived.OpenShut
namespace Go.Proofs.Ytjfiaeoknmfniaa
open Go.RowKit
theorem alive06_any (w : World) : Calls Try.prog 15 #[] w fun e w' => e = .returned (.bool true) ∧ Below w.heap.size w w' := by
  have HS := Lib.hid (fun W => shuffle_yes 5 1 (by omega) (by omega) (by omega) W)
  go_enter Try.func15, Try.ntmps15
  go_wp2_with fail
  refine (HS.out _).mono ?_
  rintro e w1 ⟨g, rfl, -, -, -, -, hb⟩
  go_wp2_with fail
  go_ret
  exact ⟨rfl, hb⟩
set_option maxRecDepth 100000 in
set_option maxHeartbeats 4000000 in
theorem numbers_bad (seed s : Nat) (n : Int) (hsd : seed < 18446744073709551616) (hs : s < 18446744073709551616) (h : ¬ (1 ≤ n ∧ n ≤ 512)) (w : World) :
    Calls Try.prog 3 #[.int .u64 seed, .int .u64 s, .int .i64 n] w fun e w' => e = .returned (.bool true) ∧ Below w.heap.size w w' := by
  go_enter Try.func3, Try.ntmps3
  go_wp2_with fail
  refine (next_any s hs _).mono ?_
  rintro e w1 ⟨rfl, rfl⟩
  go_wp2_with fail
  refine (below_no s n h _).mono ?_
  rintro e w2 ⟨rfl, hb⟩
  have B := Lib.hid hb
  clear hb
  have HST := Lib.hid (start_any seed hsd)
  have HM1 := Lib.hid (refMixed_any seed hsd)
  have HM2 := Lib.hid (refMixed_any (nextS s) (nextS_lt s))
  have ew := step_wrap s
  generalize nextS s = s1 at *
  generalize mixN s1 = x1 at *
  generalize mixN seed = x0 at *
  have t1 : (((x0 : Nat) : Int) != ((x0 : Nat) : Int)) = false := by simp
  have t2 : (((x1 : Nat) : Int) != ((x1 : Nat) : Int)) = false := by simp
  have t3 : (((s1 : Nat) : Int) != ((s1 : Nat) : Int)) = false := by simp
  go_wp2_with fail
  refine (HST.out _).mono ?_
  rintro e w3 ⟨rfl, rfl⟩
  go_wp2_with fail
  refine (HM1.out _).mono ?_
  rintro e w3 ⟨rfl, rfl⟩
  go_wp2_with fail
  refine (HM2.out _).mono ?_
  rintro e w3 ⟨rfl, rfl⟩
  clear HST HM1 HM2
  go_wp2_with fail
  refine (alive06_any _).mono ?_
  rintro e w3 ⟨rfl, hb⟩
  have B := Lib.hid (chain B.out hb)
  clear hb t1 t2 t3
  by_cases hn : n < 1
  · go_wp2_with fail
    go_ret
    exact ⟨rfl, B.out⟩
  · have hn2 : ¬ n ≤ 512 := fun x => h ⟨by omega, x⟩
    have hn3 : (512 : Int) < n := by omega
    go_wp2_with fail
    go_ret
    exact ⟨rfl, B.out⟩
set_option maxRecDepth 100000 in
set_option maxHeartbeats 4000000 in
theorem numbers_ok (seed s : Nat) (n : Nat) (hsd : seed < 18446744073709551616) (hs : s < 18446744073709551616) (h1 : 1 ≤ n) (h2 : n ≤ 512) (w : World) :
    Calls Try.prog 3 #[.int .u64 seed, .int .u64 s, .int .i64 n] w fun e w' => e = .returned (.bool true) ∧ Below w.heap.size w w' := by
  go_enter Try.func3, Try.ntmps3
  go_wp2_with fail
  refine (next_any s hs _).mono ?_
  rintro e w1 ⟨rfl, rfl⟩
  go_wp2_with fail
  refine (below_any s n hs h1 h2 _).mono ?_
  rintro e w2 ⟨rfl, hb⟩
  have B := Lib.hid hb
  clear hb
  have HST := Lib.hid (start_any seed hsd)
  have HM1 := Lib.hid (refMixed_any seed hsd)
  have HM2 := Lib.hid (refMixed_any (nextS s) (nextS_lt s))
  have ew := step_wrap s
  generalize nextS s = s1 at *
  generalize mixN s1 = x1 at *
  generalize mixN seed = x0 at *
  have t1 : (((x0 : Nat) : Int) != ((x0 : Nat) : Int)) = false := by simp
  have t2 : (((x1 : Nat) : Int) != ((x1 : Nat) : Int)) = false := by simp
  have t3 : (((s1 : Nat) : Int) != ((s1 : Nat) : Int)) = false := by simp
  go_wp2_with fail
  refine (HST.out _).mono ?_
  rintro e w3 ⟨rfl, rfl⟩
  go_wp2_with fail
  refine (HM1.out _).mono ?_
  rintro e w3 ⟨rfl, rfl⟩
  go_wp2_with fail
  refine (HM2.out _).mono ?_
  rintro e w3 ⟨rfl, rfl⟩
  clear HST HM1 HM2
  go_wp2_with fail
  refine (alive06_any _).mono ?_
  rintro e w3 ⟨rfl, hb⟩
  have B := Lib.hid (chain B.out hb)
  clear hb t1 t2 t3
  have hn1 : ¬ (n : Int) < 1 := by omega
  have hn2 : ¬ (512 : Int) < n := by omega
  go_wp2_with fail
  refine (refBelow_any s n hs h1 h2 _).mono ?_
  rintro e w4 ⟨rfl, hb⟩
  have B := Lib.hid (chain B.out hb)
  clear hb
  generalize (belowN n s).1 = b1 at *
  generalize (belowN n s).2 = b2 at *
  have t1 : (((b1 : Nat) : Int) == ((b1 : Nat) : Int)) = true := by simp
  have t2 : (((b2 : Nat) : Int) == ((b2 : Nat) : Int)) = true := by simp
  go_wp2_with fail
  go_ret
  exact ⟨rfl, B.out.alloc B.out.size _⟩
theorem numbers_walk (seed s : Int) (n : Int) (w0 : (Lit.int .u64 seed).wf = true) (w1 : (Lit.int .u64 s).wf = true) (w2 : (Lit.int .i64 n).wf = true) (w : World) :
    Calls Try.prog 3 #[.int .u64 seed, .int .u64 s, .int .i64 n] w fun e w' => e = .returned (.bool true) ∧ Below w.heap.size w w' := by
  have b1 := bounds_u64 w0
  have b2 := bounds_u64 w1
  obtain ⟨seed, rfl⟩ := Int.eq_ofNat_of_zero_le b1.1
  obtain ⟨s, rfl⟩ := Int.eq_ofNat_of_zero_le b2.1
  by_cases h : 1 ≤ n ∧ n ≤ 512
  · obtain ⟨n, rfl⟩ := Int.eq_ofNat_of_zero_le (show 0 ≤ n by omega)
    exact numbers_ok seed s n (by omega) (by omega) (by omega) (by omega) w
  · exact numbers_bad seed s n (by omega) (by omega) h w
end Go.Proofs.Ytjfiaeoknmfniaa
