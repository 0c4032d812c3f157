/- RandomOrders: the walk. -/
import Derived.Test.YtjfiaeoknmfniaaNumbersX
import Derived.Test.YtjfiaeoknmfniaaRndR3
import Derived.Test.YtjfiaeoknmfniaaRefNums
namespace Go.Proofs.Ytjfiaeoknmfniaa
open Go.RowKit
def castZ (zs : List Nat) : List Int := zs.map fun x : Nat => (x : Int)
theorem castZ_getD (zs : List Nat) (j : Nat) : (castZ zs).getD j 0 = ((zs.getD j 0 : Nat) : Int) := by
  by_cases h : j < zs.length
  · simp [castZ, List.getD, h]
  · simp [castZ, List.getD, List.getElem?_eq_none (Nat.le_of_not_lt h)]
theorem nats_ints {w : World} {g k : Nat} {zs : List Nat} (h : NatsAt w g zs) (hz : zs.length = k) (hg : g < w.heap.size) (hb : ∀ x ∈ zs, x ≤ 1000000) : Ints w (some ⟨g, 0, none⟩) k (castZ zs) := by
  refine ⟨by simpa [castZ] using hz, fun j => ?_, fun _ => ⟨g, 0, rfl, hg, fun j hj => ?_⟩⟩
  · rw [castZ_getD]
    have : zs.getD j 0 ≤ 1000000 := by
      by_cases hj : j < zs.length
      · have : zs.getD j 0 = zs[j] := by simp [List.getD, hj]
        rw [this]; exact hb _ (List.getElem_mem hj)
      · simp [List.getD, List.getElem?_eq_none (Nat.le_of_not_lt hj)]
    omega
  · rw [castZ_getD, Nat.zero_add]
    exact (h j (by omega)).1
theorem shuf_bound (n s : Nat) (h1 : 1 ≤ n) (h2 : n ≤ 512) (hs : s < 18446744073709551616) : ∀ x ∈ (shufN n s).2, x ≤ 1000000 := by
  intro x hx
  have := (shufN_perm n s h1 hs).1.mem_iff.1 hx
  have : x < n := by simpa using this
  omega
theorem some_bound (n many s : Nat) (h2 : n ≤ 512) : ∀ x ∈ someN n many s, x ≤ 1000000 := by
  intro x hx
  have := List.mem_filter.1 hx
  have : x < n := by simpa using this.1
  omega
theorem sameZ_self (xs : List Int) : sameZ xs xs = true := decide_eq_true rfl
theorem own_natInts {w : World} {base n : Nat} {A : Option Addr} {c : Nat} {zs : List Nat} (h : w.ownsRow base 3 1 (.slice A n c) n (zs.map natV)) (hb : ∀ x ∈ zs, x ≤ 1000000) : Ints w A n (castZ zs) := by
  have h' : w.ownsRow base 3 1 (.slice A n c) n ((castZ zs).map (Value.int .i64)) := by
    have : (castZ zs).map (Value.int .i64) = zs.map natV := by simp [castZ, natV, Function.comp_def]
    rw [this]; exact h
  refine own_ints h' (fun j => ?_)
  rw [castZ_getD]
  have : zs.getD j 0 ≤ 1000000 := by
    by_cases hj : j < zs.length
    · have : zs.getD j 0 = zs[j] := by simp [List.getD, hj]
      rw [this]; exact hb _ (List.getElem_mem hj)
    · simp [List.getD, List.getElem?_eq_none (Nat.le_of_not_lt hj)]
  omega
set_option maxRecDepth 100000 in
set_option maxHeartbeats 4000000 in
theorem orders_bad (s : Nat) (n many : Int) (hs : s < 18446744073709551616) (h : ¬ (1 ≤ n ∧ n ≤ 512)) (w : World) :
    Calls Try.prog 4 #[.int .u64 s, .int .i64 n, .int .i64 many] w fun e w' => e = .returned (.bool true) ∧ Below w.heap.size w w' := by
  go_enter Try.func4, Try.ntmps4
  go_wp2_with fail
  refine (shuffle_no s n h _).mono ?_
  rintro e w1 ⟨rfl, hb⟩
  have B := Lib.hid hb
  clear hb
  go_wp2_with fail
  refine (some_no s n many (fun x => h x.1) _).mono ?_
  rintro e w2 ⟨rfl, hb⟩
  have B := Lib.hid (chain B.out hb)
  clear hb
  by_cases hn : n < 1
  · go_wp2_with fail
    refine (alive06_any _).mono ?_
    rintro e w3 ⟨rfl, hb⟩
    have B := Lib.hid (chain B.out hb)
    clear hb
    go_wp2_with fail
    go_ret
    exact ⟨rfl, B.out⟩
  · have hn3 : (512 : Int) < n := by omega
    go_wp2_with fail
    refine (alive06_any _).mono ?_
    rintro e w3 ⟨rfl, hb⟩
    have B := Lib.hid (chain B.out hb)
    clear hb
    go_wp2_with fail
    go_ret
    exact ⟨rfl, B.out⟩
set_option maxRecDepth 100000 in
set_option maxHeartbeats 4000000 in
theorem orders_half (s n : Nat) (many : Int) (hs : s < 18446744073709551616) (h1 : 1 ≤ n) (h2 : n ≤ 512) (h : ¬ (0 ≤ many ∧ many ≤ n)) (w : World) :
    Calls Try.prog 4 #[.int .u64 s, .int .i64 n, .int .i64 many] w fun e w' => e = .returned (.bool true) ∧ Below w.heap.size w w' := by
  have hn1 : ¬ (n : Int) < 1 := by omega
  have hn2 : ¬ (512 : Int) < n := by omega
  have HSB := Lib.hid (shuf_bound n s h1 h2 hs)
  go_enter Try.func4, Try.ntmps4
  go_wp2_with fail
  refine (shuffle_yes s n hs h1 h2 _).mono ?_
  rintro e w1 ⟨g, rfl, hna, hzl, -, hg, hb⟩
  have HI := Lib.hid (nats_ints hna hzl hg HSB.out)
  have B := Lib.hid hb
  clear hna hzl hg hb
  go_wp2_with fail
  refine (some_no s n many (fun x => h x.2) _).mono ?_
  rintro e w2 ⟨rfl, hb⟩
  have HI := Lib.hid (HI.out.below hb)
  have B := Lib.hid (chain B.out hb)
  clear hb
  go_wp2_with fail
  refine (refShuffle_any s n hs h1 h2 _).mono ?_
  rintro e w3 ⟨g2, c2, rfl, -, hna, hzl, -, hg, hb⟩
  have HI2 := Lib.hid ((nats_ints hna hzl hg HSB.out).below ((Below.refl _ w3).alloc (Nat.le_refl _) (.cells #[.int .u64 ((shufN n s).1 : Nat), .slice (some ⟨g2, 0, none⟩) n c2] 39)))
  have HI := Lib.hid ((HI.out.below hb).below ((Below.refl _ w3).alloc (Nat.le_refl _) (.cells #[.int .u64 ((shufN n s).1 : Nat), .slice (some ⟨g2, 0, none⟩) n c2] 39)))
  have B := Lib.hid (chain B.out hb)
  have B := Lib.hid (B.out.alloc B.out.size (.cells #[.int .u64 ((shufN n s).1 : Nat), .slice (some ⟨g2, 0, none⟩) n c2] 39))
  have WB := Lib.hid (Box.new w3 39 #[.int .u64 ((shufN n s).1 : Nat), .slice (some ⟨g2, 0, none⟩) n c2])
  clear hna hzl hg hb
  generalize (shufN n s).2 = T at *
  generalize (shufN n s).1 = st at *
  generalize hq : w3.heap.size = q at *
  have HQ := Lib.hid hq
  clear hq
  have t1 : (((st : Nat) : Int) != ((st : Nat) : Int)) = false := by simp
  obtain ⟨e0, e1, -, -⟩ := WB.out.two
  go_wp2_with fail
  rw [HQ.out]
  generalize w3.alloc (.cells #[.int .u64 (st : Int), .slice (some ⟨g2, 0, none⟩) n c2] 39) = w4 at *
  refine (refNumbers_any (some ⟨g, 0, none⟩) (some ⟨g2, 0, none⟩) n n n c2 _ _ _ HI.out HI2.out (by omega) (by omega)).mono ?_
  rintro e w5 ⟨rfl, hb⟩
  rw [sameZ_self]
  have B := Lib.hid (chain B.out hb)
  clear hb e0 e1 HI HI2 WB
  go_wp2_with fail
  refine (alive06_any _).mono ?_
  rintro e w6 ⟨rfl, hb⟩
  have B := Lib.hid (chain B.out hb)
  clear hb
  by_cases hm : many < 0
  · go_wp2_with fail
    go_ret
    exact ⟨rfl, B.out⟩
  · have hm2 : (n : Int) < many := by omega
    go_wp2_with fail
    go_ret
    exact ⟨rfl, B.out⟩
set_option maxRecDepth 100000 in
set_option maxHeartbeats 4000000 in
theorem orders_full (s n many : Nat) (hs : s < 18446744073709551616) (h1 : 1 ≤ n) (h2 : n ≤ 512) (hm : many ≤ n) (w : World) :
    Calls Try.prog 4 #[.int .u64 s, .int .i64 n, .int .i64 many] w fun e w' => e = .returned (.bool true) ∧ Below w.heap.size w w' := by
  have hn1 : ¬ (n : Int) < 1 := by omega
  have hn2 : ¬ (512 : Int) < n := by omega
  have HSB := Lib.hid (shuf_bound n s h1 h2 hs)
  go_enter Try.func4, Try.ntmps4
  go_wp2_with fail
  refine (shuffle_yes s n hs h1 h2 _).mono ?_
  rintro e w1 ⟨g, rfl, hna, hzl, -, hg, hb⟩
  have HI := Lib.hid (nats_ints hna hzl hg HSB.out)
  have B := Lib.hid hb
  clear hna hzl hg hb
  go_wp2_with fail
  refine (some_yes s n many hs h1 h2 hm _).mono ?_
  rintro e w2 ⟨g3, c3, rfl, -, hna, hzl, -, hg, hb⟩
  have HM := Lib.hid (nats_ints hna hzl hg (some_bound n many s h2))
  have HML := Lib.hid hzl
  have HI := Lib.hid (HI.out.below hb)
  have B := Lib.hid (chain B.out hb)
  have HRS := Lib.hid (fun W => refSome_any s n many hs h1 h2 hm W)
  have HSBD := Lib.hid (some_bound n many s h2)
  clear hna hzl hg hb
  go_wp2_with fail
  refine (refShuffle_any s n hs h1 h2 _).mono ?_
  rintro e w3 ⟨g2, c2, rfl, -, hna, hzl, -, hg, hb⟩
  have HI2 := Lib.hid ((nats_ints hna hzl hg HSB.out).below ((Below.refl _ w3).alloc (Nat.le_refl _) (.cells #[.int .u64 ((shufN n s).1 : Nat), .slice (some ⟨g2, 0, none⟩) n c2] 39)))
  have HI := Lib.hid ((HI.out.below hb).below ((Below.refl _ w3).alloc (Nat.le_refl _) (.cells #[.int .u64 ((shufN n s).1 : Nat), .slice (some ⟨g2, 0, none⟩) n c2] 39)))
  have HM := Lib.hid ((HM.out.below hb).below ((Below.refl _ w3).alloc (Nat.le_refl _) (.cells #[.int .u64 ((shufN n s).1 : Nat), .slice (some ⟨g2, 0, none⟩) n c2] 39)))
  have B := Lib.hid (chain B.out hb)
  have B := Lib.hid (B.out.alloc B.out.size (.cells #[.int .u64 ((shufN n s).1 : Nat), .slice (some ⟨g2, 0, none⟩) n c2] 39))
  have WB := Lib.hid (Box.new w3 39 #[.int .u64 ((shufN n s).1 : Nat), .slice (some ⟨g2, 0, none⟩) n c2])
  clear hna hzl hg hb
  generalize (shufN n s).2 = T at *
  generalize hst : (shufN n s).1 = st at *
  have HST := Lib.hid hst
  clear hst
  generalize hq : w3.heap.size = q at *
  have HQ := Lib.hid hq
  clear hq
  have t1 : (((st : Nat) : Int) != ((st : Nat) : Int)) = false := by simp
  obtain ⟨e0, e1, -, -⟩ := WB.out.two
  go_wp2_with fail
  rw [HQ.out]
  generalize w3.alloc (.cells #[.int .u64 (st : Int), .slice (some ⟨g2, 0, none⟩) n c2] 39) = w4 at *
  refine (refNumbers_any (some ⟨g, 0, none⟩) (some ⟨g2, 0, none⟩) n n n c2 _ _ _ HI.out HI2.out (by omega) (by omega)).mono ?_
  rintro e w5 ⟨rfl, hb⟩
  rw [sameZ_self]
  have B := Lib.hid (chain B.out hb)
  have HM := Lib.hid (HM.out.below hb)
  clear hb e0 e1 HI HI2 WB
  go_wp2_with fail
  refine (alive06_any _).mono ?_
  rintro e w6 ⟨rfl, hb⟩
  have B := Lib.hid (chain B.out hb)
  have HM := Lib.hid (HM.out.below hb)
  clear hb
  have hm0 : ¬ (many : Int) < 0 := by omega
  have hm1 : ¬ (n : Int) < many := by omega
  go_wp2_with fail
  refine (HRS.out _).mono ?_
  rintro e w7 ⟨v, rfl, hown, hb⟩
  rw [HML.out] at hown
  obtain ⟨A7, c7, rfl, -⟩ := own_form hown
  rw [HST.out]
  have HI7 := Lib.hid ((own_natInts hown HSBD.out).below ((Below.refl _ w7).alloc (Nat.le_refl _) (.cells #[.int .u64 (st : Int), .slice A7 many c7] 39)))
  have HM := Lib.hid ((HM.out.below hb).below ((Below.refl _ w7).alloc (Nat.le_refl _) (.cells #[.int .u64 (st : Int), .slice A7 many c7] 39)))
  have B := Lib.hid (chain B.out hb)
  have B := Lib.hid (B.out.alloc B.out.size (.cells #[.int .u64 (st : Int), .slice A7 many c7] 39))
  have WB := Lib.hid (Box.new w7 39 #[.int .u64 (st : Int), .slice A7 many c7])
  have t1 : (((st : Nat) : Int) == ((st : Nat) : Int)) = true := by simp
  clear hown hb HRS
  obtain ⟨e0, e1, -, -⟩ := WB.out.two
  go_wp2_with fail
  refine (refNumbers_any (some ⟨g3, 0, none⟩) A7 many c3 many c7 _ _ _ HM.out HI7.out (by omega) (by omega)).mono ?_
  rintro e w8 ⟨rfl, hb⟩
  rw [sameZ_self]
  have B := Lib.hid (chain B.out hb)
  clear hb e0 e1 HM HI7 WB
  go_wp2_with fail
  go_ret
  exact ⟨rfl, B.out⟩
theorem orders_walk (s n many : Int) (w0 : (Lit.int .u64 s).wf = true) (w : World) :
    Calls Try.prog 4 #[.int .u64 s, .int .i64 n, .int .i64 many] w fun e w' => e = .returned (.bool true) ∧ Below w.heap.size w w' := by
  have b1 := bounds_u64 w0
  obtain ⟨s, rfl⟩ := Int.eq_ofNat_of_zero_le b1.1
  by_cases h : 1 ≤ n ∧ n ≤ 512
  · obtain ⟨n, rfl⟩ := Int.eq_ofNat_of_zero_le (show 0 ≤ n by omega)
    by_cases hm : 0 ≤ many ∧ many ≤ n
    · obtain ⟨many, rfl⟩ := Int.eq_ofNat_of_zero_le hm.1
      exact orders_full s n many (by omega) (by omega) (by omega) (by omega) w
    · exact orders_half s n many (by omega) (by omega) (by omega) hm w
  · exact orders_bad s n many (by omega) h w
end Go.Proofs.Ytjfiaeoknmfniaa
