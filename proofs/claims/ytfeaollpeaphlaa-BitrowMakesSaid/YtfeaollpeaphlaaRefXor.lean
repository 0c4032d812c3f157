/- Contracts of the reference's Xor and And. -/
import Derived.Test.YtfeaollpeaphlaaFrom
import Derived.Test.YtfeaollpeaphlaaOrder1
import Derived.Deep.RegionHeld3
import Derived.Deep.AppendLies
import Derived.Deep.RegionWith
namespace Go.Proofs.Ytfeaollpeaphlaa
open Go.RowKit
theorem int_info : (Try.prog.info? 3).map (fun i => (i.zero, i.size, i.bytes)) = some (some (.int .i64 0), 1, 8) := by kernel_rfl
def bitSums (g : Nat → Nat → Nat) (us vs : List Nat) (i : Nat) : List Int := (List.range i).map fun j => ((g (bitAt us j) (bitAt vs j) : Nat) : Int)
theorem bitSums_succ (g : Nat → Nat → Nat) (us vs : List Nat) (i : Nat) : bitSums g us vs (i + 1) = bitSums g us vs i ++ [((g (bitAt us i) (bitAt vs i) : Nat) : Int)] := by simp [bitSums, List.range_succ]
theorem bitSums_len (g : Nat → Nat → Nat) (us vs : List Nat) (i : Nat) : (bitSums g us vs i).length = i := by simp [bitSums]
theorem bitSums_get (g : Nat → Nat → Nat) (us vs : List Nat) (i j : Nat) (h : j < i) : (bitSums g us vs i).getD j 0 = ((g (bitAt us j) (bitAt vs j) : Nat) : Int) := by simp [bitSums, List.getD, h]
theorem bitSums_lt (us vs : List Nat) (i j : Nat) : -9223372036854775808 ≤ (bitSums (fun x y => (x + y) % 2) us vs i).getD j 0 ∧ (bitSums (fun x y => (x + y) % 2) us vs i).getD j 0 ≤ 9223372036854775807 := by
  by_cases h : j < i
  · rw [bitSums_get _ us vs i j h]; omega
  · have hn : (bitSums (fun x y => (x + y) % 2) us vs i)[j]? = none := List.getElem?_eq_none (by rw [bitSums_len]; omega)
    simp only [List.getD, hn, Option.getD_none]
    omega
theorem accM_bit (b : Nat → Bool) (i m j : Nat) (hm : m ≤ 64) : (accM b i m).testBit j = (decide (j < m) && b (64 * i + (64 - m + j))) := by
  induction m generalizing j with
  | zero => simp [accM]
  | succ m ih =>
    simp only [accM]
    cases j with
    | zero =>
      rw [Nat.testBit_zero]
      have e : 64 - (m + 1) + 0 = 63 - m := by omega
      rw [e]
      cases b (64 * i + (63 - m)) <;> simp <;> omega
    | succ j =>
      rw [Nat.testBit_succ]
      have e : (2 * accM b i m + if b (64 * i + (63 - m)) = true then 1 else 0) / 2 = accM b i m := by split <;> omega
      rw [e, ih j (by omega)]
      have e2 : 64 - m + j = 64 - (m + 1) + (j + 1) := by omega
      rw [e2]
      have e3 : decide (j < m) = decide (j + 1 < m + 1) := by simp
      rw [e3]
theorem bitAt_test (us : List Nat) (i : Nat) : (bitAt us i == 1) = (us.getD (i / 64) 0).testBit (i % 64) := by
  rw [Nat.testBit_eq_decide_div_mod_eq]; rfl
/-- A row that may be has no bits behind its last. -/
theorem right_bits {n : Nat} {us : List Nat} (h : rightB n us = true) (i : Nat) (hi : n ≤ i) (hl : i < 64 * us.length) : bitAt us i = 0 := by
  have hlm := right_lmb h
  have hle := right_len_eq h
  rw [Int.toNat_natCast] at hle
  rcases bitAt_le us i with h0 | h1
  · exact h0
  · have := not_right_of_bit n us.length i us hlm rfl hle hi hl h1
    rw [h] at this
    cases this
theorem from_zip (g : Nat → Nat → Nat) (f : Nat → Nat → Nat) (hgf : ∀ x y k, (f x y).testBit k = (g (if x.testBit k then 1 else 0) (if y.testBit k then 1 else 0) == 1)) (h00 : g 0 0 = 0) (hf : ∀ x y, x < 18446744073709551616 → y < 18446744073709551616 → f x y < 18446744073709551616) (n : Nat) (us vs : List Nat) (h1 : rightB n us = true) (h2 : rightB n vs = true)
    (hu : ∀ j, us.getD j 0 < 18446744073709551616) (hv : ∀ j, vs.getD j 0 < 18446744073709551616) :
    fromL (bitsOf (bitSums g us vs n)) (nw n) = List.zipWith f us vs := by
  have l1 := right_len_eq h1
  have l2 := right_len_eq h2
  rw [Int.toNat_natCast] at l1 l2
  apply List.ext_getElem
  · rw [fromL_len]; simp; omega
  · intro i hi1 hi2
    have hi : i < nw n := by rw [fromL_len] at hi1; exact hi1
    have iu : i < us.length := by omega
    have iv : i < vs.length := by omega
    simp only [fromL, List.getElem_map, List.getElem_range, List.getElem_zipWith]
    have eu : us[i] = us.getD i 0 := by simp [List.getD, iu]
    have ev : vs[i] = vs.getD i 0 := by simp [List.getD, iv]
    rw [eu, ev]
    apply Nat.eq_of_testBit_eq
    intro j
    rw [accM_bit _ _ _ _ (Nat.le_refl _)]
    by_cases hj : j < 64
    · have e0 : 64 * i + (64 - 64 + j) = 64 * i + j := by omega
      have ed : (64 * i + j) / 64 = i := by omega
      have em : (64 * i + j) % 64 = j := by omega
      have bu : (if (us.getD i 0).testBit j then 1 else 0) = bitAt us (64 * i + j) := by
        have := bitAt_test us (64 * i + j)
        rw [ed, em] at this
        rw [← this]
        rcases bitAt_le us (64 * i + j) with h | h <;> rw [h] <;> rfl
      have bv : (if (vs.getD i 0).testBit j then 1 else 0) = bitAt vs (64 * i + j) := by
        have := bitAt_test vs (64 * i + j)
        rw [ed, em] at this
        rw [← this]
        rcases bitAt_le vs (64 * i + j) with h | h <;> rw [h] <;> rfl
      rw [e0, hgf, bu, bv]
      have hd : decide (j < 64) = true := by simpa using hj
      rw [hd, Bool.true_and]
      unfold bitsOf
      rw [bitSums_len]
      by_cases hn : 64 * i + j < n
      · rw [bitSums_get g us vs n _ hn]
        have : decide (64 * i + j < n) = true := by simpa using hn
        rw [this, Bool.true_and]
        rw [Bool.eq_iff_iff]
        simp only [beq_iff_eq]
        omega
      · have z1 := right_bits h1 (64 * i + j) (by omega) (by omega)
        have z2 := right_bits h2 (64 * i + j) (by omega) (by omega)
        have : decide (64 * i + j < n) = false := by simpa using hn
        rw [this, Bool.false_and, z1, z2, h00]; rfl
    · have hd : decide (j < 64) = false := by simpa using hj
      rw [hd, Bool.false_and]
      symm
      exact Nat.testBit_lt_two_pow (Nat.lt_of_lt_of_le (hf _ _ (hu i) (hv i)) (show 2 ^ 64 ≤ 2 ^ j from Nat.pow_le_pow_right (by omega) (by omega)))
theorem from_xor (n : Nat) (us vs : List Nat) (h1 : rightB n us = true) (h2 : rightB n vs = true) (hu : ∀ j, us.getD j 0 < 18446744073709551616) (hv : ∀ j, vs.getD j 0 < 18446744073709551616) :
    fromL (bitsOf (bitSums (fun x y => (x + y) % 2) us vs n)) (nw n) = xorL us vs := by
  refine from_zip _ _ ?_ rfl (fun x y hx hy => Nat.xor_lt_two_pow (n := 64) hx hy) n us vs h1 h2 hu hv
  intro x y k
  rw [Nat.testBit_xor]
  cases x.testBit k <;> cases y.testBit k <;> rfl
set_option maxHeartbeats 2000000 in
theorem refXor_any (n : Nat) (A B : Option Addr) (l c k d : Nat) (us vs : List Nat) (w : World) (hu : Words w A l us) (hv : Words w B k vs) (h1 : rightB n us = true) (h2 : rightB n vs = true) :
    Calls Try.prog 20 #[.agg #[.int .i64 n, .slice A l c], .agg #[.int .i64 n, .slice B k d]] w (OneRow n (xorL us vs) w) := by
  obtain ⟨i0, hi, hz0, hz1, hz2⟩ := info_parts int_info
  have hn := (lmb_iff n).1 (right_lmb h1)
  have q0 := ((Box.new w 25 #[.int .i64 n, .slice A l c]).alloc (.cells #[.int .i64 n, .slice B k d] 25)).alloc (.cells #[.int .i64 0, .slice none 0 0] 25)
  have q1 := (Box.new (w.alloc (.cells #[.int .i64 n, .slice A l c] 25)) 25 #[.int .i64 n, .slice B k d]).alloc (.cells #[.int .i64 0, .slice none 0 0] 25)
  have q2 := Box.new ((w.alloc (.cells #[.int .i64 n, .slice A l c] 25)).alloc (.cells #[.int .i64 n, .slice B k d] 25)) 25 #[.int .i64 0, .slice none 0 0]
  have hW : Below w.heap.size w (((w.alloc (.cells #[.int .i64 n, .slice A l c] 25)).alloc (.cells #[.int .i64 n, .slice B k d] 25)).alloc (.cells #[.int .i64 0, .slice none 0 0] 25)) := (((Below.refl _ _).alloc (Nat.le_refl _) _).alloc (by simp) _).alloc (by simp; omega) _
  simp only [World.size_alloc] at q1 q2
  go_enter Try.func20, Try.ntmps20
  go_wp2
  have hz := q2.lt
  have how := (own_empty (((w.alloc (.cells #[.int .i64 n, .slice A l c] 25)).alloc (.cells #[.int .i64 n, .slice B k d] 25)).alloc (.cells #[.int .i64 0, .slice none 0 0] 25)) w.heap.size 3 hW.size)
  simp only [World.size_alloc] at how
  have HOw := Lib.hid how
  clear how
  have Q0 := Lib.hid (q0.alloc (.cells #[] 3))
  have Q1 := Lib.hid (q1.alloc (.cells #[] 3))
  have Q2 := Lib.hid (q2.alloc (.cells #[] 3))
  have HW := Lib.hid (hW.alloc hW.size (.cells #[] 3))
  have HU := Lib.hid hu
  have HV := Lib.hid hv
  have HR1 := Lib.hid h1
  have HR2 := Lib.hid h2
  have hl8 := rightB_len8 h1 hu.1
  have hl := right_len_eq h1
  rw [hu.1, Int.toNat_natCast] at hl
  have hk := right_len_eq h2
  rw [hv.1, Int.toNat_natCast] at hk
  have hn64 : n ≤ 64 * l := by rw [hl]; unfold nw; omega
  have hn64' : n ≤ 64 * k := by rw [hk]; unfold nw; omega
  have hk8 := rightB_len8 h2 hv.1
  clear q0 q1 q2 hW hu hv h1 h2 hz hl hk
  have HI := Lib.hid hi
  have HZ0 := Lib.hid hz0
  have HZ1 := Lib.hid hz1
  have HZ2 := Lib.hid hz2
  clear hi hz0 hz1 hz2
  go_loopw [5, 6] (fun v t wr => ∃ i : Nat, i ≤ n ∧ t = .int .i64 i ∧ wr.ownsRow w.heap.size 3 1 v i ((bitSums (fun x y => (x + y) % 2) us vs i).map (Value.int .i64)) ∧ Box wr w.heap.size 25 #[.int .i64 n, .slice A l c] ∧ Box wr (w.heap.size + 1) 25 #[.int .i64 n, .slice B k d] ∧ Box wr (w.heap.size + 1 + 1) 25 #[.int .i64 0, .slice none 0 0] ∧ Below w.heap.size w wr)
    (fun _ t _ => n - (intOf t).toNat)
  case atStart => exact ⟨0, by omega, rfl, HOw.out, Q0.out, Q1.out, Q2.out, HW.out⟩
  case round =>
    obtain ⟨i, hi, rfl, hown, B0, B1, B2, hbel⟩ := hrel
    have R0 := Lib.hid B0
    have R1 := Lib.hid B1
    have R2 := Lib.hid B2
    have HO := Lib.hid hown
    have HB := Lib.hid hbel
    clear B0 B1 B2 hown hbel Q0 Q1 Q2 HW HOw
    obtain ⟨a0, a1, -, -⟩ := R0.out.two
    obtain ⟨b0, b1, -, -⟩ := R1.out.two
    by_cases hlt : i < n
    · have hlt' : (i : Int) < (n : Int) := by omega
      have bu := bitAt_le us i
      have bv := bitAt_le vs i
      have hi' := HI.out
      have hz0' := HZ0.out
      have hz1' := HZ1.out
      have hz2' := HZ2.out
      have hz := R2.out.lt
      have hne := Lib.hid (show (3 : TypeId) ≠ 25 by decide)
      generalize hX : bitAt us i = x at *
      generalize hY : bitAt vs i = y at *
      have HX := Lib.hid hX
      have HY := Lib.hid hY
      clear hX hY
      have hxy : (x : Int) + y ≤ 2 := by omega
      have hxy0 : 0 ≤ (x : Int) + y := by omega
      have f1 : IntKind.i64.wrap ((x : Int) + y) = (x : Int) + y := IntWalk.i64_in _ (by omega)
      have f2 : ((x : Int) + y).tmod 2 = (((x + y) % 2 : Nat) : Int) := by rw [Int.tmod_eq_emod_of_nonneg (by omega)]; omega
      have HC1 := Lib.hid (fun (W : World) (h : Words W A l us) => bit_any n A l c i us W h (by omega) (by omega))
      have HC2 := Lib.hid (fun (W : World) (h : Words W B k vs) => bit_any n B k d i vs W h (by omega) (by omega))
      rw [HX.out] at HC1
      rw [HY.out] at HC2
      go_wp2
      go_region_held3 (fun w' => w'.cell? ⟨w.heap.size, 0, none⟩ = some (.int .i64 n) ∧ w'.cell? ⟨w.heap.size, 1, none⟩ = some (.slice A l c) ∧ w'.cell? ⟨w.heap.size + 1, 0, none⟩ = some (.int .i64 n) ∧ w'.cell? ⟨w.heap.size + 1, 1, none⟩ = some (.slice B k d))
        (go_keep)
        (first
          | (go_at_call_of 37 (Value.agg #[.int .i64 n, .slice A l c]); refine (HC1.out _ (HU.out.below HB.out).drew).mono ?_; rintro e1 x1 ⟨rfl, hb1⟩; have P0 := Lib.hid (R0.out.drew.keep hb1); have P1 := Lib.hid (R1.out.drew.keep hb1); have P2 := Lib.hid (R2.out.drew.keep hb1); have O1 := Lib.hid (own_keep HO.out.drew hb1); have T1 := Lib.hid (chain HB.out.drew hb1); clear hb1; obtain ⟨k0, k1, -, -⟩ := P0.out.two; obtain ⟨k2, k3, -, -⟩ := P1.out.two)
          | (go_at_call_of 37 (Value.agg #[.int .i64 n, .slice B k d]); refine (HC2.out _ (HV.out.below T1.out)).mono ?_; rintro e2 x2 ⟨rfl, hb2⟩; have S0 := Lib.hid (P0.out.keep hb2); have S1 := Lib.hid (P1.out.keep hb2); have S2 := Lib.hid (P2.out.keep hb2); have O2 := Lib.hid (own_keep O1.out hb2); have T2 := Lib.hid (chain T1.out hb2); clear hb2; obtain ⟨m0, m1, -, -⟩ := S0.out.two; obtain ⟨m2, m3, -, -⟩ := S1.out.two; have X0 := Lib.hid (S0.out.alloc (.cells #[.int .i64 (((x + y) % 2 : Nat) : Int)] 3)); have X1 := Lib.hid (S1.out.alloc (.cells #[.int .i64 (((x + y) % 2 : Nat) : Int)] 3)); have X2 := Lib.hid (S2.out.alloc (.cells #[.int .i64 (((x + y) % 2 : Nat) : Int)] 3)); have XO := Lib.hid (O2.out.alloc (.cells #[.int .i64 (((x + y) % 2 : Nat) : Int)] 3)); have XB := Lib.hid (T2.out.alloc T2.out.size (.cells #[.int .i64 (((x + y) % 2 : Nat) : Int)] 3)); have N0 := Lib.hid (own_ne XO.out X0.out hne.out); have N1 := Lib.hid (own_ne XO.out X1.out hne.out); have N2 := Lib.hid (own_ne XO.out X2.out hne.out); have N3 := Lib.hid (fun k hk => (O2.out.lt k hk).1))
          | (refine step_append_lies _ (by rfl) _ _ _ (by rfl) w.heap.size 3 i0 _ 1 8 Try.underlying22 hi' hz0' hz1' hz2' rfl (by omega) _ _ _ (by rfl) XO.out ⟨x2.heap.size, 0, none⟩ 1 1 [.int .i64 (((x + y) % 2 : Nat) : Int)] (by rfl) (by rfl) (cell_one_new _ _ _) (by simp [Value.oneCell']) (by omega) (by simp [maxLen]; omega) (by omega) XB.out.size (x2.heap.size + 1) (by simp) ?_; intro gg cap w1 hown1 hgrow hat hlg; have Y0 := Lib.hid (X0.out.grown hgrow N0.out); have Y1 := Lib.hid (X1.out.grown hgrow N1.out); have Y2 := Lib.hid (X2.out.grown hgrow N2.out); have YB := Lib.hid (XB.out.grown hgrow XB.out.size N3.out); have YO := Lib.hid hown1; clear hgrow hat hown1; obtain ⟨p0, p1, -, -⟩ := Y0.out.two; obtain ⟨p2, p3, -, -⟩ := Y1.out.two))
      clear p0 p1 p2 p3 m0 m1 m2 m3 k0 k1 k2 k3 a0 a1 b0 b1 f1 f2 hi' hz0' hz1' hz2'
      go_wp2
      go_roundw
      case rel =>
        refine ⟨i + 1, by omega, by go_num, ?_, Y0.out, Y1.out, Y2.out, YB.out⟩
        have h := YO.out
        rw [bitSums_succ, List.map_append, HX.out, HY.out]
        exact h
      case measure => simp [intOf] <;> omega
    · obtain rfl : i = n := by omega
      have hlt' : ¬ (i : Int) < (i : Int) := by omega
      obtain ⟨A', c', rfl, hA'⟩ := own_form HO.out
      go_wp2_with fail
      refine (from_any A' i c' _ _ (own_ints HO.out (bitSums_lt us vs i)) (by omega)).mono ?_
      rintro e x1 ⟨A1, l1, c1, rfl, hw, hb⟩
      have P2 := Lib.hid (R2.out.keep hb)
      have T1 := Lib.hid (chain HB.out hb)
      have HWo := Lib.hid hw
      clear hw hb a0 a1 b0 b1
      obtain ⟨r0, r1, r2, r3⟩ := P2.out.two
      go_wp2
      refine close_one Try.results20 rfl rfl P2.out.put2 Try.underlying25 rfl (by kernel_rfl) ⟨_, _, _, rfl, ?_, ?_⟩
      · have h := HWo.out
        rw [from_xor i us vs HR1.out HR2.out HU.out.2.1 HV.out.2.1] at h
        exact h.put2 P2.out _ _
      · exact (T1.out.setCell (p := ⟨w.heap.size + 1 + 1, 0, none⟩) (by simp; omega) _).setCell (p := ⟨w.heap.size + 1 + 1, 1, none⟩) (by simp; omega) _
theorem bitSums_lt_and (us vs : List Nat) (i j : Nat) : -9223372036854775808 ≤ (bitSums (fun x y => x * y) us vs i).getD j 0 ∧ (bitSums (fun x y => x * y) us vs i).getD j 0 ≤ 9223372036854775807 := by
  by_cases h : j < i
  · rw [bitSums_get _ us vs i j h]
    rcases bitAt_le us j with h1 | h1 <;> rcases bitAt_le vs j with h2 | h2 <;> rw [h1, h2] <;> decide
  · have hn : (bitSums (fun x y => x * y) us vs i)[j]? = none := List.getElem?_eq_none (by rw [bitSums_len]; omega)
    simp only [List.getD, hn, Option.getD_none]
    omega
theorem from_and (n : Nat) (us vs : List Nat) (h1 : rightB n us = true) (h2 : rightB n vs = true) (hu : ∀ j, us.getD j 0 < 18446744073709551616) (hv : ∀ j, vs.getD j 0 < 18446744073709551616) :
    fromL (bitsOf (bitSums (fun x y => x * y) us vs n)) (nw n) = andL us vs := by
  refine from_zip _ _ ?_ rfl (fun x y hx hy => Nat.and_lt_two_pow (n := 64) _ hy) n us vs h1 h2 hu hv
  intro x y k
  rw [Nat.testBit_and]
  cases x.testBit k <;> cases y.testBit k <;> rfl
set_option maxHeartbeats 2000000 in
theorem refAnd_any (n : Nat) (A B : Option Addr) (l c k d : Nat) (us vs : List Nat) (w : World) (hu : Words w A l us) (hv : Words w B k vs) (h1 : rightB n us = true) (h2 : rightB n vs = true) :
    Calls Try.prog 21 #[.agg #[.int .i64 n, .slice A l c], .agg #[.int .i64 n, .slice B k d]] w (OneRow n (andL us vs) w) := by
  obtain ⟨i0, hi, hz0, hz1, hz2⟩ := info_parts int_info
  have hn := (lmb_iff n).1 (right_lmb h1)
  have q0 := ((Box.new w 25 #[.int .i64 n, .slice A l c]).alloc (.cells #[.int .i64 n, .slice B k d] 25)).alloc (.cells #[.int .i64 0, .slice none 0 0] 25)
  have q1 := (Box.new (w.alloc (.cells #[.int .i64 n, .slice A l c] 25)) 25 #[.int .i64 n, .slice B k d]).alloc (.cells #[.int .i64 0, .slice none 0 0] 25)
  have q2 := Box.new ((w.alloc (.cells #[.int .i64 n, .slice A l c] 25)).alloc (.cells #[.int .i64 n, .slice B k d] 25)) 25 #[.int .i64 0, .slice none 0 0]
  have hW : Below w.heap.size w (((w.alloc (.cells #[.int .i64 n, .slice A l c] 25)).alloc (.cells #[.int .i64 n, .slice B k d] 25)).alloc (.cells #[.int .i64 0, .slice none 0 0] 25)) := (((Below.refl _ _).alloc (Nat.le_refl _) _).alloc (by simp) _).alloc (by simp; omega) _
  simp only [World.size_alloc] at q1 q2
  go_enter Try.func21, Try.ntmps21
  go_wp2
  have hz := q2.lt
  have how := (own_empty (((w.alloc (.cells #[.int .i64 n, .slice A l c] 25)).alloc (.cells #[.int .i64 n, .slice B k d] 25)).alloc (.cells #[.int .i64 0, .slice none 0 0] 25)) w.heap.size 3 hW.size)
  simp only [World.size_alloc] at how
  have HOw := Lib.hid how
  clear how
  have Q0 := Lib.hid (q0.alloc (.cells #[] 3))
  have Q1 := Lib.hid (q1.alloc (.cells #[] 3))
  have Q2 := Lib.hid (q2.alloc (.cells #[] 3))
  have HW := Lib.hid (hW.alloc hW.size (.cells #[] 3))
  have HU := Lib.hid hu
  have HV := Lib.hid hv
  have HR1 := Lib.hid h1
  have HR2 := Lib.hid h2
  have hl8 := rightB_len8 h1 hu.1
  have hl := right_len_eq h1
  rw [hu.1, Int.toNat_natCast] at hl
  have hk := right_len_eq h2
  rw [hv.1, Int.toNat_natCast] at hk
  have hn64 : n ≤ 64 * l := by rw [hl]; unfold nw; omega
  have hn64' : n ≤ 64 * k := by rw [hk]; unfold nw; omega
  have hk8 := rightB_len8 h2 hv.1
  clear q0 q1 q2 hW hu hv h1 h2 hz hl hk
  have HI := Lib.hid hi
  have HZ0 := Lib.hid hz0
  have HZ1 := Lib.hid hz1
  have HZ2 := Lib.hid hz2
  clear hi hz0 hz1 hz2
  go_loopw [5, 6] (fun v t wr => ∃ i : Nat, i ≤ n ∧ t = .int .i64 i ∧ wr.ownsRow w.heap.size 3 1 v i ((bitSums (fun x y => x * y) us vs i).map (Value.int .i64)) ∧ Box wr w.heap.size 25 #[.int .i64 n, .slice A l c] ∧ Box wr (w.heap.size + 1) 25 #[.int .i64 n, .slice B k d] ∧ Box wr (w.heap.size + 1 + 1) 25 #[.int .i64 0, .slice none 0 0] ∧ Below w.heap.size w wr)
    (fun _ t _ => n - (intOf t).toNat)
  case atStart => exact ⟨0, by omega, rfl, HOw.out, Q0.out, Q1.out, Q2.out, HW.out⟩
  case round =>
    obtain ⟨i, hi, rfl, hown, B0, B1, B2, hbel⟩ := hrel
    have R0 := Lib.hid B0
    have R1 := Lib.hid B1
    have R2 := Lib.hid B2
    have HO := Lib.hid hown
    have HB := Lib.hid hbel
    clear B0 B1 B2 hown hbel Q0 Q1 Q2 HW HOw
    obtain ⟨a0, a1, -, -⟩ := R0.out.two
    obtain ⟨b0, b1, -, -⟩ := R1.out.two
    by_cases hlt : i < n
    · have hlt' : (i : Int) < (n : Int) := by omega
      have bu := bitAt_le us i
      have bv := bitAt_le vs i
      have hi' := HI.out
      have hz0' := HZ0.out
      have hz1' := HZ1.out
      have hz2' := HZ2.out
      have hz := R2.out.lt
      have hne := Lib.hid (show (3 : TypeId) ≠ 25 by decide)
      generalize hX : bitAt us i = x at *
      generalize hY : bitAt vs i = y at *
      have HX := Lib.hid hX
      have HY := Lib.hid hY
      clear hX hY
      have hxy : x * y ≤ 1 := by rcases bu with h | h <;> rcases bv with h' | h' <;> rw [h, h'] <;> omega
      have f1 : IntKind.i64.wrap ((x : Int) * y) = ((x * y : Nat) : Int) := by rw [show ((x : Int) * y) = ((x * y : Nat) : Int) by simp]; exact IntWalk.i64_in _ (by omega)
      have f2 : True := trivial
      have HC1 := Lib.hid (fun (W : World) (h : Words W A l us) => bit_any n A l c i us W h (by omega) (by omega))
      have HC2 := Lib.hid (fun (W : World) (h : Words W B k vs) => bit_any n B k d i vs W h (by omega) (by omega))
      rw [HX.out] at HC1
      rw [HY.out] at HC2
      go_wp2
      go_region_held3 (fun w' => w'.cell? ⟨w.heap.size, 0, none⟩ = some (.int .i64 n) ∧ w'.cell? ⟨w.heap.size, 1, none⟩ = some (.slice A l c) ∧ w'.cell? ⟨w.heap.size + 1, 0, none⟩ = some (.int .i64 n) ∧ w'.cell? ⟨w.heap.size + 1, 1, none⟩ = some (.slice B k d))
        (go_keep)
        (first
          | (go_at_call_of 37 (Value.agg #[.int .i64 n, .slice A l c]); refine (HC1.out _ (HU.out.below HB.out).drew).mono ?_; rintro e1 x1 ⟨rfl, hb1⟩; have P0 := Lib.hid (R0.out.drew.keep hb1); have P1 := Lib.hid (R1.out.drew.keep hb1); have P2 := Lib.hid (R2.out.drew.keep hb1); have O1 := Lib.hid (own_keep HO.out.drew hb1); have T1 := Lib.hid (chain HB.out.drew hb1); clear hb1; obtain ⟨k0, k1, -, -⟩ := P0.out.two; obtain ⟨k2, k3, -, -⟩ := P1.out.two)
          | (go_at_call_of 37 (Value.agg #[.int .i64 n, .slice B k d]); refine (HC2.out _ (HV.out.below T1.out)).mono ?_; rintro e2 x2 ⟨rfl, hb2⟩; have S0 := Lib.hid (P0.out.keep hb2); have S1 := Lib.hid (P1.out.keep hb2); have S2 := Lib.hid (P2.out.keep hb2); have O2 := Lib.hid (own_keep O1.out hb2); have T2 := Lib.hid (chain T1.out hb2); clear hb2; obtain ⟨m0, m1, -, -⟩ := S0.out.two; obtain ⟨m2, m3, -, -⟩ := S1.out.two; have X0 := Lib.hid (S0.out.alloc (.cells #[.int .i64 ((x * y : Nat) : Int)] 3)); have X1 := Lib.hid (S1.out.alloc (.cells #[.int .i64 ((x * y : Nat) : Int)] 3)); have X2 := Lib.hid (S2.out.alloc (.cells #[.int .i64 ((x * y : Nat) : Int)] 3)); have XO := Lib.hid (O2.out.alloc (.cells #[.int .i64 ((x * y : Nat) : Int)] 3)); have XB := Lib.hid (T2.out.alloc T2.out.size (.cells #[.int .i64 ((x * y : Nat) : Int)] 3)); have N0 := Lib.hid (own_ne XO.out X0.out hne.out); have N1 := Lib.hid (own_ne XO.out X1.out hne.out); have N2 := Lib.hid (own_ne XO.out X2.out hne.out); have N3 := Lib.hid (fun k hk => (O2.out.lt k hk).1))
          | (refine step_append_lies _ (by rfl) _ _ _ (by rfl) w.heap.size 3 i0 _ 1 8 Try.underlying22 hi' hz0' hz1' hz2' rfl (by omega) _ _ _ (by rfl) XO.out ⟨x2.heap.size, 0, none⟩ 1 1 [.int .i64 ((x * y : Nat) : Int)] (by rfl) (by rfl) (cell_one_new _ _ _) (by simp [Value.oneCell']) (by omega) (by simp [maxLen]; omega) (by omega) XB.out.size (x2.heap.size + 1) (by simp) ?_; intro gg cap w1 hown1 hgrow hat hlg; have Y0 := Lib.hid (X0.out.grown hgrow N0.out); have Y1 := Lib.hid (X1.out.grown hgrow N1.out); have Y2 := Lib.hid (X2.out.grown hgrow N2.out); have YB := Lib.hid (XB.out.grown hgrow XB.out.size N3.out); have YO := Lib.hid hown1; clear hgrow hat hown1; obtain ⟨p0, p1, -, -⟩ := Y0.out.two; obtain ⟨p2, p3, -, -⟩ := Y1.out.two))
      clear p0 p1 p2 p3 m0 m1 m2 m3 k0 k1 k2 k3 a0 a1 b0 b1 f1 f2 hi' hz0' hz1' hz2'
      go_wp2
      go_roundw
      case rel =>
        refine ⟨i + 1, by omega, by go_num, ?_, Y0.out, Y1.out, Y2.out, YB.out⟩
        have h := YO.out
        rw [bitSums_succ, List.map_append, HX.out, HY.out]
        exact h
      case measure => simp [intOf] <;> omega
    · obtain rfl : i = n := by omega
      have hlt' : ¬ (i : Int) < (i : Int) := by omega
      obtain ⟨A', c', rfl, hA'⟩ := own_form HO.out
      go_wp2_with fail
      refine (from_any A' i c' _ _ (own_ints HO.out (bitSums_lt_and us vs i)) (by omega)).mono ?_
      rintro e x1 ⟨A1, l1, c1, rfl, hw, hb⟩
      have P2 := Lib.hid (R2.out.keep hb)
      have T1 := Lib.hid (chain HB.out hb)
      have HWo := Lib.hid hw
      clear hw hb a0 a1 b0 b1
      obtain ⟨r0, r1, r2, r3⟩ := P2.out.two
      go_wp2
      refine close_one Try.results21 rfl rfl P2.out.put2 Try.underlying25 rfl (by kernel_rfl) ⟨_, _, _, rfl, ?_, ?_⟩
      · have h := HWo.out
        rw [from_and i us vs HR1.out HR2.out HU.out.2.1 HV.out.2.1] at h
        exact h.put2 P2.out _ _
      · exact (T1.out.setCell (p := ⟨w.heap.size + 1 + 1, 0, none⟩) (by simp; omega) _).setCell (p := ⟨w.heap.size + 1 + 1, 1, none⟩) (by simp; omega) _
end Go.Proofs.Ytfeaollpeaphlaa
