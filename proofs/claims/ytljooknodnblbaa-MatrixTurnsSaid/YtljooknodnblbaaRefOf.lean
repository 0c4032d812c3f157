/- Contracts of the reference's In, There and Of. -/
import Derived.Test.YtljooknodnblbaaFrom
import Derived.Test.YtljooknodnblbaaOf
import Derived.Test.YtljooknodnblbaaRefXor
namespace Go.Proofs.Ytljooknodnblbaa
set_option linter.unusedVariables false
set_option linter.unusedSimpArgs false
open Go.RowKit
def hasB (zs : List Int) (x : Int) : Bool := zs.contains x
theorem in_any (A : Option Addr) (l c : Nat) (zs : List Int) (x : Int) (w : World) (hz : Ints w A l zs) (hl : l ≤ 9223372036854775807) :
    Calls Try.prog 32 #[.slice A l c, .int .i64 x] w fun e w' => e = .returned (.bool (hasB zs x)) ∧ w = w' := by
  have HZ := Lib.hid hz
  clear hz
  go_enter Try.func32, Try.ntmps32
  go_wp2
  go_loop [9] (fun i => ∃ j : Nat, j ≤ l ∧ i = .int .i64 j ∧ hasB (zs.take j) x = false) (fun i => l - (intOf i).toNat)
  case atStart => exact ⟨0, by omega, rfl, rfl⟩
  case round =>
    obtain ⟨j, hj, rfl, heq⟩ := hrel
    have HE := Lib.hid heq
    clear heq
    by_cases hlt : j < l
    · obtain ⟨b, o, rfl, hlb, hc⟩ := HZ.out.2.2 (by omega)
      have cz := hc j hlt
      obtain ⟨y, ey⟩ : ∃ y, y = zs.getD j 0 := ⟨_, rfl⟩
      rw [← ey] at cz
      have htk := take_one zs j 0 (by rw [HZ.out.1]; exact hlt)
      rw [← ey] at htk
      have HT := Lib.hid htk
      clear ey hc htk
      by_cases h : y = x
      · have t : (y == x) = true := by simpa using h
        have HF : Hid (hasB zs x = true) := by
          show hasB zs x = true
          unfold hasB
          rw [← List.take_append_drop (j + 1) zs, HT.out, h]
          simp
        clear h
        go_wp2
        go_ret
        exact ⟨by rw [HF.out]; rfl, rfl⟩
      · have t : (y == x) = false := by simpa using h
        have HF : Hid (hasB (zs.take (j + 1)) x = false) := by
          show hasB (zs.take (j + 1)) x = false
          have := HE.out
          unfold hasB at this ⊢
          rw [HT.out]
          simp at this ⊢
          exact ⟨this, fun e => h e.symm⟩
        clear h
        go_wp2
        go_round
        case rel => exact ⟨j + 1, by omega, by go_num, HF.out⟩
        case measure => simp [intOf]; omega
    · have HF : Hid (hasB zs x = false) := by
        show hasB zs x = false
        unfold hasB
        have := HE.out
        unfold hasB at this
        rw [List.take_of_length_le (by rw [HZ.out.1]; omega)] at this
        exact this
      go_wp2
      go_ret
      exact ⟨by rw [HF.out]; rfl, rfl⟩
def ofInts (zs : List Int) (n : Nat) : List Int := (List.range n).map fun (j : Nat) => if hasB zs (j : Int) then 1 else 0
theorem ofInts_succ (zs : List Int) (n : Nat) : ofInts zs (n + 1) = ofInts zs n ++ [if hasB zs (n : Int) then 1 else 0] := by simp [ofInts, List.range_succ]
theorem ofInts_len (zs : List Int) (n : Nat) : (ofInts zs n).length = n := by simp [ofInts]
theorem ofInts_get (zs : List Int) (n j : Nat) (h : j < n) : (ofInts zs n).getD j 0 = if hasB zs (j : Int) then 1 else 0 := by simp [ofInts, List.getD, h]
theorem ofInts_lt (zs : List Int) (n j : Nat) : -9223372036854775808 ≤ (ofInts zs n).getD j 0 ∧ (ofInts zs n).getD j 0 ≤ 9223372036854775807 := by
  by_cases h : j < n
  · rw [ofInts_get zs n j h]
    split <;> omega
  · have hn : (ofInts zs n)[j]? = none := List.getElem?_eq_none (by rw [ofInts_len]; omega)
    simp only [List.getD, hn, Option.getD_none]
    omega
theorem orBit_test (ws : List Nat) (p i j : Nat) (hi : i < ws.length) : ((orBit ws p).getD i 0).testBit j = ((ws.getD i 0).testBit j || (p / 64 == i && p % 64 == j)) := by
  unfold orBit
  by_cases h : p / 64 = i
  · subst h
    have e : (ws.set (p / 64) (ws.getD (p / 64) 0 ||| 2 ^ (p % 64))).getD (p / 64) 0 = ws.getD (p / 64) 0 ||| 2 ^ (p % 64) := by
      simp [List.getD, hi]
    rw [e, Nat.testBit_or, Nat.testBit_two_pow]
    simp
    rfl
  · have e : (ws.set (p / 64) (ws.getD (p / 64) 0 ||| 2 ^ (p % 64))).getD i 0 = ws.getD i 0 := by
      simp [List.getD, List.getElem?_set, h]
    have h' : (p / 64 == i) = false := by simpa using h
    rw [e, h']; simp
theorem foldl_test (ps : List Int) (ws : List Nat) (i j : Nat) (hi : i < ws.length) : ((ps.foldl (fun ws p => orBit ws p.toNat) ws).getD i 0).testBit j = ((ws.getD i 0).testBit j || ps.any fun p => p.toNat / 64 == i && p.toNat % 64 == j) := by
  induction ps generalizing ws with
  | nil => simp
  | cons p ps ih =>
    rw [List.foldl_cons, ih (orBit ws p.toNat) (by rw [orBit_length]; exact hi), orBit_test ws p.toNat i j hi, List.any_cons, Bool.or_assoc]
theorem ofBits_test (n : Nat) (ps : List Int) (i j : Nat) (hi : i < nw n) : ((ofBits n ps).getD i 0).testBit j = ps.any fun p => p.toNat / 64 == i && p.toNat % 64 == j := by
  unfold ofBits
  rw [foldl_test ps _ i j (by simpa using hi)]
  have e : (List.replicate (nw n) 0).getD i 0 = 0 := by simp [List.getD, hi]
  rw [e]; simp
theorem from_of (n : Nat) (zs : List Int) (ht : there n zs = true) : fromL (bitsOf (ofInts zs n)) (nw n) = ofBits n zs := by
  apply List.ext_getElem
  · rw [fromL_len, ofBits_len]
  · intro i hi1 hi2
    have hi : i < nw n := by rw [fromL_len] at hi1; exact hi1
    have eo : (ofBits n zs)[i] = (ofBits n zs).getD i 0 := by simp [List.getD, hi2]
    simp only [fromL, List.getElem_map, List.getElem_range]
    rw [eo]
    apply Nat.eq_of_testBit_eq
    intro j
    rw [accM_bit _ _ _ _ (Nat.le_refl _), ofBits_test n zs i j hi]
    have hall : ∀ p ∈ zs, 0 ≤ p ∧ p < n := by
      intro p hp
      have := (List.all_eq_true.1 ht) p hp
      simpa using this
    by_cases hj : j < 64
    · have hd : decide (j < 64) = true := by simpa using hj
      rw [hd, Bool.true_and, show 64 * i + (64 - 64 + j) = 64 * i + j by omega]
      rw [Bool.eq_iff_iff, List.any_eq_true]
      unfold bitsOf
      rw [ofInts_len, Bool.and_eq_true]
      constructor
      · rintro ⟨h1, h2⟩
        have h1' : 64 * i + j < n := by simpa using h1
        rw [ofInts_get zs n _ h1'] at h2
        by_cases hc : hasB zs ((64 * i + j : Nat) : Int) = true
        · refine ⟨((64 * i + j : Nat) : Int), by simpa [hasB] using hc, ?_⟩
          rw [Int.toNat_natCast]
          simp
          omega
        · rw [if_neg hc] at h2
          simp at h2
      · rintro ⟨p, hp, hb⟩
        have hr := hall p hp
        obtain ⟨q, rfl⟩ := Int.eq_ofNat_of_zero_le hr.1
        rw [Int.toNat_natCast] at hb
        simp at hb
        have e : 64 * i + j = q := by omega
        have hq : q < n := by omega
        rw [e]
        refine ⟨by simpa using hq, ?_⟩
        rw [ofInts_get zs n q hq]
        have hc : hasB zs (q : Int) = true := by simpa [hasB] using hp
        rw [if_pos hc]; rfl
    · have hd : decide (j < 64) = false := by simpa using hj
      rw [hd, Bool.false_and]
      symm
      rw [List.any_eq_false]
      intro p _
      simp
      intro _
      omega
set_option maxHeartbeats 1000000 in
theorem refOf_any (n : Nat) (A : Option Addr) (l c : Nat) (zs : List Int) (w : World) (hz : Ints w A l zs) (hl : l ≤ 1000000) (hn : n ≤ 512) (ht : there n zs = true) :
    Calls Try.prog 23 #[.int .i64 n, .slice A l c] w (OneRow n (ofBits n zs) w) := by
  obtain ⟨i0, hi, hz0, hz1, hz2⟩ := info_parts int_info
  have q0 := Box.new w 37 #[.int .i64 0, .slice none 0 0]
  have hW : Below w.heap.size w (w.alloc (.cells #[.int .i64 0, .slice none 0 0] 37)) := (Below.refl _ _).alloc (Nat.le_refl _) _
  go_enter Try.func23, Try.ntmps23
  go_wp2
  have how := own_empty (w.alloc (.cells #[.int .i64 0, .slice none 0 0] 37)) w.heap.size 3 hW.size
  simp only [World.size_alloc] at how
  have HOw := Lib.hid how
  have Q0 := Lib.hid (q0.alloc (.cells #[] 3))
  have HW := Lib.hid (hW.alloc hW.size (.cells #[] 3))
  have HZ := Lib.hid hz
  have HT := Lib.hid ht
  clear how q0 hW hz ht
  have HI := Lib.hid hi
  have HZ0 := Lib.hid hz0
  have HZ1 := Lib.hid hz1
  have HZ2 := Lib.hid hz2
  clear hi hz0 hz1 hz2
  have hne := Lib.hid (show (3 : TypeId) ≠ 37 by decide)
  go_loopw [5, 6] (fun v t wr => ∃ i : Nat, i ≤ n ∧ t = .int .i64 i ∧ wr.ownsRow w.heap.size 3 1 v i ((ofInts zs i).map (Value.int .i64)) ∧ Box wr w.heap.size 37 #[.int .i64 0, .slice none 0 0] ∧ Below w.heap.size w wr)
    (fun _ t _ => n - (intOf t).toNat)
  case atStart => exact ⟨0, by omega, rfl, HOw.out, Q0.out, HW.out⟩
  case round =>
    obtain ⟨i, hi, rfl, hown, B0, hbel⟩ := hrel
    have R0 := Lib.hid B0
    have HO := Lib.hid hown
    have HB := Lib.hid hbel
    clear B0 hown hbel Q0 HW HOw
    by_cases hlt : i < n
    · have hlt' : (i : Int) < (n : Int) := by omega
      go_wp2_with fail
      refine (in_any A l c zs i _ (HZ.out.below HB.out) (by omega)).mono ?_
      rintro e w' ⟨rfl, rfl⟩
      have hi' := HI.out
      have hz0' := HZ0.out
      have hz1' := HZ1.out
      have hz2' := HZ2.out
      cases hc : hasB zs (i : Int) with
      | true =>
        have HS : Hid (ofInts zs (i + 1) = ofInts zs i ++ [1]) := by
          show _ = _
          rw [ofInts_succ, hc]; rfl
        clear hc
        have X0 := Lib.hid (R0.out.alloc (.cells #[.int .i64 1] 3))
        have XO := Lib.hid (HO.out.alloc (.cells #[.int .i64 1] 3))
        have XB := Lib.hid (HB.out.alloc HB.out.size (.cells #[.int .i64 1] 3))
        have N0 := Lib.hid (own_ne XO.out X0.out hne.out)
        have N2 := Lib.hid (fun k hk => (HO.out.lt k hk).1)
        go_wp2_with (at_builtin; refine wpList_append_own _ rfl _ _ 47 rfl w.heap.size 3 i0 (.int .i64 0) 1 8 Try.underlying47 hi' hz0' hz1' hz2' rfl (by decide) _ _ _ rfl XO.out ⟨wr.heap.size, 0, none⟩ 1 1 [.int .i64 1] rfl rfl (cell_one_new _ _ _) (by simp [Value.oneCell']) (by simp [maxLen]; omega) (by omega) XB.out.size ?_; intro v' w1 hown' hgrow _; have S0 := Lib.hid (X0.out.grown hgrow N0.out); have HC := Lib.hid (XB.out.grown hgrow XB.out.size N2.out); have HO2 := Lib.hid hown'; clear hown' hgrow)
        go_roundw
        case rel =>
          refine ⟨i + 1, by omega, by go_num, ?_, S0.out, HC.out⟩
          rw [HS.out, List.map_append]
          exact HO2.out
        case measure => simp [intOf] <;> omega
      | false =>
        have HS : Hid (ofInts zs (i + 1) = ofInts zs i ++ [0]) := by
          show _ = _
          rw [ofInts_succ, hc]; rfl
        clear hc
        have X0 := Lib.hid (R0.out.alloc (.cells #[.int .i64 0] 3))
        have XO := Lib.hid (HO.out.alloc (.cells #[.int .i64 0] 3))
        have XB := Lib.hid (HB.out.alloc HB.out.size (.cells #[.int .i64 0] 3))
        have N0 := Lib.hid (own_ne XO.out X0.out hne.out)
        have N2 := Lib.hid (fun k hk => (HO.out.lt k hk).1)
        go_wp2_with (at_builtin; refine wpList_append_own _ rfl _ _ 47 rfl w.heap.size 3 i0 (.int .i64 0) 1 8 Try.underlying47 hi' hz0' hz1' hz2' rfl (by decide) _ _ _ rfl XO.out ⟨wr.heap.size, 0, none⟩ 1 1 [.int .i64 0] rfl rfl (cell_one_new _ _ _) (by simp [Value.oneCell']) (by simp [maxLen]; omega) (by omega) XB.out.size ?_; intro v' w1 hown' hgrow _; have S0 := Lib.hid (X0.out.grown hgrow N0.out); have HC := Lib.hid (XB.out.grown hgrow XB.out.size N2.out); have HO2 := Lib.hid hown'; clear hown' hgrow)
        go_roundw
        case rel =>
          refine ⟨i + 1, by omega, by go_num, ?_, S0.out, HC.out⟩
          rw [HS.out, List.map_append]
          exact HO2.out
        case measure => simp [intOf] <;> omega
    · obtain rfl : i = n := by omega
      have hlt' : ¬ (i : Int) < (i : Int) := by omega
      obtain ⟨A', c', rfl, hA'⟩ := own_form HO.out
      go_wp2_with fail
      refine (from_any A' i c' _ _ (own_ints HO.out (ofInts_lt zs i)) (by omega)).mono ?_
      rintro e x1 ⟨A1, l1, c1, rfl, hw, hb⟩
      have P0 := Lib.hid (R0.out.keep hb)
      have T1 := Lib.hid (chain HB.out hb)
      have HWo := Lib.hid hw
      clear hw hb
      obtain ⟨r0, r1, r2, r3⟩ := P0.out.two
      go_wp2
      refine close_one Try.results23 rfl rfl P0.out.put2 Try.underlying37 rfl (by kernel_rfl) ⟨_, _, _, rfl, ?_, ?_⟩
      · have h := HWo.out
        rw [from_of i zs HT.out] at h
        exact h.put2 P0.out _ _
      · exact (T1.out.setCell (p := ⟨w.heap.size, 0, none⟩) (Nat.le_refl _) _).setCell (p := ⟨w.heap.size, 1, none⟩) (Nat.le_refl _) _
end Go.Proofs.Ytljooknodnblbaa
