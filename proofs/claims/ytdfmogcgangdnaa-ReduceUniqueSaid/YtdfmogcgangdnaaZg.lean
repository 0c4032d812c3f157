/- Parts: RefOf, MatM, Mat5, Mat6, Mat7, OwnF. -/
import Derived.Test.YtdfmogcgangdnaaZf
import Derived.Deep.AppendLies
import Derived.OpenShut
namespace Go.Proofs.Ytdfmogcgangdnaa
section
/- Contracts of the reference's In, There and Of. -/
set_option linter.unusedVariables false
set_option linter.unusedSimpArgs false
open Go.RowKit
def hasB (zs : List Int) (x : Int) : Bool := zs.contains x
theorem in_any (A : Option Addr) (l c : Nat) (zs : List Int) (x : Int) (w : World) (hz : Ints w A l zs) (hl : l ≤ 9223372036854775807) :
    Calls Try.prog 76 #[.slice A l c, .int .i64 x] w fun e w' => e = .returned (.bool (hasB zs x)) ∧ w = w' := by
  have HZ := Lib.hid hz
  clear hz
  go_enter Try.func76, Try.ntmps76
  go_wp2
  go_loop [9] (fun i => ∃ j : Nat, j ≤ l ∧ i = .int .i64 j ∧ hasB (zs.take j) x = false) (fun i => l - (intOf i).toNat)
  case atStart => exact ⟨0, by omega, rfl, rfl⟩
  case round =>
    obtain ⟨j, hj, rfl, heq⟩ := hrel
    have HE := Lib.hid heq
    clear heq
    by_cases hlt : j < l
    · obtain ⟨b, o, rfl, hlb, hc⟩ := HZ.out.2.2 (by omega)
      have cz := hc j hlt
      obtain ⟨y, ey⟩ : ∃ y, y = zs.getD j 0 := ⟨_, rfl⟩
      rw [← ey] at cz
      have htk := take_one zs j 0 (by rw [HZ.out.1]; exact hlt)
      rw [← ey] at htk
      have HT := Lib.hid htk
      clear ey hc htk
      by_cases h : y = x
      · have t : (y == x) = true := by simpa using h
        have HF : Hid (hasB zs x = true) := by
          show hasB zs x = true
          unfold hasB
          rw [← List.take_append_drop (j + 1) zs, HT.out, h]
          simp
        clear h
        go_wp2
        go_ret
        exact ⟨by rw [HF.out]; rfl, rfl⟩
      · have t : (y == x) = false := by simpa using h
        have HF : Hid (hasB (zs.take (j + 1)) x = false) := by
          show hasB (zs.take (j + 1)) x = false
          have := HE.out
          unfold hasB at this ⊢
          rw [HT.out]
          simp at this ⊢
          exact ⟨this, fun e => h e.symm⟩
        clear h
        go_wp2
        go_round
        case rel => exact ⟨j + 1, by omega, by go_num, HF.out⟩
        case measure => simp [intOf]; omega
    · have HF : Hid (hasB zs x = false) := by
        show hasB zs x = false
        unfold hasB
        have := HE.out
        unfold hasB at this
        rw [List.take_of_length_le (by rw [HZ.out.1]; omega)] at this
        exact this
      go_wp2
      go_ret
      exact ⟨by rw [HF.out]; rfl, rfl⟩
def ofInts (zs : List Int) (n : Nat) : List Int := (List.range n).map fun (j : Nat) => if hasB zs (j : Int) then 1 else 0
theorem ofInts_succ (zs : List Int) (n : Nat) : ofInts zs (n + 1) = ofInts zs n ++ [if hasB zs (n : Int) then 1 else 0] := by simp [ofInts, List.range_succ]
theorem ofInts_len (zs : List Int) (n : Nat) : (ofInts zs n).length = n := by simp [ofInts]
theorem ofInts_get (zs : List Int) (n j : Nat) (h : j < n) : (ofInts zs n).getD j 0 = if hasB zs (j : Int) then 1 else 0 := by simp [ofInts, List.getD, h]
theorem ofInts_lt (zs : List Int) (n j : Nat) : -9223372036854775808 ≤ (ofInts zs n).getD j 0 ∧ (ofInts zs n).getD j 0 ≤ 9223372036854775807 := by
  by_cases h : j < n
  · rw [ofInts_get zs n j h]
    split <;> omega
  · have hn : (ofInts zs n)[j]? = none := List.getElem?_eq_none (by rw [ofInts_len]; omega)
    simp only [List.getD, hn, Option.getD_none]
    omega
theorem orBit_test (ws : List Nat) (p i j : Nat) (hi : i < ws.length) : ((orBit ws p).getD i 0).testBit j = ((ws.getD i 0).testBit j || (p / 64 == i && p % 64 == j)) := by
  unfold orBit
  by_cases h : p / 64 = i
  · subst h
    have e : (ws.set (p / 64) (ws.getD (p / 64) 0 ||| 2 ^ (p % 64))).getD (p / 64) 0 = ws.getD (p / 64) 0 ||| 2 ^ (p % 64) := by
      simp [List.getD, hi]
    rw [e, Nat.testBit_or, Nat.testBit_two_pow]
    simp
    rfl
  · have e : (ws.set (p / 64) (ws.getD (p / 64) 0 ||| 2 ^ (p % 64))).getD i 0 = ws.getD i 0 := by
      simp [List.getD, List.getElem?_set, h]
    have h' : (p / 64 == i) = false := by simpa using h
    rw [e, h']; simp
theorem foldl_test (ps : List Int) (ws : List Nat) (i j : Nat) (hi : i < ws.length) : ((ps.foldl (fun ws p => orBit ws p.toNat) ws).getD i 0).testBit j = ((ws.getD i 0).testBit j || ps.any fun p => p.toNat / 64 == i && p.toNat % 64 == j) := by
  induction ps generalizing ws with
  | nil => simp
  | cons p ps ih =>
    rw [List.foldl_cons, ih (orBit ws p.toNat) (by rw [orBit_length]; exact hi), orBit_test ws p.toNat i j hi, List.any_cons, Bool.or_assoc]
theorem ofBits_test (n : Nat) (ps : List Int) (i j : Nat) (hi : i < nw n) : ((ofBits n ps).getD i 0).testBit j = ps.any fun p => p.toNat / 64 == i && p.toNat % 64 == j := by
  unfold ofBits
  rw [foldl_test ps _ i j (by simpa using hi)]
  have e : (List.replicate (nw n) 0).getD i 0 = 0 := by simp [List.getD, hi]
  rw [e]; simp
theorem from_of (n : Nat) (zs : List Int) (ht : there n zs = true) : fromL (bitsOf (ofInts zs n)) (nw n) = ofBits n zs := by
  apply List.ext_getElem
  · rw [fromL_len, ofBits_len]
  · intro i hi1 hi2
    have hi : i < nw n := by rw [fromL_len] at hi1; exact hi1
    have eo : (ofBits n zs)[i] = (ofBits n zs).getD i 0 := by simp [List.getD, hi2]
    simp only [fromL, List.getElem_map, List.getElem_range]
    rw [eo]
    apply Nat.eq_of_testBit_eq
    intro j
    rw [accM_bit _ _ _ _ (Nat.le_refl _), ofBits_test n zs i j hi]
    have hall : ∀ p ∈ zs, 0 ≤ p ∧ p < n := by
      intro p hp
      have := (List.all_eq_true.1 ht) p hp
      simpa using this
    by_cases hj : j < 64
    · have hd : decide (j < 64) = true := by simpa using hj
      rw [hd, Bool.true_and, show 64 * i + (64 - 64 + j) = 64 * i + j by omega]
      rw [Bool.eq_iff_iff, List.any_eq_true]
      unfold bitsOf
      rw [ofInts_len, Bool.and_eq_true]
      constructor
      · rintro ⟨h1, h2⟩
        have h1' : 64 * i + j < n := by simpa using h1
        rw [ofInts_get zs n _ h1'] at h2
        by_cases hc : hasB zs ((64 * i + j : Nat) : Int) = true
        · refine ⟨((64 * i + j : Nat) : Int), by simpa [hasB] using hc, ?_⟩
          rw [Int.toNat_natCast]
          simp
          omega
        · rw [if_neg hc] at h2
          simp at h2
      · rintro ⟨p, hp, hb⟩
        have hr := hall p hp
        obtain ⟨q, rfl⟩ := Int.eq_ofNat_of_zero_le hr.1
        rw [Int.toNat_natCast] at hb
        simp at hb
        have e : 64 * i + j = q := by omega
        have hq : q < n := by omega
        rw [e]
        refine ⟨by simpa using hq, ?_⟩
        rw [ofInts_get zs n q hq]
        have hc : hasB zs (q : Int) = true := by simpa [hasB] using hp
        rw [if_pos hc]; rfl
    · have hd : decide (j < 64) = false := by simpa using hj
      rw [hd, Bool.false_and]
      symm
      rw [List.any_eq_false]
      intro p _
      simp
      intro _
      omega
set_option maxHeartbeats 1000000 in
theorem refOf_any (n : Nat) (A : Option Addr) (l c : Nat) (zs : List Int) (w : World) (hz : Ints w A l zs) (hl : l ≤ 1000000) (hn : n ≤ 512) (ht : there n zs = true) :
    Calls Try.prog 69 #[.int .i64 n, .slice A l c] w (OneRow n (ofBits n zs) w) := by
  obtain ⟨i0, hi, hz0, hz1, hz2⟩ := info_parts int_info
  have q0 := Box.new w 40 #[.int .i64 0, .slice none 0 0]
  have hW : Below w.heap.size w (w.alloc (.cells #[.int .i64 0, .slice none 0 0] 40)) := (Below.refl _ _).alloc (Nat.le_refl _) _
  go_enter Try.func69, Try.ntmps69
  go_wp2
  have how := own_empty (w.alloc (.cells #[.int .i64 0, .slice none 0 0] 40)) w.heap.size 3 hW.size
  simp only [World.size_alloc] at how
  have HOw := Lib.hid how
  have Q0 := Lib.hid (q0.alloc (.cells #[] 3))
  have HW := Lib.hid (hW.alloc hW.size (.cells #[] 3))
  have HZ := Lib.hid hz
  have HT := Lib.hid ht
  clear how q0 hW hz ht
  have HI := Lib.hid hi
  have HZ0 := Lib.hid hz0
  have HZ1 := Lib.hid hz1
  have HZ2 := Lib.hid hz2
  clear hi hz0 hz1 hz2
  have hne := Lib.hid (show (3 : TypeId) ≠ 40 by decide)
  go_loopw [5, 6] (fun v t wr => ∃ i : Nat, i ≤ n ∧ t = .int .i64 i ∧ wr.ownsRow w.heap.size 3 1 v i ((ofInts zs i).map (Value.int .i64)) ∧ Box wr w.heap.size 40 #[.int .i64 0, .slice none 0 0] ∧ Below w.heap.size w wr)
    (fun _ t _ => n - (intOf t).toNat)
  case atStart => exact ⟨0, by omega, rfl, HOw.out, Q0.out, HW.out⟩
  case round =>
    obtain ⟨i, hi, rfl, hown, B0, hbel⟩ := hrel
    have R0 := Lib.hid B0
    have HO := Lib.hid hown
    have HB := Lib.hid hbel
    clear B0 hown hbel Q0 HW HOw
    by_cases hlt : i < n
    · have hlt' : (i : Int) < (n : Int) := by omega
      go_wp2_with fail
      refine (in_any A l c zs i _ (HZ.out.below HB.out) (by omega)).mono ?_
      rintro e w' ⟨rfl, rfl⟩
      have hi' := HI.out
      have hz0' := HZ0.out
      have hz1' := HZ1.out
      have hz2' := HZ2.out
      cases hc : hasB zs (i : Int) with
      | true =>
        have HS : Hid (ofInts zs (i + 1) = ofInts zs i ++ [1]) := by
          show _ = _
          rw [ofInts_succ, hc]; rfl
        clear hc
        have X0 := Lib.hid (R0.out.alloc (.cells #[.int .i64 1] 3))
        have XO := Lib.hid (HO.out.alloc (.cells #[.int .i64 1] 3))
        have XB := Lib.hid (HB.out.alloc HB.out.size (.cells #[.int .i64 1] 3))
        have N0 := Lib.hid (own_ne XO.out X0.out hne.out)
        have N2 := Lib.hid (fun k hk => (HO.out.lt k hk).1)
        go_wp2_with (at_builtin; refine wpList_append_own _ rfl _ _ 26 rfl w.heap.size 3 i0 (.int .i64 0) 1 8 Try.underlying26 hi' hz0' hz1' hz2' rfl (by decide) _ _ _ rfl XO.out ⟨wr.heap.size, 0, none⟩ 1 1 [.int .i64 1] rfl rfl (cell_one_new _ _ _) (by simp [Value.oneCell']) (by simp [maxLen]; omega) (by omega) XB.out.size ?_; intro v' w1 hown' hgrow _; have S0 := Lib.hid (X0.out.grown hgrow N0.out); have HC := Lib.hid (XB.out.grown hgrow XB.out.size N2.out); have HO2 := Lib.hid hown'; clear hown' hgrow)
        go_roundw
        case rel =>
          refine ⟨i + 1, by omega, by go_num, ?_, S0.out, HC.out⟩
          rw [HS.out, List.map_append]
          exact HO2.out
        case measure => simp [intOf] <;> omega
      | false =>
        have HS : Hid (ofInts zs (i + 1) = ofInts zs i ++ [0]) := by
          show _ = _
          rw [ofInts_succ, hc]; rfl
        clear hc
        have X0 := Lib.hid (R0.out.alloc (.cells #[.int .i64 0] 3))
        have XO := Lib.hid (HO.out.alloc (.cells #[.int .i64 0] 3))
        have XB := Lib.hid (HB.out.alloc HB.out.size (.cells #[.int .i64 0] 3))
        have N0 := Lib.hid (own_ne XO.out X0.out hne.out)
        have N2 := Lib.hid (fun k hk => (HO.out.lt k hk).1)
        go_wp2_with (at_builtin; refine wpList_append_own _ rfl _ _ 26 rfl w.heap.size 3 i0 (.int .i64 0) 1 8 Try.underlying26 hi' hz0' hz1' hz2' rfl (by decide) _ _ _ rfl XO.out ⟨wr.heap.size, 0, none⟩ 1 1 [.int .i64 0] rfl rfl (cell_one_new _ _ _) (by simp [Value.oneCell']) (by simp [maxLen]; omega) (by omega) XB.out.size ?_; intro v' w1 hown' hgrow _; have S0 := Lib.hid (X0.out.grown hgrow N0.out); have HC := Lib.hid (XB.out.grown hgrow XB.out.size N2.out); have HO2 := Lib.hid hown'; clear hown' hgrow)
        go_roundw
        case rel =>
          refine ⟨i + 1, by omega, by go_num, ?_, S0.out, HC.out⟩
          rw [HS.out, List.map_append]
          exact HO2.out
        case measure => simp [intOf] <;> omega
    · obtain rfl : i = n := by omega
      have hlt' : ¬ (i : Int) < (i : Int) := by omega
      obtain ⟨A', c', rfl, hA'⟩ := own_form HO.out
      go_wp2_with fail
      refine (from_any A' i c' _ _ (own_ints HO.out (ofInts_lt zs i)) (by omega)).mono ?_
      rintro e x1 ⟨A1, l1, c1, rfl, hw, hb⟩
      have P0 := Lib.hid (R0.out.keep hb)
      have T1 := Lib.hid (chain HB.out hb)
      have HWo := Lib.hid hw
      clear hw hb
      obtain ⟨r0, r1, r2, r3⟩ := P0.out.two
      go_wp2
      refine close_one Try.results69 rfl rfl P0.out.put2 Try.underlying40 rfl (by kernel_rfl) ⟨_, _, _, rfl, ?_, ?_⟩
      · have h := HWo.out
        rw [from_of i zs HT.out] at h
        exact h.put2 P0.out _ _
      · exact (T1.out.setCell (p := ⟨w.heap.size, 0, none⟩) (Nat.le_refl _) _).setCell (p := ⟨w.heap.size, 1, none⟩) (Nat.le_refl _) _
end
section
/- Mathematics of matrices: columns. -/
set_option linter.unusedVariables false
set_option linter.unusedSimpArgs false
open Go.RowKit
/-- The bit of row j at i. -/
def mbit (ms : List (Int × List Nat)) (j i : Nat) : Nat := bitAt (ms.getD j (0, [])).2 i
theorem mbit_le (ms : List (Int × List Nat)) (j i : Nat) : mbit ms j i = 0 ∨ mbit ms j i = 1 := bitAt_le _ _
/-- Where a column's bits are 1, among the first k rows. -/
def colP (ms : List (Int × List Nat)) (i k : Nat) : List Nat := (List.range k).filter fun j => mbit ms j i == 1
def castP (l : List Nat) : List Int := l.map fun (x : Nat) => (x : Int)
theorem colP_succ (ms : List (Int × List Nat)) (i k : Nat) : colP ms i (k + 1) = colP ms i k ++ if mbit ms k i = 1 then [k] else [] := by
  unfold colP
  rw [List.range_succ, List.filter_append]
  congr 1
  by_cases h : mbit ms k i = 1
  · have t : (mbit ms k i == 1) = true := by simpa using h
    simp [t, h]
  · have t : (mbit ms k i == 1) = false := by simpa using h
    simp [t, h]
theorem colP_len (ms : List (Int × List Nat)) (i k : Nat) : (colP ms i k).length ≤ k := by
  unfold colP
  have := List.length_filter_le (fun j => mbit ms j i == 1) (List.range k)
  simpa using this
theorem colP_lt {ms : List (Int × List Nat)} {i k p : Nat} (h : p ∈ colP ms i k) : p < k := by
  have := (List.mem_filter.1 h).1
  simpa using this
theorem colP_there (ms : List (Int × List Nat)) (i k : Nat) : there (k : Int) (castP (colP ms i k)) = true := by
  simp only [there, castP, List.all_eq_true, List.mem_map]
  rintro x ⟨y, hy, rfl⟩
  have := colP_lt hy
  simp; omega
theorem castP_bound {l : List Nat} {k : Nat} (h : ∀ p ∈ l, p < k) (hk : k ≤ 1000000) (j : Nat) : -9223372036854775808 ≤ (castP l).getD j 0 ∧ (castP l).getD j 0 ≤ 9223372036854775807 := by
  by_cases hj : j < l.length
  · have e : (castP l).getD j 0 = ((l[j] : Nat) : Int) := by simp [castP, List.getD, hj]
    have := h l[j] (List.getElem_mem _)
    rw [e]; omega
  · have e : (castP l)[j]? = none := List.getElem?_eq_none (by simp [castP]; omega)
    simp only [List.getD, e, Option.getD_none]; omega
/-- The column as a row. -/
def colW (ms : List (Int × List Nat)) (i : Nat) : List Nat := ofBits ms.length (castP (colP ms i ms.length))
/-- A matrix turned, of n columns. -/
def turnM (n : Nat) (ms : List (Int × List Nat)) : List (Int × List Nat) := (List.range n).map fun i => ((ms.length : Int), colW ms i)
/-- The column as numbers. -/
def colZ (ms : List (Int × List Nat)) (i k : Nat) : List Int := (List.range k).map fun j => ((mbit ms j i : Nat) : Int)
theorem colZ_succ (ms : List (Int × List Nat)) (i k : Nat) : colZ ms i (k + 1) = colZ ms i k ++ [((mbit ms k i : Nat) : Int)] := by simp [colZ, List.range_succ]
theorem colZ_len (ms : List (Int × List Nat)) (i k : Nat) : (colZ ms i k).length = k := by simp [colZ]
theorem colZ_bound (ms : List (Int × List Nat)) (i k j : Nat) : -9223372036854775808 ≤ (colZ ms i k).getD j 0 ∧ (colZ ms i k).getD j 0 ≤ 9223372036854775807 := by
  by_cases hj : j < k
  · have e : (colZ ms i k).getD j 0 = ((mbit ms j i : Nat) : Int) := by simp [colZ, List.getD, hj]
    have := mbit_le ms j i
    rw [e]; omega
  · have e : (colZ ms i k)[j]? = none := List.getElem?_eq_none (by simp [colZ]; omega)
    simp only [List.getD, e, Option.getD_none]; omega
theorem hasB_castP (l : List Nat) (j : Nat) : hasB (castP l) (j : Int) = l.contains j := by
  unfold hasB castP
  rw [Bool.eq_iff_iff]
  simp only [List.contains_iff_mem, List.mem_map]
  constructor
  · rintro ⟨a, h, e⟩
    obtain rfl : a = j := by omega
    exact h
  · exact fun h => ⟨j, h, rfl⟩
theorem colZ_ofInts (ms : List (Int × List Nat)) (i k : Nat) : colZ ms i k = ofInts (castP (colP ms i k)) k := by
  unfold colZ ofInts
  apply List.map_congr_left
  intro j hj
  have hj' : j < k := by simpa using hj
  rw [hasB_castP]
  have e : (colP ms i k).contains j = (mbit ms j i == 1) := by
    rw [Bool.eq_iff_iff]
    simp [colP, hj']
  rw [e]
  rcases mbit_le ms j i with h | h <;> simp [h]
theorem from_col (ms : List (Int × List Nat)) (i k : Nat) : fromL (bitsOf (colZ ms i k)) (nw k) = ofBits k (castP (colP ms i k)) := by
  rw [colZ_ofInts, from_of k _ (colP_there ms i k)]
end
section
/- Contracts of layer 3: alone, One. -/
set_option linter.unusedVariables false
set_option linter.unusedSimpArgs false
open Go.RowKit
/-- What a function of one matrix and an error hands back. -/
def MatRes (N : Int) (ms : List (Int × List Nat)) (err : Int) (w : World) (e : Ending) (w' : World) : Prop :=
  ∃ A c, e = .returned (.tuple #[.agg #[.int .i64 N, .slice A ms.length c], .int .i64 err]) ∧ MatAt w' w.heap.size A ms.length ms ∧ Below w.heap.size w w'
/-- What a function of one matrix hands back. -/
def MatOne (N : Int) (ms : List (Int × List Nat)) (w : World) (e : Ending) (w' : World) : Prop :=
  ∃ A c, e = .returned (.agg #[.int .i64 N, .slice A ms.length c]) ∧ MatAt w' w.heap.size A ms.length ms ∧ Below w.heap.size w w'
def oneL (n : Nat) : List (Int × List Nat) := (List.range n).map fun (i : Nat) => ((n : Int), ofBits n [(i : Int)])
theorem oneL_len (n : Nat) : (oneL n).length = n := by simp [oneL]
def oneN (n : Int) : Int := if smb n then n else 0
def oneM (n : Int) : List (Int × List Nat) := if smb n then oneL n.toNat else []
def oneE (n : Int) : Int := if smb n then 0 else 2
end
section
/- Contracts of layer 3: column, Turn. -/
set_option linter.unusedVariables false
set_option linter.unusedSimpArgs false
open Go.RowKit
theorem int_infoM : (Try.prog.info? 3).map (fun i => (i.zero, i.size, i.bytes)) = some (some (.int .i64 0), 1, 8) := by kernel_rfl
theorem turnM_len (n : Nat) (ms : List (Int × List Nat)) : (turnM n ms).length = n := by simp [turnM]
theorem colW_lt (ms : List (Int × List Nat)) (i j : Nat) : (colW ms i).getD j 0 < 18446744073709551616 := ofBits_lt _ _ j
def turnN (N : Int) (ms : List (Int × List Nat)) : Int := if rightM N ms then ms.length else 0
def turnL (N : Int) (ms : List (Int × List Nat)) : List (Int × List Nat) := if rightM N ms then turnM N.toNat ms else []
def turnE (N : Int) (ms : List (Int × List Nat)) : Int := if rightM N ms then 0 else 1
end
section
/- Contract of law 03's few: a matrix of at most 66 rows, of three words each. -/
set_option linter.unusedVariables false
set_option linter.unusedSimpArgs false
open Go.RowKit
def cutR (r : Int × List Nat) : Int × List Nat := (r.1, r.2.take 3)
def fewM (ms : List (Int × List Nat)) : List (Int × List Nat) := (ms.take 66).map cutR
theorem fewM_len (ms : List (Int × List Nat)) : (fewM ms).length = min ms.length 66 := by simp [fewM]; omega
theorem fewM_at (ms : List (Int × List Nat)) (j : Nat) (h : j < ms.length) (h2 : j < 66) : (fewM ms).getD j (0, []) = cutR (ms.getD j (0, [])) := by
  simp [fewM, List.getD, h, h2]
theorem fewM_short (ms : List (Int × List Nat)) (j : Nat) : ((fewM ms).getD j (0, [])).2.length ≤ 3 := by
  by_cases h : j < (fewM ms).length
  · have h1 : j < ms.length := by have := fewM_len ms; omega
    have h2 : j < 66 := by have := fewM_len ms; omega
    rw [fewM_at ms j h1 h2]; simp [cutR]; omega
  · have : (fewM ms)[j]? = none := List.getElem?_eq_none (by omega)
    simp [List.getD, this]
theorem add_zeroM (g j : Nat) : (⟨g, 0, none⟩ : Addr).add j = ⟨g, j, none⟩ := by unfold Addr.add; split <;> simp_all
/-- A row of rows of the call's own, read as a matrix. -/
theorem own_mat {w : World} {base n : Nat} {v : Value} {rs : List RowV} (h : w.ownsRow base 40 2 v n (rowCells rs)) (hn : rs.length = n) (ms : List (Int × List Nat)) (hl : ms.length = n)
    (hf : ∀ j, j < n → (rs.getD j (0, none, 0, 0)).1 = (ms.getD j (0, [])).1 ∧ SliceOk (rs.getD j (0, none, 0, 0)).2.1 (rs.getD j (0, none, 0, 0)).2.2.1 (rs.getD j (0, none, 0, 0)).2.2.2 ∧ Words w (rs.getD j (0, none, 0, 0)).2.1 (rs.getD j (0, none, 0, 0)).2.2.1 (ms.getD j (0, [])).2) :
    ∃ A c, v = .slice A n c ∧ n ≤ c ∧ MatAt w base A n ms := by
  rcases h.2 with ⟨hv, h0⟩ | ⟨g, cap, cur, hv, hb, hh, hc, -⟩
  · subst h0
    obtain rfl : ms = [] := List.length_eq_zero_iff.1 hl
    exact ⟨none, 0, hv, Nat.le_refl _, MatAt.nil _ _ _⟩
  · refine ⟨some ⟨g, 0, none⟩, cap, hv, hc, hl, fun hp => ⟨g, 0, rfl, hb, (h.lt g (by rw [hv]; rfl)).2, fun j hj => ?_⟩⟩
    obtain ⟨f1, f2⟩ := rowCells_at rs j (by omega)
    obtain ⟨a1, a2, a3⟩ := hf j hj
    have hc := World.ownsRow.cells h (g := g) (by rw [hv]; rfl)
    have c1 := hc _ _ f1
    have c2 := hc _ _ f2
    rw [add_zeroM] at c1 c2
    refine ⟨_, _, _, ?_, ?_, a2, a3⟩
    · rw [Nat.zero_add, c1, a1]
    · rw [Nat.zero_add, c2]
/-- A matrix's rows keep off a store into a box of a matrix that is another block. -/
theorem MatAt.farB {w : World} {lo : Nat} {A : Option Addr} {len : Nat} {ms : List (Int × List Nat)} (h : MatAt w lo A len ms) {B : Nat} {t : TypeId} {x : Int} {S : Option Addr} {p q : Nat} (hne : ∀ b o, A = some ⟨b, o, none⟩ → 0 < len → b ≠ B) (hb : Box w B t #[.int .i64 x, .slice S p q]) (i : Nat) (u : Value) : MatAt (w.setCell ⟨B, i, none⟩ u) lo A len ms := by
  refine ⟨h.1, fun hp => ?_⟩
  obtain ⟨b, off, rfl, h1, h2, h3⟩ := h.2 hp
  have hnb := hne b off rfl hp
  refine ⟨b, off, rfl, h1, by simpa [World.setCell] using h2, fun j hj => ?_⟩
  obtain ⟨Bw, l, c, r0, r1, r2, r3⟩ := h3 j hj
  refine ⟨Bw, l, c, ?_, ?_, r2, ?_⟩
  · rw [World.cell?_setCell_other _ _ _ _ (by intro e; injection e; omega)]; exact r0
  · rw [World.cell?_setCell_other _ _ _ _ (by intro e; injection e; omega)]; exact r1
  · refine ⟨r3.1, r3.2.1, fun hp => ?_⟩
    obtain ⟨b', off', rfl, hlt, hc⟩ := r3.2.2 hp
    have hnw := r3.off hb b' off' rfl hp
    refine ⟨b', off', rfl, by simpa [World.setCell] using hlt, fun j hj => ?_⟩
    rw [World.cell?_setCell_other _ _ _ _ (by intro e; injection e; omega)]
    exact hc j hj
end
section
/- The reference's From and Of: rows of words of the call's own. -/
set_option linter.unusedVariables false
set_option linter.unusedSimpArgs false
open Go.RowKit
set_option maxHeartbeats 1000000 in
theorem from_own (A : Option Addr) (l c : Nat) (zs : List Int) (w : World) (hz : Ints w A l zs) (hl : l ≤ 10000) :
    Calls Try.prog 68 #[.slice A l c] w (OneOwn l (fromL (bitsOf zs) (nw l)) w) := by
  obtain ⟨i0, hi, hz0, hz1, hz2⟩ := info_parts u64_info
  have hnw : nw l ≤ 1000 := by unfold nw; omega
  have Q0 := Lib.hid ((Box.new w 40 #[.int .i64 0, .slice none 0 0]).alloc (.cells #[.int .i64 l, .slice none 0 0] 40))
  have q1 := Box.new (w.alloc (.cells #[.int .i64 0, .slice none 0 0] 40)) 40 #[.int .i64 l, .slice none 0 0]
  simp only [World.size_alloc] at q1
  have Q1 := Lib.hid q1
  have HW := Lib.hid (show Below w.heap.size w ((w.alloc (.cells #[.int .i64 0, .slice none 0 0] 40)).alloc (.cells #[.int .i64 l, .slice none 0 0] 40)) from ((Below.refl _ _).alloc (Nat.le_refl _) _).alloc (by simp) _)
  have HZ := Lib.hid hz
  clear hz q1
  have HI := Lib.hid hi
  have HZ0 := Lib.hid hz0
  have HZ1 := Lib.hid hz1
  have HZ2 := Lib.hid hz2
  clear hi hz0 hz1 hz2
  go_enter Try.func68, Try.ntmps68
  go_wp2
  go_loopw [4] (fun t wr => ∃ (i : Nat) (v : Value), i ≤ nw l ∧ t = .int .i64 i ∧ Box wr (w.heap.size + 1) 40 #[.int .i64 l, v] ∧ wr.ownsRow w.heap.size 68 1 v i ((fromL (bitsOf zs) i).map fun (x : Nat) => Value.int .u64 (x : Int)) ∧ Box wr w.heap.size 40 #[.int .i64 0, .slice none 0 0] ∧ Below w.heap.size w wr)
    (fun t _ => nw l - (intOf t).toNat)
  case atStart => exact ⟨0, _, by omega, rfl, Q1.out, World.ownsRow_nil _ _ _ _, Q0.out, HW.out⟩
  case round =>
    obtain ⟨i, v, hi, rfl, B1, hown, B0, hbel⟩ := hrel
    have R1 := Lib.hid B1
    have R0 := Lib.hid B0
    have HO := Lib.hid hown
    have HB := Lib.hid hbel
    clear B1 B0 hown hbel Q0 Q1 HW
    by_cases hlt : i < nw l
    · go_wp2_with fail
      refine (refWords_any l (by omega) _).mono ?_
      rintro e w' ⟨rfl, rfl⟩
      go_wp2
      go_loop [6, 5] (fun s x => ∃ k : Nat, k ≤ 64 ∧ s = .int .i64 ((k : Int) - 1) ∧ x = .int .u64 (accM (bitsOf zs) i (64 - k) : Nat)) (fun s _ => (intOf s + 1).toNat)
      case atStart => exact ⟨64, by omega, rfl, rfl⟩
      case round =>
        obtain ⟨k, hk, rfl, rfl⟩ := hrel
        cases k with
        | zero =>
          obtain ⟨A', c', rfl, hA'⟩ := own_form HO.out
          obtain ⟨a0, a1, f0, f1⟩ := R1.out.two
          have hz := R1.out.lt
          have hacc := accM_lt (bitsOf zs) i 64
          generalize hX : accM (bitsOf zs) i (64 - 0) = x at *
          have HX := Lib.hid hX
          clear hX
          have hi' := HI.out
          have hz0' := HZ0.out
          have hz1' := HZ1.out
          have hz2' := HZ2.out
          have hne : (68 : TypeId) ≠ 40 := by decide
          have X1 := Lib.hid (R1.out.alloc (.cells #[.int .u64 (x : Int)] 68))
          have X0 := Lib.hid (R0.out.alloc (.cells #[.int .u64 (x : Int)] 68))
          have XO := Lib.hid (HO.out.alloc (.cells #[.int .u64 (x : Int)] 68))
          have XB := Lib.hid (HB.out.alloc HB.out.size (.cells #[.int .u64 (x : Int)] 68))
          have N1 := Lib.hid (own_ne XO.out X1.out hne)
          have N0 := Lib.hid (own_ne XO.out X0.out hne)
          have hsz : w.heap.size ≤ (wr.alloc (.cells #[.int .u64 (x : Int)] 68)).heap.size := XB.out.size
          have HSZ := Lib.hid hsz
          have N2 := Lib.hid (fun k hk => (HO.out.lt k hk).1)
          clear hsz hne
          go_wp2_with (at_builtin; refine wpList_append_own _ rfl _ _ 38 rfl w.heap.size 68 i0 (.int .u64 0) 1 8 Try.underlying38 hi' hz0' hz1' hz2' rfl (by decide) _ _ _ rfl XO.out ⟨wr.heap.size, 0, none⟩ 1 1 [.int .u64 (x : Int)] rfl rfl (cell_one_new _ _ _) (by simp [Value.oneCell']) (by simp [maxLen]; omega) (by omega) HSZ.out ?_; intro v' w1 hown' hgrow _; obtain ⟨A2, c2, rfl, hA2⟩ := own_form hown'; have S1 := Lib.hid (X1.out.grown hgrow N1.out); have S0 := Lib.hid (X0.out.grown hgrow N0.out); have HC := Lib.hid (XB.out.grown hgrow HSZ.out N2.out); have HO2 := Lib.hid hown'; clear hown' hgrow hA2; obtain ⟨e0, e1, g0, g1⟩ := S1.out.two)
          go_roundw
          case rel =>
            refine ⟨i + 1, _, by omega, by go_num, S1.out.put 1 _, ?_, S0.out.far (p := ⟨w.heap.size + 1, 1, none⟩) (by simp) _, HC.out.setCell (p := ⟨w.heap.size + 1, 1, none⟩) (by simp) _⟩
            have h1 := HO2.out
            rw [fromL_succ, List.map_append]
            have h2 : (accM (bitsOf zs) i 64) = x := HX.out
            rw [List.map_cons, List.map_nil, h2]
            exact own_far h1 S1.out (by decide) 1 _
          case measure => simp [intOf] <;> omega
        | succ j =>
          rw [show (((j + 1 : Nat) : Int) - 1) = (j : Int) by omega]
          have hx := accM_lt (bitsOf zs) i (64 - (j + 1))
          have hp : 2 ^ (64 - (j + 1)) ≤ 2 ^ 63 := Nat.pow_le_pow_right (by omega) (by omega)
          have hx2 : accM (bitsOf zs) i (64 - (j + 1)) < 9223372036854775808 := by omega
          have HS : Hid (accM (bitsOf zs) i (64 - j) = 2 * accM (bitsOf zs) i (64 - (j + 1)) + if bitsOf zs (64 * i + j) then 1 else 0) := by
            show _ = _
            rw [show 64 - j = (64 - (j + 1)) + 1 by omega]
            simp only [accM]
            rw [show 63 - (64 - (j + 1)) = j by omega]
          clear hx hp
          generalize accM (bitsOf zs) i (64 - (j + 1)) = x at *
          by_cases hin : 64 * i + j < l
          · obtain ⟨b, o, rfl, hlb, hc⟩ := HZ.out.2.2 (by omega)
            have cz := (HB.out.cell (p := ⟨b, o + (64 * i + j), none⟩) hlb).trans (hc (64 * i + j) hin)
            have hin' : 64 * (i : Int) + j < l := by omega
            obtain ⟨y, ey⟩ : ∃ y, y = zs.getD (64 * i + j) 0 := ⟨_, rfl⟩
            rw [← ey] at cz
            have EY := Lib.hid ey
            clear ey hc
            by_cases hy : y = 1
            · have t1 : (y == 1) = true := by simpa using hy
              clear hy
              have HB1 : Hid (bitsOf zs (64 * i + j) = true) := by
                show bitsOf zs (64 * i + j) = true
                unfold bitsOf
                rw [← EY.out, t1, HZ.out.1]
                simpa using hin
              go_wp2
              go_round
              case rel => exact ⟨j, by omega, rfl, by rw [HS.out, HB1.out]; first | rfl | go_num⟩
              case measure => simp [intOf] <;> omega
            · have t1 : (y == 1) = false := by simpa using hy
              clear hy
              have HB1 : Hid (bitsOf zs (64 * i + j) = false) := by
                show bitsOf zs (64 * i + j) = false
                unfold bitsOf
                rw [← EY.out, t1]; simp
              go_wp2
              go_round
              case rel => exact ⟨j, by omega, rfl, by rw [HS.out, HB1.out]; first | rfl | go_num⟩
              case measure => simp [intOf] <;> omega
          · have hin' : ¬ 64 * (i : Int) + j < l := by omega
            have HB1 : Hid (bitsOf zs (64 * i + j) = false) := by
              show bitsOf zs (64 * i + j) = false
              unfold bitsOf
              rw [HZ.out.1]; simp; omega
            go_wp2
            go_round
            case rel => exact ⟨j, by omega, rfl, by rw [HS.out, HB1.out]; first | rfl | go_num⟩
            case measure => simp [intOf] <;> omega
    · obtain rfl : i = nw l := by omega
      obtain ⟨A', c', rfl, hA'⟩ := own_form HO.out
      obtain ⟨a0, a1, -, -⟩ := R1.out.two
      obtain ⟨b0, b1, f0, f1⟩ := R0.out.two
      go_wp2_with fail
      refine (refWords_any l (by omega) _).mono ?_
      rintro e w' ⟨rfl, rfl⟩
      go_wp2
      refine close_one Try.results68 rfl rfl R0.out.put2 Try.underlying40 rfl (by kernel_rfl) ⟨_, _, _, rfl, ?_, ?_⟩
      · exact OwnW.put2 (own_low HO.out (Nat.zero_le _)) R0.out _ _
      · exact (HB.out.setCell (p := ⟨w.heap.size, 0, none⟩) (Nat.le_refl _) _).setCell (p := ⟨w.heap.size, 1, none⟩) (Nat.le_refl _) _
set_option maxHeartbeats 1000000 in
theorem refOf_own (n : Nat) (A : Option Addr) (l c : Nat) (zs : List Int) (w : World) (hz : Ints w A l zs) (hl : l ≤ 1000000) (hn : n ≤ 512) (ht : there n zs = true) :
    Calls Try.prog 69 #[.int .i64 n, .slice A l c] w (OneOwn n (ofBits n zs) w) := by
  obtain ⟨i0, hi, hz0, hz1, hz2⟩ := info_parts int_info
  have q0 := Box.new w 40 #[.int .i64 0, .slice none 0 0]
  have hW : Below w.heap.size w (w.alloc (.cells #[.int .i64 0, .slice none 0 0] 40)) := (Below.refl _ _).alloc (Nat.le_refl _) _
  go_enter Try.func69, Try.ntmps69
  go_wp2
  have how := own_empty (w.alloc (.cells #[.int .i64 0, .slice none 0 0] 40)) w.heap.size 3 hW.size
  simp only [World.size_alloc] at how
  have HOw := Lib.hid how
  have Q0 := Lib.hid (q0.alloc (.cells #[] 3))
  have HW := Lib.hid (hW.alloc hW.size (.cells #[] 3))
  have HZ := Lib.hid hz
  have HT := Lib.hid ht
  clear how q0 hW hz ht
  have HI := Lib.hid hi
  have HZ0 := Lib.hid hz0
  have HZ1 := Lib.hid hz1
  have HZ2 := Lib.hid hz2
  clear hi hz0 hz1 hz2
  have hne := Lib.hid (show (3 : TypeId) ≠ 40 by decide)
  go_loopw [5, 6] (fun v t wr => ∃ i : Nat, i ≤ n ∧ t = .int .i64 i ∧ wr.ownsRow w.heap.size 3 1 v i ((ofInts zs i).map (Value.int .i64)) ∧ Box wr w.heap.size 40 #[.int .i64 0, .slice none 0 0] ∧ Below w.heap.size w wr)
    (fun _ t _ => n - (intOf t).toNat)
  case atStart => exact ⟨0, by omega, rfl, HOw.out, Q0.out, HW.out⟩
  case round =>
    obtain ⟨i, hi, rfl, hown, B0, hbel⟩ := hrel
    have R0 := Lib.hid B0
    have HO := Lib.hid hown
    have HB := Lib.hid hbel
    clear B0 hown hbel Q0 HW HOw
    by_cases hlt : i < n
    · have hlt' : (i : Int) < (n : Int) := by omega
      go_wp2_with fail
      refine (in_any A l c zs i _ (HZ.out.below HB.out) (by omega)).mono ?_
      rintro e w' ⟨rfl, rfl⟩
      have hi' := HI.out
      have hz0' := HZ0.out
      have hz1' := HZ1.out
      have hz2' := HZ2.out
      cases hc : hasB zs (i : Int) with
      | true =>
        have HS : Hid (ofInts zs (i + 1) = ofInts zs i ++ [1]) := by
          show _ = _
          rw [ofInts_succ, hc]; rfl
        clear hc
        have X0 := Lib.hid (R0.out.alloc (.cells #[.int .i64 1] 3))
        have XO := Lib.hid (HO.out.alloc (.cells #[.int .i64 1] 3))
        have XB := Lib.hid (HB.out.alloc HB.out.size (.cells #[.int .i64 1] 3))
        have N0 := Lib.hid (own_ne XO.out X0.out hne.out)
        have N2 := Lib.hid (fun k hk => (HO.out.lt k hk).1)
        go_wp2_with (at_builtin; refine wpList_append_own _ rfl _ _ 26 rfl w.heap.size 3 i0 (.int .i64 0) 1 8 Try.underlying26 hi' hz0' hz1' hz2' rfl (by decide) _ _ _ rfl XO.out ⟨wr.heap.size, 0, none⟩ 1 1 [.int .i64 1] rfl rfl (cell_one_new _ _ _) (by simp [Value.oneCell']) (by simp [maxLen]; omega) (by omega) XB.out.size ?_; intro v' w1 hown' hgrow _; have S0 := Lib.hid (X0.out.grown hgrow N0.out); have HC := Lib.hid (XB.out.grown hgrow XB.out.size N2.out); have HO2 := Lib.hid hown'; clear hown' hgrow)
        go_roundw
        case rel =>
          refine ⟨i + 1, by omega, by go_num, ?_, S0.out, HC.out⟩
          rw [HS.out, List.map_append]
          exact HO2.out
        case measure => simp [intOf] <;> omega
      | false =>
        have HS : Hid (ofInts zs (i + 1) = ofInts zs i ++ [0]) := by
          show _ = _
          rw [ofInts_succ, hc]; rfl
        clear hc
        have X0 := Lib.hid (R0.out.alloc (.cells #[.int .i64 0] 3))
        have XO := Lib.hid (HO.out.alloc (.cells #[.int .i64 0] 3))
        have XB := Lib.hid (HB.out.alloc HB.out.size (.cells #[.int .i64 0] 3))
        have N0 := Lib.hid (own_ne XO.out X0.out hne.out)
        have N2 := Lib.hid (fun k hk => (HO.out.lt k hk).1)
        go_wp2_with (at_builtin; refine wpList_append_own _ rfl _ _ 26 rfl w.heap.size 3 i0 (.int .i64 0) 1 8 Try.underlying26 hi' hz0' hz1' hz2' rfl (by decide) _ _ _ rfl XO.out ⟨wr.heap.size, 0, none⟩ 1 1 [.int .i64 0] rfl rfl (cell_one_new _ _ _) (by simp [Value.oneCell']) (by simp [maxLen]; omega) (by omega) XB.out.size ?_; intro v' w1 hown' hgrow _; have S0 := Lib.hid (X0.out.grown hgrow N0.out); have HC := Lib.hid (XB.out.grown hgrow XB.out.size N2.out); have HO2 := Lib.hid hown'; clear hown' hgrow)
        go_roundw
        case rel =>
          refine ⟨i + 1, by omega, by go_num, ?_, S0.out, HC.out⟩
          rw [HS.out, List.map_append]
          exact HO2.out
        case measure => simp [intOf] <;> omega
    · obtain rfl : i = n := by omega
      have hlt' : ¬ (i : Int) < (i : Int) := by omega
      obtain ⟨A', c', rfl, hA'⟩ := own_form HO.out
      go_wp2_with fail
      refine (from_own A' i c' _ _ (own_ints HO.out (ofInts_lt zs i)) (by omega)).mono ?_
      rintro e x1 ⟨A1, l1, c1, rfl, hw, hb⟩
      have P0 := Lib.hid (R0.out.keep hb)
      have T1 := Lib.hid (chain HB.out hb)
      have HWo := Lib.hid hw
      clear hw hb
      obtain ⟨r0, r1, r2, r3⟩ := P0.out.two
      go_wp2
      refine close_one Try.results69 rfl rfl P0.out.put2 Try.underlying40 rfl (by kernel_rfl) ⟨_, _, _, rfl, ?_, ?_⟩
      · have h := HWo.out
        rw [from_of i zs HT.out] at h
        exact h.put2 P0.out _ _
      · exact (T1.out.setCell (p := ⟨w.heap.size, 0, none⟩) (Nat.le_refl _) _).setCell (p := ⟨w.heap.size, 1, none⟩) (Nat.le_refl _) _
end
end Go.Proofs.Ytdfmogcgangdnaa
