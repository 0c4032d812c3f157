/- Parts: MatM, Mat5, Mat6, Mat7, OwnF, Mat8, Rd1, Rd2, RngS, QTail, QTailS. -/
import Derived.Test.YtdfmogcgangdnaaDoorZc
import Derived.Deep.AppendLies
import Derived.Deep.RegionHeld3
import Derived.Deep.RegionLaw
import Derived.OpenShut
import Derived.OrdersIn
import Derived.RangeFuncBound
import Derived.RangeFuncBox
import Derived.RangeFuncCalls
import Derived.RangeFuncLeaves
import Derived.RangeFuncNested
import Derived.Sort.QuietIn
import Derived.Sort.QuietTacIn
import Derived.Sort.QuietThIn
import Derived.StillTail
import Derived.TacticsIn
namespace Go.Proofs.YtdfmogcgangdnaaDoor
section
/- Mathematics of matrices: columns. -/
set_option linter.unusedVariables false
set_option linter.unusedSimpArgs false
open Go.RowKit
/-- The bit of row j at i. -/
def mbit (ms : List (Int × List Nat)) (j i : Nat) : Nat := bitAt (ms.getD j (0, [])).2 i
theorem mbit_le (ms : List (Int × List Nat)) (j i : Nat) : mbit ms j i = 0 ∨ mbit ms j i = 1 := bitAt_le _ _
/-- Where a column's bits are 1, among the first k rows. -/
def colP (ms : List (Int × List Nat)) (i k : Nat) : List Nat := (List.range k).filter fun j => mbit ms j i == 1
def castP (l : List Nat) : List Int := l.map fun (x : Nat) => (x : Int)
theorem colP_succ (ms : List (Int × List Nat)) (i k : Nat) : colP ms i (k + 1) = colP ms i k ++ if mbit ms k i = 1 then [k] else [] := by
  unfold colP
  rw [List.range_succ, List.filter_append]
  congr 1
  by_cases h : mbit ms k i = 1
  · have t : (mbit ms k i == 1) = true := by simpa using h
    simp [t, h]
  · have t : (mbit ms k i == 1) = false := by simpa using h
    simp [t, h]
theorem colP_len (ms : List (Int × List Nat)) (i k : Nat) : (colP ms i k).length ≤ k := by
  unfold colP
  have := List.length_filter_le (fun j => mbit ms j i == 1) (List.range k)
  simpa using this
theorem colP_lt {ms : List (Int × List Nat)} {i k p : Nat} (h : p ∈ colP ms i k) : p < k := by
  have := (List.mem_filter.1 h).1
  simpa using this
theorem colP_there (ms : List (Int × List Nat)) (i k : Nat) : there (k : Int) (castP (colP ms i k)) = true := by
  simp only [there, castP, List.all_eq_true, List.mem_map]
  rintro x ⟨y, hy, rfl⟩
  have := colP_lt hy
  simp; omega
theorem castP_bound {l : List Nat} {k : Nat} (h : ∀ p ∈ l, p < k) (hk : k ≤ 1000000) (j : Nat) : -9223372036854775808 ≤ (castP l).getD j 0 ∧ (castP l).getD j 0 ≤ 9223372036854775807 := by
  by_cases hj : j < l.length
  · have e : (castP l).getD j 0 = ((l[j] : Nat) : Int) := by simp [castP, List.getD, hj]
    have := h l[j] (List.getElem_mem _)
    rw [e]; omega
  · have e : (castP l)[j]? = none := List.getElem?_eq_none (by simp [castP]; omega)
    simp only [List.getD, e, Option.getD_none]; omega
/-- The column as a row. -/
def colW (ms : List (Int × List Nat)) (i : Nat) : List Nat := ofBits ms.length (castP (colP ms i ms.length))
/-- A matrix turned, of n columns. -/
def turnM (n : Nat) (ms : List (Int × List Nat)) : List (Int × List Nat) := (List.range n).map fun i => ((ms.length : Int), colW ms i)
/-- The column as numbers. -/
def colZ (ms : List (Int × List Nat)) (i k : Nat) : List Int := (List.range k).map fun j => ((mbit ms j i : Nat) : Int)
theorem colZ_succ (ms : List (Int × List Nat)) (i k : Nat) : colZ ms i (k + 1) = colZ ms i k ++ [((mbit ms k i : Nat) : Int)] := by simp [colZ, List.range_succ]
theorem colZ_len (ms : List (Int × List Nat)) (i k : Nat) : (colZ ms i k).length = k := by simp [colZ]
theorem colZ_bound (ms : List (Int × List Nat)) (i k j : Nat) : -9223372036854775808 ≤ (colZ ms i k).getD j 0 ∧ (colZ ms i k).getD j 0 ≤ 9223372036854775807 := by
  by_cases hj : j < k
  · have e : (colZ ms i k).getD j 0 = ((mbit ms j i : Nat) : Int) := by simp [colZ, List.getD, hj]
    have := mbit_le ms j i
    rw [e]; omega
  · have e : (colZ ms i k)[j]? = none := List.getElem?_eq_none (by simp [colZ]; omega)
    simp only [List.getD, e, Option.getD_none]; omega
theorem hasB_castP (l : List Nat) (j : Nat) : hasB (castP l) (j : Int) = l.contains j := by
  unfold hasB castP
  rw [Bool.eq_iff_iff]
  simp only [List.contains_iff_mem, List.mem_map]
  constructor
  · rintro ⟨a, h, e⟩
    obtain rfl : a = j := by omega
    exact h
  · exact fun h => ⟨j, h, rfl⟩
theorem colZ_ofInts (ms : List (Int × List Nat)) (i k : Nat) : colZ ms i k = ofInts (castP (colP ms i k)) k := by
  unfold colZ ofInts
  apply List.map_congr_left
  intro j hj
  have hj' : j < k := by simpa using hj
  rw [hasB_castP]
  have e : (colP ms i k).contains j = (mbit ms j i == 1) := by
    rw [Bool.eq_iff_iff]
    simp [colP, hj']
  rw [e]
  rcases mbit_le ms j i with h | h <;> simp [h]
theorem from_col (ms : List (Int × List Nat)) (i k : Nat) : fromL (bitsOf (colZ ms i k)) (nw k) = ofBits k (castP (colP ms i k)) := by
  rw [colZ_ofInts, from_of k _ (colP_there ms i k)]
end
section
/- Contracts of layer 3: alone, One. -/
set_option linter.unusedVariables false
set_option linter.unusedSimpArgs false
open Go.RowKit
/-- What a function of one matrix and an error hands back. -/
def MatRes (N : Int) (ms : List (Int × List Nat)) (err : Int) (w : World) (e : Ending) (w' : World) : Prop :=
  ∃ A c, e = .returned (.tuple #[.agg #[.int .i64 N, .slice A ms.length c], .int .i64 err]) ∧ MatAt w' w.heap.size A ms.length ms ∧ Below w.heap.size w w'
/-- What a function of one matrix hands back. -/
def MatOne (N : Int) (ms : List (Int × List Nat)) (w : World) (e : Ending) (w' : World) : Prop :=
  ∃ A c, e = .returned (.agg #[.int .i64 N, .slice A ms.length c]) ∧ MatAt w' w.heap.size A ms.length ms ∧ Below w.heap.size w w'
def oneL (n : Nat) : List (Int × List Nat) := (List.range n).map fun (i : Nat) => ((n : Int), ofBits n [(i : Int)])
theorem oneL_len (n : Nat) : (oneL n).length = n := by simp [oneL]
def oneN (n : Int) : Int := if smb n then n else 0
def oneM (n : Int) : List (Int × List Nat) := if smb n then oneL n.toNat else []
def oneE (n : Int) : Int := if smb n then 0 else 2
end
section
/- Contracts of layer 3: column, Turn. -/
set_option linter.unusedVariables false
set_option linter.unusedSimpArgs false
open Go.RowKit
theorem int_infoM : (Tryd.prog.info? 3).map (fun i => (i.zero, i.size, i.bytes)) = some (some (.int .i64 0), 1, 8) := by kernel_rfl
set_option maxHeartbeats 2000000 in
theorem column_any (N : Nat) (A : Option Addr) (l c lo : Nat) (ms : List (Int × List Nat)) (q : Nat) (w : World) (hm : MatAt w lo A l ms) (hr : rightM N ms = true) (hq : q < N) :
    Calls Tryd.prog 27 #[.agg #[.int .i64 N, .slice A l c], .int .i64 q] w (OneOwn l (ofBits l (castP (colP ms q l))) w) := by
  obtain ⟨i0, hi, hz0, hz1, hz2⟩ := info_parts int_infoM
  have HI := Lib.hid hi
  have HZ0 := Lib.hid hz0
  have HZ1 := Lib.hid hz1
  have HZ2 := Lib.hid hz2
  clear hi hz0 hz1 hz2
  have hl := (rightM_bd hr).2.2
  rw [hm.1] at hl
  have HR := Lib.hid hr
  have HM := Lib.hid hm
  have HL := Lib.hid hm.1
  have Q0 := Lib.hid ((Box.new w 66 #[.int .i64 N, .slice A l c]).alloc (.cells #[.int .i64 0, .slice none 0 0] 27))
  have q1 := Box.new (w.alloc (.cells #[.int .i64 N, .slice A l c] 66)) 27 #[.int .i64 0, .slice none 0 0]
  have HW := Lib.hid (show Below w.heap.size w ((w.alloc (.cells #[.int .i64 N, .slice A l c] 66)).alloc (.cells #[.int .i64 0, .slice none 0 0] 27)) from ((Below.refl _ _).alloc (Nat.le_refl _) _).alloc (by simp) _)
  simp only [World.size_alloc] at q1
  have Q1 := Lib.hid q1
  have n1 := Lib.hid (show (3 : TypeId) ≠ 66 by decide)
  have n2 := Lib.hid (show (3 : TypeId) ≠ 27 by decide)
  clear hm hr q1
  obtain ⟨r0, r1, -, -⟩ := Q0.out.two
  go_enter Tryd.func27, Tryd.ntmps27
  go_wp2_with fail
  clear r0 r1
  go_loopw [5, 15] (fun v t wr => ∃ k : Nat, k ≤ l ∧ t = .int .i64 k ∧ wr.ownsRow w.heap.size 3 1 v (colP ms q k).length ((castP (colP ms q k)).map (Value.int .i64)) ∧ Box wr w.heap.size 66 #[.int .i64 N, .slice A l c] ∧ Box wr (w.heap.size + 1) 27 #[.int .i64 0, .slice none 0 0] ∧ Below w.heap.size w wr) (fun _ t _ => l - (intOf t).toNat)
  case atStart => exact ⟨0, by omega, rfl, World.ownsRow_nil _ _ _ _, Q0.out, Q1.out, HW.out⟩
  case round =>
    obtain ⟨k, hk, rfl, hown, hb0, hb1, hbel⟩ := hrel
    have HO := Lib.hid hown
    have R0 := Lib.hid hb0
    have R1 := Lib.hid hb1
    have HB := Lib.hid hbel
    have hpl := colP_len ms q k
    clear hown hb0 hb1 hbel Q0 Q1 HW
    by_cases hlt : k < l
    · have hlt' : (k : Int) < (l : Int) := by omega
      have h1 := (HM.out.mono (Nat.le_refl _) HB.out)
      obtain ⟨g1, o1, B1, k1, e1, rfl, hg1, x1, y1, s1, u1⟩ := h1.at k hlt
      obtain ⟨hn, hrr⟩ := rightM_at HR.out k (by rw [HL.out]; exact hlt)
      have HS := Lib.hid (colP_succ ms q k)
      have HMB := Lib.hid (show mbit ms k q = bitAt (ms.getD k (0, [])).2 q from rfl)
      rw [hn] at x1
      clear hn h1 s1
      generalize (ms.getD k (0, [])).2 = us at *
      have X0 := Lib.hid (R0.out.alloc (.cells #[.int .i64 N, .slice B1 k1 e1] 27))
      have X1 := Lib.hid (R1.out.alloc (.cells #[.int .i64 N, .slice B1 k1 e1] 27))
      have XO := Lib.hid (HO.out.alloc (.cells #[.int .i64 N, .slice B1 k1 e1] 27))
      have XB := Lib.hid (HB.out.alloc HB.out.size (.cells #[.int .i64 N, .slice B1 k1 e1] 27))
      have HG := Lib.hid (get_yes N q B1 k1 e1 us _ hrr hq (u1.alloc (.cells #[.int .i64 N, .slice B1 k1 e1] 27)))
      have P := Box.new wr 27 #[.int .i64 N, .slice B1 k1 e1]
      obtain ⟨p0, p1, -, -⟩ := P.two
      clear P u1 hrr
      go_wp2_with fail
      refine HG.out.mono ?_
      rintro e x1 ⟨rfl, hb⟩
      have X0 := Lib.hid (X0.out.keep hb)
      have X1 := Lib.hid (X1.out.keep hb)
      have XO := Lib.hid (own_keep XO.out hb)
      have XB := Lib.hid (chainN XB.out XB.out.size hb)
      clear hb p0 p1 HG
      have hi' := HI.out
      have hz0' := HZ0.out
      have hz1' := HZ1.out
      have hz2' := HZ2.out
      rcases bitAt_le us q with hbit | hbit
      · have HS := Lib.hid (show colP ms q (k + 1) = colP ms q k by rw [HS.out, HMB.out, hbit]; simp)
        rw [hbit]
        clear hbit
        go_wp2_with fail
        go_roundw
        case rel => exact ⟨k + 1, by omega, by go_num, by rw [HS.out]; exact XO.out, X0.out, X1.out, XB.out⟩
        case measure => simp [intOf] <;> omega
      · have HS := Lib.hid (show colP ms q (k + 1) = colP ms q k ++ [k] by rw [HS.out, HMB.out, hbit]; simp)
        rw [hbit]
        clear hbit
        have Y0 := Lib.hid (X0.out.alloc (.cells #[.int .i64 k] 3))
        have Y1 := Lib.hid (X1.out.alloc (.cells #[.int .i64 k] 3))
        have YO := Lib.hid (XO.out.alloc (.cells #[.int .i64 k] 3))
        have YB := Lib.hid (XB.out.alloc XB.out.size (.cells #[.int .i64 k] 3))
        have N0 := Lib.hid (own_ne YO.out Y0.out n1.out)
        have N1 := Lib.hid (own_ne YO.out Y1.out n2.out)
        have N2 := Lib.hid (fun k hk => (XO.out.lt k hk).1)
        go_wp2_with (at_builtin; refine wpList_append_own _ rfl _ _ 29 rfl w.heap.size 3 i0 (.int .i64 0) 1 8 Tryd.underlying29 hi' hz0' hz1' hz2' rfl (by decide) _ _ _ rfl YO.out ⟨x1.heap.size, 0, none⟩ 1 1 [.int .i64 k] rfl rfl (cell_one_new _ _ _) (by simp [Value.oneCell']) (by simp [maxLen]; omega) (by omega) YB.out.size ?_; intro v' w1 hown' hgrow _; have Z0 := Lib.hid (Y0.out.grown hgrow N0.out); have Z1 := Lib.hid (Y1.out.grown hgrow N1.out); have ZB := Lib.hid (YB.out.grown hgrow YB.out.size N2.out); have HO2 := Lib.hid hown'; clear hown' hgrow)
        go_roundw
        case rel =>
          refine ⟨k + 1, by omega, by go_num, ?_, Z0.out, Z1.out, ZB.out⟩
          rw [HS.out, List.length_append, show castP (colP ms q k ++ [k]) = castP (colP ms q k) ++ [(k : Int)] by simp [castP], List.map_append]
          exact HO2.out
        case measure => simp [intOf] <;> omega
    · obtain rfl : k = l := by omega
      have hlt' : ¬ (k : Int) < (k : Int) := by omega
      obtain ⟨A', c', rfl, hA'⟩ := own_form HO.out
      obtain ⟨r0, r1, -, -⟩ := R0.out.two
      have HL2 := Lib.hid ((lmb_iff k).2 ⟨by omega, by omega⟩)
      have HP := Lib.hid (own_ints HO.out (castP_bound (k := k) (fun p hp => colP_lt hp) (by omega)))
      go_wp2_with fail
      refine (of_own k A' _ c' (castP (colP ms q k)) HL2.out _ HP.out (by omega) (colP_there ms q k)).mono ?_
      rintro e w2 ⟨A2, l2, c2, rfl, hw, hb⟩
      have P0 := Lib.hid ((R1.out.keep hb).alloc (.cells #[.int .i64 k, .slice A2 l2 c2] 27))
      have P1 := Lib.hid (Box.new w2 27 #[.int .i64 k, .slice A2 l2 c2])
      have T1 := Lib.hid ((chainN HB.out HB.out.size hb).alloc (chainN HB.out HB.out.size hb).size (.cells #[.int .i64 k, .slice A2 l2 c2] 27))
      have HWo := Lib.hid (hw.alloc (.cells #[.int .i64 k, .slice A2 l2 c2] 27))
      clear hw hb r0 r1
      obtain ⟨r0, r1, r2, r3⟩ := P0.out.two
      obtain ⟨s0, s1, -, -⟩ := P1.out.two
      go_wp2
      refine close_one Tryd.results27 rfl rfl P0.out.put2 Tryd.underlying27 rfl (by kernel_rfl) ⟨_, _, _, rfl, HWo.out.put2 P0.out _ _, ?_⟩
      exact (T1.out.setCell (p := ⟨w.heap.size + 1, 0, none⟩) (by simp) _).setCell (p := ⟨w.heap.size + 1, 1, none⟩) (by simp) _
theorem turnM_len (n : Nat) (ms : List (Int × List Nat)) : (turnM n ms).length = n := by simp [turnM]
theorem colW_lt (ms : List (Int × List Nat)) (i j : Nat) : (colW ms i).getD j 0 < 18446744073709551616 := ofBits_lt _ _ j
def turnN (N : Int) (ms : List (Int × List Nat)) : Int := if rightM N ms then ms.length else 0
def turnL (N : Int) (ms : List (Int × List Nat)) : List (Int × List Nat) := if rightM N ms then turnM N.toNat ms else []
def turnE (N : Int) (ms : List (Int × List Nat)) : Int := if rightM N ms then 0 else 1
set_option maxHeartbeats 2000000 in
theorem turn_any (N : Int) (A : Option Addr) (l c lo : Nat) (ms : List (Int × List Nat)) (w : World) (hm : MatAt w lo A l ms) (hl : l ≤ maxLen) :
    Calls Tryd.prog 9 #[.agg #[.int .i64 N, .slice A l c]] w (MatRes (turnN N ms) (turnL N ms) (turnE N ms) w) := by
  have Q0 := Lib.hid ((Box.new w 24 #[.int .i64 N, .slice A l c]).alloc (.cells #[.int .i64 0, .slice none 0 0] 24))
  have q1 := Box.new (w.alloc (.cells #[.int .i64 N, .slice A l c] 24)) 24 #[.int .i64 0, .slice none 0 0]
  have HW := Lib.hid (show Below w.heap.size w ((w.alloc (.cells #[.int .i64 N, .slice A l c] 24)).alloc (.cells #[.int .i64 0, .slice none 0 0] 24)) from ((Below.refl _ _).alloc (Nat.le_refl _) _).alloc (by simp) _)
  simp only [World.size_alloc] at q1
  have Q1 := Lib.hid q1
  have HM := Lib.hid (hm.below HW.out)
  have HL := Lib.hid hm.1
  have HR := Lib.hid (mright_any N A l c lo ms _ HM.out hl)
  clear q1 hm
  obtain ⟨r0, r1, -, -⟩ := Q0.out.two
  obtain ⟨s0, s1, s2, s3⟩ := Q1.out.two
  cases h : rightM N ms with
  | false =>
    have e1 : turnN N ms = 0 := by simp [turnN, h]
    have e2 : turnL N ms = [] := by simp [turnL, h]
    have e3 : turnE N ms = 1 := by simp [turnE, h]
    rw [e1, e2, e3]
    rw [h] at HR
    clear e1 e2 e3 h
    go_enter Tryd.func9, Tryd.ntmps9
    go_wp2_with fail
    refine HR.out.mono ?_
    rintro e w1 ⟨rfl, hb⟩
    have P := Lib.hid (Q1.out.keep hb)
    have B := Lib.hid (chain HW.out hb)
    clear hb s0 s1 s2 s3 r0 r1
    obtain ⟨s0, s1, s2, s3⟩ := P.out.two
    go_wp2
    refine close_cell Tryd.results9 rfl rfl rfl P.out.put2 Tryd.underlying24 rfl (by kernel_rfl) ⟨_, _, rfl, MatAt.nil _ _ _, ?_⟩
    exact (B.out.setCell (p := ⟨w.heap.size + 1, 0, none⟩) (by simp) _).setCell (p := ⟨w.heap.size + 1, 1, none⟩) (by simp) _
  | true =>
    obtain ⟨n, rfl⟩ := Int.eq_ofNat_of_zero_le (rightM_bd h).1
    have hbd := rightM_bd h
    have hl64 : l ≤ 64 := by have := HL.out; omega
    have e1 : turnN n ms = l := by simp [turnN, h, HL.out]
    have e2 : turnL n ms = turnM n ms := by simp [turnL, h]
    have e3 : turnE n ms = 0 := by simp [turnE, h]
    rw [e1, e2, e3]
    have HRT := Lib.hid h
    have HTL := Lib.hid (turnM_len n ms)
    rw [h] at HR
    clear e1 e2 e3 h
    go_enter Tryd.func9, Tryd.ntmps9
    go_wp2_with fail
    refine HR.out.mono ?_
    rintro e w1 ⟨rfl, hb⟩
    have P := Lib.hid (Q1.out.keep hb)
    have P0 := Lib.hid (Q0.out.keep hb)
    have B := Lib.hid (chain HW.out hb)
    have HM1 := Lib.hid (HM.out.below hb)
    have HBY := Lib.hid (rowsBy_any 27 #[.agg #[.int .i64 n, .slice A l c]] #[] n l (colW ms) w1.drew (enters_of Tryd.func27 (by kernel_rfl) rfl) (by omega)
      (fun W i hi hb => by
        have := column_any n A l c lo ms i W (HM1.out.drew.below hb) HRT.out hi
        unfold colW; rw [HL.out]; exact this) (colW_lt ms))
    clear hb s0 s1 s2 s3 r0 r1 HR HM
    obtain ⟨s0, s1, s2, s3⟩ := P.out.two
    obtain ⟨r0, r1, -, -⟩ := P0.out.two
    go_wp2_with fail
    go_region_held3 (fun w' => w'.cell? ⟨w.heap.size, 0, none⟩ = some (.int .i64 n) ∧ w'.cell? ⟨w.heap.size, 1, none⟩ = some (.slice A l c)) (go_keep)
      (first
        | (go_at_call 26; refine HBY.out.mono ?_; rintro e2 x1 ⟨g, rfl, hg, hma, hb⟩; have P2 := Lib.hid (P.out.drew.keep hb); have B2 := Lib.hid (chain B.out.drew hb); have HM2 := Lib.hid hma; obtain ⟨t0, t1, -, -⟩ := (P0.out.drew.keep hb).two; clear hb hma; obtain ⟨u0, u1, u2, u3⟩ := P2.out.two))
    have hz : w.heap.size + 1 < w1.heap.size := by have := P.out.lt; omega
    go_wp2_with fail
    refine close_cell Tryd.results9 rfl rfl rfl P2.out.put2 Tryd.underlying24 rfl (by kernel_rfl) ⟨some ⟨g, 0, none⟩, n, by rw [HTL.out]; rfl, ?_, (B2.out.setCell (p := ⟨w.heap.size + 1, 0, none⟩) (by simp) _).setCell (p := ⟨w.heap.size + 1, 1, none⟩) (by simp) _⟩
    rw [HTL.out]
    have h := (HM2.out.put2 (y := (l : Int)) P2.out hz (.slice (some ⟨g, 0, none⟩) n n)).low (l2 := w.heap.size) (by have := HW.out.size; have : w1.drew.heap.size = w1.heap.size := rfl; omega)
    unfold turnM; rw [HL.out]
    exact h
end
section
/- Contract of law 03's few: a matrix of at most 66 rows, of three words each. -/
set_option linter.unusedVariables false
set_option linter.unusedSimpArgs false
open Go.RowKit
def cutR (r : Int × List Nat) : Int × List Nat := (r.1, r.2.take 3)
def fewM (ms : List (Int × List Nat)) : List (Int × List Nat) := (ms.take 66).map cutR
theorem fewM_len (ms : List (Int × List Nat)) : (fewM ms).length = min ms.length 66 := by simp [fewM]; omega
theorem fewM_at (ms : List (Int × List Nat)) (j : Nat) (h : j < ms.length) (h2 : j < 66) : (fewM ms).getD j (0, []) = cutR (ms.getD j (0, [])) := by
  simp [fewM, List.getD, h, h2]
theorem fewM_short (ms : List (Int × List Nat)) (j : Nat) : ((fewM ms).getD j (0, [])).2.length ≤ 3 := by
  by_cases h : j < (fewM ms).length
  · have h1 : j < ms.length := by have := fewM_len ms; omega
    have h2 : j < 66 := by have := fewM_len ms; omega
    rw [fewM_at ms j h1 h2]; simp [cutR]; omega
  · have : (fewM ms)[j]? = none := List.getElem?_eq_none (by omega)
    simp [List.getD, this]
theorem add_zeroM (g j : Nat) : (⟨g, 0, none⟩ : Addr).add j = ⟨g, j, none⟩ := by unfold Addr.add; split <;> simp_all
/-- A row of rows of the call's own, read as a matrix. -/
theorem own_mat {w : World} {base n : Nat} {v : Value} {rs : List RowV} (h : w.ownsRow base 27 2 v n (rowCells rs)) (hn : rs.length = n) (ms : List (Int × List Nat)) (hl : ms.length = n)
    (hf : ∀ j, j < n → (rs.getD j (0, none, 0, 0)).1 = (ms.getD j (0, [])).1 ∧ SliceOk (rs.getD j (0, none, 0, 0)).2.1 (rs.getD j (0, none, 0, 0)).2.2.1 (rs.getD j (0, none, 0, 0)).2.2.2 ∧ Words w (rs.getD j (0, none, 0, 0)).2.1 (rs.getD j (0, none, 0, 0)).2.2.1 (ms.getD j (0, [])).2) :
    ∃ A c, v = .slice A n c ∧ n ≤ c ∧ MatAt w base A n ms := by
  rcases h.2 with ⟨hv, h0⟩ | ⟨g, cap, cur, hv, hb, hh, hc, -⟩
  · subst h0
    obtain rfl : ms = [] := List.length_eq_zero_iff.1 hl
    exact ⟨none, 0, hv, Nat.le_refl _, MatAt.nil _ _ _⟩
  · refine ⟨some ⟨g, 0, none⟩, cap, hv, hc, hl, fun hp => ⟨g, 0, rfl, hb, (h.lt g (by rw [hv]; rfl)).2, fun j hj => ?_⟩⟩
    obtain ⟨f1, f2⟩ := rowCells_at rs j (by omega)
    obtain ⟨a1, a2, a3⟩ := hf j hj
    have hc := World.ownsRow.cells h (g := g) (by rw [hv]; rfl)
    have c1 := hc _ _ f1
    have c2 := hc _ _ f2
    rw [add_zeroM] at c1 c2
    refine ⟨_, _, _, ?_, ?_, a2, a3⟩
    · rw [Nat.zero_add, c1, a1]
    · rw [Nat.zero_add, c2]
/-- A matrix's rows keep off a store into a box of a matrix that is another block. -/
theorem MatAt.farB {w : World} {lo : Nat} {A : Option Addr} {len : Nat} {ms : List (Int × List Nat)} (h : MatAt w lo A len ms) {B : Nat} {t : TypeId} {x : Int} {S : Option Addr} {p q : Nat} (hne : ∀ b o, A = some ⟨b, o, none⟩ → 0 < len → b ≠ B) (hb : Box w B t #[.int .i64 x, .slice S p q]) (i : Nat) (u : Value) : MatAt (w.setCell ⟨B, i, none⟩ u) lo A len ms := by
  refine ⟨h.1, fun hp => ?_⟩
  obtain ⟨b, off, rfl, h1, h2, h3⟩ := h.2 hp
  have hnb := hne b off rfl hp
  refine ⟨b, off, rfl, h1, by simpa [World.setCell] using h2, fun j hj => ?_⟩
  obtain ⟨Bw, l, c, r0, r1, r2, r3⟩ := h3 j hj
  refine ⟨Bw, l, c, ?_, ?_, r2, ?_⟩
  · rw [World.cell?_setCell_other _ _ _ _ (by intro e; injection e; omega)]; exact r0
  · rw [World.cell?_setCell_other _ _ _ _ (by intro e; injection e; omega)]; exact r1
  · refine ⟨r3.1, r3.2.1, fun hp => ?_⟩
    obtain ⟨b', off', rfl, hlt, hc⟩ := r3.2.2 hp
    have hnw := r3.off hb b' off' rfl hp
    refine ⟨b', off', rfl, by simpa [World.setCell] using hlt, fun j hj => ?_⟩
    rw [World.cell?_setCell_other _ _ _ _ (by intro e; injection e; omega)]
    exact hc j hj
end
section
/- The reference's From and Of: rows of words of the call's own. -/
set_option linter.unusedVariables false
set_option linter.unusedSimpArgs false
open Go.RowKit
end
section
/- Layer 3's reference: One. -/
set_option linter.unusedVariables false
set_option linter.unusedSimpArgs false
open Go.RowKit
theorem own_drewM {w : World} {base e size n : Nat} {v : Value} {xs : List Value} (h : w.ownsRow base e size v n xs) : w.drew.ownsRow base e size v n xs := h
theorem one_ints (w : World) (t : TypeId) (i : Nat) (hi : i ≤ 1000000) : Ints (w.alloc (.cells #[.int .i64 i] t)) (some ⟨w.heap.size, 0, none⟩) 1 [(i : Int)] := by
  have bx := Box.new w t #[.int .i64 (i : Int)]
  refine ⟨rfl, fun j => ?_, fun _ => ⟨w.heap.size, 0, rfl, bx.lt, fun j hj => ?_⟩⟩
  · match j with
    | 0 => simp; omega
    | k + 1 => simp
  · rw [Nat.zero_add, bx.cell]
    match j, hj with
    | 0, _ => rfl
/-- A row of rows of the call's own, each with a row of words of the call's own. -/
def RowsW (w : World) (base : Nat) (v : Value) (ms : List (Int × List Nat)) : Prop :=
  ∃ rs : List RowV, rs.length = ms.length ∧ w.ownsRow base 27 2 v ms.length (rowCells rs) ∧ ∀ j, j < ms.length → (rs.getD j (0, none, 0, 0)).1 = (ms.getD j (0, [])).1 ∧ OwnW w (rs.getD j (0, none, 0, 0)).2.1 (rs.getD j (0, none, 0, 0)).2.2.1 (rs.getD j (0, none, 0, 0)).2.2.2 (ms.getD j (0, [])).2
theorem RowsW.nil (w : World) (base : Nat) : RowsW w base (.slice none 0 0) [] := ⟨[], rfl, World.ownsRow_nil _ _ _ _, fun j hj => by cases hj⟩
theorem RowsW.below {w w' : World} {base : Nat} {v : Value} {ms : List (Int × List Nat)} (h : RowsW w base v ms) (hb : Below w.heap.size w w') : RowsW w' base v ms := by
  obtain ⟨rs, h1, h2, h3⟩ := h
  exact ⟨rs, h1, own_keep h2 hb, fun j hj => ⟨(h3 j hj).1, (h3 j hj).2.below hb⟩⟩
theorem RowsW.far {w : World} {base : Nat} {v : Value} {ms : List (Int × List Nat)} (h : RowsW w base v ms) {g : Nat} {t : TypeId} {cs : Array Value} (hb : Box w g t cs) (hne : 63 ≠ t) (hne2 : 27 ≠ t) (i : Nat) (u : Value) : RowsW (w.setCell ⟨g, i, none⟩ u) base v ms := by
  obtain ⟨rs, h1, h2, h3⟩ := h
  exact ⟨rs, h1, own_far h2 hb hne2 i u, fun j hj => ⟨(h3 j hj).1, (h3 j hj).2.far hb hne i u⟩⟩
theorem RowsW.snoc {w : World} {base n : Nat} {v : Value} {rs : List RowV} {ms : List (Int × List Nat)} {N : Int} {A : Option Addr} {l c : Nat} {z : List Nat} (hn : ms.length = n) (h1 : rs.length = n) (h2 : w.ownsRow base 27 2 v (n + 1) (rowCells rs ++ [.int .i64 N, .slice A l c]))
    (h3 : ∀ j, j < n → (rs.getD j (0, none, 0, 0)).1 = (ms.getD j (0, [])).1 ∧ OwnW w (rs.getD j (0, none, 0, 0)).2.1 (rs.getD j (0, none, 0, 0)).2.2.1 (rs.getD j (0, none, 0, 0)).2.2.2 (ms.getD j (0, [])).2) (h4 : OwnW w A l c z) : RowsW w base v (ms ++ [(N, z)]) := by
  subst hn
  refine ⟨rs ++ [(N, A, l, c)], by simp [h1], ?_, fun j hj => ?_⟩
  · rw [rowCells_snoc, List.length_append]; exact h2
  · rw [List.length_append] at hj
    simp only [List.length_cons, List.length_nil] at hj
    by_cases h : j < ms.length
    · have := h3 j h
      simp only [List.getD, List.getElem?_append_left h, List.getElem?_append_left (h1 ▸ h)] at this ⊢
      exact this
    · obtain rfl : j = ms.length := by omega
      have e1 : (rs ++ [(N, A, l, c)]).getD ms.length (0, none, 0, 0) = (N, A, l, c) := by rw [← h1]; simp [List.getD]
      have e2 : (ms ++ [(N, z)]).getD ms.length (0, []) = (N, z) := by simp [List.getD]
      rw [e1, e2]; exact ⟨rfl, h4⟩
theorem RowsW.mat {w : World} {base : Nat} {v : Value} {ms : List (Int × List Nat)} (h : RowsW w base v ms) (hz : ∀ i j, ((ms.getD i (0, [])).2).getD j 0 < 18446744073709551616) : ∃ A c, v = .slice A ms.length c ∧ ms.length ≤ c ∧ MatAt w base A ms.length ms := by
  obtain ⟨rs, h1, h2, h3⟩ := h
  exact own_mat h2 h1 ms rfl (fun j hj => ⟨(h3 j hj).1, (h3 j hj).2.ok, (h3 j hj).2.words (hz j)⟩)
theorem oneL_take (n i : Nat) (h : i < n) : (oneL n).take (i + 1) = (oneL n).take i ++ [((n : Int), ofBits n [(i : Int)])] := by
  rw [take_one (oneL n) i (0, []) (by rw [oneL_len]; exact h)]
  simp [oneL, List.getD, h]
theorem oneL_lt (n i j : Nat) : (((oneL n).getD i (0, [])).2).getD j 0 < 18446744073709551616 := by
  by_cases h : i < n
  · have e : (oneL n).getD i (0, []) = ((n : Int), ofBits n [(i : Int)]) := by simp [oneL, List.getD, h]
    rw [e]; exact ofBits_lt n _ j
  · have e : (oneL n)[i]? = none := List.getElem?_eq_none (by rw [oneL_len]; omega)
    simp [List.getD, e]
end
section
/- Layer 4: rows of rows as numbers; has, find. -/
set_option linter.unusedVariables false
set_option linter.unusedSimpArgs false
open Go.RowKit
set_option maxRecDepth 100000
def mkR (N x : Nat) : Int × List Nat := ((N : Int), rowOf N x)
def mkM (N : Nat) (L : List Nat) : List (Int × List Nat) := L.map (mkR N)
theorem mkM_len (N : Nat) (L : List Nat) : (mkM N L).length = L.length := by simp [mkM]
theorem mkM_at (N : Nat) (L : List Nat) (i : Nat) (h : i < L.length) : (mkM N L).getD i (0, []) = mkR N (L.getD i 0) := by simp [mkM, List.getD, h]
/-- A row of rows of the call's own, told by numbers. -/
def RowsN (w : World) (base : Nat) (v : Value) (N : Nat) (L : List Nat) : Prop := RowsW w base v (mkM N L)
section
variable {w w' : World} {base : Nat} {v : Value} {N : Nat} {L : List Nat}
theorem RowsN.below (h : RowsN w base v N L) (hb : Below w.heap.size w w') : RowsN w' base v N L := RowsW.below h hb
theorem RowsN.far (h : RowsN w base v N L) {g : Nat} {t : TypeId} {cs : Array Value} (hb : Box w g t cs) (hne : 63 ≠ t) (hne2 : 27 ≠ t) (i : Nat) (u : Value) : RowsN (w.setCell ⟨g, i, none⟩ u) base v N L := RowsW.far h hb hne hne2 i u
theorem RowsN.form (h : RowsN w base v N L) (h0 : 0 < L.length) : ∃ g cap, v = .slice (some ⟨g, 0, none⟩) L.length cap ∧ base ≤ g ∧ g < w.heap.size ∧ L.length ≤ cap ∧ cap ≤ maxLen := by
  obtain ⟨rs, h1, h2, -⟩ := h
  rw [mkM_len] at h2
  rcases h2.2 with ⟨hv, hz⟩ | ⟨g, cap, cur, hv, hb, hh, hc, hm, -⟩
  · omega
  · exact ⟨g, cap, hv, hb, (show Box w g _ cur from hh).lt, hc, hm⟩
theorem RowsN.at (h : RowsN w base v N L) {g cap : Nat} (hv : v = .slice (some ⟨g, 0, none⟩) L.length cap) (i : Nat) (hi : i < L.length) :
    ∃ A l c, w.cell? ⟨g, i * 2, none⟩ = some (.int .i64 N) ∧ w.cell? ⟨g, i * 2 + 1, none⟩ = some (.slice A l c) ∧ OwnW w A l c (rowOf N (L.getD i 0)) ∧ w.frozen? ⟨g, i * 2, none⟩ = false ∧ w.frozen? ⟨g, i * 2 + 1, none⟩ = false := by
  obtain ⟨rs, h1, h2, h3⟩ := h
  rw [mkM_len] at h1 h2 h3
  obtain ⟨e1, e2⟩ := h3 i hi
  rw [mkM_at N L i hi] at e1 e2
  obtain ⟨r1, r2⟩ := rowCells_at rs i (by omega)
  have hc := World.ownsRow.cells h2 (g := g) (by rw [hv]; rfl)
  have c1 := hc _ _ r1
  have c2 := hc _ _ r2
  rw [add_zeroM] at c1 c2
  rw [e1] at c1
  rw [hv] at h2
  exact ⟨_, _, _, c1, c2, e2, h2.frozenAt _, h2.frozenAt _⟩
/-- A row is put in place of another one. -/
theorem RowsN.put {g cap : Nat} (h : RowsN w base (.slice (some ⟨g, 0, none⟩) L.length cap) N L) (i : Nat) (hi : i < L.length) (x : Nat) {A : Option Addr} {l c : Nat} (hw : OwnW w A l c (rowOf N x)) :
    RowsN ((w.setCell ⟨g, i * 2, none⟩ (.int .i64 N)).setCell ⟨g, i * 2 + 1, none⟩ (.slice A l c)) base (.slice (some ⟨g, 0, none⟩) L.length cap) N (L.set i x) := by
  obtain ⟨rs, h1, h2, h3⟩ := h
  rw [mkM_len] at h1 h2 h3
  have hbox : ∃ cur, Box w g 27 cur := by
    rcases h2.2 with ⟨hv, _⟩ | ⟨g', cap', cur, hv, hb, hh, -⟩
    · cases hv
    · injection hv with e1; injection e1 with e1; injection e1 with e1; subst e1; exact ⟨cur, hh⟩
  obtain ⟨cur, hbx⟩ := hbox
  have s1 := (h2.stored (i * 2) (.int .i64 N)).1
  have s2 := (s1.stored (i * 2 + 1) (.slice A l c)).1
  rw [show ((rowCells rs).set (i * 2) (.int .i64 (N : Int))).set (i * 2 + 1) (.slice A l c) = rowCells (rs.set i ((N : Int), A, l, c)) from rowCells_set rs i ((N : Int), A, l, c)] at s2
  refine ⟨rs.set i ((N : Int), A, l, c), by simp [h1, mkM], by rw [mkM_len, List.length_set]; exact s2, fun j hj => ?_⟩
  rw [mkM_len, List.length_set] at hj
  rw [mkM_at N _ j (by rw [List.length_set]; exact hj)]
  have far : ∀ {A : Option Addr} {l c : Nat} {zs : List Nat}, OwnW w A l c zs → OwnW ((w.setCell ⟨g, i * 2, none⟩ (.int .i64 N)).setCell ⟨g, i * 2 + 1, none⟩ (.slice A l c)) A l c zs := fun ho => (ho.far hbx (by decide) _ _).far (hbx.put _ _) (by decide) _ _
  have far2 : ∀ {B : Option Addr} {m d : Nat} {zs : List Nat}, OwnW w B m d zs → OwnW ((w.setCell ⟨g, i * 2, none⟩ (.int .i64 N)).setCell ⟨g, i * 2 + 1, none⟩ (.slice A l c)) B m d zs := fun ho => (ho.far hbx (by decide) _ _).far (hbx.put _ _) (by decide) _ _
  by_cases e : j = i
  · subst e
    have e1 : (rs.set j ((N : Int), A, l, c)).getD j (0, none, 0, 0) = ((N : Int), A, l, c) := by simp [List.getD, h1, hi]
    have e2 : (L.set j x).getD j 0 = x := by simp [List.getD, hi]
    rw [e1, e2]
    exact ⟨rfl, far2 hw⟩
  · have e1 : (rs.set i ((N : Int), A, l, c)).getD j (0, none, 0, 0) = rs.getD j (0, none, 0, 0) := by simp only [List.getD]; rw [List.getElem?_set_ne (by omega)]
    have e2 : (L.set i x).getD j 0 = L.getD j 0 := by simp only [List.getD]; rw [List.getElem?_set_ne (by omega)]
    obtain ⟨f1, f2⟩ := h3 j hj
    rw [mkM_at N L j hj] at f1 f2
    rw [e1, e2]
    exact ⟨f1, far2 f2⟩
end
theorem has_any (N x : Nat) (hN : N ≤ 512) (hx : x < 2 ^ N) (A : Option Addr) (l c p : Nat) (hp : p < N) (w : World) (hw : Words w A l (rowOf N x)) :
    Calls Tryd.prog 30 #[.agg #[.int .i64 N, .slice A l c], .int .i64 (p : Int)] w fun e w' => e = .returned (.bool (x.testBit p)) ∧ Below w.heap.size w w' := by
  have hW : Below w.heap.size w (w.alloc (.cells #[.int .i64 N, .slice A l c] 27)) := (Below.refl _ _).alloc (Nat.le_refl _) _
  have Q := Box.new w 27 #[.int .i64 (N : Int), .slice A l c]
  have HG := Lib.hid (get_yes N p A l c (rowOf N x) _ (rowOf_right N x hN hx) hp (hw.below hW))
  rw [rowOf_bitN N x p hp] at HG
  have HW := Lib.hid hW
  obtain ⟨q0, q1, -, -⟩ := Q.two
  clear hw hW Q
  cases hb : x.testBit p with
  | true =>
    rw [hb] at HG
    clear hb
    go_enter Tryd.func30, Tryd.ntmps30
    go_wp2_with fail
    refine HG.out.mono ?_
    rintro e w1 ⟨rfl, hb⟩
    have B := Lib.hid (chainN HW.out HW.out.size hb)
    clear hb
    go_wp2_with fail
    go_ret
    exact ⟨by simp, B.out⟩
  | false =>
    rw [hb] at HG
    clear hb
    go_enter Tryd.func30, Tryd.ntmps30
    go_wp2_with fail
    refine HG.out.mono ?_
    rintro e w1 ⟨rfl, hb⟩
    have B := Lib.hid (chainN HW.out HW.out.size hb)
    clear hb
    go_wp2_with fail
    go_ret
    exact ⟨by simp, B.out⟩
theorem RowsN.keepW {w : World} {base : Nat} {N : Nat} {L : List Nat} {g n cap : Nat} (h : RowsN w base (.slice (some ⟨g, 0, none⟩) n cap) N L) {B : Option Addr} {m k : Nat} {zs : List Nat} (ho : OwnW w B m k zs) (i j : Nat) (u v : Value) :
    OwnW ((w.setCell ⟨g, i, none⟩ u).setCell ⟨g, j, none⟩ v) B m k zs := by
  obtain ⟨rs, h1, h2, h3⟩ := h
  rcases h2.2 with ⟨hv, _⟩ | ⟨g', cap', cur, hv, hb, hh, -⟩
  · cases hv
  · injection hv with e1; injection e1 with e1; injection e1 with e1
    subst e1
    have hbx : Box w g 27 cur := hh
    exact (ho.far hbx (by decide) _ _).far (hbx.put _ _) (by decide) _ _
theorem Box.three {w : World} {g : Nat} {t : TypeId} {a b d : Value} (h : Box w g t #[a, b, d]) : w.cell? ⟨g, 0, none⟩ = some a ∧ w.cell? ⟨g, 1, none⟩ = some b ∧ w.cell? ⟨g, 2, none⟩ = some d ∧ w.frozen? ⟨g, 0, none⟩ = false ∧ w.frozen? ⟨g, 1, none⟩ = false ∧ w.frozen? ⟨g, 2, none⟩ = false :=
  ⟨h.cell 0, h.cell 1, h.cell 2, h.free 0, h.free 1, h.free 2⟩
/-- Where the next row is that has a column. -/
def FindOut (L : List Nat) (d c : Nat) (w : World) (e : Ending) (w' : World) : Prop :=
  ∃ i : Nat, e = .returned (.int .i64 (i : Int)) ∧ d ≤ i ∧ i ≤ L.length ∧ (∀ j, d ≤ j → j < i → (L.getD j 0).testBit c = false) ∧ (i < L.length → (L.getD i 0).testBit c = true) ∧ Below w.heap.size w w'
set_option maxHeartbeats 2000000 in
theorem find_any (N : Nat) (hN : N ≤ 512) (L : List Nat) (hL : ∀ i, L.getD i 0 < 2 ^ N) (hlen : L.length ≤ 64) (v : Value) (base wb d c : Nat) (hd : d ≤ L.length) (hc : c < N) (w : World) (hb : Box w wb 62 #[.int .i64 (N : Int), v, .int .i64 (d : Int)]) (hr : RowsN w base v N L) :
    Calls Tryd.prog 42 #[.pointer (some ⟨wb, 0, none⟩), .int .i64 (c : Int)] w (FindOut L d c w) := by
  have HBX := Lib.hid hb
  have HR := Lib.hid hr
  obtain ⟨A0, c0, hv, -⟩ := own_form hr.choose_spec.2.1
  rw [mkM_len] at hv
  subst hv
  obtain ⟨b0, b1, b2, -, -, -⟩ := hb.three
  clear hb hr
  go_enter Tryd.func42, Tryd.ntmps42
  go_wp2_with fail
  clear b0 b1 b2
  go_loopw [5] (fun t wr => ∃ i : Nat, d ≤ i ∧ i ≤ L.length ∧ t = .int .i64 (i : Int) ∧ Hid (∀ j, d ≤ j → j < i → (L.getD j 0).testBit c = false) ∧ Hid (Below w.heap.size w wr)) (fun t _ => L.length - (intOf t).toNat)
  case atStart => exact ⟨d, Nat.le_refl _, hd, rfl, Lib.hid (fun j h1 h2 => by omega), Lib.hid (Below.refl _ _)⟩
  case round =>
    obtain ⟨i, h1, h2, rfl, HF, HB⟩ := hrel
    obtain ⟨b0, b1, b2, -, -, -⟩ := (HBX.out.keep HB.out).three
    by_cases hlt : i < L.length
    · have hlt' : (i : Int) < (L.length : Int) := by omega
      have hr1 := HR.out.below HB.out
      obtain ⟨g, cap, hv, -, -, hcap, hcm⟩ := hr1.form (by omega)
      injection hv with e1 e2 e3
      subst e1
      obtain ⟨A, l, cc, x0, x1, ow, -, -⟩ := hr1.at rfl i hlt
      have HH := Lib.hid (has_any N (L.getD i 0) hN (hL i) A l cc c hc _ (ow.words (rowOf_lt N _)))
      clear hr1 e3 ow
      cases hbit : (L.getD i 0).testBit c with
      | true =>
        rw [hbit] at HH
        have HBt := Lib.hid hbit
        clear hbit
        go_wp2_with fail
        refine HH.out.mono ?_
        rintro e w1 ⟨rfl, hb⟩
        have HB2 := Lib.hid (chain HB.out hb)
        clear hb
        go_wp2_with fail
        go_ret
        exact ⟨i, rfl, h1, by omega, HF.out, fun _ => HBt.out, HB2.out⟩
      | false =>
        rw [hbit] at HH
        have HBt := Lib.hid hbit
        clear hbit
        go_wp2_with fail
        refine HH.out.mono ?_
        rintro e w1 ⟨rfl, hb⟩
        have HB2 := Lib.hid (chain HB.out hb)
        clear hb
        go_wp2_with fail
        go_roundw
        case rel => exact ⟨i + 1, by omega, by omega, by go_num, Lib.hid (fun j k1 k2 => by
          by_cases e : j = i
          · subst e; exact HBt.out
          · exact HF.out j k1 (by omega)), HB2⟩
        case measure => simp [intOf]; omega
    · obtain rfl : i = L.length := by omega
      have hlt' : ¬ (L.length : Int) < (L.length : Int) := by omega
      go_wp2_with fail
      go_ret
      exact ⟨L.length, rfl, h1, Nat.le_refl _, HF.out, fun h => absurd h (Nat.lt_irrefl _), HB.out⟩
end
section
/- Layer 4: clear: a column is put out of all rows but one. -/
set_option linter.unusedVariables false
set_option linter.unusedSimpArgs false
open Go.RowKit
set_option maxRecDepth 100000
theorem gk_trans {w w1 w2 : World} {g : Nat} (h : w.grownBy w1 (some g)) (k : w1.grownBy w2 (some g)) : w.grownBy w2 (some g) :=
  ⟨k.os.trans h.os, k.tape.trans h.tape, k.output.trans h.output, Nat.le_trans h.size k.size, fun b hb hne => (k.block b (Nat.lt_of_lt_of_le hb h.size) hne).trans (h.block b hb hne)⟩
theorem gk_below {w w1 : World} {r : Option Nat} (h : Below w.heap.size w w1) : w.grownBy w1 r := ⟨h.os, h.tape, h.output, h.size, fun b hb _ => h.block b hb⟩
theorem gk_set (w : World) (g i : Nat) (u : Value) : w.grownBy (w.setCell ⟨g, i, none⟩ u) (some g) :=
  ⟨rfl, rfl, rfl, by simp [World.setCell], fun b _ hne => Below.heap_setCell _ _ _ _ (fun e => hne (by rw [e]))⟩
theorem gk_drew {w w1 : World} {r : Option Nat} (h : w.grownBy w1 r) : w.grownBy w1.drew r := ⟨h.os, h.tape, h.output, h.size, h.block⟩
theorem RowsN.drew {w : World} {base : Nat} {v : Value} {N : Nat} {L : List Nat} (h : RowsN w base v N L) : RowsN w.drew base v N L := h
theorem gk_refl (w : World) (r : Option Nat) : w.grownBy w r := ⟨rfl, rfl, rfl, Nat.le_refl _, fun _ _ _ => rfl⟩
theorem gk_box {w w1 : World} {g b : Nat} {t : TypeId} {cs : Array Value} (h : Box w b t cs) (k : w.grownBy w1 (some g)) (hne : b ≠ g) : Box w1 b t cs := (k.block b h.lt (fun e => hne (Option.some.inj e))).trans h
/-- The column put out of the first i rows. -/
def clearP (L : List Nat) (d c i : Nat) : List Nat := (List.range L.length).map fun j => if j < i ∧ j ≠ d ∧ (L.getD j 0).testBit c = true then L.getD j 0 ^^^ L.getD d 0 else L.getD j 0
theorem clearP_len (L : List Nat) (d c i : Nat) : (clearP L d c i).length = L.length := by simp [clearP]
theorem clearP_at (L : List Nat) (d c i j : Nat) (hj : j < L.length) : (clearP L d c i).getD j 0 = if j < i ∧ j ≠ d ∧ (L.getD j 0).testBit c = true then L.getD j 0 ^^^ L.getD d 0 else L.getD j 0 := by simp [clearP, List.getD, hj]
theorem clearP_zero (L : List Nat) (d c : Nat) : clearP L d c 0 = L := by
  apply List.ext_getElem (clearP_len _ _ _ _)
  intro j h1 h2
  simp [clearP, List.getD, h2]
theorem clearP_all (L : List Nat) (d c : Nat) : clearP L d c L.length = clearL L d c := by
  unfold clearP clearL
  apply List.map_congr_left
  intro j hj
  have : j < L.length := by simpa using hj
  simp [this]
theorem clearP_yes (L : List Nat) (d c i : Nat) (hi : i < L.length) (hd : i ≠ d) (hb : (L.getD i 0).testBit c = true) : clearP L d c (i + 1) = (clearP L d c i).set i (L.getD i 0 ^^^ L.getD d 0) := by
  apply List.ext_getElem (by simp [clearP])
  intro j h1 h2
  have hj : j < L.length := by rw [clearP_len] at h1; exact h1
  have a := clearP_at L d c (i + 1) j hj
  have b := clearP_at L d c i j hj
  rw [List.getElem_set]
  have e1 : (clearP L d c (i + 1)).getD j 0 = (clearP L d c (i + 1))[j] := by simp only [List.getD, List.getElem?_eq_getElem h1, Option.getD_some]
  have h3 : j < (clearP L d c i).length := by rw [clearP_len]; exact hj
  have e2 : (clearP L d c i).getD j 0 = (clearP L d c i)[j] := by simp only [List.getD, List.getElem?_eq_getElem h3, Option.getD_some]
  rw [← e1, a]
  by_cases e : i = j
  · subst e; rw [if_pos rfl, if_pos ⟨by omega, hd, hb⟩]
  · rw [if_neg e, ← e2, b]
    by_cases hl : j < i
    · simp only [hl, show j < i + 1 by omega]
    · simp only [hl, show ¬ j < i + 1 by omega]
theorem clearP_no (L : List Nat) (d c i : Nat) (h : ¬ (i ≠ d ∧ (L.getD i 0).testBit c = true)) : clearP L d c (i + 1) = clearP L d c i := by
  unfold clearP
  apply List.map_congr_left
  intro j hj
  by_cases e : j = i
  · subst e; rw [if_neg (fun k => h k.2), if_neg (fun k => h k.2)]
  · by_cases hl : j < i
    · simp only [hl, show j < i + 1 by omega]
    · simp only [hl, show ¬ j < i + 1 by omega]
theorem lt_all {N : Nat} {L : List Nat} (h : ∀ r ∈ L, r < 2 ^ N) (i : Nat) : L.getD i 0 < 2 ^ N := by
  by_cases hi : i < L.length
  · exact h _ (getD_mem hi)
  · have : L[i]? = none := List.getElem?_eq_none (by omega)
    simp only [List.getD, this, Option.getD_none]; exact Nat.two_pow_pos N
theorem clearP_lt {N : Nat} {L : List Nat} (h : ∀ i, L.getD i 0 < 2 ^ N) (d c k i : Nat) : (clearP L d c k).getD i 0 < 2 ^ N := by
  by_cases hi : i < L.length
  · rw [clearP_at L d c k i hi]
    split
    · exact Nat.xor_lt_two_pow (h i) (h d)
    · exact h i
  · have : (clearP L d c k)[i]? = none := List.getElem?_eq_none (by rw [clearP_len]; omega)
    simp only [List.getD, this, Option.getD_none]; exact Nat.two_pow_pos N
/-- The xor of two rows told by numbers. -/
theorem xor_num (N x y : Nat) (hN : N ≤ 512) (hx : x < 2 ^ N) (hy : y < 2 ^ N) (A B : Option Addr) (l c k d : Nat) (w : World) (hu : Words w A l (rowOf N x)) (hv : Words w B k (rowOf N y)) :
    Calls Tryd.prog 31 #[.agg #[.int .i64 (N : Int), .slice A l c], .agg #[.int .i64 (N : Int), .slice B k d]] w (OwnOut N (rowOf N (x ^^^ y)) w) := by
  have h := xor_own (N : Int) A B l c k d (rowOf N x) (rowOf N y) w hu hv (rowOf_right N x hN hx) (rowOf_right N y hN hy)
  rw [rowOf_xor] at h
  exact h
theorem set2_cell {w : World} {g i j : Nat} {x : Value} (h : w.cell? ⟨g, j, none⟩ = some x) (h1 : ¬ j = i) (h2 : ¬ j = i + 1) (u v : Value) : ((w.setCell ⟨g, i, none⟩ u).setCell ⟨g, i + 1, none⟩ v).cell? ⟨g, j, none⟩ = some x := by
  rw [World.cell?_setCell_other _ _ _ _ (by intro e; injection e; omega), World.cell?_setCell_other _ _ _ _ (by intro e; injection e; omega)]
  exact h
/-- What clear leaves. -/
def ClearOut (N base wb g cap : Nat) (L : List Nat) (d c : Nat) (w : World) (e : Ending) (w' : World) : Prop :=
  (∃ v, e = .returned v) ∧ Box w' wb 62 #[.int .i64 (N : Int), .slice (some ⟨g, 0, none⟩) L.length cap, .int .i64 ((d : Int) + 1)] ∧ RowsN w' base (.slice (some ⟨g, 0, none⟩) L.length cap) N (clearL L d c) ∧ w.grownBy w' (some g)
set_option maxHeartbeats 4000000 in
theorem clear_any (N : Nat) (hN : N ≤ 512) (L : List Nat) (hL : ∀ i, L.getD i 0 < 2 ^ N) (hlen : L.length ≤ 64) (base wb g cap d c : Nat) (hd : d < L.length) (hc : c < N) (hwg : wb ≠ g) (w : World)
    (hb : Box w wb 62 #[.int .i64 (N : Int), .slice (some ⟨g, 0, none⟩) L.length cap, .int .i64 ((d : Int) + 1)]) (hr : RowsN w base (.slice (some ⟨g, 0, none⟩) L.length cap) N L) (hg : g < w.heap.size) :
    Calls Tryd.prog 25 #[.pointer (some ⟨wb, 0, none⟩), .int .i64 (c : Int)] w (ClearOut N base wb g cap L d c w) := by
  have HBX := Lib.hid hb
  have HR := Lib.hid hr
  obtain ⟨b0, b1, b2, -, -, -⟩ := hb.three
  obtain ⟨-, -, -, -, -, hcap, hcm⟩ : ∃ (_ _ : Nat), True ∧ True ∧ True ∧ L.length ≤ cap ∧ cap ≤ maxLen := by
    obtain ⟨g', cap', hv, -, -, h1, h2⟩ := hr.form (by omega)
    injection hv with _ _ e3
    subst e3
    exact ⟨0, 0, trivial, trivial, trivial, h1, h2⟩
  unfold maxLen at hcm
  clear hb hr
  go_enter Tryd.func25, Tryd.ntmps25
  go_wp2_with fail
  clear b0 b1 b2
  go_loopw [17] (fun t wr => ∃ i : Nat, i ≤ L.length ∧ t = .int .i64 (i : Int) ∧ Box wr wb 62 #[.int .i64 (N : Int), .slice (some ⟨g, 0, none⟩) L.length cap, .int .i64 ((d : Int) + 1)] ∧ RowsN wr base (.slice (some ⟨g, 0, none⟩) L.length cap) N (clearP L d c i) ∧ Hid (w.grownBy wr (some g))) (fun t _ => L.length - (intOf t).toNat)
  case atStart => exact ⟨0, Nat.zero_le _, rfl, HBX.out, by rw [clearP_zero]; exact HR.out, Lib.hid (gk_refl _ _)⟩
  case round =>
    obtain ⟨i, hi, rfl, hbx, hrw, HG⟩ := hrel
    have HB := Lib.hid hbx
    have HRw := Lib.hid hrw
    clear hbx hrw HBX HR
    have HCL := Lib.hid (clearP_len L d c i)
    by_cases hlt : i < L.length
    · have hlt' : (i : Int) < (L.length : Int) := by omega
      obtain ⟨A, l, cc, x0, x1, ow, -, -⟩ := HRw.out.at (by rw [HCL.out]) i (by rw [HCL.out]; exact hlt)
      have hx := clearP_at L d c i i hlt
      rw [if_neg (fun k => Nat.lt_irrefl _ k.1)] at hx
      rw [hx] at ow
      clear hx
      -- the row's own variable
      have hal : Below wr.heap.size wr (wr.alloc (.cells #[.int .i64 (N : Int), .slice A l cc] 27)) := (Below.refl _ _).alloc (Nat.le_refl _) _
      have RB := Lib.hid (Box.new wr 27 #[.int .i64 (N : Int), .slice A l cc])
      have HB1 := Lib.hid (HB.out.keep hal)
      have HRw1 := Lib.hid (HRw.out.below hal)
      have HG1 := Lib.hid (gk_trans HG.out (gk_below hal))
      have OW1 := Lib.hid (ow.below hal)
      have hgs : wb < wr.heap.size := HB.out.lt
      clear ow
      obtain ⟨r0, r1, -, -⟩ := RB.out.two
      have HH := Lib.hid (has_any N (L.getD i 0) hN (hL i) A l cc c hc _ (OW1.out.words (rowOf_lt N _)))
      by_cases hid : i = d
      · have t1 : ((i : Int) != (d : Int)) = false := by simp [hid]
        have HNo := Lib.hid (clearP_no L d c i (fun k => k.1 hid))
        clear hid
        go_wp2_with fail
        go_roundw
        case rel => exact ⟨i + 1, by omega, by go_num, HB1.out, by rw [HNo.out]; exact HRw1.out, HG1⟩
        case measure => simp [intOf]; omega
      · have t1 : ((i : Int) != (d : Int)) = true := by simp; omega
        have HNE := Lib.hid hid
        clear hid
        cases hbit : (L.getD i 0).testBit c with
        | false =>
          rw [hbit] at HH
          have HNo := Lib.hid (clearP_no L d c i (fun k => by rw [hbit] at k; cases k.2))
          clear hbit
          go_wp2_with fail
          refine HH.out.mono ?_
          rintro e w1 ⟨rfl, hb⟩
          have HB2 := Lib.hid (HB1.out.keep hb)
          have HRw2 := Lib.hid (HRw1.out.below hb)
          have HG2 := Lib.hid (gk_trans HG1.out (gk_below hb))
          clear hb
          go_wp2_with fail
          go_roundw
          case rel => exact ⟨i + 1, by omega, by go_num, HB2.out, by rw [HNo.out]; exact HRw2.out, HG2⟩
          case measure => simp [intOf]; omega
        | true =>
          rw [hbit] at HH
          have HYes := Lib.hid (clearP_yes L d c i hlt HNE.out hbit)
          clear hbit
          go_wp2_with fail
          refine HH.out.mono ?_
          rintro e w1 ⟨rfl, hb⟩
          have HB2 := Lib.hid (HB1.out.keep hb)
          have HRw2 := Lib.hid (HRw1.out.below hb)
          have HG2 := Lib.hid (gk_trans HG1.out (gk_below hb))
          have RB2 := Lib.hid (RB.out.keep hb)
          have OW2 := Lib.hid (OW1.out.below hb)
          clear hb r0 r1 x0 x1
          obtain ⟨A2, l2, c2, y0, y1, ow2, -, -⟩ := HRw2.out.at (by rw [HCL.out]) d (by rw [HCL.out]; exact hd)
          have hx := clearP_at L d c i d hd
          rw [if_neg (fun k => k.2.1 rfl)] at hx
          rw [hx] at ow2
          clear hx
          have OW3 := Lib.hid ow2
          clear ow2
          obtain ⟨r0, r1, -, -⟩ := RB2.out.two
          obtain ⟨b0, b1, b2, -, -, -⟩ := HB2.out.three
          have HX := Lib.hid (fun W (h1 : Words W A l (rowOf N (L.getD i 0))) (h2 : Words W A2 l2 (rowOf N (L.getD d 0))) => xor_num N (L.getD i 0) (L.getD d 0) hN (hL i) (hL d) A A2 l cc l2 c2 W h1 h2)
          have WD1 := Lib.hid (show Words w1.drew A l (rowOf N (L.getD i 0)) from OW2.out.words (rowOf_lt N _))
          have WD2 := Lib.hid (show Words w1.drew A2 l2 (rowOf N (L.getD d 0)) from OW3.out.words (rowOf_lt N _))
          have HV := Lib.hid (show Value.slice (some ⟨g, 0, none⟩) L.length cap = .slice (some ⟨g, 0, none⟩) (clearP L d c i).length cap by rw [HCL.out])
          have HGl := Lib.hid (show g < w1.drew.heap.size from Nat.lt_of_lt_of_le hg HG2.out.size)
          have HI1 := Lib.hid (show i < (clearP L d c i).length by rw [HCL.out]; exact hlt)
          have hdc : (d : Int) < (L.length : Int) := by omega
          have hgr : g < wr.heap.size := Nat.lt_of_lt_of_le hg HG.out.size
          have n1 : ¬ d * 2 = i * 2 := by have := HNE.out; omega
          have n2 : ¬ d * 2 = i * 2 + 1 := by omega
          have n3 : ¬ d * 2 + 1 = i * 2 := by omega
          have n4 : ¬ d * 2 + 1 = i * 2 + 1 := by have := HNE.out; omega
          have n5 : ¬ wb = g := hwg
          have n6 : ¬ wr.heap.size = g := by omega
          have m1 : ¬ i * 2 = d * 2 := by have := HNE.out; omega
          have m2 : ¬ i * 2 + 1 = d * 2 := by omega
          have m3 : ¬ i * 2 = d * 2 + 1 := by omega
          have m4 : ¬ i * 2 + 1 = d * 2 + 1 := by have := HNE.out; omega
          have m5 : ¬ g = wb := fun e => hwg e.symm
          have m6 : ¬ g = wr.heap.size := by omega
          go_wp2_with fail
          go_region_held3 (fun w' => w'.cell? ⟨wb, 1, none⟩ = some (.slice (some ⟨g, 0, none⟩) L.length cap) ∧ w'.cell? ⟨wr.heap.size, 0, none⟩ = some (.int .i64 (N : Int)) ∧ w'.cell? ⟨wr.heap.size, 1, none⟩ = some (.slice A l cc) ∧ w'.cell? ⟨g, d * 2, none⟩ = some (.int .i64 (N : Int)) ∧ w'.cell? ⟨g, d * 2 + 1, none⟩ = some (.slice A2 l2 c2)) (go_keep)
            (first | (go_at_call 31; refine (HX.out _ WD1.out WD2.out).mono ?_; rintro f1 y1' ⟨A3, l3, c3, rfl, ow3, hb⟩; have HB3 := Lib.hid (HB2.out.drew.keep hb); have HRw3 := Lib.hid (HRw2.out.drew.below hb); have HG3 := Lib.hid (gk_trans (gk_drew HG2.out) (gk_below hb)); have RB3 := Lib.hid (RB2.out.drew.keep hb); have OW4 := Lib.hid ow3; have q0 := (hb.cell (p := ⟨g, d * 2, none⟩) HGl.out).trans y0; have q1 := (hb.cell (p := ⟨g, d * 2 + 1, none⟩) HGl.out).trans y1; clear ow3 hb; obtain ⟨s0, s1, -, -⟩ := RB3.out.two; obtain ⟨p0, p1, p2, -, -, -⟩ := HB3.out.three; obtain ⟨A5, l5, c5, z0, z1, -, zf0, zf1⟩ := HRw3.out.at HV.out i HI1.out; have k0 := set2_cell q0 n1 n2 (.int .i64 (N : Int)) (.slice A3 l3 c3); have k1 := set2_cell q1 n3 n4 (.int .i64 (N : Int)) (.slice A3 l3 c3)))
          clear k0 k1 q0 q1
          go_wp2_with fail
          go_roundw
          case rel =>
            have hput := RowsN.put (L := clearP L d c i) (by rw [HCL.out]; exact HRw3.out) i HI1.out (L.getD i 0 ^^^ L.getD d 0) OW4.out
            rw [← HYes.out, HCL.out] at hput
            exact ⟨i + 1, by omega, by go_num, (HB3.out.far (p := ⟨g, i * 2, none⟩) hwg _).far (p := ⟨g, i * 2 + 1, none⟩) hwg _, hput, Lib.hid (gk_trans (gk_trans HG3.out (gk_set _ g (i * 2) _)) (gk_set _ g (i * 2 + 1) _))⟩
          case measure => simp [intOf]; omega
    · obtain rfl : i = L.length := by omega
      have hlt' : ¬ (L.length : Int) < (L.length : Int) := by omega
      have hrw := HRw.out
      rw [clearP_all] at hrw
      go_wp2_with fail
      go_end0
      exact ⟨⟨_, rfl⟩, HB.out, hrw, HG.out⟩
end
section
/- A law of one's own for 'for .. := range seq' where the iterator (a function or a method's value) and the body share a state: what holds at a round's head, and what holds where the round is handed over. No program. -/
set_option linter.unusedVariables false
set_option linter.unusedSimpArgs false
open Go.RowKit
variable {F : Fence} {n : Nat} {P : Program}
/-- How a round may be left. -/
def postS {σ : Type} (I : σ → World → Prop) (s : σ) (W : World) : Exit → Act → World → Prop
  | .normal, _, W' => KeepsOthers W W' ∧ I s W'
  | .ret, _, _ => False
  | .exit _, _, _ => False
  | .goto _, _, _ => False
  | .panic _, _, _ => False
  | .outgrown, _, _ => False
theorem range_state {σ : Type} {g : Operand} {ps : Array Tmp} {assign body : Code} {Q : Exit → Act → World → Prop} {a : Act} {w : World}
    (hro : F.round = none) (h1 : 1 ≤ n) {gf : Nat} {la lb : Array Value} (hg : a.eval g = .func (.func gf) la lb) (hFg : F.fn gf) (eg : ∀ args w, (callFunc gf args).run P w = .ok (.enter gf args) w)
    {encs : σ → Array Value} (next : σ → σ) (Fin : σ → Prop) (hps : ∀ x, (encs x).size = ps.size)
    (s₀ : σ) (I M : σ → World → Prop) (hI : OwnFrom w.heap.size I) (hM : OwnFrom w.heap.size M)
    (hseq : ∀ (l : Nat) (T : World → Prop), (∀ W W', T W → KeepsOthers W W' → T W') →
      (∀ s W, M s W → T W → YieldAt F (n - 1 - 1) P l (encs s) W fun e W' => e = .returned (.bool true) ∧ I (next s) W' ∧ T W') →
      ∀ s W1, I s W1 → T W1 → s = s₀ → CallsIn F (n - 1) P gf (la ++ #[.func (.yield l) #[] #[]] ++ lb) W1 fun e W' => (∃ v, e = .returned v) ∧ ∃ s, Fin s ∧ I s W' ∧ T W')
    (h0 : I s₀ w) (a₁ : σ → Act)
    (hassign : ∀ (l : Nat) (x : σ) (W : World) (K : Act → World → Prop), K (a₁ x) W →
      assign.wpIn (F.inRound l) (n - 1 - 1) P (Exit.then K (fun _ _ _ => False)) { tmps := (ps.zip (encs x)).foldl (fun t (p, v) => t.setIfInBounds p v) a.tmps, defers := [] } W)
    (hbody : ∀ (l : Nat) (s : σ) (W : World), M s W → body.wpIn (F.inRound l) (n - 1 - 1) P (postS I (next s) W) (a₁ s) W)
    (hdone : ∀ (D : Nat) (s : σ) (W : World), w.heap.size ≤ D → Fin s → I s W → W.heap[D]? = some (.deferred (some [])) → Q .normal { a with defers := { target := .collected D, args := #[] } :: a.defers } W) :
    (Code.rangeFunc g ps assign body).wpIn F n P Q a w := by
  refine wpIn_rangeFunc ?_
  intro fn hfn
  rw [hro]
  obtain ⟨rc, hrc⟩ : ∃ rc : LoopState → Option Code → Loop, rc = fun st pe => { state := st, pending := pe, fn, tmps := a.tmps, params := ps, assign, body, defers := w.heap.size } := ⟨_, rfl⟩
  obtain ⟨W1, hW1⟩ : ∃ W1, (w.alloc (.deferred (some []))).alloc (.loop (rc .ready none)) = W1 := ⟨_, rfl⟩
  have hL1 : W1.heap[w.heap.size + 1]? = some (.loop (rc .ready none)) := by
    rw [← hW1]; have := World.alloc_heap_new (w.alloc (.deferred (some []))) (.loop (rc .ready none)); rwa [World.size_alloc] at this
  have hK1 : W1.heap[w.heap.size]? = some (.deferred (some [])) := by
    rw [← hW1]; exact (Below.heap_alloc _ _ _ (by simp)).trans (World.alloc_heap_new w _)
  have hI1 : I s₀ W1 := by rw [← hW1]; exact hI.alloc _ (hI.alloc _ h0)
  refine ⟨w.heap.size + 1, [{ target := .collected w.heap.size, args := #[] }], W1, { target := .fn (.func gf) lb, args := la ++ #[.func (.yield (w.heap.size + 1)) #[] #[]] }, W1, gf,
    la ++ #[.func (.yield (w.heap.size + 1)) #[] #[]] ++ lb, W1, ?_, ?_, ?_, ?_, fun _ => h1, ?_⟩
  · rw [← hW1, hrc]; exact run_enterLoop_outer _ _ _ _ _
  · simp only [resolve, hg]
    simp [go_sem]
  · intro f' hf'; simp [Target.leads] at hf'; subst hf'; exact hFg
  · simp [invoke, go_sem, eg]
  · refine (hseq (w.heap.size + 1)
      (fun W => W.heap[w.heap.size + 1]? = some (.loop (rc .ready none)) ∧ W.heap[w.heap.size]? = some (.deferred (some [])))
      (fun W W' hs hk => ⟨hk.same _ _ hs.1 rfl, hk.same _ _ hs.2 rfl⟩) ?_ s₀ W1 hI1 ⟨hL1, hK1⟩ rfl).mono ?_
    · rintro s W hm ⟨hl, hk⟩
      have hlt : w.heap.size + 1 < W.heap.size := (Array.getElem?_eq_some_iff.1 hl).1
      have hy := run_yield (P := P) (args := encs s) hl (by rw [hrc]; exact hps _)
      rw [hrc] at hy
      refine ⟨fn, _, assign, body, hy, roundIn_of_wpIn hfn (hassign _ s W _ ⟨_, run_beginRound hl (by rw [hrc]), ?_⟩)⟩
      have hl2 : (W.putObj (w.heap.size + 1) (.loop { rc .ready none with state := .busy })).heap[w.heap.size + 1]? = some (.loop { rc .ready none with state := .busy }) := World.putObj_heap_same hlt
      have hk2 : (W.putObj (w.heap.size + 1) (.loop { rc .ready none with state := .busy })).heap[w.heap.size]? = some (.deferred (some [])) := (World.putObj_heap_other (by omega)).trans hk
      refine wpIn_mono (hbody _ s _ (hM.putObj _ hm (by omega) hl rfl)) ?_
      rintro e a3 W3 hp
      cases e with
      | normal =>
        obtain ⟨hk3, hi3⟩ := hp
        have hl3 := hk3.same _ _ hl2 rfl
        have hr := run_endRound (P := P) none hl3
        have hl4 : (W3.putObj (w.heap.size + 1) (.loop (rc .ready none))).heap[w.heap.size + 1]? = some (.loop (rc .ready none)) := World.putObj_heap_same (Array.getElem?_eq_some_iff.1 hl3).1
        have hk4 : (W3.putObj (w.heap.size + 1) (.loop (rc .ready none))).heap[w.heap.size]? = some (.deferred (some [])) := (World.putObj_heap_other (by omega)).trans (hk3.same _ _ hk2 rfl)
        have hi4 := hI.putObj (.loop (rc .ready none)) hi3 (by omega) hl3 rfl
        rw [hrc] at hr hl4 hk4 hi4 ⊢
        exact ⟨_, _, hr, rfl, hi4, hl4, hk4⟩
      | ret => exact hp.elim
      | exit id => exact hp.elim
      | goto t => exact hp.elim
      | panic ch => exact hp.elim
      | outgrown => exact hp.elim
    · rintro e W2 ⟨⟨v, rfl⟩, s, hf, hi, hl, hk⟩
      exact ⟨none, _, by have := run_endLoop (P := P) hl (by rw [hrc]; simp); rw [hrc] at this; exact this, hdone _ s _ (Nat.le_refl _) hf (hI.putObj _ hi (by omega) hl rfl) ((World.putObj_heap_other (by omega)).trans hk)⟩
end
section
/- A law of one's own for a region that draws its order inside a fence: its first operations and calls leave the world alone but for draws, the rest come one after the other (a call that writes among them). One walk serves every order. No program. -/
set_option linter.unusedVariables false
set_option linter.unusedSimpArgs false
section
variable {F : Fence} {n : Nat} {P : Program} {ops : Array Oper} {md : Region.Mode} {C : World → Prop}
/-- Whatever order the first m operations take, f of them are still to come; L at the end. -/
def headIn (F : Fence) (n : Nat) (P : Program) (md : Region.Mode) (ops : Array Oper) (C : World → Prop) (m : Nat) (L : Array Bool → Act → Prop) : Nat → Array Bool → Act → Prop
  | 0, listed, a => L listed a
  | f + 1, listed, a => Region.ready md ops listed ≠ [] ∧ ∀ i ∈ Region.ready md ops listed, i < m ∧ qOpIn F n P ops C i (headIn F n P md ops C m L f (listed.setIfInBounds i true)) a
theorem any_of_head {m g : Nat} {L : Array Bool → Act → Prop} {Q : Exit → Act → World → Prop} (hro : F.round = none) (hL : ∀ listed a w, C w → L listed a → wpAnyIn F n P md ops Q g listed a w) :
    ∀ (f : Nat) (listed : Array Bool) (a : Act) (w : World), C w → headIn F n P md ops C m L f listed a → wpAnyIn F n P md ops Q (f + g) listed a w
  | 0, listed, a, w, hw, h => by rw [Nat.zero_add]; exact hL _ _ _ hw h
  | f + 1, listed, a, w, hw, h => by
    rw [show f + 1 + g = (f + g) + 1 by omega]
    exact ⟨fun h0 => absurd h0 h.1, fun i hi => wpOpIn_of_qOpIn hro hw (fun a' w' hw' h' => any_of_head hro hL f _ a' w' hw' h') (h.2 i hi).2⟩
theorem head_first {m i : Nat} {oi : Oper} {v : Value} {L : Array Bool → Act → Prop} (hi : ops[i]? = some oi) (hsel : ∀ (j : Nat) (o : Oper) cs b, ops[j]? = some o → o.op ≠ .select cs b)
    (hs : Region.sinkB md ops m = true) (hc : Region.chainB md ops m = true) (hm : m < ops.size) (him : i < m) (hdone : ∀ listed a, L listed a → ∀ j ∈ Region.ready md ops listed, m ≤ j) :
    ∀ (f : Nat) (listed : Array Bool) (a : Act), HeadInv md ops m listed →
      (∀ j oj, ops[j]? = some oj → j ≠ i → listed.getD j true = false → (∀ e ∈ oj.after, Region.binds md e = true → e.on ≠ i) → oi.apart ops oj = true) →
      i ∈ Region.ready md ops listed → YieldsQuiet F n P ops C oi v a →
      headIn F n P md ops C m L f (listed.setIfInBounds i true) (a.put oi.dst v) → headIn F n P md ops C m L (f + 1) listed a := by
  intro f
  induction f with
  | zero =>
    intro listed a inv _ hr hy H
    have hun := (mem_ready.1 hr).1
    refine ⟨fun h => (by rw [h] at hr; cases hr), fun j hj => ?_⟩
    have hjm : j < m := by
      rcases Nat.lt_or_ge j m with h | h
      · exact h
      · exact absurd hj (tail_waits hs hc hm inv _ i rfl him hun j h)
    refine ⟨hjm, ?_⟩
    by_cases hji : j = i
    · subst hji; exact hy.qOpIn hi H
    · have := hdone _ _ H j (ready_mono hj hji)
      omega
  | succ f ih =>
    intro listed a inv hfree hr hy H
    have hun := (mem_ready.1 hr).1
    refine ⟨fun h => (by rw [h] at hr; cases hr), fun j hj => ?_⟩
    have hjm : j < m := by
      rcases Nat.lt_or_ge j m with h | h
      · exact h
      · exact absurd hj (tail_waits hs hc hm inv _ i rfl him hun j h)
    refine ⟨hjm, ?_⟩
    by_cases hji : j = i
    · subst hji; exact hy.qOpIn hi H
    · have h1 := (H.2 j (ready_mono hj hji)).2
      obtain ⟨hjun, oj, hoj, hall⟩ := mem_ready.1 hj
      have hnot : ∀ e ∈ oj.after, Region.binds md e = true → e.on ≠ i := fun e he hb heq => by
        have h1 := hall e he hb
        rw [heq, getD_both hun] at h1
        cases h1
      have h2 := qOpIn_put hoj (hfree j oj hoj hji hjun hnot) (fun cs b => hsel i oi cs b hi) (fun cs b => hsel j oj cs b hoj) hy h1
      have hfree' : ∀ k ok, ops[k]? = some ok → k ≠ i → (listed.setIfInBounds j true).getD k true = false →
          (∀ e ∈ ok.after, Region.binds md e = true → e.on ≠ i) → oi.apart ops ok = true := fun k ok hk hki hun hno => by
        refine hfree k ok hk hki ?_ hno
        by_cases hjk : j = k
        · subst hjk; exact hjun
        · rw [getD_set_ne true hjk] at hun; exact hun
      refine qOpIn_mono (fun a' h3 => ih (listed.setIfInBounds j true) a' (inv.set hj hjm) hfree' (ready_mono hr (Ne.symm hji)) h3.1 ?_) h2
      rw [Array.setIfInBounds_comm _ _ hji]
      exact h3.2
theorem any_of_list {Q : Exit → Act → World → Prop} : ∀ (l : List Oper) (k : Nat) (listed : Array Bool) (a : Act) (w : World), (∀ j, l[j]? = ops[k + j]?) →
    Region.seqB md ops l.length k listed = true → wpListIn F n P ops Q l a w → wpAnyIn F n P md ops Q l.length listed a w
  | [], _, _, _, _, _, hB, h => ⟨by simpa [Region.seqB] using hB, h⟩
  | o :: l, k, listed, a, w, hl, hB, h => by
    have h0 : ops[k]? = some o := by simpa using (hl 0).symm
    simp only [List.length_cons, Region.seqB, Bool.and_eq_true, decide_eq_true_eq] at hB
    refine ⟨fun h1 => (by rw [hB.1] at h1; cases h1), fun i hi => ?_⟩
    rw [hB.1] at hi
    have hik : i = k := by simpa using hi
    subst hik
    have hw : wpOpIn F n P ops Q i (wpListIn F n P ops Q l) a w := by unfold wpOpIn; simp only [h0]; exact h
    exact wpOpIn_mono (fun a' w' h' => any_of_list l (i + 1) _ a' w' (fun j => by have := hl (j + 1); simpa [Nat.add_assoc, Nat.add_comm 1 j] using this) hB.2 h') hw
theorem head_lex {m g : Nat} {Lq : Act → Prop} (hsel : Region.noSelect ops = true) (hs : Region.sinkB md ops m = true) (hc : Region.chainB md ops m = true) (hm : m < ops.size) :
    ∀ (l : List Oper) (k : Nat) (listed : Array Bool) (a : Act), (∀ j, j < l.length → l[j]? = ops[k + j]?) → k + l.length = m → HeadInv md ops m listed →
    Region.lexHead md ops g l.length k listed = true → wpQuietIn F n P ops C Lq l a →
    headIn F n P md ops C m (fun listed' a' => Region.seqB md ops g m listed' = true ∧ Lq a') l.length listed a
  | [], k, listed, a, _, hk, _, hB, h => by
    have : k = m := by simpa using hk
    subst this
    exact ⟨by simpa [Region.lexHead] using hB, h⟩
  | o :: l, k, listed, a, hl, hk, inv, hB, h => by
    have h0 : ops[k]? = some o := by simpa using (hl 0 (by simp)).symm
    simp only [List.length_cons, Region.lexHead, Bool.and_eq_true] at hB
    obtain ⟨⟨hr, hf⟩, hB'⟩ := hB
    have hkm : k < m := by simp only [List.length_cons] at hk; omega
    have hr' : k ∈ Region.ready md ops listed := by simpa using hr
    have hst : qOpIn F n P ops C k (wpQuietIn F n P ops C Lq l) a := by unfold qOpIn; simp only [h0]; exact h
    obtain ⟨v, hy, hK⟩ := yieldsQuiet_of_qOpIn h0 hst
    exact head_first h0 (Region.noSelect_spec hsel) hs hc hm hkm (fun listed' a' hL => seqB_ready hL.1) l.length listed a inv (Region.free_spec h0 hf) hr' hy
      (head_lex hsel hs hc hm l (k + 1) _ _ (fun j hj => by have := hl (j + 1) (by simp; omega); simpa [Nat.add_assoc, Nat.add_comm 1 j] using this) (by simp only [List.length_cons] at hk; omega) (inv.set hr' hkm) hB' hK)
/-- ONE WALK: the first m operations quietly, whatever world some draws leave; the rest in their order. -/
theorem wpIn_quiet_tail {id : Nat} {Q : Exit → Act → World → Prop} {a : Act} {w : World} {l : List Oper} (m : Nat) (hro : F.round = none) (hmx : P.follows .mixedOrders = true) (hB : Region.lexTailB .any l.toArray m = true)
    (h : wpQuietIn F n P l.toArray (fun w' => ∃ d, w' = w.drewN d) (fun a' => ∀ w', (∃ d, w' = w.drewN d) → wpListIn F n P l.toArray Q (l.drop m) a' w') (l.take m) a) : (Code.region id l.toArray true).wpIn F n P Q a w := by
  simp only [Region.lexTailB, Bool.and_eq_true, decide_eq_true_eq] at hB
  obtain ⟨⟨⟨⟨hsel, hm⟩, hs⟩, hc⟩, hlex⟩ := hB
  have hm' : m < l.length := by simpa using hm
  have htl : (l.take m).length = m := by simp; omega
  have hdl : (l.drop m).length = l.toArray.size - m := by simp
  have inv0 : HeadInv .any l.toArray m (Array.replicate l.toArray.size false) :=
    ⟨by simp, fun j oj _ hl => (by rw [getD_replicate_false] at hl; cases hl), fun t _ ht => getD_in (by simpa using ht) (getD_replicate_false _ _)⟩
  have H := head_lex (F := F) (n := n) (C := fun w' => ∃ d, w' = w.drewN d) (md := .any) (g := l.toArray.size - m) hsel hs hc hm (l.take m) 0 _ a (fun j hj => by
    have hj' : j < m := by rw [htl] at hj; exact hj
    simp [hj']) (by simpa using htl) inv0 (by rw [htl]; exact hlex) h
  refine wpIn_region_any hmx ?_
  have := any_of_head (Q := Q) (g := l.toArray.size - m) hro (fun listed a' w' hw' hL => by
    have := any_of_list (F := F) (n := n) (md := .any) (Q := Q) (l.drop m) m listed a' w' (fun j => by simp [List.getElem?_drop]) (by rw [hdl]; exact hL.1) (hL.2 w' hw')
    rwa [hdl] at this) _ _ _ { w with drawn := w.drawn + 1 } ⟨1, rfl⟩ H
  rw [htl, show m + (l.toArray.size - m) = l.toArray.size by omega] at this
  exact this
end
end
section
/- As QTail, where one operation of the head (a plain move, say) is waited for by none of the first ones of the tail: it is taken at first. No program. -/
set_option linter.unusedVariables false
set_option linter.unusedSimpArgs false
section
variable {F : Fence} {n : Nat} {P : Program} {ops : Array Oper} {md : Region.Mode} {C : World → Prop}
/-- Every operation of the head but s is waited for, by way of others of the head, by operation m. -/
def sinkS (md : Region.Mode) (ops : Array Oper) (s m : Nat) : Bool := (List.range m).all fun i => decide (i = s) || (List.range (m + 1)).any fun j => decide (i < j) && Region.waitsFor md ops j i
theorem waitsS {s m : Nat} {listed : Array Bool} (hs : sinkS md ops s m = true) (hc : Region.chainB md ops m = true) (hm : m < ops.size) (inv : HeadInv md ops m listed) (hl : listed.getD s false = true) :
    ∀ (d i : Nat), m - i = d → i < m → listed.getD i true = false → ∀ t, m ≤ t → t ∉ Region.ready md ops listed := by
  intro d
  induction d using Nat.strongRecOn with
  | _ d ih =>
    intro i hd hi hun t ht hr
    obtain ⟨_, ot, hot, hall⟩ := mem_ready.1 hr
    have htlt : t < ops.size := (Array.getElem?_eq_some_iff.1 hot).1
    rcases Nat.lt_or_ge m t with hgt | hle
    · have hch := List.all_eq_true.1 hc t (List.mem_range.2 htlt)
      simp only [Bool.or_eq_true, decide_eq_true_eq] at hch
      rcases hch with h0 | h0
      · omega
      · obtain ⟨o', ho', e, he, hb, hon⟩ := Region.waitsFor_spec h0
        obtain rfl : o' = ot := Option.some.inj (ho'.symm.trans hot)
        have := hall e he hb
        rw [hon, getD_both (inv.tail (t - 1) (by omega) (by omega))] at this
        cases this
    · obtain rfl : t = m := by omega
      have hsi := List.all_eq_true.1 hs i (List.mem_range.2 hi)
      simp only [Bool.or_eq_true, decide_eq_true_eq] at hsi
      rcases hsi with rfl | hsi
      · rw [getD_both hun] at hl; cases hl
      · obtain ⟨j, hj, hj2⟩ := List.any_eq_true.1 hsi
        simp only [Bool.and_eq_true, decide_eq_true_eq] at hj2
        obtain ⟨oj, hoj, e, he, hb, hon⟩ := Region.waitsFor_spec hj2.2
        have hjt := List.mem_range.1 hj
        by_cases hjm : j = t
        · subst hjm
          obtain rfl : oj = ot := Option.some.inj (hoj.symm.trans hot)
          have := hall e he hb
          rw [hon, getD_both hun] at this
          cases this
        · cases hlj : listed.getD j false with
          | true =>
            have := inv.closed j oj hoj hlj e he hb
            rw [hon, getD_both hun] at this
            cases this
          | false => exact ih (t - j) (by omega) j rfl (by omega) (getD_in (by rw [inv.size]; omega) hlj) t (Nat.le_refl _) hr
theorem head_firstS {s m i : Nat} {oi : Oper} {v : Value} {L : Array Bool → Act → Prop} (hi : ops[i]? = some oi) (hsel : ∀ (j : Nat) (o : Oper) cs b, ops[j]? = some o → o.op ≠ .select cs b)
    (hs : sinkS md ops s m = true) (hc : Region.chainB md ops m = true) (hm : m < ops.size) (him : i < m) (hdone : ∀ listed a, L listed a → ∀ j ∈ Region.ready md ops listed, m ≤ j) :
    ∀ (f : Nat) (listed : Array Bool) (a : Act), HeadInv md ops m listed → listed.getD s false = true →
      (∀ j oj, ops[j]? = some oj → j ≠ i → listed.getD j true = false → (∀ e ∈ oj.after, Region.binds md e = true → e.on ≠ i) → oi.apart ops oj = true) →
      i ∈ Region.ready md ops listed → YieldsQuiet F n P ops C oi v a →
      headIn F n P md ops C m L f (listed.setIfInBounds i true) (a.put oi.dst v) → headIn F n P md ops C m L (f + 1) listed a := by
  intro f
  induction f with
  | zero =>
    intro listed a inv hls _ hr hy H
    have hun := (mem_ready.1 hr).1
    refine ⟨fun h => (by rw [h] at hr; cases hr), fun j hj => ?_⟩
    have hjm : j < m := by
      rcases Nat.lt_or_ge j m with h | h
      · exact h
      · exact absurd hj (waitsS hs hc hm inv hls _ i rfl him hun j h)
    refine ⟨hjm, ?_⟩
    by_cases hji : j = i
    · subst hji; exact hy.qOpIn hi H
    · have := hdone _ _ H j (ready_mono hj hji)
      omega
  | succ f ih =>
    intro listed a inv hls hfree hr hy H
    have hun := (mem_ready.1 hr).1
    refine ⟨fun h => (by rw [h] at hr; cases hr), fun j hj => ?_⟩
    have hjm : j < m := by
      rcases Nat.lt_or_ge j m with h | h
      · exact h
      · exact absurd hj (waitsS hs hc hm inv hls _ i rfl him hun j h)
    refine ⟨hjm, ?_⟩
    by_cases hji : j = i
    · subst hji; exact hy.qOpIn hi H
    · have h1 := (H.2 j (ready_mono hj hji)).2
      obtain ⟨hjun, oj, hoj, hall⟩ := mem_ready.1 hj
      have hnot : ∀ e ∈ oj.after, Region.binds md e = true → e.on ≠ i := fun e he hb heq => by
        have h1 := hall e he hb
        rw [heq, getD_both hun] at h1
        cases h1
      have h2 := qOpIn_put hoj (hfree j oj hoj hji hjun hnot) (fun cs b => hsel i oi cs b hi) (fun cs b => hsel j oj cs b hoj) hy h1
      have hfree' : ∀ k ok, ops[k]? = some ok → k ≠ i → (listed.setIfInBounds j true).getD k true = false →
          (∀ e ∈ ok.after, Region.binds md e = true → e.on ≠ i) → oi.apart ops ok = true := fun k ok hk hki hun hno => by
        refine hfree k ok hk hki ?_ hno
        by_cases hjk : j = k
        · subst hjk; exact hjun
        · rw [getD_set_ne true hjk] at hun; exact hun
      refine qOpIn_mono (fun a' h3 => ih (listed.setIfInBounds j true) a' (inv.set hj hjm) (getD_set_true hls) hfree' (ready_mono hr (Ne.symm hji)) h3.1 ?_) h2
      rw [Array.setIfInBounds_comm _ _ hji]
      exact h3.2
/-- The head's operations, in an order of one's own, each ready and free in its turn; behind them the tail in its order. -/
def lexS (md : Region.Mode) (ops : Array Oper) (g m : Nat) : List Nat → Array Bool → Bool
  | [], listed => Region.seqB md ops g m listed
  | k :: ks, listed => (Region.ready md ops listed).contains k && Region.free md ops listed k && decide (k < m) && lexS md ops g m ks (listed.setIfInBounds k true)
theorem head_lexS {s m g : Nat} {Lq : Act → Prop} (hsel : Region.noSelect ops = true) (hs : sinkS md ops s m = true) (hc : Region.chainB md ops m = true) (hm : m < ops.size) :
    ∀ (ks : List Nat) (os : List Oper) (listed : Array Bool) (a : Act), ks.map (fun k => ops[k]?) = os.map some → HeadInv md ops m listed → listed.getD s false = true →
    lexS md ops g m ks listed = true → wpQuietIn F n P ops C Lq os a →
    headIn F n P md ops C m (fun listed' a' => Region.seqB md ops g m listed' = true ∧ Lq a') ks.length listed a
  | [], [], _, _, _, _, _, hB, h => ⟨hB, h⟩
  | [], _ :: _, _, _, he, _, _, _, _ => by cases he
  | _ :: _, [], _, _, he, _, _, _, _ => by cases he
  | k :: ks, o :: os, listed, a, he, inv, hls, hB, h => by
    rw [List.map_cons, List.map_cons] at he
    injection he with h0 he
    simp only [lexS, Bool.and_eq_true, decide_eq_true_eq] at hB
    obtain ⟨⟨⟨hr, hf⟩, hkm⟩, hB'⟩ := hB
    have hr' : k ∈ Region.ready md ops listed := by simpa using hr
    have hst : qOpIn F n P ops C k (wpQuietIn F n P ops C Lq os) a := by unfold qOpIn; simp only [h0]; exact h
    obtain ⟨v, hy, hK⟩ := yieldsQuiet_of_qOpIn h0 hst
    exact head_firstS h0 (Region.noSelect_spec hsel) hs hc hm hkm (fun listed' a' hL => seqB_ready hL.1) ks.length listed a inv hls (Region.free_spec h0 hf) hr' hy
      (head_lexS hsel hs hc hm ks os _ _ he (inv.set hr' hkm) (getD_set_true hls) hB' hK)
/-- Operation s at first; then the rest of the first m, in an order of one's own, quietly; the rest in their order. -/
theorem wpIn_quiet_tailS {id : Nat} {Q : Exit → Act → World → Prop} {a : Act} {w : World} {l : List Oper} (s m : Nat) (ks : List Nat) (os : List Oper) (o : Oper) (v : Value) (hro : F.round = none) (hmx : P.follows .mixedOrders = true)
    (ho : l.toArray[s]? = some o) (hks : ks.map (fun k => l.toArray[k]?) = os.map some)
    (hB : (Region.noSelect l.toArray && decide (m < l.toArray.size) && sinkS .any l.toArray s m && Region.chainB .any l.toArray m && Region.free .any l.toArray (Array.replicate l.toArray.size false) s && (Region.ready .any l.toArray (Array.replicate l.toArray.size false)).contains s && decide (s < m) && decide (ks.length + 1 = m) && lexS .any l.toArray (l.toArray.size - m) m ks ((Array.replicate l.toArray.size false).setIfInBounds s true)) = true)
    (hQ : ∀ c a w, Q (.panic c) (a.put o.dst v) w → Q (.panic c) a w) (hy : YieldsFenced P l.toArray o v a)
    (h : wpQuietIn F n P l.toArray (fun w' => ∃ d, w' = w.drewN d) (fun a' => ∀ w', (∃ d, w' = w.drewN d) → wpListIn F n P l.toArray Q (l.drop m) a' w') os (a.put o.dst v)) : (Code.region id l.toArray true).wpIn F n P Q a w := by
  simp only [Bool.and_eq_true, decide_eq_true_eq] at hB
  obtain ⟨⟨⟨⟨⟨⟨⟨⟨hsel, hm⟩, hs⟩, hc⟩, hf⟩, hr⟩, hsm⟩, hlen⟩, hlex⟩ := hB
  have hdl : (l.drop m).length = l.toArray.size - m := by simp
  have hr' : s ∈ Region.ready .any l.toArray (Array.replicate l.toArray.size false) := by simpa using hr
  have inv0 : HeadInv .any l.toArray m (Array.replicate l.toArray.size false) :=
    ⟨by simp, fun j oj _ hl => (by rw [getD_replicate_false] at hl; cases hl), fun t _ ht => getD_in (by simpa using ht) (getD_replicate_false _ _)⟩
  have hls : ((Array.replicate l.toArray.size false).setIfInBounds s true).getD s false = true := by
    have : s < l.toArray.size := by omega
    simp only [Array.getD_eq_getD_getElem?, Array.getElem?_setIfInBounds, Array.size_replicate]
    have this' : s < l.length := by simpa using this
    simp [this']
  have H := head_lexS (F := F) (n := n) (P := P) (C := fun w' => ∃ d, w' = w.drewN d) (md := .any) (g := l.toArray.size - m) hsel hs hc hm ks os _ _ hks (inv0.set hr' hsm) hls hlex h
  refine wpIn_region_any hmx ?_
  have := any_of_head (Q := Q) (g := l.toArray.size - m) hro (fun listed a' w' hw' hL => by
    have := any_of_list (F := F) (n := n) (md := .any) (Q := Q) (l.drop m) m listed a' w' (fun j => by simp [List.getElem?_drop]) (by rw [hdl]; exact hL.1) (hL.2 w' hw')
    rwa [hdl] at this) _ _ _ { w with drawn := w.drawn + 1 } ⟨1, rfl⟩ H
  have h2 := wpAnyIn_take hro ho hsel hf hr hQ hy this
  rw [show ks.length + (l.toArray.size - m) + 1 = l.toArray.size by omega] at h2
  exact h2
theorem wpIn_quiet_skip {id : Nat} {Q : Exit → Act → World → Prop} {a : Act} {w : World} {l : List Oper} {o : Oper} {v : Value} (s m : Nat) (hro : F.round = none) (hmx : P.follows .mixedOrders = true)
    (ho : l.toArray[s]? = some o) (hks : (List.range s ++ (List.range (m - s - 1)).map (· + (s + 1))).map (fun k => l.toArray[k]?) = (l.take s ++ (l.drop (s + 1)).take (m - s - 1)).map some)
    (hB : (Region.noSelect l.toArray && decide (m < l.toArray.size) && sinkS .any l.toArray s m && Region.chainB .any l.toArray m && Region.free .any l.toArray (Array.replicate l.toArray.size false) s && (Region.ready .any l.toArray (Array.replicate l.toArray.size false)).contains s && decide (s < m) && decide ((List.range s ++ (List.range (m - s - 1)).map (· + (s + 1))).length + 1 = m) && lexS .any l.toArray (l.toArray.size - m) m (List.range s ++ (List.range (m - s - 1)).map (· + (s + 1))) ((Array.replicate l.toArray.size false).setIfInBounds s true)) = true)
    (hQ : ∀ c a w, Q (.panic c) (a.put o.dst v) w → Q (.panic c) a w) (hy : YieldsFenced P l.toArray o v a)
    (h : wpQuietIn F n P l.toArray (fun w' => ∃ d, w' = w.drewN d) (fun a' => ∀ w', (∃ d, w' = w.drewN d) → wpListIn F n P l.toArray Q (l.drop m) a' w') (l.take s ++ (l.drop (s + 1)).take (m - s - 1)) (a.put o.dst v)) : (Code.region id l.toArray true).wpIn F n P Q a w :=
  wpIn_quiet_tailS s m _ _ o v hro hmx ho hks hB hQ hy h
end
end
end Go.Proofs.YtdfmogcgangdnaaDoor
