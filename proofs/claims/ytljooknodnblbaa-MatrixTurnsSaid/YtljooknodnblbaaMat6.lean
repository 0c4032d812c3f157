/- Contracts of layer 3: column, Turn. -/
import Derived.Test.YtljooknodnblbaaMat5
import Derived.Test.YtljooknodnblbaaGetr
namespace Go.Proofs.Ytljooknodnblbaa
set_option linter.unusedVariables false
set_option linter.unusedSimpArgs false
open Go.RowKit
theorem int_infoM : (Try.prog.info? 3).map (fun i => (i.zero, i.size, i.bytes)) = some (some (.int .i64 0), 1, 8) := by kernel_rfl
set_option maxHeartbeats 2000000 in
theorem column_any (N : Nat) (A : Option Addr) (l c lo : Nat) (ms : List (Int × List Nat)) (q : Nat) (w : World) (hm : MatAt w lo A l ms) (hr : rightM N ms = true) (hq : q < N) :
    Calls Try.prog 15 #[.agg #[.int .i64 N, .slice A l c], .int .i64 q] w (OneOwn l (ofBits l (castP (colP ms q l))) w) := by
  obtain ⟨i0, hi, hz0, hz1, hz2⟩ := info_parts int_infoM
  have HI := Lib.hid hi
  have HZ0 := Lib.hid hz0
  have HZ1 := Lib.hid hz1
  have HZ2 := Lib.hid hz2
  clear hi hz0 hz1 hz2
  have hl := (rightM_bd hr).2.2
  rw [hm.1] at hl
  have HR := Lib.hid hr
  have HM := Lib.hid hm
  have HL := Lib.hid hm.1
  have Q0 := Lib.hid ((Box.new w 40 #[.int .i64 N, .slice A l c]).alloc (.cells #[.int .i64 0, .slice none 0 0] 37))
  have q1 := Box.new (w.alloc (.cells #[.int .i64 N, .slice A l c] 40)) 37 #[.int .i64 0, .slice none 0 0]
  have HW := Lib.hid (show Below w.heap.size w ((w.alloc (.cells #[.int .i64 N, .slice A l c] 40)).alloc (.cells #[.int .i64 0, .slice none 0 0] 37)) from ((Below.refl _ _).alloc (Nat.le_refl _) _).alloc (by simp) _)
  simp only [World.size_alloc] at q1
  have Q1 := Lib.hid q1
  have n1 := Lib.hid (show (3 : TypeId) ≠ 40 by decide)
  have n2 := Lib.hid (show (3 : TypeId) ≠ 37 by decide)
  clear hm hr q1
  obtain ⟨r0, r1, -, -⟩ := Q0.out.two
  go_enter Try.func15, Try.ntmps15
  go_wp2_with fail
  clear r0 r1
  go_loopw [5, 15] (fun v t wr => ∃ k : Nat, k ≤ l ∧ t = .int .i64 k ∧ wr.ownsRow w.heap.size 3 1 v (colP ms q k).length ((castP (colP ms q k)).map (Value.int .i64)) ∧ Box wr w.heap.size 40 #[.int .i64 N, .slice A l c] ∧ Box wr (w.heap.size + 1) 37 #[.int .i64 0, .slice none 0 0] ∧ Below w.heap.size w wr) (fun _ t _ => l - (intOf t).toNat)
  case atStart => exact ⟨0, by omega, rfl, World.ownsRow_nil _ _ _ _, Q0.out, Q1.out, HW.out⟩
  case round =>
    obtain ⟨k, hk, rfl, hown, hb0, hb1, hbel⟩ := hrel
    have HO := Lib.hid hown
    have R0 := Lib.hid hb0
    have R1 := Lib.hid hb1
    have HB := Lib.hid hbel
    have hpl := colP_len ms q k
    clear hown hb0 hb1 hbel Q0 Q1 HW
    by_cases hlt : k < l
    · have hlt' : (k : Int) < (l : Int) := by omega
      have h1 := (HM.out.mono (Nat.le_refl _) HB.out)
      obtain ⟨g1, o1, B1, k1, e1, rfl, hg1, x1, y1, s1, u1⟩ := h1.at k hlt
      obtain ⟨hn, hrr⟩ := rightM_at HR.out k (by rw [HL.out]; exact hlt)
      have HS := Lib.hid (colP_succ ms q k)
      have HMB := Lib.hid (show mbit ms k q = bitAt (ms.getD k (0, [])).2 q from rfl)
      rw [hn] at x1
      clear hn h1 s1
      generalize (ms.getD k (0, [])).2 = us at *
      have X0 := Lib.hid (R0.out.alloc (.cells #[.int .i64 N, .slice B1 k1 e1] 37))
      have X1 := Lib.hid (R1.out.alloc (.cells #[.int .i64 N, .slice B1 k1 e1] 37))
      have XO := Lib.hid (HO.out.alloc (.cells #[.int .i64 N, .slice B1 k1 e1] 37))
      have XB := Lib.hid (HB.out.alloc HB.out.size (.cells #[.int .i64 N, .slice B1 k1 e1] 37))
      have HG := Lib.hid (get_yes N q B1 k1 e1 us _ hrr hq (u1.alloc (.cells #[.int .i64 N, .slice B1 k1 e1] 37)))
      have P := Box.new wr 37 #[.int .i64 N, .slice B1 k1 e1]
      obtain ⟨p0, p1, -, -⟩ := P.two
      clear P u1 hrr
      go_wp2_with fail
      refine HG.out.mono ?_
      rintro e x1 ⟨rfl, hb⟩
      have X0 := Lib.hid (X0.out.keep hb)
      have X1 := Lib.hid (X1.out.keep hb)
      have XO := Lib.hid (own_keep XO.out hb)
      have XB := Lib.hid (chainN XB.out XB.out.size hb)
      clear hb p0 p1 HG
      have hi' := HI.out
      have hz0' := HZ0.out
      have hz1' := HZ1.out
      have hz2' := HZ2.out
      rcases bitAt_le us q with hbit | hbit
      · have HS := Lib.hid (show colP ms q (k + 1) = colP ms q k by rw [HS.out, HMB.out, hbit]; simp)
        rw [hbit]
        clear hbit
        go_wp2_with fail
        go_roundw
        case rel => exact ⟨k + 1, by omega, by go_num, by rw [HS.out]; exact XO.out, X0.out, X1.out, XB.out⟩
        case measure => simp [intOf] <;> omega
      · have HS := Lib.hid (show colP ms q (k + 1) = colP ms q k ++ [k] by rw [HS.out, HMB.out, hbit]; simp)
        rw [hbit]
        clear hbit
        have Y0 := Lib.hid (X0.out.alloc (.cells #[.int .i64 k] 3))
        have Y1 := Lib.hid (X1.out.alloc (.cells #[.int .i64 k] 3))
        have YO := Lib.hid (XO.out.alloc (.cells #[.int .i64 k] 3))
        have YB := Lib.hid (XB.out.alloc XB.out.size (.cells #[.int .i64 k] 3))
        have N0 := Lib.hid (own_ne YO.out Y0.out n1.out)
        have N1 := Lib.hid (own_ne YO.out Y1.out n2.out)
        have N2 := Lib.hid (fun k hk => (XO.out.lt k hk).1)
        go_wp2_with (at_builtin; refine wpList_append_own _ rfl _ _ 47 rfl w.heap.size 3 i0 (.int .i64 0) 1 8 Try.underlying47 hi' hz0' hz1' hz2' rfl (by decide) _ _ _ rfl YO.out ⟨x1.heap.size, 0, none⟩ 1 1 [.int .i64 k] rfl rfl (cell_one_new _ _ _) (by simp [Value.oneCell']) (by simp [maxLen]; omega) (by omega) YB.out.size ?_; intro v' w1 hown' hgrow _; have Z0 := Lib.hid (Y0.out.grown hgrow N0.out); have Z1 := Lib.hid (Y1.out.grown hgrow N1.out); have ZB := Lib.hid (YB.out.grown hgrow YB.out.size N2.out); have HO2 := Lib.hid hown'; clear hown' hgrow)
        go_roundw
        case rel =>
          refine ⟨k + 1, by omega, by go_num, ?_, Z0.out, Z1.out, ZB.out⟩
          rw [HS.out, List.length_append, show castP (colP ms q k ++ [k]) = castP (colP ms q k) ++ [(k : Int)] by simp [castP], List.map_append]
          exact HO2.out
        case measure => simp [intOf] <;> omega
    · obtain rfl : k = l := by omega
      have hlt' : ¬ (k : Int) < (k : Int) := by omega
      obtain ⟨A', c', rfl, hA'⟩ := own_form HO.out
      obtain ⟨r0, r1, -, -⟩ := R0.out.two
      have HL2 := Lib.hid ((lmb_iff k).2 ⟨by omega, by omega⟩)
      have HP := Lib.hid (own_ints HO.out (castP_bound (k := k) (fun p hp => colP_lt hp) (by omega)))
      go_wp2_with fail
      refine (of_own k A' _ c' (castP (colP ms q k)) HL2.out _ HP.out (by omega) (colP_there ms q k)).mono ?_
      rintro e w2 ⟨A2, l2, c2, rfl, hw, hb⟩
      have P0 := Lib.hid ((R1.out.keep hb).alloc (.cells #[.int .i64 k, .slice A2 l2 c2] 37))
      have P1 := Lib.hid (Box.new w2 37 #[.int .i64 k, .slice A2 l2 c2])
      have T1 := Lib.hid ((chainN HB.out HB.out.size hb).alloc (chainN HB.out HB.out.size hb).size (.cells #[.int .i64 k, .slice A2 l2 c2] 37))
      have HWo := Lib.hid (hw.alloc (.cells #[.int .i64 k, .slice A2 l2 c2] 37))
      clear hw hb r0 r1
      obtain ⟨r0, r1, r2, r3⟩ := P0.out.two
      obtain ⟨s0, s1, -, -⟩ := P1.out.two
      go_wp2
      refine close_one Try.results15 rfl rfl P0.out.put2 Try.underlying37 rfl (by kernel_rfl) ⟨_, _, _, rfl, HWo.out.put2 P0.out _ _, ?_⟩
      exact (T1.out.setCell (p := ⟨w.heap.size + 1, 0, none⟩) (by simp) _).setCell (p := ⟨w.heap.size + 1, 1, none⟩) (by simp) _
theorem turnM_len (n : Nat) (ms : List (Int × List Nat)) : (turnM n ms).length = n := by simp [turnM]
theorem colW_lt (ms : List (Int × List Nat)) (i j : Nat) : (colW ms i).getD j 0 < 18446744073709551616 := ofBits_lt _ _ j
def turnN (N : Int) (ms : List (Int × List Nat)) : Int := if rightM N ms then ms.length else 0
def turnL (N : Int) (ms : List (Int × List Nat)) : List (Int × List Nat) := if rightM N ms then turnM N.toNat ms else []
def turnE (N : Int) (ms : List (Int × List Nat)) : Int := if rightM N ms then 0 else 1
set_option maxHeartbeats 2000000 in
theorem turn_any (N : Int) (A : Option Addr) (l c lo : Nat) (ms : List (Int × List Nat)) (w : World) (hm : MatAt w lo A l ms) (hl : l ≤ maxLen) :
    Calls Try.prog 5 #[.agg #[.int .i64 N, .slice A l c]] w (MatRes (turnN N ms) (turnL N ms) (turnE N ms) w) := by
  have Q0 := Lib.hid ((Box.new w 24 #[.int .i64 N, .slice A l c]).alloc (.cells #[.int .i64 0, .slice none 0 0] 24))
  have q1 := Box.new (w.alloc (.cells #[.int .i64 N, .slice A l c] 24)) 24 #[.int .i64 0, .slice none 0 0]
  have HW := Lib.hid (show Below w.heap.size w ((w.alloc (.cells #[.int .i64 N, .slice A l c] 24)).alloc (.cells #[.int .i64 0, .slice none 0 0] 24)) from ((Below.refl _ _).alloc (Nat.le_refl _) _).alloc (by simp) _)
  simp only [World.size_alloc] at q1
  have Q1 := Lib.hid q1
  have HM := Lib.hid (hm.below HW.out)
  have HL := Lib.hid hm.1
  have HR := Lib.hid (mright_any N A l c lo ms _ HM.out hl)
  clear q1 hm
  obtain ⟨r0, r1, -, -⟩ := Q0.out.two
  obtain ⟨s0, s1, s2, s3⟩ := Q1.out.two
  cases h : rightM N ms with
  | false =>
    have e1 : turnN N ms = 0 := by simp [turnN, h]
    have e2 : turnL N ms = [] := by simp [turnL, h]
    have e3 : turnE N ms = 1 := by simp [turnE, h]
    rw [e1, e2, e3]
    rw [h] at HR
    clear e1 e2 e3 h
    go_enter Try.func5, Try.ntmps5
    go_wp2_with fail
    refine HR.out.mono ?_
    rintro e w1 ⟨rfl, hb⟩
    have P := Lib.hid (Q1.out.keep hb)
    have B := Lib.hid (chain HW.out hb)
    clear hb s0 s1 s2 s3 r0 r1
    obtain ⟨s0, s1, s2, s3⟩ := P.out.two
    go_wp2
    refine close_cell Try.results5 rfl rfl rfl P.out.put2 Try.underlying24 rfl (by kernel_rfl) ⟨_, _, rfl, MatAt.nil _ _ _, ?_⟩
    exact (B.out.setCell (p := ⟨w.heap.size + 1, 0, none⟩) (by simp) _).setCell (p := ⟨w.heap.size + 1, 1, none⟩) (by simp) _
  | true =>
    obtain ⟨n, rfl⟩ := Int.eq_ofNat_of_zero_le (rightM_bd h).1
    have hbd := rightM_bd h
    have hl64 : l ≤ 64 := by have := HL.out; omega
    have e1 : turnN n ms = l := by simp [turnN, h, HL.out]
    have e2 : turnL n ms = turnM n ms := by simp [turnL, h]
    have e3 : turnE n ms = 0 := by simp [turnE, h]
    rw [e1, e2, e3]
    have HRT := Lib.hid h
    have HTL := Lib.hid (turnM_len n ms)
    rw [h] at HR
    clear e1 e2 e3 h
    go_enter Try.func5, Try.ntmps5
    go_wp2_with fail
    refine HR.out.mono ?_
    rintro e w1 ⟨rfl, hb⟩
    have P := Lib.hid (Q1.out.keep hb)
    have P0 := Lib.hid (Q0.out.keep hb)
    have B := Lib.hid (chain HW.out hb)
    have HM1 := Lib.hid (HM.out.below hb)
    have HBY := Lib.hid (rowsBy_any 15 #[.agg #[.int .i64 n, .slice A l c]] #[] n l (colW ms) w1.drew (enters_of Try.func15 (by kernel_rfl) rfl) (by omega)
      (fun W i hi hb => by
        have := column_any n A l c lo ms i W (HM1.out.drew.below hb) HRT.out hi
        unfold colW; rw [HL.out]; exact this) (colW_lt ms))
    clear hb s0 s1 s2 s3 r0 r1 HR HM
    obtain ⟨s0, s1, s2, s3⟩ := P.out.two
    obtain ⟨r0, r1, -, -⟩ := P0.out.two
    go_wp2_with fail
    go_region_held3 (fun w' => w'.cell? ⟨w.heap.size, 0, none⟩ = some (.int .i64 n) ∧ w'.cell? ⟨w.heap.size, 1, none⟩ = some (.slice A l c)) (go_keep)
      (first
        | (go_at_call 14; refine HBY.out.mono ?_; rintro e2 x1 ⟨g, rfl, hg, hma, hb⟩; have P2 := Lib.hid (P.out.drew.keep hb); have B2 := Lib.hid (chain B.out.drew hb); have HM2 := Lib.hid hma; obtain ⟨t0, t1, -, -⟩ := (P0.out.drew.keep hb).two; clear hb hma; obtain ⟨u0, u1, u2, u3⟩ := P2.out.two))
    have hz : w.heap.size + 1 < w1.heap.size := by have := P.out.lt; omega
    go_wp2_with fail
    refine close_cell Try.results5 rfl rfl rfl P2.out.put2 Try.underlying24 rfl (by kernel_rfl) ⟨some ⟨g, 0, none⟩, n, by rw [HTL.out]; rfl, ?_, (B2.out.setCell (p := ⟨w.heap.size + 1, 0, none⟩) (by simp) _).setCell (p := ⟨w.heap.size + 1, 1, none⟩) (by simp) _⟩
    rw [HTL.out]
    have h := (HM2.out.put2 (y := (l : Int)) P2.out hz (.slice (some ⟨g, 0, none⟩) n n)).low (l2 := w.heap.size) (by have := HW.out.size; have : w1.drew.heap.size = w1.heap.size := rfl; omega)
    unfold turnM; rw [HL.out]
    exact h
end Go.Proofs.Ytljooknodnblbaa
