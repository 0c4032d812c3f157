/- Parts: Enc7, RefTx, EcX, Open, OpenT, OpenV. -/
import Derived.Test.YtepgjimkhodcfaaDoorZj
import Derived.Deep.DeepCutAuto
import Derived.Deep.RegionWith
import Derived.Lib.SmallJoins
import Derived.OpenShut
import Derived.ProofKit
import Derived.SliceStrings
import Derived.Test.YtepgjimkhodcfaaDoorRows
namespace Go.Proofs.YtepgjimkhodcfaaDoor
section
/- Layer 9: the reference's Cut. -/
set_option linter.unusedVariables false
set_option linter.unusedSimpArgs false
open Go.RowKit
set_option maxRecDepth 100000
def bytesZ (s : ByteArray) (a q : Nat) : List UInt8 := (List.range q).map fun q => byteZ s (a + q)
theorem bytesZ_succ (s : ByteArray) (a q : Nat) : bytesZ s a (q + 1) = bytesZ s a q ++ [byteZ s (a + q)] := by simp [bytesZ, List.range_succ]
theorem bytesZ_blk (s : ByteArray) (n a : Nat) (ha : a ≤ s.size) : (⟨(bytesZ s a n).toArray⟩ : ByteArray) = blkN s n a := by
  unfold bytesZ
  rw [← blkN_list s n a ha]
theorem own_not_nil {w : World} {base e size n : Nat} {v : Value} {xs : List Value} (h : w.ownsRow base e size v n xs) (hn : 0 < n) : v ≠ .slice none 0 0 := by
  intro hv
  rcases h.2 with ⟨-, h0⟩ | ⟨g, cap, cur, hv', -⟩
  · omega
  · rw [hv] at hv'; injection hv' with h1; cases h1
set_option maxHeartbeats 4000000 in
theorem refCut9_any (s : ByteArray) (n : Nat) (w : World) (hn : 1 ≤ n) (hn64 : n ≤ 64) (hs : s.size ≤ 64 * n) :
    Calls Tryd.prog 10 #[.string s, .int .i64 (n : Int)] w (TextsOut (blkL s n (cntN s n)) w) := by
  obtain ⟨i0, hi, hz0, hz1, hz2⟩ := info_parts string_info
  obtain ⟨j0, hj, hy0, hy1, hy2⟩ := info_parts uint8_infoB
  have hcnt := cntN_le s n hn hs
  have HW := Lib.hid (show Below w.heap.size w (w.alloc (.cells #[] 9)) from (Below.refl _ _).alloc (Nat.le_refl _) _)
  have HOw := Lib.hid (own_empty w w.heap.size 9 (Nat.le_refl _))
  have HI := Lib.hid hi
  have HZ0 := Lib.hid hz0
  have HZ1 := Lib.hid hz1
  have HZ2 := Lib.hid hz2
  have HJ := Lib.hid hj
  have HY0 := Lib.hid hy0
  have HY1 := Lib.hid hy1
  have HY2 := Lib.hid hy2
  clear hi hz0 hz1 hz2 hj hy0 hy1 hy2
  go_enter Tryd.func10, Tryd.ntmps10
  go_wp2_with fail
  go_loopw [5, 6] (fun v t wr => ∃ i a : Nat, i ≤ cntN s n ∧ Hid (a = i * n) ∧ a ≤ s.size + n ∧ t = .int .i64 (a : Int) ∧ wr.ownsRow w.heap.size 9 1 v i ((blkL s n i).map Value.string) ∧ Below w.heap.size w wr) (fun _ t _ => s.size + n - (intOf t).toNat)
  case atStart => exact ⟨0, 0, Nat.zero_le _, Lib.hid (by omega), by omega, rfl, HOw.out, HW.out⟩
  case round =>
    obtain ⟨i, a, hi, HA, ha, rfl, hown, hbel⟩ := hrel
    have HO := Lib.hid hown
    have HB := Lib.hid hbel
    clear hown hbel HOw HW
    have hif := cntN_iff s n i hn
    rw [← HA.out] at hif
    by_cases hlt : a < s.size
    · have hlt' : (a : Int) < (s.size : Int) := by omega
      have HLT := Lib.hid (hif.2 hlt)
      clear hif
      obtain ⟨wo, rfl⟩ : ∃ wo : World, wo = wr := ⟨_, rfl⟩
      have IO := Lib.hid (own_empty wo wo.heap.size 5 (Nat.le_refl _))
      have IW := Lib.hid (show Below wo.heap.size wo (wo.alloc (.cells #[] 5)) from (Below.refl _ _).alloc (Nat.le_refl _) _)
      go_wp2_with fail
      go_loopw [7, 8] (fun u v wi => ∃ q t : Nat, q ≤ n ∧ Hid (t = a + q) ∧ v = .int .i64 (t : Int) ∧ wi.ownsRow wo.heap.size 5 1 u q ((bytesZ s a q).map byteV) ∧ Below wo.heap.size wo wi) (fun _ v _ => a + n - (intOf v).toNat)
      case atStart => exact ⟨0, a, by omega, Lib.hid rfl, rfl, IO.out, IW.out⟩
      case round =>
        obtain ⟨q, t, hq, HTT, rfl, hown, hbel⟩ := hrel
        have JO := Lib.hid hown
        have JB := Lib.hid hbel
        clear hown hbel IO IW
        by_cases hq2 : t < a + n
        · have HS := Lib.hid (show bytesZ s a (q + 1) = bytesZ s a q ++ [byteZ s t] by rw [bytesZ_succ, ← HTT.out])
          have hq3 : q + 1 ≤ n := by have := HTT.out; omega
          have hq4 := Lib.hid (show t + 1 = a + (q + 1) by have := HTT.out; omega)
          have hq5 : (t : Int) < (a : Int) + (n : Int) := by omega
          have hq6 : t ≤ 4160 := by omega
          have hi' := HJ.out
          have hz0' := HY0.out
          have hz1' := HY1.out
          have hz2' := HY2.out
          have N2 := Lib.hid (fun k hk => (JO.out.lt k hk).1)
          by_cases hin : t < s.size
          · have HV := Lib.hid (show byteZ s t = s[t] by rw [byteZ, if_pos hin]; simp [List.getD, hin]; rfl)
            have hin' : (t : Int) < (s.size : Int) := by omega
            have XO := Lib.hid (JO.out.alloc (.cells #[.int .u8 (s[t].toNat : Int)] 5))
            have XB := Lib.hid (JB.out.alloc JB.out.size (.cells #[.int .u8 (s[t].toNat : Int)] 5))
            go_wp2_with (at_builtin; refine wpList_append_own _ rfl _ _ 55 rfl wo.heap.size 5 j0 (.int .u8 0) 1 1 Tryd.underlying55 hi' hz0' hz1' hz2' rfl (by decide) _ _ _ rfl XO.out ⟨wr.heap.size, 0, none⟩ 1 1 [.int .u8 (s[t].toNat : Int)] rfl rfl (cell_one_new _ _ _) (by simp [Value.oneCell']) (by simp [maxLen]; omega) (by omega) XB.out.size ?_; intro v' w1 hown' hgrow _; have HC := Lib.hid (XB.out.grown hgrow XB.out.size N2.out); have HO2 := Lib.hid hown'; clear hown' hgrow)
            go_roundw
            case rel =>
              refine ⟨q + 1, t + 1, hq3, hq4, by go_num, ?_, HC.out⟩
              rw [HS.out, List.map_append, HV.out]
              exact HO2.out
            case measure => simp [intOf] <;> omega
          · have HV := Lib.hid (show byteZ s t = 0 by rw [byteZ, if_neg hin])
            have hin' : ¬ (t : Int) < (s.size : Int) := by omega
            have XO := Lib.hid (JO.out.alloc (.cells #[.int .u8 0] 5))
            have XB := Lib.hid (JB.out.alloc JB.out.size (.cells #[.int .u8 0] 5))
            go_wp2_with (at_builtin; refine wpList_append_own _ rfl _ _ 55 rfl wo.heap.size 5 j0 (.int .u8 0) 1 1 Tryd.underlying55 hi' hz0' hz1' hz2' rfl (by decide) _ _ _ rfl XO.out ⟨wr.heap.size, 0, none⟩ 1 1 [.int .u8 0] rfl rfl (cell_one_new _ _ _) (by simp [Value.oneCell']) (by simp [maxLen]; omega) (by omega) XB.out.size ?_; intro v' w1 hown' hgrow _; have HC := Lib.hid (XB.out.grown hgrow XB.out.size N2.out); have HO2 := Lib.hid hown'; clear hown' hgrow)
            go_roundw
            case rel =>
              refine ⟨q + 1, t + 1, hq3, hq4, by go_num, ?_, HC.out⟩
              rw [HS.out, List.map_append, HV.out]
              exact HO2.out
            case measure => simp [intOf] <;> omega
        · obtain rfl : q = n := by have := HTT.out; omega
          have hq5 : ¬ (t : Int) < (a : Int) + (q : Int) := by omega
          have cv := own_bytes JO.out (own_not_nil JO.out (by omega))
          rw [bytesZ_blk s q a (by omega)] at cv
          have HS := Lib.hid (show blkL s q (i + 1) = blkL s q i ++ [blkN s q a] by rw [blkL_succ, ← HA.out])
          have hi' := HI.out
          have hz0' := HZ0.out
          have hz1' := HZ1.out
          have hz2' := HZ2.out
          have N2 := Lib.hid (fun k hk => (HO.out.lt k hk).1)
          have KB := Lib.hid (chainN HB.out HB.out.size JB.out)
          have XO := Lib.hid ((own_keep HO.out JB.out).alloc (.cells #[.string (blkN s q a)] 9))
          have XB := Lib.hid (KB.out.alloc KB.out.size (.cells #[.string (blkN s q a)] 9))
          have hcn := hcnt
          go_wp2_with (at_builtin; refine wpList_append_own _ rfl _ _ 22 rfl w.heap.size 9 i0 (.string ⟨#[]⟩) 1 16 Tryd.underlying22 hi' hz0' hz1' hz2' rfl (by decide) _ _ _ rfl XO.out ⟨wr.heap.size, 0, none⟩ 1 1 [.string (blkN s q a)] rfl rfl (cell_one_new _ _ _) (by simp [Value.oneCell']) (by simp [maxLen]; omega) (by omega) XB.out.size ?_; intro v' w1 hown' hgrow _; have HC := Lib.hid (XB.out.grown hgrow XB.out.size N2.out); have HO2 := Lib.hid hown'; clear hown' hgrow)
          go_roundw
          case rel =>
            refine ⟨i + 1, a + q, by have := HLT.out; omega, Lib.hid (by rw [HA.out, Nat.succ_mul]), by omega, by go_num, ?_, HC.out⟩
            rw [HS.out, List.map_append]
            exact HO2.out
          case measure => simp [intOf] <;> omega
    · have hlt' : ¬ (a : Int) < (s.size : Int) := by omega
      obtain rfl : i = cntN s n := by have := mt hif.1 hlt; omega
      have HCL := Lib.hid (blkL_len s n (cntN s n))
      obtain ⟨A', c', rfl, q1, q2, q3⟩ := own_texts HO.out (fun j => blkL_le s n j hn hn64)
      go_wp2
      go_ret
      exact ⟨A', c', by rw [HCL.out]; rfl, by rw [HCL.out]; exact q1, q2, by rw [HCL.out]; exact q3, HB.out⟩
end
section
/- The reference's Texts: two rows of texts that are the same. -/
set_option linter.unusedVariables false
set_option linter.unusedSimpArgs false
open Go.RowKit
set_option maxHeartbeats 1000000 in
theorem refTexts_same (A B : Option Addr) (l c d : Nat) (ss : List ByteArray) (w : World) (hu : Texts w A l ss) (hv : Texts w B l ss) (hl : l ≤ 1000000) :
    Calls Tryd.prog 9 #[.slice A l c, .slice B l d] w fun e w' => e = .returned (.bool true) ∧ Below w.heap.size w w' := by
  have HU := Lib.hid hu
  have HV := Lib.hid hv
  clear hu hv
  have t2 : ((l : Int) != (l : Int)) = false := by simp
  go_enter Tryd.func9, Tryd.ntmps9
  go_wp2_with fail
  clear t2
  go_loopw [13] (fun i wr => ∃ j : Nat, j ≤ l ∧ i = .int .i64 j ∧ Below w.heap.size w wr) (fun i _ => l - (intOf i).toNat)
  case atStart => exact ⟨0, by omega, rfl, Below.refl _ _⟩
  case round =>
    obtain ⟨j, hj, rfl, hbel⟩ := hrel
    have HB := Lib.hid hbel
    clear hbel
    by_cases hlt : j < l
    · obtain ⟨p, o, rfl, lt1, hc1⟩ := HU.out.2.2 (by omega)
      obtain ⟨p2, o2, rfl, lt2, hc2⟩ := HV.out.2.2 (by omega)
      have cu := (HB.out.cell (p := ⟨p, o + j, none⟩) lt1).trans (hc1 j hlt)
      have cv := (HB.out.cell (p := ⟨p2, o2 + j, none⟩) lt2).trans (hc2 j hlt)
      generalize ss.getD j ByteArray.empty = s at *
      clear hc1 hc2
      have hlt' : (j : Int) < (l : Int) := by omega
      have hj0 : (0 : Int) ≤ (j : Int) := by omega
      go_wp2
      go_quiet (fail)
      go_wp2_with fail
      go_roundw
      case rel => exact ⟨j + 1, by omega, by go_num, bdN HB.out _⟩
      case measure => simp [intOf]; omega
    · obtain rfl : j = l := by omega
      go_wp2
      go_ret
      exact ⟨rfl, HB.out⟩
end
section
/- EncodeCuts: the walk. -/
set_option linter.unusedVariables false
set_option linter.unusedSimpArgs false
open Go.RowKit
set_option maxRecDepth 100000
def cut42 (s : ByteArray) : ByteArray := s.extract 0 (min s.size 4200)
theorem cut42_eq (s : ByteArray) (m : Nat) (hm : (m : Int) = min (s.size : Int) 4200) : s.extract 0 m = cut42 s := by
  unfold cut42
  congr 1
  omega
theorem cut42_size (s : ByteArray) : (cut42 s).size ≤ 4200 := by simp [cut42, ByteArray.size_extract]; omega
/-- What Join tells: the error. -/
def joinE9 (ss : List ByteArray) (z : Int) : Int := if mayS ss then (if z < 0 ∨ ((ss.length * (ss.getD 0 ByteArray.empty).size : Nat) : Int) < z then 2 else 0) else 1
def joinS9 (ss : List ByteArray) (z : Int) : ByteArray := if joinE9 ss z = 0 then (catS ss).extract 0 z.toNat else ⟨#[]⟩
def JoinOut (x : ByteArray) (er : Int) (w : World) (e : Ending) (w' : World) : Prop := e = .returned (.tuple #[.string x, .int .i64 er]) ∧ Below w.heap.size w w'
theorem encJoin_any (A : Option Addr) (l c : Nat) (ss : List ByteArray) (z : Int) (w : World) (ht : Texts w A l ss) (hlc : l ≤ c) (hcm : c ≤ maxLen) :
    Calls Tryd.prog 8 #[.slice A l c, .int .i64 z] w (JoinOut (joinS9 ss z) (joinE9 ss z) w) := by
  have hl := ht.1
  by_cases hm : mayS ss = true
  · by_cases hz : z < 0 ∨ ((ss.length * (ss.getD 0 ByteArray.empty).size : Nat) : Int) < z
    · have e : joinE9 ss z = 2 := by rw [joinE9, if_pos hm, if_pos hz]
      have e2 : joinS9 ss z = ⟨#[]⟩ := by rw [joinS9, e]; rfl
      rw [e, e2]
      exact encJoin_bad A l c ss z w ht hlc hcm hm (by rw [← hl]; exact hz)
    · have e : joinE9 ss z = 0 := by rw [joinE9, if_pos hm, if_neg hz]
      have e2 : joinS9 ss z = (catS ss).extract 0 z.toNat := by rw [joinS9, e]; rfl
      rw [e, e2]
      obtain ⟨k, rfl⟩ := Int.eq_ofNat_of_zero_le (show 0 ≤ z by omega)
      exact encJoin_yes A l c ss k w ht hlc hcm hm (by rw [← hl]; omega)
  · have hm' : mayS ss = false := by simpa using hm
    have e : joinE9 ss z = 1 := by rw [joinE9, hm']; rfl
    have e2 : joinS9 ss z = ⟨#[]⟩ := by rw [joinS9, e]; rfl
    rw [e, e2]
    exact encJoin_no A l c ss z w ht hlc hcm hm'
theorem may_not {s : ByteArray} {n : Int} (h : mayCut s n = false) : ¬ 1 ≤ n ∨ ¬ n ≤ 64 ∨ ¬ 1 ≤ s.size ∨ (1 ≤ n ∧ n ≤ 64 ∧ ¬ (s.size : Int) ≤ 64 * n) := by
  simp only [mayCut, Bool.and_eq_false_iff, decide_eq_false_iff_not] at h
  omega
set_option maxHeartbeats 8000000 in
theorem ecuts_walk (s : ByteArray) (n : Int) (A : Option Addr) (l c : Nat) (ss : List ByteArray) (z : Int) (W : World)
    (hs : s.size ≤ maxLen) (s0 : SliceOk A l c) (h0 : Texts W A l ss) (hT0 : TabAt W 1) :
    Calls Tryd.prog 3 #[.string s, .int .i64 n, .slice A l c, .int .i64 z] W fun e w' => e = .returned (.bool true) ∧ Below W.heap.size W w' := by
  have HBK := Lib.hid (blocks9_any A l c ss W.drew h0 s0)
  have HCL := Lib.hid (cutsC_len ss)
  have HT := Lib.hid hT0
  generalize cutsC ss 66 = cs at *
  obtain ⟨m, em⟩ : ∃ m, m = min s.size 4200 := ⟨_, rfl⟩
  have mm : min (s.size : Int) 4200 = (m : Int) := by omega
  have hm1 : m ≤ s.size := by omega
  have HE := Lib.hid (cut42_eq s m mm.symm)
  have hsz := cut42_size s
  unfold maxLen at hs
  clear h0 s0 hT0 em
  go_enter Tryd.func3, Tryd.ntmps3
  go_wp2_with fail
  go_cut [0, 2] (fun a b wx => a = .string (cut42 s) ∧ ∃ A1 c1, b = .slice A1 cs.length c1 ∧ cs.length ≤ c1 ∧ c1 ≤ maxLen ∧ Texts wx A1 cs.length cs ∧ Below W.heap.size W wx)
  case first =>
    go_region_with (go_at_call 6; refine HBK.out.mono ?_; rintro e x1 ⟨A1, c1, rfl, q1, q2, hx, hb⟩; have hx := Lib.hid hx; have HB := Lib.hid ((Below.refl W.heap.size W).drew.trans hb); clear hb)
    all_goals (go_wp2_with fail; go_meet; exact ⟨by rw [HE.out], A1, c1, rfl, q1, q2, hx.out, HB.out⟩)
  case rest =>
    obtain ⟨rfl, A1, c1, rfl, q1, q2, hx, hb⟩ := hcut
    have HX := Lib.hid hx
    have HB := Lib.hid hb
    have HT := Lib.hid (HT.out.below hb)
    have hl := Lib.hid (Nat.le_trans q1 q2)
    clear hx hb HBK HE mm hm1 hs
    generalize cut42 s = s1 at *
    cases hc : mayCut s1 n with
    | true =>
      obtain ⟨k, rfl, k1, k2, k3, k4⟩ := encCut_ok s1 n hc
      have b1 : (1 : Int) ≤ k := by omega
      have b2 : (k : Int) ≤ 64 := by omega
      have b3 : (1 : Int) ≤ s1.size := by omega
      have b4 : (s1.size : Int) ≤ 64 * (k : Int) := by omega
      have HLB := Lib.hid (show (blkL s1 k (cntN s1 k)).length ≤ 1000000 by rw [blkL_len]; have := cntN_le s1 k k1 k4; omega)
      have HLB2 := Lib.hid (fun j => blkL_le s1 k j k1 k2)
      clear hc
      go_wp2_with fail
      refine (encCut_yes s1 k _ k1 k2 k3 k4).mono ?_
      rintro e x1 ⟨A2, c2, rfl, p1, p2, hy, hb⟩
      have HX := Lib.hid (HX.out.below hb)
      have HT := Lib.hid (HT.out.below hb)
      have HY := Lib.hid hy
      have HB := Lib.hid (chain HB.out hb)
      clear hb hy
      go_wp2_with fail
      refine (encJoin_any A1 _ c1 cs z _ HX.out q1 q2).mono ?_
      rintro e x2 ⟨rfl, hb⟩
      have HX := Lib.hid (HX.out.below hb)
      have HT := Lib.hid (HT.out.below hb)
      have HY := Lib.hid (HY.out.below hb)
      have HB := Lib.hid (chain HB.out hb)
      clear hb
      go_wp2_with fail
      refine (refCut9_any s1 k _ k1 k2 k4).mono ?_
      rintro e x3 ⟨A3, c3, rfl, -, -, hy, hb⟩
      have HX := Lib.hid (HX.out.below hb)
      have HT := Lib.hid (HT.out.below hb)
      have HY := Lib.hid (HY.out.below hb)
      have HB := Lib.hid (chain HB.out hb)
      have HR := Lib.hid hy
      clear hb hy
      go_wp2_with fail
      refine (refTexts_same A2 A3 _ c2 c3 _ _ HY.out HR.out HLB.out).mono ?_
      rintro e x4 ⟨rfl, hb⟩
      have HX := Lib.hid (HX.out.below hb)
      have HT := Lib.hid (HT.out.below hb)
      have HB := Lib.hid (chain HB.out hb)
      clear hb
      go_wp2_with fail
      refine (alive9_any _ HT.out).mono ?_
      rintro e x5 ⟨rfl, hb⟩
      have HX := Lib.hid (HX.out.below hb)
      have HB := Lib.hid (chain HB.out hb)
      clear hb HT HY HR b1 b2 b3 b4 k3 k4
      generalize blkL s1 k (cntN s1 k) = bl at *
      -- the joined text
      cases hm : mayS cs with
      | false =>
        have HM := Lib.hid hm
        have hj : joinE9 cs z = 1 := by rw [joinE9, hm]; rfl
        have hj2 : joinS9 cs z = ⟨#[]⟩ := by rw [joinS9, hj]; rfl
        rw [hj, hj2]
        clear hm hj hj2
        go_wp2_with fail
        refine (refRight9_any A1 _ c1 cs _ HX.out hl.out).mono ?_
        rintro e u3 ⟨rfl, rfl⟩
        rw [HM.out]
        go_wp2_with fail
        go_ret
        exact ⟨by simp, HB.out⟩
      | true =>
        obtain ⟨h1, h2, h3, h4⟩ := may_bytes hm
        have HM := Lib.hid hm
        obtain ⟨b, off, rfl, hb, c0⟩ := HX.out.zero (by omega)
        have hp : cs.length * (cs.getD 0 ByteArray.empty).size ≤ 64 * 64 := Nat.mul_le_mul h2 h3
        have hmul : (cs.length : Int) * ((cs.getD 0 ByteArray.empty).size : Int) = ((cs.length * (cs.getD 0 ByteArray.empty).size : Nat) : Int) := by rw [Int.natCast_mul]
        have HRJ := Lib.hid (fun (k : Nat) (hk : k ≤ cs.length * (cs.getD 0 ByteArray.empty).size) w' (hw : Texts w' (some ⟨b, off, none⟩) cs.length cs) => refJoin_any (some ⟨b, off, none⟩) cs.length c1 cs k w' hw (by omega) (by omega) (by omega))
        have g0 : 0 < cs.length := by omega
        have HJE := Lib.hid (show joinE9 cs z = if z < 0 ∨ ((cs.length * (cs.getD 0 ByteArray.empty).size : Nat) : Int) < z then 2 else 0 by rw [joinE9, if_pos hm])
        have HJS := Lib.hid (show joinS9 cs z = if joinE9 cs z = 0 then (catS cs).extract 0 z.toNat else ⟨#[]⟩ from rfl)
        clear hm h1 h3 h4 hb
        generalize cs.length * (cs.getD 0 ByteArray.empty).size = p at *
        generalize cs.getD 0 ByteArray.empty = s0 at *
        generalize joinS9 cs z = js at *
        generalize joinE9 cs z = je at *
        by_cases hz : z < 0
        · have t : decide (z < 0) = true := by simpa using hz
          obtain rfl : je = 2 := by rw [HJE.out, if_pos (.inl hz)]
          obtain rfl : js = ⟨#[]⟩ := by rw [HJS.out]; rfl
          clear c0 hmul
          go_wp2_with fail
          refine (refRight9_any _ _ c1 cs _ HX.out hl.out).mono ?_
          rintro e u3 ⟨rfl, rfl⟩
          rw [HM.out]
          go_wp2_with fail
          go_ret
          exact ⟨by simp, HB.out⟩
        · have t : decide (z < 0) = false := by simpa using hz
          by_cases hz2 : (p : Int) < z
          · have t2 : decide ((p : Int) < z) = true := by simpa using hz2
            obtain rfl : je = 2 := by rw [HJE.out, if_pos (.inr hz2)]
            obtain rfl : js = ⟨#[]⟩ := by rw [HJS.out]; rfl
            go_wp2_with fail
            refine (refRight9_any _ _ c1 cs _ HX.out hl.out).mono ?_
            rintro e u3 ⟨rfl, rfl⟩
            rw [HM.out]
            go_wp2_with fail
            go_ret
            exact ⟨by simp, HB.out⟩
          · obtain ⟨y, rfl⟩ := Int.eq_ofNat_of_zero_le (show 0 ≤ z by omega)
            have t2 : decide ((p : Int) < (y : Int)) = false := by simpa using hz2
            obtain rfl : je = 0 := by rw [HJE.out, if_neg (by omega)]
            obtain rfl : js = (catS cs).extract 0 y := by rw [HJS.out, if_pos rfl]; rfl
            have HRJ2 := Lib.hid (HRJ.out y (by omega))
            clear HRJ
            generalize (catS cs).extract 0 y = jt at *
            go_wp2_with fail
            refine (refRight9_any _ _ c1 cs _ HX.out hl.out).mono ?_
            rintro e u3 ⟨rfl, rfl⟩
            rw [HM.out]
            go_wp2_with fail
            refine (HRJ2.out _ HX.out).mono ?_
            rintro e u4 ⟨rfl, rfl⟩
            go_wp2_with fail
            go_ret
            exact ⟨by simp, HB.out⟩
    | false =>
      go_wp2_with fail
      refine (encCut_no s1 n _ hc).mono ?_
      rintro e x1 ⟨A2, c2, rfl, p1, p2, hy, hb⟩
      have HX := Lib.hid (HX.out.below hb)
      have HT := Lib.hid (HT.out.below hb)
      have HB := Lib.hid (chain HB.out hb)
      clear hb hy
      go_wp2_with fail
      refine (encJoin_any A1 _ c1 cs z _ HX.out q1 q2).mono ?_
      rintro e x2 ⟨rfl, hb⟩
      have HX := Lib.hid (HX.out.below hb)
      have HT := Lib.hid (HT.out.below hb)
      have HB := Lib.hid (chain HB.out hb)
      clear hb
      go_upto_region 4 with (fail)
      go_cut [13] (fun v wx => v = .bool false ∧ wx = x2)
      case first =>
        have hno := may_not hc
        clear hc
        rcases hno with h | h | h | h
        · have t : decide (1 ≤ n) = false := by simpa using h
          go_wp2_with fail
          go_meet
          exact ⟨by simp, rfl⟩
        · have t : decide (n ≤ 64) = false := by simp; omega
          go_wp2_with fail
          all_goals (go_meet; exact ⟨by simp [t], rfl⟩)
        · have t : decide ((1 : Int) ≤ (s1.size : Int)) = false := by simp; omega
          go_wp2_with fail
          all_goals (go_meet; exact ⟨by simp [t], rfl⟩)
        · have b1 : 1 ≤ n := h.1
          have b2 : n ≤ 64 := h.2.1
          have t : decide ((s1.size : Int) ≤ 64 * n) = false := by have := h.2.2; simp; omega
          go_wp2_with fail
          all_goals (go_meet; exact ⟨by simp [t], rfl⟩)
      case rest =>
      obtain ⟨rfl, rfl⟩ := hcut
      clear hc
      go_wp2_with fail
      refine (alive9_any _ HT.out).mono ?_
      rintro e x5 ⟨rfl, hb⟩
      have HX := Lib.hid (HX.out.below hb)
      have HB := Lib.hid (chain HB.out hb)
      clear hb HT
      -- the joined text
      cases hm : mayS cs with
      | false =>
        have HM := Lib.hid hm
        have hj : joinE9 cs z = 1 := by rw [joinE9, hm]; rfl
        have hj2 : joinS9 cs z = ⟨#[]⟩ := by rw [joinS9, hj]; rfl
        rw [hj, hj2]
        clear hm hj hj2
        go_wp2_with fail
        refine (refRight9_any A1 _ c1 cs _ HX.out hl.out).mono ?_
        rintro e u3 ⟨rfl, rfl⟩
        rw [HM.out]
        go_wp2_with fail
        go_ret
        exact ⟨by simp, HB.out⟩
      | true =>
        obtain ⟨h1, h2, h3, h4⟩ := may_bytes hm
        have HM := Lib.hid hm
        obtain ⟨b, off, rfl, hb, c0⟩ := HX.out.zero (by omega)
        have hp : cs.length * (cs.getD 0 ByteArray.empty).size ≤ 64 * 64 := Nat.mul_le_mul h2 h3
        have hmul : (cs.length : Int) * ((cs.getD 0 ByteArray.empty).size : Int) = ((cs.length * (cs.getD 0 ByteArray.empty).size : Nat) : Int) := by rw [Int.natCast_mul]
        have HRJ := Lib.hid (fun (k : Nat) (hk : k ≤ cs.length * (cs.getD 0 ByteArray.empty).size) w' (hw : Texts w' (some ⟨b, off, none⟩) cs.length cs) => refJoin_any (some ⟨b, off, none⟩) cs.length c1 cs k w' hw (by omega) (by omega) (by omega))
        have g0 : 0 < cs.length := by omega
        have HJE := Lib.hid (show joinE9 cs z = if z < 0 ∨ ((cs.length * (cs.getD 0 ByteArray.empty).size : Nat) : Int) < z then 2 else 0 by rw [joinE9, if_pos hm])
        have HJS := Lib.hid (show joinS9 cs z = if joinE9 cs z = 0 then (catS cs).extract 0 z.toNat else ⟨#[]⟩ from rfl)
        clear hm h1 h3 h4 hb
        generalize cs.length * (cs.getD 0 ByteArray.empty).size = p at *
        generalize cs.getD 0 ByteArray.empty = s0 at *
        generalize joinS9 cs z = js at *
        generalize joinE9 cs z = je at *
        by_cases hz : z < 0
        · have t : decide (z < 0) = true := by simpa using hz
          obtain rfl : je = 2 := by rw [HJE.out, if_pos (.inl hz)]
          obtain rfl : js = ⟨#[]⟩ := by rw [HJS.out]; rfl
          clear c0 hmul
          go_wp2_with fail
          refine (refRight9_any _ _ c1 cs _ HX.out hl.out).mono ?_
          rintro e u3 ⟨rfl, rfl⟩
          rw [HM.out]
          go_wp2_with fail
          go_ret
          exact ⟨by simp, HB.out⟩
        · have t : decide (z < 0) = false := by simpa using hz
          by_cases hz2 : (p : Int) < z
          · have t2 : decide ((p : Int) < z) = true := by simpa using hz2
            obtain rfl : je = 2 := by rw [HJE.out, if_pos (.inr hz2)]
            obtain rfl : js = ⟨#[]⟩ := by rw [HJS.out]; rfl
            go_wp2_with fail
            refine (refRight9_any _ _ c1 cs _ HX.out hl.out).mono ?_
            rintro e u3 ⟨rfl, rfl⟩
            rw [HM.out]
            go_wp2_with fail
            go_ret
            exact ⟨by simp, HB.out⟩
          · obtain ⟨y, rfl⟩ := Int.eq_ofNat_of_zero_le (show 0 ≤ z by omega)
            have t2 : decide ((p : Int) < (y : Int)) = false := by simpa using hz2
            obtain rfl : je = 0 := by rw [HJE.out, if_neg (by omega)]
            obtain rfl : js = (catS cs).extract 0 y := by rw [HJS.out, if_pos rfl]; rfl
            have HRJ2 := Lib.hid (HRJ.out y (by omega))
            clear HRJ
            generalize (catS cs).extract 0 y = jt at *
            go_wp2_with fail
            refine (refRight9_any _ _ c1 cs _ HX.out hl.out).mono ?_
            rintro e u3 ⟨rfl, rfl⟩
            rw [HM.out]
            go_wp2_with fail
            refine (HRJ2.out _ HX.out).mono ?_
            rintro e u4 ⟨rfl, rfl⟩
            go_wp2_with fail
            go_ret
            exact ⟨by simp, HB.out⟩
end
section
/- How a row (a struct with a slice of words) and a slice of ints that came in are opened. -/
set_option linter.unusedVariables false
set_option linter.unusedSimpArgs false
open Go.RowKit Go.Joins Go.ChangeShapes Go.WideShapes
theorem cellsRow : Tryd.prog.cellsOf 58 = 2 := by kernel_rfl
theorem cellsU64 : Tryd.prog.cellsOf 35 = 1 := by kernel_rfl
theorem cellsInt : Tryd.prog.cellsOf 3 = 1 := by kernel_rfl
theorem addr_at {w : World} {a : Addr} {v : Value} (h : w.cell? (a.add 0) = some v) : ∃ b o, a = ⟨b, o, none⟩ := by
  obtain ⟨b, o, s⟩ := a
  have := World.cell?_spot h
  simp [Addr.add] at this
  subst this
  exact ⟨b, o, rfl⟩
theorem open_words {H : Type} {enc : TypeId × Value → H} {W : World} {fuel : Nat} {cs : List Value} {x : DataW H × List MemPlace}
    (h : DataW.trod enc Tryd.prog W 0 (fun _ => true) true fuel 36 cs = some x) : ∃ A l c us, cs = [.slice A l c] ∧ SliceOk A l c ∧ Words W A l us := by
  rcases open_ints Tryd.underlying36 Tryd.underlying35 cellsU64 h with ⟨hcs, _⟩ | ⟨a, len, cap, zs, hcs, _, hl, hm, hz, _, hcell, hwz⟩
  · exact ⟨none, 0, 0, [], hcs, ⟨Nat.le_refl _, Nat.zero_le _, fun _ => ⟨rfl, rfl⟩⟩, Words.nil _ _⟩
  · have hz' : zs.length = cap := by simpa using hz
    refine ⟨some a, len, cap, (zs.take len).map Int.toNat, hcs, ⟨hl, hm, fun h => by cases h⟩, ?_⟩
    have hget : ∀ j, j < len → ((zs.take len).map Int.toNat).getD j 0 = (zs.getD j 0).toNat := fun j hj => by
      have : j < zs.length := by omega
      simp [List.getD, hj, this]
    have hbd := range_u64 hwz
    refine ⟨by simp; omega, fun j => ?_, fun hp => ?_⟩
    · by_cases hj : j < len
      · rw [hget j hj]
        have := hbd j
        simp only [List.getD]
        omega
      · have hn : ((zs.take len).map Int.toNat)[j]? = none := List.getElem?_eq_none (by simp; omega)
        simp only [List.getD, hn, Option.getD_none]
        omega
    · obtain ⟨b, o, rfl⟩ := addr_at (hcell 0 (by omega))
      have hadd : ∀ j, Addr.add { block := b, off := o } j = ⟨b, o + j, none⟩ := fun j => by
        by_cases h : j = 0 <;> simp [Addr.add, h]
      refine ⟨b, o, rfl, ?_, fun j hj => ?_⟩
      · have := block_lt_of_cell (hcell 0 (by omega))
        rw [hadd] at this
        exact this
      · have := hcell j (by omega)
        rw [hadd] at this
        rw [this, hget j hj]
        have := hbd j
        have e : ((zs.getD j 0).toNat : Int) = zs.getD j 0 := by simp only [List.getD]; omega
        rw [e]
theorem open_nums {H : Type} {enc : TypeId × Value → H} {W : World} {fuel : Nat} {cs : List Value} {x : DataW H × List MemPlace}
    (h : DataW.trod enc Tryd.prog W 0 (fun _ => true) true fuel 62 cs = some x) : ∃ A l c zs, cs = [.slice A l c] ∧ SliceOk A l c ∧ Ints W A l zs := by
  rcases open_ints Tryd.underlying62 Tryd.underlying3 cellsInt h with ⟨hcs, _⟩ | ⟨a, len, cap, zs, hcs, _, hl, hm, hz, _, hcell, hwz⟩
  · exact ⟨none, 0, 0, [], hcs, ⟨Nat.le_refl _, Nat.zero_le _, fun _ => ⟨rfl, rfl⟩⟩, Ints.nil _ _⟩
  · have hz' : zs.length = cap := by simpa using hz
    refine ⟨some a, len, cap, zs.take len, hcs, ⟨hl, hm, fun h => by cases h⟩, ?_⟩
    have hget : ∀ j, j < len → (zs.take len).getD j 0 = zs.getD j 0 := fun j hj => by
      simp [List.getD, hj]
    have hbd := range_i64 hwz
    refine ⟨by simp; omega, fun j => ?_, fun hp => ?_⟩
    · by_cases hj : j < len
      · rw [hget j hj]
        have := hbd j
        simpa only [List.getD] using this
      · have hn : (zs.take len)[j]? = none := List.getElem?_eq_none (by simp; omega)
        simp [List.getD, hn]
    · obtain ⟨b, o, rfl⟩ := addr_at (hcell 0 (by omega))
      have hadd : ∀ j, Addr.add { block := b, off := o } j = ⟨b, o + j, none⟩ := fun j => by
        by_cases h : j = 0 <;> simp [Addr.add, h]
      refine ⟨b, o, rfl, ?_, fun j hj => ?_⟩
      · have := block_lt_of_cell (hcell 0 (by omega))
        rw [hadd] at this
        exact this
      · have := hcell j (by omega)
        rw [hadd] at this
        rw [this, hget j hj]
set_option maxRecDepth 100000 in
theorem open_row {H : Type} {enc : TypeId × Value → H} {W : World} {r : Reach} {b0 : Nat} {v : Value} {d : DataW H} {p : List MemPlace}
    (hv : Value.okWide Tryd.prog W r b0 58 v) (h : DataW.Trod enc Tryd.prog W 0 (fun _ => true) true 58 v d p) :
    ∃ n A l c us, v = .agg #[.int .i64 n, .slice A l c] ∧ (Lit.int .i64 n).wf = true ∧ SliceOk A l c ∧ Words W A l us := by
  obtain ⟨c0, c1, y0, y1, m, rfl, rfl, rfl, hy0, hy1⟩ := open_agg2 Tryd.underlying58 (by kernel_rfl) cellsRow hv h
  obtain ⟨a, e0, -, wa⟩ := DataW.trod_int Tryd.underlying3 hy0
  obtain ⟨A, l, c, us, e1, hs, hw⟩ := open_words hy1
  simp at e0 e1
  subst e0 e1
  exact ⟨a, A, l, c, us, rfl, wa, hs, hw⟩
end
section
/- How a slice of texts that came in is opened. -/
set_option linter.unusedVariables false
set_option linter.unusedSimpArgs false
open Go.RowKit Go.Joins Go.ChangeShapes Go.WideShapes
theorem cellsStr : Tryd.prog.cellsOf 9 = 1 := by kernel_rfl
theorem open_texts {H : Type} {enc : TypeId × Value → H} {W : World} {fuel : Nat} {cs : List Value} {x : DataW H × List MemPlace}
    (h : DataW.trod enc Tryd.prog W 0 (fun _ => true) true fuel 22 cs = some x) : ∃ A l c ss, cs = [.slice A l c] ∧ SliceOk A l c ∧ Texts W A l ss := by
  rcases open_strings Tryd.underlying22 Tryd.underlying9 cellsStr h with ⟨hcs, _⟩ | ⟨a, len, cap, ss, hcs, _, hl, hm, hz, _, hcell, hwz⟩
  · exact ⟨none, 0, 0, [], hcs, ⟨Nat.le_refl _, Nat.zero_le _, fun _ => ⟨rfl, rfl⟩⟩, Texts.nil _ _⟩
  · have hz' : ss.length = cap := by simpa using hz
    refine ⟨some a, len, cap, ss.take len, hcs, ⟨hl, hm, fun h => by cases h⟩, ?_⟩
    have hget : ∀ j, j < len → (ss.take len).getD j ByteArray.empty = ss.getD j ByteArray.empty := fun j hj => by
      simp [List.getD, hj]
    refine ⟨by simp; omega, fun j => ?_, fun hp => ?_⟩
    · by_cases hj : j < len
      · rw [hget j hj]
        have hjs : j < ss.length := by omega
        have := hwz (ss[j]) (List.getElem_mem _)
        simpa [List.getD, hjs] using this
      · have hn : (ss.take len)[j]? = none := List.getElem?_eq_none (by simp; omega)
        simp [List.getD, hn, maxLen]
    · obtain ⟨b, o, rfl⟩ := addr_at (hcell 0 (by omega))
      have hadd : ∀ j, Addr.add { block := b, off := o } j = ⟨b, o + j, none⟩ := fun j => by
        by_cases h : j = 0 <;> simp [Addr.add, h]
      refine ⟨b, o, rfl, ?_, fun j hj => ?_⟩
      · have := block_lt_of_cell (hcell 0 (by omega))
        rw [hadd] at this
        exact this
      · have := hcell j (by omega)
        rw [hadd] at this
        rw [this, hget j hj]
end
section
/- How a slice of words and a slice of ints that came in are opened (without rows). -/
set_option linter.unusedVariables false
set_option linter.unusedSimpArgs false
open Go.RowKit Go.Joins Go.ChangeShapes Go.WideShapes
end
end Go.Proofs.YtepgjimkhodcfaaDoor
