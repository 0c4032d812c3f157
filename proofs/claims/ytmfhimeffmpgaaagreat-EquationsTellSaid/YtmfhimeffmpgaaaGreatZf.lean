/- Parts: RefOf, Nb2, OwnF, Nb4, Nb6, Nb7, NbX, NrX, RdM, RdA, RdB, XorO, RdT. -/
import Derived.Test.YtmfhimeffmpgaaaGreatZe
import Derived.Deep.RegionWith
import Derived.OpenShut
import Derived.WalkKit
namespace Go.Proofs.YtmfhimeffmpgaaaGreat
section
/- Contracts of the reference's In, There and Of. -/
set_option linter.unusedVariables false
set_option linter.unusedSimpArgs false
open Go.RowKit
def hasB (zs : List Int) (x : Int) : Bool := zs.contains x
theorem in_any (A : Option Addr) (l c : Nat) (zs : List Int) (x : Int) (w : World) (hz : Ints w A l zs) (hl : l ≤ 9223372036854775807) :
    Calls Tryz.prog 58 #[.slice A l c, .int .i64 x] w fun e w' => e = .returned (.bool (hasB zs x)) ∧ w = w' := by
  have HZ := Lib.hid hz
  clear hz
  go_enter Tryz.func58, Tryz.ntmps58
  go_wp2
  go_loop [9] (fun i => ∃ j : Nat, j ≤ l ∧ i = .int .i64 j ∧ hasB (zs.take j) x = false) (fun i => l - (intOf i).toNat)
  case atStart => exact ⟨0, by omega, rfl, rfl⟩
  case round =>
    obtain ⟨j, hj, rfl, heq⟩ := hrel
    have HE := Lib.hid heq
    clear heq
    by_cases hlt : j < l
    · obtain ⟨b, o, rfl, hlb, hc⟩ := HZ.out.2.2 (by omega)
      have cz := hc j hlt
      obtain ⟨y, ey⟩ : ∃ y, y = zs.getD j 0 := ⟨_, rfl⟩
      rw [← ey] at cz
      have htk := take_one zs j 0 (by rw [HZ.out.1]; exact hlt)
      rw [← ey] at htk
      have HT := Lib.hid htk
      clear ey hc htk
      by_cases h : y = x
      · have t : (y == x) = true := by simpa using h
        have HF : Hid (hasB zs x = true) := by
          show hasB zs x = true
          unfold hasB
          rw [← List.take_append_drop (j + 1) zs, HT.out, h]
          simp
        clear h
        go_wp2
        go_ret
        exact ⟨by rw [HF.out]; rfl, rfl⟩
      · have t : (y == x) = false := by simpa using h
        have HF : Hid (hasB (zs.take (j + 1)) x = false) := by
          show hasB (zs.take (j + 1)) x = false
          have := HE.out
          unfold hasB at this ⊢
          rw [HT.out]
          simp at this ⊢
          exact ⟨this, fun e => h e.symm⟩
        clear h
        go_wp2
        go_round
        case rel => exact ⟨j + 1, by omega, by go_num, HF.out⟩
        case measure => simp [intOf]; omega
    · have HF : Hid (hasB zs x = false) := by
        show hasB zs x = false
        unfold hasB
        have := HE.out
        unfold hasB at this
        rw [List.take_of_length_le (by rw [HZ.out.1]; omega)] at this
        exact this
      go_wp2
      go_ret
      exact ⟨by rw [HF.out]; rfl, rfl⟩
def ofInts (zs : List Int) (n : Nat) : List Int := (List.range n).map fun (j : Nat) => if hasB zs (j : Int) then 1 else 0
theorem ofInts_succ (zs : List Int) (n : Nat) : ofInts zs (n + 1) = ofInts zs n ++ [if hasB zs (n : Int) then 1 else 0] := by simp [ofInts, List.range_succ]
theorem ofInts_len (zs : List Int) (n : Nat) : (ofInts zs n).length = n := by simp [ofInts]
theorem ofInts_get (zs : List Int) (n j : Nat) (h : j < n) : (ofInts zs n).getD j 0 = if hasB zs (j : Int) then 1 else 0 := by simp [ofInts, List.getD, h]
theorem ofInts_lt (zs : List Int) (n j : Nat) : -9223372036854775808 ≤ (ofInts zs n).getD j 0 ∧ (ofInts zs n).getD j 0 ≤ 9223372036854775807 := by
  by_cases h : j < n
  · rw [ofInts_get zs n j h]
    split <;> omega
  · have hn : (ofInts zs n)[j]? = none := List.getElem?_eq_none (by rw [ofInts_len]; omega)
    simp only [List.getD, hn, Option.getD_none]
    omega
theorem orBit_test (ws : List Nat) (p i j : Nat) (hi : i < ws.length) : ((orBit ws p).getD i 0).testBit j = ((ws.getD i 0).testBit j || (p / 64 == i && p % 64 == j)) := by
  unfold orBit
  by_cases h : p / 64 = i
  · subst h
    have e : (ws.set (p / 64) (ws.getD (p / 64) 0 ||| 2 ^ (p % 64))).getD (p / 64) 0 = ws.getD (p / 64) 0 ||| 2 ^ (p % 64) := by
      simp [List.getD, hi]
    rw [e, Nat.testBit_or, Nat.testBit_two_pow]
    simp
    rfl
  · have e : (ws.set (p / 64) (ws.getD (p / 64) 0 ||| 2 ^ (p % 64))).getD i 0 = ws.getD i 0 := by
      simp [List.getD, List.getElem?_set, h]
    have h' : (p / 64 == i) = false := by simpa using h
    rw [e, h']; simp
theorem foldl_test (ps : List Int) (ws : List Nat) (i j : Nat) (hi : i < ws.length) : ((ps.foldl (fun ws p => orBit ws p.toNat) ws).getD i 0).testBit j = ((ws.getD i 0).testBit j || ps.any fun p => p.toNat / 64 == i && p.toNat % 64 == j) := by
  induction ps generalizing ws with
  | nil => simp
  | cons p ps ih =>
    rw [List.foldl_cons, ih (orBit ws p.toNat) (by rw [orBit_length]; exact hi), orBit_test ws p.toNat i j hi, List.any_cons, Bool.or_assoc]
theorem ofBits_test (n : Nat) (ps : List Int) (i j : Nat) (hi : i < nw n) : ((ofBits n ps).getD i 0).testBit j = ps.any fun p => p.toNat / 64 == i && p.toNat % 64 == j := by
  unfold ofBits
  rw [foldl_test ps _ i j (by simpa using hi)]
  have e : (List.replicate (nw n) 0).getD i 0 = 0 := by simp [List.getD, hi]
  rw [e]; simp
theorem from_of (n : Nat) (zs : List Int) (ht : there n zs = true) : fromL (bitsOf (ofInts zs n)) (nw n) = ofBits n zs := by
  apply List.ext_getElem
  · rw [fromL_len, ofBits_len]
  · intro i hi1 hi2
    have hi : i < nw n := by rw [fromL_len] at hi1; exact hi1
    have eo : (ofBits n zs)[i] = (ofBits n zs).getD i 0 := by simp [List.getD, hi2]
    simp only [fromL, List.getElem_map, List.getElem_range]
    rw [eo]
    apply Nat.eq_of_testBit_eq
    intro j
    rw [accM_bit _ _ _ _ (Nat.le_refl _), ofBits_test n zs i j hi]
    have hall : ∀ p ∈ zs, 0 ≤ p ∧ p < n := by
      intro p hp
      have := (List.all_eq_true.1 ht) p hp
      simpa using this
    by_cases hj : j < 64
    · have hd : decide (j < 64) = true := by simpa using hj
      rw [hd, Bool.true_and, show 64 * i + (64 - 64 + j) = 64 * i + j by omega]
      rw [Bool.eq_iff_iff, List.any_eq_true]
      unfold bitsOf
      rw [ofInts_len, Bool.and_eq_true]
      constructor
      · rintro ⟨h1, h2⟩
        have h1' : 64 * i + j < n := by simpa using h1
        rw [ofInts_get zs n _ h1'] at h2
        by_cases hc : hasB zs ((64 * i + j : Nat) : Int) = true
        · refine ⟨((64 * i + j : Nat) : Int), by simpa [hasB] using hc, ?_⟩
          rw [Int.toNat_natCast]
          simp
          omega
        · rw [if_neg hc] at h2
          simp at h2
      · rintro ⟨p, hp, hb⟩
        have hr := hall p hp
        obtain ⟨q, rfl⟩ := Int.eq_ofNat_of_zero_le hr.1
        rw [Int.toNat_natCast] at hb
        simp at hb
        have e : 64 * i + j = q := by omega
        have hq : q < n := by omega
        rw [e]
        refine ⟨by simpa using hq, ?_⟩
        rw [ofInts_get zs n q hq]
        have hc : hasB zs (q : Int) = true := by simpa [hasB] using hp
        rw [if_pos hc]; rfl
    · have hd : decide (j < 64) = false := by simpa using hj
      rw [hd, Bool.false_and]
      symm
      rw [List.any_eq_false]
      intro p _
      simp
      intro _
      omega
set_option maxHeartbeats 1000000 in
theorem refOf_any (n : Nat) (A : Option Addr) (l c : Nat) (zs : List Int) (w : World) (hz : Ints w A l zs) (hl : l ≤ 1000000) (hn : n ≤ 512) (ht : there n zs = true) :
    Calls Tryz.prog 45 #[.int .i64 n, .slice A l c] w (OneRow n (ofBits n zs) w) := by
  obtain ⟨i0, hi, hz0, hz1, hz2⟩ := info_parts int_info
  have q0 := Box.new w 56 #[.int .i64 0, .slice none 0 0]
  have hW : Below w.heap.size w (w.alloc (.cells #[.int .i64 0, .slice none 0 0] 56)) := (Below.refl _ _).alloc (Nat.le_refl _) _
  go_enter Tryz.func45, Tryz.ntmps45
  go_wp2
  have how := own_empty (w.alloc (.cells #[.int .i64 0, .slice none 0 0] 56)) w.heap.size 3 hW.size
  simp only [World.size_alloc] at how
  have HOw := Lib.hid how
  have Q0 := Lib.hid (q0.alloc (.cells #[] 3))
  have HW := Lib.hid (hW.alloc hW.size (.cells #[] 3))
  have HZ := Lib.hid hz
  have HT := Lib.hid ht
  clear how q0 hW hz ht
  have HI := Lib.hid hi
  have HZ0 := Lib.hid hz0
  have HZ1 := Lib.hid hz1
  have HZ2 := Lib.hid hz2
  clear hi hz0 hz1 hz2
  have hne := Lib.hid (show (3 : TypeId) ≠ 56 by decide)
  go_loopw [5, 6] (fun v t wr => ∃ i : Nat, i ≤ n ∧ t = .int .i64 i ∧ wr.ownsRow w.heap.size 3 1 v i ((ofInts zs i).map (Value.int .i64)) ∧ Box wr w.heap.size 56 #[.int .i64 0, .slice none 0 0] ∧ Below w.heap.size w wr)
    (fun _ t _ => n - (intOf t).toNat)
  case atStart => exact ⟨0, by omega, rfl, HOw.out, Q0.out, HW.out⟩
  case round =>
    obtain ⟨i, hi, rfl, hown, B0, hbel⟩ := hrel
    have R0 := Lib.hid B0
    have HO := Lib.hid hown
    have HB := Lib.hid hbel
    clear B0 hown hbel Q0 HW HOw
    by_cases hlt : i < n
    · have hlt' : (i : Int) < (n : Int) := by omega
      go_wp2_with fail
      refine (in_any A l c zs i _ (HZ.out.below HB.out) (by omega)).mono ?_
      rintro e w' ⟨rfl, rfl⟩
      have hi' := HI.out
      have hz0' := HZ0.out
      have hz1' := HZ1.out
      have hz2' := HZ2.out
      cases hc : hasB zs (i : Int) with
      | true =>
        have HS : Hid (ofInts zs (i + 1) = ofInts zs i ++ [1]) := by
          show _ = _
          rw [ofInts_succ, hc]; rfl
        clear hc
        have X0 := Lib.hid (R0.out.alloc (.cells #[.int .i64 1] 3))
        have XO := Lib.hid (HO.out.alloc (.cells #[.int .i64 1] 3))
        have XB := Lib.hid (HB.out.alloc HB.out.size (.cells #[.int .i64 1] 3))
        have N0 := Lib.hid (own_ne XO.out X0.out hne.out)
        have N2 := Lib.hid (fun k hk => (HO.out.lt k hk).1)
        go_wp2_with (at_builtin; refine wpList_append_own _ rfl _ _ 66 rfl w.heap.size 3 i0 (.int .i64 0) 1 8 Tryz.underlying66 hi' hz0' hz1' hz2' rfl (by decide) _ _ _ rfl XO.out ⟨wr.heap.size, 0, none⟩ 1 1 [.int .i64 1] rfl rfl (cell_one_new _ _ _) (by simp [Value.oneCell']) (by simp [maxLen]; omega) (by omega) XB.out.size ?_; intro v' w1 hown' hgrow _; have S0 := Lib.hid (X0.out.grown hgrow N0.out); have HC := Lib.hid (XB.out.grown hgrow XB.out.size N2.out); have HO2 := Lib.hid hown'; clear hown' hgrow)
        go_roundw
        case rel =>
          refine ⟨i + 1, by omega, by go_num, ?_, S0.out, HC.out⟩
          rw [HS.out, List.map_append]
          exact HO2.out
        case measure => simp [intOf] <;> omega
      | false =>
        have HS : Hid (ofInts zs (i + 1) = ofInts zs i ++ [0]) := by
          show _ = _
          rw [ofInts_succ, hc]; rfl
        clear hc
        have X0 := Lib.hid (R0.out.alloc (.cells #[.int .i64 0] 3))
        have XO := Lib.hid (HO.out.alloc (.cells #[.int .i64 0] 3))
        have XB := Lib.hid (HB.out.alloc HB.out.size (.cells #[.int .i64 0] 3))
        have N0 := Lib.hid (own_ne XO.out X0.out hne.out)
        have N2 := Lib.hid (fun k hk => (HO.out.lt k hk).1)
        go_wp2_with (at_builtin; refine wpList_append_own _ rfl _ _ 66 rfl w.heap.size 3 i0 (.int .i64 0) 1 8 Tryz.underlying66 hi' hz0' hz1' hz2' rfl (by decide) _ _ _ rfl XO.out ⟨wr.heap.size, 0, none⟩ 1 1 [.int .i64 0] rfl rfl (cell_one_new _ _ _) (by simp [Value.oneCell']) (by simp [maxLen]; omega) (by omega) XB.out.size ?_; intro v' w1 hown' hgrow _; have S0 := Lib.hid (X0.out.grown hgrow N0.out); have HC := Lib.hid (XB.out.grown hgrow XB.out.size N2.out); have HO2 := Lib.hid hown'; clear hown' hgrow)
        go_roundw
        case rel =>
          refine ⟨i + 1, by omega, by go_num, ?_, S0.out, HC.out⟩
          rw [HS.out, List.map_append]
          exact HO2.out
        case measure => simp [intOf] <;> omega
    · obtain rfl : i = n := by omega
      have hlt' : ¬ (i : Int) < (i : Int) := by omega
      obtain ⟨A', c', rfl, hA'⟩ := own_form HO.out
      go_wp2_with fail
      refine (from_any A' i c' _ _ (own_ints HO.out (ofInts_lt zs i)) (by omega)).mono ?_
      rintro e x1 ⟨A1, l1, c1, rfl, hw, hb⟩
      have P0 := Lib.hid (R0.out.keep hb)
      have T1 := Lib.hid (chain HB.out hb)
      have HWo := Lib.hid hw
      clear hw hb
      obtain ⟨r0, r1, r2, r3⟩ := P0.out.two
      go_wp2
      refine close_one Tryz.results45 rfl rfl P0.out.put2 Tryz.underlying56 rfl (by kernel_rfl) ⟨_, _, _, rfl, ?_, ?_⟩
      · have h := HWo.out
        rw [from_of i zs HT.out] at h
        exact h.put2 P0.out _ _
      · exact (T1.out.setCell (p := ⟨w.heap.size, 0, none⟩) (Nat.le_refl _) _).setCell (p := ⟨w.heap.size, 1, none⟩) (Nat.le_refl _) _
end
section
/- Contracts of the reference's layer 8: Places, Row. -/
set_option linter.unusedVariables false
set_option linter.unusedSimpArgs false
open Go.RowKit
def RPlOut (k id : Nat) (w : World) (e : Ending) (w' : World) : Prop :=
  ∃ v, e = .returned v ∧ w'.ownsRow w.heap.size 3 1 v (nbMany k id) ((nbL k id).map natV) ∧ Below w.heap.size w w'
set_option maxRecDepth 100000 in
set_option maxHeartbeats 1000000 in
theorem refPlaces_any (k id : Nat) (h1 : 1 ≤ k) (h2 : k ≤ 64) (hi : id < 18446744073709551616) (w : World) : Calls Tryz.prog 46 #[.int .i64 k, .int .u64 id] w (RPlOut k id w) := by
  have HST := Lib.hid (refMixed_any id hi)
  have HTB := Lib.hid (refTable_any k h1 h2)
  have HR := Lib.hid (nbMany_range k id h1 h2)
  have HTK := Lib.hid (tab_k k h1 h2)
  have HTL := Lib.hid (show (tbl (wgts k k)).length = k by rw [tbl_len, wgts_len])
  have HTW := Lib.hid (tbl_lt (wgts k k))
  have HSM := Lib.hid (refSome_any (nbState id) k (nbMany k id) (nbState_lt id) h1 (by omega) HR.out.2)
  have HX := Lib.hid (refMixed_any (nbState id) (nbState_lt id))
  have HXL := Lib.hid (mixN_lt (nbState id))
  have HNL := Lib.hid (nb_len k id h1 h2)
  have HPK := Lib.hid (show nbMany k id = pickD (tbl (wgts k k)) (mixN (nbState id)) from rfl)
  have HE := Lib.hid (show IntKind.u64.wrap (((mixN id : Nat) : Int) + 11400714819323198485) = ((nbState id : Nat) : Int) by rw [IntKind.wrap_u64, nbState, nextS]; rfl)
  have HF : ∀ (x v : Value) (w : World), (Instr.field 93 (.agg #[x, v]) 1).run Tryz.prog w = .ok v w := fun _ _ _ => by kernel_rfl
  go_enter Tryz.func46, Tryz.ntmps46
  go_wp2_with fail
  refine (HST.out _).mono ?_
  rintro e w1 ⟨rfl, rfl⟩
  go_wp2_with fail
  refine (HTB.out _).mono ?_
  rintro e w1 ⟨v, rfl, hown, hb⟩
  rw [HTL.out] at hown
  obtain ⟨A, c, rfl, hlc, hcm, hw⟩ := own_slice hown HTW.out
  have HW := Lib.hid hw
  have B := Lib.hid hb
  clear hown hw hb HST HTB
  go_wp2_with fail
  try rw [HE.out]
  refine (HX.out _).mono ?_
  rintro e w2 ⟨rfl, rfl⟩
  go_wp2_with fail
  refine (refPick_any A k c _ _ _ HW.out (by unfold maxLen; omega) hlc HXL.out HTK.out).mono ?_
  rintro e w2 ⟨rfl, q, rfl⟩
  rw [← HPK.out]
  have B := Lib.hid (bdN B.out q)
  clear HW
  go_wp2_with fail
  try rw [HE.out]
  refine (HSM.out _).mono ?_
  rintro e w3 ⟨v, rfl, hown, hb⟩
  have B3 := Lib.hid (chain B.out hb)
  have hsz := B.out.size
  have hf := HF (.int .u64 ((shufN k (nbState id)).1 : Nat)) v
  go_wp2_with fail
  go_ret
  refine ⟨v, rfl, ?_, B3.out⟩
  have h := own_low hown hsz
  rw [show (someN k (nbMany k id) (nbState id)).length = nbMany k id from HNL.out] at h
  exact h
set_option maxHeartbeats 1000000 in
theorem refRow_any (k id : Nat) (h1 : 1 ≤ k) (h2 : k ≤ 64) (hi : id < 18446744073709551616) (w : World) : Calls Tryz.prog 24 #[.int .i64 k, .int .u64 id] w (OneRow k (nbRow k id) w) := by
  have HS := Lib.hid (refPlaces_any k id h1 h2 hi)
  have HM := Lib.hid (nbMany_range k id h1 h2)
  have HT := Lib.hid (nb_there k id)
  have q0 := Box.new w 56 #[.int .i64 0, .slice none 0 0]
  have Q0 := Lib.hid q0
  have HW := Lib.hid (show Below w.heap.size w (w.alloc (.cells #[.int .i64 0, .slice none 0 0] 56)) from (Below.refl _ _).alloc (Nat.le_refl _) _)
  clear q0
  go_enter Tryz.func24, Tryz.ntmps24
  go_wp2_with fail
  refine (HS.out _).mono ?_
  rintro e w1 ⟨v, rfl, hown, hb⟩
  obtain ⟨A, c, rfl, hA⟩ := own_form hown
  have Q0 := Lib.hid (Q0.out.keep hb)
  have HW := Lib.hid (chain HW.out hb)
  have HI := Lib.hid (own_natInts hown (some_bound k _ _ (by omega)))
  clear hown hb
  go_wp2_with fail
  refine (refOf_any k A (nbMany k id) c _ _ HI.out (by have := HM.out.2; omega) (by omega) HT.out).mono ?_
  rintro e w2 ⟨A2, l, c2, rfl, hw, hb⟩
  have P0 := Lib.hid (Q0.out.keep hb)
  have T1 := Lib.hid (chain HW.out hb)
  have HWo := Lib.hid hw
  clear hw hb
  obtain ⟨r0, r1, r2, r3⟩ := P0.out.two
  go_wp2
  refine close_one Tryz.results24 rfl rfl P0.out.put2 Tryz.underlying56 rfl (by kernel_rfl) ⟨_, _, _, rfl, HWo.out.put2 P0.out _ _, ?_⟩
  exact (T1.out.setCell (p := ⟨w.heap.size, 0, none⟩) (Nat.le_refl _) _).setCell (p := ⟨w.heap.size, 1, none⟩) (Nat.le_refl _) _
end
section
/- The reference's From and Of: rows of words of the call's own. -/
set_option linter.unusedVariables false
set_option linter.unusedSimpArgs false
open Go.RowKit
set_option maxHeartbeats 1000000 in
theorem from_own (A : Option Addr) (l c : Nat) (zs : List Int) (w : World) (hz : Ints w A l zs) (hl : l ≤ 10000) :
    Calls Tryz.prog 59 #[.slice A l c] w (OneOwn l (fromL (bitsOf zs) (nw l)) w) := by
  obtain ⟨i0, hi, hz0, hz1, hz2⟩ := info_parts u64_info
  have hnw : nw l ≤ 1000 := by unfold nw; omega
  have Q0 := Lib.hid ((Box.new w 56 #[.int .i64 0, .slice none 0 0]).alloc (.cells #[.int .i64 l, .slice none 0 0] 56))
  have q1 := Box.new (w.alloc (.cells #[.int .i64 0, .slice none 0 0] 56)) 56 #[.int .i64 l, .slice none 0 0]
  simp only [World.size_alloc] at q1
  have Q1 := Lib.hid q1
  have HW := Lib.hid (show Below w.heap.size w ((w.alloc (.cells #[.int .i64 0, .slice none 0 0] 56)).alloc (.cells #[.int .i64 l, .slice none 0 0] 56)) from ((Below.refl _ _).alloc (Nat.le_refl _) _).alloc (by simp) _)
  have HZ := Lib.hid hz
  clear hz q1
  have HI := Lib.hid hi
  have HZ0 := Lib.hid hz0
  have HZ1 := Lib.hid hz1
  have HZ2 := Lib.hid hz2
  clear hi hz0 hz1 hz2
  go_enter Tryz.func59, Tryz.ntmps59
  go_wp2
  go_loopw [4] (fun t wr => ∃ (i : Nat) (v : Value), i ≤ nw l ∧ t = .int .i64 i ∧ Box wr (w.heap.size + 1) 56 #[.int .i64 l, v] ∧ wr.ownsRow w.heap.size 44 1 v i ((fromL (bitsOf zs) i).map fun (x : Nat) => Value.int .u64 (x : Int)) ∧ Box wr w.heap.size 56 #[.int .i64 0, .slice none 0 0] ∧ Below w.heap.size w wr)
    (fun t _ => nw l - (intOf t).toNat)
  case atStart => exact ⟨0, _, by omega, rfl, Q1.out, World.ownsRow_nil _ _ _ _, Q0.out, HW.out⟩
  case round =>
    obtain ⟨i, v, hi, rfl, B1, hown, B0, hbel⟩ := hrel
    have R1 := Lib.hid B1
    have R0 := Lib.hid B0
    have HO := Lib.hid hown
    have HB := Lib.hid hbel
    clear B1 B0 hown hbel Q0 Q1 HW
    by_cases hlt : i < nw l
    · go_wp2_with fail
      refine (refWords_any l (by omega) _).mono ?_
      rintro e w' ⟨rfl, rfl⟩
      go_wp2
      go_loop [6, 5] (fun s x => ∃ k : Nat, k ≤ 64 ∧ s = .int .i64 ((k : Int) - 1) ∧ x = .int .u64 (accM (bitsOf zs) i (64 - k) : Nat)) (fun s _ => (intOf s + 1).toNat)
      case atStart => exact ⟨64, by omega, rfl, rfl⟩
      case round =>
        obtain ⟨k, hk, rfl, rfl⟩ := hrel
        cases k with
        | zero =>
          obtain ⟨A', c', rfl, hA'⟩ := own_form HO.out
          obtain ⟨a0, a1, f0, f1⟩ := R1.out.two
          have hz := R1.out.lt
          have hacc := accM_lt (bitsOf zs) i 64
          generalize hX : accM (bitsOf zs) i (64 - 0) = x at *
          have HX := Lib.hid hX
          clear hX
          have hi' := HI.out
          have hz0' := HZ0.out
          have hz1' := HZ1.out
          have hz2' := HZ2.out
          have hne : (44 : TypeId) ≠ 56 := by decide
          have X1 := Lib.hid (R1.out.alloc (.cells #[.int .u64 (x : Int)] 44))
          have X0 := Lib.hid (R0.out.alloc (.cells #[.int .u64 (x : Int)] 44))
          have XO := Lib.hid (HO.out.alloc (.cells #[.int .u64 (x : Int)] 44))
          have XB := Lib.hid (HB.out.alloc HB.out.size (.cells #[.int .u64 (x : Int)] 44))
          have N1 := Lib.hid (own_ne XO.out X1.out hne)
          have N0 := Lib.hid (own_ne XO.out X0.out hne)
          have hsz : w.heap.size ≤ (wr.alloc (.cells #[.int .u64 (x : Int)] 44)).heap.size := XB.out.size
          have HSZ := Lib.hid hsz
          have N2 := Lib.hid (fun k hk => (HO.out.lt k hk).1)
          clear hsz hne
          go_wp2_with (at_builtin; refine wpList_append_own _ rfl _ _ 47 rfl w.heap.size 44 i0 (.int .u64 0) 1 8 Tryz.underlying47 hi' hz0' hz1' hz2' rfl (by decide) _ _ _ rfl XO.out ⟨wr.heap.size, 0, none⟩ 1 1 [.int .u64 (x : Int)] rfl rfl (cell_one_new _ _ _) (by simp [Value.oneCell']) (by simp [maxLen]; omega) (by omega) HSZ.out ?_; intro v' w1 hown' hgrow _; obtain ⟨A2, c2, rfl, hA2⟩ := own_form hown'; have S1 := Lib.hid (X1.out.grown hgrow N1.out); have S0 := Lib.hid (X0.out.grown hgrow N0.out); have HC := Lib.hid (XB.out.grown hgrow HSZ.out N2.out); have HO2 := Lib.hid hown'; clear hown' hgrow hA2; obtain ⟨e0, e1, g0, g1⟩ := S1.out.two)
          go_roundw
          case rel =>
            refine ⟨i + 1, _, by omega, by go_num, S1.out.put 1 _, ?_, S0.out.far (p := ⟨w.heap.size + 1, 1, none⟩) (by simp) _, HC.out.setCell (p := ⟨w.heap.size + 1, 1, none⟩) (by simp) _⟩
            have h1 := HO2.out
            rw [fromL_succ, List.map_append]
            have h2 : (accM (bitsOf zs) i 64) = x := HX.out
            rw [List.map_cons, List.map_nil, h2]
            exact own_far h1 S1.out (by decide) 1 _
          case measure => simp [intOf] <;> omega
        | succ j =>
          rw [show (((j + 1 : Nat) : Int) - 1) = (j : Int) by omega]
          have hx := accM_lt (bitsOf zs) i (64 - (j + 1))
          have hp : 2 ^ (64 - (j + 1)) ≤ 2 ^ 63 := Nat.pow_le_pow_right (by omega) (by omega)
          have hx2 : accM (bitsOf zs) i (64 - (j + 1)) < 9223372036854775808 := by omega
          have HS : Hid (accM (bitsOf zs) i (64 - j) = 2 * accM (bitsOf zs) i (64 - (j + 1)) + if bitsOf zs (64 * i + j) then 1 else 0) := by
            show _ = _
            rw [show 64 - j = (64 - (j + 1)) + 1 by omega]
            simp only [accM]
            rw [show 63 - (64 - (j + 1)) = j by omega]
          clear hx hp
          generalize accM (bitsOf zs) i (64 - (j + 1)) = x at *
          by_cases hin : 64 * i + j < l
          · obtain ⟨b, o, rfl, hlb, hc⟩ := HZ.out.2.2 (by omega)
            have cz := (HB.out.cell (p := ⟨b, o + (64 * i + j), none⟩) hlb).trans (hc (64 * i + j) hin)
            have hin' : 64 * (i : Int) + j < l := by omega
            obtain ⟨y, ey⟩ : ∃ y, y = zs.getD (64 * i + j) 0 := ⟨_, rfl⟩
            rw [← ey] at cz
            have EY := Lib.hid ey
            clear ey hc
            by_cases hy : y = 1
            · have t1 : (y == 1) = true := by simpa using hy
              clear hy
              have HB1 : Hid (bitsOf zs (64 * i + j) = true) := by
                show bitsOf zs (64 * i + j) = true
                unfold bitsOf
                rw [← EY.out, t1, HZ.out.1]
                simpa using hin
              go_wp2
              go_round
              case rel => exact ⟨j, by omega, rfl, by rw [HS.out, HB1.out]; first | rfl | go_num⟩
              case measure => simp [intOf] <;> omega
            · have t1 : (y == 1) = false := by simpa using hy
              clear hy
              have HB1 : Hid (bitsOf zs (64 * i + j) = false) := by
                show bitsOf zs (64 * i + j) = false
                unfold bitsOf
                rw [← EY.out, t1]; simp
              go_wp2
              go_round
              case rel => exact ⟨j, by omega, rfl, by rw [HS.out, HB1.out]; first | rfl | go_num⟩
              case measure => simp [intOf] <;> omega
          · have hin' : ¬ 64 * (i : Int) + j < l := by omega
            have HB1 : Hid (bitsOf zs (64 * i + j) = false) := by
              show bitsOf zs (64 * i + j) = false
              unfold bitsOf
              rw [HZ.out.1]; simp; omega
            go_wp2
            go_round
            case rel => exact ⟨j, by omega, rfl, by rw [HS.out, HB1.out]; first | rfl | go_num⟩
            case measure => simp [intOf] <;> omega
    · obtain rfl : i = nw l := by omega
      obtain ⟨A', c', rfl, hA'⟩ := own_form HO.out
      obtain ⟨a0, a1, -, -⟩ := R1.out.two
      obtain ⟨b0, b1, f0, f1⟩ := R0.out.two
      go_wp2_with fail
      refine (refWords_any l (by omega) _).mono ?_
      rintro e w' ⟨rfl, rfl⟩
      go_wp2
      refine close_one Tryz.results59 rfl rfl R0.out.put2 Tryz.underlying56 rfl (by kernel_rfl) ⟨_, _, _, rfl, ?_, ?_⟩
      · exact OwnW.put2 (own_low HO.out (Nat.zero_le _)) R0.out _ _
      · exact (HB.out.setCell (p := ⟨w.heap.size, 0, none⟩) (Nat.le_refl _) _).setCell (p := ⟨w.heap.size, 1, none⟩) (Nat.le_refl _) _
set_option maxHeartbeats 1000000 in
theorem refOf_own (n : Nat) (A : Option Addr) (l c : Nat) (zs : List Int) (w : World) (hz : Ints w A l zs) (hl : l ≤ 1000000) (hn : n ≤ 512) (ht : there n zs = true) :
    Calls Tryz.prog 45 #[.int .i64 n, .slice A l c] w (OneOwn n (ofBits n zs) w) := by
  obtain ⟨i0, hi, hz0, hz1, hz2⟩ := info_parts int_info
  have q0 := Box.new w 56 #[.int .i64 0, .slice none 0 0]
  have hW : Below w.heap.size w (w.alloc (.cells #[.int .i64 0, .slice none 0 0] 56)) := (Below.refl _ _).alloc (Nat.le_refl _) _
  go_enter Tryz.func45, Tryz.ntmps45
  go_wp2
  have how := own_empty (w.alloc (.cells #[.int .i64 0, .slice none 0 0] 56)) w.heap.size 3 hW.size
  simp only [World.size_alloc] at how
  have HOw := Lib.hid how
  have Q0 := Lib.hid (q0.alloc (.cells #[] 3))
  have HW := Lib.hid (hW.alloc hW.size (.cells #[] 3))
  have HZ := Lib.hid hz
  have HT := Lib.hid ht
  clear how q0 hW hz ht
  have HI := Lib.hid hi
  have HZ0 := Lib.hid hz0
  have HZ1 := Lib.hid hz1
  have HZ2 := Lib.hid hz2
  clear hi hz0 hz1 hz2
  have hne := Lib.hid (show (3 : TypeId) ≠ 56 by decide)
  go_loopw [5, 6] (fun v t wr => ∃ i : Nat, i ≤ n ∧ t = .int .i64 i ∧ wr.ownsRow w.heap.size 3 1 v i ((ofInts zs i).map (Value.int .i64)) ∧ Box wr w.heap.size 56 #[.int .i64 0, .slice none 0 0] ∧ Below w.heap.size w wr)
    (fun _ t _ => n - (intOf t).toNat)
  case atStart => exact ⟨0, by omega, rfl, HOw.out, Q0.out, HW.out⟩
  case round =>
    obtain ⟨i, hi, rfl, hown, B0, hbel⟩ := hrel
    have R0 := Lib.hid B0
    have HO := Lib.hid hown
    have HB := Lib.hid hbel
    clear B0 hown hbel Q0 HW HOw
    by_cases hlt : i < n
    · have hlt' : (i : Int) < (n : Int) := by omega
      go_wp2_with fail
      refine (in_any A l c zs i _ (HZ.out.below HB.out) (by omega)).mono ?_
      rintro e w' ⟨rfl, rfl⟩
      have hi' := HI.out
      have hz0' := HZ0.out
      have hz1' := HZ1.out
      have hz2' := HZ2.out
      cases hc : hasB zs (i : Int) with
      | true =>
        have HS : Hid (ofInts zs (i + 1) = ofInts zs i ++ [1]) := by
          show _ = _
          rw [ofInts_succ, hc]; rfl
        clear hc
        have X0 := Lib.hid (R0.out.alloc (.cells #[.int .i64 1] 3))
        have XO := Lib.hid (HO.out.alloc (.cells #[.int .i64 1] 3))
        have XB := Lib.hid (HB.out.alloc HB.out.size (.cells #[.int .i64 1] 3))
        have N0 := Lib.hid (own_ne XO.out X0.out hne.out)
        have N2 := Lib.hid (fun k hk => (HO.out.lt k hk).1)
        go_wp2_with (at_builtin; refine wpList_append_own _ rfl _ _ 66 rfl w.heap.size 3 i0 (.int .i64 0) 1 8 Tryz.underlying66 hi' hz0' hz1' hz2' rfl (by decide) _ _ _ rfl XO.out ⟨wr.heap.size, 0, none⟩ 1 1 [.int .i64 1] rfl rfl (cell_one_new _ _ _) (by simp [Value.oneCell']) (by simp [maxLen]; omega) (by omega) XB.out.size ?_; intro v' w1 hown' hgrow _; have S0 := Lib.hid (X0.out.grown hgrow N0.out); have HC := Lib.hid (XB.out.grown hgrow XB.out.size N2.out); have HO2 := Lib.hid hown'; clear hown' hgrow)
        go_roundw
        case rel =>
          refine ⟨i + 1, by omega, by go_num, ?_, S0.out, HC.out⟩
          rw [HS.out, List.map_append]
          exact HO2.out
        case measure => simp [intOf] <;> omega
      | false =>
        have HS : Hid (ofInts zs (i + 1) = ofInts zs i ++ [0]) := by
          show _ = _
          rw [ofInts_succ, hc]; rfl
        clear hc
        have X0 := Lib.hid (R0.out.alloc (.cells #[.int .i64 0] 3))
        have XO := Lib.hid (HO.out.alloc (.cells #[.int .i64 0] 3))
        have XB := Lib.hid (HB.out.alloc HB.out.size (.cells #[.int .i64 0] 3))
        have N0 := Lib.hid (own_ne XO.out X0.out hne.out)
        have N2 := Lib.hid (fun k hk => (HO.out.lt k hk).1)
        go_wp2_with (at_builtin; refine wpList_append_own _ rfl _ _ 66 rfl w.heap.size 3 i0 (.int .i64 0) 1 8 Tryz.underlying66 hi' hz0' hz1' hz2' rfl (by decide) _ _ _ rfl XO.out ⟨wr.heap.size, 0, none⟩ 1 1 [.int .i64 0] rfl rfl (cell_one_new _ _ _) (by simp [Value.oneCell']) (by simp [maxLen]; omega) (by omega) XB.out.size ?_; intro v' w1 hown' hgrow _; have S0 := Lib.hid (X0.out.grown hgrow N0.out); have HC := Lib.hid (XB.out.grown hgrow XB.out.size N2.out); have HO2 := Lib.hid hown'; clear hown' hgrow)
        go_roundw
        case rel =>
          refine ⟨i + 1, by omega, by go_num, ?_, S0.out, HC.out⟩
          rw [HS.out, List.map_append]
          exact HO2.out
        case measure => simp [intOf] <;> omega
    · obtain rfl : i = n := by omega
      have hlt' : ¬ (i : Int) < (i : Int) := by omega
      obtain ⟨A', c', rfl, hA'⟩ := own_form HO.out
      go_wp2_with fail
      refine (from_own A' i c' _ _ (own_ints HO.out (ofInts_lt zs i)) (by omega)).mono ?_
      rintro e x1 ⟨A1, l1, c1, rfl, hw, hb⟩
      have P0 := Lib.hid (R0.out.keep hb)
      have T1 := Lib.hid (chain HB.out hb)
      have HWo := Lib.hid hw
      clear hw hb
      obtain ⟨r0, r1, r2, r3⟩ := P0.out.two
      go_wp2
      refine close_one Tryz.results45 rfl rfl P0.out.put2 Tryz.underlying56 rfl (by kernel_rfl) ⟨_, _, _, rfl, ?_, ?_⟩
      · have h := HWo.out
        rw [from_of i zs HT.out] at h
        exact h.put2 P0.out _ _
      · exact (T1.out.setCell (p := ⟨w.heap.size, 0, none⟩) (Nat.le_refl _) _).setCell (p := ⟨w.heap.size, 1, none⟩) (Nat.le_refl _) _
end
section
/- The reference's From, Of, Row: rows of words of the call's own. -/
set_option linter.unusedVariables false
set_option linter.unusedSimpArgs false
open Go.RowKit
set_option maxHeartbeats 1000000 in
theorem refRow_own (k id : Nat) (h1 : 1 ≤ k) (h2 : k ≤ 64) (hi : id < 18446744073709551616) (w : World) : Calls Tryz.prog 24 #[.int .i64 k, .int .u64 id] w (OneOwn k (nbRow k id) w) := by
  have HS := Lib.hid (refPlaces_any k id h1 h2 hi)
  have HM := Lib.hid (nbMany_range k id h1 h2)
  have HT := Lib.hid (nb_there k id)
  have q0 := Box.new w 56 #[.int .i64 0, .slice none 0 0]
  have Q0 := Lib.hid q0
  have HW := Lib.hid (show Below w.heap.size w (w.alloc (.cells #[.int .i64 0, .slice none 0 0] 56)) from (Below.refl _ _).alloc (Nat.le_refl _) _)
  clear q0
  go_enter Tryz.func24, Tryz.ntmps24
  go_wp2_with fail
  refine (HS.out _).mono ?_
  rintro e w1 ⟨v, rfl, hown, hb⟩
  obtain ⟨A, c, rfl, hA⟩ := own_form hown
  have Q0 := Lib.hid (Q0.out.keep hb)
  have HW := Lib.hid (chain HW.out hb)
  have HI := Lib.hid (own_natInts hown (some_bound k _ _ (by omega)))
  clear hown hb
  go_wp2_with fail
  refine (refOf_own k A (nbMany k id) c _ _ HI.out (by have := HM.out.2; omega) (by omega) HT.out).mono ?_
  rintro e w2 ⟨A2, l, c2, rfl, hw, hb⟩
  have P0 := Lib.hid (Q0.out.keep hb)
  have T1 := Lib.hid (chain HW.out hb)
  have HWo := Lib.hid hw
  clear hw hb
  obtain ⟨r0, r1, r2, r3⟩ := P0.out.two
  go_wp2
  refine close_one Tryz.results24 rfl rfl P0.out.put2 Tryz.underlying56 rfl (by kernel_rfl) ⟨_, _, _, rfl, HWo.out.put2 P0.out _ _, ?_⟩
  exact (T1.out.setCell (p := ⟨w.heap.size, 0, none⟩) (Nat.le_refl _) _).setCell (p := ⟨w.heap.size, 1, none⟩) (Nat.le_refl _) _
end
section
/- The reference's Rows. -/
set_option linter.unusedVariables false
set_option linter.unusedSimpArgs false
open Go.RowKit
/-- What the reference's Rows hands back. -/
def MatRet (k : Nat) (f : Nat → List Nat) (zs : List Nat) (w : World) (e : Ending) (w' : World) : Prop :=
  ∃ v, e = .returned (.agg #[.int .i64 k, v]) ∧ MatW w' w.heap.size k v (zs.map f) ∧ Below w.heap.size w w'
end
section
/- The reference's Same of two matrices. -/
set_option linter.unusedVariables false
set_option linter.unusedSimpArgs false
open Go.RowKit
theorem flatR_at (k : Int) (rs : List (Option Addr × Nat × Nat)) (j : Nat) (hj : j < rs.length) : (flatR k rs)[j * 2]? = some (.int .i64 k) ∧ (flatR k rs)[j * 2 + 1]? = some (.slice (rs.getD j (none, 0, 0)).1 (rs.getD j (none, 0, 0)).2.1 (rs.getD j (none, 0, 0)).2.2) := by
  induction rs generalizing j with
  | nil => cases hj
  | cons r rs ih =>
    have e : flatR k (r :: rs) = .int .i64 k :: .slice r.1 r.2.1 r.2.2 :: flatR k rs := rfl
    cases j with
    | zero => rw [e]; exact ⟨rfl, rfl⟩
    | succ j =>
      have h := ih j (by simpa using hj)
      rw [e, show (j + 1) * 2 = j * 2 + 1 + 1 by omega]
      exact h
theorem add_zero_off (g j : Nat) : (⟨g, 0, none⟩ : Addr).add j = ⟨g, j, none⟩ := by unfold Addr.add; split <;> simp_all
theorem MatW.at {w : World} {base : Nat} {k : Int} {A : Option Addr} {n c : Nat} {ls : List (List Nat)} (h : MatW w base k (.slice A n c) ls) (j : Nat) (hj : j < ls.length) :
    ∃ g B l d, A = some ⟨g, 0, none⟩ ∧ g < w.heap.size ∧ w.cell? ⟨g, j * 2, none⟩ = some (.int .i64 k) ∧ w.cell? ⟨g, j * 2 + 1, none⟩ = some (.slice B l d) ∧ OwnW w B l d (ls.getD j []) := by
  obtain ⟨rs, h1, h2, h3⟩ := h
  obtain ⟨f1, f2⟩ := flatR_at k rs j (by omega)
  have h3 := h3 j hj
  have hA := h2.2
  rcases hA with ⟨-, h0⟩ | ⟨g, cap, cur, hv, -⟩
  · omega
  · injection hv with hA _ _
    subst hA
    have hc := World.ownsRow.cells h2 (g := g) rfl
    have c1 := hc _ _ f1
    have c2 := hc _ _ f2
    rw [add_zero_off] at c1 c2
    exact ⟨g, _, _, _, rfl, (h2.lt g rfl).2, c1, c2, h3⟩
set_option maxRecDepth 100000 in
set_option maxHeartbeats 2000000 in
theorem same3_yes (k : Int) (b1 b2 n m1 m2 : Nat) (A1 A2 : Option Addr) (ls : List (List Nat)) (w : World) (h1 : MatW w b1 k (.slice A1 n m1) ls) (h2 : MatW w b2 k (.slice A2 n m2) ls) (hn : ls.length = n) (hw : ∀ j i, (ls.getD j []).getD i 0 < 18446744073709551616) (hr : ∀ j, (ls.getD j []).length ≤ 1000) (hl : n ≤ 1000) :
    Calls Tryz.prog 11 #[.agg #[.int .i64 k, .slice A1 n m1], .agg #[.int .i64 k, .slice A2 n m2]] w fun e w' => e = .returned (.bool true) ∧ Below w.heap.size w w' := by
  have q0 := (Box.new w 28 #[.int .i64 k, .slice A1 n m1]).alloc (.cells #[.int .i64 k, .slice A2 n m2] 28)
  have q1 := Box.new (w.alloc (.cells #[.int .i64 k, .slice A1 n m1] 28)) 28 #[.int .i64 k, .slice A2 n m2]
  have HW := Lib.hid (show Below w.heap.size w ((w.alloc (.cells #[.int .i64 k, .slice A1 n m1] 28)).alloc (.cells #[.int .i64 k, .slice A2 n m2] 28)) from ((Below.refl _ _).alloc (Nat.le_refl _) _).alloc (by simp) _)
  simp only [World.size_alloc] at q1
  have M1 := Lib.hid (h1.below HW.out)
  have M2 := Lib.hid (h2.below HW.out)
  have HU := Lib.hid hw
  have HR := Lib.hid hr
  have Q0 := Lib.hid q0
  have Q1 := Lib.hid q1
  clear h1 h2 hw hr q0 q1
  have t1 : (k != k) = false := by simp
  have t2 : (((n : Nat) : Int) != ((n : Nat) : Int)) = false := by simp
  have HN := Lib.hid hn
  clear hn
  go_enter Tryz.func11, Tryz.ntmps11
  go_wp2_with fail
  generalize (w.alloc (.cells #[.int .i64 k, .slice A1 n m1] 28)).alloc (.cells #[.int .i64 k, .slice A2 n m2] 28) = W at *
  obtain ⟨a0, a1, -, -⟩ := Q0.out.two
  obtain ⟨c0, c1, -, -⟩ := Q1.out.two
  have hz0 := Q0.out.lt
  have hz1 := Q1.out.lt
  try go_quiet (fail)
  go_wp2_with fail
  go_loopw [23] (fun t wr => ∃ i : Nat, i ≤ n ∧ t = .int .i64 i ∧ Hid (Below W.heap.size W wr)) (fun t _ => n - (intOf t).toNat)
  case atStart => exact ⟨0, by omega, rfl, Lib.hid (Below.refl _ _)⟩
  case round =>
    obtain ⟨i, hi, rfl, HB⟩ := hrel
    by_cases hlt : i < n
    · have hlt' : (i : Int) < (n : Int) := by omega
      obtain ⟨g1, B1, l1, d1, rfl, hg1, x1, y1, o1⟩ := (M1.out.below HB.out).at i (by rw [HN.out]; exact hlt)
      obtain ⟨g2, B2, l2, d2, rfl, hg2, x2, y2, o2⟩ := (M2.out.below HB.out).at i (by rw [HN.out]; exact hlt)
      have O1 := Lib.hid (o1.words (HU.out i))
      have O2 := Lib.hid (o2.words (HU.out i))
      clear o1 o2
      have R0 := Lib.hid (Q0.out.below HB.out hz0)
      have R1 := Lib.hid (Q1.out.below HB.out hz1)
      obtain ⟨e0, e1, -, -⟩ := R0.out.two
      obtain ⟨f0, f1, -, -⟩ := R1.out.two
      have LZ0 := Lib.hid R0.out.lt
      have LZ1 := Lib.hid R1.out.lt
      have LG1 := Lib.hid hg1
      have LG2 := Lib.hid hg2
      clear hg1 hg2
      have HSS := Lib.hid (show sameB k (ls.getD i []) k (ls.getD i []) = true by simp [sameB])
      go_wp2_with fail
      go_region_held3 (fun w' => w'.cell? ⟨w.heap.size, 1, none⟩ = some (.slice (some ⟨g1, 0, none⟩) n m1) ∧ w'.cell? ⟨w.heap.size + 1, 1, none⟩ = some (.slice (some ⟨g2, 0, none⟩) n m2) ∧ w'.cell? ⟨g1, i * 2, none⟩ = some (.int .i64 k) ∧ w'.cell? ⟨g1, i * 2 + 1, none⟩ = some (.slice B1 l1 d1) ∧ w'.cell? ⟨g2, i * 2, none⟩ = some (.int .i64 k) ∧ w'.cell? ⟨g2, i * 2 + 1, none⟩ = some (.slice B2 l2 d2)) (go_keep)
        (first
          | (go_at_call 23; refine (same_any k k B1 B2 l1 d1 l2 d2 _ _ _ O1.out.drew O2.out.drew (by have := O1.out.1; have := HR.out i; omega)).mono ?_; rintro ee ww ⟨rfl, hb⟩; rw [HSS.out]; have HB1 := Lib.hid (HB.out.drew.trans (hb.mono HB.out.size)); have e1' := (hb.cell (p := ⟨w.heap.size, 1, none⟩) LZ0.out).trans e1; have f1' := (hb.cell (p := ⟨w.heap.size + 1, 1, none⟩) LZ1.out).trans f1; have x1' := (hb.cell (p := ⟨g1, i * 2, none⟩) LG1.out).trans x1; have y1' := (hb.cell (p := ⟨g1, i * 2 + 1, none⟩) LG1.out).trans y1; have x2' := (hb.cell (p := ⟨g2, i * 2, none⟩) LG2.out).trans x2; have y2' := (hb.cell (p := ⟨g2, i * 2 + 1, none⟩) LG2.out).trans y2; clear hb))
      go_wp2_with fail
      go_roundw
      case rel => exact ⟨i + 1, by omega, by go_num, HB1⟩
      case measure => simp [intOf] <;> omega
    · obtain rfl : i = n := by omega
      have hlt' : ¬ (i : Int) < (i : Int) := by omega
      go_wp2
      go_ret
      exact ⟨rfl, HW.out.trans (HB.out.mono HW.out.size)⟩
end
section
/- NeighboursTell: the walk. -/
set_option linter.unusedVariables false
set_option linter.unusedSimpArgs false
open Go.RowKit
theorem Ints.drewI {w : World} {A : Option Addr} {len : Nat} {zs : List Int} (h : Ints w A len zs) : Ints w.drew A len zs := h
end
section
/- NeighboursRows: the walk. -/
set_option linter.unusedVariables false
set_option linter.unusedSimpArgs false
open Go.RowKit
theorem nbRow_lt (k id j : Nat) : (nbRow k id).getD j 0 < 18446744073709551616 := ofBits_lt k _ j
theorem rowsRows_lt (k : Nat) (zs : List Nat) (j i : Nat) : ((zs.map (nbRow k)).getD j []).getD i 0 < 18446744073709551616 := by
  by_cases h : j < zs.length
  · have e : (zs.map (nbRow k)).getD j [] = nbRow k (zs.getD j 0) := by simp [List.getD, h]
    rw [e]; exact nbRow_lt _ _ _
  · have e : (zs.map (nbRow k)).getD j [] = [] := by simp [List.getD, List.getElem?_eq_none (Nat.le_of_not_lt h)]
    rw [e]; simp
theorem rowsRows_len (k : Nat) (h2 : k ≤ 64) (zs : List Nat) (j : Nat) : ((zs.map (nbRow k)).getD j []).length ≤ 1000 := by
  by_cases h : j < zs.length
  · have e : (zs.map (nbRow k)).getD j [] = nbRow k (zs.getD j 0) := by simp [List.getD, h]
    rw [e, nbRow, ofBits_len]; unfold nw; omega
  · have e : (zs.map (nbRow k)).getD j [] = [] := by simp [List.getD, List.getElem?_eq_none (Nat.le_of_not_lt h)]
    rw [e]; simp
theorem rows_yes (k : Nat) (h1 : 1 ≤ k) (h2 : k ≤ 64) (A : Option Addr) (l c : Nat) (zs : List Nat) (w : World) (hz : Words w A l zs) (hl : l ≤ 64) :
    Calls Tryz.prog 18 #[.int .i64 k, .slice A l c] w (MatOut k (nbRow k) zs w) := by
  have HM := srcMay_any k
  rw [kmb_yes (n := k) (by omega)] at HM
  exact rows_gen k (nbRow k) ⟨h1, h2⟩ HM (fun id hi w => srcRow_own k id h1 h2 hi w) A l c zs w hz hl
theorem rows_no (k : Int) (A : Option Addr) (l c : Nat) (h : ¬ ((1 ≤ k ∧ k ≤ 64) ∧ l ≤ 64)) (w : World) : Calls Tryz.prog 18 #[.int .i64 k, .slice A l c] w fun e w' => e = .returned (.tuple #[.agg #[.int .i64 0, .slice none 0 0], .int .i64 2]) ∧ Below w.heap.size w w' := by
  have HM := Lib.hid (srcMay_any k)
  have Q := Lib.hid (Box.new w 28 #[.int .i64 0, .slice none 0 0])
  obtain ⟨r0, r1, r2, r3⟩ := Q.out.two
  by_cases hk : 1 ≤ k ∧ k ≤ 64
  · rw [kmb_yes hk] at HM
    have hl2 : (64 : Int) < l := by omega
    go_enter Tryz.func18, Tryz.ntmps18
    go_wp2_with fail
    refine (HM.out _).mono ?_
    rintro e w1 ⟨rfl, rfl⟩
    go_wp2
    refine close_cell Tryz.results18 rfl rfl rfl Q.out Tryz.underlying28 rfl (by kernel_rfl) ⟨rfl, (Below.refl _ _).alloc (Nat.le_refl _) _⟩
  · rw [kmb_no hk] at HM
    go_enter Tryz.func18, Tryz.ntmps18
    go_wp2_with fail
    refine (HM.out _).mono ?_
    rintro e w1 ⟨rfl, rfl⟩
    go_wp2
    refine close_cell Tryz.results18 rfl rfl rfl Q.out Tryz.underlying28 rfl (by kernel_rfl) ⟨rfl, (Below.refl _ _).alloc (Nat.le_refl _) _⟩
theorem MatW.form {w : World} {base : Nat} {k : Int} {v : Value} {ls : List (List Nat)} {n : Nat} (h : MatW w base k v ls) (hn : ls.length = n) : ∃ A c, v = .slice A n c := by
  obtain ⟨rs, -, h2, -⟩ := h
  obtain ⟨A, c, h, -⟩ := own_form h2
  exact ⟨A, c, by rw [h, hn]⟩
end
section
/- Rows that are numbers: what some of them span, by xor; reduced rows, and that they are one. No program. -/
set_option linter.unusedVariables false
set_option linter.unusedSimpArgs false
/-- The xor of a list of numbers. -/
def xs (S : List Nat) : Nat := S.foldr (· ^^^ ·) 0
theorem xs_cons (a : Nat) (S : List Nat) : xs (a :: S) = a ^^^ xs S := rfl
theorem xs_append (S T : List Nat) : xs (S ++ T) = xs S ^^^ xs T := by
  induction S with
  | nil => simp [xs]
  | cons a S ih => rw [List.cons_append, xs_cons, xs_cons, ih, Nat.xor_assoc]
/-- v is the xor of some of L. -/
def Sp (L : List Nat) (v : Nat) : Prop := ∃ S : List Nat, (∀ x ∈ S, x ∈ L) ∧ v = xs S
theorem sp_zero (L : List Nat) : Sp L 0 := ⟨[], (fun _ h => by cases h), rfl⟩
theorem sp_mem {L : List Nat} {r : Nat} (h : r ∈ L) : Sp L r := ⟨[r], fun x hx => by simp at hx; subst hx; exact h, by simp [xs]⟩
theorem sp_xor {L : List Nat} {v u : Nat} (hv : Sp L v) (hu : Sp L u) : Sp L (v ^^^ u) := by
  obtain ⟨S, h1, rfl⟩ := hv
  obtain ⟨T, h2, rfl⟩ := hu
  exact ⟨S ++ T, fun x hx => by rcases List.mem_append.1 hx with h | h; exact h1 x h; exact h2 x h, (xs_append S T).symm⟩
theorem sp_ind {L : List Nat} {P : Nat → Prop} (h0 : P 0) (hs : ∀ r u, r ∈ L → P u → P (r ^^^ u)) {v : Nat} (h : Sp L v) : P v := by
  obtain ⟨S, h1, rfl⟩ := h
  induction S with
  | nil => exact h0
  | cons a S ih => exact hs a _ (h1 a (by simp)) (ih (fun x hx => h1 x (by simp [hx])))
theorem sp_sub {L M : List Nat} (h : ∀ r ∈ L, Sp M r) {v : Nat} (hv : Sp L v) : Sp M v :=
  sp_ind (sp_zero M) (fun r u hr hu => sp_xor (h r hr) hu) hv
/-- Two lists that span the same. -/
def SameSp (L M : List Nat) : Prop := ∀ v, Sp L v ↔ Sp M v
theorem SameSp.of {L M : List Nat} (h1 : ∀ r ∈ L, Sp M r) (h2 : ∀ r ∈ M, Sp L r) : SameSp L M := fun _ => ⟨sp_sub h1, sp_sub h2⟩
theorem SameSp.refl (L : List Nat) : SameSp L L := fun _ => Iff.rfl
theorem SameSp.trans {L M K : List Nat} (h : SameSp L M) (k : SameSp M K) : SameSp L K := fun v => (h v).trans (k v)
theorem SameSp.symm {L M : List Nat} (h : SameSp L M) : SameSp M L := fun v => (h v).symm
theorem xor_cancel {a b : Nat} (h : a ^^^ b = 0) : a = b := by
  apply Nat.eq_of_testBit_eq
  intro i
  have := congrArg (fun x => x.testBit i) h
  simp only [Nat.testBit_xor, Nat.zero_testBit] at this
  revert this
  cases a.testBit i <;> cases b.testBit i <;> simp
theorem xor_back (a b : Nat) : a ^^^ b ^^^ b = a := by rw [Nat.xor_assoc, Nat.xor_self, Nat.xor_zero]
/-- p is the lowest place of v. -/
def IsLow (v p : Nat) : Prop := v.testBit p = true ∧ ∀ q, q < p → v.testBit q = false
theorem IsLow.uniq {v p q : Nat} (h : IsLow v p) (k : IsLow v q) : p = q := by
  rcases Nat.lt_trichotomy p q with hl | hl | hl
  · have := k.2 p hl; rw [h.1] at this; cases this
  · exact hl
  · have := h.2 q hl; rw [k.1] at this; cases this
theorem low_exists {v : Nat} (h : v ≠ 0) : ∃ p, IsLow v p := by
  have ex : ∃ p, v.testBit p = true := by
    by_cases hn : ∃ p, v.testBit p = true
    · exact hn
    · exact absurd (Nat.eq_of_testBit_eq (fun i => by
        rw [Nat.zero_testBit]
        cases hb : v.testBit i with
        | false => rfl
        | true => exact absurd ⟨i, hb⟩ hn)) h
  obtain ⟨p, hp⟩ := ex
  induction p using Nat.strongRecOn with
  | _ p ih =>
    by_cases hq : ∃ q, q < p ∧ v.testBit q = true
    · obtain ⟨q, hl, hb⟩ := hq; exact ih q hl hb
    · exact ⟨p, hp, fun q hl => by
        cases hb : v.testBit q with
        | false => rfl
        | true => exact absurd ⟨q, hl, hb⟩ hq⟩
/-- Reduced rows, and their places. -/
structure Rref (L P : List Nat) : Prop where
  len : L.length = P.length
  low : ∀ i, i < L.length → IsLow (L.getD i 0) (P.getD i 0)
  one : ∀ i j, i < L.length → j < L.length → (L.getD i 0).testBit (P.getD j 0) = decide (i = j)
  rise : ∀ i j, i < j → j < L.length → P.getD i 0 < P.getD j 0
/-- Those of the first k rows whose place has a bit in v. -/
def comb (L P : List Nat) (v : Nat) : Nat → Nat
  | 0 => 0
  | k + 1 => comb L P v k ^^^ (if v.testBit (P.getD k 0) then L.getD k 0 else 0)
theorem comb_xor (L P : List Nat) (v u k : Nat) : comb L P (v ^^^ u) k = comb L P v k ^^^ comb L P u k := by
  induction k with
  | zero => simp [comb]
  | succ k ih =>
    simp only [comb, ih, Nat.testBit_xor]
    generalize comb L P v k = a
    generalize comb L P u k = b
    generalize L.getD k 0 = c
    cases v.testBit (P.getD k 0) <;> cases u.testBit (P.getD k 0) <;> simp
    · rw [Nat.xor_assoc]
    · rw [Nat.xor_assoc, Nat.xor_assoc, Nat.xor_comm c b]
    · rw [Nat.xor_assoc, Nat.xor_comm c, Nat.xor_assoc, Nat.xor_self, Nat.xor_zero]
theorem comb_zero (L P : List Nat) (v k : Nat) (h : ∀ j, j < k → v.testBit (P.getD j 0) = false) : comb L P v k = 0 := by
  induction k with
  | zero => rfl
  | succ k ih => rw [comb, ih (fun j hj => h j (by omega)), h k (by omega)]; simp
theorem comb_row {L P : List Nat} (h : Rref L P) (i : Nat) (hi : i < L.length) : ∀ k, k ≤ L.length → comb L P (L.getD i 0) k = if i < k then L.getD i 0 else 0
  | 0, _ => by simp [comb]
  | k + 1, hk => by
    rw [comb, comb_row h i hi k (by omega), h.one i k hi (by omega)]
    by_cases e : i = k
    · subst e; simp
    · by_cases hl : i < k
      · simp [e, hl, show i < k + 1 by omega]
      · simp [e, hl, show ¬ i < k + 1 by omega]
theorem mem_getD {L : List Nat} {r : Nat} (h : r ∈ L) : ∃ i, i < L.length ∧ L.getD i 0 = r := by
  obtain ⟨i, hi, rfl⟩ := List.getElem_of_mem h
  exact ⟨i, hi, by simp [List.getD, hi]⟩
theorem getD_mem {L : List Nat} {i : Nat} (h : i < L.length) : L.getD i 0 ∈ L := by
  have : L.getD i 0 = L[i] := by simp [List.getD, h]
  rw [this]; exact List.getElem_mem _
/-- What reduced rows span is told by its bits at their places. -/
theorem Rref.comb {L P : List Nat} (h : Rref L P) {v : Nat} (hv : Sp L v) : v = comb L P v L.length := by
  refine sp_ind (P := fun v => v = YtmfhimeffmpgaaaGreat.comb L P v L.length) ?_ ?_ hv
  · exact (comb_zero L P 0 _ (fun _ _ => by simp)).symm
  · intro r u hr hu
    obtain ⟨i, hi, rfl⟩ := mem_getD hr
    rw [comb_xor, ← hu, comb_row h i hi _ (Nat.le_refl _), if_pos hi]
theorem Rref.zero {L P : List Nat} (h : Rref L P) {v : Nat} (hv : Sp L v) (hz : ∀ j, j < L.length → v.testBit (P.getD j 0) = false) : v = 0 := by
  rw [h.comb hv]; exact comb_zero L P v _ hz
theorem comb_below {L P : List Nat} (h : Rref L P) (v q i : Nat) (hi : ∀ j, j < i → v.testBit (P.getD j 0) = false) (hq : i < L.length → q < P.getD i 0) : ∀ k, k ≤ L.length → (YtmfhimeffmpgaaaGreat.comb L P v k).testBit q = false
  | 0, _ => by simp [YtmfhimeffmpgaaaGreat.comb]
  | k + 1, hk => by
    rw [YtmfhimeffmpgaaaGreat.comb, Nat.testBit_xor, comb_below h v q i hi hq k (by omega)]
    by_cases hl : k < i
    · rw [hi k hl]; simp
    · cases v.testBit (P.getD k 0) with
      | false => simp
      | true =>
        have hr : P.getD i 0 ≤ P.getD k 0 := by
          rcases Nat.lt_or_ge i k with h1 | h1
          · exact Nat.le_of_lt (h.rise i k h1 (by omega))
          · obtain rfl : i = k := by omega
            exact Nat.le_refl _
        have := (h.low k (by omega)).2 q (by have := hq (by omega); omega)
        rw [if_pos rfl, this]; rfl
/-- The places are the lowest ones of what is spanned. -/
theorem Rref.place {L P : List Nat} (h : Rref L P) (p : Nat) : (p ∈ P) ↔ ∃ v, Sp L v ∧ IsLow v p := by
  constructor
  · intro hp
    obtain ⟨i, hi, rfl⟩ := mem_getD hp
    have hi' : i < L.length := by rw [h.len]; exact hi
    exact ⟨_, sp_mem (getD_mem hi'), h.low i hi'⟩
  · rintro ⟨v, hv, hl⟩
    have ex : ∃ i, i < L.length ∧ v.testBit (P.getD i 0) = true := by
      by_cases hn : ∃ i, i < L.length ∧ v.testBit (P.getD i 0) = true
      · exact hn
      · have := h.zero hv (fun j hj => by
          cases hb : v.testBit (P.getD j 0) with
          | false => rfl
          | true => exact absurd ⟨j, hj, hb⟩ hn)
        rw [this] at hl
        have h1 := hl.1
        simp at h1
    obtain ⟨i, hi, hb, hmin⟩ : ∃ i, i < L.length ∧ v.testBit (P.getD i 0) = true ∧ ∀ j, j < i → v.testBit (P.getD j 0) = false := by
      obtain ⟨i, hi, hb⟩ := ex
      induction i using Nat.strongRecOn with
      | _ i ih =>
        by_cases hq : ∃ q, q < i ∧ v.testBit (P.getD q 0) = true
        · obtain ⟨q, hl, hb⟩ := hq; exact ih q hl (by omega) hb
        · exact ⟨i, hi, hb, fun q hl => by
            cases hb : v.testBit (P.getD q 0) with
            | false => rfl
            | true => exact absurd ⟨q, hl, hb⟩ hq⟩
    have hlow : IsLow v (P.getD i 0) := ⟨hb, fun q hq => by rw [h.comb hv]; exact comb_below h v q i hmin (fun _ => hq) _ (Nat.le_refl _)⟩
    rw [hl.uniq hlow]
    exact getD_mem (by rw [← h.len]; exact hi)
theorem rising_uniq : ∀ (P Q : List Nat), P.Pairwise (· < ·) → Q.Pairwise (· < ·) → (∀ x, x ∈ P ↔ x ∈ Q) → P = Q
  | [], [], _, _, _ => rfl
  | [], q :: Q, _, _, h => by have := (h q).2 (by simp); cases this
  | p :: P, [], _, _, h => by have := (h p).1 (by simp); cases this
  | p :: P, q :: Q, hp, hq, h => by
    have hp' := List.pairwise_cons.1 hp
    have hq' := List.pairwise_cons.1 hq
    have e : p = q := by
      have h1 := (h p).1 (by simp)
      have h2 := (h q).2 (by simp)
      rcases List.mem_cons.1 h1 with h1 | h1
      · exact h1
      · rcases List.mem_cons.1 h2 with h2 | h2
        · exact h2.symm
        · have := hp'.1 q h2; have := hq'.1 p h1; omega
    subst e
    congr 1
    refine rising_uniq P Q hp'.2 hq'.2 fun x => ⟨fun hx => ?_, fun hx => ?_⟩
    · rcases List.mem_cons.1 ((h x).1 (by simp [hx])) with h1 | h1
      · have := hp'.1 x hx; omega
      · exact h1
    · rcases List.mem_cons.1 ((h x).2 (by simp [hx])) with h1 | h1
      · have := hq'.1 x hx; omega
      · exact h1
theorem Rref.pairwise {L P : List Nat} (h : Rref L P) : P.Pairwise (· < ·) := by
  rw [List.pairwise_iff_getElem]
  intro i j hi hj hij
  have := h.rise i j hij (by rw [h.len]; exact hj)
  simpa [List.getD, hi, hj] using this
/-- Reduced rows that span the same are the same. -/
theorem rref_uniq {L P M Q : List Nat} (h : Rref L P) (k : Rref M Q) (hs : SameSp L M) : L = M ∧ P = Q := by
  have hP : P = Q := rising_uniq P Q h.pairwise k.pairwise fun x => by
    rw [h.place, k.place]
    exact ⟨fun ⟨v, a, b⟩ => ⟨v, (hs v).1 a, b⟩, fun ⟨v, a, b⟩ => ⟨v, (hs v).2 a, b⟩⟩
  subst hP
  have hl : L.length = M.length := h.len.trans k.len.symm
  refine ⟨List.ext_getElem hl fun i h1 h2 => ?_, rfl⟩
  have hz : L.getD i 0 ^^^ M.getD i 0 = 0 := h.zero (sp_xor (sp_mem (getD_mem h1)) ((hs _).2 (sp_mem (getD_mem h2)))) fun j hj => by
    rw [Nat.testBit_xor, h.one i j h1 hj, k.one i j h2 (by omega)]; simp
  have := xor_cancel hz
  simpa [List.getD, h1, h2] using this
end
section
/- Rows reduced column by column. No program. -/
set_option linter.unusedVariables false
set_option linter.unusedSimpArgs false
def swapL (L : List Nat) (d i : Nat) : List Nat := (L.set d (L.getD i 0)).set i (L.getD d 0)
def clearL (L : List Nat) (d c : Nat) : List Nat := (List.range L.length).map fun j => if j ≠ d ∧ (L.getD j 0).testBit c = true then L.getD j 0 ^^^ L.getD d 0 else L.getD j 0
theorem swapL_len (L : List Nat) (d i : Nat) : (swapL L d i).length = L.length := by simp [swapL]
theorem clearL_len (L : List Nat) (d c : Nat) : (clearL L d c).length = L.length := by simp [clearL]
theorem swapL_at (L : List Nat) (d i j : Nat) (hd : d < L.length) (hi : i < L.length) : (swapL L d i).getD j 0 = if j = i then L.getD d 0 else if j = d then L.getD i 0 else L.getD j 0 := by
  unfold swapL
  simp only [List.getD, List.getElem?_set, List.length_set]
  by_cases h1 : j = i
  · subst h1; simp [hi]
  · by_cases h2 : j = d
    · subst h2; simp [h1, Ne.symm h1, hd]
    · simp [h1, h2, Ne.symm h1, Ne.symm h2]
theorem clearL_at (L : List Nat) (d c j : Nat) (hj : j < L.length) : (clearL L d c).getD j 0 = if j ≠ d ∧ (L.getD j 0).testBit c = true then L.getD j 0 ^^^ L.getD d 0 else L.getD j 0 := by
  simp [clearL, List.getD, hj]
structure Work (orig L : List Nat) (d c : Nat) (P : List Nat) : Prop where
  span : SameSp orig L
  size : L.length = orig.length
  dp : P.length = d
  dl : d ≤ L.length
  low : ∀ i, i < d → IsLow (L.getD i 0) (P.getD i 0)
  lt : ∀ i, i < d → P.getD i 0 < c
  rise : ∀ i j, i < j → j < d → P.getD i 0 < P.getD j 0
  one : ∀ i j, i < L.length → j < d → (L.getD i 0).testBit (P.getD j 0) = decide (i = j)
  zero : ∀ i, d ≤ i → i < L.length → ∀ q, q < c → (L.getD i 0).testBit q = false
theorem work_start (orig : List Nat) : Work orig orig 0 0 [] :=
  ⟨SameSp.refl _, rfl, rfl, Nat.zero_le _, fun _ h => absurd h (Nat.not_lt_zero _), fun _ h => absurd h (Nat.not_lt_zero _), fun _ _ _ h => absurd h (Nat.not_lt_zero _), fun _ _ _ h => absurd h (Nat.not_lt_zero _), fun _ _ _ _ h => absurd h (Nat.not_lt_zero _)⟩
theorem work_none {orig L P : List Nat} {d c : Nat} (h : Work orig L d c P) (hn : ∀ i, d ≤ i → i < L.length → (L.getD i 0).testBit c = false) : Work orig L d (c + 1) P :=
  ⟨h.span, h.size, h.dp, h.dl, h.low, fun i hi => by have := h.lt i hi; omega, h.rise, h.one, fun i h1 h2 q hq => by
    by_cases e : q = c
    · subst e; exact hn i h1 h2
    · exact h.zero i h1 h2 q (by omega)⟩
theorem swap_span (L : List Nat) (d i : Nat) (hd : d < L.length) (hi : i < L.length) : SameSp L (swapL L d i) := by
  refine SameSp.of (fun r hr => ?_) (fun r hr => ?_)
  · obtain ⟨j, hj, rfl⟩ := mem_getD hr
    by_cases h1 : j = i
    · subst h1
      have e := swapL_at L d j d hd hi
      by_cases h2 : d = j
      · subst h2; rw [if_pos rfl] at e; rw [← e]; exact sp_mem (getD_mem (by rw [swapL_len]; exact hd))
      · rw [if_neg h2, if_pos rfl] at e; rw [← e]; exact sp_mem (getD_mem (by rw [swapL_len]; exact hd))
    · by_cases h2 : j = d
      · subst h2
        have e := swapL_at L j i i hd hi
        rw [if_pos rfl] at e; rw [← e]; exact sp_mem (getD_mem (by rw [swapL_len]; exact hi))
      · have e := swapL_at L d i j hd hi
        rw [if_neg h1, if_neg h2] at e; rw [← e]; exact sp_mem (getD_mem (by rw [swapL_len]; exact hj))
  · obtain ⟨j, hj, rfl⟩ := mem_getD hr
    rw [swapL_len] at hj
    rw [swapL_at L d i j hd hi]
    split
    · exact sp_mem (getD_mem hd)
    · split
      · exact sp_mem (getD_mem hi)
      · exact sp_mem (getD_mem hj)
theorem clear_span (L : List Nat) (d c : Nat) (hd : d < L.length) : SameSp L (clearL L d c) := by
  have own : Sp (clearL L d c) (L.getD d 0) := by
    have e := clearL_at L d c d hd
    simp only [ne_eq, not_true_eq_false, false_and, if_false] at e
    rw [← e]; exact sp_mem (getD_mem (by rw [clearL_len]; exact hd))
  refine SameSp.of (fun r hr => ?_) (fun r hr => ?_)
  · obtain ⟨j, hj, rfl⟩ := mem_getD hr
    have m : Sp (clearL L d c) ((clearL L d c).getD j 0) := sp_mem (getD_mem (by rw [clearL_len]; exact hj))
    rw [clearL_at L d c j hj] at m
    split at m
    · have := sp_xor m own
      rw [xor_back] at this; exact this
    · exact m
  · obtain ⟨j, hj, rfl⟩ := mem_getD hr
    rw [clearL_len] at hj
    rw [clearL_at L d c j hj]
    split
    · exact sp_xor (sp_mem (getD_mem hj)) (sp_mem (getD_mem hd))
    · exact sp_mem (getD_mem hj)
theorem getD_snoc (P : List Nat) (c j : Nat) : (P ++ [c]).getD j 0 = if j < P.length then P.getD j 0 else if j = P.length then c else 0 := by
  by_cases h : j < P.length
  · rw [if_pos h]; simp only [List.getD, List.getElem?_append_left h]
  · by_cases e : j = P.length
    · subst e; simp [List.getD]
    · rw [if_neg h, if_neg e]
      have : (P ++ [c])[j]? = none := List.getElem?_eq_none (by simp; omega)
      simp [List.getD, this]
theorem work_swap {orig L P : List Nat} {d c i : Nat} (h : Work orig L d c P) (h1 : d ≤ i) (h2 : i < L.length) : Work orig (swapL L d i) d c P := by
  have hd : d < L.length := by omega
  refine ⟨h.span.trans (swap_span L d i hd h2), (swapL_len _ _ _).trans h.size, h.dp, by rw [swapL_len]; exact h.dl, fun j hj => ?_, h.lt, h.rise, fun j k hj hk => ?_, fun j hj1 hj2 q hq => ?_⟩
  · rw [swapL_at L d i j hd h2, if_neg (by omega), if_neg (by omega)]; exact h.low j hj
  · rw [swapL_len] at hj
    rw [swapL_at L d i j hd h2]
    split
    · rename_i e; subst e; rw [h.one d k hd hk]; simp; omega
    · split
      · rename_i e; subst e; rw [h.one i k h2 hk]; simp; omega
      · exact h.one j k hj hk
  · rw [swapL_len] at hj2
    rw [swapL_at L d i j hd h2]
    split
    · exact h.zero d (Nat.le_refl _) hd q hq
    · split
      · exact h.zero i h1 h2 q hq
      · exact h.zero j hj1 hj2 q hq
theorem work_clear {orig L P : List Nat} {d c : Nat} (h : Work orig L d c P) (hd : d < L.length) (hb : (L.getD d 0).testBit c = true) : Work orig (clearL L d c) (d + 1) (c + 1) (P ++ [c]) := by
  have hz := h.zero d (Nat.le_refl _) hd
  have low0 : ∀ j, j < L.length → ∀ q, q < c → ((clearL L d c).getD j 0).testBit q = (L.getD j 0).testBit q := fun j hj q hq => by
    rw [clearL_at L d c j hj]
    split
    · rw [Nat.testBit_xor, hz q hq]; simp
    · rfl
  have atc : ∀ j, j < L.length → ((clearL L d c).getD j 0).testBit c = decide (j = d) := fun j hj => by
    rw [clearL_at L d c j hj]
    by_cases e : j = d
    · subst e; rw [if_neg (fun k => k.1 rfl), hb]; simp
    · by_cases b : (L.getD j 0).testBit c = true
      · rw [if_pos ⟨e, b⟩, Nat.testBit_xor, b, hb]; simp [e]
      · rw [if_neg (fun k => b k.2), Bool.eq_false_iff.2 b]; simp [e]
  refine ⟨h.span.trans (clear_span L d c hd), (clearL_len _ _ _).trans h.size, by rw [List.length_append, h.dp]; rfl, by rw [clearL_len]; omega, fun j hj => ?_, fun j hj => ?_, fun j k hjk hk => ?_, fun j k hj hk => ?_, fun j h1 h2 q hq => ?_⟩
  · rw [getD_snoc, h.dp]
    by_cases hjd : j < d
    · rw [if_pos hjd]
      have hp := h.lt j hjd
      have hl := h.low j hjd
      exact ⟨by rw [low0 j (by omega) _ hp]; exact hl.1, fun q hq => by rw [low0 j (by omega) q (by omega)]; exact hl.2 q hq⟩
    · obtain rfl : j = d := by omega
      rw [if_neg (by omega), if_pos rfl]
      exact ⟨by rw [atc j hd]; simp, fun q hq => by rw [low0 j hd q hq]; exact hz q hq⟩
  · rw [getD_snoc, h.dp]
    by_cases hjd : j < d
    · rw [if_pos hjd]; have := h.lt j hjd; omega
    · rw [if_neg hjd, if_pos (by omega)]; omega
  · rw [getD_snoc, getD_snoc, h.dp]
    rw [if_pos (show j < d by omega)]
    by_cases hkd : k < d
    · rw [if_pos hkd]; exact h.rise j k hjk hkd
    · rw [if_neg hkd, if_pos (by omega)]; exact h.lt j (by omega)
  · rw [clearL_len] at hj
    rw [getD_snoc, h.dp]
    by_cases hkd : k < d
    · rw [if_pos hkd, low0 j hj _ (h.lt k hkd)]; exact h.one j k hj hkd
    · obtain rfl : k = d := by omega
      rw [if_neg (by omega), if_pos rfl]; exact atc j hj
  · rw [clearL_len] at h2
    by_cases e : q = c
    · subst e; rw [atc j h2]; simp; omega
    · rw [low0 j h2 q (by omega)]; exact h.zero j (by omega) h2 q (by omega)
theorem sp_lt {L : List Nat} {n : Nat} (h : ∀ r ∈ L, r < 2 ^ n) {v : Nat} (hv : Sp L v) : v < 2 ^ n :=
  sp_ind (P := fun v => v < 2 ^ n) (Nat.two_pow_pos n) (fun r u hr hu => Nat.xor_lt_two_pow (h r hr) hu) hv
theorem getD_take (L : List Nat) (d i : Nat) (h : i < d) : (L.take d).getD i 0 = L.getD i 0 := by simp [List.getD, List.getElem?_take, h]
theorem work_end {orig L P : List Nat} {d n : Nat} (h : Work orig L d n P) (hl : ∀ r ∈ orig, r < 2 ^ n) : Rref (L.take d) P ∧ SameSp orig (L.take d) := by
  have hlen : (L.take d).length = d := by rw [List.length_take]; have := h.dl; omega
  have hzero : ∀ i, d ≤ i → i < L.length → L.getD i 0 = 0 := fun i h1 h2 => by
    apply Nat.eq_of_testBit_eq
    intro q
    rw [Nat.zero_testBit]
    by_cases hq : q < n
    · exact h.zero i h1 h2 q hq
    · have hlt : L.getD i 0 < 2 ^ n := sp_lt hl ((h.span _).2 (sp_mem (getD_mem h2)))
      exact Nat.testBit_lt_two_pow (Nat.lt_of_lt_of_le hlt (Nat.pow_le_pow_right (by omega) (by omega)))
  refine ⟨⟨by rw [hlen, h.dp], fun i hi => ?_, fun i j hi hj => ?_, fun i j hij hj => ?_⟩, h.span.trans (SameSp.of (fun r hr => ?_) (fun r hr => ?_))⟩
  · rw [hlen] at hi; rw [getD_take L d i hi]; exact h.low i hi
  · rw [hlen] at hi hj; rw [getD_take L d i hi]; exact h.one i j (by have := h.dl; omega) hj
  · rw [hlen] at hj; exact h.rise i j hij hj
  · obtain ⟨i, hi, rfl⟩ := mem_getD hr
    by_cases hd : i < d
    · rw [← getD_take L d i hd]; exact sp_mem (getD_mem (by rw [hlen]; exact hd))
    · rw [hzero i (by omega) hi]; exact sp_zero _
  · obtain ⟨i, hi, rfl⟩ := mem_getD hr
    rw [hlen] at hi
    rw [getD_take L d i hi]; exact sp_mem (getD_mem (by have := h.dl; omega))
end
section
/- Rows reduced one behind the other: what is left of a row, and where it is put. No program. -/
set_option linter.unusedVariables false
set_option linter.unusedSimpArgs false
def leftN (L P : List Nat) (r : Nat) : Nat → Nat
  | 0 => r
  | k + 1 => if (leftN L P r k).testBit (P.getD k 0) then leftN L P r k ^^^ L.getD k 0 else leftN L P r k
theorem leftN_bits {L P : List Nat} (h : Rref L P) (r : Nat) : ∀ k, k ≤ L.length → ∀ j, j < L.length → (leftN L P r k).testBit (P.getD j 0) = if j < k then false else r.testBit (P.getD j 0)
  | 0, _, j, _ => by simp [leftN]
  | k + 1, hk, j, hj => by
    have ih := leftN_bits h r k (by omega)
    rw [leftN]
    have hkk := ih k (by omega)
    rw [if_neg (by omega)] at hkk
    by_cases hb : (leftN L P r k).testBit (P.getD k 0) = true
    · rw [if_pos hb, Nat.testBit_xor, h.one k j (by omega) hj, ih j hj]
      by_cases e : k = j
      · subst e
        rw [if_neg (by omega), ← hkk, hb]; simp
      · by_cases hl : j < k
        · simp [e, hl, show j < k + 1 by omega]
        · simp [e, hl, show ¬ j < k + 1 by omega]
    · rw [if_neg hb, ih j hj]
      by_cases e : k = j
      · subst e
        rw [if_neg (by omega), if_pos (by omega), ← hkk]
        simpa using hb
      · by_cases hl : j < k
        · simp [hl, show j < k + 1 by omega]
        · simp [hl, show ¬ j < k + 1 by omega]
theorem leftN_span (L P : List Nat) (r : Nat) : ∀ k, k ≤ L.length → Sp L (r ^^^ leftN L P r k)
  | 0, _ => by simp only [leftN, Nat.xor_self]; exact sp_zero L
  | k + 1, hk => by
    have ih := leftN_span L P r k (by omega)
    rw [leftN]
    split
    · rw [← Nat.xor_assoc]; exact sp_xor ih (sp_mem (getD_mem (by omega)))
    · exact ih
/-- What is left is 0 just if the row was spanned. -/
theorem left_zero {L P : List Nat} (h : Rref L P) (r : Nat) : leftN L P r L.length = 0 ↔ Sp L r := by
  have hs := leftN_span L P r L.length (Nat.le_refl _)
  constructor
  · intro h0
    rw [h0, Nat.xor_zero] at hs; exact hs
  · intro hr
    refine h.zero ?_ fun j hj => ?_
    · have := sp_xor hr hs
      rw [← Nat.xor_assoc, Nat.xor_self, Nat.zero_xor] at this; exact this
    · rw [leftN_bits h r _ (Nat.le_refl _) j hj, if_pos hj]
/-- Where a place comes among rising ones. -/
theorem cut_place {L P : List Nat} (h : Rref L P) (a : Nat) (hn : a ∉ P) : ∃ m, m ≤ L.length ∧ (∀ i, i < m → P.getD i 0 < a) ∧ (∀ i, m ≤ i → i < L.length → a < P.getD i 0) := by
  have step : ∀ k, k ≤ L.length → ∃ m, m ≤ k ∧ (∀ i, i < m → P.getD i 0 < a) ∧ (∀ i, m ≤ i → i < k → a < P.getD i 0) := by
    intro k
    induction k with
    | zero => exact fun _ => ⟨0, Nat.le_refl _, fun i hi => absurd hi (Nat.not_lt_zero _), fun i _ hi => absurd hi (Nat.not_lt_zero _)⟩
    | succ k ih =>
      intro hk
      obtain ⟨m, h1, h2, h3⟩ := ih (by omega)
      have hne : P.getD k 0 ≠ a := fun e => hn (e ▸ getD_mem (by rw [← h.len]; omega))
      by_cases hlt : P.getD k 0 < a
      · refine ⟨k + 1, Nat.le_refl _, fun i hi => ?_, fun i h4 h5 => by omega⟩
        by_cases e : i = k
        · subst e; exact hlt
        · have := h.rise i k (by omega) (by omega); omega
      · refine ⟨m, by omega, h2, fun i h4 h5 => ?_⟩
        by_cases e : i = k
        · subst e; omega
        · exact h3 i h4 (by omega)
  exact step L.length (Nat.le_refl _)
def putW (L : List Nat) (r a m : Nat) : List Nat := (L.take m).map (fun x => if x.testBit a then x ^^^ r else x) ++ r :: L.drop m
def putP (P : List Nat) (a m : Nat) : List Nat := P.take m ++ a :: P.drop m
theorem putW_at (L : List Nat) (r a m i : Nat) (hm : m ≤ L.length) (hi : i < L.length + 1) : (putW L r a m).getD i 0 = if i < m then (if (L.getD i 0).testBit a then L.getD i 0 ^^^ r else L.getD i 0) else if i = m then r else L.getD (i - 1) 0 := by
  unfold putW
  by_cases h1 : i < m
  · have hl : i < L.length := by omega
    rw [if_pos h1]
    simp only [List.getD]
    rw [List.getElem?_append_left (by simp; omega)]
    simp [List.getElem?_take, h1, hl]
  · rw [if_neg h1]
    simp only [List.getD]
    rw [List.getElem?_append_right (by simp; omega)]
    have e : i - ((L.take m).map (fun x => if x.testBit a then x ^^^ r else x)).length = i - m := by simp; omega
    rw [e]
    by_cases h2 : i = m
    · subst h2; simp
    · rw [if_neg h2]
      obtain ⟨d, hd⟩ : ∃ d, i - m = d + 1 := ⟨i - m - 1, by omega⟩
      rw [hd, List.getElem?_cons_succ, List.getElem?_drop]
      congr 2; omega
theorem putP_at (P : List Nat) (a m i : Nat) (hm : m ≤ P.length) (hi : i < P.length + 1) : (putP P a m).getD i 0 = if i < m then P.getD i 0 else if i = m then a else P.getD (i - 1) 0 := by
  unfold putP
  by_cases h1 : i < m
  · rw [if_pos h1]
    simp only [List.getD]
    rw [List.getElem?_append_left (by simp; omega), List.getElem?_take, if_pos h1]
  · rw [if_neg h1]
    simp only [List.getD]
    rw [List.getElem?_append_right (by simp; omega)]
    have e : i - (P.take m).length = i - m := by simp; omega
    rw [e]
    by_cases h2 : i = m
    · subst h2; simp
    · rw [if_neg h2]
      obtain ⟨d, hd⟩ : ∃ d, i - m = d + 1 := ⟨i - m - 1, by omega⟩
      rw [hd, List.getElem?_cons_succ, List.getElem?_drop]
      congr 2; omega
theorem putW_len (L : List Nat) (r a m : Nat) (hm : m ≤ L.length) : (putW L r a m).length = L.length + 1 := by simp [putW]; omega
theorem putP_len (P : List Nat) (a m : Nat) (hm : m ≤ P.length) : (putP P a m).length = P.length + 1 := by simp [putP]; omega
/-- A row with a place of its own is put to reduced ones. -/
theorem put_rref {L P : List Nat} (h : Rref L P) (r a m : Nat) (hl : IsLow r a) (hz : ∀ j, j < L.length → r.testBit (P.getD j 0) = false) (hm : m ≤ L.length)
    (h1 : ∀ i, i < m → P.getD i 0 < a) (h2 : ∀ i, m ≤ i → i < L.length → a < P.getD i 0) : Rref (putW L r a m) (putP P a m) := by
  have hmP : m ≤ P.length := by rw [← h.len]; exact hm
  have hLP := h.len
  have lw := putW_len L r a m hm
  have row : ∀ i, i < L.length + 1 → ∀ q, (∀ j, j < L.length → q = P.getD j 0 → ((putW L r a m).getD i 0).testBit q = (if i < m then L.getD i 0 else if i = m then r else L.getD (i - 1) 0).testBit q) := fun i hi q j hj e => by
    rw [putW_at L r a m i hm hi]
    split
    · split
      · rw [Nat.testBit_xor, e, hz j hj]; simp
      · rfl
    · rfl
  have rowa : ∀ i, i < L.length + 1 → ((putW L r a m).getD i 0).testBit a = decide (i = m) := fun i hi => by
    rw [putW_at L r a m i hm hi]
    by_cases e1 : i < m
    · rw [if_pos e1]
      by_cases hb : (L.getD i 0).testBit a = true
      · rw [if_pos hb, Nat.testBit_xor, hb, hl.1]; simp; omega
      · rw [if_neg hb, Bool.eq_false_iff.2 hb]; simp; omega
    · rw [if_neg e1]
      by_cases e2 : i = m
      · rw [if_pos e2, hl.1]; simp [e2]
      · rw [if_neg e2, (h.low (i - 1) (by omega)).2 a (h2 (i - 1) (by omega) (by omega))]; simp [e2]
  refine ⟨by rw [lw, putP_len P a m hmP, h.len], fun i hi => ?_, fun i j hi hj => ?_, fun i j hij hj => ?_⟩
  · rw [lw] at hi
    rw [putP_at P a m i hmP (by omega)]
    by_cases e1 : i < m
    · rw [if_pos e1, putW_at L r a m i hm hi, if_pos e1]
      have hlo := h.low i (by omega)
      have hlt := h1 i e1
      split
      · exact ⟨by rw [Nat.testBit_xor, hlo.1, hl.2 _ hlt]; rfl, fun q hq => by rw [Nat.testBit_xor, hlo.2 q hq, hl.2 q (by omega)]; rfl⟩
      · exact hlo
    · rw [if_neg e1, putW_at L r a m i hm hi, if_neg e1]
      split
      · exact hl
      · exact h.low (i - 1) (by omega)
  · rw [lw] at hi hj
    rw [putP_at P a m j hmP (by omega)]
    by_cases e1 : j < m
    · rw [if_pos e1, row i hi _ j (by omega) rfl]
      by_cases f1 : i < m
      · rw [if_pos f1]; exact h.one i j (by omega) (by omega)
      · rw [if_neg f1]
        by_cases f2 : i = m
        · rw [if_pos f2, hz j (by omega)]; simp; omega
        · rw [if_neg f2, h.one (i - 1) j (by omega) (by omega)]; congr 1; apply propext; omega
    · rw [if_neg e1]
      by_cases e2 : j = m
      · rw [if_pos e2, rowa i hi, e2]
      · rw [if_neg e2, row i hi _ (j - 1) (by omega) rfl]
        by_cases f1 : i < m
        · rw [if_pos f1, h.one i (j - 1) (by omega) (by omega)]; congr 1; apply propext; omega
        · rw [if_neg f1]
          by_cases f2 : i = m
          · rw [if_pos f2, hz (j - 1) (by omega)]; simp; omega
          · rw [if_neg f2, h.one (i - 1) (j - 1) (by omega) (by omega)]; congr 1; apply propext; omega
  · rw [lw] at hj
    rw [putP_at P a m i hmP (by omega), putP_at P a m j hmP (by omega)]
    by_cases e1 : j < m
    · rw [if_pos (by omega), if_pos e1]; exact h.rise i j hij (by omega)
    · rw [if_neg e1]
      by_cases e2 : j = m
      · rw [if_pos e2, if_pos (by omega)]; exact h1 i (by omega)
      · rw [if_neg e2]
        by_cases f1 : i < m
        · rw [if_pos f1]; have := h1 i f1; have := h2 (j - 1) (by omega) (by omega); omega
        · rw [if_neg f1]
          by_cases f2 : i = m
          · rw [if_pos f2]; exact h2 (j - 1) (by omega) (by omega)
          · rw [if_neg f2]; exact h.rise (i - 1) (j - 1) (by omega) (by omega)
theorem put_span {L : List Nat} (r a m : Nat) (hm : m ≤ L.length) : SameSp (L ++ [r]) (putW L r a m) := by
  have own : Sp (putW L r a m) r := by
    have e := putW_at L r a m m hm (by omega)
    rw [if_neg (by omega), if_pos rfl] at e
    have := sp_mem (getD_mem (L := putW L r a m) (i := m) (by rw [putW_len L r a m hm]; omega))
    rw [e] at this; exact this
  have ownL : Sp (L ++ [r]) r := sp_mem (by simp)
  have mem : ∀ i, i < L.length → Sp (L ++ [r]) (L.getD i 0) := fun i hi => sp_mem (List.mem_append.2 (.inl (getD_mem hi)))
  refine SameSp.of (fun x hx => ?_) (fun x hx => ?_)
  · rcases List.mem_append.1 hx with hx | hx
    · obtain ⟨i, hi, rfl⟩ := mem_getD hx
      by_cases h1 : i < m
      · have e := putW_at L r a m i hm (by omega)
        rw [if_pos h1] at e
        have := sp_mem (getD_mem (L := putW L r a m) (i := i) (by rw [putW_len L r a m hm]; omega))
        rw [e] at this
        split at this
        · have := sp_xor this own; rw [xor_back] at this; exact this
        · exact this
      · have e := putW_at L r a m (i + 1) hm (by omega)
        rw [if_neg (by omega), if_neg (by omega), Nat.add_sub_cancel] at e
        have := sp_mem (getD_mem (L := putW L r a m) (i := i + 1) (by rw [putW_len L r a m hm]; omega))
        rw [e] at this; exact this
    · simp at hx; subst hx; exact own
  · obtain ⟨i, hi, rfl⟩ := mem_getD hx
    rw [putW_len L r a m hm] at hi
    rw [putW_at L r a m i hm hi]
    split
    · split
      · exact sp_xor (mem i (by omega)) ownL
      · exact mem i (by omega)
    · split
      · exact ownL
      · exact mem (i - 1) (by omega)
/-- One row more: the same rows span it, or there is one reduced row more. -/
theorem rref_more {L P : List Nat} (h : Rref L P) (r : Nat) : ∃ M Q, Rref M Q ∧ SameSp (L ++ [r]) M ∧ (Sp L r → M = L) ∧ (¬ Sp L r → M.length = L.length + 1) := by
  by_cases hs : Sp L r
  · refine ⟨L, P, h, SameSp.of (fun x hx => ?_) (fun x hx => sp_mem (List.mem_append.2 (.inl hx))), fun _ => rfl, fun k => absurd hs k⟩
    rcases List.mem_append.1 hx with hx | hx
    · exact sp_mem hx
    · simp at hx; subst hx; exact hs
  · have hne : leftN L P r L.length ≠ 0 := fun e => hs ((left_zero h r).1 e)
    have hsp := leftN_span L P r L.length (Nat.le_refl _)
    have hz : ∀ j, j < L.length → (leftN L P r L.length).testBit (P.getD j 0) = false := fun j hj => by rw [leftN_bits h r _ (Nat.le_refl _) j hj, if_pos hj]
    generalize leftN L P r L.length = x at *
    obtain ⟨a, ha⟩ := low_exists hne
    have hn : a ∉ P := fun hp => by
      obtain ⟨j, hj, rfl⟩ := mem_getD hp
      have := hz j (by rw [h.len]; exact hj)
      rw [ha.1] at this; cases this
    obtain ⟨m, hm, h1, h2⟩ := cut_place h a hn
    refine ⟨putW L x a m, putP P a m, put_rref h x a m ha hz hm h1 h2, SameSp.trans ?_ (put_span x a m hm), fun k => absurd k hs, fun _ => putW_len L x a m hm⟩
    have liftL : ∀ y, ∀ v, Sp L v → Sp (L ++ [y]) v := fun y v hv => sp_sub (fun r hr => sp_mem (List.mem_append.2 (.inl hr))) hv
    refine SameSp.of (fun y hy => ?_) (fun y hy => ?_)
    · rcases List.mem_append.1 hy with hy | hy
      · exact sp_mem (List.mem_append.2 (.inl hy))
      · simp at hy; subst hy
        have := sp_xor (liftL x _ hsp) (sp_mem (show x ∈ L ++ [x] by simp))
        rw [xor_back] at this; exact this
    · rcases List.mem_append.1 hy with hy | hy
      · exact sp_mem (List.mem_append.2 (.inl hy))
      · simp at hy; subst hy
        have := sp_xor (sp_mem (show r ∈ L ++ [r] by simp)) (liftL r _ hsp)
        rw [← Nat.xor_assoc, Nat.xor_self, Nat.zero_xor] at this; exact this
/-- Whatever rows: reduced ones that span the same, not more than these. -/
theorem rref_exists (ms : List Nat) : ∃ L P, Rref L P ∧ SameSp ms L ∧ L.length ≤ ms.length := by
  have key : ∀ k, k ≤ ms.length → ∃ L P, Rref L P ∧ SameSp (ms.take k) L ∧ L.length ≤ k := by
    intro k
    induction k with
    | zero => exact fun _ => ⟨[], [], ⟨rfl, fun _ h => absurd h (Nat.not_lt_zero _), fun _ _ h => absurd h (Nat.not_lt_zero _), fun _ _ _ h => absurd h (Nat.not_lt_zero _)⟩, by simpa using SameSp.refl [], Nat.le_refl _⟩
    | succ k ih =>
      intro hk
      obtain ⟨L, P, h, hs, hl⟩ := ih (by omega)
      obtain ⟨M, Q, g, gs, g1, g2⟩ := rref_more h (ms.getD k 0)
      refine ⟨M, Q, g, SameSp.trans ?_ gs, ?_⟩
      · have e : ms.take (k + 1) = ms.take k ++ [ms.getD k 0] := by
          rw [List.take_succ_eq_append_getElem (by omega)]; simp [List.getD, show k < ms.length by omega]
        rw [e]
        refine SameSp.of (fun y hy => ?_) (fun y hy => ?_)
        · rcases List.mem_append.1 hy with hy | hy
          · exact sp_sub (fun r hr => sp_mem (List.mem_append.2 (.inl hr))) ((hs _).1 (sp_mem hy))
          · simp at hy; subst hy; exact sp_mem (by simp)
        · rcases List.mem_append.1 hy with hy | hy
          · exact sp_sub (fun r hr => sp_mem (List.mem_append.2 (.inl hr))) ((hs _).2 (sp_mem hy))
          · simp at hy; subst hy; exact sp_mem (by simp)
      · by_cases hsp : Sp L (ms.getD k 0)
        · rw [g1 hsp]; omega
        · rw [g2 hsp]; omega
  have := key ms.length (Nat.le_refl _)
  rwa [List.take_length] at this
end
section
/- bitrow.Xor and New: rows of words of the call's own. -/
set_option linter.unusedVariables false
set_option linter.unusedSimpArgs false
open Go.RowKit
set_option maxHeartbeats 400000 in
theorem joined_own (n : Int) (A B : Option Addr) (l c k d : Nat) (us vs : List Nat) (w : World) (hu : Words w A l us) (hv : Words w B k vs) (h1 : rightB n us = true) (h2 : rightB n vs = true) :
    Calls Tryz.prog 95 #[.agg #[.int .i64 n, .slice A l c], .agg #[.int .i64 n, .slice B k d], .func (.func 96) #[] #[]] w (OwnOut n (List.zipWith (· ^^^ ·) us vs) w) := by
  have hl : l ≤ 8 := rightB_len8 h1 hu.1
  have hkl : k = l := rightB_len h1 h2 hu.1 hv.1
  subst hkl
  have q0 := ((Box.new w 56 #[.int .i64 n, .slice A k c]).alloc (.cells #[.int .i64 n, .slice B k d] 56)).alloc (.cells #[.int .i64 0, .slice none 0 0] 56)
  have q1 := (Box.new (w.alloc (.cells #[.int .i64 n, .slice A k c] 56)) 56 #[.int .i64 n, .slice B k d]).alloc (.cells #[.int .i64 0, .slice none 0 0] 56)
  have q2 := Box.new ((w.alloc (.cells #[.int .i64 n, .slice A k c] 56)).alloc (.cells #[.int .i64 n, .slice B k d] 56)) 56 #[.int .i64 0, .slice none 0 0]
  have hW : Below w.heap.size w (((w.alloc (.cells #[.int .i64 n, .slice A k c] 56)).alloc (.cells #[.int .i64 n, .slice B k d] 56)).alloc (.cells #[.int .i64 0, .slice none 0 0] 56)) := (((Below.refl _ _).alloc (Nat.le_refl _) _).alloc (by simp) _).alloc (by simp; omega) _
  simp only [World.size_alloc] at q1 q2
  have hu1 := hu.below hW
  have hv1 := hv.below hW
  have Q0 := Lib.hid q0
  have Q1 := Lib.hid q1
  have Q2 := Lib.hid q2
  have HW := Lib.hid hW
  have HU := Lib.hid hu1
  have HV := Lib.hid hv1
  have HU0 := Lib.hid hu
  have HV0 := Lib.hid hv
  clear q0 q1 q2 hW hu1 hv1 hu hv
  go_enter Tryz.func95, Tryz.ntmps95
  go_wp2_with fail
  refine (right_any n A k c us _ HU.out).mono ?_
  rintro e x1 ⟨rfl, hb⟩
  have Q0 := Lib.hid (Q0.out.keep hb)
  have Q1 := Lib.hid (Q1.out.keep hb)
  have Q2 := Lib.hid (Q2.out.keep hb)
  have HV := Lib.hid (HV.out.below hb)
  have HW := Lib.hid (chain HW.out hb)
  clear HU hb
  obtain ⟨c0, c1, -, -⟩ := Q1.out.two
  go_wp2_with fail
  refine (right_any n B k d vs _ HV.out).mono ?_
  rintro e x2 ⟨rfl, hb⟩
  have Q0 := Lib.hid (Q0.out.keep hb)
  have Q1 := Lib.hid (Q1.out.keep hb)
  have Q2 := Lib.hid (Q2.out.keep hb)
  have HW := Lib.hid (chain HW.out hb)
  clear hb c0 c1 HV
  obtain ⟨r0, r1, r2, r3⟩ := Q2.out.two
  obtain ⟨a0, a1, -, -⟩ := Q0.out.two
  obtain ⟨b0, b1, -, -⟩ := Q1.out.two
  have t : (n != n) = false := by simp
  have hmk := make_any k (by omega) x2
  have HX2 := Lib.hid Q2.out.lt
  have Q3 := Lib.hid (Box.new x2 44 (numsA (List.replicate k 0)))
  have Q0 := Lib.hid (Q0.out.alloc (.cells (numsA (List.replicate k 0)) 44))
  have Q1 := Lib.hid (Q1.out.alloc (.cells (numsA (List.replicate k 0)) 44))
  have Q2 := Lib.hid (Q2.out.alloc (.cells (numsA (List.replicate k 0)) 44))
  have HW := Lib.hid (HW.out.alloc HW.out.size (.cells (numsA (List.replicate k 0)) 44))
  go_wp2
  clear hmk t h1 h2 a0 a1 b0 b1 r0 r1 r2 r3
  go_loopw [31] (fun i wr => ∃ j : Nat, j ≤ k ∧ i = .int .i64 j ∧ Box wr x2.heap.size 44 (numsA (part (· ^^^ ·) us vs j)) ∧ Box wr w.heap.size 56 #[.int .i64 n, .slice A k c] ∧ Box wr (w.heap.size + 1) 56 #[.int .i64 n, .slice B k d] ∧ Box wr (w.heap.size + 1 + 1) 56 #[.int .i64 0, .slice none 0 0] ∧ Below w.heap.size w wr)
    (fun i _ => k - (intOf i).toNat)
  case atStart => exact ⟨0, by omega, rfl, by rw [part_zero, HU0.out.1]; exact Q3.out, Q0.out, Q1.out, Q2.out, HW.out⟩
  case round =>
    obtain ⟨j, hj, rfl, B3, B0, B1, B2, hbel⟩ := hrel
    have R3 := Lib.hid B3
    have R0 := Lib.hid B0
    have R1 := Lib.hid B1
    have R2 := Lib.hid B2
    have HB := Lib.hid hbel
    clear B3 B0 B1 B2 hbel Q0 Q1 Q2 Q3 HW
    obtain ⟨a0, a1, -, -⟩ := R0.out.two
    obtain ⟨b0, b1, -, -⟩ := R1.out.two
    by_cases hlt : j < k
    · obtain ⟨p, o, rfl, lt1, hc1⟩ := HU0.out.2.2 (by omega)
      obtain ⟨p2, o2, rfl, lt2, hc2⟩ := HV0.out.2.2 (by omega)
      have cu := (HB.out.cell (p := ⟨p, o + j, none⟩) lt1).trans (hc1 j hlt)
      have cv := (HB.out.cell (p := ⟨p2, o2 + j, none⟩) lt2).trans (hc2 j hlt)
      have hx := HU0.out.2.1 j
      have hy := HV0.out.2.1 j
      obtain ⟨x, ex⟩ : ∃ x, x = us.getD j 0 := ⟨_, rfl⟩
      obtain ⟨y, ey⟩ : ∃ y, y = vs.getD j 0 := ⟨_, rfl⟩
      rw [← ex] at cu hx
      rw [← ey] at cv hy
      have hxy := Lib.hid (And.intro ex ey)
      clear ex ey
      have cg : wr.cell? ⟨x2.heap.size, j, none⟩ = some (.int .u64 0) := by rw [R3.out.cell j]; exact part_fresh _ us vs j k HU0.out.1 HV0.out.1 hlt
      have fg := R3.out.free j
      clear hc1 hc2
      have hz := HX2.out
      have n1 : ¬ x2.heap.size = w.heap.size := by omega
      have n2 : ¬ x2.heap.size = w.heap.size + 1 := by omega
      have n3 : ¬ x2.heap.size = p := by omega
      have n4 : ¬ x2.heap.size = p2 := by omega
      have n1' : ¬ w.heap.size = x2.heap.size := by omega
      have n2' : ¬ w.heap.size + 1 = x2.heap.size := by omega
      have n3' : ¬ p = x2.heap.size := by omega
      have n4' : ¬ p2 = x2.heap.size := by omega
      have n5' : ¬ w.heap.size + 1 + 1 = x2.heap.size := by omega
      go_wp2
      go_region_held3 (fun w' => w'.cell? ⟨w.heap.size, 1, none⟩ = some (.slice (some ⟨p, o, none⟩) k c) ∧ w'.cell? ⟨w.heap.size + 1, 1, none⟩ = some (.slice (some ⟨p2, o2, none⟩) k d) ∧ w'.cell? ⟨p, o + j, none⟩ = some (.int .u64 x) ∧ w'.cell? ⟨p2, o2 + j, none⟩ = some (.int .u64 y)) (go_keep) (first | (go_at_call 96; refine (xor1_any x y hx hy _).mono ?_; rintro e w' ⟨rfl, rfl⟩))
      have P1 := Lib.hid ((R3.out.put j (.int .u64 ((x ^^^ y : Nat) : Int))).drew)
      have P0 := Lib.hid ((R0.out.far (p := ⟨x2.heap.size, j, none⟩) n1' (.int .u64 ((x ^^^ y : Nat) : Int))).drew)
      have P2 := Lib.hid ((R1.out.far (p := ⟨x2.heap.size, j, none⟩) n2' (.int .u64 ((x ^^^ y : Nat) : Int))).drew)
      have P3 := Lib.hid ((R2.out.far (p := ⟨x2.heap.size, j, none⟩) n5' (.int .u64 ((x ^^^ y : Nat) : Int))).drew)
      have P4 := Lib.hid ((HB.out.setCell (p := ⟨x2.heap.size, j, none⟩) (by simp; omega) (.int .u64 ((x ^^^ y : Nat) : Int))).drew)
      clear cg fg cu cv n1 n2 n3 n4 n1' n2' n3' n4' a0 a1 b0 b1
      generalize (wr.setCell ⟨x2.heap.size, j, none⟩ (.int .u64 ((x ^^^ y : Nat) : Int))).drew = wn at *
      go_wp2
      go_roundw
      case rel => exact ⟨j + 1, by omega, by go_num, by have := P1.out; rw [numsA_set, hxy.out.1, hxy.out.2, part_set _ us vs j k HU0.out.1 HV0.out.1 hlt] at this; exact this, P0.out, P2.out, P3.out, P4.out⟩
      case measure => simp [intOf]; omega
    · obtain ⟨r0, r1, r2, r3⟩ := R2.out.two
      have hz := HX2.out
      have n5' : ¬ w.heap.size + 1 + 1 = x2.heap.size := by omega
      obtain rfl : j = k := by omega
      go_wp2
      refine close_cell Tryz.results95 rfl rfl rfl R2.out.put2 Tryz.underlying56 rfl (by kernel_rfl) ?_
      have hp : part (· ^^^ ·) us vs j = List.zipWith (· ^^^ ·) us vs := part_full _ us vs j HU0.out.1 HV0.out.1
      have hw := Box.ownW ((R3.out.far (p := ⟨w.heap.size + 1 + 1, 0, none⟩) (by simp; omega) (.int .i64 n)).far (p := ⟨w.heap.size + 1 + 1, 1, none⟩) (by simp; omega) (.slice (some ⟨x2.heap.size, 0, none⟩) j j)) (part_len _ us vs j j HU0.out.1 HV0.out.1) (by unfold maxLen; omega)
      rw [hp] at hw
      exact ⟨_, _, _, rfl, hw, (HB.out.setCell (p := ⟨w.heap.size + 1 + 1, 0, none⟩) (by simp; omega) _).setCell (p := ⟨w.heap.size + 1 + 1, 1, none⟩) (by simp; omega) _⟩
set_option maxHeartbeats 400000 in
theorem xor_own (n : Int) (A B : Option Addr) (l c k d : Nat) (us vs : List Nat) (w : World) (hu : Words w A l us) (hv : Words w B k vs) (h1 : rightB n us = true) (h2 : rightB n vs = true) :
    Calls Tryz.prog 75 #[.agg #[.int .i64 n, .slice A l c], .agg #[.int .i64 n, .slice B k d]] w (OwnOut n (xorL us vs) w) := by
  have q2 := Box.new ((w.alloc (.cells #[.int .i64 n, .slice A l c] 56)).alloc (.cells #[.int .i64 n, .slice B k d] 56)) 56 #[.int .i64 0, .slice none 0 0]
  have hW : Below w.heap.size w (((w.alloc (.cells #[.int .i64 n, .slice A l c] 56)).alloc (.cells #[.int .i64 n, .slice B k d] 56)).alloc (.cells #[.int .i64 0, .slice none 0 0] 56)) := (((Below.refl _ _).alloc (Nat.le_refl _) _).alloc (by simp) _).alloc (by simp; omega) _
  simp only [World.size_alloc] at q2
  have Q2 := Lib.hid q2
  have HW := Lib.hid hW
  have HU := Lib.hid (hu.below hW)
  have HV := Lib.hid (hv.below hW)
  clear q2 hW hu hv
  go_enter Tryz.func75, Tryz.ntmps75
  go_wp2_with fail
  refine (joined_own n A B l c k d us vs _ HU.out HV.out h1 h2).mono ?_
  rintro e x1 ⟨A1, l1, c1, rfl, hw, hb⟩
  have P2 := Lib.hid (Q2.out.keep hb)
  have HB := Lib.hid (chain HW.out hb)
  have HWo := Lib.hid hw
  clear hb hw
  obtain ⟨r0, r1, r2, r3⟩ := P2.out.two
  go_wp2
  refine close_cell Tryz.results75 rfl rfl rfl P2.out.put2 Tryz.underlying56 rfl (by kernel_rfl) ⟨_, _, _, rfl, ?_, ?_⟩
  · exact HWo.out.put2 P2.out _ _
  · exact (HB.out.setCell (p := ⟨w.heap.size + 1 + 1, 0, none⟩) (by simp; omega) _).setCell (p := ⟨w.heap.size + 1 + 1, 1, none⟩) (by simp; omega) _
theorem new_own (n : Nat) (h : lmb n = true) (w : World) : Calls Tryz.prog 66 #[.int .i64 n] w (OwnOut n (List.replicate (nw n) 0) w) := by
  refine (new_yes n h w).mono ?_
  rintro e w' ⟨g, rfl, hg, -, hb⟩
  have hn := (lmb_iff n).1 h
  have := Box.ownW hg (n := nw n) (by simp) (by unfold maxLen nw; omega)
  rw [List.length_replicate]
  exact ⟨_, _, _, rfl, this, hb⟩
end
section
/- Rows of words, as numbers. -/
set_option linter.unusedVariables false
set_option linter.unusedSimpArgs false
open Go.RowKit
/-- The words of a row of N bits. -/
def rowOf (N x : Nat) : List Nat := (List.range (nw N)).map fun i => (x >>> (64 * i)) % 2 ^ 64
theorem rowOf_len (N x : Nat) : (rowOf N x).length = nw N := by simp [rowOf]
theorem rowOf_at (N x i : Nat) (h : i < nw N) : (rowOf N x).getD i 0 = (x >>> (64 * i)) % 2 ^ 64 := by simp [rowOf, List.getD, h]
theorem rowOf_lt (N x i : Nat) : (rowOf N x).getD i 0 < 18446744073709551616 := by
  by_cases h : i < nw N
  · rw [rowOf_at N x i h]; exact Nat.mod_lt _ (by decide)
  · have : (rowOf N x)[i]? = none := List.getElem?_eq_none (by rw [rowOf_len]; omega)
    simp [List.getD, this]
theorem rowOf_bit (N x p : Nat) (h : p < N) : (bitAt (rowOf N x) p == 1) = x.testBit p := by
  rw [bitAt_test, rowOf_at N x (p / 64) (by unfold nw; omega), Nat.testBit_mod_two_pow, Nat.testBit_shiftRight]
  have e : 64 * (p / 64) + p % 64 = p := by omega
  have l : p % 64 < 64 := Nat.mod_lt _ (by omega)
  rw [e]; simp [l]
theorem rowOf_bitN (N x p : Nat) (h : p < N) : bitAt (rowOf N x) p = if x.testBit p then 1 else 0 := by
  have hb := rowOf_bit N x p h
  rcases bitAt_le (rowOf N x) p with h0 | h0
  · rw [h0] at hb ⊢; rw [← hb]; rfl
  · rw [h0] at hb ⊢; rw [← hb]; rfl
theorem rowOf_xor (N x y : Nat) : xorL (rowOf N x) (rowOf N y) = rowOf N (x ^^^ y) := by
  unfold xorL rowOf
  rw [List.zipWith_map_left, List.zipWith_map_right]
  simp only [List.zipWith_self, Nat.shiftRight_xor_distrib, Nat.xor_mod_two_pow]
def valW : List Nat → Nat
  | [] => 0
  | u :: us => u + 2 ^ 64 * valW us
theorem valW_at : ∀ (us : List Nat) (i : Nat), (∀ j, us.getD j 0 < 18446744073709551616) → i < us.length → (valW us >>> (64 * i)) % 2 ^ 64 = us.getD i 0
  | [], i, _, h => by cases h
  | u :: us, 0, hl, _ => by
    have := hl 0
    simp only [List.getD_cons_zero] at this ⊢
    simp only [valW, Nat.mul_zero, Nat.shiftRight_zero]
    omega
  | u :: us, i + 1, hl, h => by
    have h0 := hl 0
    have ih := valW_at us i (fun j => by have := hl (j + 1); rwa [List.getD_cons_succ] at this) (by simpa using h)
    rw [List.getD_cons_succ, ← ih, show 64 * (i + 1) = 64 + 64 * i by omega, Nat.shiftRight_add]
    congr 2
    simp only [List.getD_cons_zero] at h0
    rw [Nat.shiftRight_eq_div_pow, valW]
    omega
theorem valW_lt : ∀ (us : List Nat), (∀ j, us.getD j 0 < 18446744073709551616) → valW us < 2 ^ (64 * us.length)
  | [], _ => by simp [valW]
  | u :: us, hl => by
    have h0 := hl 0
    have ih := valW_lt us (fun j => by have := hl (j + 1); rwa [List.getD_cons_succ] at this)
    simp only [List.getD_cons_zero] at h0
    rw [valW, List.length_cons, show 64 * (us.length + 1) = 64 + 64 * us.length by omega, Nat.pow_add]
    generalize 2 ^ (64 * us.length) = m at *
    have : 2 ^ 64 * valW us + 2 ^ 64 ≤ 2 ^ 64 * m := by rw [← Nat.mul_succ]; exact Nat.mul_le_mul_left _ ih
    omega
theorem valW_row (N : Nat) (us : List Nat) (hl : ∀ j, us.getD j 0 < 18446744073709551616) (hn : us.length = nw N) : us = rowOf N (valW us) := by
  apply List.ext_getElem
  · rw [rowOf_len, hn]
  · intro i h1 h2
    have h := valW_at us i hl h1
    simp only [rowOf, List.getElem_map, List.getElem_range]
    rw [h]; simp [List.getD, h1]
theorem valW_bit (us : List Nat) (p : Nat) (hl : ∀ j, us.getD j 0 < 18446744073709551616) (hp : p < 64 * us.length) : (valW us).testBit p = (bitAt us p == 1) := by
  rw [bitAt_test, ← valW_at us (p / 64) hl (by omega), Nat.testBit_mod_two_pow, Nat.testBit_shiftRight]
  have e : 64 * (p / 64) + p % 64 = p := by omega
  have l : p % 64 < 64 := Nat.mod_lt _ (by omega)
  rw [e]; simp [l]
/-- A row that may be is that of a number. -/
theorem row_of {N : Nat} {us : List Nat} (h : rightB N us = true) (hl : ∀ j, us.getD j 0 < 18446744073709551616) : us = rowOf N (valW us) ∧ valW us < 2 ^ N := by
  have hn : us.length = nw N := by
    have h' := h
    simp only [rightB, Bool.and_eq_true, beq_iff_eq, Int.toNat_natCast] at h'
    exact h'.1.2
  refine ⟨valW_row N us hl hn, ?_⟩
  apply Nat.lt_pow_two_of_testBit
  intro p hp
  by_cases hlt : p < 64 * us.length
  · rw [valW_bit us p hl hlt, right_bits h p hp hlt]; rfl
  · exact Nat.testBit_lt_two_pow (Nat.lt_of_lt_of_le (valW_lt us hl) (Nat.pow_le_pow_right (by omega) (by omega)))
theorem rowOf_right (N x : Nat) (hN : N ≤ 512) (hx : x < 2 ^ N) : rightB N (rowOf N x) = true := by
  have hl : lmb (N : Int) = true := (lmb_iff N).2 (by omega)
  simp only [rightB, hl, Bool.true_and, Int.toNat_natCast, rowOf_len, Bool.and_eq_true, beq_iff_eq, Bool.or_eq_true]
  refine ⟨by simp, ?_⟩
  by_cases h0 : N % 64 = 0
  · exact .inl h0
  · right
    have hnw : nw N - 1 < nw N := by unfold nw; omega
    rw [rowOf_at N x _ hnw, Nat.shiftRight_eq_div_pow]
    have e : 64 * (nw N - 1) + N % 64 = N := by unfold nw; omega
    have h1 : x / 2 ^ (64 * (nw N - 1)) < 2 ^ (N % 64) := by
      rw [Nat.div_lt_iff_lt_mul (Nat.two_pow_pos _), Nat.mul_comm, ← Nat.pow_add, e]; exact hx
    rw [Nat.div_eq_zero_iff]
    right
    exact Nat.lt_of_le_of_lt (Nat.mod_le _ _) h1
theorem rowOf_inj {N x y : Nat} (hx : x < 2 ^ N) (hy : y < 2 ^ N) (h : rowOf N x = rowOf N y) : x = y := by
  apply Nat.eq_of_testBit_eq
  intro p
  by_cases hp : p < N
  · rw [← rowOf_bit N x p hp, ← rowOf_bit N y p hp, h]
  · rw [Nat.testBit_lt_two_pow (Nat.lt_of_lt_of_le hx (Nat.pow_le_pow_right (by omega) (by omega))), Nat.testBit_lt_two_pow (Nat.lt_of_lt_of_le hy (Nat.pow_le_pow_right (by omega) (by omega)))]
theorem rowOf_zero (N : Nat) : rowOf N 0 = List.replicate (nw N) 0 := by
  apply List.ext_getElem
  · rw [rowOf_len, List.length_replicate]
  · intro i h1 h2
    simp [rowOf]
end
end Go.Proofs.YtmfhimeffmpgaaaGreat
