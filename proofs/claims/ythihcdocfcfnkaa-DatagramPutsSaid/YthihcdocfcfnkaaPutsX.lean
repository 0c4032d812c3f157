/- DatagramPuts: the walk. -/
import Derived.Test.YthihcdocfcfnkaaDg4
import Derived.Deep.RegionWith
import Derived.Deep.DeepCutAuto
import Derived.OpenShut
namespace Go.Proofs.Ythihcdocfcfnkaa
open Go.RowKit
set_option maxRecDepth 100000 in
set_option maxHeartbeats 4000000 in
theorem puts_no (o k z i : Int) (s : ByteArray) (hs : s.size ≤ maxLen) (w : World) (h : dgB k z (cutD s) = false) :
    Calls Try.prog 7 #[dgV o k z i s] w fun e w' => e = .returned (.bool true) ∧ Below w.heap.size w w' := by
  have HC := Lib.hid (cutD_any s hs)
  have hcs := cutD_size s
  have HB := Lib.hid h
  clear h
  go_enter Try.func7, Try.ntmps7
  go_wp2_with fail
  refine (HC.out _).mono ?_
  rintro e w1 ⟨rfl, rfl⟩
  clear HC
  generalize cutD s = t at *
  have Q := Lib.hid (Box.new w 39 #[.int .u64 o, .int .i64 k, .int .i64 z, .int .u64 i, .string t])
  have B := Lib.hid ((Below.refl w.heap.size w).alloc (Nat.le_refl _) (.cells #[.int .u64 o, .int .i64 k, .int .i64 z, .int .u64 i, .string t] 39))
  go_wp2_with fail
  refine (put_no o k z i t (by unfold maxLen; omega) _ HB.out).mono ?_
  rintro e w2 ⟨rfl, hb⟩
  have Q := Lib.hid (Q.out.keep hb)
  have B := Lib.hid (chain B.out hb)
  clear hb
  skip
  skip
  skip
  obtain ⟨c0, c1, c2, c3, c4⟩ := Q.out.five
  have tN : (dgB k z t != dgB k z t) = false := by simp
  go_upto_region 3 with (fail)
  go_cut [24] (fun s24 wx => s24 = .bool false ∧ Box wx w.heap.size 39 #[.int .u64 o, .int .i64 k, .int .i64 z, .int .u64 i, .string t] ∧ Below w.heap.size w wx)
  case first =>
    go_region_with (first
      | (go_at_call 20; refine (dgRight_any o k z i t (by unfold maxLen; omega) _).mono ?_; rintro e w3 ⟨rfl, hb⟩; have P := Lib.hid (Q.out.drew.keep hb); have T := Lib.hid (chain B.out.drew hb); obtain ⟨e0, e1, e2, e3, e4⟩ := P.out.five; clear hb)
      | (go_at_call 21; refine (refRightD_any o k z i t (by unfold maxLen; omega) _).mono ?_; rintro e w4 ⟨rfl, hb⟩; have P := Lib.hid (P.out.keep hb); have T := Lib.hid (chain T.out hb); clear hb)
      | (go_at_call 22; refine (alive11_any _).mono ?_; rintro e w5 ⟨rfl, hb⟩; have P := Lib.hid (P.out.keep hb); have T := Lib.hid (chain T.out hb); clear hb))
    all_goals (go_wp2_with fail; go_meet; exact ⟨rfl, P.out, T.out⟩)
  case rest =>
    obtain ⟨rfl, Q1, T1⟩ := hcut
    have P := Lib.hid Q1
    have T := Lib.hid T1
    clear Q1 T1 c0 c1 c2 c3 c4 tN Q B
    obtain ⟨c0, c1, c2, c3, c4⟩ := P.out.five
    go_wp2_with fail
    refine (refRightD_any o k z i t (by unfold maxLen; omega) _).mono ?_
    rintro e w6 ⟨rfl, hb⟩
    rw [HB.out]
    have P := Lib.hid (P.out.keep hb)
    have T := Lib.hid (chain T.out hb)
    clear hb c0 c1 c2 c3 c4
    obtain ⟨c0, c1, c2, c3, c4⟩ := P.out.five
    go_wp2_with fail
    go_ret
    exact ⟨by simp, T.out⟩
set_option maxRecDepth 100000 in
set_option maxHeartbeats 4000000 in
theorem puts_yes (o k z i : Nat) (s : ByteArray) (hs : s.size ≤ maxLen) (w : World) (ho : o < 18446744073709551616) (hi : i < 18446744073709551616) (h : dgB k z (cutD s) = true) :
    Calls Try.prog 7 #[dgV o k z i s] w fun e w' => e = .returned (.bool true) ∧ Below w.heap.size w w' := by
  have HC := Lib.hid (cutD_any s hs)
  have hcs := cutD_size s
  have HB := Lib.hid h
  clear h
  go_enter Try.func7, Try.ntmps7
  go_wp2_with fail
  refine (HC.out _).mono ?_
  rintro e w1 ⟨rfl, rfl⟩
  clear HC
  generalize cutD s = t at *
  have Q := Lib.hid (Box.new w 39 #[.int .u64 o, .int .i64 k, .int .i64 z, .int .u64 i, .string t])
  have B := Lib.hid ((Below.refl w.heap.size w).alloc (Nat.le_refl _) (.cells #[.int .u64 o, .int .i64 k, .int .i64 z, .int .u64 i, .string t] 39))
  go_wp2_with fail
  refine (put_yes o k z i t _ ho hi HB.out).mono ?_
  rintro e w2 ⟨rfl, hb⟩
  have Q := Lib.hid (Q.out.keep hb)
  have B := Lib.hid (chain B.out hb)
  clear hb
  generalize hSL : sealB ⟨(dgL o k z i t).toArray⟩ = SL at *
  have HSL := Lib.hid hSL
  clear hSL
  obtain ⟨c0, c1, c2, c3, c4⟩ := Q.out.five
  have tN : (dgB k z t != dgB k z t) = false := by simp
  go_upto_region 3 with (fail)
  go_cut [24] (fun s24 wx => s24 = .bool false ∧ Box wx w.heap.size 39 #[.int .u64 o, .int .i64 k, .int .i64 z, .int .u64 i, .string t] ∧ Below w.heap.size w wx)
  case first =>
    go_region_with (first
      | (go_at_call 20; refine (dgRight_any o k z i t (by unfold maxLen; omega) _).mono ?_; rintro e w3 ⟨rfl, hb⟩; have P := Lib.hid (Q.out.drew.keep hb); have T := Lib.hid (chain B.out.drew hb); obtain ⟨e0, e1, e2, e3, e4⟩ := P.out.five; clear hb)
      | (go_at_call 21; refine (refRightD_any o k z i t (by unfold maxLen; omega) _).mono ?_; rintro e w4 ⟨rfl, hb⟩; have P := Lib.hid (P.out.keep hb); have T := Lib.hid (chain T.out hb); clear hb)
      | (go_at_call 22; refine (alive11_any _).mono ?_; rintro e w5 ⟨rfl, hb⟩; have P := Lib.hid (P.out.keep hb); have T := Lib.hid (chain T.out hb); clear hb))
    all_goals (go_wp2_with fail; go_meet; exact ⟨rfl, P.out, T.out⟩)
  case rest =>
    obtain ⟨rfl, Q1, T1⟩ := hcut
    have P := Lib.hid Q1
    have T := Lib.hid T1
    clear Q1 T1 c0 c1 c2 c3 c4 tN Q B
    obtain ⟨c0, c1, c2, c3, c4⟩ := P.out.five
    go_wp2_with fail
    refine (refRightD_any o k z i t (by unfold maxLen; omega) _).mono ?_
    rintro e w6 ⟨rfl, hb⟩
    rw [HB.out]
    have P := Lib.hid (P.out.keep hb)
    have T := Lib.hid (chain T.out hb)
    clear hb c0 c1 c2 c3 c4
    obtain ⟨c0, c1, c2, c3, c4⟩ := P.out.five
    go_wp2_with fail
    refine (refPutD_any o k z i t _ ho hi HB.out).mono ?_
    rintro e w7 ⟨rfl, hb⟩
    rw [HSL.out]
    have T := Lib.hid (chain T.out hb)
    clear hb
    go_wp2_with fail
    go_ret
    exact ⟨by simp, T.out⟩
theorem puts_walk (o k z i : Int) (s : ByteArray) (w : World) (wo : (Lit.int .u64 o).wf = true) (wi : (Lit.int .u64 i).wf = true) (hs : s.size ≤ maxLen) :
    Calls Try.prog 7 #[dgV o k z i s] w fun e w' => e = .returned (.bool true) ∧ Below w.heap.size w w' := by
  cases h : dgB k z (cutD s) with
  | false => exact puts_no o k z i s hs w h
  | true =>
    have hd := of_decide_eq_true h
    have h1 := bounds_u64 wo
    have h2 := bounds_u64 wi
    obtain ⟨o', rfl⟩ := Int.eq_ofNat_of_zero_le h1.1
    obtain ⟨i', rfl⟩ := Int.eq_ofNat_of_zero_le h2.1
    obtain ⟨k', rfl⟩ := Int.eq_ofNat_of_zero_le (show 0 ≤ k by omega)
    obtain ⟨z', rfl⟩ := Int.eq_ofNat_of_zero_le (show 0 ≤ z by omega)
    exact puts_yes o' k' z' i' s hs w (by omega) (by omega) h
end Go.Proofs.Ythihcdocfcfnkaa
