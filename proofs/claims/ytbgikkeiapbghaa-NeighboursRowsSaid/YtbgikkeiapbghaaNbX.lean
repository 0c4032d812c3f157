/- NeighboursTell: the walk. -/
import Derived.Test.YtbgikkeiapbghaaNb2
import Derived.OpenShut
import Derived.Deep.RegionWith
namespace Go.Proofs.Ytbgikkeiapbghaa
open Go.RowKit
theorem Ints.drewI {w : World} {A : Option Addr} {len : Nat} {zs : List Int} (h : Ints w A len zs) : Ints w.drew A len zs := h
theorem alive08_any (w : World) : Calls Try.prog 7 #[] w fun e w' => e = .returned (.bool true) ∧ Below w.heap.size w w' := by
  have HP := Lib.hid (places_yes 1 7 (by omega) (by omega) (by omega))
  have HR := Lib.hid (nbMany_range 1 7 (by omega) (by omega))
  have hM : nbMany 1 7 = 1 := by have := HR.out; omega
  have HL := Lib.hid (show nbL 1 7 = [0] from by
    have h1 := nb_len 1 7 (by omega) (by omega)
    rw [hM] at h1
    have h2 := nb_there 1 7
    match hz : nbL 1 7, h1 with
    | [x], _ =>
      simp [nbZ, hz, castZ, there] at h2
      simp; omega)
  rw [hM] at HP
  clear hM HR
  go_enter Try.func7, Try.ntmps7
  go_wp2_with fail
  refine (HP.out _).mono ?_
  rintro e w1 ⟨g, c, rfl, hc, hna, hl, hg0, hg1, hb⟩
  rw [HL.out] at hna
  have B := Lib.hid hb
  have c0 := (hna 0 (by simp)).1
  simp at c0
  clear hb
  go_wp2_with fail
  go_ret
  exact ⟨rfl, B.out⟩
set_option maxRecDepth 100000 in
set_option maxHeartbeats 4000000 in
theorem tell_no (k : Int) (id : Nat) (h : ¬ (1 ≤ k ∧ k ≤ 64)) (w : World) : Calls Try.prog 3 #[.int .i64 k, .int .u64 id] w fun e w' => e = .returned (.bool true) ∧ Below w.heap.size w w' := by
  have HP := Lib.hid (places_no k id h)
  have HR := Lib.hid (row_no k id h)
  go_enter Try.func3, Try.ntmps3
  go_wp2_with fail
  refine (HP.out _).mono ?_
  rintro e w1 ⟨rfl, rfl⟩
  go_wp2_with fail
  refine (HR.out _).mono ?_
  rintro e w2 ⟨A, l, c, rfl, hw, hb⟩
  have Q := Lib.hid (Box.new w2 29 #[.int .i64 0, .slice A l c])
  have B := Lib.hid (hb.alloc hb.size (.cells #[.int .i64 0, .slice A l c] 29))
  have HW := Lib.hid (hw.alloc (.cells #[.int .i64 0, .slice A l c] 29))
  clear hw hb
  by_cases hk : k < 1
  · go_wp2_with fail
    refine (alive08_any _).mono ?_
    rintro e w3 ⟨rfl, hb⟩
    have Q := Lib.hid (Q.out.keep hb)
    have HW := Lib.hid (HW.out.below hb)
    have B := Lib.hid (chain B.out hb)
    clear hb
    obtain ⟨r0, r1, -, -⟩ := Q.out.two
    go_wp2_with fail
    refine (same_any 0 0 A none l c 0 0 [] [] _ HW.out (Words.nil _ _) (by have := HW.out.1; simp at this; omega)).mono ?_
    rintro e w4 ⟨rfl, hb⟩
    have B := Lib.hid (chain B.out hb)
    clear hb
    go_wp2_with fail
    go_ret
    exact ⟨rfl, B.out⟩
  · have hk2 : 64 < k := by omega
    go_wp2_with fail
    refine (alive08_any _).mono ?_
    rintro e w3 ⟨rfl, hb⟩
    have Q := Lib.hid (Q.out.keep hb)
    have HW := Lib.hid (HW.out.below hb)
    have B := Lib.hid (chain B.out hb)
    clear hb
    obtain ⟨r0, r1, -, -⟩ := Q.out.two
    go_wp2_with fail
    refine (same_any 0 0 A none l c 0 0 [] [] _ HW.out (Words.nil _ _) (by have := HW.out.1; simp at this; omega)).mono ?_
    rintro e w4 ⟨rfl, hb⟩
    have B := Lib.hid (chain B.out hb)
    clear hb
    go_wp2_with fail
    go_ret
    exact ⟨rfl, B.out⟩
set_option maxRecDepth 100000 in
set_option maxHeartbeats 4000000 in
theorem tell_yes (k id : Nat) (h1 : 1 ≤ k) (h2 : k ≤ 64) (hi : id < 18446744073709551616) (w : World) : Calls Try.prog 3 #[.int .i64 k, .int .u64 id] w fun e w' => e = .returned (.bool true) ∧ Below w.heap.size w w' := by
  have HP := Lib.hid (places_yes k id h1 h2 hi)
  have HR := Lib.hid (row_yes k id h1 h2 hi)
  have HRP := Lib.hid (refPlaces_any k id h1 h2 hi)
  have HRR := Lib.hid (refRow_any k id h1 h2 hi)
  have HM := Lib.hid (nbMany_range k id h1 h2)
  have HSS := Lib.hid (show sameB k (nbRow k id) k (nbRow k id) = true by simp [sameB])
  have HL := Lib.hid (show (nbRow k id).length ≤ 1 by rw [nbRow, ofBits_len]; unfold nw; omega)
  have hk1 : ¬ (k : Int) < 1 := by omega
  have hk2 : ¬ (64 : Int) < k := by omega
  go_enter Try.func3, Try.ntmps3
  go_wp2_with fail
  refine (HP.out _).mono ?_
  rintro e w1 ⟨g, c, rfl, hc, hna, hl, hg0, hg1, hb⟩
  have HI := Lib.hid (nats_ints hna hl hg1 (some_bound k _ _ (by omega)))
  have B := Lib.hid hb
  clear hna hb
  go_wp2_with fail
  refine (HR.out _).mono ?_
  rintro e w2 ⟨A, l, c2, rfl, hw, hb⟩
  have HI := Lib.hid (HI.out.below hb)
  have B := Lib.hid (chain B.out hb)
  have Q := Lib.hid (Box.new w2 29 #[.int .i64 k, .slice A l c2])
  have HI := Lib.hid (HI.out.below ((Below.refl _ w2).alloc (Nat.le_refl _) (.cells #[.int .i64 k, .slice A l c2] 29)))
  have B := Lib.hid (B.out.alloc B.out.size (.cells #[.int .i64 k, .slice A l c2] 29))
  have HW := Lib.hid (hw.alloc (.cells #[.int .i64 k, .slice A l c2] 29))
  clear hw hb
  go_wp2_with fail
  generalize w2.alloc (.cells #[.int .i64 k, .slice A l c2] 29) = W at *
  generalize w2.heap.size = q at *
  obtain ⟨r0, r1, -, -⟩ := Q.out.two
  go_region_held3 (fun w' => w'.cell? ⟨q, 0, none⟩ = some (.int .i64 k) ∧ w'.cell? ⟨q, 1, none⟩ = some (.slice A l c2)) (go_keep)
    (first
      | (go_at_call 7; refine (alive08_any _).mono ?_; rintro f1 y1 ⟨rfl, hb⟩; have Q1 := Lib.hid (Q.out.drew.keep hb); have HI1 := Lib.hid (HI.out.drewI.below hb); have HW1 := Lib.hid (HW.out.drew.below hb); have B1 := Lib.hid (chain B.out.drew hb); clear hb; obtain ⟨r10, r11, -, -⟩ := Q1.out.two)
      | (go_at_call 10; refine (HRP.out _).mono ?_; rintro f2 y2 ⟨v, rfl, hown, hb⟩; obtain ⟨A3, c3, rfl, -⟩ := own_form hown; have Q2 := Lib.hid (Q1.out.keep hb); have HI2 := Lib.hid (HI1.out.below hb); have HW2 := Lib.hid (HW1.out.below hb); have B2 := Lib.hid (chain B1.out hb); have HV2 := Lib.hid (own_natInts hown (some_bound k _ _ (by omega))); clear hown; clear hb; obtain ⟨r20, r21, -, -⟩ := Q2.out.two)
      | (go_at_call 9; refine (refNumbers_any (some ⟨g, 0, none⟩) A3 (nbMany k id) c (nbMany k id) c3 _ _ _ HI2.out HV2.out (by have := HM.out.2; omega) (by have := HM.out.2; omega)).mono ?_; rintro f3 y3 ⟨rfl, hb⟩; rw [sameZ_self]; have Q3 := Lib.hid (Q2.out.keep hb); have HI3 := Lib.hid (HI2.out.below hb); have HW3 := Lib.hid (HW2.out.below hb); have B3 := Lib.hid (chain B2.out hb); clear hb; obtain ⟨r30, r31, -, -⟩ := Q3.out.two)
      | (go_at_call 11; refine (HRR.out _).mono ?_; rintro f4 y4 ⟨A4, l4, c4, rfl, hw, hb⟩; have Q4 := Lib.hid (Q3.out.keep hb); have HI4 := Lib.hid (HI3.out.below hb); have HW4 := Lib.hid (HW3.out.below hb); have B4 := Lib.hid (chain B3.out hb); have HX4 := Lib.hid hw; clear hw; clear hb; obtain ⟨r40, r41, -, -⟩ := Q4.out.two)
      | (go_at_call 8; refine (same_any k k A A4 l c2 l4 c4 _ _ _ HW4.out HX4.out (by have := HL.out; have := HW4.out.1; omega)).mono ?_; rintro f5 y5 ⟨rfl, hb⟩; rw [HSS.out]; have Q5 := Lib.hid (Q4.out.keep hb); have HI5 := Lib.hid (HI4.out.below hb); have HW5 := Lib.hid (HW4.out.below hb); have B5 := Lib.hid (chain B4.out hb); clear hb; obtain ⟨r50, r51, -, -⟩ := Q5.out.two))
  go_wp2_with fail
  go_ret
  exact ⟨rfl, B5.out⟩
end Go.Proofs.Ytbgikkeiapbghaa
