/- NeighboursRows: the walk. -/
import Derived.Test.YtbgikkeiapbghaaNb6
import Derived.Test.YtbgikkeiapbghaaNb7
import Derived.Test.YtbgikkeiapbghaaNbX
namespace Go.Proofs.Ytbgikkeiapbghaa
open Go.RowKit
theorem nbRow_lt (k id j : Nat) : (nbRow k id).getD j 0 < 18446744073709551616 := ofBits_lt k _ j
theorem rowsRows_lt (k : Nat) (zs : List Nat) (j i : Nat) : ((zs.map (nbRow k)).getD j []).getD i 0 < 18446744073709551616 := by
  by_cases h : j < zs.length
  · have e : (zs.map (nbRow k)).getD j [] = nbRow k (zs.getD j 0) := by simp [List.getD, h]
    rw [e]; exact nbRow_lt _ _ _
  · have e : (zs.map (nbRow k)).getD j [] = [] := by simp [List.getD, List.getElem?_eq_none (Nat.le_of_not_lt h)]
    rw [e]; simp
theorem rowsRows_len (k : Nat) (h2 : k ≤ 64) (zs : List Nat) (j : Nat) : ((zs.map (nbRow k)).getD j []).length ≤ 1000 := by
  by_cases h : j < zs.length
  · have e : (zs.map (nbRow k)).getD j [] = nbRow k (zs.getD j 0) := by simp [List.getD, h]
    rw [e, nbRow, ofBits_len]; unfold nw; omega
  · have e : (zs.map (nbRow k)).getD j [] = [] := by simp [List.getD, List.getElem?_eq_none (Nat.le_of_not_lt h)]
    rw [e]; simp
theorem rows_yes (k : Nat) (h1 : 1 ≤ k) (h2 : k ≤ 64) (A : Option Addr) (l c : Nat) (zs : List Nat) (w : World) (hz : Words w A l zs) (hl : l ≤ 64) :
    Calls Try.prog 12 #[.int .i64 k, .slice A l c] w (MatOut k (nbRow k) zs w) := by
  have HM := srcMay_any k
  rw [kmb_yes (n := k) (by omega)] at HM
  exact rows_gen k (nbRow k) ⟨h1, h2⟩ HM (fun id hi w => srcRow_own k id h1 h2 hi w) A l c zs w hz hl
theorem refRows_any (k : Nat) (h1 : 1 ≤ k) (h2 : k ≤ 64) (A : Option Addr) (l c : Nat) (zs : List Nat) (w : World) (hz : Words w A l zs) (hl : l ≤ 64) :
    Calls Try.prog 14 #[.int .i64 k, .slice A l c] w (MatRet k (nbRow k) zs w) :=
  refRows_gen k (nbRow k) ⟨h1, h2⟩ (fun id hi w => refRow_own k id h1 h2 hi w) A l c zs w hz hl
theorem rows_no (k : Int) (A : Option Addr) (l c : Nat) (h : ¬ ((1 ≤ k ∧ k ≤ 64) ∧ l ≤ 64)) (w : World) : Calls Try.prog 12 #[.int .i64 k, .slice A l c] w fun e w' => e = .returned (.tuple #[.agg #[.int .i64 0, .slice none 0 0], .int .i64 2]) ∧ Below w.heap.size w w' := by
  have HM := Lib.hid (srcMay_any k)
  have Q := Lib.hid (Box.new w 40 #[.int .i64 0, .slice none 0 0])
  obtain ⟨r0, r1, r2, r3⟩ := Q.out.two
  by_cases hk : 1 ≤ k ∧ k ≤ 64
  · rw [kmb_yes hk] at HM
    have hl2 : (64 : Int) < l := by omega
    go_enter Try.func12, Try.ntmps12
    go_wp2_with fail
    refine (HM.out _).mono ?_
    rintro e w1 ⟨rfl, rfl⟩
    go_wp2
    refine close_cell Try.results12 rfl rfl rfl Q.out Try.underlying40 rfl (by kernel_rfl) ⟨rfl, (Below.refl _ _).alloc (Nat.le_refl _) _⟩
  · rw [kmb_no hk] at HM
    go_enter Try.func12, Try.ntmps12
    go_wp2_with fail
    refine (HM.out _).mono ?_
    rintro e w1 ⟨rfl, rfl⟩
    go_wp2
    refine close_cell Try.results12 rfl rfl rfl Q.out Try.underlying40 rfl (by kernel_rfl) ⟨rfl, (Below.refl _ _).alloc (Nat.le_refl _) _⟩
theorem MatW.form {w : World} {base : Nat} {k : Int} {v : Value} {ls : List (List Nat)} {n : Nat} (h : MatW w base k v ls) (hn : ls.length = n) : ∃ A c, v = .slice A n c := by
  obtain ⟨rs, -, h2, -⟩ := h
  obtain ⟨A, c, h, -⟩ := own_form h2
  exact ⟨A, c, by rw [h, hn]⟩
set_option maxRecDepth 100000 in
set_option maxHeartbeats 4000000 in
theorem nrows_long (k : Int) (A : Option Addr) (l c : Nat) (hl : 64 < l) (w : World) : Calls Try.prog 4 #[.int .i64 k, .slice A l c] w fun e w' => e = .returned (.bool true) ∧ Below w.heap.size w w' := by
  have HR := Lib.hid (rows_no k A l c (by omega))
  have hl1 : ¬ (l : Int) ≤ 64 := by omega
  have hl2 : (64 : Int) < l := by omega
  go_enter Try.func4, Try.ntmps4
  go_wp2_with fail
  refine (HR.out _).mono ?_
  rintro e w1 ⟨rfl, hb⟩
  have Q := Lib.hid (Box.new w1 40 #[.int .i64 0, .slice none 0 0])
  have B := Lib.hid (hb.alloc hb.size (.cells #[.int .i64 0, .slice none 0 0] 40))
  clear hb
  go_wp2_with fail
  all_goals
    refine (alive08_any _).mono ?_
    rintro e w3 ⟨rfl, hb⟩
    have Q := Lib.hid (Q.out.keep hb)
    have B := Lib.hid (chain B.out hb)
    clear hb
    obtain ⟨r0, r1, -, -⟩ := Q.out.two
    go_wp2_with fail
    refine (same3_yes 0 0 0 0 0 0 none none [] _ (MatW.nil _ _ _) (MatW.nil _ _ _) rfl (by simp) (by simp) (by omega)).mono ?_
    rintro e w4 ⟨rfl, hb⟩
    have B := Lib.hid (chain B.out hb)
    clear hb
    go_wp2_with fail
    go_ret
    exact ⟨rfl, B.out⟩
set_option maxRecDepth 100000 in
set_option maxHeartbeats 4000000 in
theorem nrows_bad0 (k : Int)  (h : ¬ (1 ≤ k ∧ k ≤ 64)) (w : World) : Calls Try.prog 4 #[.int .i64 k, .slice none 0 0] w fun e w' => e = .returned (.bool true) ∧ Below w.heap.size w w' := by
  have HR := Lib.hid (rows_no k none 0 0 (fun x => h x.1))
  have hk : k < 1 ∨ 64 < k := by omega
  rcases hk with hk | hk
  · skip
    go_enter Try.func4, Try.ntmps4
    go_wp2_with fail
    refine (HR.out _).mono ?_
    rintro e w1 ⟨rfl, hb⟩
    have Q := Lib.hid (Box.new w1 40 #[.int .i64 0, .slice none 0 0])
    have B := Lib.hid (hb.alloc hb.size (.cells #[.int .i64 0, .slice none 0 0] 40))
    clear hb
    go_wp2_with fail
    all_goals
      refine (alive08_any _).mono ?_
      rintro e w3 ⟨rfl, hb⟩
      have Q := Lib.hid (Q.out.keep hb)
      have B := Lib.hid (chain B.out hb)
      clear hb
      obtain ⟨r0, r1, -, -⟩ := Q.out.two
      go_wp2_with fail
      refine (same3_yes 0 0 0 0 0 0 none none [] _ (MatW.nil _ _ _) (MatW.nil _ _ _) rfl (by simp) (by simp) (by omega)).mono ?_
      rintro e w4 ⟨rfl, hb⟩
      have B := Lib.hid (chain B.out hb)
      clear hb
      go_wp2_with fail
      go_ret
      exact ⟨rfl, B.out⟩
  · skip
    go_enter Try.func4, Try.ntmps4
    go_wp2_with fail
    refine (HR.out _).mono ?_
    rintro e w1 ⟨rfl, hb⟩
    have Q := Lib.hid (Box.new w1 40 #[.int .i64 0, .slice none 0 0])
    have B := Lib.hid (hb.alloc hb.size (.cells #[.int .i64 0, .slice none 0 0] 40))
    clear hb
    go_wp2_with fail
    all_goals
      refine (alive08_any _).mono ?_
      rintro e w3 ⟨rfl, hb⟩
      have Q := Lib.hid (Q.out.keep hb)
      have B := Lib.hid (chain B.out hb)
      clear hb
      obtain ⟨r0, r1, -, -⟩ := Q.out.two
      go_wp2_with fail
      refine (same3_yes 0 0 0 0 0 0 none none [] _ (MatW.nil _ _ _) (MatW.nil _ _ _) rfl (by simp) (by simp) (by omega)).mono ?_
      rintro e w4 ⟨rfl, hb⟩
      have B := Lib.hid (chain B.out hb)
      clear hb
      go_wp2_with fail
      go_ret
      exact ⟨rfl, B.out⟩
set_option maxRecDepth 100000 in
set_option maxHeartbeats 4000000 in
theorem nrows_good0 (k : Nat)  (zs : List Nat) (k1 : 1 ≤ k) (k2 : k ≤ 64) (w : World) (hz : Words w none 0 zs) : Calls Try.prog 4 #[.int .i64 k, .slice none 0 0] w fun e w' => e = .returned (.bool true) ∧ Below w.heap.size w w' := by
  have hk1 : ¬ (k : Int) < 1 := by omega
  have hk2 : ¬ (64 : Int) < k := by omega
  have HI := Lib.hid hz
  have HLL := Lib.hid (show (zs.map (nbRow k)).length = 0 by rw [List.length_map]; exact hz.1)
  have HL2 := Lib.hid (show 0 ≤ 1000 by omega)
  have HU := Lib.hid (rowsRows_lt k zs)
  have HRL := Lib.hid (rowsRows_len k k2 zs)
  have HR := Lib.hid (fun w hz => rows_yes k k1 k2 none 0 0 zs w hz (by omega))
  have HRR := Lib.hid (fun w hz => refRows_any k k1 k2 none 0 0 zs w hz (by omega))
  clear hz
  go_enter Try.func4, Try.ntmps4
  go_wp2_with fail
  refine (HR.out _ HI.out).mono ?_
  rintro e w1 ⟨v1, rfl, hm, hb⟩
  obtain ⟨A1, c1, rfl⟩ := hm.form HLL.out
  have Q := Lib.hid (Box.new w1 40 #[.int .i64 k, .slice A1 0 c1])
  have HI := Lib.hid ((HI.out.below hb).alloc (.cells #[.int .i64 k, .slice A1 0 c1] 40))
  have HV := Lib.hid (hm.alloc (.cells #[.int .i64 k, .slice A1 0 c1] 40))
  have B := Lib.hid (hb.alloc hb.size (.cells #[.int .i64 k, .slice A1 0 c1] 40))
  clear hb hm
  go_wp2_with fail
  generalize w1.alloc (.cells #[.int .i64 k, .slice A1 0 c1] 40) = W at *
  generalize w1.heap.size = q at *
  obtain ⟨r0, r1, -, -⟩ := Q.out.two
  go_region_held3 (fun w' => w'.cell? ⟨q, 0, none⟩ = some (.int .i64 k) ∧ w'.cell? ⟨q, 1, none⟩ = some (.slice A1 0 c1)) (go_keep)
    (first
      | (go_at_call 7; refine (alive08_any _).mono ?_; rintro f1 y1 ⟨rfl, hb⟩; have Q1 := Lib.hid (Q.out.drew.keep hb); have HI1 := Lib.hid (HI.out.drew.below hb); have HV1 := Lib.hid (MatW.below (w := W.drew) HV.out hb); have B1 := Lib.hid (chain B.out.drew hb); clear hb; obtain ⟨r10, r11, -, -⟩ := Q1.out.two)
      | (go_at_call 14; refine (HRR.out _ HI1.out).mono ?_; rintro f2 y2 ⟨v2, rfl, hm2, hb⟩; obtain ⟨A2, c2, rfl⟩ := hm2.form HLL.out; have Q2 := Lib.hid (Q1.out.keep hb); have HI2 := Lib.hid (HI1.out.below hb); have HV2 := Lib.hid (MatW.below (w := y1) HV1.out hb); have B2 := Lib.hid (chain B1.out hb); have HX2 := Lib.hid hm2; clear hm2; clear hb; obtain ⟨r20, r21, -, -⟩ := Q2.out.two)
      | (go_at_call 13; refine (same3_yes k _ _ 0 c1 c2 A1 A2 _ _ HV2.out HX2.out HLL.out HU.out HRL.out HL2.out).mono ?_; rintro f3 y3 ⟨rfl, hb⟩; have Q3 := Lib.hid (Q2.out.keep hb); have HI3 := Lib.hid (HI2.out.below hb); have HV3 := Lib.hid (MatW.below (w := y2) HV2.out hb); have B3 := Lib.hid (chain B2.out hb); clear hb; obtain ⟨r30, r31, -, -⟩ := Q3.out.two))
  go_wp2_with fail
  go_ret
  exact ⟨rfl, B3.out⟩
set_option maxRecDepth 100000 in
set_option maxHeartbeats 4000000 in
theorem nrows_bad1 (k : Int) (ad : Addr) (l c : Nat) (h12 : l ≤ 12) (hlc : l ≤ c) (hc : c ≤ maxLen) (h : ¬ (1 ≤ k ∧ k ≤ 64)) (w : World) : Calls Try.prog 4 #[.int .i64 k, .slice (some ad) l c] w fun e w' => e = .returned (.bool true) ∧ Below w.heap.size w w' := by
  have HR := Lib.hid (rows_no k (some ad) l c (fun x => h x.1))
  have hk : k < 1 ∨ 64 < k := by omega
  unfold maxLen at hc
  have h1 : (l : Int) ≤ 12 := by omega
  have h64 : (l : Int) ≤ 64 := by omega
  have h64b : ¬ (64 : Int) < l := by omega
  have HMN := Lib.hid (show (min (l : Int) 12).toNat = l by omega)
  rcases hk with hk | hk
  · skip
    go_enter Try.func4, Try.ntmps4
    go_wp2_with fail
    rw [HMN.out]
    refine (HR.out _).mono ?_
    rintro e w1 ⟨rfl, hb⟩
    have Q := Lib.hid (Box.new w1 40 #[.int .i64 0, .slice none 0 0])
    have B := Lib.hid (hb.alloc hb.size (.cells #[.int .i64 0, .slice none 0 0] 40))
    clear hb
    go_wp2_with fail
    all_goals
      refine (alive08_any _).mono ?_
      rintro e w3 ⟨rfl, hb⟩
      have Q := Lib.hid (Q.out.keep hb)
      have B := Lib.hid (chain B.out hb)
      clear hb
      obtain ⟨r0, r1, -, -⟩ := Q.out.two
      go_wp2_with fail
      refine (same3_yes 0 0 0 0 0 0 none none [] _ (MatW.nil _ _ _) (MatW.nil _ _ _) rfl (by simp) (by simp) (by omega)).mono ?_
      rintro e w4 ⟨rfl, hb⟩
      have B := Lib.hid (chain B.out hb)
      clear hb
      go_wp2_with fail
      go_ret
      exact ⟨rfl, B.out⟩
  · skip
    go_enter Try.func4, Try.ntmps4
    go_wp2_with fail
    rw [HMN.out]
    refine (HR.out _).mono ?_
    rintro e w1 ⟨rfl, hb⟩
    have Q := Lib.hid (Box.new w1 40 #[.int .i64 0, .slice none 0 0])
    have B := Lib.hid (hb.alloc hb.size (.cells #[.int .i64 0, .slice none 0 0] 40))
    clear hb
    go_wp2_with fail
    all_goals
      refine (alive08_any _).mono ?_
      rintro e w3 ⟨rfl, hb⟩
      have Q := Lib.hid (Q.out.keep hb)
      have B := Lib.hid (chain B.out hb)
      clear hb
      obtain ⟨r0, r1, -, -⟩ := Q.out.two
      go_wp2_with fail
      refine (same3_yes 0 0 0 0 0 0 none none [] _ (MatW.nil _ _ _) (MatW.nil _ _ _) rfl (by simp) (by simp) (by omega)).mono ?_
      rintro e w4 ⟨rfl, hb⟩
      have B := Lib.hid (chain B.out hb)
      clear hb
      go_wp2_with fail
      go_ret
      exact ⟨rfl, B.out⟩
set_option maxRecDepth 100000 in
set_option maxHeartbeats 4000000 in
theorem nrows_good1 (k : Nat) (ad : Addr) (l c : Nat) (h12 : l ≤ 12) (hlc : l ≤ c) (hc : c ≤ maxLen) (zs : List Nat) (k1 : 1 ≤ k) (k2 : k ≤ 64) (w : World) (hz : Words w (some ad) l zs) : Calls Try.prog 4 #[.int .i64 k, .slice (some ad) l c] w fun e w' => e = .returned (.bool true) ∧ Below w.heap.size w w' := by
  unfold maxLen at hc
  have h1 : (l : Int) ≤ 12 := by omega
  have h64 : (l : Int) ≤ 64 := by omega
  have h64b : ¬ (64 : Int) < l := by omega
  have HMN := Lib.hid (show (min (l : Int) 12).toNat = l by omega)
  have hk1 : ¬ (k : Int) < 1 := by omega
  have hk2 : ¬ (64 : Int) < k := by omega
  have HI := Lib.hid hz
  have HLL := Lib.hid (show (zs.map (nbRow k)).length = l by rw [List.length_map]; exact hz.1)
  have HL2 := Lib.hid (show l ≤ 1000 by omega)
  have HU := Lib.hid (rowsRows_lt k zs)
  have HRL := Lib.hid (rowsRows_len k k2 zs)
  have HR := Lib.hid (fun w hz => rows_yes k k1 k2 (some ad) l c zs w hz (by omega))
  have HRR := Lib.hid (fun w hz => refRows_any k k1 k2 (some ad) l c zs w hz (by omega))
  clear hz
  go_enter Try.func4, Try.ntmps4
  go_wp2_with fail
  rw [HMN.out]
  refine (HR.out _ HI.out).mono ?_
  rintro e w1 ⟨v1, rfl, hm, hb⟩
  obtain ⟨A1, c1, rfl⟩ := hm.form HLL.out
  have Q := Lib.hid (Box.new w1 40 #[.int .i64 k, .slice A1 l c1])
  have HI := Lib.hid ((HI.out.below hb).alloc (.cells #[.int .i64 k, .slice A1 l c1] 40))
  have HV := Lib.hid (hm.alloc (.cells #[.int .i64 k, .slice A1 l c1] 40))
  have B := Lib.hid (hb.alloc hb.size (.cells #[.int .i64 k, .slice A1 l c1] 40))
  clear hb hm
  go_wp2_with fail
  generalize w1.alloc (.cells #[.int .i64 k, .slice A1 l c1] 40) = W at *
  generalize w1.heap.size = q at *
  obtain ⟨r0, r1, -, -⟩ := Q.out.two
  go_region_held3 (fun w' => w'.cell? ⟨q, 0, none⟩ = some (.int .i64 k) ∧ w'.cell? ⟨q, 1, none⟩ = some (.slice A1 l c1)) (go_keep)
    (first
      | (go_at_call 7; refine (alive08_any _).mono ?_; rintro f1 y1 ⟨rfl, hb⟩; have Q1 := Lib.hid (Q.out.drew.keep hb); have HI1 := Lib.hid (HI.out.drew.below hb); have HV1 := Lib.hid (MatW.below (w := W.drew) HV.out hb); have B1 := Lib.hid (chain B.out.drew hb); clear hb; obtain ⟨r10, r11, -, -⟩ := Q1.out.two)
      | (go_at_call 14; refine (HRR.out _ HI1.out).mono ?_; rintro f2 y2 ⟨v2, rfl, hm2, hb⟩; obtain ⟨A2, c2, rfl⟩ := hm2.form HLL.out; have Q2 := Lib.hid (Q1.out.keep hb); have HI2 := Lib.hid (HI1.out.below hb); have HV2 := Lib.hid (MatW.below (w := y1) HV1.out hb); have B2 := Lib.hid (chain B1.out hb); have HX2 := Lib.hid hm2; clear hm2; clear hb; obtain ⟨r20, r21, -, -⟩ := Q2.out.two)
      | (go_at_call 13; refine (same3_yes k _ _ l c1 c2 A1 A2 _ _ HV2.out HX2.out HLL.out HU.out HRL.out HL2.out).mono ?_; rintro f3 y3 ⟨rfl, hb⟩; have Q3 := Lib.hid (Q2.out.keep hb); have HI3 := Lib.hid (HI2.out.below hb); have HV3 := Lib.hid (MatW.below (w := y2) HV2.out hb); have B3 := Lib.hid (chain B2.out hb); clear hb; obtain ⟨r30, r31, -, -⟩ := Q3.out.two))
  go_wp2_with fail
  go_ret
  exact ⟨rfl, B3.out⟩
set_option maxRecDepth 100000 in
set_option maxHeartbeats 4000000 in
theorem nrows_bad2 (k : Int) (ad : Addr) (l c : Nat) (h12 : 12 < l) (hl64 : l ≤ 64) (hlc : l ≤ c) (hc : c ≤ maxLen) (h : ¬ (1 ≤ k ∧ k ≤ 64)) (w : World) : Calls Try.prog 4 #[.int .i64 k, .slice (some ad) l c] w fun e w' => e = .returned (.bool true) ∧ Below w.heap.size w w' := by
  have HR := Lib.hid (rows_no k (some ad) 12 c (fun x => h x.1))
  have hk : k < 1 ∨ 64 < k := by omega
  unfold maxLen at hc
  have h1 : (12 : Int) < l := by omega
  have h64 : (l : Int) ≤ 64 := by omega
  have HMN := Lib.hid (show (min (l : Int) 12).toNat = 12 by omega)
  rcases hk with hk | hk
  · skip
    go_enter Try.func4, Try.ntmps4
    go_wp2_with fail
    rw [HMN.out]
    refine (HR.out _).mono ?_
    rintro e w1 ⟨rfl, hb⟩
    have Q := Lib.hid (Box.new w1 40 #[.int .i64 0, .slice none 0 0])
    have B := Lib.hid (hb.alloc hb.size (.cells #[.int .i64 0, .slice none 0 0] 40))
    clear hb
    go_wp2_with fail
    all_goals
      refine (alive08_any _).mono ?_
      rintro e w3 ⟨rfl, hb⟩
      have Q := Lib.hid (Q.out.keep hb)
      have B := Lib.hid (chain B.out hb)
      clear hb
      obtain ⟨r0, r1, -, -⟩ := Q.out.two
      go_wp2_with fail
      refine (same3_yes 0 0 0 0 0 0 none none [] _ (MatW.nil _ _ _) (MatW.nil _ _ _) rfl (by simp) (by simp) (by omega)).mono ?_
      rintro e w4 ⟨rfl, hb⟩
      have B := Lib.hid (chain B.out hb)
      clear hb
      go_wp2_with fail
      go_ret
      exact ⟨rfl, B.out⟩
  · skip
    go_enter Try.func4, Try.ntmps4
    go_wp2_with fail
    rw [HMN.out]
    refine (HR.out _).mono ?_
    rintro e w1 ⟨rfl, hb⟩
    have Q := Lib.hid (Box.new w1 40 #[.int .i64 0, .slice none 0 0])
    have B := Lib.hid (hb.alloc hb.size (.cells #[.int .i64 0, .slice none 0 0] 40))
    clear hb
    go_wp2_with fail
    all_goals
      refine (alive08_any _).mono ?_
      rintro e w3 ⟨rfl, hb⟩
      have Q := Lib.hid (Q.out.keep hb)
      have B := Lib.hid (chain B.out hb)
      clear hb
      obtain ⟨r0, r1, -, -⟩ := Q.out.two
      go_wp2_with fail
      refine (same3_yes 0 0 0 0 0 0 none none [] _ (MatW.nil _ _ _) (MatW.nil _ _ _) rfl (by simp) (by simp) (by omega)).mono ?_
      rintro e w4 ⟨rfl, hb⟩
      have B := Lib.hid (chain B.out hb)
      clear hb
      go_wp2_with fail
      go_ret
      exact ⟨rfl, B.out⟩
set_option maxRecDepth 100000 in
set_option maxHeartbeats 4000000 in
theorem nrows_good2 (k : Nat) (ad : Addr) (l c : Nat) (h12 : 12 < l) (hl64 : l ≤ 64) (hlc : l ≤ c) (hc : c ≤ maxLen) (zs : List Nat) (k1 : 1 ≤ k) (k2 : k ≤ 64) (w : World) (hz : Words w (some ad) 12 zs) : Calls Try.prog 4 #[.int .i64 k, .slice (some ad) l c] w fun e w' => e = .returned (.bool true) ∧ Below w.heap.size w w' := by
  unfold maxLen at hc
  have h1 : (12 : Int) < l := by omega
  have h64 : (l : Int) ≤ 64 := by omega
  have HMN := Lib.hid (show (min (l : Int) 12).toNat = 12 by omega)
  have hk1 : ¬ (k : Int) < 1 := by omega
  have hk2 : ¬ (64 : Int) < k := by omega
  have HI := Lib.hid hz
  have HLL := Lib.hid (show (zs.map (nbRow k)).length = 12 by rw [List.length_map]; exact hz.1)
  have HL2 := Lib.hid (show 12 ≤ 1000 by omega)
  have HU := Lib.hid (rowsRows_lt k zs)
  have HRL := Lib.hid (rowsRows_len k k2 zs)
  have HR := Lib.hid (fun w hz => rows_yes k k1 k2 (some ad) 12 c zs w hz (by omega))
  have HRR := Lib.hid (fun w hz => refRows_any k k1 k2 (some ad) 12 c zs w hz (by omega))
  clear hz
  go_enter Try.func4, Try.ntmps4
  go_wp2_with fail
  rw [HMN.out]
  refine (HR.out _ HI.out).mono ?_
  rintro e w1 ⟨v1, rfl, hm, hb⟩
  obtain ⟨A1, c1, rfl⟩ := hm.form HLL.out
  have Q := Lib.hid (Box.new w1 40 #[.int .i64 k, .slice A1 12 c1])
  have HI := Lib.hid ((HI.out.below hb).alloc (.cells #[.int .i64 k, .slice A1 12 c1] 40))
  have HV := Lib.hid (hm.alloc (.cells #[.int .i64 k, .slice A1 12 c1] 40))
  have B := Lib.hid (hb.alloc hb.size (.cells #[.int .i64 k, .slice A1 12 c1] 40))
  clear hb hm
  go_wp2_with fail
  generalize w1.alloc (.cells #[.int .i64 k, .slice A1 12 c1] 40) = W at *
  generalize w1.heap.size = q at *
  obtain ⟨r0, r1, -, -⟩ := Q.out.two
  go_region_held3 (fun w' => w'.cell? ⟨q, 0, none⟩ = some (.int .i64 k) ∧ w'.cell? ⟨q, 1, none⟩ = some (.slice A1 12 c1)) (go_keep)
    (first
      | (go_at_call 7; refine (alive08_any _).mono ?_; rintro f1 y1 ⟨rfl, hb⟩; have Q1 := Lib.hid (Q.out.drew.keep hb); have HI1 := Lib.hid (HI.out.drew.below hb); have HV1 := Lib.hid (MatW.below (w := W.drew) HV.out hb); have B1 := Lib.hid (chain B.out.drew hb); clear hb; obtain ⟨r10, r11, -, -⟩ := Q1.out.two)
      | (go_at_call 14; refine (HRR.out _ HI1.out).mono ?_; rintro f2 y2 ⟨v2, rfl, hm2, hb⟩; obtain ⟨A2, c2, rfl⟩ := hm2.form HLL.out; have Q2 := Lib.hid (Q1.out.keep hb); have HI2 := Lib.hid (HI1.out.below hb); have HV2 := Lib.hid (MatW.below (w := y1) HV1.out hb); have B2 := Lib.hid (chain B1.out hb); have HX2 := Lib.hid hm2; clear hm2; clear hb; obtain ⟨r20, r21, -, -⟩ := Q2.out.two)
      | (go_at_call 13; refine (same3_yes k _ _ 12 c1 c2 A1 A2 _ _ HV2.out HX2.out HLL.out HU.out HRL.out HL2.out).mono ?_; rintro f3 y3 ⟨rfl, hb⟩; have Q3 := Lib.hid (Q2.out.keep hb); have HI3 := Lib.hid (HI2.out.below hb); have HV3 := Lib.hid (MatW.below (w := y2) HV2.out hb); have B3 := Lib.hid (chain B2.out hb); clear hb; obtain ⟨r30, r31, -, -⟩ := Q3.out.two))
  go_wp2_with fail
  go_ret
  exact ⟨rfl, B3.out⟩
end Go.Proofs.Ytbgikkeiapbghaa
