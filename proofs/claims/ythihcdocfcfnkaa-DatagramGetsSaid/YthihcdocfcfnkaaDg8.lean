/- Contract of layer 11: Get. -/
import Derived.Test.YthihcdocfcfnkaaDgM
import Derived.Deep.RegionWith
import Derived.Deep.DeepCutAuto
namespace Go.Proofs.Ythihcdocfcfnkaa
open Go.RowKit
theorem Box.far5 {w : World} {g G : Nat} {t : TypeId} {cs : Array Value} (h : Box w g t cs) (hne : g ≠ G) (u0 u1 u2 u3 u4 : Value) : Box (((((w.setCell ⟨G, 0, none⟩ u0).setCell ⟨G, 1, none⟩ u1).setCell ⟨G, 2, none⟩ u2).setCell ⟨G, 3, none⟩ u3).setCell ⟨G, 4, none⟩ u4) g t cs :=
  ((((h.far (p := ⟨G, 0, none⟩) hne u0).far (p := ⟨G, 1, none⟩) hne u1).far (p := ⟨G, 2, none⟩) hne u2).far (p := ⟨G, 3, none⟩) hne u3).far (p := ⟨G, 4, none⟩) hne u4
/-- What Get answers. -/
def GetOut (s : ByteArray) (w : World) (e : Ending) (w' : World) : Prop :=
  (getOk s → e = .returned (.tuple #[dgV (gO s.data.toList : Nat) (gK s.data.toList : Nat) (gZ s.data.toList : Nat) (gI s.data.toList : Nat) (s.extract 20 (s.size - 4)), .int .i64 0])) ∧
  (¬ getOk s → e = .returned (.tuple #[dgV 0 0 0 0 ⟨#[]⟩, .int .i64 5])) ∧ Below w.heap.size w w'
/-- Get, where the sum does not fit. -/
theorem get_un (s : ByteArray) (hs : s.size ≤ 1000) (w : World) (h : s.size < 4 ∨ sealB (s.extract 0 (s.size - 4)) ≠ s) :
    Calls Try.prog 24 #[.string s] w fun e w' => e = .returned (.tuple #[dgV 0 0 0 0 ⟨#[]⟩, .int .i64 5]) ∧ Below w.heap.size w w' := by
  have Z := Lib.hid (Box.new w 39 #[.int .u64 0, .int .i64 0, .int .i64 0, .int .u64 0, .string ⟨#[]⟩])
  have B := Lib.hid ((Below.refl w.heap.size w).alloc (Nat.le_refl _) (.cells #[.int .u64 0, .int .i64 0, .int .i64 0, .int .u64 0, .string ⟨#[]⟩] 39))
  have HO := Lib.hid (show ∀ W, Calls Try.prog 17 #[.string s] W fun e w' => e = .returned (.tuple #[.string ⟨#[]⟩, .int .i64 5]) ∧ Below W.heap.size W w' from fun W => by
    by_cases h4 : s.size < 4
    · exact open_short s h4 W
    · exact open_no s (by omega) hs (h.resolve_left h4) W)
  clear h
  go_enter Try.func24, Try.ntmps24
  go_wp2_with fail
  refine (HO.out _).mono ?_
  rintro e w1 ⟨rfl, hb⟩
  have Z1 := Lib.hid (Z.out.keep hb)
  have B1 := Lib.hid (chain B.out hb)
  clear hb Z B
  obtain ⟨⟨k0, k1, k2, k3, k4⟩, ⟨f0, f1, f2, f3, f4⟩⟩ := Z1.out.ten
  go_wp2_with fail
  refine close_cell Try.results24 rfl rfl rfl Z1.out.putAll Try.underlying39 rfl (by kernel_rfl) ⟨rfl, below_five B1.out (Nat.le_refl _) _ _ _ _ _⟩
set_option maxHeartbeats 1000000 in
/-- Get, where the text is none. -/
theorem get_not (s : ByteArray) (hs : s.size ≤ 1000) (w : World) (h4 : 4 ≤ s.size) (he : sealB (s.extract 0 (s.size - 4)) = s) (h : (readD (s.extract 0 (s.size - 4))).2 = false) :
    Calls Try.prog 24 #[.string s] w fun e w' => e = .returned (.tuple #[dgV 0 0 0 0 ⟨#[]⟩, .int .i64 5]) ∧ Below w.heap.size w w' := by
  have Z := Lib.hid (Box.new w 39 #[.int .u64 0, .int .i64 0, .int .i64 0, .int .u64 0, .string ⟨#[]⟩])
  have B := Lib.hid ((Below.refl w.heap.size w).alloc (Nat.le_refl _) (.cells #[.int .u64 0, .int .i64 0, .int .i64 0, .int .u64 0, .string ⟨#[]⟩] 39))
  have HO := Lib.hid (fun W => open_yes s h4 hs he W)
  have HR := Lib.hid (fun W => read_any (s.extract 0 (s.size - 4)) (by simp; omega) W)
  have HF := Lib.hid h
  have hag : ∃ (a b c d : Int) (x : ByteArray), (readD (s.extract 0 (s.size - 4))).1 = dgV a b c d x := by
    unfold readD; simp only; split
    · exact ⟨_, _, _, _, _, rfl⟩
    · exact ⟨_, _, _, _, _, rfl⟩
  obtain ⟨a, b, c, d, x, hag⟩ := hag
  rw [h, hag] at HR
  clear h hag he
  generalize s.extract 0 (s.size - 4) = t at *
  go_enter Try.func24, Try.ntmps24
  go_wp2_with fail
  refine (HO.out _).mono ?_
  rintro e w1 ⟨rfl, hb⟩
  have Z1 := Lib.hid (Z.out.keep hb)
  have B1 := Lib.hid (chain B.out hb)
  clear hb Z B HO
  go_wp2_with fail
  refine (HR.out _).mono ?_
  rintro e w2 ⟨rfl, hb⟩
  have Z2 := Lib.hid (Z1.out.keep hb)
  have B2 := Lib.hid (chain B1.out hb)
  clear hb Z1 B1 HR
  have hz := Z2.out.lt
  have Z4 := Lib.hid (Z2.out.alloc (.cells #[.int .u64 a, .int .i64 b, .int .i64 c, .int .u64 d, .string x] 39))
  have B4 := Lib.hid (B2.out.alloc (Nat.le_of_lt hz) (.cells #[.int .u64 a, .int .i64 b, .int .i64 c, .int .u64 d, .string x] 39))
  go_upto_region 5 with (fail)
  generalize w2.alloc (.cells #[.int .u64 a, .int .i64 b, .int .i64 c, .int .u64 d, .string x] 39) = w4 at *
  obtain ⟨⟨k0, k1, k2, k3, k4⟩, ⟨f0, f1, f2, f3, f4⟩⟩ := Z4.out.ten
  go_wp2_with fail
  refine close_cell Try.results24 rfl rfl rfl Z4.out.putAll Try.underlying39 rfl (by kernel_rfl) ⟨rfl, below_five B4.out (Nat.le_refl _) _ _ _ _ _⟩
set_option maxHeartbeats 1000000 in
/-- Get, where the text tells a datagram: whether that may be. -/
theorem get_read (s : ByteArray) (hs : s.size ≤ 1000) (w : World) (h4 : 4 ≤ s.size) (he : sealB (s.extract 0 (s.size - 4)) = s) (o k z i : Int) (x : ByteArray) (hx : x.size ≤ maxLen) (h : readD (s.extract 0 (s.size - 4)) = (dgV o k z i x, true)) (b : Bool) (hb0 : dgB k z x = b) :
    Calls Try.prog 24 #[.string s] w fun e w' => e = .returned (if b = true then .tuple #[dgV o k z i x, .int .i64 0] else .tuple #[dgV 0 0 0 0 ⟨#[]⟩, .int .i64 5]) ∧ Below w.heap.size w w' := by
  have Z := Lib.hid (Box.new w 39 #[.int .u64 0, .int .i64 0, .int .i64 0, .int .u64 0, .string ⟨#[]⟩])
  have B := Lib.hid ((Below.refl w.heap.size w).alloc (Nat.le_refl _) (.cells #[.int .u64 0, .int .i64 0, .int .i64 0, .int .u64 0, .string ⟨#[]⟩] 39))
  have HO := Lib.hid (fun W => open_yes s h4 hs he W)
  have HR := Lib.hid (fun W => read_any (s.extract 0 (s.size - 4)) (by simp; omega) W)
  have HG := Lib.hid (fun W => dgRight_any o k z i x hx W)
  rw [h] at HR
  rw [hb0] at HG
  clear h he hb0
  generalize s.extract 0 (s.size - 4) = t at *
  go_enter Try.func24, Try.ntmps24
  go_wp2_with fail
  refine (HO.out _).mono ?_
  rintro e w1 ⟨rfl, hb⟩
  have Z1 := Lib.hid (Z.out.keep hb)
  have B1 := Lib.hid (chain B.out hb)
  clear hb Z B HO
  go_wp2_with fail
  refine (HR.out _).mono ?_
  rintro e w2 ⟨rfl, hb⟩
  have Z2 := Lib.hid (Z1.out.keep hb)
  have B2 := Lib.hid (chain B1.out hb)
  clear hb Z1 B1 HR
  have hz := Z2.out.lt
  have Y4 := Lib.hid (Box.new w2 39 #[.int .u64 o, .int .i64 k, .int .i64 z, .int .u64 i, .string x])
  have Z4 := Lib.hid (Z2.out.alloc (.cells #[.int .u64 o, .int .i64 k, .int .i64 z, .int .u64 i, .string x] 39))
  have B4 := Lib.hid (B2.out.alloc (Nat.le_of_lt hz) (.cells #[.int .u64 o, .int .i64 k, .int .i64 z, .int .u64 i, .string x] 39))
  go_upto_region 5 with (fail)
  generalize hG : w2.heap.size = G at *
  clear hG
  generalize w2.alloc (.cells #[.int .u64 o, .int .i64 k, .int .i64 z, .int .u64 i, .string x] 39) = w4 at *
  obtain ⟨⟨m0, m1, m2, m3, m4⟩, -⟩ := Y4.out.ten
  go_wp2_with fail
  refine (HG.out _).mono ?_
  rintro e w5 ⟨rfl, hb⟩
  have Z5 := Lib.hid (Z4.out.keep hb)
  have Y5 := Lib.hid (Y4.out.keep hb)
  have B5 := Lib.hid (chain B4.out hb)
  clear hb Z4 Y4 B4 HG m0 m1 m2 m3 m4
  obtain ⟨⟨m0, m1, m2, m3, m4⟩, -⟩ := Y5.out.ten
  obtain ⟨⟨k0, k1, k2, k3, k4⟩, ⟨f0, f1, f2, f3, f4⟩⟩ := Z5.out.ten
  cases b with
  | false =>
    go_wp2_with fail
    refine close_cell Try.results24 rfl rfl rfl Z5.out.putAll Try.underlying39 rfl (by kernel_rfl) ⟨rfl, below_five B5.out (Nat.le_refl _) _ _ _ _ _⟩
  | true =>
    go_wp2_with fail
    refine close_cell Try.results24 rfl rfl rfl Z5.out.putAll Try.underlying39 rfl (by kernel_rfl) ⟨rfl, below_five B5.out (Nat.le_refl _) _ _ _ _ _⟩
theorem get_any (s : ByteArray) (hs : s.size ≤ 1000) (w : World) : Calls Try.prog 24 #[.string s] w (GetOut s w) := by
  by_cases h4 : s.size < 4 ∨ sealB (s.extract 0 (s.size - 4)) ≠ s
  · refine (get_un s hs w h4).mono ?_
    rintro e w' ⟨rfl, hb⟩
    exact ⟨fun h => h4.elim (fun x => absurd h.1 (by omega)) (fun x => absurd h.2.1 x), fun _ => rfl, hb⟩
  · have h5 : 4 ≤ s.size := by omega
    have he : sealB (s.extract 0 (s.size - 4)) = s := Classical.not_not.1 (fun x => h4 (.inr x))
    have hl := list_len s
    have ht : (s.extract 0 (s.size - 4)).size = s.size - 4 := by simp
    by_cases h6 : s.size < 24
    · refine (get_not s hs w h5 he (readD_short _ (by omega))).mono ?_
      rintro e w' ⟨rfl, hb⟩
      exact ⟨fun h => absurd h.1 (by omega), fun _ => rfl, hb⟩
    · have hR := readD_long (s.extract 0 (s.size - 4)) (by omega)
      have hL : (s.extract 0 (s.size - 4)).data.toList = s.data.toList.take (s.size - 4) := by rw [ext_list, List.drop_zero]
      have hx : (s.extract 0 (s.size - 4)).extract 20 (s.extract 0 (s.size - 4)).size = s.extract 20 (s.size - 4) := by
        apply bytes_ext
        rw [ext_list, ext_list, List.drop_zero, ext_list, ht, List.take_take, Nat.min_self]
      have e1 : gO (s.data.toList.take (s.size - 4)) = gO s.data.toList := by unfold gO; rw [slice_take _ _ _ _ (by omega)]
      have e2 : gI (s.data.toList.take (s.size - 4)) = gI s.data.toList := by unfold gI; rw [slice_take _ _ _ _ (by omega)]
      have e3 : gK (s.data.toList.take (s.size - 4)) = gK s.data.toList := by unfold gK; rw [getD_take _ _ _ (by omega)]
      have e4 : gZ (s.data.toList.take (s.size - 4)) = gZ s.data.toList := by unfold gZ; rw [getD_take _ _ _ (by omega)]
      rw [hx, hL, e1, e2, e3, e4, getD_take _ _ 0 (by omega), getD_take _ _ 1 (by omega)] at hR
      by_cases hm : (s.data.toList.getD 0 0).toNat = 68 ∧ (s.data.toList.getD 1 0).toNat = 1
      · rw [if_pos hm] at hR
        refine (get_read s hs w h5 he _ _ _ _ _ (by simp [maxLen]; omega) hR _ rfl).mono ?_
        rintro e w' ⟨rfl, hb⟩
        refine ⟨fun h => by rw [if_pos h.2.2.2.2], fun h => ?_, hb⟩
        rw [if_neg (fun x => h ⟨by omega, he, hm.1, hm.2, x⟩)]
      · rw [if_neg hm] at hR
        refine (get_not s hs w h5 he (by rw [hR])).mono ?_
        rintro e w' ⟨rfl, hb⟩
        exact ⟨fun h => absurd ⟨h.2.2.1, h.2.2.2.1⟩ hm, fun _ => rfl, hb⟩
end Go.Proofs.Ythihcdocfcfnkaa
