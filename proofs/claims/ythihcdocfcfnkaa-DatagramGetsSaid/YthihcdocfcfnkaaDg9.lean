/- Contract of layer 11's reference: Get. -/
import Derived.Test.YthihcdocfcfnkaaDg8
import Derived.Test.YthihcdocfcfnkaaDg4
import Derived.Test.YthihcdocfcfnkaaDg6
namespace Go.Proofs.Ythihcdocfcfnkaa
open Go.RowKit
abbrev rV (o k z i : Int) (s : ByteArray) (b : Bool) : Value := .agg #[.int .u64 o, .int .i64 k, .int .i64 z, .int .u64 i, .string s, .bool b]
/-- What the reference's Get answers. -/
def RefGetOut (s : ByteArray) (w : World) (e : Ending) (w' : World) : Prop :=
  (getOk s → e = .returned (rV (gO s.data.toList : Nat) (gK s.data.toList : Nat) (gZ s.data.toList : Nat) (gI s.data.toList : Nat) (s.extract 20 (s.size - 4)) true)) ∧
  (¬ getOk s → e = .returned (rV 0 0 0 0 ⟨#[]⟩ false)) ∧ Below w.heap.size w w'
theorem d_box (s : ByteArray) (h1 : 18 < s.size) (h2 : 19 < s.size) (W0 : World) : Box (W0.alloc (.cells #[.int .u64 (numB (List.take 8 (List.take 8 (List.drop 2 s.data.toList))) : Nat), .int .i64 (IntKind.i64.wrap (s[18].toNat : Int)), .int .i64 (IntKind.i64.wrap (s[19].toNat : Int)), .int .u64 0, .string ⟨#[]⟩] 39)).drew W0.heap.size 39 #[.int .u64 (gO s.data.toList : Nat), .int .i64 (gK s.data.toList : Nat), .int .i64 (gZ s.data.toList : Nat), .int .u64 0, .string ⟨#[]⟩] := by
  have hl := list_len s
  have e1 : numB (List.take 8 (List.take 8 (List.drop 2 s.data.toList))) = gO s.data.toList := by rw [List.take_take]; rfl
  have b1 := s[18].toNat_lt
  have b2 := s[19].toNat_lt
  have f1 : s[18] = s.data.toList.getD 18 0 := by simp [List.getD, h1]; rfl
  have f2 : s[19] = s.data.toList.getD 19 0 := by simp [List.getD, h2]; rfl
  have e2 : IntKind.i64.wrap (s[18].toNat : Int) = (gK s.data.toList : Nat) := by rw [IntWalk.i64_in _ (by omega), f1]; rfl
  have e3 : IntKind.i64.wrap (s[19].toNat : Int) = (gZ s.data.toList : Nat) := by rw [IntWalk.i64_in _ (by omega), f2]; rfl
  rw [e1, e2, e3]
  exact (Box.new W0 _ _).drew
theorem d_box2 {s : ByteArray} {wc : World} {G : Nat} {u0 u1 u2 u3 u4 x : Value} (h : Box wc G 39 #[u0, u1, u2, u3, u4]) : Box ((wc.setCell ⟨G, 3, none⟩ (.int .u64 (numB (List.take 8 (List.take 8 (List.drop 10 s.data.toList))) : Nat))).setCell ⟨G, 4, none⟩ x).drew G 39 #[u0, u1, u2, .int .u64 (gI s.data.toList : Nat), x] := by
  have e1 : numB (List.take 8 (List.take 8 (List.drop 10 s.data.toList))) = gI s.data.toList := by rw [List.take_take]; rfl
  rw [e1]
  exact ((h.put3 _).put4 _).drew
theorem Box.putAll6 {w : World} {g : Nat} {ty : TypeId} {a b c d e f a' b' c' d' e' f' : Value} (h : Box w g ty #[a, b, c, d, e, f]) : Box ((((((w.setCell ⟨g, 0, none⟩ a').setCell ⟨g, 1, none⟩ b').setCell ⟨g, 2, none⟩ c').setCell ⟨g, 3, none⟩ d').setCell ⟨g, 4, none⟩ e').setCell ⟨g, 5, none⟩ f') g ty #[a', b', c', d', e', f'] :=
  (((((h.put 0 a').put 1 b').put 2 c').put 3 d').put 4 e').put 5 f'
theorem Box.twelve {w : World} {g : Nat} {ty : TypeId} {a b c d e f : Value} (h : Box w g ty #[a, b, c, d, e, f]) : (w.cell? ⟨g, 0, none⟩ = some a ∧ w.cell? ⟨g, 1, none⟩ = some b ∧ w.cell? ⟨g, 2, none⟩ = some c ∧ w.cell? ⟨g, 3, none⟩ = some d ∧ w.cell? ⟨g, 4, none⟩ = some e ∧ w.cell? ⟨g, 5, none⟩ = some f) ∧
    (w.frozen? ⟨g, 0, none⟩ = false ∧ w.frozen? ⟨g, 1, none⟩ = false ∧ w.frozen? ⟨g, 2, none⟩ = false ∧ w.frozen? ⟨g, 3, none⟩ = false ∧ w.frozen? ⟨g, 4, none⟩ = false ∧ w.frozen? ⟨g, 5, none⟩ = false) :=
  ⟨⟨h.cell 0, h.cell 1, h.cell 2, h.cell 3, h.cell 4, h.cell 5⟩, ⟨h.free 0, h.free 1, h.free 2, h.free 3, h.free 4, h.free 5⟩⟩
theorem below_six {B : Nat} {a w : World} (h : Below B a w) {g : Nat} (hg : B ≤ g) (u0 u1 u2 u3 u4 u5 : Value) : Below B a ((((((w.setCell ⟨g, 0, none⟩ u0).setCell ⟨g, 1, none⟩ u1).setCell ⟨g, 2, none⟩ u2).setCell ⟨g, 3, none⟩ u3).setCell ⟨g, 4, none⟩ u4).setCell ⟨g, 5, none⟩ u5) :=
  (below_five h hg u0 u1 u2 u3 u4).setCell (p := ⟨g, 5, none⟩) hg _
set_option maxHeartbeats 10000000 in
theorem refGet_long (s : ByteArray) (hs : s.size ≤ 1000) (w : World) (h : 24 ≤ s.size) : Calls Try.prog 25 #[.string s] w (RefGetOut s w) := by
  have hl := list_len s
  have h1 : ¬ (s.size : Int) < 24 := by omega
  have h2 : (10 : Int) ≤ s.size := by omega
  have h3 : (18 : Int) ≤ s.size := by omega
  have h4 : (18 : Int) < s.size := by omega
  have h5 : (19 : Int) < s.size := by omega
  obtain ⟨n4, hn4⟩ : ∃ n4, s.size - 4 = n4 := ⟨_, rfl⟩
  have h6 : (20 : Int) ≤ (n4 : Int) := by omega
  have h7 : (n4 : Int) ≤ (s.size : Int) := by omega
  have h8 : IntKind.i64.wrap ((s.size : Int) - 4) = (n4 : Int) := by rw [IntWalk.i64_in _ (by omega)]; omega
  have HN := Lib.hid hn4
  clear hn4
  go_enter Try.func25, Try.ntmps25
  go_upto_region 3 with (fail)
  have Z := Lib.hid (Box.new w 46 #[.int .u64 0, .int .i64 0, .int .i64 0, .int .u64 0, .string ⟨#[]⟩, .bool false])
  have B := Lib.hid ((Below.refl w.heap.size w).alloc (Nat.le_refl _) (.cells #[.int .u64 0, .int .i64 0, .int .i64 0, .int .u64 0, .string ⟨#[]⟩, .bool false] 46))
  generalize hW0 : w.alloc (.cells #[.int .u64 0, .int .i64 0, .int .i64 0, .int .u64 0, .string ⟨#[]⟩, .bool false] 46) = W0 at *
  clear hW0
  go_cut [3] (fun s3 wx => ∃ G, s3 = .pointer (some ⟨G, 0, none⟩) ∧ w.heap.size < G ∧ Box wx G 39 #[.int .u64 (gO s.data.toList : Nat), .int .i64 (gK s.data.toList : Nat), .int .i64 (gZ s.data.toList : Nat), .int .u64 0, .string ⟨#[]⟩] ∧ Box wx w.heap.size 46 #[.int .u64 0, .int .i64 0, .int .i64 0, .int .u64 0, .string ⟨#[]⟩, .bool false] ∧ Below w.heap.size w wx)
  case first =>
    go_region_with (go_at_call 31; refine (refNumber_any _ _ (by simp; omega) (by simp; omega)).mono ?_; rintro e w1 ⟨rfl, rfl⟩)
    all_goals (go_wp2_with fail; go_meet; exact ⟨_, rfl, Z.out.lt, d_box s (by omega) (by omega) W0, (Z.out.alloc _).drew, (B.out.alloc B.out.size _).drew⟩)
  case rest =>
    obtain ⟨G, rfl, hG, D1, Z1, B1⟩ := hcut
    have D := Lib.hid D1
    have Z := Lib.hid Z1
    have B := Lib.hid B1
    clear D1 Z1 B1
    obtain ⟨⟨k0, k1, k2, k3, k4⟩, ⟨f0, f1, f2, f3, f4⟩⟩ := D.out.ten
    go_wp2_with fail
    go_cut [3] (fun s3 wx => s3 = .pointer (some ⟨G, 0, none⟩) ∧ Box wx G 39 #[.int .u64 (gO s.data.toList : Nat), .int .i64 (gK s.data.toList : Nat), .int .i64 (gZ s.data.toList : Nat), .int .u64 (gI s.data.toList : Nat), .string (s.extract 20 n4)] ∧ Box wx w.heap.size 46 #[.int .u64 0, .int .i64 0, .int .i64 0, .int .u64 0, .string ⟨#[]⟩, .bool false] ∧ Below w.heap.size w wx)
    case first =>
      go_region_with (go_at_call 31; refine (refNumber_any _ _ (by simp; omega) (by simp; omega)).mono ?_; rintro e w1 ⟨rfl, rfl⟩)
      all_goals (go_wp2_with fail; go_meet; exact ⟨rfl, d_box2 D.out, ((Z.out.far (p := ⟨G, 3, none⟩) (by show w.heap.size ≠ G; omega) _).far (p := ⟨G, 4, none⟩) (by show w.heap.size ≠ G; omega) _).drew, ((B.out.setCell (p := ⟨G, 3, none⟩) (by show w.heap.size ≤ G; omega) _).setCell (p := ⟨G, 4, none⟩) (by show w.heap.size ≤ G; omega) _).drew⟩)
    case rest =>
      obtain ⟨rfl, D1, Z1, B1⟩ := hcut
      clear k0 k1 k2 k3 k4 f0 f1 f2 f3 f4 D Z B
      have D := Lib.hid D1
      have Z := Lib.hid Z1
      have B := Lib.hid B1
      clear D1 Z1 B1
      have hx : (s.extract 20 n4).size ≤ maxLen := by simp [maxLen]; omega
      have HPT := Lib.hid (put_text s h)
      have HOK := Lib.hid (show getOk s ↔ (sealB (s.extract 0 (s.size - 4)) = s ∧ (s.data.toList.getD 0 0).toNat = 68 ∧ (s.data.toList.getD 1 0).toNat = 1) ∧ dgB (gK s.data.toList : Nat) (gZ s.data.toList : Nat) (s.extract 20 (s.size - 4)) = true from
        ⟨fun x => ⟨⟨x.2.1, x.2.2.1, x.2.2.2.1⟩, x.2.2.2.2⟩, fun x => ⟨h, x.1.1, x.1.2.1, x.1.2.2, x.2⟩⟩)
      rw [HN.out] at HPT HOK
      have HPO := Lib.hid (show gO s.data.toList < 18446744073709551616 from numB_lt 8 _ (by simp; omega))
      have HPI := Lib.hid (show gI s.data.toList < 18446744073709551616 from numB_lt 8 _ (by simp; omega))
      have HQ := Lib.hid (show ∀ e w', RefGetOut s w e w' ↔ ((getOk s → e = .returned (rV (gO s.data.toList : Nat) (gK s.data.toList : Nat) (gZ s.data.toList : Nat) (gI s.data.toList : Nat) (s.extract 20 n4) true)) ∧ (¬ getOk s → e = .returned (rV 0 0 0 0 ⟨#[]⟩ false)) ∧ Below w.heap.size w w') from fun e w' => by rw [← HN.out]; exact Iff.rfl)
      generalize s.extract 20 n4 = x at *
      generalize gO s.data.toList = o at *
      generalize gI s.data.toList = i at *
      generalize gK s.data.toList = k at *
      generalize gZ s.data.toList = z at *
      obtain ⟨⟨k0, k1, k2, k3, k4⟩, -⟩ := D.out.ten
      go_wp2_with fail
      refine (refRightD_any o k z i x hx _).mono ?_
      rintro e w2 ⟨rfl, hb⟩
      have D2 := Lib.hid (D.out.keep hb)
      have Z2 := Lib.hid (Z.out.keep hb)
      have B2 := Lib.hid (chain B.out hb)
      clear hb D Z B k0 k1 k2 k3 k4
      obtain ⟨⟨k0, k1, k2, k3, k4⟩, -⟩ := D2.out.ten
      cases hr : dgB k z x with
      | false =>
        have HR := Lib.hid hr
        clear hr
        obtain ⟨⟨m0, m1, m2, m3, m4, m5⟩, ⟨f0, f1, f2, f3, f4, f5⟩⟩ := Z2.out.twelve
        go_wp2_with fail
        refine close_one Try.results25 rfl rfl Z2.out.putAll6 Try.underlying46 rfl (by kernel_rfl) ((HQ.out _ _).2 ⟨fun y => absurd ((HOK.out.1 y).2) (by rw [HR.out]; simp), fun _ => rfl, below_six B2.out (Nat.le_refl _) _ _ _ _ _ _⟩)
      | true =>
        have HR := Lib.hid hr
        clear hr
        go_wp2_with fail
        refine (refPutD_any o k z i x _ HPO.out HPI.out HR.out).mono ?_
        rintro e w3 ⟨rfl, hb⟩
        have D3 := Lib.hid (D2.out.keep hb)
        have Z3 := Lib.hid (Z2.out.keep hb)
        have B3 := Lib.hid (chain B2.out hb)
        clear hb D2 Z2 B2 k0 k1 k2 k3 k4
        generalize sealB ⟨(dgL o k z i x).toArray⟩ = t at *
        obtain ⟨⟨k0, k1, k2, k3, k4⟩, -⟩ := D3.out.ten
        obtain ⟨⟨m0, m1, m2, m3, m4, m5⟩, ⟨f0, f1, f2, f3, f4, f5⟩⟩ := Z3.out.twelve
        by_cases he : t = s
        · have HE := Lib.hid he
          have t1 : (t.toList == s.toList) = true := beq_iff_eq.2 (by rw [he])
          clear he
          go_wp2_with fail
          refine close_one Try.results25 rfl rfl Z3.out.putAll6 Try.underlying46 rfl (by kernel_rfl) ((HQ.out _ _).2 ⟨fun _ => rfl, fun y => absurd (HOK.out.2 ⟨HPT.out.1 HE.out, HR.out⟩) y, below_six B3.out (Nat.le_refl _) _ _ _ _ _ _⟩)
        · have HE := Lib.hid he
          have t1 := str_ne he
          clear he
          go_wp2_with fail
          refine close_one Try.results25 rfl rfl Z3.out.putAll6 Try.underlying46 rfl (by kernel_rfl) ((HQ.out _ _).2 ⟨fun y => absurd (HPT.out.2 ((HOK.out.1 y).1)) HE.out, fun _ => rfl, below_six B3.out (Nat.le_refl _) _ _ _ _ _ _⟩)
theorem refGet_short (s : ByteArray) (w : World) (h : s.size < 24) : Calls Try.prog 25 #[.string s] w (RefGetOut s w) := by
  have h1 : (s.size : Int) < 24 := by omega
  have HQ := Lib.hid (show ¬ getOk s from fun x => by have := x.1; omega)
  have Z := Lib.hid (Box.new w 46 #[.int .u64 0, .int .i64 0, .int .i64 0, .int .u64 0, .string ⟨#[]⟩, .bool false])
  have B := Lib.hid ((Below.refl w.heap.size w).alloc (Nat.le_refl _) (.cells #[.int .u64 0, .int .i64 0, .int .i64 0, .int .u64 0, .string ⟨#[]⟩, .bool false] 46))
  go_enter Try.func25, Try.ntmps25
  go_wp2_with fail
  refine close_one Try.results25 rfl rfl Z.out Try.underlying46 rfl (by kernel_rfl) ⟨fun y => absurd y HQ.out, fun _ => rfl, B.out⟩
theorem refGet_any (s : ByteArray) (hs : s.size ≤ 1000) (w : World) : Calls Try.prog 25 #[.string s] w (RefGetOut s w) := by
  by_cases h : s.size < 24
  · exact refGet_short s w h
  · exact refGet_long s hs w (by omega)
end Go.Proofs.Ythihcdocfcfnkaa
