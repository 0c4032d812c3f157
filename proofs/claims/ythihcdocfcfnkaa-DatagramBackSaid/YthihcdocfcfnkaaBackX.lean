/- DatagramBack: the walk. -/
import Derived.Test.YthihcdocfcfnkaaDgN
import Derived.Test.YthihcdocfcfnkaaDg8
import Derived.Deep.RegionWith
import Derived.Deep.DeepCutAuto
namespace Go.Proofs.Ythihcdocfcfnkaa
open Go.RowKit Go.Lib
set_option maxRecDepth 100000 in
set_option maxHeartbeats 4000000 in
theorem back_no (o k z i : Int) (s1 s2 : ByteArray) (at_ : Int) (h1 : s1.size ≤ maxLen) (h2 : s2.size ≤ maxLen) (w : World) (hd : dgB k z (cutD s1) = false) :
    Calls Try.prog 9 #[dgV o k z i s1, .string s2, .int .i64 at_] w fun e w' => e = .returned (.bool true) ∧ Below w.heap.size w w' := by
  have HC1 := Lib.hid (cutD_any s1 h1)
  have HC2 := Lib.hid (cutD_any s2 h2)
  have HD := Lib.hid hd
  clear hd
  go_enter Try.func9, Try.ntmps9
  go_wp2_with fail
  refine (HC1.out _).mono ?_
  rintro e w1 ⟨rfl, rfl⟩
  go_wp2_with fail
  refine (HC2.out _).mono ?_
  rintro e w1 ⟨rfl, rfl⟩
  have g1 := cutD_size s1
  have g2 := cutD_size s2
  clear HC1 HC2
  generalize cutD s1 = t1 at *
  generalize cutD s2 = t2 at *
  have Q := Lib.hid (Box.new w 39 #[.int .u64 o, .int .i64 k, .int .i64 z, .int .u64 i, .string t1])
  have B := Lib.hid ((Below.refl w.heap.size w).alloc (Nat.le_refl _) (.cells #[.int .u64 o, .int .i64 k, .int .i64 z, .int .u64 i, .string t1] 39))
  obtain ⟨⟨k0, k1, k2, k3, k4⟩, -⟩ := Q.out.ten
  go_wp2_with fail
  refine (put_no o k z i t1 (by unfold maxLen; omega) _ HD.out).mono ?_
  rintro e w2 ⟨rfl, hb⟩
  have B2 := Lib.hid (chain B.out hb)
  clear hb k0 k1 k2 k3 k4 Q B
  go_wp2_with fail
  refine (get_any t2 (by omega) _).mono ?_
  rintro e wr1 ⟨y1, y2, hb⟩
  have R1 := Lib.hid (chain B2.out hb)
  clear hb
  by_cases hg : getOk t2
  · have he := y1 hg
    subst he
    clear y1 y2
    have PT := Lib.hid ((put_text t2 hg.1).2 ⟨hg.2.1, hg.2.2.1, hg.2.2.2.1⟩)
    have PD := Lib.hid hg.2.2.2.2
    have PO := Lib.hid (show gO t2.data.toList < 18446744073709551616 from numB_lt 8 _ (by have := hg.1; have := list_len t2; simp; omega))
    have PI := Lib.hid (show gI t2.data.toList < 18446744073709551616 from numB_lt 8 _ (by have := hg.1; have := list_len t2; simp; omega))
    clear hg
    generalize gO t2.data.toList = o2 at *
    generalize gI t2.data.toList = i2 at *
    generalize gK t2.data.toList = k2 at *
    generalize gZ t2.data.toList = z2 at *
    generalize t2.extract 20 (t2.size - 4) = x2 at *
    have C1 := Lib.hid (Box.new wr1 39 #[.int .u64 o2, .int .i64 k2, .int .i64 z2, .int .u64 i2, .string x2])
    have R2 := Lib.hid (R1.out.alloc R1.out.size (.cells #[.int .u64 o2, .int .i64 k2, .int .i64 z2, .int .u64 i2, .string x2] 39))
    obtain ⟨⟨m0, m1, m2, m3, m4⟩, -⟩ := C1.out.ten
    go_wp2_with fail
    refine (put_yes o2 k2 z2 i2 x2 _ PO.out PI.out PD.out).mono ?_
    rintro e wr2 ⟨rfl, hb⟩
    rw [PT.out]
    have R3 := Lib.hid (chain R2.out hb)
    clear hb m0 m1 m2 m3 m4 C1 R1 R2
    go_wp2_with fail
    refine (alive11_any _).mono ?_
    rintro e wr3 ⟨rfl, hb⟩
    have R4 := Lib.hid (chain R3.out hb)
    clear hb R3
    go_wp2_with fail
    go_ret
    exact ⟨rfl, R4.out⟩
  · have he := y2 hg
    subst he
    clear y1 y2 hg
    have C1 := Lib.hid (Box.new wr1 39 #[.int .u64 0, .int .i64 0, .int .i64 0, .int .u64 0, .string ⟨#[]⟩])
    have R2 := Lib.hid (R1.out.alloc R1.out.size (.cells #[.int .u64 0, .int .i64 0, .int .i64 0, .int .u64 0, .string ⟨#[]⟩] 39))
    go_wp2_with fail
    refine (alive11_any _).mono ?_
    rintro e wr2 ⟨rfl, hb⟩
    have C2 := Lib.hid (C1.out.keep hb)
    have R3 := Lib.hid (chain R2.out hb)
    clear hb C1 R1 R2
    obtain ⟨⟨m0, m1, m2, m3, m4⟩, -⟩ := C2.out.ten
    go_wp2_with fail
    go_ret
    exact ⟨rfl, R3.out⟩
set_option maxRecDepth 100000 in
set_option maxHeartbeats 4000000 in
theorem back_yes (o k z i : Nat) (s1 s2 : ByteArray) (at_ : Int) (h1 : s1.size ≤ maxLen) (h2 : s2.size ≤ maxLen) (w : World) (ho : o < 18446744073709551616) (hi : i < 18446744073709551616) (hd : dgB k z (cutD s1) = true) :
    Calls Try.prog 9 #[dgV o k z i s1, .string s2, .int .i64 at_] w fun e w' => e = .returned (.bool true) ∧ Below w.heap.size w w' := by
  have HC1 := Lib.hid (cutD_any s1 h1)
  have HC2 := Lib.hid (cutD_any s2 h2)
  have HD := Lib.hid hd
  clear hd
  go_enter Try.func9, Try.ntmps9
  go_wp2_with fail
  refine (HC1.out _).mono ?_
  rintro e w1 ⟨rfl, rfl⟩
  go_wp2_with fail
  refine (HC2.out _).mono ?_
  rintro e w1 ⟨rfl, rfl⟩
  have g1 := cutD_size s1
  have g2 := cutD_size s2
  clear HC1 HC2
  generalize cutD s1 = t1 at *
  generalize cutD s2 = t2 at *
  have Q := Lib.hid (Box.new w 39 #[.int .u64 o, .int .i64 k, .int .i64 z, .int .u64 i, .string t1])
  have B := Lib.hid ((Below.refl w.heap.size w).alloc (Nat.le_refl _) (.cells #[.int .u64 o, .int .i64 k, .int .i64 z, .int .u64 i, .string t1] 39))
  obtain ⟨⟨k0, k1, k2, k3, k4⟩, -⟩ := Q.out.ten
  go_wp2_with fail
  refine (put_yes o k z i t1 _ ho hi HD.out).mono ?_
  rintro e w2 ⟨rfl, hb⟩
  have B2 := Lib.hid (chain B.out hb)
  have Q2 := Lib.hid (Q.out.keep hb)
  clear hb k0 k1 k2 k3 k4 Q B
  obtain ⟨p0, p1, p2, p3, p4, p5, hsz⟩ := put_get o k z i t1 ho hi HD.out _ rfl
  generalize sealB ⟨(dgL o k z i t1).toArray⟩ = x at *
  have hz : z ≤ 64 := by have := of_decide_eq_true HD.out; omega
  go_wp2_with fail
  refine (get_any x (by omega) _).mono ?_
  rintro e w3 ⟨y1, -, hb⟩
  have he := y1 p0
  rw [p1, p2, p3, p4, p5] at he
  subst he
  clear y1 p1 p2 p3 p4 p5
  have P0 := Lib.hid p0
  clear p0
  have Q3 := Lib.hid ((Q2.out.keep hb).alloc (.cells #[.int .u64 o, .int .i64 k, .int .i64 z, .int .u64 i, .string t1] 39))
  have R3 := Lib.hid (Box.new w3 39 #[.int .u64 o, .int .i64 k, .int .i64 z, .int .u64 i, .string t1])
  have B3' := Lib.hid (chain B2.out hb)
  have B3 := Lib.hid (B3'.out.alloc B3'.out.size (.cells #[.int .u64 o, .int .i64 k, .int .i64 z, .int .u64 i, .string t1] 39))
  clear hb Q2 B2 B3'
  obtain ⟨⟨k0, k1, k2, k3, k4⟩, -⟩ := Q3.out.ten
  obtain ⟨⟨m0, m1, m2, m3, m4⟩, -⟩ := R3.out.ten
  have HSZ := Lib.hid hsz
  have tl : ((x.size : Int) != 24 + (z : Int)) = false := by simp; omega
  have hx1 : 24 ≤ x.size := by omega
  have hx2 : x.size ≤ 88 := by omega
  clear hsz
  obtain ⟨r, er, hr1, hr2⟩ := crcBursts.rem_any at_ (8 * x.size) (by omega)
  rw [show ((8 * x.size : Nat) : Int) = 8 * (x.size : Int) by omega] at er hr1 hr2
  obtain ⟨q, eA, hA⟩ : ∃ A : Nat, (r + 8 * (x.size : Int)) % (8 * (x.size : Int)) = (A : Int) ∧ A < 8 * x.size := by
    have h1 := Int.emod_nonneg (r + 8 * (x.size : Int)) (b := 8 * (x.size : Int)) (by omega)
    have h2 := Int.emod_lt_of_pos (r + 8 * (x.size : Int)) (b := 8 * (x.size : Int)) (by omega)
    exact ⟨((r + 8 * (x.size : Int)) % (8 * (x.size : Int))).toNat, by omega, by omega⟩
  go_upto_region 8 with (fail)
  rw [eA]
  clear er eA k0 k1 k2 k3 k4 m0 m1 m2 m3 m4 tl
  have hbs := B3.out.size
  clear Q3 R3
  generalize w3.alloc (.cells #[.int .u64 (o : Int), .int .i64 (k : Int), .int .i64 (z : Int), .int .u64 (i : Int), .string t1] 39) = x6 at *
  have hcv := run_bytes_of_string (P := Try.prog) x6 9 32 5 x Try.underlying9 Try.underlying32 Try.underlying5
  go_upto_region 9 with (fail)
  clear hcv
  generalize hcp : grownCap x6 x.size 0 5 = cp at *
  clear hcp
  have HBy := Lib.hid (show crcBursts.BytesAt (x6.alloc (.cells (bytesRow x cp) 5 ((bytesRow x cp).size, (bytesRow x cp).size + 1))).drew x6.heap.size x.data.toList from crcBursts.bytesAt_new x6 x 5 cp)
  have B4 := Lib.hid ((B3.out.alloc hbs (.cells (bytesRow x cp) 5 ((bytesRow x cp).size, (bytesRow x cp).size + 1))).drew)
  generalize (x6.alloc (.cells (bytesRow x cp) 5 ((bytesRow x cp).size, (bytesRow x cp).size + 1))).drew = wr at *
  clear B3
  have hlx := list_len x
  obtain ⟨hc, hf⟩ := HBy.out (q / 8) (by omega)
  generalize hv : x.data.toList.getD (q / 8) 0 = v at hc
  have HV := Lib.hid hv
  clear hv
  have P1 := Lib.hid (crcBursts.bytesAt_set HBy.out (q / 8) (by omega) (UInt8.ofNat (v.toNat ^^^ 2 ^ (q % 8))))
  have P2 := Lib.hid (flip_not x P0.out q hA (x.data.toList.set (q / 8) (UInt8.ofNat (v.toNat ^^^ 2 ^ (q % 8)))) (by rw [HV.out]))
  have P3 := Lib.hid (B4.out.setCell (p := ⟨x6.heap.size, q / 8, none⟩) hbs (.int .u8 ((UInt8.ofNat (v.toNat ^^^ 2 ^ (q % 8))).toNat : Int))).drew
  have P4 := Lib.hid (show (x.data.toList.set (q / 8) (UInt8.ofNat (v.toNat ^^^ 2 ^ (q % 8)))).length = x.size by rw [List.length_set, hlx])
  have HW := Lib.hid (crcBursts.flip_val v (q % 8) (by omega))
  clear hlx
  have f1 : (q : Int).tdiv 8 = ((q / 8 : Nat) : Int) := by rw [Int.tdiv_eq_ediv_of_nonneg (by omega)]; omega
  have f2 : (q : Int).tmod 8 = ((q % 8 : Nat) : Int) := by rw [Int.tmod_eq_emod_of_nonneg (by omega)]; omega
  have f3 : IntKind.i64.wrap ((q / 8 : Nat) : Int) = ((q / 8 : Nat) : Int) := IntWalk.i64_in _ (by omega)
  have f4 : (0 : Int) ≤ ((q / 8 : Nat) : Int) := by omega
  have f5 : ((q / 8 : Nat) : Int) < (x.size : Int) := by omega
  have f6 : q / 8 < x.size := by omega
  go_region
  rw [HW.out]
  clear f1 f2 f3 f4 f5 f6 hc hf
  generalize x.data.toList.set (q / 8) (UInt8.ofNat (v.toNat ^^^ 2 ^ (q % 8))) = l at *
  generalize (wr.setCell ⟨x6.heap.size, q / 8, none⟩ (.int .u8 ((UInt8.ofNat (v.toNat ^^^ 2 ^ (q % 8))).toNat : Int))).drew = wn at *
  have hcv2 : (convert 32 9 (.slice (some ⟨x6.heap.size, 0, none⟩) x.size cp)).run Try.prog wn = .ok (.string ⟨l.toArray⟩) wn := by
    rw [← P4.out]
    refine run_convert_bytes_back (P := Try.prog) wn 32 9 5 ⟨x6.heap.size, 0, none⟩ _ l Try.underlying32 Try.underlying5 Try.underlying9 ?_
    intro j hj
    have hadd : Addr.add { block := x6.heap.size, off := 0 } j = ⟨x6.heap.size, j, none⟩ := by
      by_cases h : j = 0 <;> simp [Addr.add, h]
    rw [hadd, (P1.out j hj).1]
    simp [List.getD, hj]
  have HZ := Lib.hid (show (⟨l.toArray⟩ : ByteArray).size = x.size by
    have : (⟨l.toArray⟩ : ByteArray).size = l.length := by simp [ByteArray.size]
    rw [this, P4.out])
  go_wp2_with fail
  refine (get_any ⟨l.toArray⟩ (by rw [HZ.out]; omega) _).mono ?_
  rintro e w7 ⟨-, y2, hb⟩
  have he := y2 P2.out
  subst he
  have B7' := Lib.hid (chain P3.out hb)
  have B7 := Lib.hid (B7'.out.alloc B7'.out.size (.cells #[.int .u64 0, .int .i64 0, .int .i64 0, .int .u64 0, .string ⟨#[]⟩] 39))
  clear y2 hb hcv2 B7'
  have f1 : (q : Int).tdiv 8 = ((q / 8 : Nat) : Int) := by rw [Int.tdiv_eq_ediv_of_nonneg (by omega)]; omega
  have f3 : IntKind.i64.wrap ((q / 8 : Nat) : Int) = ((q / 8 : Nat) : Int) := IntWalk.i64_in _ (by omega)
  have f4 : (0 : Int) ≤ ((q / 8 : Nat) : Int) := by omega
  have f5 : ((q / 8 : Nat) : Int) ≤ (x.size : Int) := by omega
  have GX := Lib.hid (show ∀ W, Calls Try.prog 24 #[.string (x.extract 0 (q / 8))] W fun e w' => ∃ (a b c d : Int) (y : ByteArray) (n : Int), e = .returned (.tuple #[dgV a b c d y, .int .i64 n]) ∧ (n = 5 ∨ n = 0 ∧ 24 ≤ q / 8) ∧ Below W.heap.size W w' from fun W => (get_any _ (by simp; omega) W).mono fun e w' ⟨h1, h2, hb⟩ => by
    by_cases hg : getOk (x.extract 0 (q / 8))
    · refine ⟨_, _, _, _, _, _, h1 hg, .inr ⟨rfl, ?_⟩, hb⟩
      have := hg.1
      simp at this
      omega
    · exact ⟨_, _, _, _, _, _, h2 hg, .inl rfl, hb⟩)
  go_wp2_with fail
  refine (GX.out _).mono ?_
  rintro e w8 ⟨a, b, c, d, y, n, rfl, hn, hb⟩
  have B8' := Lib.hid (chain B7.out hb)
  have B8 := Lib.hid (B8'.out.alloc B8'.out.size (.cells #[.int .u64 a, .int .i64 b, .int .i64 c, .int .u64 d, .string y] 39))
  clear hb B7 B8' GX
  rcases hn with rfl | ⟨rfl, hq⟩
  · skip
    go_wp2_with fail
    refine (get_any t2 (by omega) _).mono ?_
    rintro e wr1 ⟨y1, y2, hb⟩
    have R1 := Lib.hid (chain B8.out hb)
    clear hb
    by_cases hg : getOk t2
    · have he := y1 hg
      subst he
      clear y1 y2
      have PT := Lib.hid ((put_text t2 hg.1).2 ⟨hg.2.1, hg.2.2.1, hg.2.2.2.1⟩)
      have PD := Lib.hid hg.2.2.2.2
      have PO := Lib.hid (show gO t2.data.toList < 18446744073709551616 from numB_lt 8 _ (by have := hg.1; have := list_len t2; simp; omega))
      have PI := Lib.hid (show gI t2.data.toList < 18446744073709551616 from numB_lt 8 _ (by have := hg.1; have := list_len t2; simp; omega))
      clear hg
      generalize gO t2.data.toList = o2 at *
      generalize gI t2.data.toList = i2 at *
      generalize gK t2.data.toList = k2 at *
      generalize gZ t2.data.toList = z2 at *
      generalize t2.extract 20 (t2.size - 4) = x2 at *
      have C1 := Lib.hid (Box.new wr1 39 #[.int .u64 o2, .int .i64 k2, .int .i64 z2, .int .u64 i2, .string x2])
      have R2 := Lib.hid (R1.out.alloc R1.out.size (.cells #[.int .u64 o2, .int .i64 k2, .int .i64 z2, .int .u64 i2, .string x2] 39))
      obtain ⟨⟨m0, m1, m2, m3, m4⟩, -⟩ := C1.out.ten
      go_wp2_with fail
      refine (put_yes o2 k2 z2 i2 x2 _ PO.out PI.out PD.out).mono ?_
      rintro e wr2 ⟨rfl, hb⟩
      rw [PT.out]
      have R3 := Lib.hid (chain R2.out hb)
      clear hb m0 m1 m2 m3 m4 C1 R1 R2
      go_wp2_with fail
      refine (alive11_any _).mono ?_
      rintro e wr3 ⟨rfl, hb⟩
      have R4 := Lib.hid (chain R3.out hb)
      clear hb R3
      go_wp2_with fail
      go_ret
      exact ⟨rfl, R4.out⟩
    · have he := y2 hg
      subst he
      clear y1 y2 hg
      have C1 := Lib.hid (Box.new wr1 39 #[.int .u64 0, .int .i64 0, .int .i64 0, .int .u64 0, .string ⟨#[]⟩])
      have R2 := Lib.hid (R1.out.alloc R1.out.size (.cells #[.int .u64 0, .int .i64 0, .int .i64 0, .int .u64 0, .string ⟨#[]⟩] 39))
      go_wp2_with fail
      refine (alive11_any _).mono ?_
      rintro e wr2 ⟨rfl, hb⟩
      have C2 := Lib.hid (C1.out.keep hb)
      have R3 := Lib.hid (chain R2.out hb)
      clear hb C1 R1 R2
      obtain ⟨⟨m0, m1, m2, m3, m4⟩, -⟩ := C2.out.ten
      go_wp2_with fail
      go_ret
      exact ⟨rfl, R3.out⟩
  · have t3 : ¬ ((q / 8 : Nat) : Int) < 24 := by omega
    go_wp2_with fail
    refine (get_any t2 (by omega) _).mono ?_
    rintro e wr1 ⟨y1, y2, hb⟩
    have R1 := Lib.hid (chain B8.out hb)
    clear hb
    by_cases hg : getOk t2
    · have he := y1 hg
      subst he
      clear y1 y2
      have PT := Lib.hid ((put_text t2 hg.1).2 ⟨hg.2.1, hg.2.2.1, hg.2.2.2.1⟩)
      have PD := Lib.hid hg.2.2.2.2
      have PO := Lib.hid (show gO t2.data.toList < 18446744073709551616 from numB_lt 8 _ (by have := hg.1; have := list_len t2; simp; omega))
      have PI := Lib.hid (show gI t2.data.toList < 18446744073709551616 from numB_lt 8 _ (by have := hg.1; have := list_len t2; simp; omega))
      clear hg
      generalize gO t2.data.toList = o2 at *
      generalize gI t2.data.toList = i2 at *
      generalize gK t2.data.toList = k2 at *
      generalize gZ t2.data.toList = z2 at *
      generalize t2.extract 20 (t2.size - 4) = x2 at *
      have C1 := Lib.hid (Box.new wr1 39 #[.int .u64 o2, .int .i64 k2, .int .i64 z2, .int .u64 i2, .string x2])
      have R2 := Lib.hid (R1.out.alloc R1.out.size (.cells #[.int .u64 o2, .int .i64 k2, .int .i64 z2, .int .u64 i2, .string x2] 39))
      obtain ⟨⟨m0, m1, m2, m3, m4⟩, -⟩ := C1.out.ten
      go_wp2_with fail
      refine (put_yes o2 k2 z2 i2 x2 _ PO.out PI.out PD.out).mono ?_
      rintro e wr2 ⟨rfl, hb⟩
      rw [PT.out]
      have R3 := Lib.hid (chain R2.out hb)
      clear hb m0 m1 m2 m3 m4 C1 R1 R2
      go_wp2_with fail
      refine (alive11_any _).mono ?_
      rintro e wr3 ⟨rfl, hb⟩
      have R4 := Lib.hid (chain R3.out hb)
      clear hb R3
      go_wp2_with fail
      go_ret
      exact ⟨rfl, R4.out⟩
    · have he := y2 hg
      subst he
      clear y1 y2 hg
      have C1 := Lib.hid (Box.new wr1 39 #[.int .u64 0, .int .i64 0, .int .i64 0, .int .u64 0, .string ⟨#[]⟩])
      have R2 := Lib.hid (R1.out.alloc R1.out.size (.cells #[.int .u64 0, .int .i64 0, .int .i64 0, .int .u64 0, .string ⟨#[]⟩] 39))
      go_wp2_with fail
      refine (alive11_any _).mono ?_
      rintro e wr2 ⟨rfl, hb⟩
      have C2 := Lib.hid (C1.out.keep hb)
      have R3 := Lib.hid (chain R2.out hb)
      clear hb C1 R1 R2
      obtain ⟨⟨m0, m1, m2, m3, m4⟩, -⟩ := C2.out.ten
      go_wp2_with fail
      go_ret
      exact ⟨rfl, R3.out⟩
theorem back_walk (o k z i : Int) (s1 s2 : ByteArray) (at_ : Int) (wo : (Lit.int .u64 o).wf = true) (wi : (Lit.int .u64 i).wf = true) (h1 : s1.size ≤ maxLen) (h2 : s2.size ≤ maxLen) (w : World) :
    Calls Try.prog 9 #[dgV o k z i s1, .string s2, .int .i64 at_] w fun e w' => e = .returned (.bool true) ∧ Below w.heap.size w w' := by
  cases h : dgB k z (cutD s1) with
  | false => exact back_no o k z i s1 s2 at_ h1 h2 w h
  | true =>
    have hd := of_decide_eq_true h
    have b1 := bounds_u64 wo
    have b2 := bounds_u64 wi
    obtain ⟨o', rfl⟩ := Int.eq_ofNat_of_zero_le b1.1
    obtain ⟨i', rfl⟩ := Int.eq_ofNat_of_zero_le b2.1
    obtain ⟨k', rfl⟩ := Int.eq_ofNat_of_zero_le (show 0 ≤ k by omega)
    obtain ⟨z', rfl⟩ := Int.eq_ofNat_of_zero_le (show 0 ≤ z by omega)
    exact back_yes o' k' z' i' s1 s2 at_ h1 h2 w (by omega) (by omega) h
end Go.Proofs.Ythihcdocfcfnkaa
