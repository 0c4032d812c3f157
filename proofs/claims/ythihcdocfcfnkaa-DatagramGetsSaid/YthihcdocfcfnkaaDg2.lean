/- Contracts of layer 11: Put; the law's alive. -/
import Derived.Test.YthihcdocfcfnkaaDg1
namespace Go.Proofs.Ythihcdocfcfnkaa
open Go.RowKit Go.Lib
theorem own_new (W : World) (base e n : Nat) (cs : Array Value) (hb : base ≤ W.heap.size) (hn : cs.size = n) (hm : n ≤ 1000) : (W.alloc (.cells cs e)).ownsRow base e 1 (.slice (some ⟨W.heap.size, 0, none⟩) n n) n cs.toList := by
  refine ⟨by simp [hn], .inr ⟨W.heap.size, n, cs, rfl, hb, heap_alloc_new W _, Nat.le_refl _, ?_, ?_, ?_⟩⟩
  · simp [maxLen]; omega
  · simp [hn]
  · subst hn; rw [Nat.mul_one, List.take_of_length_le (by simp)]
theorem own_bytes {w : World} {base e n : Nat} {v : Value} {l : List UInt8} (h : w.ownsRow base e 1 v n (l.map byteV)) (hne : v ≠ .slice none 0 0) :
    (convert 32 9 v).run Try.prog w = .ok (.string ⟨l.toArray⟩) w := by
  have hl : l.length = n := by have := h.1; simpa using this
  rcases h.2 with ⟨rfl, h0⟩ | ⟨g, cap, cur, rfl, hb, hh, hn, hm, hs, hx⟩
  · exact absurd rfl hne
  · subst hl
    refine run_convert_bytes_back (P := Try.prog) w 32 9 5 ⟨g, 0, none⟩ _ l Try.underlying32 Try.underlying5 Try.underlying9 ?_
    intro j hj
    have hadd : Addr.add { block := g, off := 0 } j = ⟨g, j, none⟩ := by
      by_cases h : j = 0 <;> simp [Addr.add, h]
    have hbx : Box w g e cur := hh
    rw [hadd, hbx.cell j]
    have e1 : (cur.toList.take (l.length * 1))[j]? = (l.map byteV)[j]? := by rw [hx]
    rw [Nat.mul_one, List.getElem?_take, if_pos hj] at e1
    simp only [List.getElem?_map, List.getElem?_eq_getElem hj, Option.map_some] at e1
    rw [← Array.getElem?_toList, e1]
    rfl
theorem cell_two_new (w : World) (a b : Value) (t : TypeId) : ∀ j u, ([a, b] : List Value)[j]? = some u → (w.alloc (.cells #[a, b] t)).cell? (Addr.add ⟨w.heap.size, 0, none⟩ j) = some u := by
  intro j u hu
  have hadd : Addr.add { block := w.heap.size, off := 0 } j = ⟨w.heap.size, j, none⟩ := by
    by_cases h : j = 0 <;> simp [Addr.add, h]
  rw [hadd, (Box.new w t #[a, b]).cell j]
  simpa using hu
/-- A datagram's bytes, without the sum. -/
def dgL (o k z i : Nat) (s : ByteArray) : List UInt8 := [68, 1] ++ be o 8 ++ be i 8 ++ [UInt8.ofNat k, UInt8.ofNat z] ++ s.data.toList
theorem put_no (o k z i : Int) (s : ByteArray) (hs : s.size ≤ maxLen) (w : World) (h : dgB k z s = false) :
    Calls Try.prog 19 #[dgV o k z i s] w fun e w' => e = .returned (.tuple #[.string ⟨#[]⟩, .int .i64 1]) ∧ Below w.heap.size w w' := by
  have H := Lib.hid (dgRight_any o k z i s hs (w.alloc (.cells #[.int .u64 o, .int .i64 k, .int .i64 z, .int .u64 i, .string s] 39)))
  rw [h] at H
  clear h
  go_enter Try.func19, Try.ntmps19
  go_wp2_with fail
  refine H.out.mono ?_
  rintro e w1 ⟨rfl, hb⟩
  have B1 := Lib.hid (chain ((Below.refl w.heap.size w).alloc (Nat.le_refl _) (.cells #[.int .u64 o, .int .i64 k, .int .i64 z, .int .u64 i, .string s] 39)) hb)
  clear hb
  go_wp2_with fail
  go_ret2
  exact ⟨rfl, B1.out⟩
theorem Box.five {w : World} {g : Nat} {t : TypeId} {a b c d e : Value} (h : Box w g t #[a, b, c, d, e]) : w.cell? ⟨g, 0, none⟩ = some a ∧ w.cell? ⟨g, 1, none⟩ = some b ∧ w.cell? ⟨g, 2, none⟩ = some c ∧ w.cell? ⟨g, 3, none⟩ = some d ∧ w.cell? ⟨g, 4, none⟩ = some e :=
  ⟨h.cell 0, h.cell 1, h.cell 2, h.cell 3, h.cell 4⟩
theorem dg_cells (L : List UInt8) (k z : Nat) (s : ByteArray) (hk : k ≤ 64) (hz : z ≤ 64) : L.map byteV ++ [.int .u8 (k : Int), .int .u8 (z : Int)] ++ strCells s = (L ++ [UInt8.ofNat k, UInt8.ofNat z] ++ s.data.toList).map byteV := by
  have h1 : byteV (UInt8.ofNat k) = .int .u8 (k : Int) := by simp [byteV]; omega
  have h2 : byteV (UInt8.ofNat z) = .int .u8 (z : Int) := by simp [byteV]; omega
  simp only [List.map_append, List.map_cons, List.map_nil, h1, h2]
  rfl
set_option maxHeartbeats 2000000 in
theorem put_yes (o k z i : Nat) (s : ByteArray) (w : World) (ho : o < 18446744073709551616) (hi : i < 18446744073709551616) (h : dgB k z s = true) :
    Calls Try.prog 19 #[dgV o k z i s] w fun e w' => e = .returned (.tuple #[.string (sealB ⟨(dgL o k z i s).toArray⟩), .int .i64 0]) ∧ Below w.heap.size w w' := by
  have hd := of_decide_eq_true h
  have hs : s.size ≤ 64 := by omega
  have hk : k ≤ 64 := by omega
  have hz : z ≤ 64 := by omega
  have H := Lib.hid (dgRight_any o k z i s (by unfold maxLen; omega) (w.alloc (.cells #[.int .u64 o, .int .i64 k, .int .i64 z, .int .u64 i, .string s] 39)))
  rw [h] at H
  have BX := Lib.hid (Box.new w 39 #[.int .u64 o, .int .i64 k, .int .i64 z, .int .u64 i, .string s])
  have HSZ := Lib.hid hd.2.2.2.2
  clear h hd
  obtain ⟨i0, hi', hz0', hz1', hz2'⟩ := info_parts uint8_info
  go_enter Try.func19, Try.ntmps19
  go_wp2_with fail
  refine H.out.mono ?_
  rintro e w1 ⟨rfl, hb⟩
  have B1 := Lib.hid (chain ((Below.refl w.heap.size w).alloc (Nat.le_refl _) (.cells #[.int .u64 o, .int .i64 k, .int .i64 z, .int .u64 i, .string s] 39)) hb)
  have BX := Lib.hid (BX.out.keep hb)
  clear hb H
  have BX1 := Lib.hid (BX.out.alloc (.cells #[.int .u8 68, .int .u8 1] 5))
  have hlt := BX.out.lt
  obtain ⟨c0, c1, c2, c3, c4⟩ := BX1.out.five
  go_wp2_with fail
  refine (withWord_any w1.heap.size _ [68, 1] o _ ho (by decide) (own_new w1 w1.heap.size 5 2 #[.int .u8 68, .int .u8 1] (Nat.le_refl _) rfl (by omega)) (by simp) (by simp)).mono ?_
  rintro e w2 ⟨v2, rfl, ho2, hn2, hb2⟩
  have HO2 := Lib.hid ho2
  have HN2 := Lib.hid hn2
  have B2 := Lib.hid (((Below.refl w1.heap.size w1).alloc (Nat.le_refl _) (.cells #[.int .u8 68, .int .u8 1] 5)).trans hb2)
  have BX2 := Lib.hid (BX.out.below B2.out hlt)
  have hs2 := B2.out.size
  clear ho2 hn2 hb2 c0 c1 c2 c3 c4
  obtain ⟨c0, c1, c2, c3, c4⟩ := BX2.out.five
  go_wp2_with fail
  refine (withWord_any w1.heap.size v2 ([68, 1] ++ be o 8) i _ hi (by simp [be_len]) HO2.out HN2.out hs2).mono ?_
  rintro e w3 ⟨v3, rfl, ho3, hn3, hb3⟩
  have HO3 := Lib.hid ho3
  have HN3 := Lib.hid hn3
  have B3 := Lib.hid (B2.out.trans hb3)
  have BX3 := Lib.hid (BX.out.below B3.out hlt)
  have hs3 := B3.out.size
  clear ho3 hn3 hb3 c0 c1 c2 c3 c4
  obtain ⟨c0, c1, c2, c3, c4⟩ := BX3.out.five
  have HL3 : ([68, 1] ++ be o 8 ++ be i 8).length = 18 := by simp [be_len]
  rw [HL3] at HO3
  clear HL3
  have HL := Lib.hid (show dgL o k z i s = ([68, 1] ++ be o 8 ++ be i 8) ++ UInt8.ofNat k :: UInt8.ofNat z :: s.data.toList by rw [dgL, List.append_assoc ([68, 1] ++ be o 8 ++ be i 8)]; rfl)
  generalize [68, 1] ++ be o 8 ++ be i 8 = L3 at *
  obtain ⟨A3, cc3, hv3, _⟩ := own_form HO3.out
  subst hv3
  have XO := Lib.hid (HO3.out.alloc (.cells #[.int .u8 (k : Int), .int .u8 (z : Int)] 5))
  have XB := Lib.hid (B3.out.alloc hs3 (.cells #[.int .u8 (k : Int), .int .u8 (z : Int)] 5))
  have N2 := Lib.hid (fun k hk => (HO3.out.lt k hk).1)
  have hbs := XB.out.size
  go_wp2_with (first
    | (at_builtin; refine wpList_append_own _ rfl _ _ 32 rfl w1.heap.size 5 i0 (.int .u8 0) 1 1 Try.underlying32 hi' hz0' hz1' hz2' rfl (by decide) _ _ _ rfl XO.out ⟨w3.heap.size, 0, none⟩ 2 2 [.int .u8 (k : Int), .int .u8 (z : Int)] rfl rfl (cell_two_new _ _ _ _) (by simp [Value.oneCell']) (by simp [maxLen]) (by omega) hbs ?_; intro v4 w4 hown' hgrow hnil; have HC := Lib.hid (XB.out.grown hgrow hbs N2.out); have HO4 := Lib.hid hown'; have HN4 := Lib.hid (fun e => HN3.out (hnil.1 e).1); have N4 := Lib.hid (fun k hk => (hown'.lt k hk).1); have hbs4 := HC.out.size; have c5 := (BX.out.below HC.out hlt).cell 4; clear hown' hgrow hnil c0 c1 c2 c3 c4)
    | (at_builtin; refine wpList_append_own_string _ rfl _ _ 32 9 rfl w1.heap.size 5 i0 Try.underlying32 Try.underlying9 hi' hz0' hz1' hz2' _ _ _ rfl HO4.out s rfl (by simp [maxLen]; omega) (by omega) hbs4 ?_; intro v5 w5 hown' hgrow hnil; have HC5 := Lib.hid (HC.out.grown hgrow hbs4 N4.out); have HO5 := Lib.hid hown'; have cv := own_bytes (l := L3 ++ [UInt8.ofNat k, UInt8.ofNat z] ++ s.data.toList) (by rw [← dg_cells L3 k z s hk hz]; exact hown') (fun e => HN4.out (hnil.1 e).1); clear hown' hgrow hnil))
  have HSZ2 := Lib.hid (show (⟨(dgL o k z i s).toArray⟩ : ByteArray).size ≤ 1000000 from by
    have : (⟨(dgL o k z i s).toArray⟩ : ByteArray).size = (dgL o k z i s).length := by simp [ByteArray.size]
    rw [this]; simp [dgL, be_len]; omega)
  rw [← HL.out]
  refine (seal_any _ HSZ2.out _).mono ?_
  rintro e w6 ⟨rfl, hb⟩
  have B6 := Lib.hid (chain (B1.out.trans (HC5.out.mono B1.out.size)) hb)
  clear hb cv
  go_wp2_with fail
  go_ret2
  exact ⟨rfl, B6.out⟩
theorem alive11_any (w : World) : Calls Try.prog 22 #[] w fun e w' => e = .returned (.bool true) ∧ Below w.heap.size w w' := by
  have HP := Lib.hid (fun W => put_yes 5 1 0 0 ⟨#[]⟩ W (by omega) (by omega) (by decide))
  have HS := Lib.hid (show (sealB ⟨(dgL 5 1 0 0 ⟨#[]⟩).toArray⟩).size = 24 by decide +kernel)
  generalize sealB ⟨(dgL 5 1 0 0 ⟨#[]⟩).toArray⟩ = t at *
  have t1 : ((t.size : Int) == 24) = true := beq_iff_eq.2 (by rw [HS.out]; rfl)
  have t2 : t.size ≤ 1000 := by rw [HS.out]; omega
  go_enter Try.func22, Try.ntmps22
  go_wp2_with fail
  refine (HP.out _).mono ?_
  rintro e w1 ⟨rfl, hb⟩
  go_wp2_with fail
  go_ret
  exact ⟨rfl, hb⟩
end Go.Proofs.Ythihcdocfcfnkaa
