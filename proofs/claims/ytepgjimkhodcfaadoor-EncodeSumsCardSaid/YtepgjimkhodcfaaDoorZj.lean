/- Parts: Enc2, Enc3, Enc4, Enc5, Enc6. -/
import Derived.Test.YtepgjimkhodcfaaDoorZi
import Derived.Test.YtepgjimkhodcfaaDoorShelfS
namespace Go.Proofs.YtepgjimkhodcfaaDoor
section
/- Layer 9's reference: Right, Make, Many, Same; law 09's blocks, alive. -/
set_option linter.unusedVariables false
set_option linter.unusedSimpArgs false
open Go.RowKit
set_option maxRecDepth 100000
def cutC (s : ByteArray) : ByteArray := s.extract 0 (min s.size 66)
theorem cutC_size (s : ByteArray) : (cutC s).size ≤ 66 := by simp [cutC, ByteArray.size_extract]; omega
def cutsC (ss : List ByteArray) (k : Nat) : List ByteArray := (ss.take k).map cutC
theorem cutsC_succ (ss : List ByteArray) (k : Nat) (h : k < ss.length) : cutsC ss (k + 1) = cutsC ss k ++ [cutC (ss.getD k ByteArray.empty)] := by
  unfold cutsC
  rw [List.take_succ_eq_append_getElem h, List.map_append]
  simp [List.getD, h]
theorem cutsC_le (ss : List ByteArray) (k j : Nat) : ((cutsC ss k).getD j ByteArray.empty).size ≤ maxLen := by
  unfold cutsC
  simp only [List.getD, List.getElem?_map]
  cases (ss.take k)[j]? with
  | none => simp [maxLen]
  | some s => have := cutC_size s; simp [maxLen]; omega
theorem cutsC_all (ss : List ByteArray) (k : Nat) (h : ss.length = k) (h2 : k ≤ 66) : cutsC ss k = cutsC ss 66 := by
  unfold cutsC
  rw [List.take_of_length_le (by omega), List.take_of_length_le (by omega)]
/-- The first 66 texts, 66 bytes each. -/
theorem cutC_min (s : ByteArray) (m : Nat) (hm : (m : Int) = min (s.size : Int) 66) : s.extract 0 m = cutC s := by
  unfold cutC
  congr 1
  omega
set_option maxHeartbeats 2000000 in
theorem blocks9_some (ad : Addr) (l c kk : Nat) (ss : List ByteArray) (w : World) (ht : Texts w (some ad) l ss) (hk : kk = min l 66) (hlc : l ≤ c) (hcm : c ≤ maxLen) : Calls Tryd.prog 6 #[.slice (some ad) l c] w (TextsOut (cutsC ss kk) w) := by
  obtain ⟨i0, hi, hz0, hz1, hz2⟩ := info_parts string_info
  have hlen := Lib.hid ht.1
  have HT := Lib.hid ht
  clear ht
  have HI := Lib.hid hi
  have HZ0 := Lib.hid hz0
  have HZ1 := Lib.hid hz1
  have HZ2 := Lib.hid hz2
  clear hi hz0 hz1 hz2
  unfold maxLen at hcm
  have hkk1 : kk ≤ l := by omega
  have hkk2 : kk ≤ 66 := by omega
  have hkk3 : kk ≤ c := by omega
  have mkk : min (l : Int) 66 = (kk : Int) := by omega
  clear hk
  go_enter Tryd.func6, Tryd.ntmps6
  go_wp2_with fail
  clear mkk
  go_loopw [3, 12] (fun v t wr => ∃ i : Nat, i ≤ kk ∧ t = .int .i64 i ∧ wr.ownsRow w.heap.size 9 1 v i ((cutsC ss i).map Value.string) ∧ Below w.heap.size w wr)
    (fun _ t _ => kk - (intOf t).toNat)
  case atStart => exact ⟨0, by omega, rfl, ⟨by simp [cutsC], .inl ⟨rfl, rfl⟩⟩, Below.refl _ _⟩
  case round =>
    obtain ⟨i, hi, rfl, hown, hbel⟩ := hrel
    have HO := Lib.hid hown
    have HB := Lib.hid hbel
    clear hown hbel
    by_cases hlt : i < kk
    · have hlt' : (i : Int) < (kk : Int) := by omega
      obtain ⟨b, off, hA, hb, hc⟩ := HT.out.2.2 (by omega)
      obtain rfl := Option.some.inj hA
      have c1 : wr.cell? ⟨b, off + i, none⟩ = some (.string (ss.getD i ByteArray.empty)) := (HB.out.cell (p := ⟨b, off + i, none⟩) hb).trans (hc i (by omega))
      have hm := HT.out.2.1 i
      have HS := Lib.hid (cutsC_succ ss i (by rw [hlen.out]; omega))
      generalize ss.getD i ByteArray.empty = s at *
      unfold maxLen at hm
      obtain ⟨m, em⟩ : ∃ m, m = min s.size 66 := ⟨_, rfl⟩
      have hm1 : m ≤ s.size := by omega
      have hm2 : m ≤ 66 := by omega
      have mm : min (s.size : Int) 66 = (m : Int) := by omega
      have HE := Lib.hid (cutC_min s m mm.symm)
      have hi' := HI.out
      have hz0' := HZ0.out
      have hz1' := HZ1.out
      have hz2' := HZ2.out
      clear hc em
      have XO := Lib.hid (HO.out.alloc (.cells #[.string (s.extract 0 m)] 9))
      have XB := Lib.hid (HB.out.alloc HB.out.size (.cells #[.string (s.extract 0 m)] 9))
      have N2 := Lib.hid (fun k hk => (HO.out.lt k hk).1)
      go_wp2_with (at_builtin; refine wpList_append_own _ rfl _ _ 22 rfl w.heap.size 9 i0 (.string ⟨#[]⟩) 1 16 Tryd.underlying22 hi' hz0' hz1' hz2' rfl (by decide) _ _ _ rfl XO.out ⟨wr.heap.size, 0, none⟩ 1 1 [.string (s.extract 0 m)] rfl rfl (cell_one_new _ _ _) (by simp [Value.oneCell']) (by simp [maxLen]; omega) (by omega) XB.out.size ?_; intro v' w1 hown' hgrow _; have HC := Lib.hid (XB.out.grown hgrow XB.out.size N2.out); have HO2 := Lib.hid hown'; clear hown' hgrow)
      go_roundw
      case rel =>
        refine ⟨i + 1, by omega, by go_num, ?_, HC.out⟩
        rw [HS.out, List.map_append, ← HE.out]
        exact HO2.out
      case measure => simp [intOf] <;> omega
    · obtain rfl : kk = i := by omega
      have hlt' : ¬ (kk : Int) < (kk : Int) := by omega
      have hcl : (cutsC ss kk).length = kk := by simp [cutsC, hlen.out]; omega
      have HCL := Lib.hid hcl
      clear hcl
      obtain ⟨A', c', rfl, q1, q2, q3⟩ := own_texts HO.out (cutsC_le ss _)
      go_wp2
      go_ret
      exact ⟨A', c', by rw [HCL.out]; rfl, by rw [HCL.out]; exact q1, q2, by rw [HCL.out]; exact q3, HB.out⟩
set_option maxHeartbeats 1000000 in
theorem blocks9_none (ss : List ByteArray) (w : World) (ht : Texts w none 0 ss) : Calls Tryd.prog 6 #[.slice none 0 0] w (TextsOut (cutsC ss 0) w) := by
  obtain ⟨i0, hi, hz0, hz1, hz2⟩ := info_parts string_info
  go_enter Tryd.func6, Tryd.ntmps6
  go_wp2_with fail
  go_loopw [3, 12] (fun v t wr => v = .slice none 0 0 ∧ t = .int .i64 0 ∧ Below w.heap.size w wr) (fun _ t _ => 0)
  case atStart => exact ⟨rfl, rfl, Below.refl _ _⟩
  case round =>
    obtain ⟨rfl, rfl, hbel⟩ := hrel
    have HB := Lib.hid hbel
    clear hbel
    go_wp2
    go_ret
    have e : cutsC ss 0 = [] := by simp [cutsC]
    rw [e]
    exact ⟨none, 0, rfl, Nat.le_refl _, Nat.zero_le _, Texts.nil _ _, HB.out⟩
theorem blocks9_any (A : Option Addr) (l c : Nat) (ss : List ByteArray) (w : World) (ht : Texts w A l ss) (hs : SliceOk A l c) : Calls Tryd.prog 6 #[.slice A l c] w (TextsOut (cutsC ss 66) w) := by
  cases A with
  | none =>
    obtain ⟨rfl, rfl⟩ := hs.2.2 rfl
    rw [← cutsC_all ss 0 ht.1 (by omega)]
    exact blocks9_none ss w ht
  | some ad =>
    have := blocks9_some ad l c (min l 66) ss w ht rfl hs.1 hs.2.1
    by_cases h : l ≤ 66
    · rw [Nat.min_eq_left h] at this
      rw [← cutsC_all ss l ht.1 h]; exact this
    · rw [Nat.min_eq_right (by omega)] at this
      exact this

theorem cutsC_len (ss : List ByteArray) : (cutsC ss 66).length ≤ 66 := by simp [cutsC]; omega
set_option maxRecDepth 100000 in
theorem refRight9_any (A : Option Addr) (l c : Nat) (ss : List ByteArray) (w : World) (ht : Texts w A l ss) (hl : l ≤ maxLen) :
    Calls Tryd.prog 12 #[.slice A l c] w fun e w' => e = .returned (.bool (mayS ss)) ∧ w = w' := by
  by_cases h0 : l = 0
  · subst h0
    have e : mayS ss = false := by simp [mayS, ht.1]
    rw [e]
    clear e
    go_enter Tryd.func12, Tryd.ntmps12
    go_wp2
    go_ret
    exact ⟨rfl, rfl⟩
  · obtain ⟨b, off, rfl, hb, c0⟩ := ht.zero (by omega)
    have HS := Lib.hid (why_any ((ss.getD 0 ByteArray.empty).size : Nat) (some ⟨b, off, none⟩) l c ss w ht hl)
    have hm := ht.2.1 0
    have HE := Lib.hid (show mayS ss = okS ((ss.getD 0 ByteArray.empty).size : Nat) ss by
      have : decide (1 ≤ ss.length) = true := by rw [ht.1]; simp; omega
      rw [mayS, this, Bool.true_and])
    unfold maxLen at hm hl
    have g1 : (0 : Int) < l := by omega
    have g2 : (1 : Int) ≤ l := by omega
    have h0' : 0 < l := by omega
    cases ho : okS ((ss.getD 0 ByteArray.empty).size : Nat) ss with
    | false =>
      have HW := Lib.hid (sumE_no ho)
      rw [ho] at HE
      clear ht ho
      generalize ss.getD 0 ByteArray.empty = s at *
      go_enter Tryd.func12, Tryd.ntmps12
      go_wp2_with fail
      refine HS.out.mono ?_
      rw [HW.out]
      rintro e w1 ⟨rfl, rfl⟩
      go_wp2_with fail
      go_ret
      exact ⟨by rw [HE.out]; rfl, rfl⟩
    | true =>
      have HW := Lib.hid (sumE_ok ho)
      rw [ho] at HE
      clear ht ho
      generalize ss.getD 0 ByteArray.empty = s at *
      go_enter Tryd.func12, Tryd.ntmps12
      go_wp2_with fail
      refine HS.out.mono ?_
      rw [HW.out]
      rintro e w1 ⟨rfl, rfl⟩
      go_wp2_with fail
      go_ret
      exact ⟨by rw [HE.out]; rfl, rfl⟩
theorem symS_sum {ss : List ByteArray} (h : mayS ss = true) (id : Nat) : symS ss id = ⟨(bsums ss (bitsL (nbRow ss.length id) ss.length) ss.length (ss.getD 0 ByteArray.empty).size).toArray⟩ := by
  obtain ⟨h1, h2, h3⟩ := mayS_parts h
  have e : ((ss.length : Int) == (ss.length : Int)) = true := by simp
  have h4 := okS_picks h3 (nbRow ss.length id)
  unfold symS pickS
  rw [h3, nb_right ss.length id h1 h2, e, bsums_bits]
  simp only [Bool.and_self, if_true, Int.toNat_natCast, sumS, h4]
/-- A symbol is returned. -/
def SymOne (i : Nat) (s : ByteArray) (w : World) (e : Ending) (w' : World) : Prop := e = .returned (.agg #[.int .u64 (i : Int), .string s]) ∧ Below w.heap.size w w'
theorem nbRow_ltE (k id j : Nat) : (nbRow k id).getD j 0 < 18446744073709551616 := ofBits_lt k _ j
set_option maxRecDepth 100000 in
set_option maxHeartbeats 2000000 in
theorem refMake9_any (A : Option Addr) (l c : Nat) (ss : List ByteArray) (id : Nat) (w : World) (ht : Texts w A l ss) (hi : id < 18446744073709551616) (hm : mayS ss = true) :
    Calls Tryd.prog 16 #[.slice A l c, .int .u64 id] w (SymOne id (symS ss id) w) := by
  obtain ⟨h1, h2, h3⟩ := mayS_parts hm
  have hlen := ht.1
  have hW : Below w.heap.size w (w.alloc (.cells #[.int .u64 0, .string ⟨#[]⟩] 38)) := (Below.refl _ _).alloc (Nat.le_refl _) _
  have Q0 := Lib.hid (Box.new w 38 #[.int .u64 0, .string ⟨#[]⟩])
  obtain ⟨b, off, rfl, hb, c0⟩ := ht.zero (by omega)
  have HTx := Lib.hid ht
  have HW := Lib.hid hW
  have HC := Lib.hid c0
  have HB := Lib.hid hb
  have HRow := Lib.hid (refRow_any l id (by omega) (by omega) hi)
  have HSy := Lib.hid (show symS ss id = ⟨(bsums ss (bitsL (nbRow l id) l) l (ss.getD 0 ByteArray.empty).size).toArray⟩ by rw [symS_sum hm, hlen])
  have hm0 := ht.2.1 0
  have HSz := Lib.hid (fun j (hj : j < l) => okS_at h3 j (by rw [hlen]; exact hj))
  have HRL := Lib.hid (show (nbRow l id).length = nw l by rw [nbRow, ofBits_len])
  have hs64 : (ss.getD 0 ByteArray.empty).size ≤ 64 := by
    have h := h3
    simp only [okS, Bool.and_eq_true] at h
    have := (smb_iff _).1 h.1.1
    omega
  unfold maxLen at hm0
  have g1 : (0 : Int) < l := by omega
  have h0' : 0 < l := by omega
  have hl64 : l ≤ 64 := by omega
  clear ht hW hb h1 h2 h3 hm
  generalize symS ss id = sy at *
  go_enter Tryd.func16, Tryd.ntmps16
  go_wp2_with fail
  refine (HRow.out _).mono ?_
  rintro e w1 ⟨A2, l2, c2, rfl, hw, hb⟩
  have Q := Lib.hid (Q0.out.keep hb)
  have B := Lib.hid (chainN HW.out HW.out.size hb)
  have HWd := Lib.hid hw
  have hl2 : l2 = nw l := by rw [← hw.1, HRL.out]
  have hk : l ≤ 64 * l2 := by rw [hl2]; unfold nw; omega
  have hk2 : l2 ≤ 1000 := by rw [hl2]; unfold nw; omega
  clear hb hw hl2
  go_wp2_with fail
  refine (refBits_any l A2 l2 c2 (nbRow l id) _ hk hk2 HWd.out).mono ?_
  rintro e w2 ⟨A9, c9, rfl, hz, hb⟩
  have Q := Lib.hid (Q.out.keep hb)
  have B := Lib.hid (chainN B.out B.out.size hb)
  have HS := Lib.hid (refSum_any (ss.getD 0 ByteArray.empty).size hs64 (some ⟨b, off, none⟩) A9 l c l c9 ss (bitsL (nbRow l id) l) w2 (HTx.out.mono (Nat.le_refl _) B.out) hz (by omega) (Nat.le_refl _) (by omega) (fun j hj => by have := HSz.out j hj; omega))
  rw [← HSy.out] at HS
  clear hb hz
  have c0 := (B.out.cell (p := ⟨b, off, none⟩) HB.out).trans HC.out
  generalize ss.getD 0 ByteArray.empty = s0 at *
  go_wp2_with fail
  refine HS.out.mono ?_
  rintro e w3 ⟨rfl, hb⟩
  have Q := Lib.hid (Q.out.keep hb)
  have B := Lib.hid (chainN B.out B.out.size hb)
  clear hb c0
  obtain ⟨z0, z1, z2, z3⟩ := Q.out.two
  go_wp2_with fail
  refine close_one Tryd.results16 rfl rfl Q.out.put2 Tryd.underlying38 rfl (by kernel_rfl) ⟨rfl, ?_⟩
  exact (B.out.setCell (p := ⟨w.heap.size, 0, none⟩) (Nat.le_refl _) _).setCell (p := ⟨w.heap.size, 1, none⟩) (Nat.le_refl _) _
theorem add_zeroE (g j : Nat) : (⟨g, 0, none⟩ : Addr).add j = ⟨g, j, none⟩ := by unfold Addr.add; split <;> simp_all
theorem own_syms {w : World} {base n : Nat} {v : Value} {ls : List SymN} (h : w.ownsRow base 38 2 v n (symCells ls)) (hn : ls.length = n) : ∃ A c, v = .slice A n c ∧ SymsAt w A n ls := by
  rcases h.2 with ⟨hv, h0⟩ | ⟨g, cap, cur, hv, hb, hh, hc, -⟩
  · subst h0
    obtain rfl : ls = [] := List.length_eq_zero_iff.1 hn
    exact ⟨none, 0, hv, SymsAt.nil _ _⟩
  · refine ⟨some ⟨g, 0, none⟩, cap, hv, hn, fun hp => ⟨g, 0, rfl, (h.lt g (by rw [hv]; rfl)).2, fun j hj => ?_⟩⟩
    obtain ⟨f1, f2⟩ := symCells_at ls j (by omega)
    have hc := World.ownsRow.cells h (g := g) (by rw [hv]; rfl)
    have c1 := hc _ _ f1
    have c2 := hc _ _ f2
    rw [add_zeroE] at c1 c2
    rw [Nat.zero_add]
    exact ⟨c1, c2⟩
/-- Symbols are returned. -/
def ManyOne (ls : List SymN) (w : World) (e : Ending) (w' : World) : Prop := ∃ A c, e = .returned (.slice A ls.length c) ∧ SymsAt w' A ls.length ls ∧ Below w.heap.size w w'
theorem own_empty2 (W : World) (base e : Nat) (hb : base ≤ W.heap.size) : (W.alloc (.cells #[] e)).ownsRow base e 2 (.slice (some ⟨W.heap.size, 0, none⟩) 0 0) 0 [] :=
  ⟨by simp, .inr ⟨W.heap.size, 0, #[], rfl, hb, heap_alloc_new W _, Nat.le_refl _, Nat.zero_le _, by simp, by simp⟩⟩
set_option maxRecDepth 100000 in
set_option maxHeartbeats 2000000 in
theorem refMany9_any (A : Option Addr) (l c : Nat) (ss : List ByteArray) (B : Option Addr) (n d : Nat) (ids : List Nat) (w : World) (ht : Texts w A l ss) (hm : mayS ss = true) (hn : n ≤ 64) (hids : Words w B n ids) :
    Calls Tryd.prog 18 #[.slice A l c, .slice B n d] w (ManyOne (symL ss ids) w) := by
  obtain ⟨i0, hi, hz0, hz1, hz2⟩ := info_parts sym_info
  have HI := Lib.hid hi
  have HZ0 := Lib.hid hz0
  have HZ1 := Lib.hid hz1
  have HZ2 := Lib.hid hz2
  clear hi hz0 hz1 hz2
  have HMk := Lib.hid (fun (id : Nat) (hi : id < 18446744073709551616) W (hW : Below w.heap.size w W) => refMake9_any A l c ss id W (ht.mono (Nat.le_refl _) hW) hi hm)
  have HD := Lib.hid hids
  have HDL := Lib.hid hids.1
  have HOw := Lib.hid (own_empty2 w w.heap.size 38 (Nat.le_refl _))
  have HW := Lib.hid (show Below w.heap.size w (w.alloc (.cells #[] 38)) from (Below.refl _ _).alloc (Nat.le_refl _) _)
  have HSLn := Lib.hid (show (symL ss ids).length = n by simp [symL, hids.1])
  clear ht hm hids
  go_enter Tryd.func18, Tryd.ntmps18
  go_wp2_with fail
  go_loopw [5, 11] (fun v t wr => ∃ i : Nat, i ≤ n ∧ t = .int .i64 i ∧ wr.ownsRow w.heap.size 38 2 v i (symCells ((symL ss ids).take i)) ∧ Below w.heap.size w wr) (fun _ t _ => n - (intOf t).toNat)
  case atStart => exact ⟨0, by omega, rfl, HOw.out, HW.out⟩
  case round =>
    obtain ⟨i, hi, rfl, hown, hbel⟩ := hrel
    have HO := Lib.hid hown
    have HB := Lib.hid hbel
    clear hown hbel HOw HW
    by_cases hlt : i < n
    · have hlt' : (i : Int) < (n : Int) := by omega
      obtain ⟨b, off, rfl, hb, hc⟩ := HD.out.2.2 (by omega)
      have cu := (HB.out.cell (p := ⟨b, off + i, none⟩) hb).trans (hc i hlt)
      have HX := Lib.hid (HD.out.2.1 i)
      have HTK := Lib.hid (show (symL ss ids).take (i + 1) = (symL ss ids).take i ++ [(ids.getD i 0, symS ss (ids.getD i 0))] by
        rw [take_one (symL ss ids) i (0, ByteArray.empty) (by rw [HSLn.out]; exact hlt), symL_at ss ids i (by rw [HDL.out]; exact hlt)])
      clear hc
      generalize ids.getD i 0 = id at *
      go_wp2_with fail
      refine (HMk.out id HX.out _ HB.out).mono ?_
      rintro e x1 ⟨rfl, hb2⟩
      generalize symS ss id = sy at *
      have XO := Lib.hid ((own_keep HO.out hb2).alloc (.cells #[.int .u64 (id : Nat), .string sy] 38))
      have XB1 := Lib.hid (chain HB.out hb2)
      have XB := Lib.hid (XB1.out.alloc XB1.out.size (.cells #[.int .u64 (id : Nat), .string sy] 38))
      have N2 := Lib.hid (fun k hk => (XO.out.lt k hk).1)
      have HNW := Lib.hid (World.news_of_block (Box.new x1 38 #[.int .u64 (id : Nat), .string sy]))
      have hi' := HI.out
      have hz0' := HZ0.out
      have hz1' := HZ1.out
      have hz2' := HZ2.out
      clear hb2 cu
      go_wp2_with (at_builtin; refine wpList_append_own _ rfl _ _ 41 rfl w.heap.size 38 i0 (.agg #[.int .u64 0, .string ⟨#[]⟩]) 2 24 Tryd.underlying41 hi' hz0' hz1' hz2' rfl (by decide) _ _ _ rfl XO.out ⟨x1.heap.size, 0, none⟩ 1 1 [.int .u64 (id : Nat), .string sy] rfl rfl HNW.out (by simp [Value.oneCell']) (by simp [maxLen]; omega) (by omega) XB.out.size ?_; intro v' w1 hown' hgrow _; have HC := Lib.hid (XB.out.grown hgrow XB.out.size N2.out); have HO2 := Lib.hid hown'; clear hown' hgrow)
      go_roundw
      case rel =>
        refine ⟨i + 1, by omega, by go_num, ?_, HC.out⟩
        rw [HTK.out, symCells_snoc]
        exact HO2.out
      case measure => simp [intOf] <;> omega
    · obtain rfl : n = i := by omega
      have hlt' : ¬ (n : Int) < (n : Int) := by omega
      have HTK := Lib.hid (show (symL ss ids).take n = symL ss ids from List.take_of_length_le (by rw [HSLn.out]; omega))
      rw [HTK.out] at HO
      obtain ⟨A', c', rfl, hsy⟩ := own_syms HO.out HSLn.out
      go_wp2
      go_ret
      exact ⟨A', c', by rw [HSLn.out]; rfl, by rw [HSLn.out]; exact hsy, HB.out⟩
set_option maxHeartbeats 1000000 in
theorem refSame9_same (A B : Option Addr) (l c d : Nat) (ls : List SymN) (w : World) (hu : SymsAt w A l ls) (hv : SymsAt w B l ls) (hl : l ≤ 1000000) :
    Calls Tryd.prog 17 #[.slice A l c, .slice B l d] w fun e w' => e = .returned (.bool true) ∧ Below w.heap.size w w' := by
  have HU := Lib.hid hu
  have HV := Lib.hid hv
  clear hu hv
  have t2 : ((l : Int) != (l : Int)) = false := by simp
  go_enter Tryd.func17, Tryd.ntmps17
  go_wp2_with fail
  clear t2
  go_loopw [13] (fun i wr => ∃ j : Nat, j ≤ l ∧ i = .int .i64 j ∧ Below w.heap.size w wr) (fun i _ => l - (intOf i).toNat)
  case atStart => exact ⟨0, by omega, rfl, Below.refl _ _⟩
  case round =>
    obtain ⟨j, hj, rfl, hbel⟩ := hrel
    have HB := Lib.hid hbel
    clear hbel
    by_cases hlt : j < l
    · obtain ⟨p, o, rfl, lt1, hc1⟩ := HU.out.2 (by omega)
      obtain ⟨p2, o2, rfl, lt2, hc2⟩ := HV.out.2 (by omega)
      have cu := (HB.out.cell (p := ⟨p, o + j * 2, none⟩) lt1).trans (hc1 j hlt).1
      have cu1 := (HB.out.cell (p := ⟨p, o + j * 2 + 1, none⟩) lt1).trans (hc1 j hlt).2
      have cv := (HB.out.cell (p := ⟨p2, o2 + j * 2, none⟩) lt2).trans (hc2 j hlt).1
      have cv1 := (HB.out.cell (p := ⟨p2, o2 + j * 2 + 1, none⟩) lt2).trans (hc2 j hlt).2
      generalize ls.getD j (0, ByteArray.empty) = s at *
      clear hc1 hc2
      have hlt' : (j : Int) < (l : Int) := by omega
      have hj0 : (0 : Int) ≤ (j : Int) := by omega
      go_wp2
      go_quiet (fail)
      go_wp2_with fail
      go_roundw
      case rel => exact ⟨j + 1, by omega, by go_num, bdN HB.out _⟩
      case measure => simp [intOf]; omega
    · obtain rfl : j = l := by omega
      go_wp2
      go_ret
      exact ⟨rfl, HB.out⟩
theorem alive_sym : mayS [⟨#[97, 98]⟩] = true ∧ symS [⟨#[97, 98]⟩] 7 = ⟨#[97, 98]⟩ := by
  have hR := nbMany_range 1 7 (by omega) (by omega)
  have hM : nbMany 1 7 = 1 := by omega
  have hL : nbL 1 7 = [0] := by
    have h1 := nb_len 1 7 (by omega) (by omega)
    rw [hM] at h1
    have h2 := nb_there 1 7
    match hz : nbL 1 7, h1 with
    | [x], _ =>
      simp [nbZ, hz, castZ, there] at h2
      simp; omega
  have hRow : nbRow 1 7 = [1] := by
    unfold nbRow nbZ
    rw [hL]
    decide
  refine ⟨by decide +kernel, ?_⟩
  show pickS (([⟨#[97, 98]⟩] : List ByteArray).getD 0 ByteArray.empty).size [⟨#[97, 98]⟩] 1 (nbRow 1 7) = _
  rw [hRow]
  decide +kernel
theorem alive9_any (w : World) (hT : TabAt w 1) : Calls Tryd.prog 11 #[] w fun e w' => e = .returned (.bool true) ∧ Below w.heap.size w w' := by
  have hW : Below w.heap.size w (w.alloc (.cells #[.string ⟨#[97, 98]⟩] 9)) := (Below.refl _ _).alloc (Nat.le_refl _) _
  have HM := Lib.hid (encMake_yes (some ⟨w.heap.size, 0, none⟩) 1 1 [⟨#[97, 98]⟩] 7 _ (one_texts w 9 ⟨#[97, 98]⟩ (by decide)) (Nat.le_refl _) (by unfold maxLen; omega) (by omega) (hT.below hW) alive_sym.1)
  rw [alive_sym.2] at HM
  have HW := Lib.hid hW
  clear hW hT
  go_enter Tryd.func11, Tryd.ntmps11
  go_wp2_with fail
  refine HM.out.mono ?_
  rintro e x1 ⟨rfl, hb⟩
  have Q := Lib.hid (Box.new x1 38 #[.int .u64 7, .string ⟨#[97, 98]⟩])
  have B1 := Lib.hid (chainN HW.out HW.out.size hb)
  have B := Lib.hid (B1.out.alloc B1.out.size (.cells #[.int .u64 7, .string ⟨#[97, 98]⟩] 38))
  clear hb
  obtain ⟨r0, r1, -, -⟩ := Q.out.two
  go_wp2_with fail
  go_ret
  exact ⟨by simp, B.out⟩
end
section
/- Layer 9: blocks joined: encode.Join, the reference's Join. -/
set_option linter.unusedVariables false
set_option linter.unusedSimpArgs false
open Go.RowKit
set_option maxRecDepth 100000
def catL (ss : List ByteArray) : List UInt8 := (ss.map (·.data.toList)).flatten
def catS (ss : List ByteArray) : ByteArray := ⟨(catL ss).toArray⟩
theorem join_cat (ss : List ByteArray) : Lib.join (ss.map (·.data.toList)) [] = catL ss := by
  cases ss with
  | nil => rfl
  | cons x r => rw [List.map_cons, Lib.join_cons, catL, List.map_cons, List.flatten_cons, Lib.joinTail]; simp; rfl
theorem catS_size (ss : List ByteArray) : (catS ss).size = (catL ss).length := by simp [catS, ByteArray.size]
theorem catL_len {n : Nat} : ∀ (ss : List ByteArray), (∀ j, j < ss.length → (ss.getD j ByteArray.empty).size = n) → (catL ss).length = ss.length * n
  | [], _ => by simp [catL]
  | x :: r, h => by
    have ih := catL_len r (fun j hj => by have := h (j + 1) (by simp; omega); rw [List.getD_cons_succ] at this; exact this)
    have hx : x.size = n := h 0 (by simp)
    have hx' : x.data.toList.length = n := (Array.length_toList).trans hx
    unfold catL at *
    rw [List.map_cons, List.flatten_cons, List.length_append, ih, List.length_cons, Nat.add_mul, hx']; omega
theorem catS_succ (ss : List ByteArray) (i : Nat) (h : i < ss.length) : catS (ss.take (i + 1)) = catS (ss.take i) ++ ss.getD i ByteArray.empty := by
  have e : catL (ss.take (i + 1)) = catL (ss.take i) ++ (ss.getD i ByteArray.empty).data.toList := by
    unfold catL
    rw [List.take_succ_eq_append_getElem h, List.map_append, List.flatten_append]
    simp [List.getD, h]
  apply ByteArray.ext
  simp [catS, e]
theorem catS_take (ss : List ByteArray) (k : Nat) : (catS (ss.take k)).size ≤ (catL ss).length := by
  rw [catS_size]
  have e : catL ss = catL (ss.take k) ++ catL (ss.drop k) := by
    unfold catL
    rw [← List.flatten_append, ← List.map_append, List.take_append_drop]
  rw [e, List.length_append]; omega
theorem sjoin_any (A : Option Addr) (l c : Nat) (ss : List ByteArray) (w : World) (ht : Texts w A l ss) (hl0 : 0 < l) (hlc : l ≤ c) (hl : l ≤ 1000) (hs : (catL ss).length ≤ 100000) :
    Calls Tryd.prog 23 #[.slice A l c, .string ⟨#[]⟩] w fun e w' => e = .returned (.string (catS ss)) ∧ Below w.heap.size w w' := by
  obtain ⟨h1, -, h3⟩ := ht
  obtain ⟨b, off, rfl, hb, hc⟩ := h3 hl0
  have h := Tryd.strings_Join b off c ss ⟨#[]⟩ w (fun j x hx => by
    obtain ⟨hj, rfl⟩ := List.getElem?_eq_some_iff.1 hx
    have := hc j (by omega)
    rw [this]; simp [List.getD, hj]) hb (by omega) (by omega) (by rw [show (⟨#[]⟩ : ByteArray).data.toList = [] from rfl, join_cat]; omega)
  rw [show (⟨#[]⟩ : ByteArray).data.toList = [] from rfl, join_cat, h1] at h
  exact h
theorem encJoin_no (A : Option Addr) (l c : Nat) (ss : List ByteArray) (z : Int) (w : World) (ht : Texts w A l ss) (hlc : l ≤ c) (hcm : c ≤ maxLen) (hm : mayS ss = false) :
    Calls Tryd.prog 8 #[.slice A l c, .int .i64 z] w fun e w' => e = .returned (.tuple #[.string ⟨#[]⟩, .int .i64 1]) ∧ Below w.heap.size w w' := by
  have HM := Lib.hid (encMay_any A l c ss _ ht hlc hcm)
  rw [hm] at HM
  clear ht hm
  go_enter Tryd.func8, Tryd.ntmps8
  go_wp2_with fail
  refine HM.out.mono ?_
  rintro e w1 ⟨rfl, hb⟩
  have HB := Lib.hid hb
  clear hb
  go_wp2_with fail
  go_ret2
  exact ⟨rfl, HB.out⟩
/-- Blocks that may be: how many bytes they are in all. -/
theorem may_bytes {ss : List ByteArray} (h : mayS ss = true) : 1 ≤ ss.length ∧ ss.length ≤ 64 ∧ (ss.getD 0 ByteArray.empty).size ≤ 64 ∧ (catL ss).length = ss.length * (ss.getD 0 ByteArray.empty).size := by
  obtain ⟨h1, h2, h3⟩ := mayS_parts h
  refine ⟨h1, h2, ?_, catL_len ss fun j hj => by have := okS_at h3 j hj; omega⟩
  simp only [okS, Bool.and_eq_true] at h3
  have := (smb_iff _).1 h3.1.1
  omega
theorem encJoin_bad (A : Option Addr) (l c : Nat) (ss : List ByteArray) (z : Int) (w : World) (ht : Texts w A l ss) (hlc : l ≤ c) (hcm : c ≤ maxLen) (hm : mayS ss = true) (hz : z < 0 ∨ ((l * (ss.getD 0 ByteArray.empty).size : Nat) : Int) < z) :
    Calls Tryd.prog 8 #[.slice A l c, .int .i64 z] w fun e w' => e = .returned (.tuple #[.string ⟨#[]⟩, .int .i64 2]) ∧ Below w.heap.size w w' := by
  obtain ⟨h1, h2, h3, -⟩ := may_bytes hm
  have HM := Lib.hid (encMay_any A l c ss _ ht hlc hcm)
  rw [hm] at HM
  have hl := ht.1
  obtain ⟨b, off, rfl, hb, c0⟩ := ht.zero (by omega)
  have hp : l * (ss.getD 0 ByteArray.empty).size ≤ 64 * 64 := Nat.mul_le_mul (by omega) h3
  have hmul : (l : Int) * ((ss.getD 0 ByteArray.empty).size : Int) = ((l * (ss.getD 0 ByteArray.empty).size : Nat) : Int) := by rw [Int.natCast_mul]
  have HC := Lib.hid c0
  have HB0 := Lib.hid hb
  have g0 : 0 < l := by omega
  unfold maxLen at hcm
  clear ht hm hb c0
  generalize l * (ss.getD 0 ByteArray.empty).size = p at *
  generalize ss.getD 0 ByteArray.empty = s at *
  by_cases hn : z < 0
  · have t : decide (z < 0) = true := by simpa using hn
    clear hz
    go_enter Tryd.func8, Tryd.ntmps8
    go_wp2_with fail
    refine HM.out.mono ?_
    rintro e w1 ⟨rfl, hb⟩
    have HB := Lib.hid hb
    clear hb
    go_wp2_with fail
    go_ret2
    exact ⟨rfl, HB.out⟩
  · have t : decide (z < 0) = false := by simpa using hn
    have t2 : decide ((p : Int) < z) = true := by simp; omega
    clear hz
    go_enter Tryd.func8, Tryd.ntmps8
    go_wp2_with fail
    refine HM.out.mono ?_
    rintro e w1 ⟨rfl, hb⟩
    have HB := Lib.hid hb
    have c0 := (HB.out.cell (p := ⟨b, off, none⟩) HB0.out).trans HC.out
    clear hb
    go_wp2_with fail
    go_ret2
    exact ⟨rfl, HB.out⟩
theorem encJoin_yes (A : Option Addr) (l c : Nat) (ss : List ByteArray) (z : Nat) (w : World) (ht : Texts w A l ss) (hlc : l ≤ c) (hcm : c ≤ maxLen) (hm : mayS ss = true) (hz : z ≤ l * (ss.getD 0 ByteArray.empty).size) :
    Calls Tryd.prog 8 #[.slice A l c, .int .i64 (z : Nat)] w fun e w' => e = .returned (.tuple #[.string ((catS ss).extract 0 z), .int .i64 0]) ∧ Below w.heap.size w w' := by
  obtain ⟨h1, h2, h3, h4⟩ := may_bytes hm
  have HM := Lib.hid (encMay_any A l c ss _ ht hlc hcm)
  rw [hm] at HM
  have hl := ht.1
  obtain ⟨b, off, rfl, hb, c0⟩ := ht.zero (by omega)
  have hp : l * (ss.getD 0 ByteArray.empty).size ≤ 64 * 64 := Nat.mul_le_mul (by omega) h3
  have hmul : (l : Int) * ((ss.getD 0 ByteArray.empty).size : Int) = ((l * (ss.getD 0 ByteArray.empty).size : Nat) : Int) := by rw [Int.natCast_mul]
  rw [hl] at h4
  have hx : (catS ss).size = l * (ss.getD 0 ByteArray.empty).size := by rw [catS_size, h4]
  have HJ := Lib.hid (fun w' (hw : Below w.heap.size w w') => sjoin_any (some ⟨b, off, none⟩) l c ss w' (ht.mono (Nat.le_refl _) hw) (by omega) hlc (by omega) (by omega))
  have HC := Lib.hid c0
  have HB0 := Lib.hid hb
  have g0 : 0 < l := by omega
  unfold maxLen at hcm
  clear ht hm hb c0 h4
  generalize l * (ss.getD 0 ByteArray.empty).size = p at *
  generalize ss.getD 0 ByteArray.empty = s at *
  generalize catS ss = x at *
  have t : decide ((z : Int) < 0) = false := by simp
  have t2 : decide ((p : Int) < (z : Int)) = false := by simp; omega
  have hz1 : z ≤ x.size := by omega
  have hz2 : x.size ≤ 4096 := by omega
  go_enter Tryd.func8, Tryd.ntmps8
  go_wp2_with fail
  refine HM.out.mono ?_
  rintro e w1 ⟨rfl, hb⟩
  have HB := Lib.hid hb
  have c0 := (HB.out.cell (p := ⟨b, off, none⟩) HB0.out).trans HC.out
  clear hb
  go_wp2_with fail
  refine (HJ.out _ HB.out).mono ?_
  rintro e w2 ⟨rfl, hb⟩
  have HB := Lib.hid (chain HB.out hb)
  clear hb c0
  go_wp2_with fail
  go_ret2
  exact ⟨by simp, HB.out⟩
theorem refJoin_any (A : Option Addr) (l c : Nat) (ss : List ByteArray) (z : Nat) (w : World) (ht : Texts w A l ss) (hl : l ≤ 1000) (hs : (catL ss).length ≤ 100000) (hz : z ≤ (catL ss).length) :
    Calls Tryd.prog 13 #[.slice A l c, .int .i64 (z : Nat)] w fun e w' => e = .returned (.string ((catS ss).extract 0 z)) ∧ w = w' := by
  have HL := Lib.hid ht.1
  have HT := Lib.hid ht
  have HS2 := Lib.hid hs
  have HX : Hid ((catS ss).size ≤ 100000) := by show _ ≤ _; rw [catS_size]; exact hs
  have HZ : Hid (z ≤ (catS ss).size) := by show _ ≤ _; rw [catS_size]; exact hz
  clear ht hs hz
  go_enter Tryd.func13, Tryd.ntmps13
  go_wp2_with fail
  go_loop [5, 10] (fun v i => ∃ (k : Nat) (u : ByteArray), k ≤ l ∧ i = .int .i64 k ∧ v = .string u ∧ Hid (u = catS (ss.take k))) (fun _ i => l - (intOf i).toNat)
  case atStart => exact ⟨0, _, by omega, rfl, rfl, Lib.hid (by simp [catS, catL])⟩
  case round =>
    obtain ⟨k, u, hk, rfl, rfl, HU⟩ := hrel
    by_cases hlt : k < l
    · obtain ⟨b, off, rfl, hb, hc⟩ := HT.out.2.2 (by omega)
      have c1 := hc k hlt
      have HS := Lib.hid (catS_succ ss k (by rw [HL.out]; exact hlt))
      have hsz := catS_take ss (k + 1)
      rw [HS.out, ByteArray.size_append, ← HU.out] at hsz
      have hsz2 := Nat.le_trans hsz HS2.out
      clear hsz
      clear hc
      generalize ss.getD k ByteArray.empty = s at *
      have hlt' : (k : Int) < (l : Int) := by omega
      have hsz3 : ¬ 9223372036854775807 < u.size + s.size := by omega
      go_wp2
      go_round
      case rel => exact ⟨k + 1, _, by omega, by go_num, rfl, Lib.hid (by rw [HS.out, HU.out])⟩
      case measure => simp [intOf]; omega
    · obtain rfl : k = l := by omega
      have hlt' : ¬ (k : Int) < (k : Int) := by omega
      have e : ss.take k = ss := List.take_of_length_le (by rw [HL.out]; omega)
      obtain rfl : u = catS ss := by rw [HU.out, e]
      clear HU e
      have h1 := HX.out
      have h2 := HZ.out
      go_wp2
      go_ret
      exact ⟨by simp, rfl⟩
end
section
/- Layer 9: a text cut: the iterator of the blocks. -/
set_option linter.unusedVariables false
set_option linter.unusedSimpArgs false
open Go.RowKit Go.Shelf
set_option maxRecDepth 100000
attribute [local go_sem] Oper.semAt_some
def endN (s : ByteArray) (n a : Nat) : Nat := min (a + n) s.size
def zerosN (k : Nat) : ByteArray := ⟨(Lib.repeatL [0] k).toArray⟩
/-- The n bytes from place a on, filled up with bytes 0. -/
def blkN (s : ByteArray) (n a : Nat) : ByteArray := s.extract a (endN s n a) ++ zerosN (n - (endN s n a - a))
def blkL (s : ByteArray) (n k : Nat) : List ByteArray := (List.range k).map fun i => blkN s n (i * n)
def cntN (s : ByteArray) (n : Nat) : Nat := (s.size + n - 1) / n
theorem blkL_succ (s : ByteArray) (n k : Nat) : blkL s n (k + 1) = blkL s n k ++ [blkN s n (k * n)] := by simp [blkL, List.range_succ]
theorem blkL_len (s : ByteArray) (n k : Nat) : (blkL s n k).length = k := by simp [blkL]
theorem cntN_iff (s : ByteArray) (n i : Nat) (hn : 1 ≤ n) : i < cntN s n ↔ i * n < s.size := by
  unfold cntN
  rw [← Nat.succ_le_iff, Nat.le_div_iff_mul_le (by omega), Nat.succ_mul]
  omega
theorem cntN_le (s : ByteArray) (n : Nat) (hn : 1 ≤ n) (h : s.size ≤ 64 * n) : cntN s n ≤ 64 := by
  by_cases h0 : 64 < cntN s n
  · have := (cntN_iff s n 64 hn).1 h0; omega
  · omega
theorem zerosN_size (k : Nat) : (zerosN k).size = k := by
  show ((Lib.repeatL [0] k).toArray).size = k
  rw [List.size_toArray]
  induction k with
  | zero => rfl
  | succ k ih => simp [Lib.repeatL] at ih ⊢; try omega
theorem rep_any (k : Nat) (hk : k ≤ 64) (w : World) : Calls Tryd.prog 32 #[.string ⟨#[0]⟩, .int .i64 (k : Int)] w fun e w' => e = .returned (.string (zerosN k)) ∧ Below w.heap.size w w' :=
  Tryd.strings_Repeat ⟨#[0]⟩ k w (by omega) (by show 1 * k ≤ _; omega)
theorem abides_below {β : Type} {B : Nat} {J : β → World → Prop} (h : AbidesFrom B J) {s : β} {W W' : World} (hs : J s W) (hb : Below W.heap.size W W') : J s W' :=
  h s W W' none hs ⟨hb.os, hb.tape, hb.output, hb.size, fun k hk _ => hb.block k hk⟩ (fun r e => by cases e)
/-- How a round is left. -/
def RndT (S : Nat → Prop) (J Jx : List ByteArray → World → Prop) (ys : List ByteArray) (W : World) (b : Bool) (W' : World) : Prop := (b = true → J ys W' ∧ KpS S W W') ∧ (b = false → Jx ys W')
def RndTE (S : Nat → Prop) (J Jx : List ByteArray → World → Prop) (ys : List ByteArray) (W : World) (e : Ending) (W' : World) : Prop := ∃ b : Bool, e = .returned (.bool b) ∧ RndT S J Jx ys W b W'
theorem rndT_of {S : Nat → Prop} {J Jx : List ByteArray → World → Prop} {ys : List ByteArray} {W : World} (e : Ending) (W' : World) (h : (e = .returned (.bool true) ∧ J ys W' ∧ KpS S W W') ∨ (e = .returned (.bool false) ∧ Jx ys W')) : RndTE S J Jx ys W e W' := by
  rcases h with ⟨rfl, h1, h2⟩ | ⟨rfl, h1⟩
  · exact ⟨true, rfl, fun _ => ⟨h1, h2⟩, (fun h => by cases h)⟩
  · exact ⟨false, rfl, (fun h => by cases h), fun _ => h1⟩
theorem kpS_below {S : Nat → Prop} {W w w' : World} (hS : ∀ b, S b → b < W.heap.size) (h : KpS S W w) (hb : Below w.heap.size w w') : KpS S W w' := fun b hb' => by
  have h1 := h b hb'
  have h2 := hS b hb'
  have h3 : b < w.heap.size := by
    rw [Array.getElem?_eq_getElem h2] at h1
    exact (Array.getElem?_eq_some_iff.1 h1).1
  rw [hb.block b h3, h1]
set_option maxHeartbeats 4000000 in
theorem blocks1_in (n' : Nat) (hn' : 1 ≤ n') (l B1 B2 n : Nat) (s : ByteArray) (hn : 1 ≤ n) (hn64 : n ≤ 64) (hs : s.size ≤ 5000) (S : Nat → Prop) (hS1 : S B1) (hS2 : S B2) (J Jx : List ByteArray → World → Prop) (m₀ : Nat) (hJ : AbidesFrom m₀ J)
    (hY : ∀ (pre : List ByteArray) (x : ByteArray) (W : World), J pre W → pre.length < cntN s n → YieldAt Fence.wide (n' - 1) Tryd.prog l #[.string x] W fun e W' =>
      (e = .returned (.bool true) ∧ J (pre ++ [x]) W' ∧ KpS S W W') ∨ (e = .returned (.bool false) ∧ Jx (pre ++ [x]) W'))
    (W : World) (hSlt : ∀ b, S b → b < W.heap.size) (h1 : W.cell? ⟨B1, 0, none⟩ = some (.string s)) (h2 : W.cell? ⟨B2, 0, none⟩ = some (.int .i64 (n : Int))) (h0 : J [] W) :
    CallsIn Fence.wide n' Tryd.prog 31 #[.func (.yield l) #[] #[], .pointer (some ⟨B1, 0, none⟩), .pointer (some ⟨B2, 0, none⟩)] W fun e W' => (∃ v, e = .returned v) ∧
      ((∃ ys, ys = blkL s n (cntN s n) ∧ J ys W') ∨ (∃ pre, True ∧ Jx pre W')) := by
  refine callsIn_of_wp Tryd.func31 rfl trivial ?_ rfl
  simp only [Tryd.ntmps31, List.size_toArray, List.length_cons, List.length_nil, Nat.reduceAdd, Nat.reduceSub, Array.replicate_succ, Array.replicate_zero, List.push_toArray, List.append_toArray, List.nil_append, List.cons_append]
  have HY := Lib.hid hY
  have HJ := Lib.hid hJ
  have H1 := Lib.hid h1
  have H2 := Lib.hid h2
  have HSL := Lib.hid hSlt
  clear hY h1 h2 hSlt
  gi_wp2
  gi_loopw [4] (fun v wr => ∃ i a : Nat, i ≤ cntN s n ∧ Hid (a = i * n) ∧ a ≤ s.size + n ∧ v = .int .i64 (a : Int) ∧ J (blkL s n i) wr ∧ Hid (KpS S W wr)) (fun v _ => s.size + n - (intOf v).toNat)
  case atStart => exact ⟨0, 0, Nat.zero_le _, Lib.hid (by omega), by omega, rfl, h0, Lib.hid (KpS.refl _ _)⟩
  case round =>
    obtain ⟨i, a, hi, HA, ha, rfl, hJs, HK⟩ := hrel
    have c1 := (World.cell?_of_block (a := ⟨B1, 0, none⟩) (HK.out B1 hS1)).trans H1.out
    have c2 := (World.cell?_of_block (a := ⟨B2, 0, none⟩) (HK.out B2 hS2)).trans H2.out
    have hif := cntN_iff s n i hn
    rw [← HA.out] at hif
    by_cases hlt : a < s.size
    · have hlt' : (a : Int) < (s.size : Int) := by omega
      obtain ⟨m, em⟩ : ∃ m, m = endN s n a := ⟨_, rfl⟩
      have hm1 : m ≤ s.size := by rw [em]; unfold endN; omega
      have hm2 : a ≤ m := by rw [em]; unfold endN; omega
      have hm3 : m ≤ a + n := by rw [em]; unfold endN; omega
      have mm : min ((a : Int) + (n : Int)) (s.size : Int) = (m : Int) := by rw [em]; unfold endN; omega
      obtain ⟨k, ek⟩ : ∃ k, k = n - (m - a) := ⟨_, rfl⟩
      have hk : k ≤ 64 := by omega
      have hsub : (n : Int) - ((m - a : Nat) : Int) = (k : Int) := by omega
      have HR := Lib.hid (rep_any k hk)
      have hz := zerosN_size k
      have HB := Lib.hid (show blkN s n a = s.extract a m ++ zerosN k by unfold blkN; rw [← em, ← ek])
      have HSc := Lib.hid (show blkL s n (i + 1) = blkL s n i ++ [blkN s n a] by rw [blkL_succ, ← HA.out])
      have HYe := Lib.hid (fun W hW => HY.out (blkL s n i) (blkN s n a) W hW (by rw [blkL_len]; exact hif.2 hlt))
      have hi' := Lib.hid (hif.2 hlt)
      rw [HB.out] at HYe HSc
      clear em ek hif
      gi_wp2
      refine ⟨trivial, (callsIn_wide.2 (HR.out _)).mono ?_⟩
      rintro e w1 ⟨rfl, hb⟩
      have hJ1 := abides_below HJ.out hJs hb
      have HK1 := Lib.hid (kpS_below HSL.out HK.out hb)
      obtain ⟨fn, tmps, assign, body, hy, hR⟩ := HYe.out _ hJ1
      have hR' := Lib.hid (hR.mono rndT_of)
      clear hR hb c1 c2
      gi_wp2
      refine RoundIn.mono hR'.out ?_
      rintro e W3 ⟨bv, rfl, hP⟩
      cases bv
      · gi_wp2
        refine bodyPost_ret (results_none rfl _ _ _) rfl ?_
        exact ⟨⟨_, rfl⟩, .inr ⟨_, trivial, hP.2 rfl⟩⟩
      · have HK3 := Lib.hid (HK1.out.trans (hP.1 rfl).2)
        have c4 := (World.cell?_of_block (a := ⟨B2, 0, none⟩) (HK3.out B2 hS2)).trans H2.out
        gi_wp2
        go_roundw
        case rel => exact ⟨i + 1, a + n, hi'.out, Lib.hid (by rw [HA.out, Nat.succ_mul]), by omega, by go_num, by rw [HSc.out]; exact (hP.1 rfl).1, HK3⟩
        case measure => simp [intOf]; omega
    · have hlt' : ¬ (a : Int) < (s.size : Int) := by omega
      obtain rfl : i = cntN s n := by have := mt hif.1 hlt; omega
      gi_wp2
      go_end0
      first
        | exact ⟨⟨_, rfl⟩, .inl hJs⟩
        | exact .inl hJs
        | exact ⟨⟨_, rfl⟩, .inl ⟨_, rfl, hJs⟩⟩
end
section
/- Layer 9: encode.Cut. -/
set_option linter.unusedVariables false
set_option linter.unusedSimpArgs false
open Go.RowKit Go.Shelf
set_option maxRecDepth 100000
attribute [local go_sem] Oper.semAt_some
/-- The iterator, over boxes of the text and the size. -/
def BlocksOut (s : ByteArray) (n : Nat) (w : World) (e : Ending) (w' : World) : Prop :=
  ∃ B1 B2, e = .returned (.func (.func 31) #[] #[.pointer (some ⟨B1, 0, none⟩), .pointer (some ⟨B2, 0, none⟩)]) ∧ Box w' B1 9 #[.string s] ∧ Box w' B2 3 #[.int .i64 (n : Int)] ∧ w.heap.size ≤ B1 ∧ w.heap.size ≤ B2 ∧ Below w.heap.size w w'
theorem blocksIt_any (s : ByteArray) (n : Nat) (w : World) : Calls Tryd.prog 21 #[.string s, .int .i64 (n : Int)] w (BlocksOut s n w) := by
  go_enter Tryd.func21, Tryd.ntmps21
  go_wp2
  go_ret
  exact ⟨_, _, rfl, (Box.new w 9 #[.string s]).alloc _, by simpa using Box.new (w.alloc (.cells #[.string s] 9)) 3 #[.int .i64 (n : Int)], Nat.le_refl _, by simp, ((Below.refl _ _).alloc (Nat.le_refl _) _).alloc (by simp) _⟩
theorem blocks_stops (n' : Nat) (hn' : 1 ≤ n') (B1 B2 n : Nat) (s : ByteArray) (hn : 1 ≤ n) (hn64 : n ≤ 64) (hs : s.size ≤ 5000) (S : Nat → Prop) (hS1 : S B1) (hS2 : S B2) (w : World) (hSlt : ∀ b, S b → b < w.heap.size)
    (h1 : Box w B1 9 #[.string s]) (h2 : Box w B2 3 #[.int .i64 (n : Int)]) :
    SeqStopsK Fence.wide n' Tryd.prog 31 #[.pointer (some ⟨B1, 0, none⟩), .pointer (some ⟨B2, 0, none⟩)] (fun x : ByteArray => #[Value.string x]) (KpS S) (fun ys => ys = blkL s n (cntN s n)) (fun _ => True) (cntN s n) w := fun l J Jx W hw hJ _ hY h0 =>
  blocks1_in n' hn' l B1 B2 n s hn hn64 hs S hS1 hS2 J Jx W.heap.size hJ (fun pre x W hj hlt => hY pre x W hj hlt) W (fun b hb => Nat.lt_of_lt_of_le (hSlt b hb) hw.size) ((h1.keep hw).cell 0) ((h2.keep hw).cell 0) h0
/-- The blocks, and no error, are returned. -/
def CutOut (ys : List ByteArray) (w : World) (e : Ending) (w' : World) : Prop := ∃ v, e = .returned (.tuple #[v, .int .i64 0]) ∧ w'.ownsRow w.heap.size 9 1 v ys.length (ys.map Value.string) ∧ Below w.heap.size w w'
set_option maxHeartbeats 2000000 in
theorem cut_in (s : ByteArray) (n : Nat) (w : World) (hn : 1 ≤ n) (hn64 : n ≤ 64) (h1 : 1 ≤ s.size) (hs : s.size ≤ 64 * n) : CallsIn Fence.wide 5 Tryd.prog 7 #[.string s, .int .i64 (n : Int)] w (CutOut (blkL s n (cntN s n)) w) := by
  obtain ⟨i0, hi, hz0, hz1, hz2⟩ := info_parts string_info
  have hs5 : s.size ≤ 5000 := by omega
  have hb0 : Below w.heap.size w (w.alloc (.cells #[.slice none 0 0] 22)) := (Below.refl _ _).alloc (Nat.le_refl _) _
  have hcnt := cntN_le s n hn hs
  have hne : ¬ s.toList = [] := fun h => by
    rw [ByteArray.toList_eq] at h
    have e : s.data.toList.length = s.size := Array.length_toList
    rw [h] at e; simp at e; omega
  have hne2 : s.toList.isEmpty = false := by simpa using hne
  have g1 : (1 : Int) ≤ n := by omega
  have t1 : decide ((n : Int) < 1) = false := by simp; omega
  have t2 : decide (64 < (n : Int)) = false := by simp; omega
  have t3 : decide ((n : Int) * 64 < (s.size : Int)) = false := by simp; omega
  have g2 : (n : Int) ≤ 64 := by omega
  have g3 : (s.size : Int) ≤ (n : Int) * 64 := by omega
  refine callsIn_of_wp_marks Tryd.func7 rfl trivial ?_ rfl
  simp only [Tryd.ntmps7, List.size_toArray, List.length_cons, List.length_nil, Nat.reduceAdd, Nat.reduceSub, Array.replicate_succ, Array.replicate_zero, List.push_toArray, List.append_toArray, List.nil_append, List.cons_append]
  gi_wp2
  refine ⟨trivial, (callsIn_wide.2 (blocksIt_any s n _)).mono ?_⟩
  rintro e w1 ⟨B1, B2, rfl, b1, b2, hg1, hg2, hb⟩
  have bO : Boxed w1 w.heap.size 22 (.slice none 0 0) := (Box.new w 22 #[.slice none 0 0]).keep hb
  have hB0 : Below w.heap.size w w1 := hb0.trans (hb.mono (by simp))
  have lO := bO.lt
  have l1 := b1.lt
  have l2 := b2.lt
  simp only [World.size_alloc] at hg1 hg2
  clear hb hb0
  gi_wp2
  clear t1 t2 t3 g1 g2 g3 hne hne2
  have hS : ∀ b, (b < w1.heap.size ∧ b ≠ w.heap.size) → b < w1.heap.size ∧ b ≠ w.heap.size := fun b h => h
  refine wpIn_rangeFunc_ownG rfl (by omega) (gf := 31) (lb := #[.pointer (some ⟨B1, 0, none⟩), .pointer (some ⟨B2, 0, none⟩)]) rfl trivial (enters_of Tryd.func31 (by kernel_rfl) rfl)
    (blocks_stops (5 - 1) (by omega) B1 B2 n s hn hn64 hs5 (fun b => b < w1.heap.size ∧ b ≠ w.heap.size) ⟨l1, by omega⟩ ⟨l2, by omega⟩ w1 (fun b h => h.1) b1 b2) KpS.trans (kpS_put (fun b h => h.1)) (Below.refl _ _) (fun _ => rfl)
    (fun pre W => (∃ v, Boxed W w.heap.size 22 v ∧ W.ownsRow w1.heap.size 9 1 v pre.length (pre.map Value.string) ∧ True) ∧ Below w.heap.size w W ∧ w1.heap.size ≤ W.heap.size)
    (fun _ _ _ => False)
    (OwnFrom.and (Own.from (holdsRow_own w1.heap.size w.heap.size 22 9 1 (fun pre : List ByteArray => pre.length) (fun pre : List ByteArray => pre.map Value.string) (fun _ _ => True)) _) (OwnFrom.and (ownFrom_below (Nat.le_refl _) (by omega)) (fun _ _ _ _ hs hg _ => Nat.le_trans hs hg.size)))
    (fun _ _ _ _ _ hs _ _ => hs)
    ⟨⟨_, bO, World.ownsRow_nil _ _ _ _, trivial⟩, hB0, Nat.le_refl _⟩
    ?a1 ?assign ?body ?done ?stop
  case assign =>
    intro l x W K hK
    gi_wp2
    exact hK
  case body =>
    rintro l pre x W ⟨⟨v, hv, hrow, _⟩, hB, hsz⟩ hlt
    have hc := hv.cell
    have hlo : w.heap.size < w1.heap.size := lO
    gi_wp2_with (gi_at_builtin; refine wpListIn_append_own _ rfl _ _ 22 rfl w1.heap.size 9 i0 (.string ⟨#[]⟩) 1 16 Tryd.underlying22 hi hz0 hz1 hz2 rfl (by decide) _ _ _ rfl (hrow.alloc _) ⟨W.heap.size, 0, none⟩ 1 1 [.string x] rfl rfl (cell_one_new _ _ _) (by simp [Value.oneCell']) (by simp [maxLen]; omega) (by omega) (by simp; omega) ?_; intro v' w2 hown' hgrow _; obtain ⟨g', cap', rfl⟩ := ownsRow_succ hown'; obtain ⟨hv1, hv2, hr2, hk2, hb2⟩ := hv.appended (by decide) (ownP_low hrow (by omega)) hB.size (by omega) (ownP_low hown' (by omega)) hgrow; have hr3 := hown'.kept (grownBy_setCell' w2 w.heap.size (.slice (some ⟨g', 0, none⟩) (pre.length + 1) cap')) (.inr (hv1.not_row (by decide) hown').symm); have hkp := keepS (B := w.heap.size) (v' := .slice (some ⟨g', 0, none⟩) (pre.length + 1) cap') hrow hgrow hsz hS; have hc1 := hv1.cell; have hf1 := hv1.frozen)
    exact ⟨hk2.from _, hkp, ⟨_, hv2, by simpa using hr3, trivial⟩, hB.trans hb2, Nat.le_trans hsz hk2.size⟩
  case done =>
    rintro D ys W hD rfl ⟨⟨v, hv, hrow, _⟩, hB, hsz⟩ hK
    have hc := hv.cell
    gi_wp2
    refine ⟨by simp, .inl ⟨_, _, rfl, run_takeDeferred hK, ?_⟩⟩
    exact ⟨_, results_tmp2 rfl _ _ _, v, rfl, ownP_low (ownsRow_putObj hrow _ hK rfl) (by omega), hB.trans (belowK_b (w := w) (Nat.le_refl _) W D _ _ (by omega) hK rfl rfl)⟩
  case stop =>
    rintro D c pre W _ _ h _
    exact h.elim
end
section
/- Layer 9: encode.Cut's two ends; the reference's Cut. -/
set_option linter.unusedVariables false
set_option linter.unusedSimpArgs false
open Go.RowKit
set_option maxRecDepth 100000
/-- Byte t of a text that goes on with bytes 0. -/
def byteZ (s : ByteArray) (t : Nat) : UInt8 := if t < s.size then s.data.toList.getD t 0 else 0
theorem repeatL_zero (k : Nat) : Lib.repeatL [0] k = List.replicate k 0 := by
  induction k with
  | zero => rfl
  | succ k ih => rw [Lib.repeatL, ih]; rfl
theorem blkN_list (s : ByteArray) (n a : Nat) (ha : a ≤ s.size) : (blkN s n a).data.toList = (List.range n).map fun q => byteZ s (a + q) := by
  have e : (blkN s n a).data.toList = (s.extract a (endN s n a)).data.toList ++ (zerosN (n - (endN s n a - a))).data.toList := by
    unfold blkN; simp
  have e2 : (s.extract a (endN s n a)).data.toList = (s.data.toList.drop a).take (endN s n a - a) := by
    rw [← ByteArray.toList_eq]; exact Lib.extract_toList s a (endN s n a)
  have e3 : (zerosN (n - (endN s n a - a))).data.toList = List.replicate (n - (endN s n a - a)) 0 := by
    unfold zerosN; rw [repeatL_zero]
  have hsz : s.data.toList.length = s.size := Array.length_toList
  rw [e, e2, e3]
  unfold endN
  apply List.ext_getElem
  · simp; omega
  · intro i h1 h2
    have hi : i < n := by simpa using h2
    rw [List.getElem_map, List.getElem_range, byteZ]
    by_cases h : a + i < s.size
    · rw [if_pos h, List.getElem_append_left (by simp; omega)]
      simp [List.getD, h]
    · rw [if_neg h, List.getElem_append_right (by simp; omega)]
      simp
theorem blkN_size (s : ByteArray) (n a : Nat) (ha : a ≤ s.size) : (blkN s n a).size = n := by
  have h := congrArg List.length (blkN_list s n a ha)
  rw [Array.length_toList] at h
  simpa using h
theorem blkL_at (s : ByteArray) (n k i : Nat) (h : i < k) : (blkL s n k).getD i ByteArray.empty = blkN s n (i * n) := by simp [blkL, List.getD, h]
theorem blkL_size (s : ByteArray) (n i : Nat) (hn : 1 ≤ n) (h : i < cntN s n) : ((blkL s n (cntN s n)).getD i ByteArray.empty).size = n := by
  rw [blkL_at s n _ i h]
  exact blkN_size s n _ (Nat.le_of_lt ((cntN_iff s n i hn).1 h))
theorem blkL_le (s : ByteArray) (n j : Nat) (hn : 1 ≤ n) (hn64 : n ≤ 64) : ((blkL s n (cntN s n)).getD j ByteArray.empty).size ≤ maxLen := by
  by_cases h : j < cntN s n
  · rw [blkL_size s n j hn h]; unfold maxLen; omega
  · have : (blkL s n (cntN s n))[j]? = none := List.getElem?_eq_none (by rw [blkL_len]; omega)
    simp [List.getD, this, maxLen]
/-- Texts of a slice of their own, and an error, are returned. -/
def TextsErr (ss : List ByteArray) (er : Int) (w : World) (e : Ending) (w' : World) : Prop :=
  ∃ A c, e = .returned (.tuple #[.slice A ss.length c, .int .i64 er]) ∧ ss.length ≤ c ∧ c ≤ maxLen ∧ Texts w' A ss.length ss ∧ Below w.heap.size w w'
theorem encCut_yes (s : ByteArray) (n : Nat) (w : World) (hn : 1 ≤ n) (hn64 : n ≤ 64) (h1 : 1 ≤ s.size) (hs : s.size ≤ 64 * n) : Calls Tryd.prog 7 #[.string s, .int .i64 (n : Int)] w (TextsErr (blkL s n (cntN s n)) 0 w) :=
  (callsIn_wide.1 (cut_in s n w hn hn64 h1 hs)).mono fun e w' ⟨v, he, ho, hb⟩ => by
    obtain ⟨A, c, rfl, q1, q2, q3⟩ := own_texts ho (fun j => blkL_le s n j hn hn64)
    exact ⟨A, c, he, q1, q2, q3, hb⟩
theorem encCut_lo (s : ByteArray) (n : Int) (w : World) (h : n < 1) : Calls Tryd.prog 7 #[.string s, .int .i64 n] w (TextsErr [] 2 w) := by
  have t1 : decide (n < 1) = true := by simpa using h
  go_enter Tryd.func7, Tryd.ntmps7
  go_wp2
  go_ret2
  exact ⟨none, 0, rfl, Nat.le_refl _, Nat.zero_le _, Texts.nil _ _, Below.refl _ _⟩
theorem encCut_hi (s : ByteArray) (n : Int) (w : World) (h : 64 < n) : Calls Tryd.prog 7 #[.string s, .int .i64 n] w (TextsErr [] 2 w) := by
  have t1 : decide (n < 1) = false := by simp; omega
  have t2 : decide (64 < n) = true := by simp; omega
  go_enter Tryd.func7, Tryd.ntmps7
  go_wp2
  go_ret2
  exact ⟨none, 0, rfl, Nat.le_refl _, Nat.zero_le _, Texts.nil _ _, Below.refl _ _⟩
theorem encCut_empty (s : ByteArray) (n : Int) (w : World) (hn : 1 ≤ n) (hn64 : n ≤ 64) (h : s.size = 0) : Calls Tryd.prog 7 #[.string s, .int .i64 n] w (TextsErr [] 2 w) := by
  have t1 : decide (n < 1) = false := by simp; omega
  have t2 : decide (64 < n) = false := by simp; omega
  have hne : s.toList = [] := by
    rw [ByteArray.toList_eq]
    exact List.length_eq_zero_iff.1 (Array.length_toList.trans h)
  have hne2 : s.toList.isEmpty = true := by rw [hne]; rfl
  clear h
  go_enter Tryd.func7, Tryd.ntmps7
  go_wp2
  go_ret2
  exact ⟨none, 0, rfl, Nat.le_refl _, Nat.zero_le _, Texts.nil _ _, Below.refl _ _⟩
theorem encCut_long (s : ByteArray) (n : Nat) (w : World) (hn : 1 ≤ n) (hn64 : n ≤ 64) (hs : 64 * n < s.size) : Calls Tryd.prog 7 #[.string s, .int .i64 (n : Int)] w (TextsErr [] 2 w) := by
  have t1 : decide ((n : Int) < 1) = false := by simp; omega
  have t2 : decide (64 < (n : Int)) = false := by simp; omega
  have t3 : decide ((n : Int) * 64 < (s.size : Int)) = true := by simp; omega
  have hne : ¬ s.toList = [] := fun h => by
    rw [ByteArray.toList_eq] at h
    have e : s.data.toList.length = s.size := Array.length_toList
    rw [h] at e; simp at e; omega
  have hne2 : s.toList.isEmpty = false := by simpa using hne
  have g1 : (1 : Int) ≤ n := by omega
  have g2 : (n : Int) ≤ 64 := by omega
  go_enter Tryd.func7, Tryd.ntmps7
  go_wp2
  go_ret2
  exact ⟨none, 0, rfl, Nat.le_refl _, Nat.zero_le _, Texts.nil _ _, Below.refl _ _⟩
/-- May such a text be cut so? -/
def mayCut (s : ByteArray) (n : Int) : Bool := decide (1 ≤ n) && decide (n ≤ 64) && decide (1 ≤ s.size) && decide ((s.size : Int) ≤ 64 * n)
theorem encCut_no (s : ByteArray) (n : Int) (w : World) (h : mayCut s n = false) : Calls Tryd.prog 7 #[.string s, .int .i64 n] w (TextsErr [] 2 w) := by
  by_cases h1 : n < 1
  · exact encCut_lo s n w h1
  · by_cases h2 : 64 < n
    · exact encCut_hi s n w h2
    · by_cases h3 : s.size = 0
      · exact encCut_empty s n w (by omega) (by omega) h3
      · obtain ⟨k, rfl⟩ := Int.eq_ofNat_of_zero_le (show 0 ≤ n by omega)
        refine encCut_long s k w (by omega) (by omega) ?_
        by_cases h4 : 64 * k < s.size
        · exact h4
        · have : mayCut s k = true := by simp [mayCut]; omega
          rw [this] at h; cases h
theorem encCut_ok (s : ByteArray) (n : Int) (h : mayCut s n = true) : ∃ k : Nat, n = k ∧ 1 ≤ k ∧ k ≤ 64 ∧ 1 ≤ s.size ∧ s.size ≤ 64 * k := by
  simp only [mayCut, Bool.and_eq_true, decide_eq_true_eq] at h
  obtain ⟨k, rfl⟩ := Int.eq_ofNat_of_zero_le (show 0 ≤ n by omega)
  exact ⟨k, rfl, by omega, by omega, by omega, by omega⟩
end
end Go.Proofs.YtepgjimkhodcfaaDoor
