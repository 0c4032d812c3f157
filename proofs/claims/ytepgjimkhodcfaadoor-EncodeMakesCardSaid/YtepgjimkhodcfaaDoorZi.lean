/- Parts: Enc2, EnX, Open, OpenT, OpenV. -/
import Derived.Test.YtepgjimkhodcfaaDoorZh
import Derived.Lib.SmallJoins
import Derived.OpenShut
import Derived.ProofKit
import Derived.SliceStrings
import Derived.Test.YtepgjimkhodcfaaDoorRows
namespace Go.Proofs.YtepgjimkhodcfaaDoor
section
/- Layer 9's reference: Right, Make, Many, Same; law 09's blocks, alive. -/
set_option linter.unusedVariables false
set_option linter.unusedSimpArgs false
open Go.RowKit
set_option maxRecDepth 100000
def cutC (s : ByteArray) : ByteArray := s.extract 0 (min s.size 66)
theorem cutC_size (s : ByteArray) : (cutC s).size ≤ 66 := by simp [cutC, ByteArray.size_extract]; omega
def cutsC (ss : List ByteArray) (k : Nat) : List ByteArray := (ss.take k).map cutC
theorem cutsC_succ (ss : List ByteArray) (k : Nat) (h : k < ss.length) : cutsC ss (k + 1) = cutsC ss k ++ [cutC (ss.getD k ByteArray.empty)] := by
  unfold cutsC
  rw [List.take_succ_eq_append_getElem h, List.map_append]
  simp [List.getD, h]
theorem cutsC_le (ss : List ByteArray) (k j : Nat) : ((cutsC ss k).getD j ByteArray.empty).size ≤ maxLen := by
  unfold cutsC
  simp only [List.getD, List.getElem?_map]
  cases (ss.take k)[j]? with
  | none => simp [maxLen]
  | some s => have := cutC_size s; simp [maxLen]; omega
theorem cutsC_all (ss : List ByteArray) (k : Nat) (h : ss.length = k) (h2 : k ≤ 66) : cutsC ss k = cutsC ss 66 := by
  unfold cutsC
  rw [List.take_of_length_le (by omega), List.take_of_length_le (by omega)]
/-- The first 66 texts, 66 bytes each. -/
theorem cutC_min (s : ByteArray) (m : Nat) (hm : (m : Int) = min (s.size : Int) 66) : s.extract 0 m = cutC s := by
  unfold cutC
  congr 1
  omega
set_option maxHeartbeats 2000000 in
theorem blocks9_some (ad : Addr) (l c kk : Nat) (ss : List ByteArray) (w : World) (ht : Texts w (some ad) l ss) (hk : kk = min l 66) (hlc : l ≤ c) (hcm : c ≤ maxLen) : Calls Tryd.prog 6 #[.slice (some ad) l c] w (TextsOut (cutsC ss kk) w) := by
  obtain ⟨i0, hi, hz0, hz1, hz2⟩ := info_parts string_info
  have hlen := Lib.hid ht.1
  have HT := Lib.hid ht
  clear ht
  have HI := Lib.hid hi
  have HZ0 := Lib.hid hz0
  have HZ1 := Lib.hid hz1
  have HZ2 := Lib.hid hz2
  clear hi hz0 hz1 hz2
  unfold maxLen at hcm
  have hkk1 : kk ≤ l := by omega
  have hkk2 : kk ≤ 66 := by omega
  have hkk3 : kk ≤ c := by omega
  have mkk : min (l : Int) 66 = (kk : Int) := by omega
  clear hk
  go_enter Tryd.func6, Tryd.ntmps6
  go_wp2_with fail
  clear mkk
  go_loopw [3, 12] (fun v t wr => ∃ i : Nat, i ≤ kk ∧ t = .int .i64 i ∧ wr.ownsRow w.heap.size 9 1 v i ((cutsC ss i).map Value.string) ∧ Below w.heap.size w wr)
    (fun _ t _ => kk - (intOf t).toNat)
  case atStart => exact ⟨0, by omega, rfl, ⟨by simp [cutsC], .inl ⟨rfl, rfl⟩⟩, Below.refl _ _⟩
  case round =>
    obtain ⟨i, hi, rfl, hown, hbel⟩ := hrel
    have HO := Lib.hid hown
    have HB := Lib.hid hbel
    clear hown hbel
    by_cases hlt : i < kk
    · have hlt' : (i : Int) < (kk : Int) := by omega
      obtain ⟨b, off, hA, hb, hc⟩ := HT.out.2.2 (by omega)
      obtain rfl := Option.some.inj hA
      have c1 : wr.cell? ⟨b, off + i, none⟩ = some (.string (ss.getD i ByteArray.empty)) := (HB.out.cell (p := ⟨b, off + i, none⟩) hb).trans (hc i (by omega))
      have hm := HT.out.2.1 i
      have HS := Lib.hid (cutsC_succ ss i (by rw [hlen.out]; omega))
      generalize ss.getD i ByteArray.empty = s at *
      unfold maxLen at hm
      obtain ⟨m, em⟩ : ∃ m, m = min s.size 66 := ⟨_, rfl⟩
      have hm1 : m ≤ s.size := by omega
      have hm2 : m ≤ 66 := by omega
      have mm : min (s.size : Int) 66 = (m : Int) := by omega
      have HE := Lib.hid (cutC_min s m mm.symm)
      have hi' := HI.out
      have hz0' := HZ0.out
      have hz1' := HZ1.out
      have hz2' := HZ2.out
      clear hc em
      have XO := Lib.hid (HO.out.alloc (.cells #[.string (s.extract 0 m)] 9))
      have XB := Lib.hid (HB.out.alloc HB.out.size (.cells #[.string (s.extract 0 m)] 9))
      have N2 := Lib.hid (fun k hk => (HO.out.lt k hk).1)
      go_wp2_with (at_builtin; refine wpList_append_own _ rfl _ _ 22 rfl w.heap.size 9 i0 (.string ⟨#[]⟩) 1 16 Tryd.underlying22 hi' hz0' hz1' hz2' rfl (by decide) _ _ _ rfl XO.out ⟨wr.heap.size, 0, none⟩ 1 1 [.string (s.extract 0 m)] rfl rfl (cell_one_new _ _ _) (by simp [Value.oneCell']) (by simp [maxLen]; omega) (by omega) XB.out.size ?_; intro v' w1 hown' hgrow _; have HC := Lib.hid (XB.out.grown hgrow XB.out.size N2.out); have HO2 := Lib.hid hown'; clear hown' hgrow)
      go_roundw
      case rel =>
        refine ⟨i + 1, by omega, by go_num, ?_, HC.out⟩
        rw [HS.out, List.map_append, ← HE.out]
        exact HO2.out
      case measure => simp [intOf] <;> omega
    · obtain rfl : kk = i := by omega
      have hlt' : ¬ (kk : Int) < (kk : Int) := by omega
      have hcl : (cutsC ss kk).length = kk := by simp [cutsC, hlen.out]; omega
      have HCL := Lib.hid hcl
      clear hcl
      obtain ⟨A', c', rfl, q1, q2, q3⟩ := own_texts HO.out (cutsC_le ss _)
      go_wp2
      go_ret
      exact ⟨A', c', by rw [HCL.out]; rfl, by rw [HCL.out]; exact q1, q2, by rw [HCL.out]; exact q3, HB.out⟩
set_option maxHeartbeats 1000000 in
theorem blocks9_none (ss : List ByteArray) (w : World) (ht : Texts w none 0 ss) : Calls Tryd.prog 6 #[.slice none 0 0] w (TextsOut (cutsC ss 0) w) := by
  obtain ⟨i0, hi, hz0, hz1, hz2⟩ := info_parts string_info
  go_enter Tryd.func6, Tryd.ntmps6
  go_wp2_with fail
  go_loopw [3, 12] (fun v t wr => v = .slice none 0 0 ∧ t = .int .i64 0 ∧ Below w.heap.size w wr) (fun _ t _ => 0)
  case atStart => exact ⟨rfl, rfl, Below.refl _ _⟩
  case round =>
    obtain ⟨rfl, rfl, hbel⟩ := hrel
    have HB := Lib.hid hbel
    clear hbel
    go_wp2
    go_ret
    have e : cutsC ss 0 = [] := by simp [cutsC]
    rw [e]
    exact ⟨none, 0, rfl, Nat.le_refl _, Nat.zero_le _, Texts.nil _ _, HB.out⟩
theorem blocks9_any (A : Option Addr) (l c : Nat) (ss : List ByteArray) (w : World) (ht : Texts w A l ss) (hs : SliceOk A l c) : Calls Tryd.prog 6 #[.slice A l c] w (TextsOut (cutsC ss 66) w) := by
  cases A with
  | none =>
    obtain ⟨rfl, rfl⟩ := hs.2.2 rfl
    rw [← cutsC_all ss 0 ht.1 (by omega)]
    exact blocks9_none ss w ht
  | some ad =>
    have := blocks9_some ad l c (min l 66) ss w ht rfl hs.1 hs.2.1
    by_cases h : l ≤ 66
    · rw [Nat.min_eq_left h] at this
      rw [← cutsC_all ss l ht.1 h]; exact this
    · rw [Nat.min_eq_right (by omega)] at this
      exact this

theorem cutsC_len (ss : List ByteArray) : (cutsC ss 66).length ≤ 66 := by simp [cutsC]; omega
set_option maxRecDepth 100000 in
theorem refRight9_any (A : Option Addr) (l c : Nat) (ss : List ByteArray) (w : World) (ht : Texts w A l ss) (hl : l ≤ maxLen) :
    Calls Tryd.prog 12 #[.slice A l c] w fun e w' => e = .returned (.bool (mayS ss)) ∧ w = w' := by
  by_cases h0 : l = 0
  · subst h0
    have e : mayS ss = false := by simp [mayS, ht.1]
    rw [e]
    clear e
    go_enter Tryd.func12, Tryd.ntmps12
    go_wp2
    go_ret
    exact ⟨rfl, rfl⟩
  · obtain ⟨b, off, rfl, hb, c0⟩ := ht.zero (by omega)
    have HS := Lib.hid (why_any ((ss.getD 0 ByteArray.empty).size : Nat) (some ⟨b, off, none⟩) l c ss w ht hl)
    have hm := ht.2.1 0
    have HE := Lib.hid (show mayS ss = okS ((ss.getD 0 ByteArray.empty).size : Nat) ss by
      have : decide (1 ≤ ss.length) = true := by rw [ht.1]; simp; omega
      rw [mayS, this, Bool.true_and])
    unfold maxLen at hm hl
    have g1 : (0 : Int) < l := by omega
    have g2 : (1 : Int) ≤ l := by omega
    have h0' : 0 < l := by omega
    cases ho : okS ((ss.getD 0 ByteArray.empty).size : Nat) ss with
    | false =>
      have HW := Lib.hid (sumE_no ho)
      rw [ho] at HE
      clear ht ho
      generalize ss.getD 0 ByteArray.empty = s at *
      go_enter Tryd.func12, Tryd.ntmps12
      go_wp2_with fail
      refine HS.out.mono ?_
      rw [HW.out]
      rintro e w1 ⟨rfl, rfl⟩
      go_wp2_with fail
      go_ret
      exact ⟨by rw [HE.out]; rfl, rfl⟩
    | true =>
      have HW := Lib.hid (sumE_ok ho)
      rw [ho] at HE
      clear ht ho
      generalize ss.getD 0 ByteArray.empty = s at *
      go_enter Tryd.func12, Tryd.ntmps12
      go_wp2_with fail
      refine HS.out.mono ?_
      rw [HW.out]
      rintro e w1 ⟨rfl, rfl⟩
      go_wp2_with fail
      go_ret
      exact ⟨by rw [HE.out]; rfl, rfl⟩
theorem symS_sum {ss : List ByteArray} (h : mayS ss = true) (id : Nat) : symS ss id = ⟨(bsums ss (bitsL (nbRow ss.length id) ss.length) ss.length (ss.getD 0 ByteArray.empty).size).toArray⟩ := by
  obtain ⟨h1, h2, h3⟩ := mayS_parts h
  have e : ((ss.length : Int) == (ss.length : Int)) = true := by simp
  have h4 := okS_picks h3 (nbRow ss.length id)
  unfold symS pickS
  rw [h3, nb_right ss.length id h1 h2, e, bsums_bits]
  simp only [Bool.and_self, if_true, Int.toNat_natCast, sumS, h4]
/-- A symbol is returned. -/
def SymOne (i : Nat) (s : ByteArray) (w : World) (e : Ending) (w' : World) : Prop := e = .returned (.agg #[.int .u64 (i : Int), .string s]) ∧ Below w.heap.size w w'
theorem nbRow_ltE (k id j : Nat) : (nbRow k id).getD j 0 < 18446744073709551616 := ofBits_lt k _ j
set_option maxRecDepth 100000 in
set_option maxHeartbeats 2000000 in
theorem refMake9_any (A : Option Addr) (l c : Nat) (ss : List ByteArray) (id : Nat) (w : World) (ht : Texts w A l ss) (hi : id < 18446744073709551616) (hm : mayS ss = true) :
    Calls Tryd.prog 16 #[.slice A l c, .int .u64 id] w (SymOne id (symS ss id) w) := by
  obtain ⟨h1, h2, h3⟩ := mayS_parts hm
  have hlen := ht.1
  have hW : Below w.heap.size w (w.alloc (.cells #[.int .u64 0, .string ⟨#[]⟩] 38)) := (Below.refl _ _).alloc (Nat.le_refl _) _
  have Q0 := Lib.hid (Box.new w 38 #[.int .u64 0, .string ⟨#[]⟩])
  obtain ⟨b, off, rfl, hb, c0⟩ := ht.zero (by omega)
  have HTx := Lib.hid ht
  have HW := Lib.hid hW
  have HC := Lib.hid c0
  have HB := Lib.hid hb
  have HRow := Lib.hid (refRow_any l id (by omega) (by omega) hi)
  have HSy := Lib.hid (show symS ss id = ⟨(bsums ss (bitsL (nbRow l id) l) l (ss.getD 0 ByteArray.empty).size).toArray⟩ by rw [symS_sum hm, hlen])
  have hm0 := ht.2.1 0
  have HSz := Lib.hid (fun j (hj : j < l) => okS_at h3 j (by rw [hlen]; exact hj))
  have HRL := Lib.hid (show (nbRow l id).length = nw l by rw [nbRow, ofBits_len])
  have hs64 : (ss.getD 0 ByteArray.empty).size ≤ 64 := by
    have h := h3
    simp only [okS, Bool.and_eq_true] at h
    have := (smb_iff _).1 h.1.1
    omega
  unfold maxLen at hm0
  have g1 : (0 : Int) < l := by omega
  have h0' : 0 < l := by omega
  have hl64 : l ≤ 64 := by omega
  clear ht hW hb h1 h2 h3 hm
  generalize symS ss id = sy at *
  go_enter Tryd.func16, Tryd.ntmps16
  go_wp2_with fail
  refine (HRow.out _).mono ?_
  rintro e w1 ⟨A2, l2, c2, rfl, hw, hb⟩
  have Q := Lib.hid (Q0.out.keep hb)
  have B := Lib.hid (chainN HW.out HW.out.size hb)
  have HWd := Lib.hid hw
  have hl2 : l2 = nw l := by rw [← hw.1, HRL.out]
  have hk : l ≤ 64 * l2 := by rw [hl2]; unfold nw; omega
  have hk2 : l2 ≤ 1000 := by rw [hl2]; unfold nw; omega
  clear hb hw hl2
  go_wp2_with fail
  refine (refBits_any l A2 l2 c2 (nbRow l id) _ hk hk2 HWd.out).mono ?_
  rintro e w2 ⟨A9, c9, rfl, hz, hb⟩
  have Q := Lib.hid (Q.out.keep hb)
  have B := Lib.hid (chainN B.out B.out.size hb)
  have HS := Lib.hid (refSum_any (ss.getD 0 ByteArray.empty).size hs64 (some ⟨b, off, none⟩) A9 l c l c9 ss (bitsL (nbRow l id) l) w2 (HTx.out.mono (Nat.le_refl _) B.out) hz (by omega) (Nat.le_refl _) (by omega) (fun j hj => by have := HSz.out j hj; omega))
  rw [← HSy.out] at HS
  clear hb hz
  have c0 := (B.out.cell (p := ⟨b, off, none⟩) HB.out).trans HC.out
  generalize ss.getD 0 ByteArray.empty = s0 at *
  go_wp2_with fail
  refine HS.out.mono ?_
  rintro e w3 ⟨rfl, hb⟩
  have Q := Lib.hid (Q.out.keep hb)
  have B := Lib.hid (chainN B.out B.out.size hb)
  clear hb c0
  obtain ⟨z0, z1, z2, z3⟩ := Q.out.two
  go_wp2_with fail
  refine close_one Tryd.results16 rfl rfl Q.out.put2 Tryd.underlying38 rfl (by kernel_rfl) ⟨rfl, ?_⟩
  exact (B.out.setCell (p := ⟨w.heap.size, 0, none⟩) (Nat.le_refl _) _).setCell (p := ⟨w.heap.size, 1, none⟩) (Nat.le_refl _) _
theorem add_zeroE (g j : Nat) : (⟨g, 0, none⟩ : Addr).add j = ⟨g, j, none⟩ := by unfold Addr.add; split <;> simp_all
theorem own_syms {w : World} {base n : Nat} {v : Value} {ls : List SymN} (h : w.ownsRow base 38 2 v n (symCells ls)) (hn : ls.length = n) : ∃ A c, v = .slice A n c ∧ SymsAt w A n ls := by
  rcases h.2 with ⟨hv, h0⟩ | ⟨g, cap, cur, hv, hb, hh, hc, -⟩
  · subst h0
    obtain rfl : ls = [] := List.length_eq_zero_iff.1 hn
    exact ⟨none, 0, hv, SymsAt.nil _ _⟩
  · refine ⟨some ⟨g, 0, none⟩, cap, hv, hn, fun hp => ⟨g, 0, rfl, (h.lt g (by rw [hv]; rfl)).2, fun j hj => ?_⟩⟩
    obtain ⟨f1, f2⟩ := symCells_at ls j (by omega)
    have hc := World.ownsRow.cells h (g := g) (by rw [hv]; rfl)
    have c1 := hc _ _ f1
    have c2 := hc _ _ f2
    rw [add_zeroE] at c1 c2
    rw [Nat.zero_add]
    exact ⟨c1, c2⟩
/-- Symbols are returned. -/
def ManyOne (ls : List SymN) (w : World) (e : Ending) (w' : World) : Prop := ∃ A c, e = .returned (.slice A ls.length c) ∧ SymsAt w' A ls.length ls ∧ Below w.heap.size w w'
theorem own_empty2 (W : World) (base e : Nat) (hb : base ≤ W.heap.size) : (W.alloc (.cells #[] e)).ownsRow base e 2 (.slice (some ⟨W.heap.size, 0, none⟩) 0 0) 0 [] :=
  ⟨by simp, .inr ⟨W.heap.size, 0, #[], rfl, hb, heap_alloc_new W _, Nat.le_refl _, Nat.zero_le _, by simp, by simp⟩⟩
set_option maxRecDepth 100000 in
set_option maxHeartbeats 2000000 in
theorem refMany9_any (A : Option Addr) (l c : Nat) (ss : List ByteArray) (B : Option Addr) (n d : Nat) (ids : List Nat) (w : World) (ht : Texts w A l ss) (hm : mayS ss = true) (hn : n ≤ 64) (hids : Words w B n ids) :
    Calls Tryd.prog 18 #[.slice A l c, .slice B n d] w (ManyOne (symL ss ids) w) := by
  obtain ⟨i0, hi, hz0, hz1, hz2⟩ := info_parts sym_info
  have HI := Lib.hid hi
  have HZ0 := Lib.hid hz0
  have HZ1 := Lib.hid hz1
  have HZ2 := Lib.hid hz2
  clear hi hz0 hz1 hz2
  have HMk := Lib.hid (fun (id : Nat) (hi : id < 18446744073709551616) W (hW : Below w.heap.size w W) => refMake9_any A l c ss id W (ht.mono (Nat.le_refl _) hW) hi hm)
  have HD := Lib.hid hids
  have HDL := Lib.hid hids.1
  have HOw := Lib.hid (own_empty2 w w.heap.size 38 (Nat.le_refl _))
  have HW := Lib.hid (show Below w.heap.size w (w.alloc (.cells #[] 38)) from (Below.refl _ _).alloc (Nat.le_refl _) _)
  have HSLn := Lib.hid (show (symL ss ids).length = n by simp [symL, hids.1])
  clear ht hm hids
  go_enter Tryd.func18, Tryd.ntmps18
  go_wp2_with fail
  go_loopw [5, 11] (fun v t wr => ∃ i : Nat, i ≤ n ∧ t = .int .i64 i ∧ wr.ownsRow w.heap.size 38 2 v i (symCells ((symL ss ids).take i)) ∧ Below w.heap.size w wr) (fun _ t _ => n - (intOf t).toNat)
  case atStart => exact ⟨0, by omega, rfl, HOw.out, HW.out⟩
  case round =>
    obtain ⟨i, hi, rfl, hown, hbel⟩ := hrel
    have HO := Lib.hid hown
    have HB := Lib.hid hbel
    clear hown hbel HOw HW
    by_cases hlt : i < n
    · have hlt' : (i : Int) < (n : Int) := by omega
      obtain ⟨b, off, rfl, hb, hc⟩ := HD.out.2.2 (by omega)
      have cu := (HB.out.cell (p := ⟨b, off + i, none⟩) hb).trans (hc i hlt)
      have HX := Lib.hid (HD.out.2.1 i)
      have HTK := Lib.hid (show (symL ss ids).take (i + 1) = (symL ss ids).take i ++ [(ids.getD i 0, symS ss (ids.getD i 0))] by
        rw [take_one (symL ss ids) i (0, ByteArray.empty) (by rw [HSLn.out]; exact hlt), symL_at ss ids i (by rw [HDL.out]; exact hlt)])
      clear hc
      generalize ids.getD i 0 = id at *
      go_wp2_with fail
      refine (HMk.out id HX.out _ HB.out).mono ?_
      rintro e x1 ⟨rfl, hb2⟩
      generalize symS ss id = sy at *
      have XO := Lib.hid ((own_keep HO.out hb2).alloc (.cells #[.int .u64 (id : Nat), .string sy] 38))
      have XB1 := Lib.hid (chain HB.out hb2)
      have XB := Lib.hid (XB1.out.alloc XB1.out.size (.cells #[.int .u64 (id : Nat), .string sy] 38))
      have N2 := Lib.hid (fun k hk => (XO.out.lt k hk).1)
      have HNW := Lib.hid (World.news_of_block (Box.new x1 38 #[.int .u64 (id : Nat), .string sy]))
      have hi' := HI.out
      have hz0' := HZ0.out
      have hz1' := HZ1.out
      have hz2' := HZ2.out
      clear hb2 cu
      go_wp2_with (at_builtin; refine wpList_append_own _ rfl _ _ 41 rfl w.heap.size 38 i0 (.agg #[.int .u64 0, .string ⟨#[]⟩]) 2 24 Tryd.underlying41 hi' hz0' hz1' hz2' rfl (by decide) _ _ _ rfl XO.out ⟨x1.heap.size, 0, none⟩ 1 1 [.int .u64 (id : Nat), .string sy] rfl rfl HNW.out (by simp [Value.oneCell']) (by simp [maxLen]; omega) (by omega) XB.out.size ?_; intro v' w1 hown' hgrow _; have HC := Lib.hid (XB.out.grown hgrow XB.out.size N2.out); have HO2 := Lib.hid hown'; clear hown' hgrow)
      go_roundw
      case rel =>
        refine ⟨i + 1, by omega, by go_num, ?_, HC.out⟩
        rw [HTK.out, symCells_snoc]
        exact HO2.out
      case measure => simp [intOf] <;> omega
    · obtain rfl : n = i := by omega
      have hlt' : ¬ (n : Int) < (n : Int) := by omega
      have HTK := Lib.hid (show (symL ss ids).take n = symL ss ids from List.take_of_length_le (by rw [HSLn.out]; omega))
      rw [HTK.out] at HO
      obtain ⟨A', c', rfl, hsy⟩ := own_syms HO.out HSLn.out
      go_wp2
      go_ret
      exact ⟨A', c', by rw [HSLn.out]; rfl, by rw [HSLn.out]; exact hsy, HB.out⟩
set_option maxHeartbeats 1000000 in
theorem refSame9_same (A B : Option Addr) (l c d : Nat) (ls : List SymN) (w : World) (hu : SymsAt w A l ls) (hv : SymsAt w B l ls) (hl : l ≤ 1000000) :
    Calls Tryd.prog 17 #[.slice A l c, .slice B l d] w fun e w' => e = .returned (.bool true) ∧ Below w.heap.size w w' := by
  have HU := Lib.hid hu
  have HV := Lib.hid hv
  clear hu hv
  have t2 : ((l : Int) != (l : Int)) = false := by simp
  go_enter Tryd.func17, Tryd.ntmps17
  go_wp2_with fail
  clear t2
  go_loopw [13] (fun i wr => ∃ j : Nat, j ≤ l ∧ i = .int .i64 j ∧ Below w.heap.size w wr) (fun i _ => l - (intOf i).toNat)
  case atStart => exact ⟨0, by omega, rfl, Below.refl _ _⟩
  case round =>
    obtain ⟨j, hj, rfl, hbel⟩ := hrel
    have HB := Lib.hid hbel
    clear hbel
    by_cases hlt : j < l
    · obtain ⟨p, o, rfl, lt1, hc1⟩ := HU.out.2 (by omega)
      obtain ⟨p2, o2, rfl, lt2, hc2⟩ := HV.out.2 (by omega)
      have cu := (HB.out.cell (p := ⟨p, o + j * 2, none⟩) lt1).trans (hc1 j hlt).1
      have cu1 := (HB.out.cell (p := ⟨p, o + j * 2 + 1, none⟩) lt1).trans (hc1 j hlt).2
      have cv := (HB.out.cell (p := ⟨p2, o2 + j * 2, none⟩) lt2).trans (hc2 j hlt).1
      have cv1 := (HB.out.cell (p := ⟨p2, o2 + j * 2 + 1, none⟩) lt2).trans (hc2 j hlt).2
      generalize ls.getD j (0, ByteArray.empty) = s at *
      clear hc1 hc2
      have hlt' : (j : Int) < (l : Int) := by omega
      have hj0 : (0 : Int) ≤ (j : Int) := by omega
      go_wp2
      go_quiet (fail)
      go_wp2_with fail
      go_roundw
      case rel => exact ⟨j + 1, by omega, by go_num, bdN HB.out _⟩
      case measure => simp [intOf]; omega
    · obtain rfl : j = l := by omega
      go_wp2
      go_ret
      exact ⟨rfl, HB.out⟩
theorem alive_sym : mayS [⟨#[97, 98]⟩] = true ∧ symS [⟨#[97, 98]⟩] 7 = ⟨#[97, 98]⟩ := by
  have hR := nbMany_range 1 7 (by omega) (by omega)
  have hM : nbMany 1 7 = 1 := by omega
  have hL : nbL 1 7 = [0] := by
    have h1 := nb_len 1 7 (by omega) (by omega)
    rw [hM] at h1
    have h2 := nb_there 1 7
    match hz : nbL 1 7, h1 with
    | [x], _ =>
      simp [nbZ, hz, castZ, there] at h2
      simp; omega
  have hRow : nbRow 1 7 = [1] := by
    unfold nbRow nbZ
    rw [hL]
    decide
  refine ⟨by decide +kernel, ?_⟩
  show pickS (([⟨#[97, 98]⟩] : List ByteArray).getD 0 ByteArray.empty).size [⟨#[97, 98]⟩] 1 (nbRow 1 7) = _
  rw [hRow]
  decide +kernel
theorem alive9_any (w : World) (hT : TabAt w 1) : Calls Tryd.prog 11 #[] w fun e w' => e = .returned (.bool true) ∧ Below w.heap.size w w' := by
  have hW : Below w.heap.size w (w.alloc (.cells #[.string ⟨#[97, 98]⟩] 9)) := (Below.refl _ _).alloc (Nat.le_refl _) _
  have HM := Lib.hid (encMake_yes (some ⟨w.heap.size, 0, none⟩) 1 1 [⟨#[97, 98]⟩] 7 _ (one_texts w 9 ⟨#[97, 98]⟩ (by decide)) (Nat.le_refl _) (by unfold maxLen; omega) (by omega) (hT.below hW) alive_sym.1)
  rw [alive_sym.2] at HM
  have HW := Lib.hid hW
  clear hW hT
  go_enter Tryd.func11, Tryd.ntmps11
  go_wp2_with fail
  refine HM.out.mono ?_
  rintro e x1 ⟨rfl, hb⟩
  have Q := Lib.hid (Box.new x1 38 #[.int .u64 7, .string ⟨#[97, 98]⟩])
  have B1 := Lib.hid (chainN HW.out HW.out.size hb)
  have B := Lib.hid (B1.out.alloc B1.out.size (.cells #[.int .u64 7, .string ⟨#[97, 98]⟩] 38))
  clear hb
  obtain ⟨r0, r1, -, -⟩ := Q.out.two
  go_wp2_with fail
  go_ret
  exact ⟨by simp, B.out⟩
end
section
/- EncodeMakes: the walk. -/
set_option linter.unusedVariables false
set_option linter.unusedSimpArgs false
open Go.RowKit
set_option maxRecDepth 100000
theorem Texts.drew {w : World} {A : Option Addr} {len : Nat} {ss : List ByteArray} (h : Texts w A len ss) : Texts w.drew A len ss := h
theorem SymsAt.drew {w : World} {A : Option Addr} {len : Nat} {ls : List SymN} (h : SymsAt w A len ls) : SymsAt w.drew A len ls := h
theorem TabAt.drew {w : World} (h : TabAt w 1) : TabAt w.drew 1 := h
theorem Words.takeE {w : World} {A : Option Addr} {n k : Nat} {ids : List Nat} (h : Words w A n ids) (hk : k ≤ n) : Words w A k (ids.take k) := by
  have e : ∀ j, j < k → (ids.take k).getD j 0 = ids.getD j 0 := fun j hj => by simp [List.getD, List.getElem?_take, hj]
  refine ⟨by rw [List.length_take, h.1]; omega, fun j => ?_, fun hp => ?_⟩
  · by_cases hj : j < k
    · rw [e j hj]; exact h.2.1 j
    · have : (ids.take k).getD j 0 = 0 := by simp [List.getD, List.getElem?_take, hj]
      rw [this]; omega
  · obtain ⟨b, off, h1, h2, h3⟩ := h.2.2 (by omega)
    exact ⟨b, off, h1, h2, fun j hj => by rw [e j hj]; exact h3 j (by omega)⟩
set_option maxHeartbeats 16000000 in
theorem emakes_walk (A : Option Addr) (l c : Nat) (ss : List ByteArray) (id : Nat) (B : Option Addr) (n d : Nat) (ids : List Nat) (W : World)
    (s0 : SliceOk A l c) (h0 : Texts W A l ss) (hi : id < 18446744073709551616) (s2 : SliceOk B n d) (h2 : Words W B n ids) (hT0 : TabAt W 1) :
    Calls Tryd.prog 4 #[.slice A l c, .int .u64 (id : Nat), .slice B n d] W fun e w' => e = .returned (.bool true) ∧ Below W.heap.size W w' := by
  have HBK := Lib.hid (blocks9_any A l c ss W h0 s0)
  have HCL := Lib.hid (cutsC_len ss)
  have HT := Lib.hid hT0
  have HB := Lib.hid (Below.refl W.heap.size W)
  generalize cutsC ss 66 = cs at *
  clear h0 s0 hT0
  by_cases hn : n ≤ 64
  · cases B with
    | none =>
      obtain ⟨rfl, rfl⟩ := s2.2.2 rfl
      have HD := Lib.hid h2
      have hk64 : 0 ≤ 64 := by omega
      have HSL := Lib.hid (show (symL cs ids).length ≤ 1000000 by rw [symL, List.length_map, h2.1]; omega)
      clear h2 s2 hn
      go_enter Tryd.func4, Tryd.ntmps4
      go_wp2_with fail
      refine (HBK.out).mono ?_
      rintro e x1 ⟨A1, c1, rfl, q1, q2, hx, hb⟩
      have HX := Lib.hid (hx)
      have HT := Lib.hid (HT.out.below hb)
      have HD := Lib.hid (HD.out.below hb)
      have HB := Lib.hid (chain HB.out hb)
      clear hb
      clear hx HBK
      go_wp2_with fail
      have hl := Lib.hid (Nat.le_trans q1 q2)
      cases hm : mayS cs with
      | false =>
        have HM := Lib.hid hm
        clear hm
        refine (encMake_no A1 _ c1 cs id _ HX.out q1 q2 HM.out).mono ?_
        rintro e x2 ⟨rfl, hb⟩
        have HT := Lib.hid (HT.out.below hb)
        have HD := Lib.hid (HD.out.below hb)
        have HX := Lib.hid (HX.out.below hb)
        have HB := Lib.hid (chain HB.out hb)
        clear hb
        have hal : Below x2.heap.size x2 (x2.alloc (.cells #[.int .u64 0, .string ⟨#[]⟩] 38)) := (Below.refl _ _).alloc (Nat.le_refl _) _
        have HT := Lib.hid (HT.out.below hal)
        have HD := Lib.hid (HD.out.below hal)
        have HX := Lib.hid (HX.out.below hal)
        have HB := Lib.hid (chain HB.out hal)
        have Q := Lib.hid (Box.new x2 38 #[.int .u64 0, .string ⟨#[]⟩])
        clear hal
        obtain ⟨r0, r1, -, -⟩ := Q.out.two
        go_wp2_with fail
        refine (encMany_no A1 _ c1 cs none 0 0 _ HX.out q1 q2 HM.out).mono ?_
        rintro e x3 ⟨A2, c2, rfl, hs, hb⟩
        clear r0 r1
        have HS := Lib.hid (hs)
        have HT := Lib.hid (HT.out.below hb)
        have HD := Lib.hid (HD.out.below hb)
        have HX := Lib.hid (HX.out.below hb)
        have Q := Lib.hid (Q.out.keep hb)
        have HB := Lib.hid (chain HB.out hb)
        clear hb
        clear hs
        obtain ⟨r0, r1, -, -⟩ := Q.out.two
        go_wp2_with fail
        refine (refRight9_any A1 _ c1 cs _ HX.out hl.out).mono ?_
        rintro e u4 ⟨rfl, rfl⟩
        rw [HM.out]
        go_wp2_with fail
        refine (alive9_any _ HT.out).mono ?_
        rintro e x5 ⟨rfl, hb⟩
        clear r0 r1
        have HT := Lib.hid (HT.out.below hb)
        have HD := Lib.hid (HD.out.below hb)
        have HX := Lib.hid (HX.out.below hb)
        have Q := Lib.hid (Q.out.keep hb)
        have HS := Lib.hid (HS.out.below hb)
        have HB := Lib.hid (chain HB.out hb)
        clear hb
        obtain ⟨r0, r1, -, -⟩ := Q.out.two
        go_wp2_with fail
        go_ret
        exact ⟨by simp, HB.out⟩
      | true =>
        have HM := Lib.hid hm
        clear hm
        refine (encMake_yes A1 _ c1 cs id _ HX.out q1 q2 hi HT.out HM.out).mono ?_
        rintro e x2 ⟨rfl, hb⟩
        have HT := Lib.hid (HT.out.below hb)
        have HD := Lib.hid (HD.out.below hb)
        have HX := Lib.hid (HX.out.below hb)
        have HB := Lib.hid (chain HB.out hb)
        clear hb
        have hal : Below x2.heap.size x2 (x2.alloc (.cells #[.int .u64 (id : Nat), .string (symS cs id)] 38)) := (Below.refl _ _).alloc (Nat.le_refl _) _
        have HT := Lib.hid (HT.out.below hal)
        have HD := Lib.hid (HD.out.below hal)
        have HX := Lib.hid (HX.out.below hal)
        have HB := Lib.hid (chain HB.out hal)
        have Q := Lib.hid (Box.new x2 38 #[.int .u64 (id : Nat), .string (symS cs id)])
        clear hal
        obtain ⟨r0, r1, -, -⟩ := Q.out.two
        go_wp2_with fail
        refine (encMany_yes A1 _ c1 cs none 0 0 ids _ HX.out q1 q2 HM.out hk64 HD.out HT.out).mono ?_
        rintro e x3 ⟨A2, c2, rfl, hs, hb⟩
        clear r0 r1
        have HS := Lib.hid (hs)
        have HT := Lib.hid (HT.out.below hb)
        have HD := Lib.hid (HD.out.below hb)
        have HX := Lib.hid (HX.out.below hb)
        have Q := Lib.hid (Q.out.keep hb)
        have HB := Lib.hid (chain HB.out hb)
        clear hb
        clear hs
        obtain ⟨r0, r1, -, -⟩ := Q.out.two
        go_wp2_with fail
        refine (refRight9_any A1 _ c1 cs _ HX.out hl.out).mono ?_
        rintro e u4 ⟨rfl, rfl⟩
        rw [HM.out]
        go_wp2_with fail
        go_region_held3 (fun w' => w'.cell? ⟨x2.heap.size, 0, none⟩ = some (.int .u64 (id : Nat)) ∧ w'.cell? ⟨x2.heap.size, 1, none⟩ = some (.string (symS cs id))) (go_keep)
          (first
            | (go_at_call 16; refine (refMake9_any A1 _ c1 cs id _ HX.out.drew hi HM.out).mono ?_; rintro f1 y1 ⟨rfl, hb⟩; have HX1 := Lib.hid (HX.out.drew.below hb); have HT1 := Lib.hid (HT.out.drew.below hb); have HD1 := Lib.hid (HD.out.drew.below hb); have HS1 := Lib.hid (HS.out.drew.below hb); have Q1 := Lib.hid (Q.out.drew.keep hb); have HB1 := Lib.hid (chainN HB.out.drew HB.out.size hb); clear hb; obtain ⟨r01, r11, -, -⟩ := Q1.out.two)
            | (go_at_call 11; refine (alive9_any _ HT1.out).mono ?_; rintro f2 y2 ⟨rfl, hb⟩; have HX2 := Lib.hid (HX1.out.below hb); have HT2 := Lib.hid (HT1.out.below hb); have HD2 := Lib.hid (HD1.out.below hb); have HS2 := Lib.hid (HS1.out.below hb); have Q2 := Lib.hid (Q1.out.keep hb); have HB2 := Lib.hid (chainN HB1.out HB1.out.size hb); clear hb; obtain ⟨r02, r12, -, -⟩ := Q2.out.two))
        have HX := Lib.hid HX2.out
        have HT := Lib.hid HT2.out
        have HD := Lib.hid HD2.out
        have HS := Lib.hid HS2.out
        have HB := Lib.hid HB2.out
        go_wp2_with fail
        refine (refMany9_any A1 _ c1 cs none 0 0 ids _ HX.out HM.out hk64 HD.out).mono ?_
        rintro e x5 ⟨A3, c3, rfl, hs, hb⟩
        have HR := Lib.hid (hs)
        have HT := Lib.hid (HT.out.below hb)
        have HD := Lib.hid (HD.out.below hb)
        have HX := Lib.hid (HX.out.below hb)
        have HS := Lib.hid (HS.out.below hb)
        have HB := Lib.hid (chain HB.out hb)
        clear hb
        clear hs
        go_wp2_with fail
        refine (refSame9_same A2 A3 _ c2 c3 (symL cs ids) _ HS.out HR.out HSL.out).mono ?_
        rintro e x6 ⟨rfl, hb⟩
        have HT := Lib.hid (HT.out.below hb)
        have HD := Lib.hid (HD.out.below hb)
        have HX := Lib.hid (HX.out.below hb)
        have HS := Lib.hid (HS.out.below hb)
        have HR := Lib.hid (HR.out.below hb)
        have HB := Lib.hid (chain HB.out hb)
        clear hb
        go_wp2_with fail
        go_ret
        exact ⟨by simp, HB.out⟩
    | some ad =>
      obtain ⟨k, ek⟩ : ∃ k, k = min n 8 := ⟨_, rfl⟩
      have HD := Lib.hid (h2.takeE (show k ≤ n by omega))
      have mk : min (n : Int) 8 = (k : Int) := by omega
      have g1 : (n : Int) ≤ 64 := by omega
      have hk64 : k ≤ 64 := by omega
      have g2 : ¬ (64 : Int) < (k : Int) := by omega
      have hkn : k ≤ n := by omega
      have hkd : k ≤ d := by have := s2.1; omega
      have hd := s2.2.1
      unfold maxLen at hd
      have HSL := Lib.hid (show (symL cs (ids.take k)).length ≤ 1000000 by rw [symL, List.length_map, List.length_take]; omega)
      clear h2 s2 hn ek
      generalize ids.take k = js at *
      go_enter Tryd.func4, Tryd.ntmps4
      go_wp2_with fail
      refine (HBK.out).mono ?_
      rintro e x1 ⟨A1, c1, rfl, q1, q2, hx, hb⟩
      have HX := Lib.hid (hx)
      have HT := Lib.hid (HT.out.below hb)
      have HD := Lib.hid (HD.out.below hb)
      have HB := Lib.hid (chain HB.out hb)
      clear hb
      clear hx HBK
      go_wp2_with fail
      have hl := Lib.hid (Nat.le_trans q1 q2)
      cases hm : mayS cs with
      | false =>
        have HM := Lib.hid hm
        clear hm
        refine (encMake_no A1 _ c1 cs id _ HX.out q1 q2 HM.out).mono ?_
        rintro e x2 ⟨rfl, hb⟩
        have HT := Lib.hid (HT.out.below hb)
        have HD := Lib.hid (HD.out.below hb)
        have HX := Lib.hid (HX.out.below hb)
        have HB := Lib.hid (chain HB.out hb)
        clear hb
        have hal : Below x2.heap.size x2 (x2.alloc (.cells #[.int .u64 0, .string ⟨#[]⟩] 38)) := (Below.refl _ _).alloc (Nat.le_refl _) _
        have HT := Lib.hid (HT.out.below hal)
        have HD := Lib.hid (HD.out.below hal)
        have HX := Lib.hid (HX.out.below hal)
        have HB := Lib.hid (chain HB.out hal)
        have Q := Lib.hid (Box.new x2 38 #[.int .u64 0, .string ⟨#[]⟩])
        clear hal
        obtain ⟨r0, r1, -, -⟩ := Q.out.two
        go_wp2_with fail
        refine (encMany_no A1 _ c1 cs (some ad) k d _ HX.out q1 q2 HM.out).mono ?_
        rintro e x3 ⟨A2, c2, rfl, hs, hb⟩
        clear r0 r1
        have HS := Lib.hid (hs)
        have HT := Lib.hid (HT.out.below hb)
        have HD := Lib.hid (HD.out.below hb)
        have HX := Lib.hid (HX.out.below hb)
        have Q := Lib.hid (Q.out.keep hb)
        have HB := Lib.hid (chain HB.out hb)
        clear hb
        clear hs
        obtain ⟨r0, r1, -, -⟩ := Q.out.two
        go_wp2_with fail
        refine (refRight9_any A1 _ c1 cs _ HX.out hl.out).mono ?_
        rintro e u4 ⟨rfl, rfl⟩
        rw [HM.out]
        go_wp2_with fail
        refine (alive9_any _ HT.out).mono ?_
        rintro e x5 ⟨rfl, hb⟩
        clear r0 r1
        have HT := Lib.hid (HT.out.below hb)
        have HD := Lib.hid (HD.out.below hb)
        have HX := Lib.hid (HX.out.below hb)
        have Q := Lib.hid (Q.out.keep hb)
        have HS := Lib.hid (HS.out.below hb)
        have HB := Lib.hid (chain HB.out hb)
        clear hb
        obtain ⟨r0, r1, -, -⟩ := Q.out.two
        go_wp2_with fail
        go_ret
        exact ⟨by simp, HB.out⟩
      | true =>
        have HM := Lib.hid hm
        clear hm
        refine (encMake_yes A1 _ c1 cs id _ HX.out q1 q2 hi HT.out HM.out).mono ?_
        rintro e x2 ⟨rfl, hb⟩
        have HT := Lib.hid (HT.out.below hb)
        have HD := Lib.hid (HD.out.below hb)
        have HX := Lib.hid (HX.out.below hb)
        have HB := Lib.hid (chain HB.out hb)
        clear hb
        have hal : Below x2.heap.size x2 (x2.alloc (.cells #[.int .u64 (id : Nat), .string (symS cs id)] 38)) := (Below.refl _ _).alloc (Nat.le_refl _) _
        have HT := Lib.hid (HT.out.below hal)
        have HD := Lib.hid (HD.out.below hal)
        have HX := Lib.hid (HX.out.below hal)
        have HB := Lib.hid (chain HB.out hal)
        have Q := Lib.hid (Box.new x2 38 #[.int .u64 (id : Nat), .string (symS cs id)])
        clear hal
        obtain ⟨r0, r1, -, -⟩ := Q.out.two
        go_wp2_with fail
        refine (encMany_yes A1 _ c1 cs (some ad) k d js _ HX.out q1 q2 HM.out hk64 HD.out HT.out).mono ?_
        rintro e x3 ⟨A2, c2, rfl, hs, hb⟩
        clear r0 r1
        have HS := Lib.hid (hs)
        have HT := Lib.hid (HT.out.below hb)
        have HD := Lib.hid (HD.out.below hb)
        have HX := Lib.hid (HX.out.below hb)
        have Q := Lib.hid (Q.out.keep hb)
        have HB := Lib.hid (chain HB.out hb)
        clear hb
        clear hs
        obtain ⟨r0, r1, -, -⟩ := Q.out.two
        go_wp2_with fail
        refine (refRight9_any A1 _ c1 cs _ HX.out hl.out).mono ?_
        rintro e u4 ⟨rfl, rfl⟩
        rw [HM.out]
        go_wp2_with fail
        go_region_held3 (fun w' => w'.cell? ⟨x2.heap.size, 0, none⟩ = some (.int .u64 (id : Nat)) ∧ w'.cell? ⟨x2.heap.size, 1, none⟩ = some (.string (symS cs id))) (go_keep)
          (first
            | (go_at_call 16; refine (refMake9_any A1 _ c1 cs id _ HX.out.drew hi HM.out).mono ?_; rintro f1 y1 ⟨rfl, hb⟩; have HX1 := Lib.hid (HX.out.drew.below hb); have HT1 := Lib.hid (HT.out.drew.below hb); have HD1 := Lib.hid (HD.out.drew.below hb); have HS1 := Lib.hid (HS.out.drew.below hb); have Q1 := Lib.hid (Q.out.drew.keep hb); have HB1 := Lib.hid (chainN HB.out.drew HB.out.size hb); clear hb; obtain ⟨r01, r11, -, -⟩ := Q1.out.two)
            | (go_at_call 11; refine (alive9_any _ HT1.out).mono ?_; rintro f2 y2 ⟨rfl, hb⟩; have HX2 := Lib.hid (HX1.out.below hb); have HT2 := Lib.hid (HT1.out.below hb); have HD2 := Lib.hid (HD1.out.below hb); have HS2 := Lib.hid (HS1.out.below hb); have Q2 := Lib.hid (Q1.out.keep hb); have HB2 := Lib.hid (chainN HB1.out HB1.out.size hb); clear hb; obtain ⟨r02, r12, -, -⟩ := Q2.out.two))
        have HX := Lib.hid HX2.out
        have HT := Lib.hid HT2.out
        have HD := Lib.hid HD2.out
        have HS := Lib.hid HS2.out
        have HB := Lib.hid HB2.out
        go_wp2_with fail
        refine (refMany9_any A1 _ c1 cs (some ad) k d js _ HX.out HM.out hk64 HD.out).mono ?_
        rintro e x5 ⟨A3, c3, rfl, hs, hb⟩
        have HR := Lib.hid (hs)
        have HT := Lib.hid (HT.out.below hb)
        have HD := Lib.hid (HD.out.below hb)
        have HX := Lib.hid (HX.out.below hb)
        have HS := Lib.hid (HS.out.below hb)
        have HB := Lib.hid (chain HB.out hb)
        clear hb
        clear hs
        go_wp2_with fail
        refine (refSame9_same A2 A3 _ c2 c3 (symL cs js) _ HS.out HR.out HSL.out).mono ?_
        rintro e x6 ⟨rfl, hb⟩
        have HT := Lib.hid (HT.out.below hb)
        have HD := Lib.hid (HD.out.below hb)
        have HX := Lib.hid (HX.out.below hb)
        have HS := Lib.hid (HS.out.below hb)
        have HR := Lib.hid (HR.out.below hb)
        have HB := Lib.hid (chain HB.out hb)
        clear hb
        go_wp2_with fail
        go_ret
        exact ⟨by simp, HB.out⟩
  · have HD := Lib.hid h2
    have hn : 64 < n := by omega
    have g1 : ¬ (n : Int) ≤ 64 := by omega
    have g2 : (64 : Int) < (n : Int) := by omega
    clear h2 s2
    go_enter Tryd.func4, Tryd.ntmps4
    go_wp2_with fail
    refine (HBK.out).mono ?_
    rintro e x1 ⟨A1, c1, rfl, q1, q2, hx, hb⟩
    have HX := Lib.hid (hx)
    have HT := Lib.hid (HT.out.below hb)
    have HD := Lib.hid (HD.out.below hb)
    have HB := Lib.hid (chain HB.out hb)
    clear hb
    clear hx HBK
    go_wp2_with fail
    have hl := Lib.hid (Nat.le_trans q1 q2)
    cases hm : mayS cs with
    | false =>
      have HM := Lib.hid hm
      clear hm
      refine (encMake_no A1 _ c1 cs id _ HX.out q1 q2 HM.out).mono ?_
      rintro e x2 ⟨rfl, hb⟩
      have HT := Lib.hid (HT.out.below hb)
      have HD := Lib.hid (HD.out.below hb)
      have HX := Lib.hid (HX.out.below hb)
      have HB := Lib.hid (chain HB.out hb)
      clear hb
      have hal : Below x2.heap.size x2 (x2.alloc (.cells #[.int .u64 0, .string ⟨#[]⟩] 38)) := (Below.refl _ _).alloc (Nat.le_refl _) _
      have HT := Lib.hid (HT.out.below hal)
      have HD := Lib.hid (HD.out.below hal)
      have HX := Lib.hid (HX.out.below hal)
      have HB := Lib.hid (chain HB.out hal)
      have Q := Lib.hid (Box.new x2 38 #[.int .u64 0, .string ⟨#[]⟩])
      clear hal
      obtain ⟨r0, r1, -, -⟩ := Q.out.two
      go_wp2_with fail
      refine (encMany_no A1 _ c1 cs B n d _ HX.out q1 q2 HM.out).mono ?_
      rintro e x3 ⟨A2, c2, rfl, hs, hb⟩
      clear r0 r1
      have HS := Lib.hid (hs)
      have HT := Lib.hid (HT.out.below hb)
      have HD := Lib.hid (HD.out.below hb)
      have HX := Lib.hid (HX.out.below hb)
      have Q := Lib.hid (Q.out.keep hb)
      have HB := Lib.hid (chain HB.out hb)
      clear hb
      clear hs
      obtain ⟨r0, r1, -, -⟩ := Q.out.two
      go_wp2_with fail
      refine (refRight9_any A1 _ c1 cs _ HX.out hl.out).mono ?_
      rintro e u4 ⟨rfl, rfl⟩
      rw [HM.out]
      go_wp2_with fail
      refine (alive9_any _ HT.out).mono ?_
      rintro e x5 ⟨rfl, hb⟩
      clear r0 r1
      have HT := Lib.hid (HT.out.below hb)
      have HD := Lib.hid (HD.out.below hb)
      have HX := Lib.hid (HX.out.below hb)
      have Q := Lib.hid (Q.out.keep hb)
      have HS := Lib.hid (HS.out.below hb)
      have HB := Lib.hid (chain HB.out hb)
      clear hb
      obtain ⟨r0, r1, -, -⟩ := Q.out.two
      go_wp2_with fail
      go_ret
      exact ⟨by simp, HB.out⟩
    | true =>
      have HM := Lib.hid hm
      clear hm
      refine (encMake_yes A1 _ c1 cs id _ HX.out q1 q2 hi HT.out HM.out).mono ?_
      rintro e x2 ⟨rfl, hb⟩
      have HT := Lib.hid (HT.out.below hb)
      have HD := Lib.hid (HD.out.below hb)
      have HX := Lib.hid (HX.out.below hb)
      have HB := Lib.hid (chain HB.out hb)
      clear hb
      have hal : Below x2.heap.size x2 (x2.alloc (.cells #[.int .u64 (id : Nat), .string (symS cs id)] 38)) := (Below.refl _ _).alloc (Nat.le_refl _) _
      have HT := Lib.hid (HT.out.below hal)
      have HD := Lib.hid (HD.out.below hal)
      have HX := Lib.hid (HX.out.below hal)
      have HB := Lib.hid (chain HB.out hal)
      have Q := Lib.hid (Box.new x2 38 #[.int .u64 (id : Nat), .string (symS cs id)])
      clear hal
      obtain ⟨r0, r1, -, -⟩ := Q.out.two
      go_wp2_with fail
      refine (encMany_long A1 _ c1 cs B n d _ HX.out q1 q2 HM.out hn).mono ?_
      rintro e x3 ⟨A2, c2, rfl, hs, hb⟩
      clear r0 r1
      have HS := Lib.hid (hs)
      have HT := Lib.hid (HT.out.below hb)
      have HD := Lib.hid (HD.out.below hb)
      have HX := Lib.hid (HX.out.below hb)
      have Q := Lib.hid (Q.out.keep hb)
      have HB := Lib.hid (chain HB.out hb)
      clear hb
      clear hs
      obtain ⟨r0, r1, -, -⟩ := Q.out.two
      go_wp2_with fail
      refine (refRight9_any A1 _ c1 cs _ HX.out hl.out).mono ?_
      rintro e u4 ⟨rfl, rfl⟩
      rw [HM.out]
      go_wp2_with fail
      go_region_held3 (fun w' => w'.cell? ⟨x2.heap.size, 0, none⟩ = some (.int .u64 (id : Nat)) ∧ w'.cell? ⟨x2.heap.size, 1, none⟩ = some (.string (symS cs id))) (go_keep)
        (first
          | (go_at_call 16; refine (refMake9_any A1 _ c1 cs id _ HX.out.drew hi HM.out).mono ?_; rintro f1 y1 ⟨rfl, hb⟩; have HX1 := Lib.hid (HX.out.drew.below hb); have HT1 := Lib.hid (HT.out.drew.below hb); have HD1 := Lib.hid (HD.out.drew.below hb); have HS1 := Lib.hid (HS.out.drew.below hb); have Q1 := Lib.hid (Q.out.drew.keep hb); have HB1 := Lib.hid (chainN HB.out.drew HB.out.size hb); clear hb; obtain ⟨r01, r11, -, -⟩ := Q1.out.two)
          | (go_at_call 11; refine (alive9_any _ HT1.out).mono ?_; rintro f2 y2 ⟨rfl, hb⟩; have HX2 := Lib.hid (HX1.out.below hb); have HT2 := Lib.hid (HT1.out.below hb); have HD2 := Lib.hid (HD1.out.below hb); have HS2 := Lib.hid (HS1.out.below hb); have Q2 := Lib.hid (Q1.out.keep hb); have HB2 := Lib.hid (chainN HB1.out HB1.out.size hb); clear hb; obtain ⟨r02, r12, -, -⟩ := Q2.out.two))
      have HX := Lib.hid HX2.out
      have HT := Lib.hid HT2.out
      have HD := Lib.hid HD2.out
      have HS := Lib.hid HS2.out
      have HB := Lib.hid HB2.out
      go_wp2_with fail
      go_ret
      exact ⟨by simp, HB.out⟩
end
section
/- How a row (a struct with a slice of words) and a slice of ints that came in are opened. -/
set_option linter.unusedVariables false
set_option linter.unusedSimpArgs false
open Go.RowKit Go.Joins Go.ChangeShapes Go.WideShapes
theorem cellsRow : Tryd.prog.cellsOf 58 = 2 := by kernel_rfl
theorem cellsU64 : Tryd.prog.cellsOf 35 = 1 := by kernel_rfl
theorem cellsInt : Tryd.prog.cellsOf 3 = 1 := by kernel_rfl
theorem addr_at {w : World} {a : Addr} {v : Value} (h : w.cell? (a.add 0) = some v) : ∃ b o, a = ⟨b, o, none⟩ := by
  obtain ⟨b, o, s⟩ := a
  have := World.cell?_spot h
  simp [Addr.add] at this
  subst this
  exact ⟨b, o, rfl⟩
theorem open_words {H : Type} {enc : TypeId × Value → H} {W : World} {fuel : Nat} {cs : List Value} {x : DataW H × List MemPlace}
    (h : DataW.trod enc Tryd.prog W 0 (fun _ => true) true fuel 36 cs = some x) : ∃ A l c us, cs = [.slice A l c] ∧ SliceOk A l c ∧ Words W A l us := by
  rcases open_ints Tryd.underlying36 Tryd.underlying35 cellsU64 h with ⟨hcs, _⟩ | ⟨a, len, cap, zs, hcs, _, hl, hm, hz, _, hcell, hwz⟩
  · exact ⟨none, 0, 0, [], hcs, ⟨Nat.le_refl _, Nat.zero_le _, fun _ => ⟨rfl, rfl⟩⟩, Words.nil _ _⟩
  · have hz' : zs.length = cap := by simpa using hz
    refine ⟨some a, len, cap, (zs.take len).map Int.toNat, hcs, ⟨hl, hm, fun h => by cases h⟩, ?_⟩
    have hget : ∀ j, j < len → ((zs.take len).map Int.toNat).getD j 0 = (zs.getD j 0).toNat := fun j hj => by
      have : j < zs.length := by omega
      simp [List.getD, hj, this]
    have hbd := range_u64 hwz
    refine ⟨by simp; omega, fun j => ?_, fun hp => ?_⟩
    · by_cases hj : j < len
      · rw [hget j hj]
        have := hbd j
        simp only [List.getD]
        omega
      · have hn : ((zs.take len).map Int.toNat)[j]? = none := List.getElem?_eq_none (by simp; omega)
        simp only [List.getD, hn, Option.getD_none]
        omega
    · obtain ⟨b, o, rfl⟩ := addr_at (hcell 0 (by omega))
      have hadd : ∀ j, Addr.add { block := b, off := o } j = ⟨b, o + j, none⟩ := fun j => by
        by_cases h : j = 0 <;> simp [Addr.add, h]
      refine ⟨b, o, rfl, ?_, fun j hj => ?_⟩
      · have := block_lt_of_cell (hcell 0 (by omega))
        rw [hadd] at this
        exact this
      · have := hcell j (by omega)
        rw [hadd] at this
        rw [this, hget j hj]
        have := hbd j
        have e : ((zs.getD j 0).toNat : Int) = zs.getD j 0 := by simp only [List.getD]; omega
        rw [e]
theorem open_nums {H : Type} {enc : TypeId × Value → H} {W : World} {fuel : Nat} {cs : List Value} {x : DataW H × List MemPlace}
    (h : DataW.trod enc Tryd.prog W 0 (fun _ => true) true fuel 62 cs = some x) : ∃ A l c zs, cs = [.slice A l c] ∧ SliceOk A l c ∧ Ints W A l zs := by
  rcases open_ints Tryd.underlying62 Tryd.underlying3 cellsInt h with ⟨hcs, _⟩ | ⟨a, len, cap, zs, hcs, _, hl, hm, hz, _, hcell, hwz⟩
  · exact ⟨none, 0, 0, [], hcs, ⟨Nat.le_refl _, Nat.zero_le _, fun _ => ⟨rfl, rfl⟩⟩, Ints.nil _ _⟩
  · have hz' : zs.length = cap := by simpa using hz
    refine ⟨some a, len, cap, zs.take len, hcs, ⟨hl, hm, fun h => by cases h⟩, ?_⟩
    have hget : ∀ j, j < len → (zs.take len).getD j 0 = zs.getD j 0 := fun j hj => by
      simp [List.getD, hj]
    have hbd := range_i64 hwz
    refine ⟨by simp; omega, fun j => ?_, fun hp => ?_⟩
    · by_cases hj : j < len
      · rw [hget j hj]
        have := hbd j
        simpa only [List.getD] using this
      · have hn : (zs.take len)[j]? = none := List.getElem?_eq_none (by simp; omega)
        simp [List.getD, hn]
    · obtain ⟨b, o, rfl⟩ := addr_at (hcell 0 (by omega))
      have hadd : ∀ j, Addr.add { block := b, off := o } j = ⟨b, o + j, none⟩ := fun j => by
        by_cases h : j = 0 <;> simp [Addr.add, h]
      refine ⟨b, o, rfl, ?_, fun j hj => ?_⟩
      · have := block_lt_of_cell (hcell 0 (by omega))
        rw [hadd] at this
        exact this
      · have := hcell j (by omega)
        rw [hadd] at this
        rw [this, hget j hj]
set_option maxRecDepth 100000 in
theorem open_row {H : Type} {enc : TypeId × Value → H} {W : World} {r : Reach} {b0 : Nat} {v : Value} {d : DataW H} {p : List MemPlace}
    (hv : Value.okWide Tryd.prog W r b0 58 v) (h : DataW.Trod enc Tryd.prog W 0 (fun _ => true) true 58 v d p) :
    ∃ n A l c us, v = .agg #[.int .i64 n, .slice A l c] ∧ (Lit.int .i64 n).wf = true ∧ SliceOk A l c ∧ Words W A l us := by
  obtain ⟨c0, c1, y0, y1, m, rfl, rfl, rfl, hy0, hy1⟩ := open_agg2 Tryd.underlying58 (by kernel_rfl) cellsRow hv h
  obtain ⟨a, e0, -, wa⟩ := DataW.trod_int Tryd.underlying3 hy0
  obtain ⟨A, l, c, us, e1, hs, hw⟩ := open_words hy1
  simp at e0 e1
  subst e0 e1
  exact ⟨a, A, l, c, us, rfl, wa, hs, hw⟩
end
section
/- How a slice of texts that came in is opened. -/
set_option linter.unusedVariables false
set_option linter.unusedSimpArgs false
open Go.RowKit Go.Joins Go.ChangeShapes Go.WideShapes
theorem cellsStr : Tryd.prog.cellsOf 9 = 1 := by kernel_rfl
theorem open_texts {H : Type} {enc : TypeId × Value → H} {W : World} {fuel : Nat} {cs : List Value} {x : DataW H × List MemPlace}
    (h : DataW.trod enc Tryd.prog W 0 (fun _ => true) true fuel 22 cs = some x) : ∃ A l c ss, cs = [.slice A l c] ∧ SliceOk A l c ∧ Texts W A l ss := by
  rcases open_strings Tryd.underlying22 Tryd.underlying9 cellsStr h with ⟨hcs, _⟩ | ⟨a, len, cap, ss, hcs, _, hl, hm, hz, _, hcell, hwz⟩
  · exact ⟨none, 0, 0, [], hcs, ⟨Nat.le_refl _, Nat.zero_le _, fun _ => ⟨rfl, rfl⟩⟩, Texts.nil _ _⟩
  · have hz' : ss.length = cap := by simpa using hz
    refine ⟨some a, len, cap, ss.take len, hcs, ⟨hl, hm, fun h => by cases h⟩, ?_⟩
    have hget : ∀ j, j < len → (ss.take len).getD j ByteArray.empty = ss.getD j ByteArray.empty := fun j hj => by
      simp [List.getD, hj]
    refine ⟨by simp; omega, fun j => ?_, fun hp => ?_⟩
    · by_cases hj : j < len
      · rw [hget j hj]
        have hjs : j < ss.length := by omega
        have := hwz (ss[j]) (List.getElem_mem _)
        simpa [List.getD, hjs] using this
      · have hn : (ss.take len)[j]? = none := List.getElem?_eq_none (by simp; omega)
        simp [List.getD, hn, maxLen]
    · obtain ⟨b, o, rfl⟩ := addr_at (hcell 0 (by omega))
      have hadd : ∀ j, Addr.add { block := b, off := o } j = ⟨b, o + j, none⟩ := fun j => by
        by_cases h : j = 0 <;> simp [Addr.add, h]
      refine ⟨b, o, rfl, ?_, fun j hj => ?_⟩
      · have := block_lt_of_cell (hcell 0 (by omega))
        rw [hadd] at this
        exact this
      · have := hcell j (by omega)
        rw [hadd] at this
        rw [this, hget j hj]
end
section
/- How a slice of words and a slice of ints that came in are opened (without rows). -/
set_option linter.unusedVariables false
set_option linter.unusedSimpArgs false
open Go.RowKit Go.Joins Go.ChangeShapes Go.WideShapes
end
end Go.Proofs.YtepgjimkhodcfaaDoor
