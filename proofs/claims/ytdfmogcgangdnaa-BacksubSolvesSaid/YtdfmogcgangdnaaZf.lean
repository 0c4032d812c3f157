/- Parts: RuM, RuX, Re1, Re2, Re3, Re4. -/
import Derived.Test.YtdfmogcgangdnaaZe
import Derived.BigQuiet
import Derived.Deep.DeepCutAuto
import Derived.Deep.QuietTactic
import Derived.Deep.RegionHeld3
import Derived.Deep.RegionWith
namespace Go.Proofs.Ytdfmogcgangdnaa
section
/- Rows in another order, with the xor of two of them more, span the same. -/
set_option linter.unusedVariables false
set_option linter.unusedSimpArgs false
open Go.RowKit
def turnI (a k j : Nat) : Nat := if j ≤ a then a - j else a + k - j
theorem turnI_lt (a k j : Nat) (ha : a < k) (hj : j < k) : turnI a k j < k := by unfold turnI; split <;> omega
theorem turnI_mod (a k j : Nat) (ha : a < k) (hj : j < k) : ((a : Int) + (k : Int) - (j : Int)) % (k : Int) = ((turnI a k j : Nat) : Int) := by
  unfold turnI
  by_cases h : j ≤ a
  · rw [if_pos h, show (a : Int) + (k : Int) - (j : Int) = ((a - j : Nat) : Int) + (k : Int) by omega, Int.add_emod_right]
    exact Int.emod_eq_of_lt (by omega) (by omega)
  · rw [if_neg h, show (a : Int) + (k : Int) - (j : Int) = ((a + k - j : Nat) : Int) by omega]
    exact Int.emod_eq_of_lt (by omega) (by omega)
def turnK (L : List Nat) (x a i : Nat) : List Nat := x :: (List.range i).map fun j => L.getD (turnI a L.length j) 0
theorem turnK_len (L : List Nat) (x a i : Nat) : (turnK L x a i).length = i + 1 := by simp [turnK]
theorem turnK_succ (L : List Nat) (x a i : Nat) : turnK L x a (i + 1) = turnK L x a i ++ [L.getD (turnI a L.length i) 0] := by simp [turnK, List.range_succ]
theorem turn_span (L : List Nat) (a b : Nat) (ha : a < L.length) (hb : b < L.length) : SameSp L (turnK L (L.getD a 0 ^^^ L.getD b 0) a L.length) := by
  refine SameSp.of (fun r hr => ?_) (fun r hr => ?_)
  · obtain ⟨p, hp, rfl⟩ := mem_getD hr
    refine sp_mem ?_
    unfold turnK
    refine List.mem_cons_of_mem _ (List.mem_map.2 ⟨if p ≤ a then a - p else a + L.length - p, List.mem_range.2 (by split <;> omega), ?_⟩)
    congr 1
    unfold turnI
    split <;> split <;> omega
  · unfold turnK at hr
    rcases List.mem_cons.1 hr with rfl | hr
    · exact sp_xor (sp_mem (getD_mem ha)) (sp_mem (getD_mem hb))
    · obtain ⟨j, hj, rfl⟩ := List.mem_map.1 hr
      exact sp_mem (getD_mem (turnI_lt _ _ _ ha (List.mem_range.1 hj)))
theorem turn_lt {n : Nat} {L : List Nat} (h : ∀ r ∈ L, r < 2 ^ n) (a b i : Nat) : ∀ r ∈ turnK L (L.getD a 0 ^^^ L.getD b 0) a i, r < 2 ^ n := fun r hr => by
  unfold turnK at hr
  rcases List.mem_cons.1 hr with rfl | hr
  · exact Nat.xor_lt_two_pow (lt_all h a) (lt_all h b)
  · obtain ⟨j, hj, rfl⟩ := List.mem_map.1 hr
    exact lt_all h _
theorem right_mk (n : Nat) (hn : n ≤ 64) (L : List Nat) (hl : L.length ≤ 64) (h : ∀ r ∈ L, r < 2 ^ n) : rightM n (mkM n L) = true := by
  have h1 : smb (n : Int) = true := (smb_iff _).2 ⟨by omega, by omega⟩
  have h2 : rowsB (n : Int) (mkM n L) = true := List.all_eq_true.2 fun r hr => by
    obtain ⟨x, hx, rfl⟩ := List.mem_map.1 hr
    simp [mkR, rowOf_right n x (by omega) (h x hx)]
  simp [rightM, h1, h2, mkM_len, hl]
/-- Rows that may be anywhere. -/
theorem turn_same {L M P M2 P2 : List Nat} {a b : Nat} (ha : a < L.length) (hb : b < L.length) (h1 : Rref M P) (h2 : SameSp L M) (h3 : Rref M2 P2) (h4 : SameSp (turnK L (L.getD a 0 ^^^ L.getD b 0) a L.length) M2) : M2 = M :=
  (rref_uniq h3 h1 ((h4.symm.trans (turn_span L a b ha hb).symm).trans h2)).1
end
section
/- ReduceUnique: the walk. -/
set_option linter.unusedVariables false
set_option linter.unusedSimpArgs false
open Go.RowKit
theorem own_new2 (W : World) (base e : Nat) (cs : Array Value) (hb : base ≤ W.heap.size) (hn : cs.size = 2) : (W.alloc (.cells cs e)).ownsRow base e 2 (.slice (some ⟨W.heap.size, 0, none⟩) 1 1) 1 cs.toList := by
  refine ⟨by simp [hn], .inr ⟨W.heap.size, 1, cs, rfl, hb, heap_alloc_new W _, Nat.le_refl _, ?_, ?_, ?_⟩⟩
  · simp [maxLen]
  · simp [hn]
  · rw [List.take_of_length_le (by simp [hn])]
theorem rank_le {L M P : List Nat} (h1 : Rref M P) (h2 : SameSp L M) : M.length ≤ L.length := by
  obtain ⟨M', P', a, b, c⟩ := rref_exists L
  rw [(rref_uniq h1 a (h2.symm.trans b)).1]; exact c
def RowP (w : World) (n : Nat) (r : RowV) (x : Nat) : Prop := r.1 = (n : Int) ∧ SliceOk r.2.1 r.2.2.1 r.2.2.2 ∧ Words w r.2.1 r.2.2.1 (rowOf n x)
theorem rowsP_snoc {w : World} {n m : Nat} {rs : List RowV} {K : List Nat} {r : RowV} {x : Nat} (h1 : rs.length = m) (h2 : K.length = m) (h : ∀ j, j < m → RowP w n (rs.getD j (0, none, 0, 0)) (K.getD j 0)) (hr : RowP w n r x) : ∀ j, j < m + 1 → RowP w n ((rs ++ [r]).getD j (0, none, 0, 0)) ((K ++ [x]).getD j 0) := fun j hj => by
  by_cases hm : j < m
  · have e1 : (rs ++ [r]).getD j (0, none, 0, 0) = rs.getD j (0, none, 0, 0) := by simp only [List.getD]; rw [List.getElem?_append_left (by omega)]
    have e2 : (K ++ [x]).getD j 0 = K.getD j 0 := by simp only [List.getD]; rw [List.getElem?_append_left (by omega)]
    rw [e1, e2]; exact h j hm
  · obtain rfl : j = m := by omega
    have e1 : (rs ++ [r]).getD j (0, none, 0, 0) = r := by rw [← h1]; simp [List.getD]
    have e2 : (K ++ [x]).getD j 0 = x := by rw [← h2]; simp [List.getD]
    rw [e1, e2]; exact hr
theorem mk_short (n : Nat) (hn : n ≤ 64) (M : List Nat) (j : Nat) : ((mkM n M).getD j (0, [])).2.length ≤ 1000000 := by
  by_cases h : j < M.length
  · rw [mkM_at n M j h]
    simp only [mkR, rowOf_len]
    unfold nw; omega
  · have : (mkM n M)[j]? = none := List.getElem?_eq_none (by rw [mkM_len]; omega)
    simp [List.getD, this]
set_option maxRecDepth 100000
set_option maxHeartbeats 16000000 in
theorem runique_walk (N : Int) (A : Option Addr) (l c : Nat) (ms : List (Int × List Nat)) (at0 by0 : Int) (W : World) (s0 : SliceOk A l c) (h0 : MatAt W 0 A l ms)
    (ha1 : -9223372036854775808 ≤ at0) (ha2 : at0 ≤ 9223372036854775807) (hb1 : -9223372036854775808 ≤ by0) (hb2 : by0 ≤ 9223372036854775807) :
    Calls Try.prog 5 #[.agg #[.int .i64 N, .slice A l c], .int .i64 at0, .int .i64 by0] W fun e w' => e = .returned (.bool true) ∧ Below W.heap.size W w' := by
  obtain ⟨ii0, hi0, hz0, hz1, hz2⟩ := info_parts row_infoM
  have HI := Lib.hid hi0
  have HZ0 := Lib.hid hz0
  have HZ1 := Lib.hid hz1
  have HZ2 := Lib.hid hz2
  clear hi0 hz0 hz1 hz2
  have b1 : Below W.heap.size W (W.alloc (.cells #[.int .i64 N, .slice A l c] 24)) := (Below.refl _ _).alloc (Nat.le_refl _) _
  have Q := Lib.hid (Box.new W 24 #[.int .i64 N, .slice A l c])
  have HB := Lib.hid b1
  have HF := Lib.hid (few4_any N A l c ms _ s0 (h0.below b1))
  have hl66 : (fewM ms).length ≤ 66 := by have := fewM_len ms; omega
  have HSh := Lib.hid (fewM_short ms)
  generalize fewM ms = fs at *
  clear b1 h0 s0
  obtain ⟨r0, r1, f0, f1⟩ := Q.out.two
  go_enter Try.func5, Try.ntmps5
  go_wp2_with fail
  refine HF.out.mono ?_
  rintro e x1 ⟨A1, c1, rfl, hm, hb⟩
  have Q1 := Lib.hid (Q.out.keep hb)
  have HB1 := Lib.hid (HB.out.trans (hb.mono HB.out.size))
  have hlt := Q1.out.lt
  have hm2 := hm.put2 (y := N) Q1.out (by simp) (.slice A1 fs.length c1)
  have Q2 := Lib.hid (Q1.out.put2 (u := .int .i64 N) (v := .slice A1 fs.length c1))
  have HB2 := Lib.hid ((HB1.out.setCell (p := ⟨W.heap.size, 0, none⟩) (Nat.le_refl _) (.int .i64 N)).setCell (p := ⟨W.heap.size, 1, none⟩) (Nat.le_refl _) (.slice A1 fs.length c1))
  have HM2 := Lib.hid hm2
  clear hb hm hm2 r0 r1 f0 f1 HF HB Q
  obtain ⟨r0, r1, f0, f1⟩ := Q1.out.two
  go_upto_region 2 with (fail)
  generalize (x1.setCell ⟨W.heap.size, 0, none⟩ (.int .i64 N)).setCell ⟨W.heap.size, 1, none⟩ (.slice A1 fs.length c1) = x2 at *
  clear r0 r1 f0 f1 Q1 HB1 hlt
  obtain ⟨r0, r1, f0, f1⟩ := Q2.out.two
  cases hr : rightM N fs with
  | false =>
    have HE := Lib.hid (ech_no N A1 fs.length c1 _ fs _ HM2.out (by unfold maxLen; omega) hr)
    clear hr
    go_wp2_with fail
    refine HE.out.mono ?_
    rintro e x3 ⟨rfl, hb⟩
    have HB3 := Lib.hid (HB2.out.trans (hb.mono HB2.out.size))
    have Q3 := Lib.hid (Box.new x3 24 #[.int .i64 0, .slice none 0 0])
    have HB4 := Lib.hid (HB3.out.alloc HB3.out.size (.cells #[.int .i64 0, .slice none 0 0] 24))
    clear hb
    go_wp2_with fail
    refine (alive4_any _).mono ?_
    rintro e x4 ⟨rfl, hb⟩
    have Q4 := Lib.hid (Q3.out.keep hb)
    have HB5 := Lib.hid (HB4.out.trans (hb.mono HB4.out.size))
    clear hb
    obtain ⟨t0, t1, -, -⟩ := Q4.out.two
    go_wp2_with fail
    go_ret
    exact ⟨by simp, HB5.out⟩
  | true =>
    obtain ⟨n, L, rfl, hn, hL64, rfl, hL⟩ := mat_num hr (fun i j => HM2.out.lt i j)
    rw [mkM_len] at *
    have HE := Lib.hid (ech_yes n hn L hL hL64 A1 c1 _ _ HM2.out hr)
    clear hr
    go_wp2_with fail
    refine HE.out.mono ?_
    rintro e x3 ⟨M, P, A2, B2, kc, rfl, h1, h2, h3, h4, h5, hb⟩
    have H1 := Lib.hid h1
    have H2 := Lib.hid h2
    have HB3 := Lib.hid (HB2.out.trans (hb.mono HB2.out.size))
    have hal : Below x3.heap.size x3 (x3.alloc (.cells #[.int .i64 (n : Int), .slice A2 M.length M.length] 24)) := (Below.refl _ _).alloc (Nat.le_refl _) _
    have QX := Lib.hid (Box.new x3 24 #[.int .i64 (n : Int), .slice A2 M.length M.length])
    have QM := Lib.hid ((Q2.out.keep hb).keep hal)
    have HM := Lib.hid ((HM2.out.below hb).below hal)
    have HX := Lib.hid (h3.below hal)
    have HB := Lib.hid (HB3.out.trans (hal.mono HB3.out.size))
    clear h1 h2 h3 h4 h5 hb hal HB2 HB3 Q2 HM2 HE r0 r1 f0 f1
    obtain ⟨r0, r1, -, -⟩ := QM.out.two
    obtain ⟨t0, t1, -, -⟩ := QX.out.two
    by_cases h0 : L.length = 0
    · have t1 : ((L.length : Int) == 0) = true := by simp [h0]
      have t2 : (L.length == 0) = true := by simp [h0]
      have HZ0 := Lib.hid h0
      clear h0
      go_wp2_with fail
      refine (alive4_any _).mono ?_
      rintro e x4 ⟨rfl, hb⟩
      have HB5 := Lib.hid (HB.out.trans (hb.mono HB.out.size))
      clear hb
      go_wp2_with fail
      go_ret
      exact ⟨by simp, HB5.out⟩
    · have t1 : ((L.length : Int) == 0) = false := by rw [beq_eq_false_iff_ne]; omega
      have t2 : (L.length == 0) = false := by rw [beq_eq_false_iff_ne]; omega
      by_cases h64 : 64 ≤ L.length
      · have t3 : decide (64 ≤ (L.length : Int)) = true := by simp; omega
        go_wp2_with fail
        refine (alive4_any _).mono ?_
        rintro e x4 ⟨rfl, hb⟩
        have HB5 := Lib.hid (HB.out.trans (hb.mono HB.out.size))
        clear hb
        go_wp2_with fail
        go_ret
        exact ⟨by simp, HB5.out⟩
      · have t3 : decide (64 ≤ (L.length : Int)) = false := by simp; omega
        go_upto_region 6 with (fail)
        go_cut [1, 2] (fun a b wx => ∃ i j : Nat, i < L.length ∧ j < L.length ∧ a = .int .i64 (i : Int) ∧ b = .int .i64 (j : Int) ∧ Hid (∃ q, wx = (x3.alloc (.cells #[.int .i64 (n : Int), .slice A2 M.length M.length] 24)).drewN q))
        case first =>
          have k0 : (0 : Int) < (L.length : Int) := by omega
          have k1 : ¬ (L.length : Int) = 0 := by omega
          have k2 : (L.length : Int) ≤ 64 := by omega
          have g1 : -(L.length : Int) < at0.tmod (L.length : Int) := Int.lt_tmod_of_pos at0 k0
          have g2 : at0.tmod (L.length : Int) < (L.length : Int) := Int.tmod_lt_of_pos at0 k0
          have g3 : -(L.length : Int) < by0.tmod (L.length : Int) := Int.lt_tmod_of_pos by0 k0
          have g4 : by0.tmod (L.length : Int) < (L.length : Int) := Int.tmod_lt_of_pos by0 k0
          go_quiet (fail)
          go_wp2_with fail
          go_meet
          have p1 := Int.emod_nonneg (at0.tmod (L.length : Int) + (L.length : Int)) k1
          have p2 := Int.emod_lt_of_pos (at0.tmod (L.length : Int) + (L.length : Int)) k0
          have p3 := Int.emod_nonneg (by0.tmod (L.length : Int) + (L.length : Int)) k1
          have p4 := Int.emod_lt_of_pos (by0.tmod (L.length : Int) + (L.length : Int)) k0
          exact ⟨((at0.tmod (L.length : Int) + (L.length : Int)) % (L.length : Int)).toNat, ((by0.tmod (L.length : Int) + (L.length : Int)) % (L.length : Int)).toNat, by omega, by omega, by rw [Int.toNat_of_nonneg p1], by rw [Int.toNat_of_nonneg p3], Lib.hid ⟨_, rfl⟩⟩
        case rest =>
          obtain ⟨i, j, hi, hj, rfl, rfl, HQ⟩ := hcut
          obtain ⟨q, hq0⟩ := HQ.out
          subst hq0
          clear HQ ha1 ha2 hb1 hb2 t1 t2 t3
          have hq : Below (x3.alloc (.cells #[.int .i64 (n : Int), .slice A2 M.length M.length] 24)).heap.size (x3.alloc (.cells #[.int .i64 (n : Int), .slice A2 M.length M.length] 24)) ((x3.alloc (.cells #[.int .i64 (n : Int), .slice A2 M.length M.length] 24)).drewN q) := ⟨rfl, rfl, rfl, Nat.le_refl _, fun _ _ => rfl⟩
          have QM := Lib.hid (QM.out.keep hq)
          have QX := Lib.hid (QX.out.keep hq)
          have HM := Lib.hid (HM.out.below hq)
          have HX := Lib.hid (HX.out.below hq)
          have HB := Lib.hid (HB.out.trans (hq.mono HB.out.size))
          clear hq r0 r1 t0 t1
          generalize (x3.alloc (.cells #[.int .i64 (n : Int), .slice A2 M.length M.length] 24)).drewN q = w4 at *
          obtain ⟨r0, r1, -, -⟩ := QM.out.two
          obtain ⟨b, off, rfl, -, hbl, hrow⟩ := HM.out.2 (by omega)
          obtain ⟨Bi, li, ci, i0, i1, si, wi⟩ := hrow i hi
          obtain ⟨Bj, lj, cj, j0, j1, sj, wj⟩ := hrow j hj
          rw [mkM_at n L i hi] at i0 wi
          rw [mkM_at n L j hj] at j0 wj
          simp only [mkR] at i0 wi j0 wj
          have WI := Lib.hid wi
          have WJ := Lib.hid wj
          have HLt := Lib.hid (lt_all hL)
          have hwl := QM.out.lt
          have HBL := Lib.hid hbl
          have HWL := Lib.hid hwl
          have hi' : (i : Int) < (L.length : Int) := by omega
          have hj' : (j : Int) < (L.length : Int) := by omega
          have HXr := Lib.hid (fun w' (u1 : Words w' Bi li (rowOf n (L.getD i 0))) (u2 : Words w' Bj lj (rowOf n (L.getD j 0))) => xor_num n (L.getD i 0) (L.getD j 0) (by omega) (HLt.out i) (HLt.out j) Bi Bj li ci lj cj w' u1 u2)
          clear wi wj si sj hrow
          have WD1 := Lib.hid (show Words w4.drew Bi li (rowOf n (L.getD i 0)) from WI.out)
          have WD2 := Lib.hid (show Words w4.drew Bj lj (rowOf n (L.getD j 0)) from WJ.out)
          have hal : Below w4.heap.size w4 (w4.alloc (.cells #[.int .i64 0, .slice none 0 0] 40)) := (Below.refl _ _).alloc (Nat.le_refl _) _
          have WE1 := Lib.hid (show Words (w4.alloc (.cells #[.int .i64 0, .slice none 0 0] 40)).drew Bi li (rowOf n (L.getD i 0)) from (WI.out.below hal).drew)
          have WE2 := Lib.hid (show Words (w4.alloc (.cells #[.int .i64 0, .slice none 0 0] 40)).drew Bj lj (rowOf n (L.getD j 0)) from (WJ.out.below hal).drew)
          have HAL := Lib.hid hal
          have HAD := Lib.hid (show Below w4.heap.size w4 (w4.alloc (.cells #[.int .i64 0, .slice none 0 0] 40)).drew from ⟨hal.os, hal.tape, hal.output, hal.size, hal.block⟩)
          have QA := Lib.hid (show Box (w4.alloc (.cells #[.int .i64 0, .slice none 0 0] 40)).drew w4.heap.size 40 #[.int .i64 0, .slice none 0 0] from Box.new w4 40 #[.int .i64 0, .slice none 0 0])
          have e1 := (hal.cell (p := ⟨W.heap.size, 1, none⟩) HWL.out).trans r1
          have e2 := (hal.cell (p := ⟨b, off + i * 2, none⟩) HBL.out).trans i0
          have e3 := (hal.cell (p := ⟨b, off + i * 2 + 1, none⟩) HBL.out).trans i1
          have e4 := (hal.cell (p := ⟨b, off + j * 2, none⟩) HBL.out).trans j0
          have e5 := (hal.cell (p := ⟨b, off + j * 2 + 1, none⟩) HBL.out).trans j1
          have HWL2 := Lib.hid (show W.heap.size < (w4.alloc (.cells #[.int .i64 0, .slice none 0 0] 40)).drew.heap.size from Nat.lt_of_lt_of_le HWL.out hal.size)
          have HBL2 := Lib.hid (show b < (w4.alloc (.cells #[.int .i64 0, .slice none 0 0] 40)).drew.heap.size from Nat.lt_of_lt_of_le HBL.out hal.size)
          have d1 : ¬ W.heap.size = w4.heap.size := Nat.ne_of_lt HWL.out
          have d2 : ¬ w4.heap.size = W.heap.size := Nat.ne_of_gt HWL.out
          have d3 : ¬ b = w4.heap.size := Nat.ne_of_lt HBL.out
          have d4 : ¬ w4.heap.size = b := Nat.ne_of_gt HBL.out
          clear hal
          go_upto_region 7 with (fail)
          go_cut [11, 12] (fun a b wx => ∃ g A3 l3 c3, a = .pointer (some ⟨g, 0, none⟩) ∧ b = .int .i64 0 ∧ Hid (Box wx g 40 #[.int .i64 (n : Int), .slice A3 l3 c3]) ∧ Hid (OwnW wx A3 l3 c3 (rowOf n (L.getD i 0 ^^^ L.getD j 0))) ∧ Hid (Below w4.heap.size w4 wx))
          case first =>
            go_wp2_with fail
            go_region_held3 (fun w' => w'.cell? ⟨W.heap.size, 1, none⟩ = some (.slice (some ⟨b, off, none⟩) L.length c1) ∧ w'.cell? ⟨b, off + i * 2, none⟩ = some (.int .i64 (n : Int)) ∧ w'.cell? ⟨b, off + i * 2 + 1, none⟩ = some (.slice Bi li ci) ∧ w'.cell? ⟨b, off + j * 2, none⟩ = some (.int .i64 (n : Int)) ∧ w'.cell? ⟨b, off + j * 2 + 1, none⟩ = some (.slice Bj lj cj)) (go_keep)
              (first
                | (go_at_call 19; refine (HXr.out _ WD1.out WD2.out).mono ?_; rintro f1 y1 ⟨A3, l3, c3, rfl, ow3, hb⟩; have HBQ := Lib.hid (show Below w4.heap.size w4 y1 from ⟨hb.os, hb.tape, hb.output, hb.size, hb.block⟩); have QN := Lib.hid (Box.new y1 40 #[.int .i64 0, .slice none 0 0]); have OW5 := Lib.hid ow3; have m1 := (hb.cell (p := ⟨W.heap.size, 1, none⟩) HWL.out).trans r1; have m2 := (hb.cell (p := ⟨b, off + i * 2, none⟩) HBL.out).trans i0; have m3 := (hb.cell (p := ⟨b, off + i * 2 + 1, none⟩) HBL.out).trans i1; have m4 := (hb.cell (p := ⟨b, off + j * 2, none⟩) HBL.out).trans j0; have m5 := (hb.cell (p := ⟨b, off + j * 2 + 1, none⟩) HBL.out).trans j1; clear ow3 hb; obtain ⟨z0, z1, zf0, zf1⟩ := QN.out.two)
                | (go_at_call 19; refine (HXr.out _ WE1.out WE2.out).mono ?_; rintro f1 y1 ⟨A3, l3, c3, rfl, ow3, hb⟩; have HBQ := Lib.hid (HAD.out.trans (hb.mono HAD.out.size)); have QN := Lib.hid (QA.out.keep hb); have OW5 := Lib.hid ow3; have m1 := (hb.cell (p := ⟨W.heap.size, 1, none⟩) HWL2.out).trans e1; have m2 := (hb.cell (p := ⟨b, off + i * 2, none⟩) HBL2.out).trans e2; have m3 := (hb.cell (p := ⟨b, off + i * 2 + 1, none⟩) HBL2.out).trans e3; have m4 := (hb.cell (p := ⟨b, off + j * 2, none⟩) HBL2.out).trans e4; have m5 := (hb.cell (p := ⟨b, off + j * 2 + 1, none⟩) HBL2.out).trans e5; clear ow3 hb; obtain ⟨z0, z1, zf0, zf1⟩ := QN.out.two))
            · go_wp2_with fail
              go_meet
              exact ⟨_, A3, l3, c3, rfl, rfl, Lib.hid (Box.new y1 40 #[.int .i64 (n : Int), .slice A3 l3 c3]), Lib.hid (OW5.out.alloc _), Lib.hid (HBQ.out.alloc HBQ.out.size _)⟩
            · go_wp2_with fail
              go_meet
              exact ⟨_, A3, l3, c3, rfl, rfl, Lib.hid QN.out.put2, Lib.hid (OW5.out.put2 QN.out _ _), Lib.hid ((HBQ.out.setCell (p := ⟨w4.heap.size, 0, none⟩) (Nat.le_refl _) _).setCell (p := ⟨w4.heap.size, 1, none⟩) (Nat.le_refl _) _)⟩
          case rest =>
            obtain ⟨G, A3, l3, c3, rfl, rfl, HG, HO3, HBw⟩ := hcut
            have QM := Lib.hid (QM.out.keep HBw.out)
            have QX := Lib.hid (QX.out.keep HBw.out)
            have HM := Lib.hid (HM.out.below HBw.out)
            have HX := Lib.hid (HX.out.below HBw.out)
            have HB := Lib.hid (HB.out.trans (HBw.out.mono HB.out.size))
            clear WI WJ HXr WD1 WD2 WE1 WE2 HAL HAD QA e1 e2 e3 e4 e5 HWL2 HBL2 d1 d2 d3 d4 r0 r1 i0 i1 j0 j1 hbl HBL HWL hwl HBw hi' hj'
            obtain ⟨w5, e5⟩ : ∃ w, w = wc := ⟨_, rfl⟩
            subst e5
            obtain ⟨r0, r1, -, -⟩ := QM.out.two
            obtain ⟨g0, g1, -, -⟩ := HG.out.two
            go_upto_region 8 with (fail)
            go_cut [13] (fun a wx => ∃ B8 v8, a = .pointer (some ⟨B8, 0, none⟩) ∧ Hid (Box wx B8 24 #[.int .i64 (n : Int), v8]) ∧ Hid (wx.ownsRow w5.heap.size 40 2 v8 1 [.int .i64 (n : Int), .slice A3 l3 c3]) ∧ Hid (Below w5.heap.size w5 wx) ∧ Hid (w5.heap.size ≤ B8))
            case first =>
              go_wp2_with fail
              go_meet
              exact ⟨_, _, rfl, Lib.hid (by have := Box.new (w5.alloc (.cells #[.int .i64 (n : Int), .slice A3 l3 c3] 40)) 24 #[.int .i64 (n : Int), .slice (some ⟨w5.heap.size, 0, none⟩) 1 1]; simp only [World.size_alloc] at this; exact this), Lib.hid (World.ownsRow.alloc (own_new2 w5 w5.heap.size 40 #[.int .i64 (n : Int), .slice A3 l3 c3] (Nat.le_refl _) rfl) _), Lib.hid (((Below.refl _ _).alloc (Nat.le_refl _) _).alloc (by simp) _), Lib.hid (by omega)⟩
            case rest =>
              obtain ⟨B8, v8, rfl, HB8, HO8, HBw, HG8⟩ := hcut
              clear r0 r1 g0 g1
              have HRow := Lib.hid (HM.out.2 (by omega))
              have HK := Lib.hid (show (turnK L (L.getD i 0 ^^^ L.getD j 0) i 0).length = 1 from rfl)
              have H64 := Lib.hid h64
              have HL2 := Lib.hid hL
              clear h0 h64
              go_wp2_with fail
              go_loopw [88] (fun t wr => ∃ (k : Nat) (v : Value) (rs : List RowV), k ≤ L.length ∧ t = .int .i64 (k : Int) ∧ Hid (rs.length = k + 1) ∧ Hid (wr.ownsRow w5.heap.size 40 2 v (k + 1) (rowCells rs)) ∧ Hid (∀ j', j' < k + 1 → RowP w5 n (rs.getD j' (0, none, 0, 0)) ((turnK L (L.getD i 0 ^^^ L.getD j 0) i k).getD j' 0)) ∧ Hid (Box wr B8 24 #[.int .i64 (n : Int), v]) ∧ Hid (Below w5.heap.size w5 wr)) (fun t _ => L.length - (intOf t).toNat)
              case atStart => exact ⟨0, v8, [((n : Int), A3, l3, c3)], by omega, rfl, Lib.hid rfl, Lib.hid HO8.out, Lib.hid (fun j' hj' => by
                obtain rfl : j' = 0 := by omega
                exact ⟨rfl, HO3.out.ok, HO3.out.words (rowOf_lt n _)⟩), HB8, HBw⟩
              case round =>
                obtain ⟨k, v, rs, hk, rfl, HRL, HO, HR, HB1, HB2⟩ := hrel
                by_cases hlt : k < L.length
                · have hlt' : (k : Int) < (L.length : Int) := by omega
                  have ht := turnI_lt i L.length k hi hlt
                  have hm := turnI_mod i L.length k hi hlt
                  obtain ⟨b2, off2, e2, -, hbl, hrow⟩ := HRow.out
                  cases e2
                  obtain ⟨Bi, li, ci, i0, i1, si, wi⟩ := hrow _ ht
                  rw [mkM_at n L _ ht] at i0 wi
                  simp only [mkR] at i0 wi
                  have HRn := Lib.hid (rowsP_snoc (x := L.getD (turnI i L.length k) 0) (r := ((n : Int), Bi, li, ci)) HRL.out (turnK_len _ _ _ _) HR.out ⟨rfl, si, wi⟩)
                  rw [← turnK_succ] at HRn
                  have hwr : ∀ z : Int, -9223372036854775808 ≤ z → z ≤ 9223372036854775807 → IntKind.i64.wrap z = z := fun z h1 h2 => by
                    rw [IntKind.wrap_i64]; omega
                  have hL0 : ¬ L = [] := by intro e; subst e; simp at hi
                  have hw1 : IntKind.i64.wrap ((i : Int) + (L.length : Int)) = (i : Int) + (L.length : Int) := hwr _ (by omega) (by omega)
                  have hw2 : IntKind.i64.wrap ((i : Int) + (L.length : Int) - (k : Int)) = (i : Int) + (L.length : Int) - (k : Int) := hwr _ (by omega) (by omega)
                  have hw3 : ((i : Int) + (L.length : Int) - (k : Int)).tmod (L.length : Int) = ((turnI i L.length k : Nat) : Int) := by
                    rw [Int.tmod_eq_emod_of_nonneg (by omega)]; exact hm
                  clear hwr hm
                  have x0 := (HB2.out.cell (p := ⟨b, off + turnI i L.length k * 2, none⟩) hbl).trans i0
                  have x1 := (HB2.out.cell (p := ⟨b, off + turnI i L.length k * 2 + 1, none⟩) hbl).trans i1
                  generalize turnI i L.length k = tk at *
                  have QR := Lib.hid (QM.out.keep HB2.out)
                  obtain ⟨r0, r1, -, -⟩ := QR.out.two
                  obtain ⟨b0, b1, bf0, bf1⟩ := HB1.out.two
                  have ht' : (tk : Int) < (L.length : Int) := by omega
                  have XO := Lib.hid (own_drewM (World.ownsRow.alloc HO.out (.cells #[.int .i64 (n : Int), .slice Bi li ci] 40)))
                  have XN := Lib.hid (show ∀ j u, ([.int .i64 (n : Int), .slice Bi li ci] : List Value)[j]? = some u → (wr.alloc (.cells #[.int .i64 (n : Int), .slice Bi li ci] 40)).drew.cell? ((⟨wr.heap.size, 0, none⟩ : Addr).add j) = some u from World.news_of_block (Box.new wr 40 #[.int .i64 (n : Int), .slice Bi li ci]))
                  have XL := Lib.hid (show w5.heap.size ≤ (wr.alloc (.cells #[.int .i64 (n : Int), .slice Bi li ci] 40)).drew.heap.size from Nat.le_trans HB2.out.size (by show _ ≤ (wr.alloc (.cells #[.int .i64 (n : Int), .slice Bi li ci] 40)).heap.size; simp))
                  have XT := Lib.hid (show Box (wr.alloc (.cells #[.int .i64 (n : Int), .slice Bi li ci] 40)).drew B8 24 #[.int .i64 (n : Int), v] from HB1.out.alloc (.cells #[.int .i64 (n : Int), .slice Bi li ci] 40))
                  have a1 : k + 1 + 1 ≤ maxLen := by unfold maxLen; omega
                  have a2 : (k + 1 + 1) * 32 ≤ 140737488355328 := by omega
                  have x1c := Lib.hid (show ∀ u ∈ ([.int .i64 (n : Int), .slice Bi li ci] : List Value), u.oneCell' = true by simp [Value.oneCell'])
                  have hne := Lib.hid (own_ne HO.out HB1.out (by decide))
                  have hb1 := HB1.out.lt
                  have hq1 := QR.out.lt
                  have hbw := Nat.lt_of_lt_of_le hbl HB2.out.size
                  have hn0 := HO.out.lt
                  have ki := HI.out
                  have kz0 := HZ0.out
                  have kz1 := HZ1.out
                  have kz2 := HZ2.out
                  clear i0 i1 si wi hrow
                  go_wp2_with fail
                  go_region_law (refine step_append_lies _ rfl (.tmp 92) (.tmp 104) 22 rfl w5.heap.size 40 ii0 (.agg #[.int .i64 0, .slice none 0 0]) 2 32 Try.underlying22 ki kz0 kz1 kz2 rfl (by decide) v (k + 1) (rowCells rs) ?_ XO.out ⟨wr.heap.size, 0, none⟩ 1 1 [.int .i64 (n : Int), .slice Bi li ci] ?_ rfl XN.out x1c.out (by omega) a1 a2 XL.out _ rfl ?_; simp [Act.eval, Act.put]; simp [Act.eval, Act.put]; intro g cap w6 hown hgrow _ _; have V1 := Lib.hid (XT.out.grown hgrow hne.out); have HO2 := Lib.hid hown; have HGr := Lib.hid hgrow; clear hown hgrow; obtain ⟨v0, v1, vf0, vf1⟩ := V1.out.two)
                  all_goals
                    have WB := Lib.hid (Below.grown ((HB2.out.alloc HB2.out.size (.cells #[.int .i64 (n : Int), .slice Bi li ci] 40)).drew) HGr.out XL.out (fun k hk => (XO.out.lt k hk).1))
                    have HO3' := Lib.hid (own_far HO2.out V1.out (by decide) 1 (.slice (some ⟨g, 0, none⟩) (k + 1 + 1) cap))
                    have HP1 := Lib.hid (V1.out.put 1 (.slice (some ⟨g, 0, none⟩) (k + 1 + 1) cap))
                    have HWB := Lib.hid (WB.out.setCell (p := ⟨B8, 1, none⟩) HG8.out (.slice (some ⟨g, 0, none⟩) (k + 1 + 1) cap))
                    clear HO2 HGr V1 XO XN XL XT HR WB
                    go_wp2_with fail
                    go_roundw
                    case rel => exact ⟨k + 1, _, rs ++ [((n : Int), Bi, li, ci)], by omega, by go_num, Lib.hid (by simp [HRL.out]), Lib.hid (by rw [rowCells_snoc]; exact HO3'.out), HRn, HP1, HWB⟩
                    case measure => simp [intOf] <;> omega
                · obtain rfl : k = L.length := by omega
                  have hlt' : ¬ (L.length : Int) < (L.length : Int) := by omega
                  obtain ⟨A', c', rfl, hc', hmat⟩ := own_mat HO.out HRL.out (mkM n (turnK L (L.getD i 0 ^^^ L.getD j 0) i L.length)) (by rw [mkM_len, turnK_len]) (fun j' hj' => by
                    obtain ⟨a1, a2, a3⟩ := HR.out j' hj'
                    rw [mkM_at n _ j' (by rw [turnK_len]; exact hj')]
                    exact ⟨a1, a2, a3.below HB2.out⟩)
                  have HK2 := turn_lt HL2.out i j L.length
                  have hE := ech_yes n hn (turnK L (L.getD i 0 ^^^ L.getD j 0) i L.length) HK2 (by rw [turnK_len]; have := H64.out; omega) A' c' _ wr (by rw [turnK_len]; exact hmat) (right_mk n hn _ (by rw [turnK_len]; have := H64.out; omega) HK2)
                  rw [turnK_len] at hE
                  have HE := Lib.hid hE
                  have HTS := Lib.hid (fun M2 P2 (a : Rref M2 P2) b => turn_same hi hj H1.out H2.out a b)
                  have HML := Lib.hid (show M.length ≤ 1000000 from Nat.le_trans (rank_le H1.out H2.out) (by omega))
                  have QX6 := Lib.hid (QX.out.keep HB2.out)
                  have HX6 := Lib.hid (HX.out.below HB2.out)
                  have HB6 := Lib.hid (HB.out.trans (HB2.out.mono HB.out.size))
                  clear hE HK2 hmat HO HR HRL
                  obtain ⟨b0, b1, -, -⟩ := HB1.out.two
                  go_wp2_with fail
                  refine HE.out.mono ?_
                  rintro e x7 ⟨M2, P2, A4, B4, k4, rfl, h1, h2, h3, -, -, hb⟩
                  obtain rfl := HTS.out M2 P2 h1 h2
                  have hal : Below x7.heap.size x7 (x7.alloc (.cells #[.int .i64 (n : Int), .slice A4 M2.length M2.length] 24)) := (Below.refl _ _).alloc (Nat.le_refl _) _
                  have QY := Lib.hid (Box.new x7 24 #[.int .i64 (n : Int), .slice A4 M2.length M2.length])
                  have QX7 := Lib.hid ((QX6.out.keep hb).keep hal)
                  have HX7 := Lib.hid ((HX6.out.below hb).below hal)
                  have HY7 := Lib.hid (h3.below hal)
                  have HB7 := Lib.hid ((HB6.out.trans (hb.mono HB6.out.size)).trans (hal.mono (Nat.le_trans HB6.out.size hb.size)))
                  clear h1 h2 h3 hb hal b0 b1 HE HTS QX6 HX6 HB6
                  obtain ⟨t0, t1, -, -⟩ := QX7.out.two
                  obtain ⟨y0, y1, -, -⟩ := QY.out.two
                  go_wp2_with fail
                  refine (alive4_any _).mono ?_
                  rintro e x8 ⟨rfl, hb⟩
                  have HB5 := Lib.hid (HB7.out.trans (hb.mono HB7.out.size))
                  have QX8 := Lib.hid (QX7.out.keep hb)
                  have QY8 := Lib.hid (QY.out.keep hb)
                  have HX8 := Lib.hid (HX7.out.below hb)
                  have HY8 := Lib.hid (HY7.out.below hb)
                  clear hb t0 t1 y0 y1
                  obtain ⟨t0, t1, -, -⟩ := QX8.out.two
                  obtain ⟨y0, y1, -, -⟩ := QY8.out.two
                  go_wp2_with fail
                  refine (same3_any n n A2 A4 M2.length M2.length M2.length M2.length _ _ _ _ _ HX8.out HY8.out HML.out (fun j => mk_short n hn M2 j)).mono ?_
                  rw [sameM_self]
                  rintro e x9 ⟨rfl, hb⟩
                  have HB9 := Lib.hid (HB5.out.trans (hb.mono HB5.out.size))
                  clear hb
                  go_wp2_with fail
                  go_ret
                  exact ⟨by simp, HB9.out⟩
end
section
/- Contracts of layer 4's reference: First. -/
set_option linter.unusedVariables false
set_option linter.unusedSimpArgs false
open Go.RowKit
set_option maxRecDepth 100000
theorem rbit_any (N x p : Nat) (hN : N ≤ 512) (A : Option Addr) (l c : Nat) (hp : p < N) (w : World) (hw : Words w A l (rowOf N x)) :
    Calls Try.prog 41 #[.agg #[.int .i64 (N : Int), .slice A l c], .int .i64 (p : Int)] w fun e w' => e = .returned (.int .i64 (if x.testBit p then 1 else 0)) ∧ Below w.heap.size w w' := by
  have hl : l = nw N := by rw [← rowOf_len N x]; exact hw.1.symm
  have h := bit_any (N : Int) A l c p (rowOf N x) w hw (by rw [hl]; unfold nw; omega) (by rw [hl]; unfold nw; omega)
  rw [rowOf_bitN N x p hp] at h
  refine h.mono ?_
  rintro e w' ⟨rfl, hb⟩
  exact ⟨by split <;> rfl, hb⟩
theorem first_any (N x : Nat) (hN : N ≤ 512) (hx : x < 2 ^ N) (A : Option Addr) (l c : Nat) (w : World) (hw : Words w A l (rowOf N x)) :
    Calls Try.prog 35 #[.agg #[.int .i64 (N : Int), .slice A l c]] w fun e w' => ((∃ p : Nat, IsLow x p ∧ e = .returned (.int .i64 (p : Int))) ∨ (x = 0 ∧ e = .returned (.int .i64 (-1)))) ∧ Below w.heap.size w w' := by
  have hW : Below w.heap.size w (w.alloc (.cells #[.int .i64 N, .slice A l c] 40)) := (Below.refl _ _).alloc (Nat.le_refl _) _
  have Q := Lib.hid (Box.new w 40 #[.int .i64 (N : Int), .slice A l c])
  have HWd := Lib.hid (hw.below hW)
  have HW := Lib.hid hW
  have HX := Lib.hid hx
  clear hw hW hx
  obtain ⟨q0, q1, -, -⟩ := Q.out.two
  go_enter Try.func35, Try.ntmps35
  go_wp2
  clear q0 q1
  go_loopw [3] (fun t wr => ∃ i : Nat, i ≤ N ∧ t = .int .i64 (i : Int) ∧ Hid (∀ j, j < i → x.testBit j = false) ∧ Hid (Below w.heap.size w wr) ∧ Hid (Box wr w.heap.size 40 #[.int .i64 (N : Int), .slice A l c]) ∧ Hid (Words wr A l (rowOf N x))) (fun t _ => N - (intOf t).toNat)
  case atStart => exact ⟨0, Nat.zero_le _, rfl, Lib.hid (fun j hj => absurd hj (Nat.not_lt_zero _)), HW, Q, HWd⟩
  case round =>
    obtain ⟨i, hi, rfl, HF, HB, HQ, HWr⟩ := hrel
    obtain ⟨q0, q1, -, -⟩ := HQ.out.two
    by_cases hlt : i < N
    · have hlt' : (i : Int) < (N : Int) := by omega
      have HC := Lib.hid (rbit_any N x i hN A l c hlt _ HWr.out)
      cases hb : x.testBit i with
      | true =>
        rw [hb] at HC
        have HL := Lib.hid (show IsLow x i from ⟨hb, HF.out⟩)
        clear hb
        go_wp2_with fail
        refine HC.out.mono ?_
        rintro e w1 ⟨rfl, hb⟩
        have B := Lib.hid (HB.out.trans (hb.mono HB.out.size))
        clear hb
        go_wp2_with fail
        go_ret
        exact ⟨.inl ⟨i, HL.out, rfl⟩, B.out⟩
      | false =>
        rw [hb] at HC
        have HF2 := Lib.hid (show ∀ j, j < i + 1 → x.testBit j = false from fun j hj => by
          by_cases h : j < i
          · exact HF.out j h
          · obtain rfl : j = i := by omega
            exact hb)
        clear hb
        go_wp2_with fail
        refine HC.out.mono ?_
        rintro e w1 ⟨rfl, hb⟩
        have B := Lib.hid (HB.out.trans (hb.mono HB.out.size))
        have Q2 := Lib.hid (HQ.out.keep hb)
        have W2 := Lib.hid (HWr.out.below hb)
        clear hb q0 q1
        obtain ⟨q0, q1, -, -⟩ := Q2.out.two
        go_wp2_with fail
        go_roundw
        case rel => exact ⟨i + 1, by omega, by go_num, HF2, B, Q2, W2⟩
        case measure => simp [intOf]; omega
    · obtain rfl : i = N := by omega
      have hlt' : ¬ (i : Int) < (i : Int) := by omega
      have HZ := Lib.hid (show x = 0 from Nat.eq_of_testBit_eq fun j => by
        rw [Nat.zero_testBit]
        by_cases h : j < i
        · exact HF.out j h
        · exact Nat.testBit_lt_two_pow (Nat.lt_of_lt_of_le HX.out (Nat.pow_le_pow_right (by omega) (by omega))))
      go_wp2_with fail
      go_ret
      exact ⟨.inr ⟨HZ.out, rfl⟩, HB.out⟩
end
section
/- The reference's Xor: rows of the call's own. -/
set_option linter.unusedVariables false
set_option linter.unusedSimpArgs false
open Go.RowKit
set_option maxRecDepth 100000
set_option maxHeartbeats 2000000 in
theorem refXor_own (n : Nat) (A B : Option Addr) (l c k d : Nat) (us vs : List Nat) (w : World) (hu : Words w A l us) (hv : Words w B k vs) (h1 : rightB n us = true) (h2 : rightB n vs = true) :
    Calls Try.prog 55 #[.agg #[.int .i64 n, .slice A l c], .agg #[.int .i64 n, .slice B k d]] w (OneOwn n (xorL us vs) w) := by
  obtain ⟨i0, hi, hz0, hz1, hz2⟩ := info_parts int_info
  have hn := (lmb_iff n).1 (right_lmb h1)
  have q0 := ((Box.new w 40 #[.int .i64 n, .slice A l c]).alloc (.cells #[.int .i64 n, .slice B k d] 40)).alloc (.cells #[.int .i64 0, .slice none 0 0] 40)
  have q1 := (Box.new (w.alloc (.cells #[.int .i64 n, .slice A l c] 40)) 40 #[.int .i64 n, .slice B k d]).alloc (.cells #[.int .i64 0, .slice none 0 0] 40)
  have q2 := Box.new ((w.alloc (.cells #[.int .i64 n, .slice A l c] 40)).alloc (.cells #[.int .i64 n, .slice B k d] 40)) 40 #[.int .i64 0, .slice none 0 0]
  have hW : Below w.heap.size w (((w.alloc (.cells #[.int .i64 n, .slice A l c] 40)).alloc (.cells #[.int .i64 n, .slice B k d] 40)).alloc (.cells #[.int .i64 0, .slice none 0 0] 40)) := (((Below.refl _ _).alloc (Nat.le_refl _) _).alloc (by simp) _).alloc (by simp; omega) _
  simp only [World.size_alloc] at q1 q2
  go_enter Try.func55, Try.ntmps55
  go_wp2
  have hz := q2.lt
  have how := (own_empty (((w.alloc (.cells #[.int .i64 n, .slice A l c] 40)).alloc (.cells #[.int .i64 n, .slice B k d] 40)).alloc (.cells #[.int .i64 0, .slice none 0 0] 40)) w.heap.size 3 hW.size)
  simp only [World.size_alloc] at how
  have HOw := Lib.hid how
  clear how
  have Q0 := Lib.hid (q0.alloc (.cells #[] 3))
  have Q1 := Lib.hid (q1.alloc (.cells #[] 3))
  have Q2 := Lib.hid (q2.alloc (.cells #[] 3))
  have HW := Lib.hid (hW.alloc hW.size (.cells #[] 3))
  have HU := Lib.hid hu
  have HV := Lib.hid hv
  have HR1 := Lib.hid h1
  have HR2 := Lib.hid h2
  have hl8 := rightB_len8 h1 hu.1
  have hl := right_len_eq h1
  rw [hu.1, Int.toNat_natCast] at hl
  have hk := right_len_eq h2
  rw [hv.1, Int.toNat_natCast] at hk
  have hn64 : n ≤ 64 * l := by rw [hl]; unfold nw; omega
  have hn64' : n ≤ 64 * k := by rw [hk]; unfold nw; omega
  have hk8 := rightB_len8 h2 hv.1
  clear q0 q1 q2 hW hu hv h1 h2 hz hl hk
  have HI := Lib.hid hi
  have HZ0 := Lib.hid hz0
  have HZ1 := Lib.hid hz1
  have HZ2 := Lib.hid hz2
  clear hi hz0 hz1 hz2
  go_loopw [5, 6] (fun v t wr => ∃ i : Nat, i ≤ n ∧ t = .int .i64 i ∧ wr.ownsRow w.heap.size 3 1 v i ((bitSums (fun x y => (x + y) % 2) us vs i).map (Value.int .i64)) ∧ Box wr w.heap.size 40 #[.int .i64 n, .slice A l c] ∧ Box wr (w.heap.size + 1) 40 #[.int .i64 n, .slice B k d] ∧ Box wr (w.heap.size + 1 + 1) 40 #[.int .i64 0, .slice none 0 0] ∧ Below w.heap.size w wr)
    (fun _ t _ => n - (intOf t).toNat)
  case atStart => exact ⟨0, by omega, rfl, HOw.out, Q0.out, Q1.out, Q2.out, HW.out⟩
  case round =>
    obtain ⟨i, hi, rfl, hown, B0, B1, B2, hbel⟩ := hrel
    have R0 := Lib.hid B0
    have R1 := Lib.hid B1
    have R2 := Lib.hid B2
    have HO := Lib.hid hown
    have HB := Lib.hid hbel
    clear B0 B1 B2 hown hbel Q0 Q1 Q2 HW HOw
    obtain ⟨a0, a1, -, -⟩ := R0.out.two
    obtain ⟨b0, b1, -, -⟩ := R1.out.two
    by_cases hlt : i < n
    · have hlt' : (i : Int) < (n : Int) := by omega
      have bu := bitAt_le us i
      have bv := bitAt_le vs i
      have hi' := HI.out
      have hz0' := HZ0.out
      have hz1' := HZ1.out
      have hz2' := HZ2.out
      have hz := R2.out.lt
      have hne := Lib.hid (show (3 : TypeId) ≠ 40 by decide)
      generalize hX : bitAt us i = x at *
      generalize hY : bitAt vs i = y at *
      have HX := Lib.hid hX
      have HY := Lib.hid hY
      clear hX hY
      have hxy : (x : Int) + y ≤ 2 := by omega
      have hxy0 : 0 ≤ (x : Int) + y := by omega
      have f1 : IntKind.i64.wrap ((x : Int) + y) = (x : Int) + y := IntWalk.i64_in _ (by omega)
      have f2 : ((x : Int) + y).tmod 2 = (((x + y) % 2 : Nat) : Int) := by rw [Int.tmod_eq_emod_of_nonneg (by omega)]; omega
      have HC1 := Lib.hid (fun (W : World) (h : Words W A l us) => bit_any n A l c i us W h (by omega) (by omega))
      have HC2 := Lib.hid (fun (W : World) (h : Words W B k vs) => bit_any n B k d i vs W h (by omega) (by omega))
      rw [HX.out] at HC1
      rw [HY.out] at HC2
      go_wp2
      go_region_held3 (fun w' => w'.cell? ⟨w.heap.size, 0, none⟩ = some (.int .i64 n) ∧ w'.cell? ⟨w.heap.size, 1, none⟩ = some (.slice A l c) ∧ w'.cell? ⟨w.heap.size + 1, 0, none⟩ = some (.int .i64 n) ∧ w'.cell? ⟨w.heap.size + 1, 1, none⟩ = some (.slice B k d))
        (go_keep)
        (first
          | (go_at_call_of 41 (Value.agg #[.int .i64 n, .slice A l c]); refine (HC1.out _ (HU.out.below HB.out).drew).mono ?_; rintro e1 x1 ⟨rfl, hb1⟩; have P0 := Lib.hid (R0.out.drew.keep hb1); have P1 := Lib.hid (R1.out.drew.keep hb1); have P2 := Lib.hid (R2.out.drew.keep hb1); have O1 := Lib.hid (own_keep HO.out.drew hb1); have T1 := Lib.hid (chain HB.out.drew hb1); clear hb1; obtain ⟨k0, k1, -, -⟩ := P0.out.two; obtain ⟨k2, k3, -, -⟩ := P1.out.two)
          | (go_at_call_of 41 (Value.agg #[.int .i64 n, .slice B k d]); refine (HC2.out _ (HV.out.below T1.out)).mono ?_; rintro e2 x2 ⟨rfl, hb2⟩; have S0 := Lib.hid (P0.out.keep hb2); have S1 := Lib.hid (P1.out.keep hb2); have S2 := Lib.hid (P2.out.keep hb2); have O2 := Lib.hid (own_keep O1.out hb2); have T2 := Lib.hid (chain T1.out hb2); clear hb2; obtain ⟨m0, m1, -, -⟩ := S0.out.two; obtain ⟨m2, m3, -, -⟩ := S1.out.two; have X0 := Lib.hid (S0.out.alloc (.cells #[.int .i64 (((x + y) % 2 : Nat) : Int)] 3)); have X1 := Lib.hid (S1.out.alloc (.cells #[.int .i64 (((x + y) % 2 : Nat) : Int)] 3)); have X2 := Lib.hid (S2.out.alloc (.cells #[.int .i64 (((x + y) % 2 : Nat) : Int)] 3)); have XO := Lib.hid (O2.out.alloc (.cells #[.int .i64 (((x + y) % 2 : Nat) : Int)] 3)); have XB := Lib.hid (T2.out.alloc T2.out.size (.cells #[.int .i64 (((x + y) % 2 : Nat) : Int)] 3)); have N0 := Lib.hid (own_ne XO.out X0.out hne.out); have N1 := Lib.hid (own_ne XO.out X1.out hne.out); have N2 := Lib.hid (own_ne XO.out X2.out hne.out); have N3 := Lib.hid (fun k hk => (O2.out.lt k hk).1))
          | (refine step_append_lies _ (by rfl) _ _ _ (by rfl) w.heap.size 3 i0 _ 1 8 Try.underlying26 hi' hz0' hz1' hz2' rfl (by omega) _ _ _ (by rfl) XO.out ⟨x2.heap.size, 0, none⟩ 1 1 [.int .i64 (((x + y) % 2 : Nat) : Int)] (by rfl) (by rfl) (cell_one_new _ _ _) (by simp [Value.oneCell']) (by omega) (by simp [maxLen]; omega) (by omega) XB.out.size (x2.heap.size + 1) (by simp) ?_; intro gg cap w1 hown1 hgrow hat hlg; have Y0 := Lib.hid (X0.out.grown hgrow N0.out); have Y1 := Lib.hid (X1.out.grown hgrow N1.out); have Y2 := Lib.hid (X2.out.grown hgrow N2.out); have YB := Lib.hid (XB.out.grown hgrow XB.out.size N3.out); have YO := Lib.hid hown1; clear hgrow hat hown1; obtain ⟨p0, p1, -, -⟩ := Y0.out.two; obtain ⟨p2, p3, -, -⟩ := Y1.out.two))
      clear p0 p1 p2 p3 m0 m1 m2 m3 k0 k1 k2 k3 a0 a1 b0 b1 f1 f2 hi' hz0' hz1' hz2'
      go_wp2
      go_roundw
      case rel =>
        refine ⟨i + 1, by omega, by go_num, ?_, Y0.out, Y1.out, Y2.out, YB.out⟩
        have h := YO.out
        rw [bitSums_succ, List.map_append, HX.out, HY.out]
        exact h
      case measure => simp [intOf] <;> omega
    · obtain rfl : i = n := by omega
      have hlt' : ¬ (i : Int) < (i : Int) := by omega
      obtain ⟨A', c', rfl, hA'⟩ := own_form HO.out
      go_wp2_with fail
      refine (from_own A' i c' _ _ (own_ints HO.out (bitSums_lt us vs i)) (by omega)).mono ?_
      rintro e x1 ⟨A1, l1, c1, rfl, hw, hb⟩
      have P2 := Lib.hid (R2.out.keep hb)
      have T1 := Lib.hid (chain HB.out hb)
      have HWo := Lib.hid hw
      clear hw hb a0 a1 b0 b1
      obtain ⟨r0, r1, r2, r3⟩ := P2.out.two
      go_wp2
      refine close_one Try.results55 rfl rfl P2.out.put2 Try.underlying40 rfl (by kernel_rfl) ⟨_, _, _, rfl, ?_, ?_⟩
      · have h := HWo.out
        rw [from_xor i us vs HR1.out HR2.out HU.out.2.1 HV.out.2.1] at h
        exact h.put2 P2.out _ _
      · exact (T1.out.setCell (p := ⟨w.heap.size + 1 + 1, 0, none⟩) (by simp; omega) _).setCell (p := ⟨w.heap.size + 1 + 1, 1, none⟩) (by simp; omega) _

theorem refXor_num (N x y : Nat) (hN : N ≤ 512) (hx : x < 2 ^ N) (hy : y < 2 ^ N) (A B : Option Addr) (l c k d : Nat) (w : World) (hu : Words w A l (rowOf N x)) (hv : Words w B k (rowOf N y)) :
    Calls Try.prog 55 #[.agg #[.int .i64 (N : Int), .slice A l c], .agg #[.int .i64 (N : Int), .slice B k d]] w (OneOwn N (rowOf N (x ^^^ y)) w) := by
  have h := refXor_own N A B l c k d (rowOf N x) (rowOf N y) w hu hv (rowOf_right N x hN hx) (rowOf_right N y hN hy)
  rw [rowOf_xor] at h
  exact h
end
section
/- The reference's Left. -/
set_option linter.unusedVariables false
set_option linter.unusedSimpArgs false
open Go.RowKit
set_option maxRecDepth 100000
theorem first_low (N x p : Nat) (hN : N ≤ 512) (hx : x < 2 ^ N) (hp : IsLow x p) (A : Option Addr) (l c : Nat) (w : World) (hw : Words w A l (rowOf N x)) :
    Calls Try.prog 35 #[.agg #[.int .i64 (N : Int), .slice A l c]] w fun e w' => e = .returned (.int .i64 (p : Int)) ∧ Below w.heap.size w w' := by
  refine (first_any N x hN hx A l c w hw).mono ?_
  rintro e w' ⟨⟨q, hq, rfl⟩ | ⟨rfl, rfl⟩, hb⟩
  · rw [hq.uniq hp]; exact ⟨rfl, hb⟩
  · exact absurd hp.1 (by simp)
theorem low_lt {N x p : Nat} (hx : x < 2 ^ N) (hp : IsLow x p) : p < N := by
  apply Classical.byContradiction
  intro h
  have := Nat.testBit_lt_two_pow (Nat.lt_of_lt_of_le hx (Nat.pow_le_pow_right (by omega) (show N ≤ p by omega)))
  rw [hp.1] at this; cases this
theorem leftN_lt {N : Nat} {L P : List Nat} (hL : ∀ i, L.getD i 0 < 2 ^ N) (x : Nat) (hx : x < 2 ^ N) : ∀ k, leftN L P x k < 2 ^ N
  | 0 => hx
  | k + 1 => by
    unfold leftN
    split
    · exact Nat.xor_lt_two_pow (leftN_lt hL x hx k) (hL k)
    · exact leftN_lt hL x hx k
/-- What Left leaves: a row, its words anywhere. -/
def LeftOut (N z : Nat) (w : World) (e : Ending) (w' : World) : Prop :=
  ∃ A l c, e = .returned (.agg #[.int .i64 (N : Int), .slice A l c]) ∧ SliceOk A l c ∧ Words w' A l (rowOf N z) ∧ Below w.heap.size w w'
theorem left_any (N : Nat) (hN : N ≤ 512) (L P : List Nat) (hR : Rref L P) (hL : ∀ r ∈ L, r < 2 ^ N) (hlen : L.length ≤ 100) (x : Nat) (hx : x < 2 ^ N) (A B : Option Addr) (c l d lo : Nat) (w : World) (hm : MatAt w lo A L.length (mkM N L)) (hs : SliceOk B l d) (hw : Words w B l (rowOf N x)) :
    Calls Try.prog 34 #[.slice A L.length c, .agg #[.int .i64 (N : Int), .slice B l d]] w (LeftOut N (leftN L P x L.length) w) := by
  have hW : Below w.heap.size w (w.alloc (.cells #[.int .i64 N, .slice B l d] 40)) := (Below.refl _ _).alloc (Nat.le_refl _) _
  have Q := Lib.hid (Box.new w 40 #[.int .i64 (N : Int), .slice B l d])
  have HWd := Lib.hid (hw.below hW)
  have HW := Lib.hid hW
  have HX := Lib.hid hx
  have HM := Lib.hid hm
  have HS := Lib.hid hs
  have HLt := Lib.hid (lt_all hL)
  clear hw hW hx hm hs
  obtain ⟨q0, q1, -, -⟩ := Q.out.two
  go_enter Try.func34, Try.ntmps34
  have hW2 := (HW.out.alloc HW.out.size (.cells #[.int .i64 0, .slice none 0 0] 40))
  have Q0 := Lib.hid (Q.out.alloc (.cells #[.int .i64 0, .slice none 0 0] 40))
  have q1' := Box.new (w.alloc (.cells #[.int .i64 N, .slice B l d] 40)) 40 #[.int .i64 0, .slice none 0 0]
  simp only [World.size_alloc] at q1'
  have Q1 := Lib.hid q1'
  have HW0 := Lib.hid (HWd.out.alloc (.cells #[.int .i64 0, .slice none 0 0] 40))
  have HB0 := Lib.hid hW2
  clear hW2 q1'
  go_wp2_with fail
  clear q0 q1
  go_loopw [9] (fun t wr => ∃ (i : Nat) (B' : Option Addr) (l' d' : Nat), i ≤ L.length ∧ t = .int .i64 (i : Int) ∧ Hid (Box wr w.heap.size 40 #[.int .i64 (N : Int), .slice B' l' d']) ∧ Hid (Box wr (w.heap.size + 1) 40 #[.int .i64 0, .slice none 0 0]) ∧ Hid (SliceOk B' l' d') ∧ Hid (Words wr B' l' (rowOf N (leftN L P x i))) ∧ Hid (Below w.heap.size w wr)) (fun t _ => L.length - (intOf t).toNat)
  case atStart => exact ⟨0, B, l, d, Nat.zero_le _, rfl, Q0, Q1, HS, HW0, HB0⟩
  case round =>
    obtain ⟨i, B', l', d', hi, rfl, R0, R1, HS', HWr, HB⟩ := hrel
    clear Q0 Q1 HW0 HB0 HS HWd Q HW
    by_cases hlt : i < L.length
    · have hlt' : (i : Int) < (L.length : Int) := by omega
      obtain ⟨b, off, B1, l1, c1, rfl, hbl, x0, x1, hs, hw⟩ := (HM.out.mono (Nat.le_refl _) HB.out).at i hlt
      rw [mkM_at N L i hlt] at x0 hw
      simp only [mkR] at x0 hw
      have hal : Below wr.heap.size wr (wr.alloc (.cells #[.int .i64 (N : Int), .slice B1 l1 c1] 40)) := (Below.refl _ _).alloc (Nat.le_refl _) _
      have E := Lib.hid (Box.new wr 40 #[.int .i64 (N : Int), .slice B1 l1 c1])
      have R0 := Lib.hid (R0.out.keep hal)
      have R1 := Lib.hid (R1.out.keep hal)
      have HB := Lib.hid (chain HB.out hal)
      have HWx := Lib.hid (hw.below hal)
      have HWr := Lib.hid (HWr.out.below hal)
      have HLow := Lib.hid (hR.low i hlt)
      have HPN := Lib.hid (low_lt (HLt.out i) HLow.out)
      have HLv := Lib.hid (leftN_lt (P := P) HLt.out x HX.out i)
      have HFst := Lib.hid (fun w' (h : Words w' B1 l1 (rowOf N (L.getD i 0))) => first_low N _ _ hN (HLt.out i) HLow.out B1 l1 c1 w' h)
      have HBt := Lib.hid (fun w' (h : Words w' B' l' (rowOf N (leftN L P x i))) => rbit_any N _ _ hN B' l' d' HPN.out w' h)
      have DX := Lib.hid (HWx.out.drew)
      have DR := Lib.hid (HWr.out.drew)
      clear hal hw hs
      obtain ⟨e0, e1, -, -⟩ := E.out.two
      obtain ⟨r0, r1, rf0, rf1⟩ := R0.out.two
      cases hb : (leftN L P x i).testBit (P.getD i 0) with
      | true =>
        rw [hb] at HBt
        have HN := Lib.hid (show leftN L P x (i + 1) = leftN L P x i ^^^ L.getD i 0 by rw [leftN, if_pos hb])
        clear hb
        go_wp2_with fail
        go_region_held3 (fun w' => w'.cell? ⟨w.heap.size, 0, none⟩ = some (.int .i64 (N : Int)) ∧ w'.cell? ⟨w.heap.size, 1, none⟩ = some (.slice B' l' d') ∧ w'.cell? ⟨wr.heap.size, 0, none⟩ = some (.int .i64 (N : Int)) ∧ w'.cell? ⟨wr.heap.size, 1, none⟩ = some (.slice B1 l1 c1)) (go_keep)
          (first
            | (go_at_call 35; refine (HFst.out _ DX.out).mono ?_; rintro f1 y1 ⟨rfl, hb⟩; have R0a := Lib.hid (R0.out.drew.keep hb); have R1a := Lib.hid (R1.out.drew.keep hb); have Ea := Lib.hid (E.out.drew.keep hb); have HBa := Lib.hid (chainN HB.out.drew HB.out.size hb); have DXa := Lib.hid (DX.out.below hb); have DRa := Lib.hid (DR.out.below hb); clear hb; obtain ⟨s0, s1, -, -⟩ := R0a.out.two; obtain ⟨t0, t1, -, -⟩ := Ea.out.two)
            | (go_at_call 41; refine (HBt.out _ DRa.out).mono ?_; rintro f2 y2 ⟨rfl, hb⟩; have R0b := Lib.hid (R0a.out.keep hb); have R1b := Lib.hid (R1a.out.keep hb); have Eb := Lib.hid (Ea.out.keep hb); have HBb := Lib.hid (chainN HBa.out HBa.out.size hb); have DXb := Lib.hid (DXa.out.below hb); have DRb := Lib.hid (DRa.out.below hb); clear hb; obtain ⟨u0, u1, -, -⟩ := R0b.out.two; obtain ⟨v0, v1, -, -⟩ := Eb.out.two))
        clear s0 s1 t0 t1 r0 r1 e0 e1
        go_wp2_with fail
        refine (refXor_num N _ _ hN HLv.out (HLt.out i) B' B1 l' d' l1 c1 _ DRb.out DXb.out).mono ?_
        rw [← HN.out]
        rintro e y3 ⟨A3, l3, c3, rfl, ow, hb⟩
        have R0c := Lib.hid (R0b.out.keep hb)
        have R1c := Lib.hid (R1b.out.keep hb)
        have HBc := Lib.hid (chainN HBb.out HBb.out.size hb)
        have OW := Lib.hid ow
        clear hb ow u0 u1 v0 v1
        obtain ⟨u0, u1, uf0, uf1⟩ := R0c.out.two
        go_wp2_with fail
        go_roundw
        case rel => exact ⟨i + 1, A3, l3, c3, by omega, by go_num, Lib.hid R0c.out.put2, Lib.hid ((R1c.out.far (p := ⟨w.heap.size, 0, none⟩) (by simp) _).far (p := ⟨w.heap.size, 1, none⟩) (by simp) _), Lib.hid OW.out.ok, Lib.hid ((OW.out.words (rowOf_lt N _)).put2 R0c.out _ _), Lib.hid ((HBc.out.setCell (p := ⟨w.heap.size, 0, none⟩) (Nat.le_refl _) _).setCell (p := ⟨w.heap.size, 1, none⟩) (Nat.le_refl _) _)⟩
        case measure => simp [intOf] <;> omega
      | false =>
        rw [hb] at HBt
        have HN := Lib.hid (show leftN L P x (i + 1) = leftN L P x i by rw [leftN, hb]; rfl)
        clear hb
        go_wp2_with fail
        go_region_held3 (fun w' => w'.cell? ⟨w.heap.size, 0, none⟩ = some (.int .i64 (N : Int)) ∧ w'.cell? ⟨w.heap.size, 1, none⟩ = some (.slice B' l' d') ∧ w'.cell? ⟨wr.heap.size, 0, none⟩ = some (.int .i64 (N : Int)) ∧ w'.cell? ⟨wr.heap.size, 1, none⟩ = some (.slice B1 l1 c1)) (go_keep)
          (first
            | (go_at_call 35; refine (HFst.out _ DX.out).mono ?_; rintro f1 y1 ⟨rfl, hb⟩; have R0a := Lib.hid (R0.out.drew.keep hb); have R1a := Lib.hid (R1.out.drew.keep hb); have Ea := Lib.hid (E.out.drew.keep hb); have HBa := Lib.hid (chainN HB.out.drew HB.out.size hb); have DXa := Lib.hid (DX.out.below hb); have DRa := Lib.hid (DR.out.below hb); clear hb; obtain ⟨s0, s1, -, -⟩ := R0a.out.two; obtain ⟨t0, t1, -, -⟩ := Ea.out.two)
            | (go_at_call 41; refine (HBt.out _ DRa.out).mono ?_; rintro f2 y2 ⟨rfl, hb⟩; have R0b := Lib.hid (R0a.out.keep hb); have R1b := Lib.hid (R1a.out.keep hb); have Eb := Lib.hid (Ea.out.keep hb); have HBb := Lib.hid (chainN HBa.out HBa.out.size hb); have DXb := Lib.hid (DXa.out.below hb); have DRb := Lib.hid (DRa.out.below hb); clear hb; obtain ⟨u0, u1, -, -⟩ := R0b.out.two; obtain ⟨v0, v1, -, -⟩ := Eb.out.two))
        clear s0 s1 t0 t1 r0 r1 e0 e1
        go_wp2_with fail
        go_roundw
        case rel => exact ⟨i + 1, B', l', d', by omega, by go_num, R0b, R1b, HS', by rw [HN.out]; exact DRb, HBb⟩
        case measure => simp [intOf] <;> omega
    · obtain rfl : i = L.length := by omega
      have hlt' : ¬ (L.length : Int) < (L.length : Int) := by omega
      obtain ⟨r0, r1, -, -⟩ := R0.out.two
      obtain ⟨s0, s1, sf0, sf1⟩ := R1.out.two
      go_wp2_with fail
      refine close_one Try.results34 rfl rfl R1.out.put2 Try.underlying40 rfl (by kernel_rfl) ⟨_, _, _, rfl, HS'.out, HWr.out.put2 R1.out _ _, ?_⟩
      exact (HB.out.setCell (p := ⟨w.heap.size + 1, 0, none⟩) (by simp) _).setCell (p := ⟨w.heap.size + 1, 1, none⟩) (by simp) _
end
section
/- The reference's with. -/
set_option linter.unusedVariables false
set_option linter.unusedSimpArgs false
open Go.RowKit
set_option maxRecDepth 100000
/-- A row of the reference's: its words are the argument's (at the world w0) or its own. -/
def RowQ (w0 w : World) (N : Nat) (r : RowV) (x : Nat) : Prop := r.1 = (N : Int) ∧ SliceOk r.2.1 r.2.2.1 r.2.2.2 ∧ (Words w0 r.2.1 r.2.2.1 (rowOf N x) ∨ OwnW w r.2.1 r.2.2.1 r.2.2.2 (rowOf N x))
def RowsQ (w0 w : World) (base : Nat) (v : Value) (N : Nat) (K : List Nat) : Prop :=
  ∃ rs : List RowV, rs.length = K.length ∧ w.ownsRow base 40 2 v K.length (rowCells rs) ∧ ∀ j, j < K.length → RowQ w0 w N (rs.getD j (0, none, 0, 0)) (K.getD j 0)
theorem RowQ.below {w0 w w' : World} {N : Nat} {r : RowV} {x : Nat} (h : RowQ w0 w N r x) (hb : Below w.heap.size w w') : RowQ w0 w' N r x := ⟨h.1, h.2.1, h.2.2.imp id (fun o => o.below hb)⟩
theorem RowsQ.below {w0 w w' : World} {base : Nat} {v : Value} {N : Nat} {K : List Nat} (h : RowsQ w0 w base v N K) (hb : Below w.heap.size w w') : RowsQ w0 w' base v N K := by
  obtain ⟨rs, h1, h2, h3⟩ := h
  exact ⟨rs, h1, own_keep h2 hb, fun j hj => (h3 j hj).below hb⟩
theorem RowsQ.appended {w0 w : World} {base : Nat} {v : Value} {N : Nat} {K : List Nat} {B : Option Addr} {l d y : Nat} (h : RowsQ w0 w base v N K) (hn : RowQ w0 w N ((N : Int), B, l, d) y) :
    ∃ rs : List RowV, (w.alloc (.cells #[.int .i64 (N : Int), .slice B l d] 40)).ownsRow base 40 2 v K.length (rowCells rs) ∧ ∀ v' w1, w1.ownsRow base 40 2 v' (K.length + 1) (rowCells rs ++ [.int .i64 (N : Int), .slice B l d]) → (w.alloc (.cells #[.int .i64 (N : Int), .slice B l d] 40)).grownBy w1 v.ownBlock → RowsQ w0 w1 base v' N (K ++ [y]) := by
  obtain ⟨rs, h1, h2, h3⟩ := h
  have h2' := World.ownsRow.alloc h2 (.cells #[.int .i64 (N : Int), .slice B l d] 40)
  have al : Below w.heap.size w (w.alloc (.cells #[.int .i64 (N : Int), .slice B l d] 40)) := (Below.refl _ _).alloc (Nat.le_refl _) _
  refine ⟨rs, h2', fun v' w1 ho hg => ⟨rs ++ [((N : Int), B, l, d)], by simp [h1], by rw [rowCells_snoc, List.length_append]; exact ho, fun j hj => ?_⟩⟩
  have gr : ∀ {r : RowV} {x : Nat}, RowQ w0 w N r x → RowQ w0 w1 N r x := fun q => ⟨q.1, q.2.1, q.2.2.imp id (fun o => (o.below al).grown h2' (by decide) hg)⟩
  rw [List.length_append] at hj
  by_cases hm : j < K.length
  · have e1 : (rs ++ [((N : Int), B, l, d)]).getD j (0, none, 0, 0) = rs.getD j (0, none, 0, 0) := by simp only [List.getD]; rw [List.getElem?_append_left (by omega)]
    have e2 : (K ++ [y]).getD j 0 = K.getD j 0 := by simp only [List.getD]; rw [List.getElem?_append_left (by omega)]
    rw [e1, e2]; exact gr (h3 j hm)
  · obtain rfl : j = K.length := by simp at hj; omega
    have e1 : (rs ++ [((N : Int), B, l, d)]).getD K.length (0, none, 0, 0) = ((N : Int), B, l, d) := by rw [← h1]; simp [List.getD]
    have e2 : (K ++ [y]).getD K.length 0 = y := by simp [List.getD]
    rw [e1, e2]; exact gr hn
theorem RowsQ.mat {w0 w : World} {base : Nat} {v : Value} {N : Nat} {K : List Nat} (h : RowsQ w0 w base v N K) {B : Nat} (hB : w0.heap.size ≤ B) (hb : Below B w0 w) : ∃ A c, v = .slice A K.length c ∧ K.length ≤ c ∧ MatAt w 0 A K.length (mkM N K) := by
  obtain ⟨rs, h1, h2, h3⟩ := h
  obtain ⟨A, c, e, hc, hm⟩ := own_mat h2 h1 (mkM N K) (mkM_len N K) (fun j hj => by
    obtain ⟨a1, a2, a3⟩ := h3 j hj
    rw [mkM_at N K j hj]
    exact ⟨a1, a2, by rcases a3 with a3 | a3; exact a3.mono hB hb; exact a3.words (rowOf_lt N _)⟩)
  exact ⟨A, c, e, hc, hm.low (Nat.zero_le _)⟩
/-- The rows ahead of the new one, i of the old ones looked at. -/
def withP (L : List Nat) (z a m i : Nat) : List Nat := (L.take (min i m)).map (fun x => if x.testBit a then x ^^^ z else x)
theorem withP_lt (L : List Nat) (z a m i : Nat) (hi : i < m) (hl : i < L.length) : withP L z a m (i + 1) = withP L z a m i ++ [if (L.getD i 0).testBit a then L.getD i 0 ^^^ z else L.getD i 0] := by
  unfold withP
  rw [Nat.min_eq_left (by omega), Nat.min_eq_left (by omega), List.take_succ_eq_append_getElem hl, List.map_append]
  simp [List.getD, hl]
theorem withP_ge (L : List Nat) (z a m i : Nat) (hi : m ≤ i) : withP L z a m (i + 1) = withP L z a m i := by
  unfold withP
  rw [Nat.min_eq_right (by omega), Nat.min_eq_right (by omega)]
theorem withP_len (L : List Nat) (z a m i : Nat) : (withP L z a m i).length ≤ L.length := by
  unfold withP; rw [List.length_map, List.length_take]; omega
/-- The rows behind it. -/
def withD (L : List Nat) (m i : Nat) : List Nat := (L.drop m).take (i - m)
theorem withD_lt (L : List Nat) (m i : Nat) (hi : i < m) : withD L m (i + 1) = withD L m i := by
  unfold withD; rw [show i + 1 - m = 0 by omega, show i - m = 0 by omega]
theorem withD_ge (L : List Nat) (m i : Nat) (hi : m ≤ i) (hl : i < L.length) : withD L m (i + 1) = withD L m i ++ [L.getD i 0] := by
  unfold withD
  rw [show i + 1 - m = (i - m) + 1 by omega, List.take_succ_eq_append_getElem (by rw [List.length_drop]; omega)]
  simp [List.getD, hl, show m + (i - m) = i by omega]
theorem withD_len (L : List Nat) (m i : Nat) : (withD L m i).length ≤ L.length := by
  unfold withD; rw [List.length_take, List.length_drop]; omega
theorem with_all (L : List Nat) (z a m : Nat) (hm : m ≤ L.length) : (withP L z a m L.length ++ [z]) ++ withD L m L.length = putW L z a m := by
  unfold withP withD putW
  have e : (L.drop m).take (L.length - m) = L.drop m := List.take_of_length_le (by rw [List.length_drop]; omega)
  rw [Nat.min_eq_right hm, e]
  simp
theorem own_empty4 (W : World) (base e : Nat) (hb : base ≤ W.heap.size) : (W.alloc (.cells #[] e)).ownsRow base e 2 (.slice (some ⟨W.heap.size, 0, none⟩) 0 0) 0 [] :=
  ⟨by simp, .inr ⟨W.heap.size, 0, #[], rfl, hb, heap_alloc_new W _, Nat.le_refl _, Nat.zero_le _, by simp, by simp⟩⟩
/-- What with hands back. -/
def WithOut (N : Nat) (K : List Nat) (w : World) (e : Ending) (w' : World) : Prop :=
  ∃ A c, e = .returned (.slice A K.length c) ∧ MatAt w' 0 A K.length (mkM N K) ∧ Below w.heap.size w w'
set_option maxHeartbeats 16000000 in
theorem with_any (N : Nat) (hN : N ≤ 512) (L P : List Nat) (hR : Rref L P) (hL : ∀ r ∈ L, r < 2 ^ N) (hlen : L.length ≤ 100) (z a m : Nat) (hz : z < 2 ^ N) (hla : IsLow z a) (hm : m ≤ L.length) (hm1 : ∀ i, i < m → P.getD i 0 < a) (hm2 : ∀ i, m ≤ i → i < L.length → a < P.getD i 0) (A B : Option Addr) (c l d lo : Nat) (w : World) (hmat : MatAt w lo A L.length (mkM N L)) (hs : SliceOk B l d) (hw : Words w B l (rowOf N z)) :
    Calls Try.prog 36 #[.slice A L.length c, .agg #[.int .i64 (N : Int), .slice B l d]] w (WithOut N (putW L z a m) w) := by
  have hW : Below w.heap.size w (w.alloc (.cells #[.int .i64 N, .slice B l d] 40)) := (Below.refl _ _).alloc (Nat.le_refl _) _
  have Q := Lib.hid (Box.new w 40 #[.int .i64 (N : Int), .slice B l d])
  have HWd := Lib.hid (hw.below hW)
  have HW := Lib.hid hW
  have HX := Lib.hid hz
  have HM := Lib.hid hmat
  have HS := Lib.hid hs
  have HLt := Lib.hid (lt_all hL)
  have HAN := Lib.hid (low_lt hz hla)
  have HFst := Lib.hid (fun w' (h : Words w' B l (rowOf N z)) => first_low N z a hN hz hla B l d w' h)
  have HW0 := Lib.hid hw
  obtain ⟨i0, hi0, hz0, hz1, hz2⟩ := info_parts row_infoM
  have HI := Lib.hid hi0
  have HZ0 := Lib.hid hz0
  have HZ1 := Lib.hid hz1
  have HZ2 := Lib.hid hz2
  clear hi0 hz0 hz1 hz2
  clear hw hW hz hmat hs
  obtain ⟨q0, q1, -, -⟩ := Q.out.two
  go_enter Try.func36, Try.ntmps36
  go_wp2_with fail
  refine (HFst.out _ HWd.out).mono ?_
  rintro e x1 ⟨rfl, hb⟩
  have Q1 := Lib.hid (Q.out.keep hb)
  have HB1 := Lib.hid (chainN HW.out HW.out.size hb)
  have HWd1 := Lib.hid (HWd.out.below hb)
  clear hb q0 q1
  obtain ⟨q0, q1, -, -⟩ := Q1.out.two
  have hoe := own_empty4 x1 (w.heap.size + 1) 40 (by have := Q1.out.lt; omega)
  have Q2 := Lib.hid (Q1.out.alloc (.cells #[] 40))
  have HB2 := Lib.hid (HB1.out.alloc HB1.out.size (.cells #[] 40))
  have HO2 := Lib.hid (show RowsQ w (x1.alloc (.cells #[] 40)) (w.heap.size + 1) (.slice (some ⟨x1.heap.size, 0, none⟩) 0 0) N (withP L z a m 0) from ⟨[], by simp [withP], by simpa [withP, rowCells] using hoe, fun j hj => by simp [withP] at hj⟩)
  clear hoe
  go_wp2_with fail
  clear q0 q1
  go_loopw [6, 16] (fun v t wr => ∃ (i : Nat) (v' : Value), v' = v ∧ i ≤ L.length ∧ t = .int .i64 (i : Int) ∧ Hid (RowsQ w wr (w.heap.size + 1) v' N (withP L z a m i)) ∧ Hid (Box wr w.heap.size 40 #[.int .i64 (N : Int), .slice B l d]) ∧ Hid (Below w.heap.size w wr)) (fun _ t _ => L.length - (intOf t).toNat)
  case atStart => exact ⟨0, _, rfl, Nat.zero_le _, rfl, HO2, Q2, HB2⟩
  case round =>
    obtain ⟨i, v, rfl, hi, rfl, HRo, R0, HB⟩ := hrel
    clear Q2 HB2 HO2 Q1 HB1 HWd1 HWd HW Q
    by_cases hlt : i < L.length
    · have hlt' : (i : Int) < (L.length : Int) := by omega
      have hwl := withP_len L z a m i
      obtain ⟨b, off, B1, l1, c1, rfl, hbl, x0, x1, hs, hw0⟩ := HM.out.at i hlt
      have hw := hw0.mono (Nat.le_refl _) HB.out
      have x0 := (HB.out.cell (p := ⟨b, off + i * 2, none⟩) hbl).trans x0
      have x1 := (HB.out.cell (p := ⟨b, off + i * 2 + 1, none⟩) hbl).trans x1
      rw [mkM_at N L i hlt] at x0 hw hw0
      simp only [mkR] at x0 hw hw0
      have hal : Below wr.heap.size wr (wr.alloc (.cells #[.int .i64 (N : Int), .slice B1 l1 c1] 40)) := (Below.refl _ _).alloc (Nat.le_refl _) _
      have E := Lib.hid (Box.new wr 40 #[.int .i64 (N : Int), .slice B1 l1 c1])
      have HC := Lib.hid hal
      have HWx := Lib.hid (hw.below hal)
      have RQ0 := Lib.hid (show ∀ W', RowQ w W' N ((N : Int), B1, l1, c1) (L.getD i 0) from fun W' => ⟨rfl, hs, .inl hw0⟩)
      have HLow := Lib.hid (hR.low i hlt)
      have HF := Lib.hid (fun w' (h : Words w' B1 l1 (rowOf N (L.getD i 0))) => first_low N _ _ hN (HLt.out i) HLow.out B1 l1 c1 w' h)
      have HBt := Lib.hid (fun w' (h : Words w' B1 l1 (rowOf N (L.getD i 0))) => rbit_any N _ _ hN B1 l1 c1 HAN.out w' h)
      have HLi := Lib.hid (HLt.out i)
      have HM1 := Lib.hid (hm1 i)
      have HM2 := Lib.hid (fun h => hm2 i h hlt)
      clear hal hw hs hw0 HLow
      generalize hyy : L.getD i 0 = y at *
      have HY := Lib.hid hyy
      clear hyy
      generalize P.getD i 0 = pi at *
      obtain ⟨e0, e1, -, -⟩ := E.out.two
      by_cases him : i < m
      · have hpa : (pi : Int) < (a : Int) := by have := HM1.out him; omega
        have HWP := Lib.hid (withP_lt L z a m i him hlt)
        rw [HY.out] at HWP
        go_wp2_with fail
        refine (HF.out _ HWx.out).mono ?_
        rintro e y1 ⟨rfl, hb⟩
        have E := Lib.hid (E.out.keep hb)
        have HC := Lib.hid (chain HC.out hb)
        have HWx := Lib.hid (HWx.out.below hb)
        clear hb e0 e1
        obtain ⟨e0, e1, ef0, ef1⟩ := E.out.two
        cases hbt : y.testBit a with
        | true =>
          rw [hbt] at HBt HWP
          clear hbt
          obtain ⟨r0, r1, -, -⟩ := (R0.out.keep HC.out).two
          go_wp2_with fail
          refine (HBt.out _ HWx.out).mono ?_
          rintro e y2 ⟨rfl, hb⟩
          have E := Lib.hid (E.out.keep hb)
          have HC := Lib.hid (chain HC.out hb)
          have HWx := Lib.hid (HWx.out.below hb)
          have HWz := Lib.hid (HW0.out.mono (Nat.le_refl _) (chain HB.out HC.out))
          clear hb e0 e1 ef0 ef1 r0 r1
          obtain ⟨e0, e1, ef0, ef1⟩ := E.out.two
          obtain ⟨r0, r1, -, -⟩ := (R0.out.keep HC.out).two
          go_wp2_with fail
          refine (refXor_num N y z hN HLi.out HX.out B1 B l1 c1 l d _ HWx.out HWz.out).mono ?_
          rintro e y3 ⟨A3, l3, c3, rfl, ow, hb⟩
          have E := Lib.hid (E.out.keep hb)
          have OW := Lib.hid ow
          have HC := Lib.hid (chain HC.out hb)
          clear hb ow e0 e1 ef0 ef1 r0 r1
          obtain ⟨e0, e1, ef0, ef1⟩ := E.out.two
          have HRw := Lib.hid (show RowQ w ((y3.setCell ⟨wr.heap.size, 0, none⟩ (.int .i64 (N : Int))).setCell ⟨wr.heap.size, 1, none⟩ (.slice A3 l3 c3)) N ((N : Int), A3, l3, c3) (y ^^^ z) from ⟨rfl, OW.out.ok, .inr (OW.out.put2 E.out _ _)⟩)
          have E := Lib.hid (E.out.put2 (u := .int .i64 (N : Int)) (v := .slice A3 l3 c3))
          have HC := Lib.hid ((HC.out.setCell (p := ⟨wr.heap.size, 0, none⟩) (Nat.le_refl _) (.int .i64 (N : Int))).setCell (p := ⟨wr.heap.size, 1, none⟩) (Nat.le_refl _) (.slice A3 l3 c3))
          have R0 := Lib.hid (R0.out.keep HC.out)
          have HRo := Lib.hid (HRo.out.below HC.out)
          have HB := Lib.hid (chain HB.out HC.out)
          clear OW HWx HWz HF HBt
          go_upto_region 9 with (fail)
          generalize (y3.setCell ⟨wr.heap.size, 0, none⟩ (.int .i64 (N : Int))).setCell ⟨wr.heap.size, 1, none⟩ (.slice A3 l3 c3) = w8 at *
          clear e0 e1 ef0 ef1
          obtain ⟨e0, e1, ef0, ef1⟩ := E.out.two
          obtain ⟨rs, ho, hnx⟩ := HRo.out.appended HRw.out
          have YO := Lib.hid ho
          have HNx := Lib.hid hnx
          clear ho hnx
          have hkl := hwl
          have Y0 := Lib.hid (R0.out.alloc (.cells #[.int .i64 (N : Int), .slice A3 l3 c3] 40))
          have YB := Lib.hid (HB.out.alloc HB.out.size (.cells #[.int .i64 (N : Int), .slice A3 l3 c3] 40))
          have YBs := Lib.hid (show w.heap.size + 1 ≤ (w8.alloc (.cells #[.int .i64 (N : Int), .slice A3 l3 c3] 40)).heap.size by have := R0.out.lt; simp; omega)
          have N0 := Lib.hid (show v.ownBlock ≠ some w.heap.size from fun e => by have := (YO.out.lt _ e).1; omega)
          have N2 := Lib.hid (show ∀ k, v.ownBlock = some k → w.heap.size ≤ k from fun k hk => by have := (YO.out.lt k hk).1; omega)
          have HNW := Lib.hid (World.news_of_block (Box.new w8 40 #[.int .i64 (N : Int), .slice A3 l3 c3]))
          have ki := HI.out
          have kz0 := HZ0.out
          have kz1 := HZ1.out
          have kz2 := HZ2.out
          go_wp2_with (at_builtin; refine wpList_append_own _ rfl _ _ 22 rfl (w.heap.size + 1) 40 i0 (.agg #[.int .i64 0, .slice none 0 0]) 2 32 Try.underlying22 ki kz0 kz1 kz2 rfl (by decide) _ _ _ rfl YO.out ⟨w8.heap.size, 0, none⟩ 1 1 [.int .i64 (N : Int), .slice A3 l3 c3] rfl rfl HNW.out (by simp [Value.oneCell']) (by simp [maxLen]; omega) (by omega) YBs.out ?_; intro v9 w9 hown' hgrow _; have R09 := Lib.hid (Y0.out.grown hgrow N0.out); have HB9 := Lib.hid (YB.out.grown hgrow YB.out.size N2.out); have HR9 := Lib.hid (HNx.out _ _ hown' hgrow); clear hown' hgrow)
          go_wp2_with fail
          go_roundw
          case rel => exact ⟨i + 1, _, rfl, by omega, by go_num, by rw [HWP.out]; exact HR9, R09, HB9⟩
          case measure => simp [intOf] <;> omega
        | false =>
          rw [hbt] at HBt HWP
          clear hbt
          go_wp2_with fail
          refine (HBt.out _ HWx.out).mono ?_
          rintro e y2 ⟨rfl, hb⟩
          have E := Lib.hid (E.out.keep hb)
          have HC := Lib.hid (chain HC.out hb)
          have R0 := Lib.hid (R0.out.keep HC.out)
          have HRo := Lib.hid (HRo.out.below HC.out)
          have HB := Lib.hid (chain HB.out HC.out)
          clear hb HWx HF HBt
          have HRw := Lib.hid (RQ0.out y2)
          clear e0 e1 ef0 ef1
          obtain ⟨e0, e1, ef0, ef1⟩ := E.out.two
          obtain ⟨rs, ho, hnx⟩ := HRo.out.appended HRw.out
          have YO := Lib.hid ho
          have HNx := Lib.hid hnx
          clear ho hnx
          have hkl := hwl
          have Y0 := Lib.hid (R0.out.alloc (.cells #[.int .i64 (N : Int), .slice B1 l1 c1] 40))
          have YB := Lib.hid (HB.out.alloc HB.out.size (.cells #[.int .i64 (N : Int), .slice B1 l1 c1] 40))
          have YBs := Lib.hid (show w.heap.size + 1 ≤ (y2.alloc (.cells #[.int .i64 (N : Int), .slice B1 l1 c1] 40)).heap.size by have := R0.out.lt; simp; omega)
          have N0 := Lib.hid (show v.ownBlock ≠ some w.heap.size from fun e => by have := (YO.out.lt _ e).1; omega)
          have N2 := Lib.hid (show ∀ k, v.ownBlock = some k → w.heap.size ≤ k from fun k hk => by have := (YO.out.lt k hk).1; omega)
          have HNW := Lib.hid (World.news_of_block (Box.new y2 40 #[.int .i64 (N : Int), .slice B1 l1 c1]))
          have ki := HI.out
          have kz0 := HZ0.out
          have kz1 := HZ1.out
          have kz2 := HZ2.out
          go_wp2_with (at_builtin; refine wpList_append_own _ rfl _ _ 22 rfl (w.heap.size + 1) 40 i0 (.agg #[.int .i64 0, .slice none 0 0]) 2 32 Try.underlying22 ki kz0 kz1 kz2 rfl (by decide) _ _ _ rfl YO.out ⟨y2.heap.size, 0, none⟩ 1 1 [.int .i64 (N : Int), .slice B1 l1 c1] rfl rfl HNW.out (by simp [Value.oneCell']) (by simp [maxLen]; omega) (by omega) YBs.out ?_; intro v9 w9 hown' hgrow _; have R09 := Lib.hid (Y0.out.grown hgrow N0.out); have HB9 := Lib.hid (YB.out.grown hgrow YB.out.size N2.out); have HR9 := Lib.hid (HNx.out _ _ hown' hgrow); clear hown' hgrow)
          go_wp2_with fail
          go_roundw
          case rel => exact ⟨i + 1, _, rfl, by omega, by go_num, by rw [HWP.out]; exact HR9, R09, HB9⟩
          case measure => simp [intOf] <;> omega
      · have hpa : ¬ (pi : Int) < (a : Int) := by have := HM2.out (by omega); omega
        have HWP := Lib.hid (withP_ge L z a m i (by omega))
        go_wp2_with fail
        refine (HF.out _ HWx.out).mono ?_
        rintro e y1 ⟨rfl, hb⟩
        have E := Lib.hid (E.out.keep hb)
        have HC := Lib.hid (chain HC.out hb)
        have HWx := Lib.hid (HWx.out.below hb)
        clear hb e0 e1
        obtain ⟨e0, e1, ef0, ef1⟩ := E.out.two
        have R0 := Lib.hid (R0.out.keep HC.out)
        have HRo := Lib.hid (HRo.out.below HC.out)
        have HB := Lib.hid (chain HB.out HC.out)
        go_wp2_with fail
        go_roundw
        case rel => exact ⟨i + 1, _, rfl, by omega, by go_num, by rw [HWP.out]; exact HRo, R0, HB⟩
        case measure => simp [intOf] <;> omega
    · obtain rfl : i = L.length := by omega
      have hlt' : ¬ (L.length : Int) < (L.length : Int) := by omega
      have hwl := withP_len L z a m L.length
      have HRq := Lib.hid (show ∀ W', RowQ w W' N ((N : Int), B, l, d) z from fun W' => ⟨rfl, HS.out, .inl HW0.out⟩)
      have HRw := Lib.hid (HRq.out wr)
      obtain ⟨r0, r1, -, -⟩ := R0.out.two
      go_upto_region 11 with (fail)
      obtain ⟨rs, ho, hnx⟩ := HRo.out.appended HRw.out
      have YO := Lib.hid ho
      have HNx := Lib.hid hnx
      clear ho hnx
      have hkl := hwl
      have Y0 := Lib.hid (R0.out.alloc (.cells #[.int .i64 (N : Int), .slice B l d] 40))
      have YB := Lib.hid (HB.out.alloc HB.out.size (.cells #[.int .i64 (N : Int), .slice B l d] 40))
      have YBs := Lib.hid (show w.heap.size + 1 ≤ (wr.alloc (.cells #[.int .i64 (N : Int), .slice B l d] 40)).heap.size by have := R0.out.lt; simp; omega)
      have N0 := Lib.hid (show v.ownBlock ≠ some w.heap.size from fun e => by have := (YO.out.lt _ e).1; omega)
      have N2 := Lib.hid (show ∀ k, v.ownBlock = some k → w.heap.size ≤ k from fun k hk => by have := (YO.out.lt k hk).1; omega)
      have HNW := Lib.hid (World.news_of_block (Box.new wr 40 #[.int .i64 (N : Int), .slice B l d]))
      have ki := HI.out
      have kz0 := HZ0.out
      have kz1 := HZ1.out
      have kz2 := HZ2.out
      go_wp2_with (at_builtin; refine wpList_append_own _ rfl _ _ 22 rfl (w.heap.size + 1) 40 i0 (.agg #[.int .i64 0, .slice none 0 0]) 2 32 Try.underlying22 ki kz0 kz1 kz2 rfl (by decide) _ _ _ rfl YO.out ⟨wr.heap.size, 0, none⟩ 1 1 [.int .i64 (N : Int), .slice B l d] rfl rfl HNW.out (by simp [Value.oneCell']) (by simp [maxLen]; omega) (by omega) YBs.out ?_; intro v9 w9 hown' hgrow _; have R09 := Lib.hid (Y0.out.grown hgrow N0.out); have HB9 := Lib.hid (YB.out.grown hgrow YB.out.size N2.out); have HR9 := Lib.hid (HNx.out _ _ hown' hgrow); clear hown' hgrow)
      clear r0 r1
      go_wp2_with fail
      generalize hK1 : withP L z a m L.length ++ [z] = K1 at *
      have hK1l : K1.length ≤ 101 := by rw [← hK1, List.length_append]; simp; omega
      have HAll := Lib.hid (show K1 ++ withD L m L.length = putW L z a m by rw [← hK1]; exact with_all L z a m hm)
      clear hK1 hwl
      go_loopw [6, 42] (fun v t wr => ∃ (i : Nat) (v' : Value), v' = v ∧ i ≤ L.length ∧ t = .int .i64 (i : Int) ∧ Hid (RowsQ w wr (w.heap.size + 1) v' N (K1 ++ withD L m i)) ∧ Hid (Box wr w.heap.size 40 #[.int .i64 (N : Int), .slice B l d]) ∧ Hid (Below w.heap.size w wr)) (fun _ t _ => L.length - (intOf t).toNat)
      case atStart => exact ⟨0, _, rfl, Nat.zero_le _, rfl, by rw [show withD L m 0 = [] by unfold withD; simp, List.append_nil]; exact HR9, R09, HB9⟩
      case round =>
        obtain ⟨i, v, rfl, hi, rfl, HRo, R0, HB⟩ := hrel
        clear R09 HB9 HR9
        by_cases hlt : i < L.length
        · have hlt' : (i : Int) < (L.length : Int) := by omega
          have hwl : (K1 ++ withD L m i).length ≤ 201 := by have := withD_len L m i; rw [List.length_append]; omega
          obtain ⟨b, off, B1, l1, c1, rfl, hbl, x0, x1, hs, hw0⟩ := HM.out.at i hlt
          have hw := hw0.mono (Nat.le_refl _) HB.out
          have x0 := (HB.out.cell (p := ⟨b, off + i * 2, none⟩) hbl).trans x0
          have x1 := (HB.out.cell (p := ⟨b, off + i * 2 + 1, none⟩) hbl).trans x1
          rw [mkM_at N L i hlt] at x0 hw hw0
          simp only [mkR] at x0 hw hw0
          have hal : Below wr.heap.size wr (wr.alloc (.cells #[.int .i64 (N : Int), .slice B1 l1 c1] 40)) := (Below.refl _ _).alloc (Nat.le_refl _) _
          have E := Lib.hid (Box.new wr 40 #[.int .i64 (N : Int), .slice B1 l1 c1])
          have HC := Lib.hid hal
          have HWx := Lib.hid (hw.below hal)
          have RQ0 := Lib.hid (show ∀ W', RowQ w W' N ((N : Int), B1, l1, c1) (L.getD i 0) from fun W' => ⟨rfl, hs, .inl hw0⟩)
          have HLow := Lib.hid (hR.low i hlt)
          have HF := Lib.hid (fun w' (h : Words w' B1 l1 (rowOf N (L.getD i 0))) => first_low N _ _ hN (HLt.out i) HLow.out B1 l1 c1 w' h)
          have HBt := Lib.hid (fun w' (h : Words w' B1 l1 (rowOf N (L.getD i 0))) => rbit_any N _ _ hN B1 l1 c1 HAN.out w' h)
          have HLi := Lib.hid (HLt.out i)
          have HM1 := Lib.hid (hm1 i)
          have HM2 := Lib.hid (fun h => hm2 i h hlt)
          clear hal hw hs hw0 HLow
          generalize hyy : L.getD i 0 = y at *
          have HY := Lib.hid hyy
          clear hyy
          generalize P.getD i 0 = pi at *
          obtain ⟨e0, e1, -, -⟩ := E.out.two
          by_cases him : i < m
          · have hpa : ¬ (a : Int) < (pi : Int) := by have := HM1.out him; omega
            have HWP := Lib.hid (withD_lt L m i him)
            go_wp2_with fail
            refine (HF.out _ HWx.out).mono ?_
            rintro e y1 ⟨rfl, hb⟩
            have E := Lib.hid (E.out.keep hb)
            have HC := Lib.hid (chain HC.out hb)
            have HWx := Lib.hid (HWx.out.below hb)
            clear hb e0 e1
            obtain ⟨e0, e1, ef0, ef1⟩ := E.out.two
            have R0 := Lib.hid (R0.out.keep HC.out)
            have HRo := Lib.hid (HRo.out.below HC.out)
            have HB := Lib.hid (chain HB.out HC.out)
            go_wp2_with fail
            go_roundw
            case rel => exact ⟨i + 1, _, rfl, by omega, by go_num, by rw [HWP.out]; exact HRo, R0, HB⟩
            case measure => simp [intOf] <;> omega
          · have hpa : (a : Int) < (pi : Int) := by have := HM2.out (by omega); omega
            have HWP := Lib.hid (show K1 ++ withD L m (i + 1) = (K1 ++ withD L m i) ++ [y] by rw [withD_ge L m i (by omega) hlt, HY.out, List.append_assoc])
            go_wp2_with fail
            refine (HF.out _ HWx.out).mono ?_
            rintro e y1 ⟨rfl, hb⟩
            have E := Lib.hid (E.out.keep hb)
            have HC := Lib.hid (chain HC.out hb)
            have HWx := Lib.hid (HWx.out.below hb)
            clear hb e0 e1
            obtain ⟨e0, e1, ef0, ef1⟩ := E.out.two
            have R0 := Lib.hid (R0.out.keep HC.out)
            have HRo := Lib.hid (HRo.out.below HC.out)
            have HB := Lib.hid (chain HB.out HC.out)
            have HRw := Lib.hid (RQ0.out y1)
            clear HWx HF HBt
            generalize K1 ++ withD L m i = K2 at *
            go_upto_region 16 with (fail)
            obtain ⟨rs, ho, hnx⟩ := HRo.out.appended HRw.out
            have YO := Lib.hid ho
            have HNx := Lib.hid hnx
            clear ho hnx
            have hkl := hwl
            have Y0 := Lib.hid (R0.out.alloc (.cells #[.int .i64 (N : Int), .slice B1 l1 c1] 40))
            have YB := Lib.hid (HB.out.alloc HB.out.size (.cells #[.int .i64 (N : Int), .slice B1 l1 c1] 40))
            have YBs := Lib.hid (show w.heap.size + 1 ≤ (y1.alloc (.cells #[.int .i64 (N : Int), .slice B1 l1 c1] 40)).heap.size by have := R0.out.lt; simp; omega)
            have N0 := Lib.hid (show v.ownBlock ≠ some w.heap.size from fun e => by have := (YO.out.lt _ e).1; omega)
            have N2 := Lib.hid (show ∀ k, v.ownBlock = some k → w.heap.size ≤ k from fun k hk => by have := (YO.out.lt k hk).1; omega)
            have HNW := Lib.hid (World.news_of_block (Box.new y1 40 #[.int .i64 (N : Int), .slice B1 l1 c1]))
            have ki := HI.out
            have kz0 := HZ0.out
            have kz1 := HZ1.out
            have kz2 := HZ2.out
            go_wp2_with (at_builtin; refine wpList_append_own _ rfl _ _ 22 rfl (w.heap.size + 1) 40 i0 (.agg #[.int .i64 0, .slice none 0 0]) 2 32 Try.underlying22 ki kz0 kz1 kz2 rfl (by decide) _ _ _ rfl YO.out ⟨y1.heap.size, 0, none⟩ 1 1 [.int .i64 (N : Int), .slice B1 l1 c1] rfl rfl HNW.out (by simp [Value.oneCell']) (by simp [maxLen]; omega) (by omega) YBs.out ?_; intro v9 w9 hown' hgrow _; have R09 := Lib.hid (Y0.out.grown hgrow N0.out); have HB9 := Lib.hid (YB.out.grown hgrow YB.out.size N2.out); have HR9 := Lib.hid (HNx.out _ _ hown' hgrow); clear hown' hgrow)
            go_wp2_with fail
            go_roundw
            case rel => exact ⟨i + 1, _, rfl, by omega, by go_num, by rw [HWP.out]; exact HR9, R09, HB9⟩
            case measure => simp [intOf] <;> omega
        · obtain rfl : i = L.length := by omega
          have hlt' : ¬ (L.length : Int) < (L.length : Int) := by omega
          rw [HAll.out] at HRo
          obtain ⟨A', c', rfl, -, hmat⟩ := HRo.out.mat (Nat.le_refl _) HB.out
          have HMat := Lib.hid hmat
          clear hmat
          go_wp2_with fail
          go_ret
          exact ⟨A', c', rfl, HMat.out, HB.out⟩
end
end Go.Proofs.Ytdfmogcgangdnaa
