/- Parts: RuM, RuX, Re1, Re2, Re3, Re4, Re5, BitT, Plc, Tz, Ones, OnesP, BackM. -/
import Derived.Test.YtmfhimeffmpgaaaGreatZg
import Derived.BigQuiet
import Derived.Deep.DeepCutAuto
import Derived.Deep.QuietTactic
import Derived.Deep.RegionHeld3
import Derived.Deep.RegionWith
import Derived.IntWalk
import Derived.Laws.BitsAllLaws
import Derived.LoopIn
import Derived.LoopNIn
import Derived.Maps.AppendAt
import Derived.OwnWalkIn
import Derived.RangeFuncBound
import Derived.RangeFuncBox
import Derived.RangeFuncCalls
import Derived.RangeFuncLeaves
import Derived.RangeFuncNested
import Derived.Shelf.Abstract
import Derived.Shelf.RegionOpen
import Derived.TacticsInMore
namespace Go.Proofs.YtmfhimeffmpgaaaGreat
section
/- Rows in another order, with the xor of two of them more, span the same. -/
set_option linter.unusedVariables false
set_option linter.unusedSimpArgs false
open Go.RowKit
def turnI (a k j : Nat) : Nat := if j ≤ a then a - j else a + k - j
theorem turnI_lt (a k j : Nat) (ha : a < k) (hj : j < k) : turnI a k j < k := by unfold turnI; split <;> omega
theorem turnI_mod (a k j : Nat) (ha : a < k) (hj : j < k) : ((a : Int) + (k : Int) - (j : Int)) % (k : Int) = ((turnI a k j : Nat) : Int) := by
  unfold turnI
  by_cases h : j ≤ a
  · rw [if_pos h, show (a : Int) + (k : Int) - (j : Int) = ((a - j : Nat) : Int) + (k : Int) by omega, Int.add_emod_right]
    exact Int.emod_eq_of_lt (by omega) (by omega)
  · rw [if_neg h, show (a : Int) + (k : Int) - (j : Int) = ((a + k - j : Nat) : Int) by omega]
    exact Int.emod_eq_of_lt (by omega) (by omega)
def turnK (L : List Nat) (x a i : Nat) : List Nat := x :: (List.range i).map fun j => L.getD (turnI a L.length j) 0
theorem turnK_len (L : List Nat) (x a i : Nat) : (turnK L x a i).length = i + 1 := by simp [turnK]
theorem turnK_succ (L : List Nat) (x a i : Nat) : turnK L x a (i + 1) = turnK L x a i ++ [L.getD (turnI a L.length i) 0] := by simp [turnK, List.range_succ]
theorem turn_span (L : List Nat) (a b : Nat) (ha : a < L.length) (hb : b < L.length) : SameSp L (turnK L (L.getD a 0 ^^^ L.getD b 0) a L.length) := by
  refine SameSp.of (fun r hr => ?_) (fun r hr => ?_)
  · obtain ⟨p, hp, rfl⟩ := mem_getD hr
    refine sp_mem ?_
    unfold turnK
    refine List.mem_cons_of_mem _ (List.mem_map.2 ⟨if p ≤ a then a - p else a + L.length - p, List.mem_range.2 (by split <;> omega), ?_⟩)
    congr 1
    unfold turnI
    split <;> split <;> omega
  · unfold turnK at hr
    rcases List.mem_cons.1 hr with rfl | hr
    · exact sp_xor (sp_mem (getD_mem ha)) (sp_mem (getD_mem hb))
    · obtain ⟨j, hj, rfl⟩ := List.mem_map.1 hr
      exact sp_mem (getD_mem (turnI_lt _ _ _ ha (List.mem_range.1 hj)))
theorem turn_lt {n : Nat} {L : List Nat} (h : ∀ r ∈ L, r < 2 ^ n) (a b i : Nat) : ∀ r ∈ turnK L (L.getD a 0 ^^^ L.getD b 0) a i, r < 2 ^ n := fun r hr => by
  unfold turnK at hr
  rcases List.mem_cons.1 hr with rfl | hr
  · exact Nat.xor_lt_two_pow (lt_all h a) (lt_all h b)
  · obtain ⟨j, hj, rfl⟩ := List.mem_map.1 hr
    exact lt_all h _
theorem right_mk (n : Nat) (hn : n ≤ 64) (L : List Nat) (hl : L.length ≤ 64) (h : ∀ r ∈ L, r < 2 ^ n) : rightM n (mkM n L) = true := by
  have h1 : smb (n : Int) = true := (smb_iff _).2 ⟨by omega, by omega⟩
  have h2 : rowsB (n : Int) (mkM n L) = true := List.all_eq_true.2 fun r hr => by
    obtain ⟨x, hx, rfl⟩ := List.mem_map.1 hr
    simp [mkR, rowOf_right n x (by omega) (h x hx)]
  simp [rightM, h1, h2, mkM_len, hl]
/-- Rows that may be anywhere. -/
theorem turn_same {L M P M2 P2 : List Nat} {a b : Nat} (ha : a < L.length) (hb : b < L.length) (h1 : Rref M P) (h2 : SameSp L M) (h3 : Rref M2 P2) (h4 : SameSp (turnK L (L.getD a 0 ^^^ L.getD b 0) a L.length) M2) : M2 = M :=
  (rref_uniq h3 h1 ((h4.symm.trans (turn_span L a b ha hb).symm).trans h2)).1
end
section
/- ReduceUnique: the walk. -/
set_option linter.unusedVariables false
set_option linter.unusedSimpArgs false
open Go.RowKit
theorem own_new2 (W : World) (base e : Nat) (cs : Array Value) (hb : base ≤ W.heap.size) (hn : cs.size = 2) : (W.alloc (.cells cs e)).ownsRow base e 2 (.slice (some ⟨W.heap.size, 0, none⟩) 1 1) 1 cs.toList := by
  refine ⟨by simp [hn], .inr ⟨W.heap.size, 1, cs, rfl, hb, heap_alloc_new W _, Nat.le_refl _, ?_, ?_, ?_⟩⟩
  · simp [maxLen]
  · simp [hn]
  · rw [List.take_of_length_le (by simp [hn])]
theorem rank_le {L M P : List Nat} (h1 : Rref M P) (h2 : SameSp L M) : M.length ≤ L.length := by
  obtain ⟨M', P', a, b, c⟩ := rref_exists L
  rw [(rref_uniq h1 a (h2.symm.trans b)).1]; exact c
def RowP (w : World) (n : Nat) (r : RowV) (x : Nat) : Prop := r.1 = (n : Int) ∧ SliceOk r.2.1 r.2.2.1 r.2.2.2 ∧ Words w r.2.1 r.2.2.1 (rowOf n x)
theorem rowsP_snoc {w : World} {n m : Nat} {rs : List RowV} {K : List Nat} {r : RowV} {x : Nat} (h1 : rs.length = m) (h2 : K.length = m) (h : ∀ j, j < m → RowP w n (rs.getD j (0, none, 0, 0)) (K.getD j 0)) (hr : RowP w n r x) : ∀ j, j < m + 1 → RowP w n ((rs ++ [r]).getD j (0, none, 0, 0)) ((K ++ [x]).getD j 0) := fun j hj => by
  by_cases hm : j < m
  · have e1 : (rs ++ [r]).getD j (0, none, 0, 0) = rs.getD j (0, none, 0, 0) := by simp only [List.getD]; rw [List.getElem?_append_left (by omega)]
    have e2 : (K ++ [x]).getD j 0 = K.getD j 0 := by simp only [List.getD]; rw [List.getElem?_append_left (by omega)]
    rw [e1, e2]; exact h j hm
  · obtain rfl : j = m := by omega
    have e1 : (rs ++ [r]).getD j (0, none, 0, 0) = r := by rw [← h1]; simp [List.getD]
    have e2 : (K ++ [x]).getD j 0 = x := by rw [← h2]; simp [List.getD]
    rw [e1, e2]; exact hr
theorem mk_short (n : Nat) (hn : n ≤ 64) (M : List Nat) (j : Nat) : ((mkM n M).getD j (0, [])).2.length ≤ 1000000 := by
  by_cases h : j < M.length
  · rw [mkM_at n M j h]
    simp only [mkR, rowOf_len]
    unfold nw; omega
  · have : (mkM n M)[j]? = none := List.getElem?_eq_none (by rw [mkM_len]; omega)
    simp [List.getD, this]
set_option maxRecDepth 100000
end
section
/- Contracts of layer 4's reference: First. -/
set_option linter.unusedVariables false
set_option linter.unusedSimpArgs false
open Go.RowKit
set_option maxRecDepth 100000
theorem rbit_any (N x p : Nat) (hN : N ≤ 512) (A : Option Addr) (l c : Nat) (hp : p < N) (w : World) (hw : Words w A l (rowOf N x)) :
    Calls Tryz.prog 64 #[.agg #[.int .i64 (N : Int), .slice A l c], .int .i64 (p : Int)] w fun e w' => e = .returned (.int .i64 (if x.testBit p then 1 else 0)) ∧ Below w.heap.size w w' := by
  have hl : l = nw N := by rw [← rowOf_len N x]; exact hw.1.symm
  have h := bit_any (N : Int) A l c p (rowOf N x) w hw (by rw [hl]; unfold nw; omega) (by rw [hl]; unfold nw; omega)
  rw [rowOf_bitN N x p hp] at h
  refine h.mono ?_
  rintro e w' ⟨rfl, hb⟩
  exact ⟨by split <;> rfl, hb⟩
theorem first_any (N x : Nat) (hN : N ≤ 512) (hx : x < 2 ^ N) (A : Option Addr) (l c : Nat) (w : World) (hw : Words w A l (rowOf N x)) :
    Calls Tryz.prog 48 #[.agg #[.int .i64 (N : Int), .slice A l c]] w fun e w' => ((∃ p : Nat, IsLow x p ∧ e = .returned (.int .i64 (p : Int))) ∨ (x = 0 ∧ e = .returned (.int .i64 (-1)))) ∧ Below w.heap.size w w' := by
  have hW : Below w.heap.size w (w.alloc (.cells #[.int .i64 N, .slice A l c] 56)) := (Below.refl _ _).alloc (Nat.le_refl _) _
  have Q := Lib.hid (Box.new w 56 #[.int .i64 (N : Int), .slice A l c])
  have HWd := Lib.hid (hw.below hW)
  have HW := Lib.hid hW
  have HX := Lib.hid hx
  clear hw hW hx
  obtain ⟨q0, q1, -, -⟩ := Q.out.two
  go_enter Tryz.func48, Tryz.ntmps48
  go_wp2
  clear q0 q1
  go_loopw [3] (fun t wr => ∃ i : Nat, i ≤ N ∧ t = .int .i64 (i : Int) ∧ Hid (∀ j, j < i → x.testBit j = false) ∧ Hid (Below w.heap.size w wr) ∧ Hid (Box wr w.heap.size 56 #[.int .i64 (N : Int), .slice A l c]) ∧ Hid (Words wr A l (rowOf N x))) (fun t _ => N - (intOf t).toNat)
  case atStart => exact ⟨0, Nat.zero_le _, rfl, Lib.hid (fun j hj => absurd hj (Nat.not_lt_zero _)), HW, Q, HWd⟩
  case round =>
    obtain ⟨i, hi, rfl, HF, HB, HQ, HWr⟩ := hrel
    obtain ⟨q0, q1, -, -⟩ := HQ.out.two
    by_cases hlt : i < N
    · have hlt' : (i : Int) < (N : Int) := by omega
      have HC := Lib.hid (rbit_any N x i hN A l c hlt _ HWr.out)
      cases hb : x.testBit i with
      | true =>
        rw [hb] at HC
        have HL := Lib.hid (show IsLow x i from ⟨hb, HF.out⟩)
        clear hb
        go_wp2_with fail
        refine HC.out.mono ?_
        rintro e w1 ⟨rfl, hb⟩
        have B := Lib.hid (HB.out.trans (hb.mono HB.out.size))
        clear hb
        go_wp2_with fail
        go_ret
        exact ⟨.inl ⟨i, HL.out, rfl⟩, B.out⟩
      | false =>
        rw [hb] at HC
        have HF2 := Lib.hid (show ∀ j, j < i + 1 → x.testBit j = false from fun j hj => by
          by_cases h : j < i
          · exact HF.out j h
          · obtain rfl : j = i := by omega
            exact hb)
        clear hb
        go_wp2_with fail
        refine HC.out.mono ?_
        rintro e w1 ⟨rfl, hb⟩
        have B := Lib.hid (HB.out.trans (hb.mono HB.out.size))
        have Q2 := Lib.hid (HQ.out.keep hb)
        have W2 := Lib.hid (HWr.out.below hb)
        clear hb q0 q1
        obtain ⟨q0, q1, -, -⟩ := Q2.out.two
        go_wp2_with fail
        go_roundw
        case rel => exact ⟨i + 1, by omega, by go_num, HF2, B, Q2, W2⟩
        case measure => simp [intOf]; omega
    · obtain rfl : i = N := by omega
      have hlt' : ¬ (i : Int) < (i : Int) := by omega
      have HZ := Lib.hid (show x = 0 from Nat.eq_of_testBit_eq fun j => by
        rw [Nat.zero_testBit]
        by_cases h : j < i
        · exact HF.out j h
        · exact Nat.testBit_lt_two_pow (Nat.lt_of_lt_of_le HX.out (Nat.pow_le_pow_right (by omega) (by omega))))
      go_wp2_with fail
      go_ret
      exact ⟨.inr ⟨HZ.out, rfl⟩, HB.out⟩
end
section
/- The reference's Xor: rows of the call's own. -/
set_option linter.unusedVariables false
set_option linter.unusedSimpArgs false
open Go.RowKit
set_option maxRecDepth 100000
set_option maxHeartbeats 2000000 in
theorem refXor_own (n : Nat) (A B : Option Addr) (l c k d : Nat) (us vs : List Nat) (w : World) (hu : Words w A l us) (hv : Words w B k vs) (h1 : rightB n us = true) (h2 : rightB n vs = true) :
    Calls Tryz.prog 65 #[.agg #[.int .i64 n, .slice A l c], .agg #[.int .i64 n, .slice B k d]] w (OneOwn n (xorL us vs) w) := by
  obtain ⟨i0, hi, hz0, hz1, hz2⟩ := info_parts int_info
  have hn := (lmb_iff n).1 (right_lmb h1)
  have q0 := ((Box.new w 56 #[.int .i64 n, .slice A l c]).alloc (.cells #[.int .i64 n, .slice B k d] 56)).alloc (.cells #[.int .i64 0, .slice none 0 0] 56)
  have q1 := (Box.new (w.alloc (.cells #[.int .i64 n, .slice A l c] 56)) 56 #[.int .i64 n, .slice B k d]).alloc (.cells #[.int .i64 0, .slice none 0 0] 56)
  have q2 := Box.new ((w.alloc (.cells #[.int .i64 n, .slice A l c] 56)).alloc (.cells #[.int .i64 n, .slice B k d] 56)) 56 #[.int .i64 0, .slice none 0 0]
  have hW : Below w.heap.size w (((w.alloc (.cells #[.int .i64 n, .slice A l c] 56)).alloc (.cells #[.int .i64 n, .slice B k d] 56)).alloc (.cells #[.int .i64 0, .slice none 0 0] 56)) := (((Below.refl _ _).alloc (Nat.le_refl _) _).alloc (by simp) _).alloc (by simp; omega) _
  simp only [World.size_alloc] at q1 q2
  go_enter Tryz.func65, Tryz.ntmps65
  go_wp2
  have hz := q2.lt
  have how := (own_empty (((w.alloc (.cells #[.int .i64 n, .slice A l c] 56)).alloc (.cells #[.int .i64 n, .slice B k d] 56)).alloc (.cells #[.int .i64 0, .slice none 0 0] 56)) w.heap.size 3 hW.size)
  simp only [World.size_alloc] at how
  have HOw := Lib.hid how
  clear how
  have Q0 := Lib.hid (q0.alloc (.cells #[] 3))
  have Q1 := Lib.hid (q1.alloc (.cells #[] 3))
  have Q2 := Lib.hid (q2.alloc (.cells #[] 3))
  have HW := Lib.hid (hW.alloc hW.size (.cells #[] 3))
  have HU := Lib.hid hu
  have HV := Lib.hid hv
  have HR1 := Lib.hid h1
  have HR2 := Lib.hid h2
  have hl8 := rightB_len8 h1 hu.1
  have hl := right_len_eq h1
  rw [hu.1, Int.toNat_natCast] at hl
  have hk := right_len_eq h2
  rw [hv.1, Int.toNat_natCast] at hk
  have hn64 : n ≤ 64 * l := by rw [hl]; unfold nw; omega
  have hn64' : n ≤ 64 * k := by rw [hk]; unfold nw; omega
  have hk8 := rightB_len8 h2 hv.1
  clear q0 q1 q2 hW hu hv h1 h2 hz hl hk
  have HI := Lib.hid hi
  have HZ0 := Lib.hid hz0
  have HZ1 := Lib.hid hz1
  have HZ2 := Lib.hid hz2
  clear hi hz0 hz1 hz2
  go_loopw [5, 6] (fun v t wr => ∃ i : Nat, i ≤ n ∧ t = .int .i64 i ∧ wr.ownsRow w.heap.size 3 1 v i ((bitSums (fun x y => (x + y) % 2) us vs i).map (Value.int .i64)) ∧ Box wr w.heap.size 56 #[.int .i64 n, .slice A l c] ∧ Box wr (w.heap.size + 1) 56 #[.int .i64 n, .slice B k d] ∧ Box wr (w.heap.size + 1 + 1) 56 #[.int .i64 0, .slice none 0 0] ∧ Below w.heap.size w wr)
    (fun _ t _ => n - (intOf t).toNat)
  case atStart => exact ⟨0, by omega, rfl, HOw.out, Q0.out, Q1.out, Q2.out, HW.out⟩
  case round =>
    obtain ⟨i, hi, rfl, hown, B0, B1, B2, hbel⟩ := hrel
    have R0 := Lib.hid B0
    have R1 := Lib.hid B1
    have R2 := Lib.hid B2
    have HO := Lib.hid hown
    have HB := Lib.hid hbel
    clear B0 B1 B2 hown hbel Q0 Q1 Q2 HW HOw
    obtain ⟨a0, a1, -, -⟩ := R0.out.two
    obtain ⟨b0, b1, -, -⟩ := R1.out.two
    by_cases hlt : i < n
    · have hlt' : (i : Int) < (n : Int) := by omega
      have bu := bitAt_le us i
      have bv := bitAt_le vs i
      have hi' := HI.out
      have hz0' := HZ0.out
      have hz1' := HZ1.out
      have hz2' := HZ2.out
      have hz := R2.out.lt
      have hne := Lib.hid (show (3 : TypeId) ≠ 56 by decide)
      generalize hX : bitAt us i = x at *
      generalize hY : bitAt vs i = y at *
      have HX := Lib.hid hX
      have HY := Lib.hid hY
      clear hX hY
      have hxy : (x : Int) + y ≤ 2 := by omega
      have hxy0 : 0 ≤ (x : Int) + y := by omega
      have f1 : IntKind.i64.wrap ((x : Int) + y) = (x : Int) + y := IntWalk.i64_in _ (by omega)
      have f2 : ((x : Int) + y).tmod 2 = (((x + y) % 2 : Nat) : Int) := by rw [Int.tmod_eq_emod_of_nonneg (by omega)]; omega
      have HC1 := Lib.hid (fun (W : World) (h : Words W A l us) => bit_any n A l c i us W h (by omega) (by omega))
      have HC2 := Lib.hid (fun (W : World) (h : Words W B k vs) => bit_any n B k d i vs W h (by omega) (by omega))
      rw [HX.out] at HC1
      rw [HY.out] at HC2
      go_wp2
      go_region_held3 (fun w' => w'.cell? ⟨w.heap.size, 0, none⟩ = some (.int .i64 n) ∧ w'.cell? ⟨w.heap.size, 1, none⟩ = some (.slice A l c) ∧ w'.cell? ⟨w.heap.size + 1, 0, none⟩ = some (.int .i64 n) ∧ w'.cell? ⟨w.heap.size + 1, 1, none⟩ = some (.slice B k d))
        (go_keep)
        (first
          | (go_at_call_of 64 (Value.agg #[.int .i64 n, .slice A l c]); refine (HC1.out _ (HU.out.below HB.out).drew).mono ?_; rintro e1 x1 ⟨rfl, hb1⟩; have P0 := Lib.hid (R0.out.drew.keep hb1); have P1 := Lib.hid (R1.out.drew.keep hb1); have P2 := Lib.hid (R2.out.drew.keep hb1); have O1 := Lib.hid (own_keep HO.out.drew hb1); have T1 := Lib.hid (chain HB.out.drew hb1); clear hb1; obtain ⟨k0, k1, -, -⟩ := P0.out.two; obtain ⟨k2, k3, -, -⟩ := P1.out.two)
          | (go_at_call_of 64 (Value.agg #[.int .i64 n, .slice B k d]); refine (HC2.out _ (HV.out.below T1.out)).mono ?_; rintro e2 x2 ⟨rfl, hb2⟩; have S0 := Lib.hid (P0.out.keep hb2); have S1 := Lib.hid (P1.out.keep hb2); have S2 := Lib.hid (P2.out.keep hb2); have O2 := Lib.hid (own_keep O1.out hb2); have T2 := Lib.hid (chain T1.out hb2); clear hb2; obtain ⟨m0, m1, -, -⟩ := S0.out.two; obtain ⟨m2, m3, -, -⟩ := S1.out.two; have X0 := Lib.hid (S0.out.alloc (.cells #[.int .i64 (((x + y) % 2 : Nat) : Int)] 3)); have X1 := Lib.hid (S1.out.alloc (.cells #[.int .i64 (((x + y) % 2 : Nat) : Int)] 3)); have X2 := Lib.hid (S2.out.alloc (.cells #[.int .i64 (((x + y) % 2 : Nat) : Int)] 3)); have XO := Lib.hid (O2.out.alloc (.cells #[.int .i64 (((x + y) % 2 : Nat) : Int)] 3)); have XB := Lib.hid (T2.out.alloc T2.out.size (.cells #[.int .i64 (((x + y) % 2 : Nat) : Int)] 3)); have N0 := Lib.hid (own_ne XO.out X0.out hne.out); have N1 := Lib.hid (own_ne XO.out X1.out hne.out); have N2 := Lib.hid (own_ne XO.out X2.out hne.out); have N3 := Lib.hid (fun k hk => (O2.out.lt k hk).1))
          | (refine step_append_lies _ (by rfl) _ _ _ (by rfl) w.heap.size 3 i0 _ 1 8 Tryz.underlying66 hi' hz0' hz1' hz2' rfl (by omega) _ _ _ (by rfl) XO.out ⟨x2.heap.size, 0, none⟩ 1 1 [.int .i64 (((x + y) % 2 : Nat) : Int)] (by rfl) (by rfl) (cell_one_new _ _ _) (by simp [Value.oneCell']) (by omega) (by simp [maxLen]; omega) (by omega) XB.out.size (x2.heap.size + 1) (by simp) ?_; intro gg cap w1 hown1 hgrow hat hlg; have Y0 := Lib.hid (X0.out.grown hgrow N0.out); have Y1 := Lib.hid (X1.out.grown hgrow N1.out); have Y2 := Lib.hid (X2.out.grown hgrow N2.out); have YB := Lib.hid (XB.out.grown hgrow XB.out.size N3.out); have YO := Lib.hid hown1; clear hgrow hat hown1; obtain ⟨p0, p1, -, -⟩ := Y0.out.two; obtain ⟨p2, p3, -, -⟩ := Y1.out.two))
      clear p0 p1 p2 p3 m0 m1 m2 m3 k0 k1 k2 k3 a0 a1 b0 b1 f1 f2 hi' hz0' hz1' hz2'
      go_wp2
      go_roundw
      case rel =>
        refine ⟨i + 1, by omega, by go_num, ?_, Y0.out, Y1.out, Y2.out, YB.out⟩
        have h := YO.out
        rw [bitSums_succ, List.map_append, HX.out, HY.out]
        exact h
      case measure => simp [intOf] <;> omega
    · obtain rfl : i = n := by omega
      have hlt' : ¬ (i : Int) < (i : Int) := by omega
      obtain ⟨A', c', rfl, hA'⟩ := own_form HO.out
      go_wp2_with fail
      refine (from_own A' i c' _ _ (own_ints HO.out (bitSums_lt us vs i)) (by omega)).mono ?_
      rintro e x1 ⟨A1, l1, c1, rfl, hw, hb⟩
      have P2 := Lib.hid (R2.out.keep hb)
      have T1 := Lib.hid (chain HB.out hb)
      have HWo := Lib.hid hw
      clear hw hb a0 a1 b0 b1
      obtain ⟨r0, r1, r2, r3⟩ := P2.out.two
      go_wp2
      refine close_one Tryz.results65 rfl rfl P2.out.put2 Tryz.underlying56 rfl (by kernel_rfl) ⟨_, _, _, rfl, ?_, ?_⟩
      · have h := HWo.out
        rw [from_xor i us vs HR1.out HR2.out HU.out.2.1 HV.out.2.1] at h
        exact h.put2 P2.out _ _
      · exact (T1.out.setCell (p := ⟨w.heap.size + 1 + 1, 0, none⟩) (by simp; omega) _).setCell (p := ⟨w.heap.size + 1 + 1, 1, none⟩) (by simp; omega) _

theorem refXor_num (N x y : Nat) (hN : N ≤ 512) (hx : x < 2 ^ N) (hy : y < 2 ^ N) (A B : Option Addr) (l c k d : Nat) (w : World) (hu : Words w A l (rowOf N x)) (hv : Words w B k (rowOf N y)) :
    Calls Tryz.prog 65 #[.agg #[.int .i64 (N : Int), .slice A l c], .agg #[.int .i64 (N : Int), .slice B k d]] w (OneOwn N (rowOf N (x ^^^ y)) w) := by
  have h := refXor_own N A B l c k d (rowOf N x) (rowOf N y) w hu hv (rowOf_right N x hN hx) (rowOf_right N y hN hy)
  rw [rowOf_xor] at h
  exact h
end
section
/- The reference's Left. -/
set_option linter.unusedVariables false
set_option linter.unusedSimpArgs false
open Go.RowKit
set_option maxRecDepth 100000
theorem first_low (N x p : Nat) (hN : N ≤ 512) (hx : x < 2 ^ N) (hp : IsLow x p) (A : Option Addr) (l c : Nat) (w : World) (hw : Words w A l (rowOf N x)) :
    Calls Tryz.prog 48 #[.agg #[.int .i64 (N : Int), .slice A l c]] w fun e w' => e = .returned (.int .i64 (p : Int)) ∧ Below w.heap.size w w' := by
  refine (first_any N x hN hx A l c w hw).mono ?_
  rintro e w' ⟨⟨q, hq, rfl⟩ | ⟨rfl, rfl⟩, hb⟩
  · rw [hq.uniq hp]; exact ⟨rfl, hb⟩
  · exact absurd hp.1 (by simp)
theorem low_lt {N x p : Nat} (hx : x < 2 ^ N) (hp : IsLow x p) : p < N := by
  apply Classical.byContradiction
  intro h
  have := Nat.testBit_lt_two_pow (Nat.lt_of_lt_of_le hx (Nat.pow_le_pow_right (by omega) (show N ≤ p by omega)))
  rw [hp.1] at this; cases this
theorem leftN_lt {N : Nat} {L P : List Nat} (hL : ∀ i, L.getD i 0 < 2 ^ N) (x : Nat) (hx : x < 2 ^ N) : ∀ k, leftN L P x k < 2 ^ N
  | 0 => hx
  | k + 1 => by
    unfold leftN
    split
    · exact Nat.xor_lt_two_pow (leftN_lt hL x hx k) (hL k)
    · exact leftN_lt hL x hx k
/-- What Left leaves: a row, its words anywhere. -/
def LeftOut (N z : Nat) (w : World) (e : Ending) (w' : World) : Prop :=
  ∃ A l c, e = .returned (.agg #[.int .i64 (N : Int), .slice A l c]) ∧ SliceOk A l c ∧ Words w' A l (rowOf N z) ∧ Below w.heap.size w w'
theorem left_any (N : Nat) (hN : N ≤ 512) (L P : List Nat) (hR : Rref L P) (hL : ∀ r ∈ L, r < 2 ^ N) (hlen : L.length ≤ 100) (x : Nat) (hx : x < 2 ^ N) (A B : Option Addr) (c l d lo : Nat) (w : World) (hm : MatAt w lo A L.length (mkM N L)) (hs : SliceOk B l d) (hw : Words w B l (rowOf N x)) :
    Calls Tryz.prog 47 #[.slice A L.length c, .agg #[.int .i64 (N : Int), .slice B l d]] w (LeftOut N (leftN L P x L.length) w) := by
  have hW : Below w.heap.size w (w.alloc (.cells #[.int .i64 N, .slice B l d] 56)) := (Below.refl _ _).alloc (Nat.le_refl _) _
  have Q := Lib.hid (Box.new w 56 #[.int .i64 (N : Int), .slice B l d])
  have HWd := Lib.hid (hw.below hW)
  have HW := Lib.hid hW
  have HX := Lib.hid hx
  have HM := Lib.hid hm
  have HS := Lib.hid hs
  have HLt := Lib.hid (lt_all hL)
  clear hw hW hx hm hs
  obtain ⟨q0, q1, -, -⟩ := Q.out.two
  go_enter Tryz.func47, Tryz.ntmps47
  have hW2 := (HW.out.alloc HW.out.size (.cells #[.int .i64 0, .slice none 0 0] 56))
  have Q0 := Lib.hid (Q.out.alloc (.cells #[.int .i64 0, .slice none 0 0] 56))
  have q1' := Box.new (w.alloc (.cells #[.int .i64 N, .slice B l d] 56)) 56 #[.int .i64 0, .slice none 0 0]
  simp only [World.size_alloc] at q1'
  have Q1 := Lib.hid q1'
  have HW0 := Lib.hid (HWd.out.alloc (.cells #[.int .i64 0, .slice none 0 0] 56))
  have HB0 := Lib.hid hW2
  clear hW2 q1'
  go_wp2_with fail
  clear q0 q1
  go_loopw [9] (fun t wr => ∃ (i : Nat) (B' : Option Addr) (l' d' : Nat), i ≤ L.length ∧ t = .int .i64 (i : Int) ∧ Hid (Box wr w.heap.size 56 #[.int .i64 (N : Int), .slice B' l' d']) ∧ Hid (Box wr (w.heap.size + 1) 56 #[.int .i64 0, .slice none 0 0]) ∧ Hid (SliceOk B' l' d') ∧ Hid (Words wr B' l' (rowOf N (leftN L P x i))) ∧ Hid (Below w.heap.size w wr)) (fun t _ => L.length - (intOf t).toNat)
  case atStart => exact ⟨0, B, l, d, Nat.zero_le _, rfl, Q0, Q1, HS, HW0, HB0⟩
  case round =>
    obtain ⟨i, B', l', d', hi, rfl, R0, R1, HS', HWr, HB⟩ := hrel
    clear Q0 Q1 HW0 HB0 HS HWd Q HW
    by_cases hlt : i < L.length
    · have hlt' : (i : Int) < (L.length : Int) := by omega
      obtain ⟨b, off, B1, l1, c1, rfl, hbl, x0, x1, hs, hw⟩ := (HM.out.mono (Nat.le_refl _) HB.out).at i hlt
      rw [mkM_at N L i hlt] at x0 hw
      simp only [mkR] at x0 hw
      have hal : Below wr.heap.size wr (wr.alloc (.cells #[.int .i64 (N : Int), .slice B1 l1 c1] 56)) := (Below.refl _ _).alloc (Nat.le_refl _) _
      have E := Lib.hid (Box.new wr 56 #[.int .i64 (N : Int), .slice B1 l1 c1])
      have R0 := Lib.hid (R0.out.keep hal)
      have R1 := Lib.hid (R1.out.keep hal)
      have HB := Lib.hid (chain HB.out hal)
      have HWx := Lib.hid (hw.below hal)
      have HWr := Lib.hid (HWr.out.below hal)
      have HLow := Lib.hid (hR.low i hlt)
      have HPN := Lib.hid (low_lt (HLt.out i) HLow.out)
      have HLv := Lib.hid (leftN_lt (P := P) HLt.out x HX.out i)
      have HFst := Lib.hid (fun w' (h : Words w' B1 l1 (rowOf N (L.getD i 0))) => first_low N _ _ hN (HLt.out i) HLow.out B1 l1 c1 w' h)
      have HBt := Lib.hid (fun w' (h : Words w' B' l' (rowOf N (leftN L P x i))) => rbit_any N _ _ hN B' l' d' HPN.out w' h)
      have DX := Lib.hid (HWx.out.drew)
      have DR := Lib.hid (HWr.out.drew)
      clear hal hw hs
      obtain ⟨e0, e1, -, -⟩ := E.out.two
      obtain ⟨r0, r1, rf0, rf1⟩ := R0.out.two
      cases hb : (leftN L P x i).testBit (P.getD i 0) with
      | true =>
        rw [hb] at HBt
        have HN := Lib.hid (show leftN L P x (i + 1) = leftN L P x i ^^^ L.getD i 0 by rw [leftN, if_pos hb])
        clear hb
        go_wp2_with fail
        go_region_held3 (fun w' => w'.cell? ⟨w.heap.size, 0, none⟩ = some (.int .i64 (N : Int)) ∧ w'.cell? ⟨w.heap.size, 1, none⟩ = some (.slice B' l' d') ∧ w'.cell? ⟨wr.heap.size, 0, none⟩ = some (.int .i64 (N : Int)) ∧ w'.cell? ⟨wr.heap.size, 1, none⟩ = some (.slice B1 l1 c1)) (go_keep)
          (first
            | (go_at_call 48; refine (HFst.out _ DX.out).mono ?_; rintro f1 y1 ⟨rfl, hb⟩; have R0a := Lib.hid (R0.out.drew.keep hb); have R1a := Lib.hid (R1.out.drew.keep hb); have Ea := Lib.hid (E.out.drew.keep hb); have HBa := Lib.hid (chainN HB.out.drew HB.out.size hb); have DXa := Lib.hid (DX.out.below hb); have DRa := Lib.hid (DR.out.below hb); clear hb; obtain ⟨s0, s1, -, -⟩ := R0a.out.two; obtain ⟨t0, t1, -, -⟩ := Ea.out.two)
            | (go_at_call 64; refine (HBt.out _ DRa.out).mono ?_; rintro f2 y2 ⟨rfl, hb⟩; have R0b := Lib.hid (R0a.out.keep hb); have R1b := Lib.hid (R1a.out.keep hb); have Eb := Lib.hid (Ea.out.keep hb); have HBb := Lib.hid (chainN HBa.out HBa.out.size hb); have DXb := Lib.hid (DXa.out.below hb); have DRb := Lib.hid (DRa.out.below hb); clear hb; obtain ⟨u0, u1, -, -⟩ := R0b.out.two; obtain ⟨v0, v1, -, -⟩ := Eb.out.two))
        clear s0 s1 t0 t1 r0 r1 e0 e1
        go_wp2_with fail
        refine (refXor_num N _ _ hN HLv.out (HLt.out i) B' B1 l' d' l1 c1 _ DRb.out DXb.out).mono ?_
        rw [← HN.out]
        rintro e y3 ⟨A3, l3, c3, rfl, ow, hb⟩
        have R0c := Lib.hid (R0b.out.keep hb)
        have R1c := Lib.hid (R1b.out.keep hb)
        have HBc := Lib.hid (chainN HBb.out HBb.out.size hb)
        have OW := Lib.hid ow
        clear hb ow u0 u1 v0 v1
        obtain ⟨u0, u1, uf0, uf1⟩ := R0c.out.two
        go_wp2_with fail
        go_roundw
        case rel => exact ⟨i + 1, A3, l3, c3, by omega, by go_num, Lib.hid R0c.out.put2, Lib.hid ((R1c.out.far (p := ⟨w.heap.size, 0, none⟩) (by simp) _).far (p := ⟨w.heap.size, 1, none⟩) (by simp) _), Lib.hid OW.out.ok, Lib.hid ((OW.out.words (rowOf_lt N _)).put2 R0c.out _ _), Lib.hid ((HBc.out.setCell (p := ⟨w.heap.size, 0, none⟩) (Nat.le_refl _) _).setCell (p := ⟨w.heap.size, 1, none⟩) (Nat.le_refl _) _)⟩
        case measure => simp [intOf] <;> omega
      | false =>
        rw [hb] at HBt
        have HN := Lib.hid (show leftN L P x (i + 1) = leftN L P x i by rw [leftN, hb]; rfl)
        clear hb
        go_wp2_with fail
        go_region_held3 (fun w' => w'.cell? ⟨w.heap.size, 0, none⟩ = some (.int .i64 (N : Int)) ∧ w'.cell? ⟨w.heap.size, 1, none⟩ = some (.slice B' l' d') ∧ w'.cell? ⟨wr.heap.size, 0, none⟩ = some (.int .i64 (N : Int)) ∧ w'.cell? ⟨wr.heap.size, 1, none⟩ = some (.slice B1 l1 c1)) (go_keep)
          (first
            | (go_at_call 48; refine (HFst.out _ DX.out).mono ?_; rintro f1 y1 ⟨rfl, hb⟩; have R0a := Lib.hid (R0.out.drew.keep hb); have R1a := Lib.hid (R1.out.drew.keep hb); have Ea := Lib.hid (E.out.drew.keep hb); have HBa := Lib.hid (chainN HB.out.drew HB.out.size hb); have DXa := Lib.hid (DX.out.below hb); have DRa := Lib.hid (DR.out.below hb); clear hb; obtain ⟨s0, s1, -, -⟩ := R0a.out.two; obtain ⟨t0, t1, -, -⟩ := Ea.out.two)
            | (go_at_call 64; refine (HBt.out _ DRa.out).mono ?_; rintro f2 y2 ⟨rfl, hb⟩; have R0b := Lib.hid (R0a.out.keep hb); have R1b := Lib.hid (R1a.out.keep hb); have Eb := Lib.hid (Ea.out.keep hb); have HBb := Lib.hid (chainN HBa.out HBa.out.size hb); have DXb := Lib.hid (DXa.out.below hb); have DRb := Lib.hid (DRa.out.below hb); clear hb; obtain ⟨u0, u1, -, -⟩ := R0b.out.two; obtain ⟨v0, v1, -, -⟩ := Eb.out.two))
        clear s0 s1 t0 t1 r0 r1 e0 e1
        go_wp2_with fail
        go_roundw
        case rel => exact ⟨i + 1, B', l', d', by omega, by go_num, R0b, R1b, HS', by rw [HN.out]; exact DRb, HBb⟩
        case measure => simp [intOf] <;> omega
    · obtain rfl : i = L.length := by omega
      have hlt' : ¬ (L.length : Int) < (L.length : Int) := by omega
      obtain ⟨r0, r1, -, -⟩ := R0.out.two
      obtain ⟨s0, s1, sf0, sf1⟩ := R1.out.two
      go_wp2_with fail
      refine close_one Tryz.results47 rfl rfl R1.out.put2 Tryz.underlying56 rfl (by kernel_rfl) ⟨_, _, _, rfl, HS'.out, HWr.out.put2 R1.out _ _, ?_⟩
      exact (HB.out.setCell (p := ⟨w.heap.size + 1, 0, none⟩) (by simp) _).setCell (p := ⟨w.heap.size + 1, 1, none⟩) (by simp) _
end
section
/- The reference's with. -/
set_option linter.unusedVariables false
set_option linter.unusedSimpArgs false
open Go.RowKit
set_option maxRecDepth 100000
/-- A row of the reference's: its words are the argument's (at the world w0) or its own. -/
def RowQ (w0 w : World) (N : Nat) (r : RowV) (x : Nat) : Prop := r.1 = (N : Int) ∧ SliceOk r.2.1 r.2.2.1 r.2.2.2 ∧ (Words w0 r.2.1 r.2.2.1 (rowOf N x) ∨ OwnW w r.2.1 r.2.2.1 r.2.2.2 (rowOf N x))
def RowsQ (w0 w : World) (base : Nat) (v : Value) (N : Nat) (K : List Nat) : Prop :=
  ∃ rs : List RowV, rs.length = K.length ∧ w.ownsRow base 56 2 v K.length (rowCells rs) ∧ ∀ j, j < K.length → RowQ w0 w N (rs.getD j (0, none, 0, 0)) (K.getD j 0)
theorem RowQ.below {w0 w w' : World} {N : Nat} {r : RowV} {x : Nat} (h : RowQ w0 w N r x) (hb : Below w.heap.size w w') : RowQ w0 w' N r x := ⟨h.1, h.2.1, h.2.2.imp id (fun o => o.below hb)⟩
theorem RowsQ.below {w0 w w' : World} {base : Nat} {v : Value} {N : Nat} {K : List Nat} (h : RowsQ w0 w base v N K) (hb : Below w.heap.size w w') : RowsQ w0 w' base v N K := by
  obtain ⟨rs, h1, h2, h3⟩ := h
  exact ⟨rs, h1, own_keep h2 hb, fun j hj => (h3 j hj).below hb⟩
theorem RowsQ.appended {w0 w : World} {base : Nat} {v : Value} {N : Nat} {K : List Nat} {B : Option Addr} {l d y : Nat} (h : RowsQ w0 w base v N K) (hn : RowQ w0 w N ((N : Int), B, l, d) y) :
    ∃ rs : List RowV, (w.alloc (.cells #[.int .i64 (N : Int), .slice B l d] 56)).ownsRow base 56 2 v K.length (rowCells rs) ∧ ∀ v' w1, w1.ownsRow base 56 2 v' (K.length + 1) (rowCells rs ++ [.int .i64 (N : Int), .slice B l d]) → (w.alloc (.cells #[.int .i64 (N : Int), .slice B l d] 56)).grownBy w1 v.ownBlock → RowsQ w0 w1 base v' N (K ++ [y]) := by
  obtain ⟨rs, h1, h2, h3⟩ := h
  have h2' := World.ownsRow.alloc h2 (.cells #[.int .i64 (N : Int), .slice B l d] 56)
  have al : Below w.heap.size w (w.alloc (.cells #[.int .i64 (N : Int), .slice B l d] 56)) := (Below.refl _ _).alloc (Nat.le_refl _) _
  refine ⟨rs, h2', fun v' w1 ho hg => ⟨rs ++ [((N : Int), B, l, d)], by simp [h1], by rw [rowCells_snoc, List.length_append]; exact ho, fun j hj => ?_⟩⟩
  have gr : ∀ {r : RowV} {x : Nat}, RowQ w0 w N r x → RowQ w0 w1 N r x := fun q => ⟨q.1, q.2.1, q.2.2.imp id (fun o => (o.below al).grown h2' (by decide) hg)⟩
  rw [List.length_append] at hj
  by_cases hm : j < K.length
  · have e1 : (rs ++ [((N : Int), B, l, d)]).getD j (0, none, 0, 0) = rs.getD j (0, none, 0, 0) := by simp only [List.getD]; rw [List.getElem?_append_left (by omega)]
    have e2 : (K ++ [y]).getD j 0 = K.getD j 0 := by simp only [List.getD]; rw [List.getElem?_append_left (by omega)]
    rw [e1, e2]; exact gr (h3 j hm)
  · obtain rfl : j = K.length := by simp at hj; omega
    have e1 : (rs ++ [((N : Int), B, l, d)]).getD K.length (0, none, 0, 0) = ((N : Int), B, l, d) := by rw [← h1]; simp [List.getD]
    have e2 : (K ++ [y]).getD K.length 0 = y := by simp [List.getD]
    rw [e1, e2]; exact gr hn
theorem RowsQ.mat {w0 w : World} {base : Nat} {v : Value} {N : Nat} {K : List Nat} (h : RowsQ w0 w base v N K) {B : Nat} (hB : w0.heap.size ≤ B) (hb : Below B w0 w) : ∃ A c, v = .slice A K.length c ∧ K.length ≤ c ∧ MatAt w 0 A K.length (mkM N K) := by
  obtain ⟨rs, h1, h2, h3⟩ := h
  obtain ⟨A, c, e, hc, hm⟩ := own_mat h2 h1 (mkM N K) (mkM_len N K) (fun j hj => by
    obtain ⟨a1, a2, a3⟩ := h3 j hj
    rw [mkM_at N K j hj]
    exact ⟨a1, a2, by rcases a3 with a3 | a3; exact a3.mono hB hb; exact a3.words (rowOf_lt N _)⟩)
  exact ⟨A, c, e, hc, hm.low (Nat.zero_le _)⟩
/-- The rows ahead of the new one, i of the old ones looked at. -/
def withP (L : List Nat) (z a m i : Nat) : List Nat := (L.take (min i m)).map (fun x => if x.testBit a then x ^^^ z else x)
theorem withP_lt (L : List Nat) (z a m i : Nat) (hi : i < m) (hl : i < L.length) : withP L z a m (i + 1) = withP L z a m i ++ [if (L.getD i 0).testBit a then L.getD i 0 ^^^ z else L.getD i 0] := by
  unfold withP
  rw [Nat.min_eq_left (by omega), Nat.min_eq_left (by omega), List.take_succ_eq_append_getElem hl, List.map_append]
  simp [List.getD, hl]
theorem withP_ge (L : List Nat) (z a m i : Nat) (hi : m ≤ i) : withP L z a m (i + 1) = withP L z a m i := by
  unfold withP
  rw [Nat.min_eq_right (by omega), Nat.min_eq_right (by omega)]
theorem withP_len (L : List Nat) (z a m i : Nat) : (withP L z a m i).length ≤ L.length := by
  unfold withP; rw [List.length_map, List.length_take]; omega
/-- The rows behind it. -/
def withD (L : List Nat) (m i : Nat) : List Nat := (L.drop m).take (i - m)
theorem withD_lt (L : List Nat) (m i : Nat) (hi : i < m) : withD L m (i + 1) = withD L m i := by
  unfold withD; rw [show i + 1 - m = 0 by omega, show i - m = 0 by omega]
theorem withD_ge (L : List Nat) (m i : Nat) (hi : m ≤ i) (hl : i < L.length) : withD L m (i + 1) = withD L m i ++ [L.getD i 0] := by
  unfold withD
  rw [show i + 1 - m = (i - m) + 1 by omega, List.take_succ_eq_append_getElem (by rw [List.length_drop]; omega)]
  simp [List.getD, hl, show m + (i - m) = i by omega]
theorem withD_len (L : List Nat) (m i : Nat) : (withD L m i).length ≤ L.length := by
  unfold withD; rw [List.length_take, List.length_drop]; omega
theorem with_all (L : List Nat) (z a m : Nat) (hm : m ≤ L.length) : (withP L z a m L.length ++ [z]) ++ withD L m L.length = putW L z a m := by
  unfold withP withD putW
  have e : (L.drop m).take (L.length - m) = L.drop m := List.take_of_length_le (by rw [List.length_drop]; omega)
  rw [Nat.min_eq_right hm, e]
  simp
theorem own_empty4 (W : World) (base e : Nat) (hb : base ≤ W.heap.size) : (W.alloc (.cells #[] e)).ownsRow base e 2 (.slice (some ⟨W.heap.size, 0, none⟩) 0 0) 0 [] :=
  ⟨by simp, .inr ⟨W.heap.size, 0, #[], rfl, hb, heap_alloc_new W _, Nat.le_refl _, Nat.zero_le _, by simp, by simp⟩⟩
/-- What with hands back. -/
def WithOut (N : Nat) (K : List Nat) (w : World) (e : Ending) (w' : World) : Prop :=
  ∃ A c, e = .returned (.slice A K.length c) ∧ MatAt w' 0 A K.length (mkM N K) ∧ Below w.heap.size w w'
set_option maxHeartbeats 16000000 in
theorem with_any (N : Nat) (hN : N ≤ 512) (L P : List Nat) (hR : Rref L P) (hL : ∀ r ∈ L, r < 2 ^ N) (hlen : L.length ≤ 100) (z a m : Nat) (hz : z < 2 ^ N) (hla : IsLow z a) (hm : m ≤ L.length) (hm1 : ∀ i, i < m → P.getD i 0 < a) (hm2 : ∀ i, m ≤ i → i < L.length → a < P.getD i 0) (A B : Option Addr) (c l d lo : Nat) (w : World) (hmat : MatAt w lo A L.length (mkM N L)) (hs : SliceOk B l d) (hw : Words w B l (rowOf N z)) :
    Calls Tryz.prog 49 #[.slice A L.length c, .agg #[.int .i64 (N : Int), .slice B l d]] w (WithOut N (putW L z a m) w) := by
  have hW : Below w.heap.size w (w.alloc (.cells #[.int .i64 N, .slice B l d] 56)) := (Below.refl _ _).alloc (Nat.le_refl _) _
  have Q := Lib.hid (Box.new w 56 #[.int .i64 (N : Int), .slice B l d])
  have HWd := Lib.hid (hw.below hW)
  have HW := Lib.hid hW
  have HX := Lib.hid hz
  have HM := Lib.hid hmat
  have HS := Lib.hid hs
  have HLt := Lib.hid (lt_all hL)
  have HAN := Lib.hid (low_lt hz hla)
  have HFst := Lib.hid (fun w' (h : Words w' B l (rowOf N z)) => first_low N z a hN hz hla B l d w' h)
  have HW0 := Lib.hid hw
  obtain ⟨i0, hi0, hz0, hz1, hz2⟩ := info_parts row_infoM
  have HI := Lib.hid hi0
  have HZ0 := Lib.hid hz0
  have HZ1 := Lib.hid hz1
  have HZ2 := Lib.hid hz2
  clear hi0 hz0 hz1 hz2
  clear hw hW hz hmat hs
  obtain ⟨q0, q1, -, -⟩ := Q.out.two
  go_enter Tryz.func49, Tryz.ntmps49
  go_wp2_with fail
  refine (HFst.out _ HWd.out).mono ?_
  rintro e x1 ⟨rfl, hb⟩
  have Q1 := Lib.hid (Q.out.keep hb)
  have HB1 := Lib.hid (chainN HW.out HW.out.size hb)
  have HWd1 := Lib.hid (HWd.out.below hb)
  clear hb q0 q1
  obtain ⟨q0, q1, -, -⟩ := Q1.out.two
  have hoe := own_empty4 x1 (w.heap.size + 1) 56 (by have := Q1.out.lt; omega)
  have Q2 := Lib.hid (Q1.out.alloc (.cells #[] 56))
  have HB2 := Lib.hid (HB1.out.alloc HB1.out.size (.cells #[] 56))
  have HO2 := Lib.hid (show RowsQ w (x1.alloc (.cells #[] 56)) (w.heap.size + 1) (.slice (some ⟨x1.heap.size, 0, none⟩) 0 0) N (withP L z a m 0) from ⟨[], by simp [withP], by simpa [withP, rowCells] using hoe, fun j hj => by simp [withP] at hj⟩)
  clear hoe
  go_wp2_with fail
  clear q0 q1
  go_loopw [6, 16] (fun v t wr => ∃ (i : Nat) (v' : Value), v' = v ∧ i ≤ L.length ∧ t = .int .i64 (i : Int) ∧ Hid (RowsQ w wr (w.heap.size + 1) v' N (withP L z a m i)) ∧ Hid (Box wr w.heap.size 56 #[.int .i64 (N : Int), .slice B l d]) ∧ Hid (Below w.heap.size w wr)) (fun _ t _ => L.length - (intOf t).toNat)
  case atStart => exact ⟨0, _, rfl, Nat.zero_le _, rfl, HO2, Q2, HB2⟩
  case round =>
    obtain ⟨i, v, rfl, hi, rfl, HRo, R0, HB⟩ := hrel
    clear Q2 HB2 HO2 Q1 HB1 HWd1 HWd HW Q
    by_cases hlt : i < L.length
    · have hlt' : (i : Int) < (L.length : Int) := by omega
      have hwl := withP_len L z a m i
      obtain ⟨b, off, B1, l1, c1, rfl, hbl, x0, x1, hs, hw0⟩ := HM.out.at i hlt
      have hw := hw0.mono (Nat.le_refl _) HB.out
      have x0 := (HB.out.cell (p := ⟨b, off + i * 2, none⟩) hbl).trans x0
      have x1 := (HB.out.cell (p := ⟨b, off + i * 2 + 1, none⟩) hbl).trans x1
      rw [mkM_at N L i hlt] at x0 hw hw0
      simp only [mkR] at x0 hw hw0
      have hal : Below wr.heap.size wr (wr.alloc (.cells #[.int .i64 (N : Int), .slice B1 l1 c1] 56)) := (Below.refl _ _).alloc (Nat.le_refl _) _
      have E := Lib.hid (Box.new wr 56 #[.int .i64 (N : Int), .slice B1 l1 c1])
      have HC := Lib.hid hal
      have HWx := Lib.hid (hw.below hal)
      have RQ0 := Lib.hid (show ∀ W', RowQ w W' N ((N : Int), B1, l1, c1) (L.getD i 0) from fun W' => ⟨rfl, hs, .inl hw0⟩)
      have HLow := Lib.hid (hR.low i hlt)
      have HF := Lib.hid (fun w' (h : Words w' B1 l1 (rowOf N (L.getD i 0))) => first_low N _ _ hN (HLt.out i) HLow.out B1 l1 c1 w' h)
      have HBt := Lib.hid (fun w' (h : Words w' B1 l1 (rowOf N (L.getD i 0))) => rbit_any N _ _ hN B1 l1 c1 HAN.out w' h)
      have HLi := Lib.hid (HLt.out i)
      have HM1 := Lib.hid (hm1 i)
      have HM2 := Lib.hid (fun h => hm2 i h hlt)
      clear hal hw hs hw0 HLow
      generalize hyy : L.getD i 0 = y at *
      have HY := Lib.hid hyy
      clear hyy
      generalize P.getD i 0 = pi at *
      obtain ⟨e0, e1, -, -⟩ := E.out.two
      by_cases him : i < m
      · have hpa : (pi : Int) < (a : Int) := by have := HM1.out him; omega
        have HWP := Lib.hid (withP_lt L z a m i him hlt)
        rw [HY.out] at HWP
        go_wp2_with fail
        refine (HF.out _ HWx.out).mono ?_
        rintro e y1 ⟨rfl, hb⟩
        have E := Lib.hid (E.out.keep hb)
        have HC := Lib.hid (chain HC.out hb)
        have HWx := Lib.hid (HWx.out.below hb)
        clear hb e0 e1
        obtain ⟨e0, e1, ef0, ef1⟩ := E.out.two
        cases hbt : y.testBit a with
        | true =>
          rw [hbt] at HBt HWP
          clear hbt
          obtain ⟨r0, r1, -, -⟩ := (R0.out.keep HC.out).two
          go_wp2_with fail
          refine (HBt.out _ HWx.out).mono ?_
          rintro e y2 ⟨rfl, hb⟩
          have E := Lib.hid (E.out.keep hb)
          have HC := Lib.hid (chain HC.out hb)
          have HWx := Lib.hid (HWx.out.below hb)
          have HWz := Lib.hid (HW0.out.mono (Nat.le_refl _) (chain HB.out HC.out))
          clear hb e0 e1 ef0 ef1 r0 r1
          obtain ⟨e0, e1, ef0, ef1⟩ := E.out.two
          obtain ⟨r0, r1, -, -⟩ := (R0.out.keep HC.out).two
          go_wp2_with fail
          refine (refXor_num N y z hN HLi.out HX.out B1 B l1 c1 l d _ HWx.out HWz.out).mono ?_
          rintro e y3 ⟨A3, l3, c3, rfl, ow, hb⟩
          have E := Lib.hid (E.out.keep hb)
          have OW := Lib.hid ow
          have HC := Lib.hid (chain HC.out hb)
          clear hb ow e0 e1 ef0 ef1 r0 r1
          obtain ⟨e0, e1, ef0, ef1⟩ := E.out.two
          have HRw := Lib.hid (show RowQ w ((y3.setCell ⟨wr.heap.size, 0, none⟩ (.int .i64 (N : Int))).setCell ⟨wr.heap.size, 1, none⟩ (.slice A3 l3 c3)) N ((N : Int), A3, l3, c3) (y ^^^ z) from ⟨rfl, OW.out.ok, .inr (OW.out.put2 E.out _ _)⟩)
          have E := Lib.hid (E.out.put2 (u := .int .i64 (N : Int)) (v := .slice A3 l3 c3))
          have HC := Lib.hid ((HC.out.setCell (p := ⟨wr.heap.size, 0, none⟩) (Nat.le_refl _) (.int .i64 (N : Int))).setCell (p := ⟨wr.heap.size, 1, none⟩) (Nat.le_refl _) (.slice A3 l3 c3))
          have R0 := Lib.hid (R0.out.keep HC.out)
          have HRo := Lib.hid (HRo.out.below HC.out)
          have HB := Lib.hid (chain HB.out HC.out)
          clear OW HWx HWz HF HBt
          go_upto_region 9 with (fail)
          generalize (y3.setCell ⟨wr.heap.size, 0, none⟩ (.int .i64 (N : Int))).setCell ⟨wr.heap.size, 1, none⟩ (.slice A3 l3 c3) = w8 at *
          clear e0 e1 ef0 ef1
          obtain ⟨e0, e1, ef0, ef1⟩ := E.out.two
          obtain ⟨rs, ho, hnx⟩ := HRo.out.appended HRw.out
          have YO := Lib.hid ho
          have HNx := Lib.hid hnx
          clear ho hnx
          have hkl := hwl
          have Y0 := Lib.hid (R0.out.alloc (.cells #[.int .i64 (N : Int), .slice A3 l3 c3] 56))
          have YB := Lib.hid (HB.out.alloc HB.out.size (.cells #[.int .i64 (N : Int), .slice A3 l3 c3] 56))
          have YBs := Lib.hid (show w.heap.size + 1 ≤ (w8.alloc (.cells #[.int .i64 (N : Int), .slice A3 l3 c3] 56)).heap.size by have := R0.out.lt; simp; omega)
          have N0 := Lib.hid (show v.ownBlock ≠ some w.heap.size from fun e => by have := (YO.out.lt _ e).1; omega)
          have N2 := Lib.hid (show ∀ k, v.ownBlock = some k → w.heap.size ≤ k from fun k hk => by have := (YO.out.lt k hk).1; omega)
          have HNW := Lib.hid (World.news_of_block (Box.new w8 56 #[.int .i64 (N : Int), .slice A3 l3 c3]))
          have ki := HI.out
          have kz0 := HZ0.out
          have kz1 := HZ1.out
          have kz2 := HZ2.out
          go_wp2_with (at_builtin; refine wpList_append_own _ rfl _ _ 26 rfl (w.heap.size + 1) 56 i0 (.agg #[.int .i64 0, .slice none 0 0]) 2 32 Tryz.underlying26 ki kz0 kz1 kz2 rfl (by decide) _ _ _ rfl YO.out ⟨w8.heap.size, 0, none⟩ 1 1 [.int .i64 (N : Int), .slice A3 l3 c3] rfl rfl HNW.out (by simp [Value.oneCell']) (by simp [maxLen]; omega) (by omega) YBs.out ?_; intro v9 w9 hown' hgrow _; have R09 := Lib.hid (Y0.out.grown hgrow N0.out); have HB9 := Lib.hid (YB.out.grown hgrow YB.out.size N2.out); have HR9 := Lib.hid (HNx.out _ _ hown' hgrow); clear hown' hgrow)
          go_wp2_with fail
          go_roundw
          case rel => exact ⟨i + 1, _, rfl, by omega, by go_num, by rw [HWP.out]; exact HR9, R09, HB9⟩
          case measure => simp [intOf] <;> omega
        | false =>
          rw [hbt] at HBt HWP
          clear hbt
          go_wp2_with fail
          refine (HBt.out _ HWx.out).mono ?_
          rintro e y2 ⟨rfl, hb⟩
          have E := Lib.hid (E.out.keep hb)
          have HC := Lib.hid (chain HC.out hb)
          have R0 := Lib.hid (R0.out.keep HC.out)
          have HRo := Lib.hid (HRo.out.below HC.out)
          have HB := Lib.hid (chain HB.out HC.out)
          clear hb HWx HF HBt
          have HRw := Lib.hid (RQ0.out y2)
          clear e0 e1 ef0 ef1
          obtain ⟨e0, e1, ef0, ef1⟩ := E.out.two
          obtain ⟨rs, ho, hnx⟩ := HRo.out.appended HRw.out
          have YO := Lib.hid ho
          have HNx := Lib.hid hnx
          clear ho hnx
          have hkl := hwl
          have Y0 := Lib.hid (R0.out.alloc (.cells #[.int .i64 (N : Int), .slice B1 l1 c1] 56))
          have YB := Lib.hid (HB.out.alloc HB.out.size (.cells #[.int .i64 (N : Int), .slice B1 l1 c1] 56))
          have YBs := Lib.hid (show w.heap.size + 1 ≤ (y2.alloc (.cells #[.int .i64 (N : Int), .slice B1 l1 c1] 56)).heap.size by have := R0.out.lt; simp; omega)
          have N0 := Lib.hid (show v.ownBlock ≠ some w.heap.size from fun e => by have := (YO.out.lt _ e).1; omega)
          have N2 := Lib.hid (show ∀ k, v.ownBlock = some k → w.heap.size ≤ k from fun k hk => by have := (YO.out.lt k hk).1; omega)
          have HNW := Lib.hid (World.news_of_block (Box.new y2 56 #[.int .i64 (N : Int), .slice B1 l1 c1]))
          have ki := HI.out
          have kz0 := HZ0.out
          have kz1 := HZ1.out
          have kz2 := HZ2.out
          go_wp2_with (at_builtin; refine wpList_append_own _ rfl _ _ 26 rfl (w.heap.size + 1) 56 i0 (.agg #[.int .i64 0, .slice none 0 0]) 2 32 Tryz.underlying26 ki kz0 kz1 kz2 rfl (by decide) _ _ _ rfl YO.out ⟨y2.heap.size, 0, none⟩ 1 1 [.int .i64 (N : Int), .slice B1 l1 c1] rfl rfl HNW.out (by simp [Value.oneCell']) (by simp [maxLen]; omega) (by omega) YBs.out ?_; intro v9 w9 hown' hgrow _; have R09 := Lib.hid (Y0.out.grown hgrow N0.out); have HB9 := Lib.hid (YB.out.grown hgrow YB.out.size N2.out); have HR9 := Lib.hid (HNx.out _ _ hown' hgrow); clear hown' hgrow)
          go_wp2_with fail
          go_roundw
          case rel => exact ⟨i + 1, _, rfl, by omega, by go_num, by rw [HWP.out]; exact HR9, R09, HB9⟩
          case measure => simp [intOf] <;> omega
      · have hpa : ¬ (pi : Int) < (a : Int) := by have := HM2.out (by omega); omega
        have HWP := Lib.hid (withP_ge L z a m i (by omega))
        go_wp2_with fail
        refine (HF.out _ HWx.out).mono ?_
        rintro e y1 ⟨rfl, hb⟩
        have E := Lib.hid (E.out.keep hb)
        have HC := Lib.hid (chain HC.out hb)
        have HWx := Lib.hid (HWx.out.below hb)
        clear hb e0 e1
        obtain ⟨e0, e1, ef0, ef1⟩ := E.out.two
        have R0 := Lib.hid (R0.out.keep HC.out)
        have HRo := Lib.hid (HRo.out.below HC.out)
        have HB := Lib.hid (chain HB.out HC.out)
        go_wp2_with fail
        go_roundw
        case rel => exact ⟨i + 1, _, rfl, by omega, by go_num, by rw [HWP.out]; exact HRo, R0, HB⟩
        case measure => simp [intOf] <;> omega
    · obtain rfl : i = L.length := by omega
      have hlt' : ¬ (L.length : Int) < (L.length : Int) := by omega
      have hwl := withP_len L z a m L.length
      have HRq := Lib.hid (show ∀ W', RowQ w W' N ((N : Int), B, l, d) z from fun W' => ⟨rfl, HS.out, .inl HW0.out⟩)
      have HRw := Lib.hid (HRq.out wr)
      obtain ⟨r0, r1, -, -⟩ := R0.out.two
      go_upto_region 11 with (fail)
      obtain ⟨rs, ho, hnx⟩ := HRo.out.appended HRw.out
      have YO := Lib.hid ho
      have HNx := Lib.hid hnx
      clear ho hnx
      have hkl := hwl
      have Y0 := Lib.hid (R0.out.alloc (.cells #[.int .i64 (N : Int), .slice B l d] 56))
      have YB := Lib.hid (HB.out.alloc HB.out.size (.cells #[.int .i64 (N : Int), .slice B l d] 56))
      have YBs := Lib.hid (show w.heap.size + 1 ≤ (wr.alloc (.cells #[.int .i64 (N : Int), .slice B l d] 56)).heap.size by have := R0.out.lt; simp; omega)
      have N0 := Lib.hid (show v.ownBlock ≠ some w.heap.size from fun e => by have := (YO.out.lt _ e).1; omega)
      have N2 := Lib.hid (show ∀ k, v.ownBlock = some k → w.heap.size ≤ k from fun k hk => by have := (YO.out.lt k hk).1; omega)
      have HNW := Lib.hid (World.news_of_block (Box.new wr 56 #[.int .i64 (N : Int), .slice B l d]))
      have ki := HI.out
      have kz0 := HZ0.out
      have kz1 := HZ1.out
      have kz2 := HZ2.out
      go_wp2_with (at_builtin; refine wpList_append_own _ rfl _ _ 26 rfl (w.heap.size + 1) 56 i0 (.agg #[.int .i64 0, .slice none 0 0]) 2 32 Tryz.underlying26 ki kz0 kz1 kz2 rfl (by decide) _ _ _ rfl YO.out ⟨wr.heap.size, 0, none⟩ 1 1 [.int .i64 (N : Int), .slice B l d] rfl rfl HNW.out (by simp [Value.oneCell']) (by simp [maxLen]; omega) (by omega) YBs.out ?_; intro v9 w9 hown' hgrow _; have R09 := Lib.hid (Y0.out.grown hgrow N0.out); have HB9 := Lib.hid (YB.out.grown hgrow YB.out.size N2.out); have HR9 := Lib.hid (HNx.out _ _ hown' hgrow); clear hown' hgrow)
      clear r0 r1
      go_wp2_with fail
      generalize hK1 : withP L z a m L.length ++ [z] = K1 at *
      have hK1l : K1.length ≤ 101 := by rw [← hK1, List.length_append]; simp; omega
      have HAll := Lib.hid (show K1 ++ withD L m L.length = putW L z a m by rw [← hK1]; exact with_all L z a m hm)
      clear hK1 hwl
      go_loopw [6, 42] (fun v t wr => ∃ (i : Nat) (v' : Value), v' = v ∧ i ≤ L.length ∧ t = .int .i64 (i : Int) ∧ Hid (RowsQ w wr (w.heap.size + 1) v' N (K1 ++ withD L m i)) ∧ Hid (Box wr w.heap.size 56 #[.int .i64 (N : Int), .slice B l d]) ∧ Hid (Below w.heap.size w wr)) (fun _ t _ => L.length - (intOf t).toNat)
      case atStart => exact ⟨0, _, rfl, Nat.zero_le _, rfl, by rw [show withD L m 0 = [] by unfold withD; simp, List.append_nil]; exact HR9, R09, HB9⟩
      case round =>
        obtain ⟨i, v, rfl, hi, rfl, HRo, R0, HB⟩ := hrel
        clear R09 HB9 HR9
        by_cases hlt : i < L.length
        · have hlt' : (i : Int) < (L.length : Int) := by omega
          have hwl : (K1 ++ withD L m i).length ≤ 201 := by have := withD_len L m i; rw [List.length_append]; omega
          obtain ⟨b, off, B1, l1, c1, rfl, hbl, x0, x1, hs, hw0⟩ := HM.out.at i hlt
          have hw := hw0.mono (Nat.le_refl _) HB.out
          have x0 := (HB.out.cell (p := ⟨b, off + i * 2, none⟩) hbl).trans x0
          have x1 := (HB.out.cell (p := ⟨b, off + i * 2 + 1, none⟩) hbl).trans x1
          rw [mkM_at N L i hlt] at x0 hw hw0
          simp only [mkR] at x0 hw hw0
          have hal : Below wr.heap.size wr (wr.alloc (.cells #[.int .i64 (N : Int), .slice B1 l1 c1] 56)) := (Below.refl _ _).alloc (Nat.le_refl _) _
          have E := Lib.hid (Box.new wr 56 #[.int .i64 (N : Int), .slice B1 l1 c1])
          have HC := Lib.hid hal
          have HWx := Lib.hid (hw.below hal)
          have RQ0 := Lib.hid (show ∀ W', RowQ w W' N ((N : Int), B1, l1, c1) (L.getD i 0) from fun W' => ⟨rfl, hs, .inl hw0⟩)
          have HLow := Lib.hid (hR.low i hlt)
          have HF := Lib.hid (fun w' (h : Words w' B1 l1 (rowOf N (L.getD i 0))) => first_low N _ _ hN (HLt.out i) HLow.out B1 l1 c1 w' h)
          have HBt := Lib.hid (fun w' (h : Words w' B1 l1 (rowOf N (L.getD i 0))) => rbit_any N _ _ hN B1 l1 c1 HAN.out w' h)
          have HLi := Lib.hid (HLt.out i)
          have HM1 := Lib.hid (hm1 i)
          have HM2 := Lib.hid (fun h => hm2 i h hlt)
          clear hal hw hs hw0 HLow
          generalize hyy : L.getD i 0 = y at *
          have HY := Lib.hid hyy
          clear hyy
          generalize P.getD i 0 = pi at *
          obtain ⟨e0, e1, -, -⟩ := E.out.two
          by_cases him : i < m
          · have hpa : ¬ (a : Int) < (pi : Int) := by have := HM1.out him; omega
            have HWP := Lib.hid (withD_lt L m i him)
            go_wp2_with fail
            refine (HF.out _ HWx.out).mono ?_
            rintro e y1 ⟨rfl, hb⟩
            have E := Lib.hid (E.out.keep hb)
            have HC := Lib.hid (chain HC.out hb)
            have HWx := Lib.hid (HWx.out.below hb)
            clear hb e0 e1
            obtain ⟨e0, e1, ef0, ef1⟩ := E.out.two
            have R0 := Lib.hid (R0.out.keep HC.out)
            have HRo := Lib.hid (HRo.out.below HC.out)
            have HB := Lib.hid (chain HB.out HC.out)
            go_wp2_with fail
            go_roundw
            case rel => exact ⟨i + 1, _, rfl, by omega, by go_num, by rw [HWP.out]; exact HRo, R0, HB⟩
            case measure => simp [intOf] <;> omega
          · have hpa : (a : Int) < (pi : Int) := by have := HM2.out (by omega); omega
            have HWP := Lib.hid (show K1 ++ withD L m (i + 1) = (K1 ++ withD L m i) ++ [y] by rw [withD_ge L m i (by omega) hlt, HY.out, List.append_assoc])
            go_wp2_with fail
            refine (HF.out _ HWx.out).mono ?_
            rintro e y1 ⟨rfl, hb⟩
            have E := Lib.hid (E.out.keep hb)
            have HC := Lib.hid (chain HC.out hb)
            have HWx := Lib.hid (HWx.out.below hb)
            clear hb e0 e1
            obtain ⟨e0, e1, ef0, ef1⟩ := E.out.two
            have R0 := Lib.hid (R0.out.keep HC.out)
            have HRo := Lib.hid (HRo.out.below HC.out)
            have HB := Lib.hid (chain HB.out HC.out)
            have HRw := Lib.hid (RQ0.out y1)
            clear HWx HF HBt
            generalize K1 ++ withD L m i = K2 at *
            go_upto_region 16 with (fail)
            obtain ⟨rs, ho, hnx⟩ := HRo.out.appended HRw.out
            have YO := Lib.hid ho
            have HNx := Lib.hid hnx
            clear ho hnx
            have hkl := hwl
            have Y0 := Lib.hid (R0.out.alloc (.cells #[.int .i64 (N : Int), .slice B1 l1 c1] 56))
            have YB := Lib.hid (HB.out.alloc HB.out.size (.cells #[.int .i64 (N : Int), .slice B1 l1 c1] 56))
            have YBs := Lib.hid (show w.heap.size + 1 ≤ (y1.alloc (.cells #[.int .i64 (N : Int), .slice B1 l1 c1] 56)).heap.size by have := R0.out.lt; simp; omega)
            have N0 := Lib.hid (show v.ownBlock ≠ some w.heap.size from fun e => by have := (YO.out.lt _ e).1; omega)
            have N2 := Lib.hid (show ∀ k, v.ownBlock = some k → w.heap.size ≤ k from fun k hk => by have := (YO.out.lt k hk).1; omega)
            have HNW := Lib.hid (World.news_of_block (Box.new y1 56 #[.int .i64 (N : Int), .slice B1 l1 c1]))
            have ki := HI.out
            have kz0 := HZ0.out
            have kz1 := HZ1.out
            have kz2 := HZ2.out
            go_wp2_with (at_builtin; refine wpList_append_own _ rfl _ _ 26 rfl (w.heap.size + 1) 56 i0 (.agg #[.int .i64 0, .slice none 0 0]) 2 32 Tryz.underlying26 ki kz0 kz1 kz2 rfl (by decide) _ _ _ rfl YO.out ⟨y1.heap.size, 0, none⟩ 1 1 [.int .i64 (N : Int), .slice B1 l1 c1] rfl rfl HNW.out (by simp [Value.oneCell']) (by simp [maxLen]; omega) (by omega) YBs.out ?_; intro v9 w9 hown' hgrow _; have R09 := Lib.hid (Y0.out.grown hgrow N0.out); have HB9 := Lib.hid (YB.out.grown hgrow YB.out.size N2.out); have HR9 := Lib.hid (HNx.out _ _ hown' hgrow); clear hown' hgrow)
            go_wp2_with fail
            go_roundw
            case rel => exact ⟨i + 1, _, rfl, by omega, by go_num, by rw [HWP.out]; exact HR9, R09, HB9⟩
            case measure => simp [intOf] <;> omega
        · obtain rfl : i = L.length := by omega
          have hlt' : ¬ (L.length : Int) < (L.length : Int) := by omega
          rw [HAll.out] at HRo
          obtain ⟨A', c', rfl, -, hmat⟩ := HRo.out.mat (Nat.le_refl _) HB.out
          have HMat := Lib.hid hmat
          clear hmat
          go_wp2_with fail
          go_ret
          exact ⟨A', c', rfl, HMat.out, HB.out⟩
end
section
/- The reference's Echelon. -/
set_option linter.unusedVariables false
set_option linter.unusedSimpArgs false
open Go.RowKit
set_option maxRecDepth 100000
theorem same_lt {n : Nat} {L M : List Nat} (h : ∀ r ∈ L, r < 2 ^ n) (hs : SameSp L M) : ∀ r ∈ M, r < 2 ^ n := fun r hr => sp_lt h ((hs r).2 (sp_mem hr))
theorem take_lt' {n : Nat} {L : List Nat} (h : ∀ r ∈ L, r < 2 ^ n) (k : Nat) : ∀ r ∈ L.take k, r < 2 ^ n := fun r hr => h r (List.mem_of_mem_take hr)
theorem left_same {L P : List Nat} (h : Rref L P) (r : Nat) (h0 : leftN L P r L.length = 0) : SameSp (L ++ [r]) L := by
  have hs := (left_zero h r).1 h0
  refine SameSp.of (fun x hx => ?_) (fun x hx => sp_mem (List.mem_append.2 (.inl hx)))
  rcases List.mem_append.1 hx with hx | hx
  · exact sp_mem hx
  · simp at hx; subst hx; exact hs
theorem put_more {L P : List Nat} (h : Rref L P) (r a : Nat) (ha : IsLow (leftN L P r L.length) a) :
    ∃ m, m ≤ L.length ∧ (∀ i, i < m → P.getD i 0 < a) ∧ (∀ i, m ≤ i → i < L.length → a < P.getD i 0) ∧ Rref (putW L (leftN L P r L.length) a m) (putP P a m) ∧ SameSp (L ++ [r]) (putW L (leftN L P r L.length) a m) := by
  have hsp := leftN_span L P r L.length (Nat.le_refl _)
  have hz : ∀ j, j < L.length → (leftN L P r L.length).testBit (P.getD j 0) = false := fun j hj => by rw [leftN_bits h r _ (Nat.le_refl _) j hj, if_pos hj]
  generalize leftN L P r L.length = x at *
  have hn : a ∉ P := fun hp => by
    obtain ⟨j, hj, rfl⟩ := mem_getD hp
    have := hz j (by rw [h.len]; exact hj)
    rw [ha.1] at this; cases this
  obtain ⟨m, hm, h1, h2⟩ := cut_place h a hn
  refine ⟨m, hm, h1, h2, put_rref h x a m ha hz hm h1 h2, SameSp.trans ?_ (put_span x a m hm)⟩
  have liftL : ∀ y, ∀ v, Sp L v → Sp (L ++ [y]) v := fun y v hv => sp_sub (fun r hr => sp_mem (List.mem_append.2 (.inl hr))) hv
  refine SameSp.of (fun y hy => ?_) (fun y hy => ?_)
  · rcases List.mem_append.1 hy with hy | hy
    · exact sp_mem (List.mem_append.2 (.inl hy))
    · simp at hy; subst hy
      have := sp_xor (liftL x _ hsp) (sp_mem (show x ∈ L ++ [x] by simp))
      rw [xor_back] at this; exact this
  · rcases List.mem_append.1 hy with hy | hy
    · exact sp_mem (List.mem_append.2 (.inl hy))
    · simp at hy; subst hy
      have := sp_xor (sp_mem (show r ∈ L ++ [r] by simp)) (liftL r _ hsp)
      rw [← Nat.xor_assoc, Nat.xor_self, Nat.zero_xor] at this; exact this
theorem span_step {ms L M : List Nat} {k : Nat} (hk : k < ms.length) (hs : SameSp (ms.take k) L) (gs : SameSp (L ++ [ms.getD k 0]) M) : SameSp (ms.take (k + 1)) M := by
  refine SameSp.trans ?_ gs
  have e : ms.take (k + 1) = ms.take k ++ [ms.getD k 0] := by
    rw [List.take_succ_eq_append_getElem (by omega)]; simp [List.getD, hk]
  rw [e]
  refine SameSp.of (fun y hy => ?_) (fun y hy => ?_)
  · rcases List.mem_append.1 hy with hy | hy
    · exact sp_sub (fun r hr => sp_mem (List.mem_append.2 (.inl hr))) ((hs _).1 (sp_mem hy))
    · simp at hy; subst hy; exact sp_mem (by simp)
  · rcases List.mem_append.1 hy with hy | hy
    · exact sp_sub (fun r hr => sp_mem (List.mem_append.2 (.inl hr))) ((hs _).2 (sp_mem hy))
    · simp at hy; subst hy; exact sp_mem (by simp)
theorem rref_nil : Rref [] [] := ⟨rfl, fun _ h => absurd h (Nat.not_lt_zero _), fun _ _ h => absurd h (Nat.not_lt_zero _), fun _ _ _ h => absurd h (Nat.not_lt_zero _)⟩
theorem first_zero (N : Nat) (hN : N ≤ 512) (A : Option Addr) (l c : Nat) (w : World) (hw : Words w A l (rowOf N 0)) :
    Calls Tryz.prog 48 #[.agg #[.int .i64 (N : Int), .slice A l c]] w fun e w' => e = .returned (.int .i64 (-1)) ∧ Below w.heap.size w w' := by
  refine (first_any N 0 hN (Nat.two_pow_pos N) A l c w hw).mono ?_
  rintro e w' ⟨⟨q, hq, rfl⟩ | ⟨_, rfl⟩, hb⟩
  · exact absurd hq.1 (by simp)
  · exact ⟨rfl, hb⟩
/-- What the reference's Echelon hands back. -/
def RefEch (N : Nat) (orig : List Nat) (w : World) (e : Ending) (w' : World) : Prop :=
  ∃ (M P : List Nat) (A : Option Addr) (c : Nat), e = .returned (.slice A M.length c) ∧ Rref M P ∧ SameSp orig M ∧ MatAt w' 0 A M.length (mkM N M) ∧ Below w.heap.size w w'
set_option maxHeartbeats 16000000 in
theorem refEch_any (N : Nat) (hN : N ≤ 512) (Ms : List Nat) (hL : ∀ r ∈ Ms, r < 2 ^ N) (hlen : Ms.length ≤ 66) (A : Option Addr) (c lo : Nat) (w : World) (hmat : MatAt w lo A Ms.length (mkM N Ms)) :
    Calls Tryz.prog 25 #[.agg #[.int .i64 (N : Int), .slice A Ms.length c]] w (RefEch N Ms w) := by
  have hW : Below w.heap.size w (w.alloc (.cells #[.int .i64 N, .slice A Ms.length c] 28)) := (Below.refl _ _).alloc (Nat.le_refl _) _
  have Q := Lib.hid (Box.new w 28 #[.int .i64 (N : Int), .slice A Ms.length c])
  have HW := Lib.hid hW
  have HM := Lib.hid hmat
  have HLt := Lib.hid (lt_all hL)
  have HL := Lib.hid hL
  clear hW hmat hL
  obtain ⟨q0, q1, -, -⟩ := Q.out.two
  go_enter Tryz.func25, Tryz.ntmps25
  have Q0 := Lib.hid (Q.out.alloc (.cells #[] 56))
  have HB0 := Lib.hid (HW.out.alloc HW.out.size (.cells #[] 56))
  go_wp2_with fail
  clear q0 q1
  go_loopw [3, 11] (fun v t wr => ∃ (i : Nat) (K P : List Nat) (A' : Option Addr) (c' : Nat), .slice A' K.length c' = v ∧ i ≤ Ms.length ∧ t = .int .i64 (i : Int) ∧ Hid (Rref K P) ∧ Hid (SameSp (Ms.take i) K) ∧ Hid (MatAt wr 0 A' K.length (mkM N K)) ∧ Hid (Below w.heap.size w wr)) (fun _ t _ => Ms.length - (intOf t).toNat)
  case atStart => exact ⟨0, [], [], _, _, rfl, Nat.zero_le _, rfl, Lib.hid rref_nil, Lib.hid (by rw [List.take_zero]; exact SameSp.refl _), Lib.hid (MatAt.nil _ _ _), HB0⟩
  case round =>
    obtain ⟨i, K, P, A', c', rfl, hi, rfl, HR, HSp, HK, HB⟩ := hrel
    clear Q0 HB0 Q HW
    by_cases hlt : i < Ms.length
    · have hlt' : (i : Int) < (Ms.length : Int) := by omega
      obtain ⟨b, off, B1, l1, c1, rfl, hbl, x0, x1, hs, hw0⟩ := HM.out.at i hlt
      have hw := hw0.mono (Nat.le_refl _) HB.out
      have x0 := (HB.out.cell (p := ⟨b, off + i * 2, none⟩) hbl).trans x0
      have x1 := (HB.out.cell (p := ⟨b, off + i * 2 + 1, none⟩) hbl).trans x1
      rw [mkM_at N Ms i hlt] at x0 hw
      simp only [mkR] at x0 hw
      have hal : Below wr.heap.size wr (wr.alloc (.cells #[.int .i64 (N : Int), .slice B1 l1 c1] 56)) := (Below.refl _ _).alloc (Nat.le_refl _) _
      have E := Lib.hid (Box.new wr 56 #[.int .i64 (N : Int), .slice B1 l1 c1])
      have HKlt := Lib.hid (same_lt (take_lt' HL.out i) HSp.out)
      have hkl : K.length ≤ 66 := by have := rank_le HR.out HSp.out; rw [List.length_take] at this; omega
      have HLi := Lib.hid (HLt.out i)
      have HLeft := Lib.hid (left_any N hN K P HR.out HKlt.out (by omega) (Ms.getD i 0) HLi.out A' B1 c' l1 c1 0 _ (HK.out.below hal) hs (hw.below hal))
      have HB := Lib.hid (chain HB.out hal)
      have HK := Lib.hid (HK.out.below hal)
      have HZlt := Lib.hid (leftN_lt (P := P) (lt_all HKlt.out) _ HLi.out K.length)
      clear hal hw hs hw0
      obtain ⟨e0, e1, -, -⟩ := E.out.two
      go_wp2_with fail
      refine HLeft.out.mono ?_
      rintro e y1 ⟨A3, l3, c3, rfl, hs3, hw3, hb⟩
      have hal : Below y1.heap.size y1 (y1.alloc (.cells #[.int .i64 (N : Int), .slice A3 l3 c3] 56)) := (Below.refl _ _).alloc (Nat.le_refl _) _
      have E3 := Lib.hid (Box.new y1 56 #[.int .i64 (N : Int), .slice A3 l3 c3])
      have HW3 := Lib.hid (hw3.below hal)
      have HS3 := Lib.hid hs3
      have HB := Lib.hid (chain (chain HB.out hb) hal)
      have HK := Lib.hid ((HK.out.below hb).below hal)
      clear hal hb hw3 hs3 e0 e1 E HLeft
      obtain ⟨e0, e1, -, -⟩ := E3.out.two
      by_cases hz : leftN K P (Ms.getD i 0) K.length = 0
      · have HStep := Lib.hid (span_step hlt HSp.out (left_same HR.out _ hz))
        rw [hz] at HW3
        clear hz
        go_wp2_with fail
        refine (first_zero N hN A3 l3 c3 _ HW3.out).mono ?_
        rintro e y2 ⟨rfl, hb⟩
        have HB := Lib.hid (chain HB.out hb)
        have HK := Lib.hid (HK.out.below hb)
        clear hb e0 e1
        go_wp2_with fail
        go_roundw
        case rel => exact ⟨i + 1, K, P, A', c', rfl, by omega, by go_num, HR, HStep, HK, HB⟩
        case measure => simp [intOf] <;> omega
      · obtain ⟨a, ha⟩ := low_exists hz
        obtain ⟨m, p1, p2, p3, p4, p5⟩ := put_more HR.out _ a ha
        have HA := Lib.hid ha
        have HStep := Lib.hid (span_step hlt HSp.out p5)
        have HRef := Lib.hid p4
        have hge : (0 : Int) ≤ (a : Int) := by omega
        have HWith := Lib.hid (fun w' (h1 : MatAt w' 0 A' K.length (mkM N K)) (h2 : Words w' A3 l3 (rowOf N (leftN K P (Ms.getD i 0) K.length))) => with_any N hN K P HR.out HKlt.out (by omega) _ a m HZlt.out ha p1 p2 p3 A' A3 c' l3 c3 0 w' h1 HS3.out h2)
        clear hz ha p1 p2 p3 p4 p5
        generalize putW K (leftN K P (Ms.getD i 0) K.length) a m = K2 at *
        generalize putP P a m = P2 at *
        go_wp2_with fail
        refine (first_low N _ a hN HZlt.out HA.out A3 l3 c3 _ HW3.out).mono ?_
        rintro e y2 ⟨rfl, hb⟩
        have E3 := Lib.hid (E3.out.keep hb)
        have HB := Lib.hid (chain HB.out hb)
        have HK := Lib.hid (HK.out.below hb)
        have HW3 := Lib.hid (HW3.out.below hb)
        clear hb e0 e1
        obtain ⟨e0, e1, -, -⟩ := E3.out.two
        go_wp2_with fail
        refine (HWith.out _ HK.out HW3.out).mono ?_
        rintro e y3 ⟨A5, c5, rfl, hm5, hb⟩
        have HB := Lib.hid (chain HB.out hb)
        have HK5 := Lib.hid hm5
        clear hb hm5 e0 e1
        go_wp2_with fail
        go_roundw
        case rel => exact ⟨i + 1, K2, P2, A5, c5, rfl, by omega, by go_num, HRef, HStep, HK5, HB⟩
        case measure => simp [intOf] <;> omega
    · obtain rfl : i = Ms.length := by omega
      have hlt' : ¬ (Ms.length : Int) < (Ms.length : Int) := by omega
      have hsp := HSp.out
      rw [List.take_length] at hsp
      go_wp2_with fail
      go_ret
      exact ⟨K, P, A', c', rfl, HR.out, hsp, HK.out, HB.out⟩
end
section
/- The lowest bit of a word: how a word is cut at it. No program. -/
set_option linter.unusedVariables false
set_option linter.unusedSimpArgs false
theorem odd_form (x : Nat) (h : 0 < x) : ∃ i m, x = 2 ^ i * (2 * m + 1) := by
  induction x using Nat.strongRecOn with
  | ind x ih =>
    by_cases hp : x % 2 = 1
    · exact ⟨0, x / 2, by simp; omega⟩
    · obtain ⟨i, m, e⟩ := ih (x / 2) (by omega) (by omega)
      refine ⟨i + 1, m, ?_⟩
      have h2 : x = 2 * (x / 2) := by omega
      rw [h2, e, Nat.pow_succ, Nat.mul_comm (2 ^ i) 2, Nat.mul_assoc]
theorem odd_bit (i m j : Nat) : (2 ^ i * (2 * m + 1)).testBit j = if j < i then false else if j = i then true else m.testBit (j - i - 1) := by
  rw [Nat.testBit_two_pow_mul]
  by_cases h : j < i
  · simp [h, Nat.not_le.2 h]
  · by_cases e : j = i
    · subst e; simp
    · obtain ⟨d, rfl⟩ : ∃ d, j = i + (d + 1) := ⟨j - i - 1, by omega⟩
      have h1 : i + (d + 1) - i = d + 1 := by omega
      have h2 : d + 1 - 1 = d := by omega
      rw [h1, h2]
      simp [Nat.testBit_succ, show (2 * m + 1) / 2 = m by omega]
theorem odd_bit1 (i m j : Nat) : (2 ^ i * (2 * m + 1) - 1).testBit j = if j < i then true else if j = i then false else m.testBit (j - i - 1) := by
  have hp : 0 < 2 ^ i := Nat.two_pow_pos i
  have e : 2 ^ i * (2 * m + 1) - 1 = 2 ^ i * (2 * m) + (2 ^ i - 1) := by
    rw [Nat.mul_add, Nat.mul_one]; omega
  rw [e, Nat.testBit_two_pow_mul_add _ (by omega)]
  by_cases h : j < i
  · simp [h, Nat.testBit_two_pow_sub_one]
  · by_cases e : j = i
    · subst e; simp [Nat.testBit_zero]
    · obtain ⟨d, rfl⟩ : ∃ d, j = i + (d + 1) := ⟨j - i - 1, by omega⟩
      have h1 : i + (d + 1) - i = d + 1 := by omega
      have h2 : d + 1 - 1 = d := by omega
      rw [h1, h2]
      simp [Nat.testBit_succ, show 2 * m / 2 = m by omega]
/-- The lowest bit struck off. -/
theorem strike_low (i m : Nat) : (2 ^ i * (2 * m + 1)) &&& (2 ^ i * (2 * m + 1) - 1) = 2 ^ i * (2 * m) := by
  apply Nat.eq_of_testBit_eq
  intro j
  rw [Nat.testBit_and, odd_bit, odd_bit1, Nat.testBit_two_pow_mul]
  by_cases h : j < i
  · simp [h, Nat.not_le.2 h]
  · by_cases e : j = i
    · subst e; simp [Nat.testBit_zero]
    · obtain ⟨d, rfl⟩ : ∃ d, j = i + (d + 1) := ⟨j - i - 1, by omega⟩
      have h1 : i + (d + 1) - i = d + 1 := by omega
      have h2 : d + 1 - 1 = d := by omega
      rw [h1, h2]
      have h3 : ¬ i + (d + 1) < i := h
      simp only [h3, Bool.true_and, if_false, Bool.and_self, Nat.testBit_succ, e, show 2 * m / 2 = m by omega, show i + (d + 1) ≥ i by omega, decide_true]
/-- The lowest bit alone. -/
theorem only_low (i m : Nat) (hx : 2 ^ i * (2 * m + 1) < 18446744073709551616) : (2 ^ i * (2 * m + 1)) &&& (18446744073709551616 - 2 ^ i * (2 * m + 1)) = 2 ^ i := by
  have hp : 0 < 2 ^ i * (2 * m + 1) := Nat.mul_pos (Nat.two_pow_pos i) (by omega)
  have hi : i < 64 := by
    refine Nat.lt_of_not_le fun h => ?_
    have h1 : 2 ^ 64 ≤ 2 ^ i := Nat.pow_le_pow_right (by omega) h
    have h2 : 2 ^ i * 1 ≤ 2 ^ i * (2 * m + 1) := Nat.mul_le_mul_left _ (by omega)
    omega
  apply Nat.eq_of_testBit_eq
  intro j
  have e : 18446744073709551616 - 2 ^ i * (2 * m + 1) = 2 ^ 64 - (2 ^ i * (2 * m + 1) - 1 + 1) := by
    rw [show 2 ^ i * (2 * m + 1) - 1 + 1 = 2 ^ i * (2 * m + 1) by omega]
  rw [e, Nat.testBit_and, Nat.testBit_two_pow_sub_succ (by omega), odd_bit, odd_bit1, Nat.testBit_two_pow]
  by_cases h : j < i
  · simp [h]; omega
  · by_cases e : j = i
    · subst e; simp [hi]
    · have : ¬ i = j := fun h => e h.symm
      simp [h, e, this]
      intro h1 _
      exact h1
/-- The table of places by a de Bruijn word, as the library has it. -/
def dbTab : List Nat := [0, 1, 56, 2, 57, 49, 28, 3, 61, 58, 42, 50, 38, 29, 17, 4, 62, 47, 59, 36, 45, 43, 51, 22, 53, 39, 33, 30, 24, 18, 12, 5, 63, 55, 48, 27, 60, 41, 37, 16, 46, 35, 44, 21, 52, 32, 23, 11, 54, 26, 40, 15, 34, 20, 31, 10, 25, 14, 19, 9, 13, 8, 7, 6]
theorem db_at : ∀ i : Fin 64, dbTab.getD (2 ^ i.val * 285870213051353865 % 18446744073709551616 / 288230376151711744) 99 = i.val := by decide
end
section
/- The places of the bits 1 of words, and how they are found word by word, lowest bit first. No program. -/
set_option linter.unusedVariables false
set_option linter.unusedSimpArgs false
/-- Where bits are 1, of the first m. -/
def plcN (us : List Nat) (m : Nat) : List Nat := (List.range m).filter fun p => bitAt us p == 1
theorem plcN_succ (us : List Nat) (m : Nat) : plcN us (m + 1) = plcN us m ++ if bitAt us m = 1 then [m] else [] := by
  unfold plcN
  rw [List.range_succ, List.filter_append]
  by_cases h : bitAt us m = 1 <;> simp [h]
/-- A word without its low bits. -/
def hiW (x t : Nat) : Nat := 2 ^ t * (x / 2 ^ t)
theorem hiW_bit (x t j : Nat) : (hiW x t).testBit j = (decide (t ≤ j) && x.testBit j) := by
  unfold hiW
  rw [Nat.testBit_two_pow_mul, Nat.testBit_div_two_pow]
  by_cases h : t ≤ j
  · simp [h, Nat.sub_add_cancel h]
  · simp [h]
theorem bitAt_bit (us : List Nat) (i j : Nat) (h : j < 64) : (bitAt us (64 * i + j) = 1) = ((us.getD i 0).testBit j = true) := by
  unfold bitAt
  rw [show (64 * i + j) / 64 = i by omega, show (64 * i + j) % 64 = j by omega, Nat.testBit_eq_decide_div_mod_eq]
  simp
theorem plcN_skip (us : List Nat) (i t s : Nat) (hs : t + s ≤ 64) (h : ∀ j, t ≤ j → j < t + s → (us.getD i 0).testBit j = false) : plcN us (64 * i + (t + s)) = plcN us (64 * i + t) := by
  induction s with
  | zero => rfl
  | succ s ih =>
    rw [show 64 * i + (t + (s + 1)) = (64 * i + (t + s)) + 1 by omega, plcN_succ, ih (by omega) (fun j h1 h2 => h j h1 (by omega))]
    have : ¬ bitAt us (64 * i + (t + s)) = 1 := by
      rw [bitAt_bit us i (t + s) (by omega), h (t + s) (by omega) (by omega)]; simp
    rw [if_neg this, List.append_nil]
theorem hi_done (us : List Nat) (i t : Nat) (ht : t ≤ 64) (h : hiW (us.getD i 0) t = 0) : plcN us (64 * i + t) = plcN us (64 * (i + 1)) := by
  have := plcN_skip us i t (64 - t) (by omega) (fun j h1 h2 => by
    have := hiW_bit (us.getD i 0) t j
    rw [h] at this
    simpa [h1] using this.symm)
  rw [show t + (64 - t) = 64 by omega] at this
  rw [← this, show 64 * (i + 1) = 64 * i + 64 by omega]
theorem hi_step (us : List Nat) (i t : Nat) (hx : us.getD i 0 < 18446744073709551616) (h : hiW (us.getD i 0) t ≠ 0) :
    ∃ s m, t ≤ s ∧ s < 64 ∧ hiW (us.getD i 0) t = 2 ^ s * (2 * m + 1) ∧ hiW (us.getD i 0) (s + 1) = 2 ^ s * (2 * m) ∧ plcN us (64 * i + (s + 1)) = plcN us (64 * i + t) ++ [64 * i + s] := by
  obtain ⟨s, m, e⟩ := odd_form (hiW (us.getD i 0) t) (by omega)
  have hb : ∀ j, (decide (t ≤ j) && (us.getD i 0).testBit j) = if j < s then false else if j = s then true else m.testBit (j - s - 1) := fun j => by
    rw [← hiW_bit, e, odd_bit]
  have h0 := hb s
  simp only [Nat.lt_irrefl, if_false, if_true, Bool.and_eq_true, decide_eq_true_eq] at h0
  have hs : s < 64 := by
    refine Nat.lt_of_not_le fun h6 => ?_
    have := Nat.testBit_lt_two_pow (i := s) (Nat.lt_of_lt_of_le hx (show 2 ^ 64 ≤ 2 ^ s from Nat.pow_le_pow_right (by omega) h6))
    rw [this] at h0; exact absurd h0.2 (by decide)
  refine ⟨s, m, h0.1, hs, e, ?_, ?_⟩
  · apply Nat.eq_of_testBit_eq
    intro j
    rw [hiW_bit, Nat.testBit_two_pow_mul]
    have := hb j
    by_cases h1 : s + 1 ≤ j
    · have h2 : t ≤ j := by omega
      have h3 : ¬ j < s := by omega
      have h4 : ¬ j = s := by omega
      simp only [h2, h3, h4, decide_true, Bool.true_and, if_false] at this
      have h5 : s ≤ j := by omega
      obtain ⟨d, rfl⟩ : ∃ d, j = s + (d + 1) := ⟨j - s - 1, by omega⟩
      simp only [h1, h5, decide_true, Bool.true_and, this]
      rw [show s + (d + 1) - s = d + 1 by omega, show d + 1 - 1 = d by omega, Nat.testBit_succ, show 2 * m / 2 = m by omega]
    · have h6 : (decide (s + 1 ≤ j)) = false := by simpa using h1
      rw [h6, Bool.false_and]
      by_cases h7 : s ≤ j
      · obtain rfl : j = s := by omega
        simp [Nat.testBit_zero]
      · simp [h7]
  · rw [show 64 * i + (s + 1) = (64 * i + s) + 1 by omega, plcN_succ]
    have e1 : plcN us (64 * i + s) = plcN us (64 * i + t) := by
      have := plcN_skip us i t (s - t) (by omega) (fun j h1 h2 => by
        have := hb j
        have h3 : j < s := by omega
        simpa [h1, h3] using this)
      rwa [show t + (s - t) = s by omega] at this
    have e2 : bitAt us (64 * i + s) = 1 := by rw [bitAt_bit us i s hs]; exact h0.2
    rw [e1, if_pos e2]
theorem hiW_zero (x : Nat) : hiW x 0 = x := by simp [hiW]
theorem hiW_lt (x t : Nat) (hx : x < 18446744073709551616) : hiW x t < 18446744073709551616 := Nat.lt_of_le_of_lt (Nat.mul_div_le x (2 ^ t)) hx
end
section
/- math/bits.TrailingZeros64, where its table lies as the library has it. -/
set_option linter.unusedVariables false
set_option linter.unusedSimpArgs false
open Go.RowKit
/-- The library's table lies in block 0. -/
def TabAt (w : World) (g : Nat) : Prop := g < w.heap.size ∧ ∀ i, i < 64 → w.cell? ⟨g, i, none⟩ = some (.int .u8 (dbTab.getD i 99 : Nat))
theorem TabAt.below {w w' : World} {g : Nat} (h : TabAt w g) (hb : Below w.heap.size w w') : TabAt w' g := ⟨Nat.lt_of_lt_of_le h.1 hb.size, fun i hi => (hb.cell (p := ⟨g, i, none⟩) h.1).trans (h.2 i hi)⟩
theorem TabAt.same {w w' : World} {g : Nat} (h : TabAt w g) (hb : w'.heap[g]? = w.heap[g]?) : TabAt w' g := by
  refine ⟨?_, fun i hi => (World.cell?_of_block (a := ⟨g, i, none⟩) hb).trans (h.2 i hi)⟩
  rcases Nat.lt_or_ge g w'.heap.size with hl | hg
  · exact hl
  · have h1 := h.1
    rw [Array.getElem?_eq_none hg, Array.getElem?_eq_getElem h1] at hb; cases hb
theorem neg_in (x : Nat) (h1 : 0 < x) (hx : x < 18446744073709551616) : IntKind.u64.wrap (-(x : Int)) = ((18446744073709551616 - x : Nat) : Int) := by rw [IntKind.wrap_u64]; omega
theorem prod_in (y : Nat) : IntKind.u64.wrap ((y : Int) * 285870213051353865) / 288230376151711744 = ((y * 285870213051353865 % 18446744073709551616 / 288230376151711744 : Nat) : Int) := by rw [IntKind.wrap_u64]; omega
theorem quo_lt (y : Nat) : y * 285870213051353865 % 18446744073709551616 / 288230376151711744 < 64 := by omega
theorem exp_lt (s m : Nat) (hx : 2 ^ s * (2 * m + 1) < 18446744073709551616) : s < 64 := by
  refine Nat.lt_of_not_le fun h => ?_
  have h1 : 2 ^ 64 ≤ 2 ^ s := Nat.pow_le_pow_right (by omega) h
  have h2 : 2 ^ s * 1 ≤ 2 ^ s * (2 * m + 1) := Nat.mul_le_mul_left _ (by omega)
  omega
theorem tz_val (x s m : Nat) (hx : x < 18446744073709551616) (e : x = 2 ^ s * (2 * m + 1)) :
    ∃ q : Nat, q < 64 ∧ IntKind.u64.wrap (bits BinOp.and IntKind.u64 (x : Int) (IntKind.u64.wrap (-(x : Int))) * 285870213051353865) / 288230376151711744 = (q : Int) ∧ dbTab.getD q 99 = s := by
  have hp : 0 < x := by rw [e]; exact Nat.mul_pos (Nat.two_pow_pos s) (by omega)
  have hl := only_low s m (by rw [← e]; exact hx)
  rw [← e] at hl
  refine ⟨2 ^ s * 285870213051353865 % 18446744073709551616 / 288230376151711744, quo_lt _, ?_, db_at ⟨s, exp_lt s m (by rw [← e]; exact hx)⟩⟩
  rw [neg_in x hp hx, u64_and_nat x (18446744073709551616 - x) hx (by omega), hl, prod_in]
end
section
/- The iterator bitrow.ones: the places of the bits 1, rising. -/
set_option linter.unusedVariables false
set_option linter.unusedSimpArgs false
open Go.RowKit Go.Shelf
attribute [local go_sem] Oper.semAt_some
/-- What the iterator asks of a round: some blocks stay. -/
def KpS (S : Nat → Prop) (W W' : World) : Prop := ∀ b, S b → W'.heap[b]? = W.heap[b]?
theorem KpS.trans {S : Nat → Prop} {A B C : World} (h : KpS S A B) (k : KpS S B C) : KpS S A C := fun b hb => (k b hb).trans (h b hb)
theorem KpS.refl (S : Nat → Prop) (A : World) : KpS S A A := fun _ _ => rfl
/-- How a round of the iterator is left. -/
def RndS (S : Nat → Prop) (J Jx : List Nat → World → Prop) (ys : List Nat) (W : World) (b : Bool) (W' : World) : Prop := (b = true → J ys W' ∧ KpS S W W') ∧ (b = false → Jx ys W')
def RndSE (S : Nat → Prop) (J Jx : List Nat → World → Prop) (ys : List Nat) (W : World) (e : Ending) (W' : World) : Prop := ∃ b : Bool, e = .returned (.bool b) ∧ RndS S J Jx ys W b W'
theorem rndS_of {S : Nat → Prop} {J Jx : List Nat → World → Prop} {ys : List Nat} {W : World} (e : Ending) (W' : World) (h : (e = .returned (.bool true) ∧ J ys W' ∧ KpS S W W') ∨ (e = .returned (.bool false) ∧ Jx ys W')) : RndSE S J Jx ys W e W' := by
  rcases h with ⟨rfl, h1, h2⟩ | ⟨rfl, h1⟩
  · exact ⟨true, rfl, fun _ => ⟨h1, h2⟩, (fun h => by cases h)⟩
  · exact ⟨false, rfl, (fun h => by cases h), fun _ => h1⟩
theorem plcN_prefix (us : List Nat) (a b : Nat) (h : a ≤ b) : plcN us a <+: plcN us b := by
  obtain ⟨d, rfl⟩ := Nat.le.dest h
  unfold plcN
  rw [List.range_add, List.filter_append]
  exact List.prefix_append _ _
theorem plcN_len (us : List Nat) (m : Nat) : (plcN us m).length ≤ m := by
  have := List.length_filter_le (fun p => bitAt us p == 1) (List.range m)
  simpa [plcN] using this
theorem plcN_lt (us : List Nat) (m : Nat) {p : Nat} (h : p ∈ plcN us m) : p < m := by
  have := (List.mem_filter.1 h).1
  simpa using this
end
section
/- bitrow.ones, and bitrow.Places: the places of the bits 1. -/
set_option linter.unusedVariables false
set_option linter.unusedSimpArgs false
open Go.RowKit Go.Shelf
attribute [local go_sem] Oper.semAt_some
theorem ownP_low {w : World} {base base' e size n : Nat} {v : Value} {xs : List Value} (h : w.ownsRow base e size v n xs) (hb : base' ≤ base) : w.ownsRow base' e size v n xs := by
  refine ⟨h.1, ?_⟩
  rcases h.2 with h0 | ⟨g, cap, cur, rfl, h1, h2⟩
  · exact .inl h0
  · exact .inr ⟨g, cap, cur, rfl, Nat.le_trans hb h1, h2⟩
def plcV (x : Nat) : Value := .int .i64 (x : Int)
theorem int_infoP : (Tryz.prog.info? 3).map (fun i => (i.zero, i.size, i.bytes)) = some (some (.int .i64 0), 1, 8) := by kernel_rfl
theorem keepS {W w1 : World} {B n1 : Nat} {S : Nat → Prop} {v v' : Value} {e k : Nat} {xs : List Value} {tmp : Obj} (hrow : W.ownsRow n1 e 1 v k xs) (hgrow : (W.alloc tmp).grownBy w1 v.ownBlock) (hs : n1 ≤ W.heap.size)
    (hS : ∀ b, S b → b < n1 ∧ b ≠ B) : KpS S W (w1.setCell ⟨B, 0, none⟩ v') := by
  intro b hb
  have hbn := hS b hb
  have hne : some b ≠ v.ownBlock := fun e => by have := (hrow.lt b e.symm).1; omega
  rw [heap_setCell_other w1 ⟨B, 0, none⟩ b v' hbn.2, hgrow.block b (by simp; omega) hne, Below.heap_alloc W tmp b (by omega)]
theorem kpS_put {S : Nat → Prop} {w : World} (hS : ∀ b, S b → b < w.heap.size) (W : World) (l : Nat) (o o' : Obj) (hl : w.heap.size ≤ l) (_ : W.heap[l]? = some o) (_ : o.isCells = false) (_ : o.isWalk = false) : KpS S W (W.putObj l o') := by
  intro b hb
  exact World.putObj_heap_other (by have := hS b hb; omega)
theorem TabAt.put2 {w : World} {g : Nat} {t : TypeId} {a b : Value} (h : TabAt w 0) (hb : Box w g t #[a, b]) (hg : g ≠ 0) (u v : Value) : TabAt ((w.setCell ⟨g, 0, none⟩ u).setCell ⟨g, 1, none⟩ v) 0 := by
  refine h.same ?_
  rw [heap_setCell_other _ ⟨g, 1, none⟩ _ v (Ne.symm hg), heap_setCell_other _ ⟨g, 0, none⟩ _ u (Ne.symm hg)]
def plcZ (ys : List Nat) : List Int := ys.map fun x : Nat => (x : Int)
theorem plcZ_getD (ys : List Nat) (j : Nat) : (plcZ ys).getD j 0 = (ys.getD j 0 : Nat) := by
  simp only [plcZ, List.getD, List.getElem?_map]
  cases ys[j]? <;> simp
theorem own_plcInts {w : World} {base n : Nat} {A : Option Addr} {c : Nat} {ys : List Nat} (h : w.ownsRow base 3 1 (.slice A n c) n (ys.map plcV)) (hb : ∀ x ∈ ys, x ≤ 1000000) : Ints w A n (plcZ ys) := by
  have e : (plcZ ys).map (Value.int .i64) = ys.map plcV := by simp [plcZ, plcV, Function.comp_def]
  rw [← e] at h
  refine own_ints h fun j => ?_
  rw [plcZ_getD]
  have : ys.getD j 0 ≤ 1000000 := by
    simp only [List.getD]
    cases hx : ys[j]? with
    | none => simp
    | some y => simpa using hb y (List.mem_of_getElem? hx)
  omega
/-- A slice of numbers of its own, and no error, is returned. -/
def PlcOut (ys : List Nat) (w : World) (e : Ending) (w' : World) : Prop := ∃ v, e = .returned (.tuple #[v, .int .i64 0]) ∧ w'.ownsRow w.heap.size 3 1 v ys.length (ys.map plcV) ∧ Below w.heap.size w w'
end
section
/- Rows and their places: a row is that of its places; counts. No program. -/
set_option linter.unusedVariables false
set_option linter.unusedSimpArgs false
theorem plcZ_mem (us : List Nat) (m : Nat) (z : Int) (h : z ∈ plcZ (plcN us m)) : ∃ p : Nat, z = p ∧ p < m ∧ bitAt us p = 1 := by
  obtain ⟨p, hp, rfl⟩ := List.mem_map.1 h
  have := List.mem_filter.1 hp
  exact ⟨p, rfl, by simpa using this.1, by simpa using this.2⟩
theorem there_plc (us : List Nat) (N : Nat) : there (N : Int) (plcZ (plcN us N)) = true := by
  simp only [there, List.all_eq_true]
  intro z hz
  obtain ⟨p, rfl, h1, -⟩ := plcZ_mem us N z hz
  simp; omega
theorem ofBits_plc (us : List Nat) (N : Nat) (hr : rightB (N : Int) us = true) (hlt : ∀ j, us.getD j 0 < 18446744073709551616) : ofBits N (plcZ (plcN us N)) = us := by
  have hlen := right_len_eq hr
  rw [Int.toNat_natCast] at hlen
  apply List.ext_getElem (by rw [ofBits_len, hlen])
  intro i h1 h2
  have g1 : (ofBits N (plcZ (plcN us N)))[i] = (ofBits N (plcZ (plcN us N))).getD i 0 := by simp [List.getD, h1]
  have g2 : us[i] = us.getD i 0 := by simp [List.getD, h2]
  rw [g1, g2]
  rw [ofBits_len] at h1
  apply Nat.eq_of_testBit_eq
  intro j
  rw [ofBits_test N _ i j h1]
  by_cases hj : j < 64
  · rw [Bool.eq_iff_iff, ← bitAt_bit us i j hj]
    simp only [List.any_eq_true, Bool.and_eq_true, beq_iff_eq]
    constructor
    · rintro ⟨z, hz, e1, e2⟩
      obtain ⟨p, rfl, -, h4⟩ := plcZ_mem us N z hz
      rw [Int.toNat_natCast] at e1 e2
      rw [← h4]; congr 1; omega
    · intro h
      have hN : 64 * i + j < N := by
        refine Nat.lt_of_not_le fun hle => ?_
        have := right_bits hr (64 * i + j) hle (by omega)
        omega
      refine ⟨((64 * i + j : Nat) : Int), List.mem_map.2 ⟨64 * i + j, List.mem_filter.2 ⟨by simpa using hN, by simpa using h⟩, rfl⟩, ?_, ?_⟩
      · rw [Int.toNat_natCast]; omega
      · rw [Int.toNat_natCast]; omega
  · have : (us.getD i 0).testBit j = false := Nat.testBit_lt_two_pow (Nat.lt_of_lt_of_le (hlt i) (show 2 ^ 64 ≤ 2 ^ j from Nat.pow_le_pow_right (by omega) (by omega)))
    rw [this, List.any_eq_false]
    intro z _
    simp; omega
theorem zip_bit (f : Nat → Nat → Nat) (us vs : List Nat) (p : Nat) (hu : p / 64 < us.length) (hv : p / 64 < vs.length) : (bitAt (List.zipWith f us vs) p == 1) = (f (us.getD (p / 64) 0) (vs.getD (p / 64) 0)).testBit (p % 64) := by
  rw [bitAt_test, zip_last f us vs _ hu hv]
theorem count_join (us vs : List Nat) (hl : us.length = vs.length) (m : Nat) (hm : m ≤ 64 * us.length) :
    (plcN us m).length + (plcN vs m).length = (plcN (xorL us vs) m).length + 2 * (plcN (andL us vs) m).length := by
  induction m with
  | zero => simp [plcN]
  | succ m ih =>
    have ih := ih (by omega)
    have hx : (bitAt (xorL us vs) m == 1) = _ := zip_bit (· ^^^ ·) us vs m (by omega) (by omega)
    have ha : (bitAt (andL us vs) m == 1) = _ := zip_bit (· &&& ·) us vs m (by omega) (by omega)
    rw [Nat.testBit_xor, ← bitAt_test, ← bitAt_test] at hx
    rw [Nat.testBit_and, ← bitAt_test, ← bitAt_test] at ha
    rw [plcN_succ, plcN_succ, plcN_succ, plcN_succ]
    simp only [List.length_append]
    have b1 := bitAt_le us m
    have b2 := bitAt_le vs m
    have b3 := bitAt_le (xorL us vs) m
    have b4 := bitAt_le (andL us vs) m
    rcases b1 with b1 | b1 <;> rcases b2 with b2 | b2 <;> rcases b3 with b3 | b3 <;> rcases b4 with b4 | b4 <;> simp [b1, b2, b3, b4] at hx ha ⊢ <;> omega
theorem xor_backL (us vs : List Nat) (hl : us.length = vs.length) : xorL (xorL us vs) vs = us := by
  apply List.ext_getElem
  · simp [xorL, hl]
  · intro i h1 h2
    simp [xorL, Nat.xor_assoc]
end
end Go.Proofs.YtmfhimeffmpgaaaGreat
