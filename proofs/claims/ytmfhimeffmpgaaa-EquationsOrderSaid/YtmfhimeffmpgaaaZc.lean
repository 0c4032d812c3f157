/- Parts: Eq9, RndM, Rnd1, RngC, Rnd3, Rnd4, Rnd5, Rnd2, RndR1. -/
import Derived.Test.YtmfhimeffmpgaaaZb
import Derived.BigRegion
import Derived.Deep.DeepCutAuto
import Derived.Deep.LoopGhost
import Derived.Deep.RegionWith
import Derived.IntWalk
import Derived.Lib.Hide
import Derived.LoopIn
import Derived.LoopNIn
import Derived.Maps.AppendAt
import Derived.OwnWalkIn
import Derived.RangeFuncBound
import Derived.RangeFuncBox
import Derived.RangeFuncCalls
import Derived.RangeFuncLeaves
import Derived.RangeFuncNested
import Derived.RegionTactic
import Derived.Shelf.Abstract
import Derived.Shelf.RegionOpen
import Derived.Sort.LoopGhostIn
import Derived.TacticsInMore
import Derived.Test.YtmfhimeffmpgaaaChecked
import Derived.WalkKit
namespace Go.Proofs.Ytmfhimeffmpgaaa
section
/- Law 12: few, alive. -/
set_option linter.unusedVariables false
set_option linter.unusedSimpArgs false
open Go.RowKit
set_option maxRecDepth 100000
def cutX (s : ByteArray) : ByteArray := s.extract 0 (min s.size 66)
theorem cutX_size (s : ByteArray) : (cutX s).size ≤ 66 := by simp [cutX, ByteArray.size_extract]; omega
theorem cutX_min (s : ByteArray) (m : Nat) (hm : (m : Int) = min (s.size : Int) 66) : s.extract 0 m = cutX s := by
  unfold cutX
  congr 1
  omega
def cutP (x : SymR) : SymR := (x.1, cutX x.2)
def fewS (xs : List SymR) (k : Nat) : List SymR := (xs.take k).map cutP
theorem fewS_succ (xs : List SymR) (k : Nat) (h : k < xs.length) : fewS xs (k + 1) = fewS xs k ++ [((xs.getD k default).1, cutX (xs.getD k default).2)] := by
  unfold fewS
  rw [take_snocD xs k h, List.map_append]; rfl
theorem fewS_len (xs : List SymR) (k : Nat) : (fewS xs k).length = min k xs.length := by simp [fewS]
theorem fewS_all (xs : List SymR) (k : Nat) (h : xs.length = k) (h2 : k ≤ 66) : fewS xs k = fewS xs 66 := by
  unfold fewS
  rw [List.take_of_length_le (by omega), List.take_of_length_le (by omega)]
theorem fewS_id (xs : List SymR) (h : ∀ j, (xs.getD j default).1 < 18446744073709551616) (k : Nat) : ∀ j, ((fewS xs k).getD j default).1 < 18446744073709551616 := fun j => by
  unfold fewS
  by_cases hj : j < (xs.take k).length
  · have e : ((xs.take k).map cutP).getD j default = cutP ((xs.take k).getD j default) := by simp only [List.getD, List.getElem?_map, List.getElem?_eq_getElem hj]; rfl
    rw [e]
    have e2 : (xs.take k).getD j default = xs.getD j default := by
      rw [List.length_take] at hj
      simp only [List.getD, List.getElem?_take_of_lt (show j < k by omega)]
    rw [e2]; exact h j
  · have e : ((xs.take k).map cutP).getD j default = default := by
      simp only [List.getD]
      rw [List.getElem?_eq_none (by rw [List.length_map]; omega)]; rfl
    rw [e]; decide
abbrev fewW (k s c : Int) (A : Option Addr) (l d : Nat) (w : World) : World :=
  (w.alloc (.cells #[.int .i64 k, .int .i64 s, .int .i64 c, .slice A l d] 24)).alloc (.cells #[.int .i64 0, .int .i64 0, .int .i64 0, .slice none 0 0] 24)
theorem fewW_two (k s c : Int) (A : Option Addr) (l d : Nat) (w : World) :
    Box (fewW k s c A l d w) w.heap.size 24 #[.int .i64 k, .int .i64 s, .int .i64 c, .slice A l d] ∧ Box (fewW k s c A l d w) (w.heap.size + 1) 24 #[.int .i64 0, .int .i64 0, .int .i64 0, .slice none 0 0] ∧ Below w.heap.size w (fewW k s c A l d w) ∧ (fewW k s c A l d w).heap.size = w.heap.size + 2 := by
  refine ⟨(Box.new w _ _).alloc _, ?_, ((Below.refl _ _).alloc (Nat.le_refl _) _).alloc (by simp) _, by simp⟩
  have q := Box.new (w.alloc (.cells #[.int .i64 k, .int .i64 s, .int .i64 c, .slice A l d] 24)) 24 #[.int .i64 0, .int .i64 0, .int .i64 0, .slice none 0 0]
  simpa only [World.size_alloc] using q
theorem few_close {w wr : World} {k s c : Int} {zs : List SymR} {v : Value} {n : Nat} {A7 : Option Addr} {c7 : Nat} {e : TypeId} {u u0 u1 u2 u3 : Value} (hb : Below w.heap.size w wr) (hv : v = .slice A7 n c7) (ho : wr.ownsRow (w.heap.size + 2) e 2 v n (zs.flatMap encS)) (hl : zs.length = n) :
    StoreOne k s c zs w (.returned (.agg #[.int .i64 k, .int .i64 s, .int .i64 c, .slice A7 n c7])) (((((wr.setCell ⟨w.heap.size, 3, none⟩ u).setCell ⟨w.heap.size + 1, 0, none⟩ u0).setCell ⟨w.heap.size + 1, 1, none⟩ u1).setCell ⟨w.heap.size + 1, 2, none⟩ u2).setCell ⟨w.heap.size + 1, 3, none⟩ u3) := by
  subst hv
  subst hl
  obtain ⟨h1, h2, h3, h4⟩ := own_cap ho
  refine ⟨A7, c7, rfl, Recs.far4 (Recs.farB (own_recs encS_len ho (by omega)) (fun b off hb _ => ?_) _ _) (fun b off hb _ => ?_) _ _ _ _, h1, h2, h3, fun b off hb => ?_, below_set4 (hb.setCell (p := ⟨w.heap.size, 3, none⟩) (Nat.le_refl _) _) (by omega) _ _ _ _⟩
  · have h5 : w.heap.size + 2 ≤ b := h4 _ hb
    omega
  · have h5 : w.heap.size + 2 ≤ b := h4 _ hb
    omega
  · have h5 : w.heap.size + 2 ≤ b := h4 _ hb
    omega
theorem cutX_id (s : ByteArray) (h : s.size ≤ 66) : s = cutX s := by
  have := cutX_min s s.size (by omega)
  rw [← this, ByteArray.extract_zero_size]
theorem cut_world {wr W2 : World} {B : Nat} (hb : Below B W2 wr) (hB : B ≤ wr.heap.size) (a : Int) (t : ByteArray) :
    Below wr.heap.size wr ((wr.alloc (.cells #[.int .u64 a, .string t] 27)).alloc (.cells #[.int .u64 a, .string t] 27)) ∧
    (∀ j u, ([Value.int .u64 a, Value.string t])[j]? = some u → ((wr.alloc (.cells #[.int .u64 a, .string t] 27)).alloc (.cells #[.int .u64 a, .string t] 27)).cell? ((⟨wr.heap.size + 1, 0, none⟩ : Addr).add j) = some u) ∧
    B ≤ ((wr.alloc (.cells #[.int .u64 a, .string t] 27)).alloc (.cells #[.int .u64 a, .string t] 27)).heap.size := by
  have e1 : (wr.alloc (.cells #[.int .u64 a, .string t] 27)).heap.size = wr.heap.size + 1 := by simp
  refine ⟨((Below.refl _ _).alloc (Nat.le_refl _) _).alloc (by rw [e1]; omega) _, ?_, ?_⟩
  · have := World.news_of_block (Box.new (wr.alloc (.cells #[.int .u64 a, .string t] 27)) 27 #[.int .u64 a, .string t])
    rw [e1] at this
    exact this
  · rw [World.size_alloc, e1]; omega
set_option maxHeartbeats 4000000 in
theorem few12_short (k s c : Int) (ad : Addr) (l d : Nat) (xs : List SymR) (w : World) (hx : Syms w (some ad) l xs) (hk : l ≤ 66) (hl : l ≤ d) (hd : d ≤ maxLen) (hd0 : ¬ d = 0) :
    Calls Try.prog 6 #[.agg #[.int .i64 k, .int .i64 s, .int .i64 c, .slice (some ad) l d]] w (StoreOne k s c (fewS xs l) w) := by
  obtain ⟨i0, hi, hz0, hz1, hz2⟩ := info_parts sym12_info
  have HI := Lib.hid hi
  have HZ0 := Lib.hid hz0
  have HZ1 := Lib.hid hz1
  have HZ2 := Lib.hid hz2
  obtain ⟨Q0, Q1, b1, sz⟩ := fewW_two k s c (some ad) l d w
  have HQ0 := Lib.hid Q0
  have HQ1 := Lib.hid Q1
  have HX := Lib.hid (hx.below b1)
  have HXl := Lib.hid hx.1
  have HB0 := Lib.hid b1
  have SZ := Lib.hid sz
  have HOW := Lib.hid (World.ownsRow_nil (fewW k s c (some ad) l d w) (w.heap.size + 2) 27 2)
  unfold maxLen at hd
  have hkk1 : l ≤ l := by omega
  have hkk2 : l ≤ 66 := by omega
  have hkk3 : l ≤ d := by omega
  have mkk : (l : Int) ≤ 66 := by omega
  obtain ⟨r0, r1, r2, r3, -, -, -, -⟩ := Q0.four
  clear hi hz0 hz1 hz2 hx b1 sz Q0 Q1
  go_enter Try.func6, Try.ntmps6
  go_wp2_with fail
  clear r0 r1 r2 r3
  go_loopw [3, 14] (fun v t wr => ∃ i : Nat, i ≤ l ∧ t = .int .i64 i ∧ wr.ownsRow (w.heap.size + 2) 27 2 v i ((fewS xs i).flatMap encS) ∧ Below (w.heap.size + 2) (fewW k s c (some ad) l d w) wr) (fun _ t _ => l - (intOf t).toNat)
  case atStart => exact ⟨0, Nat.zero_le _, rfl, HOW.out, Below.refl _ _⟩
  case round =>
    obtain ⟨i, hi, rfl, hown, hbel⟩ := hrel
    have HO := Lib.hid hown
    have HB := Lib.hid hbel
    have SZr := Lib.hid (show w.heap.size + 2 ≤ wr.heap.size from by have := hbel.size; rw [SZ.out] at this; exact this)
    clear hown hbel HOW
    by_cases hlt : i < l
    · have hlt' : (i : Int) < (l : Int) := Int.ofNat_lt.2 hlt
      obtain ⟨b, off, hA, hb, x0, x1⟩ := Syms.two HX.out i (by omega)
      obtain rfl := Option.some.inj hA
      rw [SZ.out] at hb
      have x0 := (HB.out.cell (p := ⟨b, off + i * 2, none⟩) hb).trans x0
      have x1 := (HB.out.cell (p := ⟨b, off + i * 2 + 1, none⟩) hb).trans x1
      have HS := Lib.hid (fewS_succ xs i (by rw [HXl.out]; omega))
      generalize xs.getD i default = p at *
      obtain ⟨p0, p1⟩ := p
      dsimp only at x0 x1 HS
      by_cases hm : p1.size ≤ 66
      · have hm1 : (p1.size : Int) ≤ 66 := by omega
        have HE := Lib.hid (cutX_id p1 hm)
        have G := Lib.hid (Box.new wr 27 #[.int .u64 (p0 : Nat), .string p1])
        have HW := Lib.hid (cut_world HB.out SZr.out (p0 : Nat) p1)
        have XO := Lib.hid (own_keep HO.out HW.out.1)
        have XB := Lib.hid (HB.out.trans (HW.out.1.mono SZr.out))
        have N2 := Lib.hid (fun g hg => (HO.out.lt g hg).1)
        obtain ⟨g0, g1, f0, f1⟩ := G.out.two
        clear G
        go_wp2_with (at_builtin; refine wpList_append_own _ rfl _ _ 22 rfl (w.heap.size + 2) 27 i0 (.agg #[.int .u64 0, .string ⟨#[]⟩]) 2 24 Try.underlying22 HI.out HZ0.out HZ1.out HZ2.out rfl (by decide) _ _ _ rfl XO.out ⟨wr.heap.size + 1, 0, none⟩ 1 1 [.int .u64 (p0 : Nat), .string p1] rfl rfl HW.out.2.1 (by simp [Value.oneCell']) (by simp [maxLen]; omega) (by omega) HW.out.2.2 ?_; intro v' w1 hown' hgrow _; have HC := Lib.hid (XB.out.grown hgrow (Nat.le_trans SZr.out HW.out.1.size) N2.out); have HO2 := Lib.hid hown'; clear hown' hgrow)
        go_roundw
        case rel =>
          refine ⟨i + 1, hlt, by go_num, ?_, HC.out⟩
          rw [HS.out, flat_snoc, ← HE.out]
          exact HO2.out
        case measure => simp [intOf] <;> omega
      · have hm1 : (66 : Int) < p1.size := by omega
        have hm2 : 66 ≤ p1.size := by omega
        have HE := Lib.hid (cutX_min p1 66 (by omega))
        have G := Lib.hid (Box.new wr 27 #[.int .u64 (p0 : Nat), .string p1])
        have HW := Lib.hid (cut_world HB.out SZr.out (p0 : Nat) (p1.extract 0 66))
        have XO := Lib.hid (own_keep HO.out HW.out.1)
        have XB := Lib.hid (HB.out.trans (HW.out.1.mono SZr.out))
        have N2 := Lib.hid (fun g hg => (HO.out.lt g hg).1)
        obtain ⟨g0, g1, f0, f1⟩ := G.out.two
        clear G
        go_wp2_with (at_builtin; refine wpList_append_own _ rfl _ _ 22 rfl (w.heap.size + 2) 27 i0 (.agg #[.int .u64 0, .string ⟨#[]⟩]) 2 24 Try.underlying22 HI.out HZ0.out HZ1.out HZ2.out rfl (by decide) _ _ _ rfl XO.out ⟨wr.heap.size + 1, 0, none⟩ 1 1 [.int .u64 (p0 : Nat), .string (p1.extract 0 66)] rfl rfl HW.out.2.1 (by simp [Value.oneCell']) (by simp [maxLen]; omega) (by omega) HW.out.2.2 ?_; intro v' w1 hown' hgrow _; have HC := Lib.hid (XB.out.grown hgrow (Nat.le_trans SZr.out HW.out.1.size) N2.out); have HO2 := Lib.hid hown'; clear hown' hgrow)
        go_roundw
        case rel =>
          refine ⟨i + 1, hlt, by go_num, ?_, HC.out⟩
          rw [HS.out, flat_snoc, ← HE.out]
          exact HO2.out
        case measure => simp [intOf] <;> omega
    · obtain rfl : l = i := by omega
      have hlt' : ¬ (l : Int) < (l : Int) := Int.lt_irrefl _
      have HCL := Lib.hid (show (fewS xs l).length = l by rw [fewS_len, HXl.out]; omega)
      have BB := Lib.hid (HB0.out.trans (HB.out.mono (by omega)))
      have Q0 := Lib.hid (HQ0.out.below HB.out (by omega))
      have Q1 := Lib.hid (HQ1.out.below HB.out (by omega))
      obtain ⟨r0, r1, r2, r3, e0, e1, e2, e3⟩ := Q0.out.four
      obtain ⟨s0, s1, s2, s3, f0, f1, f2, f3⟩ := Q1.out.four
      obtain ⟨A7, c7, hv, -⟩ := own_form HO.out
      subst hv
      go_wp2_with fail
      refine close_one Try.results6 rfl rfl (Q1.out.far (p := ⟨w.heap.size, 3, none⟩) (by simp) (.slice A7 l c7)).put4 Try.underlying24 rfl (by kernel_rfl) ?_
      exact few_close BB.out rfl HO.out HCL.out
set_option maxHeartbeats 4000000 in
theorem few12_long (k s c : Int) (ad : Addr) (l d : Nat) (xs : List SymR) (w : World) (hx : Syms w (some ad) l xs) (hk : 66 < l) (hl : l ≤ d) (hd : d ≤ maxLen) (hd0 : ¬ d = 0) :
    Calls Try.prog 6 #[.agg #[.int .i64 k, .int .i64 s, .int .i64 c, .slice (some ad) l d]] w (StoreOne k s c (fewS xs 66) w) := by
  obtain ⟨i0, hi, hz0, hz1, hz2⟩ := info_parts sym12_info
  have HI := Lib.hid hi
  have HZ0 := Lib.hid hz0
  have HZ1 := Lib.hid hz1
  have HZ2 := Lib.hid hz2
  obtain ⟨Q0, Q1, b1, sz⟩ := fewW_two k s c (some ad) l d w
  have HQ0 := Lib.hid Q0
  have HQ1 := Lib.hid Q1
  have HX := Lib.hid (hx.below b1)
  have HXl := Lib.hid hx.1
  have HB0 := Lib.hid b1
  have SZ := Lib.hid sz
  have HOW := Lib.hid (World.ownsRow_nil (fewW k s c (some ad) l d w) (w.heap.size + 2) 27 2)
  unfold maxLen at hd
  have hkk1 : 66 ≤ l := by omega
  have hkk2 : 66 ≤ 66 := by omega
  have hkk3 : 66 ≤ d := by omega
  have mkk : (66 : Int) < (l : Int) := by omega
  obtain ⟨r0, r1, r2, r3, -, -, -, -⟩ := Q0.four
  clear hi hz0 hz1 hz2 hx b1 sz Q0 Q1
  go_enter Try.func6, Try.ntmps6
  go_wp2_with fail
  clear r0 r1 r2 r3
  go_loopw [3, 14] (fun v t wr => ∃ i : Nat, i ≤ 66 ∧ t = .int .i64 i ∧ wr.ownsRow (w.heap.size + 2) 27 2 v i ((fewS xs i).flatMap encS) ∧ Below (w.heap.size + 2) (fewW k s c (some ad) l d w) wr) (fun _ t _ => 66 - (intOf t).toNat)
  case atStart => exact ⟨0, Nat.zero_le _, rfl, HOW.out, Below.refl _ _⟩
  case round =>
    obtain ⟨i, hi, rfl, hown, hbel⟩ := hrel
    have HO := Lib.hid hown
    have HB := Lib.hid hbel
    have SZr := Lib.hid (show w.heap.size + 2 ≤ wr.heap.size from by have := hbel.size; rw [SZ.out] at this; exact this)
    clear hown hbel HOW
    by_cases hlt : i < 66
    · have hlt' : (i : Int) < ((66 : Nat) : Int) := Int.ofNat_lt.2 hlt
      obtain ⟨b, off, hA, hb, x0, x1⟩ := Syms.two HX.out i (by omega)
      obtain rfl := Option.some.inj hA
      rw [SZ.out] at hb
      have x0 := (HB.out.cell (p := ⟨b, off + i * 2, none⟩) hb).trans x0
      have x1 := (HB.out.cell (p := ⟨b, off + i * 2 + 1, none⟩) hb).trans x1
      have HS := Lib.hid (fewS_succ xs i (by rw [HXl.out]; omega))
      generalize xs.getD i default = p at *
      obtain ⟨p0, p1⟩ := p
      dsimp only at x0 x1 HS
      by_cases hm : p1.size ≤ 66
      · have hm1 : (p1.size : Int) ≤ 66 := by omega
        have HE := Lib.hid (cutX_id p1 hm)
        have G := Lib.hid (Box.new wr 27 #[.int .u64 (p0 : Nat), .string p1])
        have HW := Lib.hid (cut_world HB.out SZr.out (p0 : Nat) p1)
        have XO := Lib.hid (own_keep HO.out HW.out.1)
        have XB := Lib.hid (HB.out.trans (HW.out.1.mono SZr.out))
        have N2 := Lib.hid (fun g hg => (HO.out.lt g hg).1)
        obtain ⟨g0, g1, f0, f1⟩ := G.out.two
        clear G
        go_wp2_with (at_builtin; refine wpList_append_own _ rfl _ _ 22 rfl (w.heap.size + 2) 27 i0 (.agg #[.int .u64 0, .string ⟨#[]⟩]) 2 24 Try.underlying22 HI.out HZ0.out HZ1.out HZ2.out rfl (by decide) _ _ _ rfl XO.out ⟨wr.heap.size + 1, 0, none⟩ 1 1 [.int .u64 (p0 : Nat), .string p1] rfl rfl HW.out.2.1 (by simp [Value.oneCell']) (by simp [maxLen]; omega) (by omega) HW.out.2.2 ?_; intro v' w1 hown' hgrow _; have HC := Lib.hid (XB.out.grown hgrow (Nat.le_trans SZr.out HW.out.1.size) N2.out); have HO2 := Lib.hid hown'; clear hown' hgrow)
        go_roundw
        case rel =>
          refine ⟨i + 1, hlt, by go_num, ?_, HC.out⟩
          rw [HS.out, flat_snoc, ← HE.out]
          exact HO2.out
        case measure => simp [intOf] <;> omega
      · have hm1 : (66 : Int) < p1.size := by omega
        have hm2 : 66 ≤ p1.size := by omega
        have HE := Lib.hid (cutX_min p1 66 (by omega))
        have G := Lib.hid (Box.new wr 27 #[.int .u64 (p0 : Nat), .string p1])
        have HW := Lib.hid (cut_world HB.out SZr.out (p0 : Nat) (p1.extract 0 66))
        have XO := Lib.hid (own_keep HO.out HW.out.1)
        have XB := Lib.hid (HB.out.trans (HW.out.1.mono SZr.out))
        have N2 := Lib.hid (fun g hg => (HO.out.lt g hg).1)
        obtain ⟨g0, g1, f0, f1⟩ := G.out.two
        clear G
        go_wp2_with (at_builtin; refine wpList_append_own _ rfl _ _ 22 rfl (w.heap.size + 2) 27 i0 (.agg #[.int .u64 0, .string ⟨#[]⟩]) 2 24 Try.underlying22 HI.out HZ0.out HZ1.out HZ2.out rfl (by decide) _ _ _ rfl XO.out ⟨wr.heap.size + 1, 0, none⟩ 1 1 [.int .u64 (p0 : Nat), .string (p1.extract 0 66)] rfl rfl HW.out.2.1 (by simp [Value.oneCell']) (by simp [maxLen]; omega) (by omega) HW.out.2.2 ?_; intro v' w1 hown' hgrow _; have HC := Lib.hid (XB.out.grown hgrow (Nat.le_trans SZr.out HW.out.1.size) N2.out); have HO2 := Lib.hid hown'; clear hown' hgrow)
        go_roundw
        case rel =>
          refine ⟨i + 1, hlt, by go_num, ?_, HC.out⟩
          rw [HS.out, flat_snoc, ← HE.out]
          exact HO2.out
        case measure => simp [intOf] <;> omega
    · obtain rfl : i = 66 := by omega
      have hlt' : ¬ ((66 : Nat) : Int) < ((66 : Nat) : Int) := Int.lt_irrefl _
      have HCL := Lib.hid (show (fewS xs 66).length = 66 by rw [fewS_len, HXl.out]; omega)
      have BB := Lib.hid (HB0.out.trans (HB.out.mono (by omega)))
      have Q0 := Lib.hid (HQ0.out.below HB.out (by omega))
      have Q1 := Lib.hid (HQ1.out.below HB.out (by omega))
      obtain ⟨r0, r1, r2, r3, e0, e1, e2, e3⟩ := Q0.out.four
      obtain ⟨s0, s1, s2, s3, f0, f1, f2, f3⟩ := Q1.out.four
      obtain ⟨A7, c7, hv, -⟩ := own_form HO.out
      subst hv
      go_wp2_with fail
      refine close_one Try.results6 rfl rfl (Q1.out.far (p := ⟨w.heap.size, 3, none⟩) (by simp) (.slice A7 66 c7)).put4 Try.underlying24 rfl (by kernel_rfl) ?_
      exact few_close BB.out rfl HO.out HCL.out
set_option maxHeartbeats 1000000 in
theorem few12_zero (k s c : Int) (A : Option Addr) (w : World) :
    Calls Try.prog 6 #[.agg #[.int .i64 k, .int .i64 s, .int .i64 c, .slice A 0 0]] w (StoreOne k s c [] w) := by
  obtain ⟨Q0, Q1, b1, sz⟩ := fewW_two k s c A 0 0 w
  have HQ0 := Lib.hid Q0
  have HQ1 := Lib.hid Q1
  have HB0 := Lib.hid b1
  obtain ⟨r0, r1, r2, r3, -, -, -, -⟩ := Q0.four
  clear b1 sz Q0 Q1
  cases A with
  | none =>
    go_enter Try.func6, Try.ntmps6
    go_wp2_with fail
    clear r0 r1 r2 r3
    go_loopw [3, 14] (fun v t wr => v = .slice none 0 0 ∧ t = .int .i64 0 ∧ wr = fewW k s c (none) 0 0 w) (fun _ t _ => 0)
    case atStart => exact ⟨rfl, rfl, rfl⟩
    case round =>
      obtain ⟨rfl, rfl, hw⟩ := hrel
      rw [← hw] at HQ0 HQ1 HB0
      clear hw
      obtain ⟨r0, r1, r2, r3, e0, e1, e2, e3⟩ := HQ0.out.four
      obtain ⟨s0, s1, s2, s3, f0, f1, f2, f3⟩ := HQ1.out.four
      go_wp2_with fail
      refine close_one Try.results6 rfl rfl (HQ1.out.far (p := ⟨w.heap.size, 3, none⟩) (by simp) (.slice none 0 0)).put4 Try.underlying24 rfl (by kernel_rfl) ?_
      exact few_close (zs := []) (v := .slice none 0 0) (n := 0) (A7 := none) (c7 := 0) (e := 27) HB0.out rfl (World.ownsRow_nil _ _ _ _) rfl
  | some ad =>
    go_enter Try.func6, Try.ntmps6
    go_wp2_with fail
    clear r0 r1 r2 r3
    go_loopw [3, 14] (fun v t wr => v = .slice none 0 0 ∧ t = .int .i64 0 ∧ wr = fewW k s c (some ad) 0 0 w) (fun _ t _ => 0)
    case atStart => exact ⟨rfl, rfl, rfl⟩
    case round =>
      obtain ⟨rfl, rfl, hw⟩ := hrel
      rw [← hw] at HQ0 HQ1 HB0
      clear hw
      obtain ⟨r0, r1, r2, r3, e0, e1, e2, e3⟩ := HQ0.out.four
      obtain ⟨s0, s1, s2, s3, f0, f1, f2, f3⟩ := HQ1.out.four
      go_wp2_with fail
      refine close_one Try.results6 rfl rfl (HQ1.out.far (p := ⟨w.heap.size, 3, none⟩) (by simp) (.slice none 0 0)).put4 Try.underlying24 rfl (by kernel_rfl) ?_
      exact few_close (zs := []) (v := .slice none 0 0) (n := 0) (A7 := none) (c7 := 0) (e := 27) HB0.out rfl (World.ownsRow_nil _ _ _ _) rfl
theorem few12_any (k s c : Int) (A : Option Addr) (l d : Nat) (xs : List SymR) (w : World) (hx : Syms w A l xs) (hl : l ≤ d) (hd : d ≤ maxLen) (hn : A = none → d = 0) :
    Calls Try.prog 6 #[.agg #[.int .i64 k, .int .i64 s, .int .i64 c, .slice A l d]] w (StoreOne k s c (fewS xs 66) w) := by
  cases A with
  | none =>
    obtain rfl := hn rfl
    obtain ⟨rfl, rfl⟩ := Recs.none_ hx
    exact few12_zero k s c none w
  | some ad =>
    by_cases hd0 : d = 0
    · subst hd0
      obtain rfl : l = 0 := by omega
      obtain rfl : xs = [] := List.length_eq_zero_iff.1 hx.1
      exact few12_zero k s c (some ad) w
    by_cases h : l ≤ 66
    · rw [← fewS_all xs l hx.1 h]
      exact few12_short k s c ad l d xs w hx h hl hd hd0
    · exact few12_long k s c ad l d xs w hx (by omega) hl hd hd0
theorem alive12_any (w : World) : Calls Try.prog 13 #[] w fun e w' => e = .returned (.bool true) ∧ Below w.heap.size w w' := by
  have HA := Lib.hid (eadd_yes 2 1 3 none 0 0 [] (4, ⟨#[97]⟩) w (Recs.nil _ _) (Nat.le_refl _) (Nat.zero_le _) (fun _ => rfl) (by decide))
  go_enter Try.func13, Try.ntmps13
  go_wp2_with fail
  refine HA.out.mono ?_
  rintro e w1 ⟨A, d, rfl, -, -, -, -, hb⟩
  have Q := Lib.hid (Box.new w1 24 #[.int .i64 2, .int .i64 1, .int .i64 3, .slice A 1 d])
  have HB := Lib.hid (hb.alloc hb.size (.cells #[.int .i64 2, .int .i64 1, .int .i64 3, .slice A 1 d] 24))
  clear hb
  obtain ⟨r0, r1, r2, r3, -, -, -, -⟩ := Q.out.four
  go_wp2_with fail
  go_ret
  exact ⟨rfl, HB.out⟩
end
section
/- Layer 6, its arithmetic: mixed is one to one, so some number of a state is below whatever the bound leaves out. No program. -/
set_option linter.unusedVariables false
set_option linter.unusedSimpArgs false
def M64 : Nat := 18446744073709551616
def mixA (z : Nat) : Nat := ((z ^^^ z / 1073741824) * 13787848793156543929) % 18446744073709551616
def mixB (z : Nat) : Nat := ((z ^^^ z / 134217728) * 10723151780598845931) % 18446744073709551616
def mixN (z : Nat) : Nat := mixB (mixA z) ^^^ mixB (mixA z) / 2147483648
theorem shx_inj (k : Nat) (hk : 1 ≤ k) (x y : Nat) (h : x ^^^ x / 2 ^ k = y ^^^ y / 2 ^ k) : x = y := by
  have hd : (x ^^^ y) = (x ^^^ y) / 2 ^ k := by
    apply Nat.eq_of_testBit_eq
    intro i
    have h1 := congrArg (fun z => Nat.testBit z i) h
    simp only [Nat.testBit_xor, Nat.testBit_div_two_pow] at h1 ⊢
    revert h1
    cases x.testBit i <;> cases y.testBit i <;> cases x.testBit (i + k) <;> cases y.testBit (i + k) <;> decide
  have h0 : x ^^^ y = 0 := by
    rcases Nat.eq_zero_or_pos (x ^^^ y) with e | e
    · exact e
    · have : (x ^^^ y) / 2 ^ k < x ^^^ y := Nat.div_lt_self e (Nat.one_lt_two_pow (by omega))
      omega
  apply Nat.eq_of_testBit_eq
  intro i
  have h1 := congrArg (fun z => Nat.testBit z i) h0
  simp only [Nat.testBit_xor, Nat.zero_testBit] at h1
  revert h1
  cases x.testBit i <;> cases y.testBit i <;> decide
theorem mul_inj (c d q : Nat) (hcd : c * d = 1 + q * 18446744073709551616) (x y : Nat) (hx : x < 18446744073709551616) (hy : y < 18446744073709551616) (h : x * c % 18446744073709551616 = y * c % 18446744073709551616) : x = y := by
  have k : ∀ z, z < 18446744073709551616 → (z * c % 18446744073709551616) * d % 18446744073709551616 = z := fun z hz => by
    rw [Nat.mod_mul_mod, Nat.mul_assoc, hcd, Nat.mul_add, Nat.mul_one, ← Nat.mul_assoc, Nat.add_mul_mod_self_right, Nat.mod_eq_of_lt hz]
  rw [← k x hx, h, k y hy]
theorem xor_lt (x k : Nat) (hx : x < 18446744073709551616) : x ^^^ x / k < 18446744073709551616 :=
  Nat.xor_lt_two_pow (n := 64) hx (Nat.lt_of_le_of_lt (Nat.div_le_self _ _) hx)
theorem mixA_lt (z : Nat) : mixA z < 18446744073709551616 := Nat.mod_lt _ (by omega)
theorem mixB_lt (z : Nat) : mixB z < 18446744073709551616 := Nat.mod_lt _ (by omega)
theorem mixN_lt (z : Nat) : mixN z < 18446744073709551616 := xor_lt _ _ (mixB_lt _)
theorem mixA_inj (x y : Nat) (hx : x < 18446744073709551616) (hy : y < 18446744073709551616) (h : mixA x = mixA y) : x = y :=
  shx_inj 30 (by omega) x y (mul_inj 13787848793156543929 10871156337175269513 8125545580553827436 (by decide) _ _ (xor_lt x _ hx) (xor_lt y _ hy) h)
theorem mixB_inj (x y : Nat) (hx : x < 18446744073709551616) (hy : y < 18446744073709551616) (h : mixB x = mixB y) : x = y :=
  shx_inj 27 (by omega) x y (mul_inj 10723151780598845931 3573116690164977347 2077064247507883091 (by decide) _ _ (xor_lt x _ hx) (xor_lt y _ hy) h)
theorem mixN_inj (x y : Nat) (hx : x < 18446744073709551616) (hy : y < 18446744073709551616) (h : mixN x = mixN y) : x = y :=
  mixA_inj x y hx hy (mixB_inj _ _ (mixA_lt x) (mixA_lt y) (shx_inj 31 (by omega) _ _ h))
/-- The next state. -/
def nextS (s : Nat) : Nat := (s + 11400714819323198485) % 18446744073709551616
theorem nextS_lt (s : Nat) : nextS s < 18446744073709551616 := Nat.mod_lt _ (by omega)
/-- The state behind so many numbers. -/
def stN (s j : Nat) : Nat := (s + j * 11400714819323198485) % 18446744073709551616
theorem stN_succ (s j : Nat) : stN s (j + 1) = nextS (stN s j) := by
  unfold stN nextS
  rw [Nat.mod_add_mod, Nat.succ_mul, Nat.add_assoc]
theorem add_cancel (s a b : Nat) (h : (s + a) % 18446744073709551616 = (s + b) % 18446744073709551616) : a % 18446744073709551616 = b % 18446744073709551616 := by omega
theorem stN_next (s j : Nat) : stN (nextS s) j = stN s (j + 1) := by
  unfold stN nextS
  rw [Nat.mod_add_mod, Nat.succ_mul, Nat.add_assoc, Nat.add_comm 11400714819323198485]
theorem stN_lt (s j : Nat) : stN s j < 18446744073709551616 := Nat.mod_lt _ (by omega)
theorem stN_inj (s i j : Nat) (hi : i < 1000) (hj : j < 1000) (h : stN s i = stN s j) : i = j := by
  have h1 : i < 18446744073709551616 := by omega
  have h2 : j < 18446744073709551616 := by omega
  exact mul_inj 11400714819323198485 17428512612931826493 10771413168148108919 (by decide) i j h1 h2 (add_cancel _ _ _ h)
theorem pigeon : ∀ (n : Nat) (f : Nat → Nat), (∀ i, i ≤ n → f i < n) → ∃ i j, i < j ∧ j ≤ n ∧ f i = f j
  | 0, f, h => absurd (h 0 (Nat.le_refl _)) (Nat.not_lt_zero _)
  | n + 1, f, h => by
    by_cases hc : ∃ i, i ≤ n ∧ f i = f (n + 1)
    · obtain ⟨i, hi, e⟩ := hc
      exact ⟨i, n + 1, by omega, Nat.le_refl _, e⟩
    · have hne : ∀ i, i ≤ n → f i ≠ f (n + 1) := fun i hi e => hc ⟨i, hi, e⟩
      have hv := h (n + 1) (Nat.le_refl _)
      obtain ⟨i, j, hij, hj, e⟩ := pigeon n (fun i => if f i = n then f (n + 1) else f i) (fun i hi => by
        have h1 := h i (by omega)
        have h2 := hne i hi
        by_cases h3 : f i = n
        · simp only [if_pos h3]; omega
        · simp only [if_neg h3]; omega)
      have h1 := hne i (by omega)
      have h2 := hne j hj
      refine ⟨i, j, hij, by omega, ?_⟩
      by_cases h3 : f i = n <;> by_cases h4 : f j = n
      · rw [h3, h4]
      · simp only [if_pos h3, if_neg h4] at e; exact absurd e.symm h2
      · simp only [if_neg h3, if_pos h4] at e; exact absurd e h1
      · simpa only [if_neg h3, if_neg h4] using e
/-- A state whose next number serves. -/
def good (over s : Nat) : Prop := mixN (nextS s) + over < 18446744073709551616
instance (over s : Nat) : Decidable (good over s) := inferInstanceAs (Decidable (_ < _))
/-- One of the next so many serves. -/
def gw (over : Nat) : Nat → Nat → Prop
  | 0, _ => False
  | k + 1, s => good over s ∨ gw over k (nextS s)
theorem stN_zero (s : Nat) (hs : s < 18446744073709551616) : stN s 0 = s := by
  unfold stN
  rw [Nat.zero_mul, Nat.add_zero, Nat.mod_eq_of_lt hs]
theorem gw_of (over k : Nat) : ∀ (s j : Nat), j < k → good over (stN s j) → s < 18446744073709551616 → gw over k s := by
  induction k with
  | zero => exact fun s j h _ _ => absurd h (Nat.not_lt_zero _)
  | succ k ih =>
    intro s j h hg hs
    cases j with
    | zero => exact .inl (by rwa [stN_zero s hs] at hg)
    | succ j => exact .inr (ih (nextS s) j (Nat.lt_of_succ_lt_succ h) (by rw [stN_next]; exact hg) (nextS_lt s))
theorem diff_lt {a b m : Nat} (h1 : a < m) (h2 : m ≤ a + b) : a + b - m < b := by omega
theorem diff_inj {a c b m : Nat} (h1 : m ≤ a + b) (h2 : m ≤ c + b) (e : a + b - m = c + b - m) : a = c := by omega
theorem gw_all (over s : Nat) (ho : over < 512) (hs : s < 18446744073709551616) : gw over 512 s := by
  by_cases h : ∃ j, j < 512 ∧ good over (stN s j)
  · obtain ⟨j, hj, hg⟩ := h
    exact gw_of over 512 s j hj hg hs
  · exfalso
    have hb : ∀ j, j < 512 → 18446744073709551616 ≤ mixN (stN s (j + 1)) + over := fun j hj => by
      have h1 : ¬ good over (stN s j) := fun hg => h ⟨j, hj, hg⟩
      unfold good at h1
      rw [← stN_succ] at h1
      exact Nat.le_of_not_lt h1
    obtain ⟨i, j, hij, hj, e⟩ := pigeon over (fun j => mixN (stN s (j + 1)) + over - 18446744073709551616) (fun j hj => diff_lt (mixN_lt _) (hb j (Nat.lt_of_le_of_lt hj ho)))
    have hj2 : j < 512 := Nat.lt_of_le_of_lt hj ho
    have hi2 : i < 512 := Nat.lt_trans hij hj2
    have h3 := mixN_inj _ _ (stN_lt s (i + 1)) (stN_lt s (j + 1)) (diff_inj (hb i hi2) (hb j hj2) e)
    have h4 := stN_inj s (i + 1) (j + 1) (Nat.lt_trans (Nat.succ_lt_succ hi2) (by decide)) (Nat.lt_trans (Nat.succ_lt_succ hj2) (by decide)) h3
    have h5 : i = j := Nat.succ.inj h4
    exact absurd hij (by rw [h5]; exact Nat.lt_irrefl _)
/-- The number below n, and the state behind it; at most so many tries. -/
def belowF (n over : Nat) : Nat → Nat → Nat × Nat
  | 0, s => (s, 0)
  | k + 1, s => if good over s then (nextS s, mixN (nextS s) % n) else belowF n over k (nextS s)
def belowN (n s : Nat) : Nat × Nat := belowF n (18446744073709551616 % n) 512 s
theorem over_lt (n : Nat) (h1 : 1 ≤ n) (h2 : n ≤ 512) : 18446744073709551616 % n < 512 := Nat.lt_of_lt_of_le (Nat.mod_lt _ (by omega)) h2
theorem belowF_lt (n over : Nat) (hn : 1 ≤ n) (k : Nat) : ∀ (s : Nat), s < 18446744073709551616 → (belowF n over k s).1 < 18446744073709551616 ∧ (belowF n over k s).2 < n := by
  induction k with
  | zero => exact fun s hs => ⟨hs, hn⟩
  | succ k ih =>
    intro s hs
    unfold belowF
    split
    · exact ⟨nextS_lt s, Nat.mod_lt _ hn⟩
    · exact ih (nextS s) (nextS_lt s)
theorem belowN_lt (n s : Nat) (hn : 1 ≤ n) (hs : s < 18446744073709551616) : (belowN n s).1 < 18446744073709551616 ∧ (belowN n s).2 < n := belowF_lt n _ hn 512 s hs
end
section
/- Contracts of layer 6: mixed, Next, Start, boundMayBe; the reference's Mixed, rest. -/
set_option linter.unusedVariables false
set_option linter.unusedSimpArgs false
open Go.RowKit
theorem xor_cast (x k : Nat) (hx : x < 18446744073709551616) : bits BinOp.xor IntKind.u64 (x : Int) ((x / k : Nat) : Int) = ((x ^^^ x / k : Nat) : Int) :=
  u64_xor_nat _ _ (by omega) (by have := Nat.div_le_self x k; omega)
theorem div_cast (x k : Nat) : (x : Int) / (k : Int) = ((x / k : Nat) : Int) := by simp
theorem mixA_int (z : Nat) (hz : z < 18446744073709551616) : IntKind.u64.wrap (bits BinOp.xor IntKind.u64 (z : Int) ((z : Int) / 1073741824) * 13787848793156543929) = ((mixA z : Nat) : Int) := by
  rw [show (z : Int) / 1073741824 = ((z / 1073741824 : Nat) : Int) from div_cast z 1073741824, xor_cast z _ hz, IntKind.wrap_u64, mixA, Int.natCast_emod, Int.natCast_mul]
  rfl
theorem mixB_int (z : Nat) (hz : z < 18446744073709551616) : IntKind.u64.wrap (bits BinOp.xor IntKind.u64 (z : Int) ((z : Int) / 134217728) * 10723151780598845931) = ((mixB z : Nat) : Int) := by
  rw [show (z : Int) / 134217728 = ((z / 134217728 : Nat) : Int) from div_cast z 134217728, xor_cast z _ hz, IntKind.wrap_u64, mixB, Int.natCast_emod, Int.natCast_mul]
  rfl
theorem mixN_int (z : Nat) : bits BinOp.xor IntKind.u64 ((mixB (mixA z) : Nat) : Int) (((mixB (mixA z) : Nat) : Int) / 2147483648) = ((mixN z : Nat) : Int) := by
  rw [show ((mixB (mixA z) : Nat) : Int) / 2147483648 = ((mixB (mixA z) / 2147483648 : Nat) : Int) from div_cast _ 2147483648, xor_cast _ _ (mixB_lt _), mixN]
theorem tdiv_wrap (x k : Nat) (hx : x < 18446744073709551616) : IntKind.u64.wrap ((x : Int).tdiv (k : Int)) = (x : Int) / (k : Int) := by
  rw [Int.tdiv_eq_ediv_of_nonneg (Int.natCast_nonneg x), div_cast]
  exact IntWalk.u64_in _ ⟨Int.natCast_nonneg _, by have := Nat.div_le_self x k; omega⟩
theorem rest_int (n : Nat) (h1 : 1 ≤ n) (h2 : n ≤ 512) : (IntKind.u64.wrap (18446744073709551615 % (n : Int) + 1)).tmod (n : Int) = ((18446744073709551616 % n : Nat) : Int) := by
  have e : (18446744073709551615 : Int) % (n : Int) = ((18446744073709551615 % n : Nat) : Int) := rfl
  have hl : 18446744073709551615 % n < n := Nat.mod_lt _ h1
  have e2 : (18446744073709551615 % n + 1) % n = 18446744073709551616 % n := Nat.mod_add_mod _ _ _
  rw [e]
  generalize 18446744073709551615 % n = r at *
  generalize 18446744073709551616 % n = m at *
  rw [IntWalk.u64_in _ (by omega), Int.tmod_eq_emod_of_nonneg (by omega), ← e2]
  rfl
theorem ret_u64 (x y : Int) (h : x = y) : Ending.returned (.int .u64 x) = .returned (.int .u64 y) := by rw [h]
set_option maxHeartbeats 1000000 in
theorem mixed_any (z : Nat) (hz : z < 18446744073709551616) (w : World) : Calls Try.prog 70 #[.int .u64 z] w fun e w' => e = .returned (.int .u64 (mixN z : Nat)) ∧ w = w' := by
  go_enter Try.func70, Try.ntmps70
  go_wp2
  go_ret
  exact ⟨ret_u64 _ _ (by rw [mixA_int z hz, mixB_int _ (mixA_lt z), mixN_int]), rfl⟩
theorem bound_any (n : Int) (w : World) : Calls Try.prog 76 #[.int .i64 n] w fun e w' => e = .returned (.bool (decide (1 ≤ n ∧ n ≤ 512))) ∧ w = w' := by
  by_cases h : 1 ≤ n
  · by_cases h2 : n ≤ 512
    · rw [decide_eq_true ⟨h, h2⟩]
      go_enter Try.func76, Try.ntmps76
      go_wp2
      go_ret
      exact ⟨rfl, rfl⟩
    · rw [decide_eq_false (fun x => h2 x.2)]
      have t : decide (n ≤ 512) = false := by simpa using h2
      go_enter Try.func76, Try.ntmps76
      go_wp2
      go_ret
      exact ⟨by simp, rfl⟩
  · rw [decide_eq_false (fun x => h x.1)]
    have t : decide (1 ≤ n) = false := by simpa using h
    go_enter Try.func76, Try.ntmps76
    go_wp2
    go_ret
    exact ⟨by simp, rfl⟩
theorem next_any (s : Nat) (hs : s < 18446744073709551616) (w : World) : Calls Try.prog 60 #[.int .u64 s] w fun e w' => e = .returned (.tuple #[.int .u64 (nextS s : Nat), .int .u64 (mixN (nextS s) : Nat)]) ∧ w = w' := by
  have e : IntKind.u64.wrap ((s : Int) + 11400714819323198485) = ((nextS s : Nat) : Int) := by
    rw [IntKind.wrap_u64, nextS]; rfl
  have HM := Lib.hid (mixed_any (nextS s) (nextS_lt s))
  generalize nextS s = t at *
  go_enter Try.func60, Try.ntmps60
  go_wp2_with fail
  refine (HM.out _).mono ?_
  rintro e' w1 ⟨rfl, rfl⟩
  go_wp2_with fail
  go_ret2
  exact ⟨rfl, rfl⟩
theorem start_any (s : Nat) (hs : s < 18446744073709551616) (w : World) : Calls Try.prog 61 #[.int .u64 s] w fun e w' => e = .returned (.int .u64 (mixN s : Nat)) ∧ w = w' := by
  have HM := Lib.hid (mixed_any s hs)
  go_enter Try.func61, Try.ntmps61
  go_wp2_with fail
  refine (HM.out _).mono ?_
  rintro e' w1 ⟨rfl, rfl⟩
  go_wp2_with fail
  go_ret
  exact ⟨rfl, rfl⟩
end
section
/- A law of one's own for 'for .. := range seq' where the iterator keeps its state in a box of its own (a captured variable), and ends only when the body does. No program. -/
set_option linter.unusedVariables false
set_option linter.unusedSimpArgs false
open Go.RowKit
variable {F : Fence} {n : Nat} {P : Program}
/-- What such an iterator promises: s is its state, B its box, next what a round is handed; k rounds at most are to come. -/
def SeqCell {σ : Type} (F : Fence) (n : Nat) (P : Program) (g : Nat) (lb : Array Value) (encs : σ → Array Value) (next : σ → σ) (B : Nat) (T : TypeId) (val : σ → Value) : Prop :=
  ∀ (l : Nat) (J : Nat → σ → World → Prop) (Jx : World → Prop) (k₀ : Nat) (s₀ : σ) (W : World),
    (∀ k s W v, J k s W → J k s (W.setCell ⟨B, 0, none⟩ v)) → (∀ k s W, J k s W → J k s W.drew) → (∀ s W, ¬ J 0 s W) →
    (∀ k s W, J (k + 1) s W → YieldAt F (n - 1) P l (encs (next s)) W fun e W' => (e = .returned (.bool true) ∧ J k (next s) W' ∧ W'.heap[B]? = W.heap[B]?) ∨ (e = .returned (.bool false) ∧ Jx W')) →
    J k₀ s₀ W → Boxed W B T (val s₀) →
    CallsIn F n P g (#[.func (.yield l) #[] #[]] ++ lb) W fun e W' => (∃ v, e = .returned v) ∧ Jx W'
/-- How a round may be left. -/
def postCell {σ : Type} (A B : Nat) (I : Nat → σ → World → Prop) (Ix : World → Prop) (k : Nat) (s : σ) (W : World) : Exit → Act → World → Prop
  | .normal, _, W' => KeepsFrom A W W' ∧ W'.heap[B]? = W.heap[B]? ∧ I k s W'
  | .ret, _, W' => KeepsFrom A W W' ∧ Ix W'
  | .exit _, _, _ => False
  | .goto _, _, _ => False
  | .panic _, _, _ => False
  | .outgrown, _, _ => False
theorem drew_own {β : Type} {B : Nat} {I : β → World → Prop} (h : OwnFrom B I) {s : β} {W : World} (hs : I s W) : I s W.drew :=
  h s W W.drew none hs ⟨rfl, rfl, rfl, Nat.le_refl _, fun _ _ _ => rfl⟩ (fun r e => by cases e)
theorem range_cell {σ : Type} {g : Operand} {ps : Array Tmp} {assign body : Code} {Q : Exit → Act → World → Prop} {a : Act} {w : World}
    (hro : F.round = none) (h1 : 1 ≤ n) {gf : Nat} {lb : Array Value} (hg : a.eval g = .func (.func gf) #[] lb) (hFg : F.fn gf) (eg : ∀ args w, (callFunc gf args).run P w = .ok (.enter gf args) w)
    {encs : σ → Array Value} {next : σ → σ} {B : Nat} {T : TypeId} {val : σ → Value} (hseq : SeqCell F (n - 1) P gf lb encs next B T val) (hps : ∀ x, (encs x).size = ps.size)
    (I : Nat → σ → World → Prop) (Ix : World → Prop) (hI : OwnFrom w.heap.size (fun (p : Nat × σ) W => I p.1 p.2 W)) (hIx : OwnFrom w.heap.size (fun (_ : Unit) W => Ix W))
    (hIB : ∀ k s W v, I k s W → I k s (W.setCell ⟨B, 0, none⟩ v)) (hI0 : ∀ s W, ¬ I 0 s W) (k₀ : Nat) (s₀ : σ) (h0 : I k₀ s₀ w) (hbox : Boxed w B T (val s₀)) (a₁ : σ → Act)
    (hassign : ∀ (l : Nat) (x : σ) (W : World) (K : Act → World → Prop), K (a₁ x) W →
      assign.wpIn (F.inRound l) (n - 1 - 1) P (Exit.then K (fun _ _ _ => False)) { tmps := (ps.zip (encs x)).foldl (fun t (p, v) => t.setIfInBounds p v) a.tmps, defers := [] } W)
    (hbody : ∀ (l k : Nat) (s : σ) (W : World), I (k + 1) s W → body.wpIn (F.inRound l) (n - 1 - 1) P (postCell w.heap.size B I Ix k (next s) W) (a₁ (next s)) W)
    (hstop : ∀ (D : Nat) (W : World), w.heap.size ≤ D → Ix W → W.heap[D]? = some (.deferred (some [])) → Code.ret.wpIn F n P Q { a with defers := { target := .collected D, args := #[] } :: a.defers } W) :
    (Code.rangeFunc g ps assign body).wpIn F n P Q a w := by
  have hBlt : B < w.heap.size := hbox.lt
  refine wpIn_rangeFunc ?_
  intro fn hfn
  rw [hro]
  obtain ⟨rc, hrc⟩ : ∃ rc : LoopState → Option Code → Loop, rc = fun st pe => { state := st, pending := pe, fn, tmps := a.tmps, params := ps, assign, body, defers := w.heap.size } := ⟨_, rfl⟩
  obtain ⟨W1, hW1⟩ : ∃ W1, (w.alloc (.deferred (some []))).alloc (.loop (rc .ready none)) = W1 := ⟨_, rfl⟩
  have hL1 : W1.heap[w.heap.size + 1]? = some (.loop (rc .ready none)) := by
    rw [← hW1]; have := World.alloc_heap_new (w.alloc (.deferred (some []))) (.loop (rc .ready none)); rwa [World.size_alloc] at this
  have hK1 : W1.heap[w.heap.size]? = some (.deferred (some [])) := by
    rw [← hW1]; exact (Below.heap_alloc _ _ _ (by simp)).trans (World.alloc_heap_new w _)
  have hI1 : I k₀ s₀ W1 := by rw [← hW1]; exact hI.alloc (s := (k₀, s₀)) _ (hI.alloc (s := (k₀, s₀)) _ h0)
  have hB1 : Boxed W1 B T (val s₀) := by rw [← hW1]; exact (hbox.alloc _).alloc _
  refine ⟨w.heap.size + 1, [{ target := .collected w.heap.size, args := #[] }], W1, { target := .fn (.func gf) lb, args := #[.func (.yield (w.heap.size + 1)) #[] #[]] }, W1, gf,
    #[.func (.yield (w.heap.size + 1)) #[] #[]] ++ lb, W1, ?_, ?_, ?_, ?_, fun _ => h1, ?_⟩
  · rw [← hW1, hrc]; exact run_enterLoop_outer _ _ _ _ _
  · simp only [resolve, hg]
    simp [go_sem]
  · intro f' hf'; simp [Target.leads] at hf'; subst hf'; exact hFg
  · simp [invoke, go_sem, eg]
  · have other : ∀ (k : Nat) (W : World) (v : Value), w.heap.size ≤ k → (W.setCell ⟨B, 0, none⟩ v).heap[k]? = W.heap[k]? := fun k W v hk => Below.heap_setCell W ⟨B, 0, none⟩ v k (by show k ≠ B; omega)
    refine (hseq (w.heap.size + 1)
      (fun k s W => I k s W ∧ W.heap[w.heap.size + 1]? = some (.loop (rc .ready none)) ∧ W.heap[w.heap.size]? = some (.deferred (some [])))
      (fun W => Ix W ∧ W.heap[w.heap.size + 1]? = some (.loop (rc .done (some .ret))) ∧ W.heap[w.heap.size]? = some (.deferred (some [])))
      k₀ s₀ W1
      (fun k s W v hs => ⟨hIB k s W v hs.1, (other _ W v (by omega)).trans hs.2.1, (other _ W v (Nat.le_refl _)).trans hs.2.2⟩)
      (fun k s W hs => ⟨drew_own hI (s := (k, s)) hs.1, hs.2.1, hs.2.2⟩)
      (fun s W hs => hI0 s W hs.1) ?_ ⟨hI1, hL1, hK1⟩ hB1).mono ?_
    · rintro k s W ⟨hi, hl, hk⟩
      have hlt : w.heap.size + 1 < W.heap.size := (Array.getElem?_eq_some_iff.1 hl).1
      have hy := run_yield (P := P) (args := encs (next s)) hl (by rw [hrc]; exact hps _)
      rw [hrc] at hy
      refine ⟨fn, _, assign, body, hy, roundIn_of_wpIn hfn (hassign _ (next s) W _ ⟨_, run_beginRound hl (by rw [hrc]), ?_⟩)⟩
      have hl2 : (W.putObj (w.heap.size + 1) (.loop { rc .ready none with state := .busy })).heap[w.heap.size + 1]? = some (.loop { rc .ready none with state := .busy }) := World.putObj_heap_same hlt
      have hk2 : (W.putObj (w.heap.size + 1) (.loop { rc .ready none with state := .busy })).heap[w.heap.size]? = some (.deferred (some [])) := (World.putObj_heap_other (by omega)).trans hk
      have hb2 : ∀ (V : World) (o : Obj), (V.putObj (w.heap.size + 1) o).heap[B]? = V.heap[B]? := fun V o => World.putObj_heap_other (by omega)
      refine wpIn_mono (hbody _ k s _ (hI.putObj (s := (k + 1, s)) _ hi (by omega) hl rfl)) ?_
      have fin : ∀ (jump : Option Code) (W3 : World), KeepsFrom w.heap.size (W.putObj (w.heap.size + 1) (.loop { rc .ready none with state := .busy })) W3 →
          (Instr.endRound (w.heap.size + 1) jump).run P W3 = .ok (.bool jump.isNone) (W3.putObj (w.heap.size + 1) (.loop (rc (if jump.isNone then .ready else .done) jump))) ∧
          W3.heap[w.heap.size + 1]? = some (.loop { rc .ready none with state := .busy }) ∧
          (W3.putObj (w.heap.size + 1) (.loop (rc (if jump.isNone then .ready else .done) jump))).heap[w.heap.size + 1]? = some (.loop (rc (if jump.isNone then .ready else .done) jump)) ∧
          (W3.putObj (w.heap.size + 1) (.loop (rc (if jump.isNone then .ready else .done) jump))).heap[w.heap.size]? = some (.deferred (some [])) := fun jump W3 hk3 => by
        have hl3 := hk3.same _ _ (by omega) hl2 rfl
        have := run_endRound (P := P) jump hl3
        rw [hrc] at this ⊢
        exact ⟨this, by rw [hrc] at hl3; exact hl3, World.putObj_heap_same (Array.getElem?_eq_some_iff.1 hl3).1, (World.putObj_heap_other (by omega)).trans (hk3.same _ _ (Nat.le_refl _) hk2 rfl)⟩
      rintro e a3 W3 hp
      cases e with
      | normal =>
        obtain ⟨hk3, hkp3, hi3⟩ := hp
        obtain ⟨hr, hl3, hl4, hk4⟩ := fin none W3 hk3
        exact ⟨_, _, hr, .inl ⟨rfl, ⟨hI.putObj (s := (k, next s)) _ hi3 (by omega) hl3 rfl, hl4, hk4⟩, (hb2 _ _).trans (hkp3.trans (hb2 _ _))⟩⟩
      | ret =>
        obtain ⟨hk3, hi3⟩ := hp
        obtain ⟨hr, hl3, hl4, hk4⟩ := fin (some .ret) W3 hk3
        exact ⟨_, _, hr, .inr ⟨rfl, hIx.putObj (s := ()) _ hi3 (by omega) hl3 rfl, hl4, hk4⟩⟩
      | exit id => exact hp.elim
      | goto t => exact hp.elim
      | panic ch => exact hp.elim
      | outgrown => exact hp.elim
    · rintro e W2 ⟨⟨v, rfl⟩, hi, hl, hk⟩
      exact ⟨some .ret, _, by have := run_endLoop (P := P) hl (by rw [hrc]; simp); rw [hrc] at this; exact this, hstop _ _ (Nat.le_refl _) (hIx.putObj (s := ()) _ hi (by omega) hl rfl) ((World.putObj_heap_other (by omega)).trans hk)⟩
end
section
/- Contract of layer 6: the iterator of the numbers. -/
set_option linter.unusedVariables false
set_option linter.unusedSimpArgs false
open Go.RowKit Go.Shelf
attribute [local go_sem] Oper.semAt_some
theorem step_wrap' (s : Nat) : IntKind.u64.wrap ((s : Int) + 11400714819323198485) = ((nextS s : Nat) : Int) := by
  rw [IntKind.wrap_u64, nextS]; rfl
/-- A state. -/
def St : Type := { s : Nat // s < 18446744073709551616 }
def St.next (s : St) : St := ⟨nextS s.1, nextS_lt s.1⟩
def St.val (s : St) : Value := .int .u64 (s.1 : Int)
def St.encs (s : St) : Array Value := #[.int .u64 (s.1 : Int), .int .u64 (mixN s.1 : Nat)]
set_option maxRecDepth 100000 in
set_option maxHeartbeats 4000000 in
theorem numbers_cell (n : Nat) (hn : 1 ≤ n) (B : Nat) : SeqCell Fence.wide n Try.prog 100 #[.pointer (some ⟨B, 0, none⟩)] St.encs St.next B 25 St.val := by
  intro l J Jx k₀ s₀ W hJB hJd hJ0 hY h0 hbox
  refine callsIn_of_wp Try.func100 rfl trivial ?_ rfl
  simp only [Try.ntmps100, List.size_toArray, List.length_cons, List.length_nil, Nat.reduceAdd, Nat.reduceSub, Array.replicate_succ, Array.replicate_zero, List.push_toArray, List.append_toArray, List.nil_append, List.cons_append]
  gi_wp2
  gi_loopg [3] k₀ (fun k s3 wr => ∃ s : St, J k s wr ∧ Boxed wr B 25 s.val)
  case atStart => exact ⟨s₀, h0, hbox⟩
  case round =>
    obtain ⟨s, hs, hb⟩ := hrel
    cases gk with
    | zero => exact (hJ0 s wr hs).elim
    | succ k =>
      have HY := hY k s (wr.setCell ⟨B, 0, none⟩ (.int .u64 (nextS s.1 : Nat))) (hJB _ _ _ _ hs)
      have hb2 : Boxed (wr.setCell ⟨B, 0, none⟩ (.int .u64 (nextS s.1 : Nat))) B 25 (.int .u64 (nextS s.1 : Nat)) := hb.set _
      have HN := Lib.hid (next_any s.1 s.2)
      have e1 := hb.cell
      have e2 := hb.frozen
      have e3 := hb2.cell
      have HB2 := Lib.hid hb2
      have HNX := Lib.hid (show (St.next s).val = .int .u64 (nextS s.1 : Nat) from rfl)
      simp only [St.val] at e1
      obtain ⟨fn, tmps, assign, body, hy, hR⟩ := HY
      simp only [St.encs, St.next] at hy
      clear hb hb2 hs
      generalize hV : wr.setCell ⟨B, 0, none⟩ (.int .u64 (nextS s.1 : Nat)) = V at *
      have HV := Lib.hid hV
      have hR' := Lib.hid hR
      clear hR
      gi_wp2_with (refine ⟨trivial, ?_⟩; gi_at_call 60; refine (callsIn_wide.2 (HN.out _)).mono ?_; rintro e w' ⟨rfl, rfl⟩)
      refine RoundIn.mono hR'.out ?_
      rintro e W3 (⟨rfl, hJ3, hk3⟩ | ⟨rfl, hJx3⟩)
      · gi_wp2
        gi_roundg k
        case rel => exact ⟨s.next, hJ3, by rw [HNX.out]; exact hk3.trans HB2.out⟩
        case measure => omega
      · gi_wp2
        refine bodyPost_ret (results_none rfl _ _ _) rfl ?_
        exact ⟨⟨_, rfl⟩, hJx3⟩
end
section
/- Contract of layer 6: Below. -/
set_option linter.unusedVariables false
set_option linter.unusedSimpArgs false
open Go.RowKit Go.Shelf
attribute [local go_sem] Oper.semAt_some
theorem run_loadVar_cell_int {P : Program} (W : World) (g : Nat) (T : TypeId) (k : IntKind) (v : Int) (hu : P.underlying T = some (.int k)) (hc : W.cell? ⟨g, 0, none⟩ = some (.int k v)) : (loadVar T ⟨g, 0, none⟩).run P W = .ok (.int k v) W := by
  have hagg : (isAgg T).run P W = .ok false W := by
    unfold isAgg
    rw [Sem.run_bind, run_underlying hu W]
    rfl
  have hl : (load ⟨g, 0, none⟩).run P W = .ok (.int k v) W := by go_simp
  simp [loadVar, Sem.run_bind, hagg, hl, Result.andThen]
/-- A return of three values in boxes. -/
theorem results_cells3 {P : Program} {fn : Func} {W : World} {p q r : Tmp} {T1 T2 T3 : TypeId} {g1 g2 g3 : Nat} {k1 k2 k3 : IntKind} {v1 v2 v3 : Int} (hr : fn.results = #[.cell p T1, .cell q T2, .cell r T3]) (tmps : Array Value)
    (hp : tmps.getD p undef = .pointer (some ⟨g1, 0, none⟩)) (hq : tmps.getD q undef = .pointer (some ⟨g2, 0, none⟩)) (hs : tmps.getD r undef = .pointer (some ⟨g3, 0, none⟩))
    (b1 : Box W g1 T1 #[.int k1 v1]) (b2 : Box W g2 T2 #[.int k2 v2]) (b3 : Box W g3 T3 #[.int k3 v3]) (u1 : P.underlying T1 = some (.int k1)) (u2 : P.underlying T2 = some (.int k2)) (u3 : P.underlying T3 = some (.int k3)) :
    (results fn tmps).run P W = .ok (.tuple #[.int k1 v1, .int k2 v2, .int k3 v3]) W := by
  have hp' : tmps[p]?.getD undef = .pointer (some ⟨g1, 0, none⟩) := by simpa using hp
  have hq' : tmps[q]?.getD undef = .pointer (some ⟨g2, 0, none⟩) := by simpa using hq
  have hs' : tmps[r]?.getD undef = .pointer (some ⟨g3, 0, none⟩) := by simpa using hs
  have c1 := b1.cell 0
  have c2 := b2.cell 0
  have c3 := b3.cell 0
  simp at c1 c2 c3
  simp [results, hr, hp', hq', hs', asAddr, run_loadVar_cell_int W g1 T1 k1 v1 u1 c1, run_loadVar_cell_int W g2 T2 k2 v2 u2 c2, run_loadVar_cell_int W g3 T3 k3 v3 u3 c3, Sem.run_bind, Result.andThen]
theorem close_cells3 {P : Program} {fn : Func} {R : Ending → World → Prop} {a : Act} {W : World} {p q r : Tmp} {T1 T2 T3 : TypeId} {g1 g2 g3 : Nat} {k1 k2 k3 : IntKind} {v1 v2 v3 : Int} (hr : fn.results = #[.cell p T1, .cell q T2, .cell r T3])
    (hp : a.tmps.getD p undef = .pointer (some ⟨g1, 0, none⟩)) (hq : a.tmps.getD q undef = .pointer (some ⟨g2, 0, none⟩)) (hs : a.tmps.getD r undef = .pointer (some ⟨g3, 0, none⟩)) (hd : a.defers = [])
    (b1 : Box W g1 T1 #[.int k1 v1]) (b2 : Box W g2 T2 #[.int k2 v2]) (b3 : Box W g3 T3 #[.int k3 v3]) (u1 : P.underlying T1 = some (.int k1)) (u2 : P.underlying T2 = some (.int k2)) (u3 : P.underlying T3 = some (.int k3))
    (hR : R (.returned (.tuple #[.int k1 v1, .int k2 v2, .int k3 v3])) W) : bodyPost P fn R .ret a W :=
  bodyPost_ret (results_cells3 hr a.tmps hp hq hs b1 b2 b3 u1 u2 u3) hd hR
theorem below_no (s n : Int) (h : ¬ (1 ≤ n ∧ n ≤ 512)) (w : World) : Calls Try.prog 84 #[.int .u64 s, .int .i64 n] w fun e w' => e = .returned (.tuple #[.int .u64 0, .int .i64 0, .int .i64 2]) ∧ Below w.heap.size w w' := by
  have H := Lib.hid (bound_any n)
  rw [decide_eq_false h] at H
  go_enter Try.func84, Try.ntmps84
  go_wp2_with fail
  refine (H.out _).mono ?_
  rintro e w1 ⟨rfl, rfl⟩
  go_wp2_with fail
  refine close_cells3 Try.results84 rfl rfl rfl rfl (((Box.new w 25 #[.int .u64 0]).alloc _).alloc _) (Box.alloc (by have := Box.new (w.alloc (.cells #[.int .u64 0] 25)) 3 #[.int .i64 0]; rwa [World.size_alloc] at this) _) (by have := Box.new ((w.alloc (.cells #[.int .u64 0] 25)).alloc (.cells #[.int .i64 0] 3)) 29 #[.int .i64 2]; simp only [World.size_alloc] at this; exact this) Try.underlying25 Try.underlying3 Try.underlying29 ⟨rfl, ?_⟩
  exact (((Below.refl w.heap.size w).alloc (Nat.le_refl _) _).alloc (by simp) _).alloc (by simp; omega) _
/-- The iterator that numbers hands back: its box. -/
def NumOut (s : Nat) (w : World) (e : Ending) (w' : World) : Prop :=
  ∃ B, e = .returned (.func (.func 100) #[] #[.pointer (some ⟨B, 0, none⟩)]) ∧ Boxed w' B 25 (.int .u64 s) ∧ w.heap.size ≤ B ∧ Below w.heap.size w w'
theorem numbers_any (s : Nat) (w : World) : Calls Try.prog 89 #[.int .u64 s] w (NumOut s w) := by
  go_enter Try.func89, Try.ntmps89
  go_wp2_with fail
  go_ret
  exact ⟨_, rfl, Box.new w _ _, Nat.le_refl _, (Below.refl w.heap.size w).alloc (Nat.le_refl _) _⟩
/-- The five boxes of Below: three results, the bound, what is left over. -/
def Five (h : Nat) (x : Nat) (y : Nat) (n over : Nat) (W : World) : Prop :=
  Boxed W h 25 (.int .u64 x) ∧ Boxed W (h + 1) 3 (.int .i64 y) ∧ Boxed W (h + 2) 29 (.int .i64 0) ∧ Boxed W (h + 3) 25 (.int .u64 n) ∧ Boxed W (h + 4) 25 (.int .u64 over)
theorem Five.keep {h x y n over : Nat} {W W' : World} (H : Five h x y n over W) (hk : ∀ b, b < h + 5 → W'.heap[b]? = W.heap[b]?) : Five h x y n over W' :=
  ⟨(hk _ (by omega)).trans H.1, (hk _ (by omega)).trans H.2.1, (hk _ (by omega)).trans H.2.2.1, (hk _ (by omega)).trans H.2.2.2.1, (hk _ (by omega)).trans H.2.2.2.2⟩
theorem Five.own {β : Type} (h : Nat) (x y : Nat) (n over : Nat) (A : Nat) : OwnFrom A (fun (_ : β) W => Five h x y n over W) :=
  OwnFrom.and (Own.from (boxed_own _ _ (fun _ => .int .u64 x)) _) (OwnFrom.and (Own.from (boxed_own _ _ (fun _ => .int .i64 y)) _) (OwnFrom.and (Own.from (boxed_own _ _ (fun _ => .int .i64 0)) _) (OwnFrom.and (Own.from (boxed_own _ _ (fun _ => .int .u64 n)) _) (Own.from (boxed_own _ _ (fun _ => .int .u64 over)) _))))
theorem Five.put {h x y n over : Nat} {W : World} (H : Five h x y n over W) (x' y' : Nat) : Five h x' y' n over (((W.setCell ⟨h, 0, none⟩ (.int .u64 x')).setCell ⟨h + 1, 0, none⟩ (.int .i64 y')).setCell ⟨h + 2, 0, none⟩ (.int .i64 0)) := by
  obtain ⟨b0, b1, b2, b3, b4⟩ := H
  refine ⟨?_, ?_, ?_, ?_, ?_⟩
  · exact ((b0.set _).other (by omega) _).other (by omega) _
  · exact ((b1.other (by omega) _).set _).other (by omega) _
  · exact ((b2.other (by omega) _).other (by omega) _).set _
  · exact ((b3.other (by omega) _).other (by omega) _).other (by omega) _
  · exact ((b4.other (by omega) _).other (by omega) _).other (by omega) _
theorem Five.start (w : World) (n over : Nat) : Five w.heap.size 0 0 n over (((((w.alloc (.cells #[.int .u64 0] 25)).alloc (.cells #[.int .i64 0] 3)).alloc (.cells #[.int .i64 0] 29)).alloc (.cells #[.int .u64 n] 25)).alloc (.cells #[.int .u64 over] 25)) := by
  have k0 := Box.new w 25 #[.int .u64 0]
  have k1 := Box.new (w.alloc (.cells #[.int .u64 0] 25)) 3 #[.int .i64 0]
  have k2 := Box.new ((w.alloc (.cells #[.int .u64 0] 25)).alloc (.cells #[.int .i64 0] 3)) 29 #[.int .i64 0]
  have k3 := Box.new (((w.alloc (.cells #[.int .u64 0] 25)).alloc (.cells #[.int .i64 0] 3)).alloc (.cells #[.int .i64 0] 29)) 25 #[.int .u64 n]
  have k4 := Box.new ((((w.alloc (.cells #[.int .u64 0] 25)).alloc (.cells #[.int .i64 0] 3)).alloc (.cells #[.int .i64 0] 29)).alloc (.cells #[.int .u64 n] 25)) 25 #[.int .u64 over]
  simp only [World.size_alloc] at k1 k2 k3 k4
  exact ⟨(((k0.alloc _).alloc _).alloc _).alloc _, ((k1.alloc _).alloc _).alloc _, (k2.alloc _).alloc _, k3.alloc _, k4⟩
theorem below_allocs (w : World) (o0 o1 o2 o3 o4 : Obj) : Below w.heap.size w (((((w.alloc o0).alloc o1).alloc o2).alloc o3).alloc o4) :=
  (((((Below.refl _ w).alloc (Nat.le_refl _) o0).alloc (by simp) o1).alloc (by simp; omega) o2).alloc (by simp; omega) o3).alloc (by simp; omega) o4
theorem over_int (n : Nat) (h1 : 1 ≤ n) (h2 : n ≤ 512) : (IntKind.u64.wrap (-(n : Int))).tmod (n : Int) = ((18446744073709551616 % n : Nat) : Int) := by
  have e : IntKind.u64.wrap (-(n : Int)) = ((18446744073709551616 - n : Nat) : Int) := by rw [IntKind.wrap_u64]; omega
  have e2 : (18446744073709551616 - n) % n = 18446744073709551616 % n := by
    have : 18446744073709551616 = (18446744073709551616 - n) + n := by omega
    conv => rhs; rw [this]
    rw [Nat.add_mod_right]
  rw [e, Int.tmod_eq_emod_of_nonneg (by omega), ← e2]
  rfl
theorem fin_post {A h n over x y : Nat} {w W : World} {b : Nat × Nat} {z : Int} (hF : Five h 0 0 n over W) (hB : Below h w W) (hb : b = (x, y)) (hz : z = (y : Int)) :
    KeepsFrom A W (((W.setCell ⟨h, 0, none⟩ (.int .u64 x)).setCell ⟨h + 1, 0, none⟩ (.int .i64 z)).setCell ⟨h + 1 + 1, 0, none⟩ (.int .i64 0)).drew ∧
    Five h b.1 b.2 n over (((W.setCell ⟨h, 0, none⟩ (.int .u64 x)).setCell ⟨h + 1, 0, none⟩ (.int .i64 z)).setCell ⟨h + 1 + 1, 0, none⟩ (.int .i64 0)).drew ∧
    Below h w (((W.setCell ⟨h, 0, none⟩ (.int .u64 x)).setCell ⟨h + 1, 0, none⟩ (.int .i64 z)).setCell ⟨h + 1 + 1, 0, none⟩ (.int .i64 0)).drew := by
  subst hb hz
  refine ⟨?_, (hF.put x y).keep (fun _ _ => rfl), (((hB.setCell (p := ⟨h, 0, none⟩) (Nat.le_refl _) _).setCell (p := ⟨h + 1, 0, none⟩) (Nat.le_succ _) _).setCell (p := ⟨h + 1 + 1, 0, none⟩) (by show h ≤ h + 1 + 1; omega) _).drew⟩
  exact ((((KeepsOthers.setCell _ _ _).trans (KeepsOthers.setCell _ _ _)).trans (KeepsOthers.setCell _ _ _)).trans (KeepsOthers.drew _)).from _
set_option maxRecDepth 100000 in
set_option maxHeartbeats 4000000 in
theorem below_in (s n : Nat) (hs : s < 18446744073709551616) (h1 : 1 ≤ n) (h2 : n ≤ 512) (w : World) :
    CallsIn Fence.wide 5 Try.prog 84 #[.int .u64 s, .int .i64 n] w fun e w' => e = .returned (.tuple #[.int .u64 ((belowN n s).1 : Nat), .int .i64 ((belowN n s).2 : Nat), .int .i64 0]) ∧ Below w.heap.size w w' := by
  have H := Lib.hid (bound_any n)
  rw [decide_eq_true (p := 1 ≤ (n : Int) ∧ (n : Int) ≤ 512) (by omega)] at H
  have HN := Lib.hid (numbers_any s)
  generalize hbb : belowN n s = b at *
  have HB0 := Lib.hid (show belowF n (18446744073709551616 % n) 512 s = b from hbb)
  clear hbb
  have ho := over_lt n h1 h2
  have HG := Lib.hid (gw_all (18446744073709551616 % n) s ho hs)
  have hov := over_int n h1 h2
  generalize 18446744073709551616 % n = over at *
  have g1 : (1 : Int) ≤ n := by omega
  refine callsIn_of_wp_marks Try.func84 rfl trivial ?_ rfl
  simp only [Try.ntmps84, List.size_toArray, List.length_cons, List.length_nil, Nat.reduceAdd, Nat.reduceSub, Array.replicate_succ, Array.replicate_zero, List.push_toArray, List.append_toArray, List.nil_append, List.cons_append]
  gi_wp2_with (refine ⟨trivial, ?_⟩; first | (gi_at_call 76; refine (callsIn_wide.2 (H.out _)).mono ?_; rintro e w' ⟨rfl, rfl⟩) | (gi_at_call 89; refine (callsIn_wide.2 (HN.out _)).mono ?_; rintro e w1 ⟨B, rfl, b1, hge, hb⟩))
  clear hov
  have F0 : Five w.heap.size 0 0 n over w1 := by
    refine (Five.start w n over).keep (fun b hb' => hb.block b (by simp; omega))
  have B0 : Below w.heap.size w w1 := (below_allocs w _ _ _ _ _).trans (hb.mono (by simp; omega))
  simp only [World.size_alloc] at hge
  clear hb H HN
  have hg5 : w.heap.size + 5 ≤ B := hge
  refine range_cell rfl (by omega) (gf := 100) (lb := #[.pointer (some ⟨B, 0, none⟩)]) rfl trivial (enters_of Try.func100 (by kernel_rfl) rfl)
    (numbers_cell (5 - 1) (by omega) B) (fun _ => rfl)
    (fun k (t : St) W => (Hid (gw over k t.1) ∧ Hid (belowF n over k t.1 = b)) ∧ Five w.heap.size 0 0 n over W ∧ Below w.heap.size w W)
    (fun W => Five w.heap.size b.1 b.2 n over W ∧ Below w.heap.size w W)
    (OwnFrom.and (ownFrom_pure _ (fun p : Nat × St => Hid (gw over p.1 p.2.1) ∧ Hid (belowF n over p.1 p.2.1 = b))) (OwnFrom.and (Five.own _ _ _ _ _ _) (ownFrom_below (Nat.le_refl _) B0.size)))
    (OwnFrom.and (Five.own _ _ _ _ _ _) (ownFrom_below (Nat.le_refl _) B0.size))
    (fun k t W v hi => ⟨hi.1, hi.2.1.keep (fun c hc => Below.heap_setCell W ⟨B, 0, none⟩ v c (by show c ≠ B; omega)), hi.2.2.setCell (p := ⟨B, 0, none⟩) (by show w.heap.size ≤ B; omega) v⟩)
    (fun t W hi => hi.1.1.out.elim)
    512 ⟨s, hs⟩ ⟨⟨HG, HB0⟩, F0, B0⟩ b1
    (fun x => { tmps := #[.int .u64 s, .int .i64 n, undef, undef, .pointer (some ⟨w.heap.size, 0, none⟩), .pointer (some ⟨w.heap.size + 1, 0, none⟩), .pointer (some ⟨w.heap.size + 1 + 1, 0, none⟩), .pointer (some ⟨w.heap.size + 1 + 1 + 1, 0, none⟩), .pointer (some ⟨w.heap.size + 1 + 1 + 1 + 1, 0, none⟩), .int .u64 x.1, .int .u64 (mixN x.1 : Nat), .int .i64 n, .bool true, .bool false, .int .i64 n, .int .u64 n, .int .u64 n, .int .u64 (IntKind.u64.wrap (-(n : Int))), .int .u64 n, .int .u64 over, .int .u64 s, .func (.func 100) #[] #[.pointer (some ⟨B, 0, none⟩)], .int .u64 x.1, .int .u64 (mixN x.1 : Nat), undef, undef, undef, undef, undef, undef, undef, undef, undef, undef, undef, undef, undef], defers := [] }) ?assign ?body ?stop
  case assign =>
    intro l x W K hK
    simp only [St.encs]
    gi_wp2
    exact hK
  case body =>
    rintro l k t W ⟨⟨hgw, hbf⟩, hF, hB⟩
    have HGD := Lib.hid (show good over t.1 ↔ mixN t.next.1 + over < 18446744073709551616 from Iff.rfl)
    have HGW := Lib.hid (show good over t.1 ∨ gw over k t.next.1 from hgw.out)
    have HBF := Lib.hid (show belowF n over (k + 1) t.1 = if good over t.1 then (t.next.1, mixN t.next.1 % n) else belowF n over k t.next.1 from rfl)
    rw [hbf.out] at HBF
    have hxl := mixN_lt t.next.1
    dsimp only
    generalize t.next = u at *
    have HF := Lib.hid hF
    have HB := Lib.hid hB
    have HPC : Hid (∀ W' , (KeepsFrom w1.heap.size W W' ∧ W'.heap[B]? = W.heap[B]? ∧ (Hid (gw over k u.1) ∧ Hid (belowF n over k u.1 = b)) ∧ Five w.heap.size 0 0 n over W' ∧ Below w.heap.size w W') → True) := Lib.hid (fun _ _ => trivial)
    clear hgw hbf hF hB HPC
    obtain ⟨e0, e1, e2, e3, e4⟩ := HF.out
    have d0 := e0.cell
    have d1 := e1.cell
    have d2 := e2.cell
    have d3 := e3.cell
    have d4 := e4.cell
    have f0 := e0.frozen
    have f1 := e1.frozen
    have f2 := e2.frozen
    clear e0 e1 e2 e3 e4
    have hmx : Try.prog.follows .mixedOrders = true := by kernel_rfl
    have HZ := Lib.hid (show IntKind.i64.wrap (((mixN u.1 : Nat) : Int) % (n : Int)) = ((mixN u.1 % n : Nat) : Int) by
      have := Nat.mod_lt (mixN u.1) h1
      exact IntWalk.i64_in _ (by omega))
    by_cases ho0 : over = 0
    · have t1 : ((over : Int) == 0) = true := beq_iff_eq.2 (by omega)
      have hg2 : good over t.1 := HGD.out.2 (by omega)
      rw [if_pos hg2] at HBF
      gi_wp2
      gi_region_o
      all_goals (gi_wp2; exact fin_post HF.out HB.out HBF.out HZ.out)
    · have t1 : ((over : Int) == 0) = false := beq_eq_false_iff_ne.2 (by omega)
      obtain ⟨T, hT⟩ : ∃ T : Nat, T + over = 18446744073709551616 := ⟨18446744073709551616 - over, by omega⟩
      have hT2 : IntKind.u64.wrap (-(over : Int)) = (T : Int) := by rw [IntKind.wrap_u64]; omega
      by_cases hx : mixN u.1 < T
      · have hx' : ((mixN u.1 : Nat) : Int) < (T : Int) := by omega
        have hg2 : good over t.1 := HGD.out.2 (by omega)
        rw [if_pos hg2] at HBF
        clear hT
        gi_wp2
        gi_region_o
        all_goals (gi_wp2; exact fin_post HF.out HB.out HBF.out HZ.out)
      · have hx' : ¬ ((mixN u.1 : Nat) : Int) < (T : Int) := by omega
        have hg2 : ¬ good over t.1 := fun y => by have := HGD.out.1 y; omega
        rw [if_neg hg2] at HBF
        have HGW2 := Lib.hid (HGW.out.resolve_left hg2)
        clear hT
        gi_wp2
        exact ⟨KeepsFrom.refl _ _, rfl, ⟨HGW2, Lib.hid (Eq.symm HBF.out)⟩, HF.out, HB.out⟩
  case stop =>
    rintro D W hD ⟨hF, hB⟩ hK
    have hw1 : w.heap.size + 5 ≤ w1.heap.size := by have := b1.lt; omega
    gi_wp2
    refine ⟨by simp, .inl ⟨_, _, rfl, run_takeDeferred hK, ?_⟩⟩
    have hF2 : Five w.heap.size b.1 b.2 n over (W.putObj D (.deferred none)) := hF.keep (fun c hc => World.putObj_heap_other (by omega))
    exact ⟨_, results_cells3 Try.results84 _ rfl rfl rfl hF2.1 hF2.2.1 hF2.2.2.1 Try.underlying25 Try.underlying3 Try.underlying29, rfl, hB.trans (belowK_b (w := w) (Nat.le_refl _) W D _ _ (by omega) hK rfl rfl)⟩
end
section
/- Contracts of layer 6: Shuffle. -/
set_option linter.unusedVariables false
set_option linter.unusedSimpArgs false
open Go.RowKit
theorem below_any (s n : Nat) (hs : s < 18446744073709551616) (h1 : 1 ≤ n) (h2 : n ≤ 512) (w : World) :
    Calls Try.prog 84 #[.int .u64 s, .int .i64 n] w fun e w' => e = .returned (.tuple #[.int .u64 ((belowN n s).1 : Nat), .int .i64 ((belowN n s).2 : Nat), .int .i64 0]) ∧ Below w.heap.size w w' := callsIn_wide.1 (below_in s n hs h1 h2 w)
/-- A row of small numbers at the head of a block, free to be written. -/
def NatsAt (w : World) (g : Nat) (zs : List Nat) : Prop := ∀ j, j < zs.length → w.cell? ⟨g, j, none⟩ = some (.int .i64 (zs.getD j 0 : Nat)) ∧ w.frozen? ⟨g, j, none⟩ = false
theorem NatsAt.put {w : World} {g : Nat} {zs : List Nat} (h : NatsAt w g zs) (i x : Nat) (hi : i < zs.length) : NatsAt (w.setCell ⟨g, i, none⟩ (.int .i64 (x : Int))) g (zs.set i x) := by
  intro j hj
  rw [List.length_set] at hj
  obtain ⟨h1, h2⟩ := h j hj
  refine ⟨?_, by rw [World.frozen?_setCell]; exact h2⟩
  by_cases e : i = j
  · subst e
    rw [World.cell?_setCell_same' _ _ _ (by rw [h1]; rfl)]
    simp [List.getD, hj]
  · rw [World.cell?_setCell_other _ _ _ _ (by intro x; injection x; omega), h1]
    simp [List.getD, List.getElem?_set, e]
theorem NatsAt.drew {w : World} {g : Nat} {zs : List Nat} (h : NatsAt w g zs) : NatsAt w.drew g zs := h
theorem NatsAt.keep {w w' : World} {g : Nat} {zs : List Nat} (h : NatsAt w g zs) {B : Nat} (hb : Below B w w') (hg : g < B) : NatsAt w' g zs := fun j hj =>
  ⟨(hb.cell (p := ⟨g, j, none⟩) hg).trans (h j hj).1, (hb.frozen (p := ⟨g, j, none⟩) hg).trans (h j hj).2⟩
theorem make_nats {P : Program} (t e : TypeId) (i : TypeInfo) (ht : P.underlying t = some (.slice e)) (hi : P.info? e = some i) (hz : i.zero = some (.int .i64 0)) (hs : i.size = 1) (hb : i.bytes = 8) (n : Nat) (hn : n ≤ 1000000) (w : World) :
    (Instr.makeSlice t (.int .i64 (n : Int)) (.int .i64 (n : Int))).run P w = .ok (.slice (some ⟨w.heap.size, 0, none⟩) n n) (w.alloc (.cells (Array.replicate n (.int .i64 0)) e)) := by
  have hr := run_make (P := P) w t e i _ ht hi hz .i64 .i64 n n (by omega) (by omega) (by rw [hb]; omega) (by omega)
  simp only [Int.toNat_natCast, hs, Nat.mul_one] at hr
  rw [hr]
  have : madeCells (Value.int .i64 0).cells n = Array.replicate n (Value.int .i64 0) := by
    apply Array.toList_inj.1
    have := toList_madeCells_one (Value.int .i64 0) n
    simpa [Value.cells] using this
  rw [this]
theorem made_nats (w : World) (e : TypeId) (n : Nat) : NatsAt (w.alloc (.cells (Array.replicate n (.int .i64 0)) e)) w.heap.size (List.replicate n 0) := by
  intro j hj
  have hj' : j < n := by simpa using hj
  have hb := Box.new w e (Array.replicate n (.int .i64 0))
  exact ⟨by rw [hb.cell j]; simp [List.getD, hj'], hb.free j⟩
/-- Numbers in an order. -/
def swapN (l : List Nat) (i j : Nat) : List Nat := (l.set i (l.getD j 0)).set j (l.getD i 0)
theorem swapN_len (l : List Nat) (i j : Nat) : (swapN l i j).length = l.length := by simp [swapN]
def shufF : Nat → Nat → List Nat → Nat × List Nat
  | 0, s, l => (s, l)
  | i + 1, s, l => shufF i (belowN (i + 2) s).1 (swapN l (i + 1) (belowN (i + 2) s).2)
def shufN (n s : Nat) : Nat × List Nat := shufF (n - 1) s (List.range n)
theorem int_infoR : (Try.prog.info? 3).map (fun i => (i.zero, i.size, i.bytes)) = some (some (.int .i64 0), 1, 8) := by kernel_rfl
theorem shuffle_no (s n : Int) (h : ¬ (1 ≤ n ∧ n ≤ 512)) (w : World) : Calls Try.prog 77 #[.int .u64 s, .int .i64 n] w fun e w' => e = .returned (.tuple #[.int .u64 0, .slice none 0 0, .int .i64 2]) ∧ Below w.heap.size w w' := by
  have H := Lib.hid (bound_any n)
  rw [decide_eq_false h] at H
  go_enter Try.func77, Try.ntmps77
  go_wp2_with fail
  refine (H.out _).mono ?_
  rintro e w1 ⟨rfl, rfl⟩
  go_wp2_with fail
  go_ret3
  exact ⟨rfl, Below.refl _ _⟩
/-- The first numbers in their places. -/
def fillN (n k : Nat) : List Nat := (List.range n).map fun j => if j < k then j else 0
theorem fillN_len (n k : Nat) : (fillN n k).length = n := by simp [fillN]
theorem fillN_zero (n : Nat) : fillN n 0 = List.replicate n 0 := by
  apply List.ext_getElem
  · simp [fillN]
  · intro i h1 h2; simp [fillN]
theorem fillN_full (n : Nat) : fillN n n = List.range n := by
  apply List.ext_getElem
  · simp [fillN]
  · intro i h1 h2
    have : i < n := by simpa [fillN] using h1
    simp [fillN, this]
theorem fillN_succ (n k : Nat) (h : k < n) : (fillN n k).set k k = fillN n (k + 1) := by
  apply List.ext_getElem
  · simp [fillN]
  · intro i h1 h2
    rw [List.getElem_set]
    by_cases e : k = i
    · subst e; simp [fillN]
    · rw [if_neg e]
      simp only [fillN, List.getElem_map, List.getElem_range]
      by_cases hi : i < k
      · rw [if_pos hi, if_pos (by omega)]
      · rw [if_neg hi, if_neg (by omega)]
theorem shufF_step (i s : Nat) (l : List Nat) (h : 1 ≤ i) : shufF i s l = shufF (i - 1) (belowN (i + 1) s).1 (swapN l i (belowN (i + 1) s).2) := by
  obtain ⟨p, rfl⟩ : ∃ p, i = p + 1 := ⟨i - 1, by omega⟩
  rfl
theorem NatsAt.swap {w : World} {g : Nat} {zs : List Nat} (h : NatsAt w g zs) (i j : Nat) (hi : i < zs.length) (hj : j < zs.length) :
    NatsAt (((w.setCell ⟨g, i, none⟩ (.int .i64 (zs.getD j 0 : Nat))).setCell ⟨g, j, none⟩ (.int .i64 (zs.getD i 0 : Nat))).drew) g (swapN zs i j) :=
  (h.put i _ hi).put j _ (by simpa using hj)
/-- What Shuffle hands back. -/
def ShufOut (n s : Nat) (w : World) (e : Ending) (w' : World) : Prop :=
  ∃ g, e = .returned (.tuple #[.int .u64 ((shufN n s).1 : Nat), .slice (some ⟨g, 0, none⟩) n n, .int .i64 0]) ∧ NatsAt w' g (shufN n s).2 ∧ (shufN n s).2.length = n ∧ w.heap.size ≤ g ∧ g < w'.heap.size ∧ Below w.heap.size w w'
set_option maxRecDepth 100000 in
set_option maxHeartbeats 2000000 in
theorem shuffle_yes (s n : Nat) (hs : s < 18446744073709551616) (h1 : 1 ≤ n) (h2 : n ≤ 512) (w : World) : Calls Try.prog 77 #[.int .u64 s, .int .i64 n] w (ShufOut n s w) := by
  have H := Lib.hid (bound_any n)
  rw [decide_eq_true (p := 1 ≤ (n : Int) ∧ (n : Int) ≤ 512) (by omega)] at H
  obtain ⟨i0, hi, hz0, hz1, hz2⟩ := info_parts int_infoR
  have hmk := make_nats (P := Try.prog) 62 3 i0 Try.underlying62 hi hz0 hz1 hz2 n (by omega) w
  have HNA := Lib.hid (made_nats w 3 n)
  have HB := Lib.hid ((Below.refl w.heap.size w).alloc (Nat.le_refl _) (.cells (Array.replicate n (.int .i64 0)) 3))
  have HL := Lib.hid (Box.new w 3 (Array.replicate n (.int .i64 0))).lt
  go_enter Try.func77, Try.ntmps77
  go_wp2_with fail
  refine (H.out _).mono ?_
  rintro e w1 ⟨rfl, rfl⟩
  go_wp2_with fail
  generalize w.alloc (.cells (Array.replicate n (.int .i64 0)) 3) = W0 at *
  clear hmk
  have HSH := Lib.hid (show shufF (n - 1) s (List.range n) = shufN n s from rfl)
  generalize hRR : shufN n s = R at HSH
  have HRR := Lib.hid hRR
  clear hRR
  go_loopw [18] (fun i wr => ∃ k : Nat, k ≤ n ∧ i = .int .i64 k ∧ NatsAt wr w.heap.size (fillN n k) ∧ Below w.heap.size w wr ∧ Hid (w.heap.size < wr.heap.size)) (fun i _ => n - (intOf i).toNat)
  case atStart => exact ⟨0, by omega, rfl, by rw [fillN_zero]; exact HNA.out, HB.out, HL⟩
  case round =>
    obtain ⟨k, hk, rfl, hna, hbel, hlt⟩ := hrel
    have HN := Lib.hid hna
    have HBe := Lib.hid hbel
    clear hna hbel
    by_cases hkn : k < n
    · have hkn' : (k : Int) < n := by omega
      obtain ⟨c, f⟩ := HN.out k (by rw [fillN_len]; omega)
      have P1 := Lib.hid (HN.out.put k k (by rw [fillN_len]; omega))
      have P2 := Lib.hid (HBe.out.setCell (p := ⟨w.heap.size, k, none⟩) (Nat.le_refl _) (.int .i64 (k : Int)))
      go_wp2
      go_roundw
      case rel => exact ⟨k + 1, by omega, by go_num, by rw [← fillN_succ n k hkn]; exact P1.out, P2.out, by have := hlt.out; exact Lib.hid (by simpa [World.setCell] using this)⟩
      case measure => simp [intOf] <;> omega
    · obtain rfl : k = n := by omega
      rw [fillN_full] at HN
      have HLT := hlt
      clear hlt
      have hn1 : IntKind.i64.wrap ((k : Int) - 1) = (k : Int) - 1 := IntWalk.i64_in _ (by omega)
      go_wp2
      clear hn1
      go_loopw [0, 28] (fun st i wr2 => ∃ (d t : Nat) (zs : List Nat), d ≤ k - 1 ∧ i = .int .i64 d ∧ st = .int .u64 t ∧ t < 18446744073709551616 ∧ zs.length = k ∧ Hid (NatsAt wr2 w.heap.size zs) ∧ Hid (Below w.heap.size w wr2) ∧ Hid (w.heap.size < wr2.heap.size) ∧ Hid (shufF (k - 1 - d) t zs = R)) (fun _ i _ => k - (intOf i).toNat)
      case atStart => exact ⟨0, s, List.range k, by omega, rfl, rfl, hs, by simp, HN, HBe, HLT, HSH⟩
      case round =>
        obtain ⟨d, t, zs, hd, rfl, rfl, ht, hzl, hna, hbel, hlt, hsh⟩ := hrel
        have HZL := Lib.hid hzl
        clear hzl
        by_cases hdk : d < k - 1
        · have hdk' : (d : Int) < (k : Int) - 1 := by omega
          obtain ⟨i, hi⟩ : ∃ i, i = k - 1 - d := ⟨_, rfl⟩
          have e1 : (k : Int) - 1 - (d : Int) = (i : Int) := by omega
          have hi1 : 1 ≤ i := by omega
          have hik : i < k := by omega
          have hik' : (i : Int) < (k : Int) := by omega
          rw [← hi, shufF_step i t zs hi1] at hsh
          have HI := Lib.hid hi
          clear hi
          go_wp2_with fail
          rw [show (i : Int) + 1 = ((i + 1 : Nat) : Int) from rfl]
          refine (below_any t (i + 1) ht (by omega) (by omega) _).mono ?_
          rintro e w2 ⟨rfl, hb⟩
          have hbl := belowN_lt (i + 1) t (by omega) ht
          have HNA := Lib.hid (hna.out.keep hb hlt.out)
          have HB2 := Lib.hid (hbel.out.trans (hb.mono (Nat.le_of_lt hlt.out)))
          have HL2 := Lib.hid (Nat.lt_of_lt_of_le hlt.out hb.size)
          clear hb hna hbel hlt
          generalize belowN (i + 1) t = bb at *
          obtain ⟨t', j⟩ := bb
          simp only at hbl
          obtain ⟨ht', hj⟩ := hbl
          have hjk : j < k := by omega
          have hjk' : (j : Int) < (k : Int) := by omega
          obtain ⟨c1, f1⟩ := HNA.out i (by rw [HZL.out]; exact hik)
          obtain ⟨c2, f2⟩ := HNA.out j (by rw [HZL.out]; exact hjk)
          have P1 := Lib.hid (HNA.out.swap i j (by rw [HZL.out]; exact hik) (by rw [HZL.out]; exact hjk))
          have P2 := Lib.hid (((HB2.out.setCell (p := ⟨w.heap.size, i, none⟩) (Nat.le_refl _) (.int .i64 (zs.getD j 0 : Nat))).setCell (p := ⟨w.heap.size, j, none⟩) (Nat.le_refl _) (.int .i64 (zs.getD i 0 : Nat))).drew)
          have P3 := Lib.hid (show (swapN zs i j).length = k by rw [swapN_len, HZL.out])
          have P4 := Lib.hid (show shufF (k - 1 - (d + 1)) t' (swapN zs i j) = R by rw [show k - 1 - (d + 1) = i - 1 by have := HI.out; omega]; exact hsh.out)
          have P5 := Lib.hid (show w.heap.size < (((w2.setCell ⟨w.heap.size, i, none⟩ (.int .i64 (zs.getD j 0 : Nat))).setCell ⟨w.heap.size, j, none⟩ (.int .i64 (zs.getD i 0 : Nat))).drew).heap.size by have := HL2.out; simpa [World.setCell] using this)
          clear hsh e1 HNA
          generalize swapN zs i j = zs' at *
          generalize zs.getD i 0 = x at *
          generalize zs.getD j 0 = y at *
          by_cases hij : i = j
          · subst hij
            have hxy : y = x := by
              rw [c1] at c2
              injection c2 with c2
              injection c2 with _ c2
              omega
            subst hxy
            clear c2 f2
            go_wp2_with fail
            go_region
            go_wp2_with fail
            go_roundw
            case rel => exact ⟨d + 1, t', zs', by omega, by go_num, rfl, ht', P3.out, P1, P2, P5, P4⟩
            case measure => simp [intOf] <;> omega
          · have hji : j ≠ i := fun e => hij e.symm
            go_wp2_with fail
            go_region
            go_wp2_with fail
            go_roundw
            case rel => exact ⟨d + 1, t', zs', by omega, by go_num, rfl, ht', P3.out, P1, P2, P5, P4⟩
            case measure => simp [intOf] <;> omega
        · have hdk' : ¬ (d : Int) < (k : Int) - 1 := by omega
          rw [show k - 1 - d = 0 by omega] at hsh
          have HR := Lib.hid (show R = (t, zs) from hsh.out.symm)
          go_wp2_with fail
          go_ret3
          unfold ShufOut
          rw [HRR.out, HR.out]
          exact ⟨_, rfl, hna.out, HZL.out, Nat.le_refl _, hlt.out, hbel.out⟩
end
section
/- Contract of layer 6's reference: Below. -/
set_option linter.unusedVariables false
set_option linter.unusedSimpArgs false
open Go.RowKit
theorem step_wrap (s : Nat) : IntKind.u64.wrap ((s : Int) + 11400714819323198485) = ((nextS s : Nat) : Int) := by
  rw [IntKind.wrap_u64, nextS]; rfl
end
section
/- Contract of layer 6's reference: Shuffle. -/
set_option linter.unusedVariables false
set_option linter.unusedSimpArgs false
open Go.RowKit
def natV (x : Nat) : Value := .int .i64 (x : Int)
/-- A row of the call's own, of one number or more, as a row that may be written. -/
theorem own_nats {w : World} {base e n : Nat} {v : Value} {zs : List Nat} (h : w.ownsRow base e 1 v n (zs.map natV)) (hn : 0 < n) : ∃ g c, v = .slice (some ⟨g, 0, none⟩) n c ∧ n ≤ c ∧ base ≤ g ∧ g < w.heap.size ∧ NatsAt w g zs ∧ zs.length = n := by
  have hl : zs.length = n := by have := h.1; simpa using this
  rcases h.2 with ⟨_, h0⟩ | ⟨g, cap, cur, rfl, hb, hh, hcap, hm, hs, hx⟩
  · omega
  · have hbx : Box w g e cur := hh
    refine ⟨g, cap, rfl, hcap, hb, hbx.lt, fun j hj => ?_, hl⟩
    rw [hbx.cell j, hbx.free j]
    refine ⟨?_, rfl⟩
    have e1 : (cur.toList.take (n * 1))[j]? = (zs.map natV)[j]? := by rw [hx]
    rw [Nat.mul_one, List.getElem?_take, if_pos (by omega)] at e1
    simp only [List.getElem?_map, List.getElem?_eq_getElem hj, Option.map_some] at e1
    rw [← Array.getElem?_toList, e1]
    simp [List.getD, hj, natV]
theorem range_snoc (k : Nat) : (List.range (k + 1)).map natV = (List.range k).map natV ++ [natV k] := by simp [List.range_succ]
theorem NatsAt.far {w : World} {g : Nat} {zs : List Nat} (h : NatsAt w g zs) {p : Addr} (hp : g ≠ p.block) (u : Value) : NatsAt (w.setCell p u) g zs := fun j hj =>
  ⟨by rw [World.cell?_of_block (a := ⟨g, j, none⟩) (heap_setCell_other w p g u hp)]; exact (h j hj).1, by rw [World.frozen?_setCell]; exact (h j hj).2⟩
/-- What the reference's Shuffle hands back. -/
def RShufOut (n s : Nat) (w : World) (e : Ending) (w' : World) : Prop :=
  ∃ g c, e = .returned (.agg #[.int .u64 ((shufN n s).1 : Nat), .slice (some ⟨g, 0, none⟩) n c]) ∧ n ≤ c ∧ NatsAt w' g (shufN n s).2 ∧ (shufN n s).2.length = n ∧ w.heap.size ≤ g ∧ g < w'.heap.size ∧ Below w.heap.size w w'
end
end Go.Proofs.Ytmfhimeffmpgaaa
