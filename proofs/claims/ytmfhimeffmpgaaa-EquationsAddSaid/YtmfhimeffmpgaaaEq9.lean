/- Law 12: few, alive. -/
import Derived.Test.YtmfhimeffmpgaaaEq7
import Derived.Test.YtmfhimeffmpgaaaEq8
namespace Go.Proofs.Ytmfhimeffmpgaaa
set_option linter.unusedVariables false
set_option linter.unusedSimpArgs false
open Go.RowKit
set_option maxRecDepth 100000
def cutX (s : ByteArray) : ByteArray := s.extract 0 (min s.size 66)
theorem cutX_size (s : ByteArray) : (cutX s).size ≤ 66 := by simp [cutX, ByteArray.size_extract]; omega
theorem cutX_min (s : ByteArray) (m : Nat) (hm : (m : Int) = min (s.size : Int) 66) : s.extract 0 m = cutX s := by
  unfold cutX
  congr 1
  omega
def cutP (x : SymR) : SymR := (x.1, cutX x.2)
def fewS (xs : List SymR) (k : Nat) : List SymR := (xs.take k).map cutP
theorem fewS_succ (xs : List SymR) (k : Nat) (h : k < xs.length) : fewS xs (k + 1) = fewS xs k ++ [((xs.getD k default).1, cutX (xs.getD k default).2)] := by
  unfold fewS
  rw [take_snocD xs k h, List.map_append]; rfl
theorem fewS_len (xs : List SymR) (k : Nat) : (fewS xs k).length = min k xs.length := by simp [fewS]
theorem fewS_all (xs : List SymR) (k : Nat) (h : xs.length = k) (h2 : k ≤ 66) : fewS xs k = fewS xs 66 := by
  unfold fewS
  rw [List.take_of_length_le (by omega), List.take_of_length_le (by omega)]
theorem fewS_id (xs : List SymR) (h : ∀ j, (xs.getD j default).1 < 18446744073709551616) (k : Nat) : ∀ j, ((fewS xs k).getD j default).1 < 18446744073709551616 := fun j => by
  unfold fewS
  by_cases hj : j < (xs.take k).length
  · have e : ((xs.take k).map cutP).getD j default = cutP ((xs.take k).getD j default) := by simp only [List.getD, List.getElem?_map, List.getElem?_eq_getElem hj]; rfl
    rw [e]
    have e2 : (xs.take k).getD j default = xs.getD j default := by
      rw [List.length_take] at hj
      simp only [List.getD, List.getElem?_take_of_lt (show j < k by omega)]
    rw [e2]; exact h j
  · have e : ((xs.take k).map cutP).getD j default = default := by
      simp only [List.getD]
      rw [List.getElem?_eq_none (by rw [List.length_map]; omega)]; rfl
    rw [e]; decide
abbrev fewW (k s c : Int) (A : Option Addr) (l d : Nat) (w : World) : World :=
  (w.alloc (.cells #[.int .i64 k, .int .i64 s, .int .i64 c, .slice A l d] 24)).alloc (.cells #[.int .i64 0, .int .i64 0, .int .i64 0, .slice none 0 0] 24)
theorem fewW_two (k s c : Int) (A : Option Addr) (l d : Nat) (w : World) :
    Box (fewW k s c A l d w) w.heap.size 24 #[.int .i64 k, .int .i64 s, .int .i64 c, .slice A l d] ∧ Box (fewW k s c A l d w) (w.heap.size + 1) 24 #[.int .i64 0, .int .i64 0, .int .i64 0, .slice none 0 0] ∧ Below w.heap.size w (fewW k s c A l d w) ∧ (fewW k s c A l d w).heap.size = w.heap.size + 2 := by
  refine ⟨(Box.new w _ _).alloc _, ?_, ((Below.refl _ _).alloc (Nat.le_refl _) _).alloc (by simp) _, by simp⟩
  have q := Box.new (w.alloc (.cells #[.int .i64 k, .int .i64 s, .int .i64 c, .slice A l d] 24)) 24 #[.int .i64 0, .int .i64 0, .int .i64 0, .slice none 0 0]
  simpa only [World.size_alloc] using q
theorem few_close {w wr : World} {k s c : Int} {zs : List SymR} {v : Value} {n : Nat} {A7 : Option Addr} {c7 : Nat} {e : TypeId} {u u0 u1 u2 u3 : Value} (hb : Below w.heap.size w wr) (hv : v = .slice A7 n c7) (ho : wr.ownsRow (w.heap.size + 2) e 2 v n (zs.flatMap encS)) (hl : zs.length = n) :
    StoreOne k s c zs w (.returned (.agg #[.int .i64 k, .int .i64 s, .int .i64 c, .slice A7 n c7])) (((((wr.setCell ⟨w.heap.size, 3, none⟩ u).setCell ⟨w.heap.size + 1, 0, none⟩ u0).setCell ⟨w.heap.size + 1, 1, none⟩ u1).setCell ⟨w.heap.size + 1, 2, none⟩ u2).setCell ⟨w.heap.size + 1, 3, none⟩ u3) := by
  subst hv
  subst hl
  obtain ⟨h1, h2, h3, h4⟩ := own_cap ho
  refine ⟨A7, c7, rfl, Recs.far4 (Recs.farB (own_recs encS_len ho (by omega)) (fun b off hb _ => ?_) _ _) (fun b off hb _ => ?_) _ _ _ _, h1, h2, h3, fun b off hb => ?_, below_set4 (hb.setCell (p := ⟨w.heap.size, 3, none⟩) (Nat.le_refl _) _) (by omega) _ _ _ _⟩
  · have h5 : w.heap.size + 2 ≤ b := h4 _ hb
    omega
  · have h5 : w.heap.size + 2 ≤ b := h4 _ hb
    omega
  · have h5 : w.heap.size + 2 ≤ b := h4 _ hb
    omega
theorem cutX_id (s : ByteArray) (h : s.size ≤ 66) : s = cutX s := by
  have := cutX_min s s.size (by omega)
  rw [← this, ByteArray.extract_zero_size]
theorem cut_world {wr W2 : World} {B : Nat} (hb : Below B W2 wr) (hB : B ≤ wr.heap.size) (a : Int) (t : ByteArray) :
    Below wr.heap.size wr ((wr.alloc (.cells #[.int .u64 a, .string t] 27)).alloc (.cells #[.int .u64 a, .string t] 27)) ∧
    (∀ j u, ([Value.int .u64 a, Value.string t])[j]? = some u → ((wr.alloc (.cells #[.int .u64 a, .string t] 27)).alloc (.cells #[.int .u64 a, .string t] 27)).cell? ((⟨wr.heap.size + 1, 0, none⟩ : Addr).add j) = some u) ∧
    B ≤ ((wr.alloc (.cells #[.int .u64 a, .string t] 27)).alloc (.cells #[.int .u64 a, .string t] 27)).heap.size := by
  have e1 : (wr.alloc (.cells #[.int .u64 a, .string t] 27)).heap.size = wr.heap.size + 1 := by simp
  refine ⟨((Below.refl _ _).alloc (Nat.le_refl _) _).alloc (by rw [e1]; omega) _, ?_, ?_⟩
  · have := World.news_of_block (Box.new (wr.alloc (.cells #[.int .u64 a, .string t] 27)) 27 #[.int .u64 a, .string t])
    rw [e1] at this
    exact this
  · rw [World.size_alloc, e1]; omega
set_option maxHeartbeats 4000000 in
theorem few12_short (k s c : Int) (ad : Addr) (l d : Nat) (xs : List SymR) (w : World) (hx : Syms w (some ad) l xs) (hk : l ≤ 66) (hl : l ≤ d) (hd : d ≤ maxLen) (hd0 : ¬ d = 0) :
    Calls Try.prog 6 #[.agg #[.int .i64 k, .int .i64 s, .int .i64 c, .slice (some ad) l d]] w (StoreOne k s c (fewS xs l) w) := by
  obtain ⟨i0, hi, hz0, hz1, hz2⟩ := info_parts sym12_info
  have HI := Lib.hid hi
  have HZ0 := Lib.hid hz0
  have HZ1 := Lib.hid hz1
  have HZ2 := Lib.hid hz2
  obtain ⟨Q0, Q1, b1, sz⟩ := fewW_two k s c (some ad) l d w
  have HQ0 := Lib.hid Q0
  have HQ1 := Lib.hid Q1
  have HX := Lib.hid (hx.below b1)
  have HXl := Lib.hid hx.1
  have HB0 := Lib.hid b1
  have SZ := Lib.hid sz
  have HOW := Lib.hid (World.ownsRow_nil (fewW k s c (some ad) l d w) (w.heap.size + 2) 27 2)
  unfold maxLen at hd
  have hkk1 : l ≤ l := by omega
  have hkk2 : l ≤ 66 := by omega
  have hkk3 : l ≤ d := by omega
  have mkk : (l : Int) ≤ 66 := by omega
  obtain ⟨r0, r1, r2, r3, -, -, -, -⟩ := Q0.four
  clear hi hz0 hz1 hz2 hx b1 sz Q0 Q1
  go_enter Try.func6, Try.ntmps6
  go_wp2_with fail
  clear r0 r1 r2 r3
  go_loopw [3, 14] (fun v t wr => ∃ i : Nat, i ≤ l ∧ t = .int .i64 i ∧ wr.ownsRow (w.heap.size + 2) 27 2 v i ((fewS xs i).flatMap encS) ∧ Below (w.heap.size + 2) (fewW k s c (some ad) l d w) wr) (fun _ t _ => l - (intOf t).toNat)
  case atStart => exact ⟨0, Nat.zero_le _, rfl, HOW.out, Below.refl _ _⟩
  case round =>
    obtain ⟨i, hi, rfl, hown, hbel⟩ := hrel
    have HO := Lib.hid hown
    have HB := Lib.hid hbel
    have SZr := Lib.hid (show w.heap.size + 2 ≤ wr.heap.size from by have := hbel.size; rw [SZ.out] at this; exact this)
    clear hown hbel HOW
    by_cases hlt : i < l
    · have hlt' : (i : Int) < (l : Int) := Int.ofNat_lt.2 hlt
      obtain ⟨b, off, hA, hb, x0, x1⟩ := Syms.two HX.out i (by omega)
      obtain rfl := Option.some.inj hA
      rw [SZ.out] at hb
      have x0 := (HB.out.cell (p := ⟨b, off + i * 2, none⟩) hb).trans x0
      have x1 := (HB.out.cell (p := ⟨b, off + i * 2 + 1, none⟩) hb).trans x1
      have HS := Lib.hid (fewS_succ xs i (by rw [HXl.out]; omega))
      generalize xs.getD i default = p at *
      obtain ⟨p0, p1⟩ := p
      dsimp only at x0 x1 HS
      by_cases hm : p1.size ≤ 66
      · have hm1 : (p1.size : Int) ≤ 66 := by omega
        have HE := Lib.hid (cutX_id p1 hm)
        have G := Lib.hid (Box.new wr 27 #[.int .u64 (p0 : Nat), .string p1])
        have HW := Lib.hid (cut_world HB.out SZr.out (p0 : Nat) p1)
        have XO := Lib.hid (own_keep HO.out HW.out.1)
        have XB := Lib.hid (HB.out.trans (HW.out.1.mono SZr.out))
        have N2 := Lib.hid (fun g hg => (HO.out.lt g hg).1)
        obtain ⟨g0, g1, f0, f1⟩ := G.out.two
        clear G
        go_wp2_with (at_builtin; refine wpList_append_own _ rfl _ _ 22 rfl (w.heap.size + 2) 27 i0 (.agg #[.int .u64 0, .string ⟨#[]⟩]) 2 24 Try.underlying22 HI.out HZ0.out HZ1.out HZ2.out rfl (by decide) _ _ _ rfl XO.out ⟨wr.heap.size + 1, 0, none⟩ 1 1 [.int .u64 (p0 : Nat), .string p1] rfl rfl HW.out.2.1 (by simp [Value.oneCell']) (by simp [maxLen]; omega) (by omega) HW.out.2.2 ?_; intro v' w1 hown' hgrow _; have HC := Lib.hid (XB.out.grown hgrow (Nat.le_trans SZr.out HW.out.1.size) N2.out); have HO2 := Lib.hid hown'; clear hown' hgrow)
        go_roundw
        case rel =>
          refine ⟨i + 1, hlt, by go_num, ?_, HC.out⟩
          rw [HS.out, flat_snoc, ← HE.out]
          exact HO2.out
        case measure => simp [intOf] <;> omega
      · have hm1 : (66 : Int) < p1.size := by omega
        have hm2 : 66 ≤ p1.size := by omega
        have HE := Lib.hid (cutX_min p1 66 (by omega))
        have G := Lib.hid (Box.new wr 27 #[.int .u64 (p0 : Nat), .string p1])
        have HW := Lib.hid (cut_world HB.out SZr.out (p0 : Nat) (p1.extract 0 66))
        have XO := Lib.hid (own_keep HO.out HW.out.1)
        have XB := Lib.hid (HB.out.trans (HW.out.1.mono SZr.out))
        have N2 := Lib.hid (fun g hg => (HO.out.lt g hg).1)
        obtain ⟨g0, g1, f0, f1⟩ := G.out.two
        clear G
        go_wp2_with (at_builtin; refine wpList_append_own _ rfl _ _ 22 rfl (w.heap.size + 2) 27 i0 (.agg #[.int .u64 0, .string ⟨#[]⟩]) 2 24 Try.underlying22 HI.out HZ0.out HZ1.out HZ2.out rfl (by decide) _ _ _ rfl XO.out ⟨wr.heap.size + 1, 0, none⟩ 1 1 [.int .u64 (p0 : Nat), .string (p1.extract 0 66)] rfl rfl HW.out.2.1 (by simp [Value.oneCell']) (by simp [maxLen]; omega) (by omega) HW.out.2.2 ?_; intro v' w1 hown' hgrow _; have HC := Lib.hid (XB.out.grown hgrow (Nat.le_trans SZr.out HW.out.1.size) N2.out); have HO2 := Lib.hid hown'; clear hown' hgrow)
        go_roundw
        case rel =>
          refine ⟨i + 1, hlt, by go_num, ?_, HC.out⟩
          rw [HS.out, flat_snoc, ← HE.out]
          exact HO2.out
        case measure => simp [intOf] <;> omega
    · obtain rfl : l = i := by omega
      have hlt' : ¬ (l : Int) < (l : Int) := Int.lt_irrefl _
      have HCL := Lib.hid (show (fewS xs l).length = l by rw [fewS_len, HXl.out]; omega)
      have BB := Lib.hid (HB0.out.trans (HB.out.mono (by omega)))
      have Q0 := Lib.hid (HQ0.out.below HB.out (by omega))
      have Q1 := Lib.hid (HQ1.out.below HB.out (by omega))
      obtain ⟨r0, r1, r2, r3, e0, e1, e2, e3⟩ := Q0.out.four
      obtain ⟨s0, s1, s2, s3, f0, f1, f2, f3⟩ := Q1.out.four
      obtain ⟨A7, c7, hv, -⟩ := own_form HO.out
      subst hv
      go_wp2_with fail
      refine close_one Try.results6 rfl rfl (Q1.out.far (p := ⟨w.heap.size, 3, none⟩) (by simp) (.slice A7 l c7)).put4 Try.underlying24 rfl (by kernel_rfl) ?_
      exact few_close BB.out rfl HO.out HCL.out
set_option maxHeartbeats 4000000 in
theorem few12_long (k s c : Int) (ad : Addr) (l d : Nat) (xs : List SymR) (w : World) (hx : Syms w (some ad) l xs) (hk : 66 < l) (hl : l ≤ d) (hd : d ≤ maxLen) (hd0 : ¬ d = 0) :
    Calls Try.prog 6 #[.agg #[.int .i64 k, .int .i64 s, .int .i64 c, .slice (some ad) l d]] w (StoreOne k s c (fewS xs 66) w) := by
  obtain ⟨i0, hi, hz0, hz1, hz2⟩ := info_parts sym12_info
  have HI := Lib.hid hi
  have HZ0 := Lib.hid hz0
  have HZ1 := Lib.hid hz1
  have HZ2 := Lib.hid hz2
  obtain ⟨Q0, Q1, b1, sz⟩ := fewW_two k s c (some ad) l d w
  have HQ0 := Lib.hid Q0
  have HQ1 := Lib.hid Q1
  have HX := Lib.hid (hx.below b1)
  have HXl := Lib.hid hx.1
  have HB0 := Lib.hid b1
  have SZ := Lib.hid sz
  have HOW := Lib.hid (World.ownsRow_nil (fewW k s c (some ad) l d w) (w.heap.size + 2) 27 2)
  unfold maxLen at hd
  have hkk1 : 66 ≤ l := by omega
  have hkk2 : 66 ≤ 66 := by omega
  have hkk3 : 66 ≤ d := by omega
  have mkk : (66 : Int) < (l : Int) := by omega
  obtain ⟨r0, r1, r2, r3, -, -, -, -⟩ := Q0.four
  clear hi hz0 hz1 hz2 hx b1 sz Q0 Q1
  go_enter Try.func6, Try.ntmps6
  go_wp2_with fail
  clear r0 r1 r2 r3
  go_loopw [3, 14] (fun v t wr => ∃ i : Nat, i ≤ 66 ∧ t = .int .i64 i ∧ wr.ownsRow (w.heap.size + 2) 27 2 v i ((fewS xs i).flatMap encS) ∧ Below (w.heap.size + 2) (fewW k s c (some ad) l d w) wr) (fun _ t _ => 66 - (intOf t).toNat)
  case atStart => exact ⟨0, Nat.zero_le _, rfl, HOW.out, Below.refl _ _⟩
  case round =>
    obtain ⟨i, hi, rfl, hown, hbel⟩ := hrel
    have HO := Lib.hid hown
    have HB := Lib.hid hbel
    have SZr := Lib.hid (show w.heap.size + 2 ≤ wr.heap.size from by have := hbel.size; rw [SZ.out] at this; exact this)
    clear hown hbel HOW
    by_cases hlt : i < 66
    · have hlt' : (i : Int) < ((66 : Nat) : Int) := Int.ofNat_lt.2 hlt
      obtain ⟨b, off, hA, hb, x0, x1⟩ := Syms.two HX.out i (by omega)
      obtain rfl := Option.some.inj hA
      rw [SZ.out] at hb
      have x0 := (HB.out.cell (p := ⟨b, off + i * 2, none⟩) hb).trans x0
      have x1 := (HB.out.cell (p := ⟨b, off + i * 2 + 1, none⟩) hb).trans x1
      have HS := Lib.hid (fewS_succ xs i (by rw [HXl.out]; omega))
      generalize xs.getD i default = p at *
      obtain ⟨p0, p1⟩ := p
      dsimp only at x0 x1 HS
      by_cases hm : p1.size ≤ 66
      · have hm1 : (p1.size : Int) ≤ 66 := by omega
        have HE := Lib.hid (cutX_id p1 hm)
        have G := Lib.hid (Box.new wr 27 #[.int .u64 (p0 : Nat), .string p1])
        have HW := Lib.hid (cut_world HB.out SZr.out (p0 : Nat) p1)
        have XO := Lib.hid (own_keep HO.out HW.out.1)
        have XB := Lib.hid (HB.out.trans (HW.out.1.mono SZr.out))
        have N2 := Lib.hid (fun g hg => (HO.out.lt g hg).1)
        obtain ⟨g0, g1, f0, f1⟩ := G.out.two
        clear G
        go_wp2_with (at_builtin; refine wpList_append_own _ rfl _ _ 22 rfl (w.heap.size + 2) 27 i0 (.agg #[.int .u64 0, .string ⟨#[]⟩]) 2 24 Try.underlying22 HI.out HZ0.out HZ1.out HZ2.out rfl (by decide) _ _ _ rfl XO.out ⟨wr.heap.size + 1, 0, none⟩ 1 1 [.int .u64 (p0 : Nat), .string p1] rfl rfl HW.out.2.1 (by simp [Value.oneCell']) (by simp [maxLen]; omega) (by omega) HW.out.2.2 ?_; intro v' w1 hown' hgrow _; have HC := Lib.hid (XB.out.grown hgrow (Nat.le_trans SZr.out HW.out.1.size) N2.out); have HO2 := Lib.hid hown'; clear hown' hgrow)
        go_roundw
        case rel =>
          refine ⟨i + 1, hlt, by go_num, ?_, HC.out⟩
          rw [HS.out, flat_snoc, ← HE.out]
          exact HO2.out
        case measure => simp [intOf] <;> omega
      · have hm1 : (66 : Int) < p1.size := by omega
        have hm2 : 66 ≤ p1.size := by omega
        have HE := Lib.hid (cutX_min p1 66 (by omega))
        have G := Lib.hid (Box.new wr 27 #[.int .u64 (p0 : Nat), .string p1])
        have HW := Lib.hid (cut_world HB.out SZr.out (p0 : Nat) (p1.extract 0 66))
        have XO := Lib.hid (own_keep HO.out HW.out.1)
        have XB := Lib.hid (HB.out.trans (HW.out.1.mono SZr.out))
        have N2 := Lib.hid (fun g hg => (HO.out.lt g hg).1)
        obtain ⟨g0, g1, f0, f1⟩ := G.out.two
        clear G
        go_wp2_with (at_builtin; refine wpList_append_own _ rfl _ _ 22 rfl (w.heap.size + 2) 27 i0 (.agg #[.int .u64 0, .string ⟨#[]⟩]) 2 24 Try.underlying22 HI.out HZ0.out HZ1.out HZ2.out rfl (by decide) _ _ _ rfl XO.out ⟨wr.heap.size + 1, 0, none⟩ 1 1 [.int .u64 (p0 : Nat), .string (p1.extract 0 66)] rfl rfl HW.out.2.1 (by simp [Value.oneCell']) (by simp [maxLen]; omega) (by omega) HW.out.2.2 ?_; intro v' w1 hown' hgrow _; have HC := Lib.hid (XB.out.grown hgrow (Nat.le_trans SZr.out HW.out.1.size) N2.out); have HO2 := Lib.hid hown'; clear hown' hgrow)
        go_roundw
        case rel =>
          refine ⟨i + 1, hlt, by go_num, ?_, HC.out⟩
          rw [HS.out, flat_snoc, ← HE.out]
          exact HO2.out
        case measure => simp [intOf] <;> omega
    · obtain rfl : i = 66 := by omega
      have hlt' : ¬ ((66 : Nat) : Int) < ((66 : Nat) : Int) := Int.lt_irrefl _
      have HCL := Lib.hid (show (fewS xs 66).length = 66 by rw [fewS_len, HXl.out]; omega)
      have BB := Lib.hid (HB0.out.trans (HB.out.mono (by omega)))
      have Q0 := Lib.hid (HQ0.out.below HB.out (by omega))
      have Q1 := Lib.hid (HQ1.out.below HB.out (by omega))
      obtain ⟨r0, r1, r2, r3, e0, e1, e2, e3⟩ := Q0.out.four
      obtain ⟨s0, s1, s2, s3, f0, f1, f2, f3⟩ := Q1.out.four
      obtain ⟨A7, c7, hv, -⟩ := own_form HO.out
      subst hv
      go_wp2_with fail
      refine close_one Try.results6 rfl rfl (Q1.out.far (p := ⟨w.heap.size, 3, none⟩) (by simp) (.slice A7 66 c7)).put4 Try.underlying24 rfl (by kernel_rfl) ?_
      exact few_close BB.out rfl HO.out HCL.out
set_option maxHeartbeats 1000000 in
theorem few12_zero (k s c : Int) (A : Option Addr) (w : World) :
    Calls Try.prog 6 #[.agg #[.int .i64 k, .int .i64 s, .int .i64 c, .slice A 0 0]] w (StoreOne k s c [] w) := by
  obtain ⟨Q0, Q1, b1, sz⟩ := fewW_two k s c A 0 0 w
  have HQ0 := Lib.hid Q0
  have HQ1 := Lib.hid Q1
  have HB0 := Lib.hid b1
  obtain ⟨r0, r1, r2, r3, -, -, -, -⟩ := Q0.four
  clear b1 sz Q0 Q1
  cases A with
  | none =>
    go_enter Try.func6, Try.ntmps6
    go_wp2_with fail
    clear r0 r1 r2 r3
    go_loopw [3, 14] (fun v t wr => v = .slice none 0 0 ∧ t = .int .i64 0 ∧ wr = fewW k s c (none) 0 0 w) (fun _ t _ => 0)
    case atStart => exact ⟨rfl, rfl, rfl⟩
    case round =>
      obtain ⟨rfl, rfl, hw⟩ := hrel
      rw [← hw] at HQ0 HQ1 HB0
      clear hw
      obtain ⟨r0, r1, r2, r3, e0, e1, e2, e3⟩ := HQ0.out.four
      obtain ⟨s0, s1, s2, s3, f0, f1, f2, f3⟩ := HQ1.out.four
      go_wp2_with fail
      refine close_one Try.results6 rfl rfl (HQ1.out.far (p := ⟨w.heap.size, 3, none⟩) (by simp) (.slice none 0 0)).put4 Try.underlying24 rfl (by kernel_rfl) ?_
      exact few_close (zs := []) (v := .slice none 0 0) (n := 0) (A7 := none) (c7 := 0) (e := 27) HB0.out rfl (World.ownsRow_nil _ _ _ _) rfl
  | some ad =>
    go_enter Try.func6, Try.ntmps6
    go_wp2_with fail
    clear r0 r1 r2 r3
    go_loopw [3, 14] (fun v t wr => v = .slice none 0 0 ∧ t = .int .i64 0 ∧ wr = fewW k s c (some ad) 0 0 w) (fun _ t _ => 0)
    case atStart => exact ⟨rfl, rfl, rfl⟩
    case round =>
      obtain ⟨rfl, rfl, hw⟩ := hrel
      rw [← hw] at HQ0 HQ1 HB0
      clear hw
      obtain ⟨r0, r1, r2, r3, e0, e1, e2, e3⟩ := HQ0.out.four
      obtain ⟨s0, s1, s2, s3, f0, f1, f2, f3⟩ := HQ1.out.four
      go_wp2_with fail
      refine close_one Try.results6 rfl rfl (HQ1.out.far (p := ⟨w.heap.size, 3, none⟩) (by simp) (.slice none 0 0)).put4 Try.underlying24 rfl (by kernel_rfl) ?_
      exact few_close (zs := []) (v := .slice none 0 0) (n := 0) (A7 := none) (c7 := 0) (e := 27) HB0.out rfl (World.ownsRow_nil _ _ _ _) rfl
theorem few12_any (k s c : Int) (A : Option Addr) (l d : Nat) (xs : List SymR) (w : World) (hx : Syms w A l xs) (hl : l ≤ d) (hd : d ≤ maxLen) (hn : A = none → d = 0) :
    Calls Try.prog 6 #[.agg #[.int .i64 k, .int .i64 s, .int .i64 c, .slice A l d]] w (StoreOne k s c (fewS xs 66) w) := by
  cases A with
  | none =>
    obtain rfl := hn rfl
    obtain ⟨rfl, rfl⟩ := Recs.none_ hx
    exact few12_zero k s c none w
  | some ad =>
    by_cases hd0 : d = 0
    · subst hd0
      obtain rfl : l = 0 := by omega
      obtain rfl : xs = [] := List.length_eq_zero_iff.1 hx.1
      exact few12_zero k s c (some ad) w
    by_cases h : l ≤ 66
    · rw [← fewS_all xs l hx.1 h]
      exact few12_short k s c ad l d xs w hx h hl hd hd0
    · exact few12_long k s c ad l d xs w hx (by omega) hl hd hd0
theorem alive12_any (w : World) : Calls Try.prog 13 #[] w fun e w' => e = .returned (.bool true) ∧ Below w.heap.size w w' := by
  have HA := Lib.hid (eadd_yes 2 1 3 none 0 0 [] (4, ⟨#[97]⟩) w (Recs.nil _ _) (Nat.le_refl _) (Nat.zero_le _) (fun _ => rfl) (by decide))
  go_enter Try.func13, Try.ntmps13
  go_wp2_with fail
  refine HA.out.mono ?_
  rintro e w1 ⟨A, d, rfl, -, -, -, -, hb⟩
  have Q := Lib.hid (Box.new w1 24 #[.int .i64 2, .int .i64 1, .int .i64 3, .slice A 1 d])
  have HB := Lib.hid (hb.alloc hb.size (.cells #[.int .i64 2, .int .i64 1, .int .i64 3, .slice A 1 d] 24))
  clear hb
  obtain ⟨r0, r1, r2, r3, -, -, -, -⟩ := Q.out.four
  go_wp2_with fail
  go_ret
  exact ⟨rfl, HB.out⟩
end Go.Proofs.Ytmfhimeffmpgaaa
