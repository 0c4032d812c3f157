/- Layer 13: the reference's With, All, Why. -/
import Derived.Test.YtehlebeeoeghmaaShD
import Derived.Laws.OwnMore
namespace Go.Proofs.Ytehlebeeoeghmaa
set_option linter.unusedVariables false
set_option linter.unusedSimpArgs false
open Go.RowKit Go.Lib
set_option maxRecDepth 100000
abbrev smA (x : SymR) : Array Value := #[.int .u64 (x.1 : Int), .string x.2]
def withS (l : List SymR) (d : SymR) : List SymR := l.filter (fun y => decide (y.1 < d.1)) ++ d :: l.filter (fun y => decide (d.1 < y.1))
def fl1 (xs : List SymR) (d : SymR) (i : Nat) : List SymR := (xs.take i).filter fun y => decide (y.1 < d.1)
def fl2 (xs : List SymR) (d : SymR) (i : Nat) : List SymR := (xs.filter (fun y => decide (y.1 < d.1)) ++ [d]) ++ (xs.take i).filter fun y => decide (d.1 < y.1)
theorem fl1_yes (xs : List SymR) (d : SymR) (i : Nat) (hi : i < xs.length) (h : (xs.getD i default).1 < d.1) : fl1 xs d (i + 1) = fl1 xs d i ++ [xs.getD i default] := by
  unfold fl1; rw [take_snocD xs i hi, List.filter_append, List.filter_cons_of_pos (by simpa using h)]; rfl
theorem fl1_no (xs : List SymR) (d : SymR) (i : Nat) (hi : i < xs.length) (h : ¬ (xs.getD i default).1 < d.1) : fl1 xs d (i + 1) = fl1 xs d i := by
  unfold fl1; rw [take_snocD xs i hi, List.filter_append, List.filter_cons_of_neg (by simpa using h)]; exact List.append_nil _
theorem fl2_yes (xs : List SymR) (d : SymR) (i : Nat) (hi : i < xs.length) (h : d.1 < (xs.getD i default).1) : fl2 xs d (i + 1) = fl2 xs d i ++ [xs.getD i default] := by
  unfold fl2; rw [take_snocD xs i hi, List.filter_append, List.filter_cons_of_pos (by simpa using h)]; simp
theorem fl2_no (xs : List SymR) (d : SymR) (i : Nat) (hi : i < xs.length) (h : ¬ d.1 < (xs.getD i default).1) : fl2 xs d (i + 1) = fl2 xs d i := by
  unfold fl2; rw [take_snocD xs i hi, List.filter_append, List.filter_cons_of_neg (by simpa using h)]; simp
theorem fl1_len (xs : List SymR) (d : SymR) (i : Nat) : (fl1 xs d i).length ≤ i := by
  have h1 := List.length_filter_le (fun y => decide (y.1 < d.1)) (xs.take i)
  have h2 : (xs.take i).length ≤ i := by rw [List.length_take]; omega
  unfold fl1; omega
theorem fl2_len (xs : List SymR) (d : SymR) (i : Nat) : (fl2 xs d i).length ≤ xs.length + 1 + i := by
  have h1 := List.length_filter_le (fun y => decide (d.1 < y.1)) (xs.take i)
  have h2 : (xs.take i).length ≤ i := by rw [List.length_take]; omega
  have h3 := List.length_filter_le (fun y => decide (y.1 < d.1)) xs
  unfold fl2; rw [List.length_append, List.length_append, List.length_cons, List.length_nil]; omega
theorem fl1_all (xs : List SymR) (d : SymR) (l : Nat) (hl : xs.length = l) : fl1 xs d l ++ [d] = fl2 xs d 0 := by
  unfold fl1 fl2; rw [List.take_of_length_le (by omega)]; simp
theorem fl2_all (xs : List SymR) (d : SymR) (l : Nat) (hl : xs.length = l) : fl2 xs d l = withS xs d := by
  unfold fl2 withS; rw [List.take_of_length_le (by omega)]; simp
theorem withS_len (xs : List SymR) (d : SymR) : (withS xs d).length ≤ xs.length + 1 := by
  have h : ∀ l : List SymR, (l.filter fun y => decide (y.1 < d.1)).length + (l.filter fun y => decide (d.1 < y.1)).length ≤ l.length := by
    intro l
    induction l with
    | nil => simp
    | cons a l ih =>
      rw [List.filter_cons, List.filter_cons]
      by_cases h1 : a.1 < d.1
      · have h2 : ¬ d.1 < a.1 := by omega
        simp [h1, h2]; omega
      · by_cases h2 : d.1 < a.1
        · simp [h1, h2]; omega
        · simp [h1, h2]; omega
  have := h xs
  unfold withS
  rw [List.length_append, List.length_cons]
  omega
theorem sym13_info : (Try.prog.info? 27).map (fun i => (i.zero, i.size, i.bytes)) = some (some (.agg #[.int .u64 0, .string ⟨#[]⟩]), 2, 24) := by kernel_rfl
theorem own_emptyS (W : World) (base e : Nat) (hb : base ≤ W.heap.size) : (W.alloc (.cells #[] e)).ownsRow base e 2 (.slice (some ⟨W.heap.size, 0, none⟩) 0 0) 0 [] :=
  ⟨by simp, .inr ⟨W.heap.size, 0, #[], rfl, hb, heap_alloc_new W _, Nat.le_refl _, Nat.zero_le _, by simp, by simp⟩⟩
theorem own_okS {w : World} {base e size n c : Nat} {A : Option Addr} {xs : List Value} (h : w.ownsRow base e size (.slice A n c) n xs) : SliceOk A n c := by
  rcases h.2 with ⟨hv, h0⟩ | ⟨g, cap, cur, hv, h1, h2, h3, h4, h5⟩
  · injection hv with ha hn hc
    subst ha hn hc
    exact ⟨Nat.le_refl _, Nat.zero_le _, fun _ => ⟨rfl, rfl⟩⟩
  · injection hv with ha hn hc
    subst ha hc
    exact ⟨h3, h4, fun e => by cases e⟩
/-- Symbols of the call's own are returned. -/
def SymsOwn (ys : List SymR) (w : World) (e : Ending) (w' : World) : Prop := ∃ A c, e = .returned (.slice A ys.length c) ∧ w'.ownsRow w.heap.size 27 2 (.slice A ys.length c) ys.length (ys.flatMap encS) ∧ Below w.heap.size w w'
theorem own_low2 {w : World} {base base' size n : Nat} {e : TypeId} {v : Value} {xs : List Value} (h : w.ownsRow base e size v n xs) (hb : base' ≤ base) : w.ownsRow base' e size v n xs := by
  refine ⟨h.1, ?_⟩
  rcases h.2 with h | ⟨g, cap, cur, hv, hg, h⟩
  · exact .inl h
  · exact .inr ⟨g, cap, cur, hv, Nat.le_trans hb hg, h⟩
theorem own_formS {w : World} {base size n : Nat} {e : TypeId} {v : Value} {xs : List Value} (h : w.ownsRow base e size v n xs) : ∃ A c, v = .slice A n c := by
  rcases h.2 with ⟨hv, h0⟩ | ⟨g, cap, cur, hv, h1⟩
  · exact ⟨none, 0, by rw [hv, h0]⟩
  · exact ⟨_, _, hv⟩
theorem own_keepS {w w' : World} {base size n : Nat} {e : TypeId} {v : Value} {xs : List Value} (h : w.ownsRow base e size v n xs) (hb : Below w.heap.size w w') : w'.ownsRow base e size v n xs := by
  refine ⟨h.1, ?_⟩
  rcases h.2 with h | ⟨g, cap, cur, hv, hg, hh, r⟩
  · exact .inl h
  · have hlt : g < w.heap.size := by
      rcases Nat.lt_or_ge g w.heap.size with q | q
      · exact q
      · rw [Array.getElem?_eq_none q] at hh; cases hh
    exact .inr ⟨g, cap, cur, hv, hg, (hb.block g hlt).trans hh, r⟩
set_option maxHeartbeats 8000000 in
theorem refWith13_any (A : Option Addr) (l cp : Nat) (xs : List SymR) (d : SymR) (w : World) (hH : Syms w A l xs) (hlm : l ≤ 100000) :
    Calls Try.prog 38 #[.slice A l cp, .agg (smA d)] w (SymsOwn (withS xs d) w) := by
  obtain ⟨i0, hi, hz0, hz1, hz2⟩ := info_parts sym13_info
  have HI := Lib.hid hi
  have HZ0 := Lib.hid hz0
  have HZ1 := Lib.hid hz1
  have HZ2 := Lib.hid hz2
  have hb1 : Below w.heap.size w (w.alloc (.cells (smA d) 27)) := (Below.refl _ _).alloc (Nat.le_refl _) _
  obtain ⟨w1, hw1⟩ : ∃ w1, w1 = w.alloc (.cells (smA d) 27) := ⟨_, rfl⟩
  have GD := Lib.hid (show Box w1 w.heap.size 27 (smA d) from hw1 ▸ Box.new w 27 (smA d))
  have hsz : w1.heap.size = w.heap.size + 1 := by rw [hw1, World.size_alloc]
  have HH := Lib.hid (show Syms w1 A l xs from Recs.below hH (hw1 ▸ hb1))
  have HB1 := Lib.hid (show Below w.heap.size w w1 from hw1 ▸ hb1)
  have HLen := Lib.hid hH.1
  have HF1 := Lib.hid (fl1_all xs d l hH.1)
  have HF2 := Lib.hid (fl2_all xs d l hH.1)
  have S1O := Lib.hid (show (w1.alloc (.cells #[] 27)).ownsRow w1.heap.size 27 2 (.slice (some ⟨w.heap.size + 1, 0, none⟩) 0 0) 0 [] by rw [← hsz]; exact own_emptyS w1 w1.heap.size 27 (Nat.le_refl _))
  have S1B := Lib.hid (show Below w1.heap.size w1 (w1.alloc (.cells #[] 27)) from (Below.refl _ _).alloc (Nat.le_refl _) _)
  have hxl := hH.1
  clear hH hi hz0 hz1 hz2 hb1
  go_enter Try.func38, Try.ntmps38
  have HW1 := Lib.hid hw1
  clear hw1
  go_wp2_with fail
  rw [← HW1.out]
  clear HW1
  go_loopw [5, 13] (fun v t wr => ∃ i : Nat, i ≤ l ∧ t = .int .i64 i ∧ wr.ownsRow w1.heap.size 27 2 v (fl1 xs d i).length ((fl1 xs d i).flatMap encS) ∧ Below w1.heap.size w1 wr) (fun _ t _ => l - (Go.RowKit.intOf t).toNat)
  case atStart => exact ⟨0, Nat.zero_le _, rfl, S1O.out, S1B.out⟩
  case round =>
    clear S1O S1B
    obtain ⟨i, hi, rfl, hown, hbel⟩ := hrel
    have HO := Lib.hid hown
    have HC := Lib.hid hbel
    clear hown hbel
    by_cases hlt : i < l
    · have hlt' : (i : Int) < (l : Int) := Int.ofNat_lt.2 hlt
      have hi5 : (i : Int) < 1000000 := by omega
      obtain ⟨b, off, rfl, hlb, d0, d1⟩ := HH.out.two i hlt
      have d0 := (HC.out.cell (p := ⟨b, off + i * 2, none⟩) hlb).trans d0
      have d1 := (HC.out.cell (p := ⟨b, off + i * 2 + 1, none⟩) hlb).trans d1
      obtain ⟨w5, rfl⟩ : ∃ w5 : World, w5 = wr := ⟨_, rfl⟩
      have HSy := Lib.hid (fl1_yes xs d i (by rw [HLen.out]; exact hlt))
      have HSn := Lib.hid (fl1_no xs d i (by rw [HLen.out]; exact hlt))
      have hsl := fl1_len xs d i
      have GX := Lib.hid (Box.new w5 27 (smA (xs.getD i default)))
      have c1 := Lib.hid (show Below w5.heap.size w5 (w5.alloc (.cells (smA (xs.getD i default)) 27)) from (Below.refl _ _).alloc (Nat.le_refl _) _)
      have GD1 := Lib.hid (GD.out.keep (HC.out.trans (c1.out.mono HC.out.size)))
      have YO := Lib.hid (own_keepS HO.out c1.out)
      have YB := Lib.hid (HC.out.trans (c1.out.mono HC.out.size))
      generalize xs.getD i default = x at *
      obtain ⟨x0, x1⟩ := x
      obtain ⟨g0, g1, -, -⟩ := GX.out.two
      obtain ⟨k0, k1, -, -⟩ := GD1.out.two
      dsimp only at g0 g1 k0 k1 d0 d1 HSy HSn
      by_cases hbf : x0 < d.1
      · have hbf2 : (((x0 : Nat) : Int)) < ((d.1 : Nat) : Int) := by omega
        have HS := Lib.hid (HSy.out hbf)
        have c3 := Lib.hid (show Below (w5.alloc (.cells (smA (x0, x1)) 27)).heap.size (w5.alloc (.cells (smA (x0, x1)) 27)) ((w5.alloc (.cells (smA (x0, x1)) 27)).alloc (.cells (smA (x0, x1)) 27)) from (Below.refl _ _).alloc (Nat.le_refl _) _)
        have ZO := Lib.hid (own_keepS YO.out c3.out)
        have ZB := Lib.hid (YB.out.trans (c3.out.mono YB.out.size))
        have N2 := Lib.hid (fun g hg => (ZO.out.lt g hg).1)
        have NW0 := World.news_of_block (Box.new (w5.alloc (.cells (smA (x0, x1)) 27)) 27 (smA (x0, x1)))
        simp only [World.size_alloc] at NW0
        have NW := Lib.hid NW0
        clear NW0
        clear c3 YO HSy HSn hbf
        go_wp2_with (at_builtin; go_loud (refine wpList_append_own _ rfl _ _ 43 rfl w1.heap.size 27 i0 _ 2 24 Try.underlying43 HI.out HZ0.out HZ1.out HZ2.out rfl (by decide) _ _ _ rfl ZO.out ⟨w5.heap.size + 1, 0, none⟩ 1 1 (encS (x0, x1)) rfl rfl NW.out (encS_one (x0, x1)) (by simp [maxLen]; omega) (by omega) ZB.out.size ?_); intro v' w2 hown' hgrow _; have HC2 := Lib.hid (ZB.out.grown hgrow ZB.out.size N2.out); have HO2 := Lib.hid hown'; clear hown' hgrow)
        go_roundw
        case rel =>
          refine ⟨i + 1, hlt, by go_num, ?_, HC2.out⟩
          rw [HS.out, List.length_append, List.flatMap_append]
          simpa using HO2.out
        case measure => simp [Go.RowKit.intOf] <;> omega
      · have hbf2 : ¬ (((x0 : Nat) : Int)) < ((d.1 : Nat) : Int) := by omega
        have HS := Lib.hid (HSn.out hbf)
        clear HSy HSn hbf
        go_wp2_with fail
        go_roundw
        case rel => exact ⟨i + 1, hlt, by go_num, by rw [HS.out]; exact YO.out, YB.out⟩
        case measure => simp [Go.RowKit.intOf] <;> omega
    · obtain rfl : l = i := by omega
      have hlt' : ¬ (l : Int) < (l : Int) := Int.lt_irrefl _
      have GD1 := Lib.hid (GD.out.keep HC.out)
      obtain ⟨k0, k1, -, -⟩ := GD1.out.two
      have c3 := Lib.hid (show Below wr.heap.size wr (wr.alloc (.cells (smA d) 27)) from (Below.refl _ _).alloc (Nat.le_refl _) _)
      have ZO := Lib.hid (own_keepS HO.out c3.out)
      have ZB := Lib.hid (HC.out.trans (c3.out.mono HC.out.size))
      have N2 := Lib.hid (fun g hg => (ZO.out.lt g hg).1)
      have NW := Lib.hid (World.news_of_block (Box.new wr 27 (smA d)))
      have hsl := fl1_len xs d l
      clear c3 HO GD1
      go_wp2_with (at_builtin; go_loud (refine wpList_append_own _ rfl _ _ 43 rfl w1.heap.size 27 i0 _ 2 24 Try.underlying43 HI.out HZ0.out HZ1.out HZ2.out rfl (by decide) _ _ _ rfl ZO.out ⟨wr.heap.size, 0, none⟩ 1 1 (encS d) rfl rfl NW.out (encS_one d) (by simp [maxLen]; omega) (by omega) ZB.out.size ?_); intro v' w2 hown' hgrow _; have HC2 := Lib.hid (ZB.out.grown hgrow ZB.out.size N2.out); have HO2 := Lib.hid hown'; clear hown' hgrow)
      have S1O := Lib.hid (show w2.ownsRow w1.heap.size 27 2 v' (fl2 xs d 0).length ((fl2 xs d 0).flatMap encS) by rw [← HF1.out, List.length_append, List.flatMap_append]; simpa using HO2.out)
      have S1B := Lib.hid HC2.out
      clear ZO ZB N2 NW HO2 HC2 k0 k1 HC HF1 hsl
      obtain ⟨wo, rfl⟩ : ∃ wo, wo = w2 := ⟨_, rfl⟩
      go_loopw [5, 33] (fun v t wr => ∃ i : Nat, i ≤ l ∧ t = .int .i64 i ∧ wr.ownsRow w1.heap.size 27 2 v (fl2 xs d i).length ((fl2 xs d i).flatMap encS) ∧ Below w1.heap.size w1 wr) (fun _ t _ => l - (Go.RowKit.intOf t).toNat)
      case atStart => exact ⟨0, Nat.zero_le _, rfl, S1O.out, S1B.out⟩
      case round =>
        clear S1O S1B
        obtain ⟨i, hi, rfl, hown, hbel⟩ := hrel
        have HO := Lib.hid hown
        have HC := Lib.hid hbel
        clear hown hbel
        by_cases hlt : i < l
        · have hlt' : (i : Int) < (l : Int) := Int.ofNat_lt.2 hlt
          have hi5 : (i : Int) < 1000000 := by omega
          obtain ⟨b, off, rfl, hlb, d0, d1⟩ := HH.out.two i hlt
          have d0 := (HC.out.cell (p := ⟨b, off + i * 2, none⟩) hlb).trans d0
          have d1 := (HC.out.cell (p := ⟨b, off + i * 2 + 1, none⟩) hlb).trans d1
          obtain ⟨w5, rfl⟩ : ∃ w5 : World, w5 = wr := ⟨_, rfl⟩
          have HSy := Lib.hid (fl2_yes xs d i (by rw [HLen.out]; exact hlt))
          have HSn := Lib.hid (fl2_no xs d i (by rw [HLen.out]; exact hlt))
          have hsl := fl2_len xs d i
          have GX := Lib.hid (Box.new w5 27 (smA (xs.getD i default)))
          have c1 := Lib.hid (show Below w5.heap.size w5 (w5.alloc (.cells (smA (xs.getD i default)) 27)) from (Below.refl _ _).alloc (Nat.le_refl _) _)
          have GD1 := Lib.hid (GD.out.keep (HC.out.trans (c1.out.mono HC.out.size)))
          have YO := Lib.hid (own_keepS HO.out c1.out)
          have YB := Lib.hid (HC.out.trans (c1.out.mono HC.out.size))
          generalize xs.getD i default = x at *
          obtain ⟨x0, x1⟩ := x
          obtain ⟨g0, g1, -, -⟩ := GX.out.two
          obtain ⟨k0, k1, -, -⟩ := GD1.out.two
          dsimp only at g0 g1 k0 k1 d0 d1 HSy HSn
          by_cases hbf : d.1 < x0
          · have hbf2 : (((d.1 : Nat) : Int)) < ((x0 : Nat) : Int) := by omega
            have HS := Lib.hid (HSy.out hbf)
            have c3 := Lib.hid (show Below (w5.alloc (.cells (smA (x0, x1)) 27)).heap.size (w5.alloc (.cells (smA (x0, x1)) 27)) ((w5.alloc (.cells (smA (x0, x1)) 27)).alloc (.cells (smA (x0, x1)) 27)) from (Below.refl _ _).alloc (Nat.le_refl _) _)
            have ZO := Lib.hid (own_keepS YO.out c3.out)
            have ZB := Lib.hid (YB.out.trans (c3.out.mono YB.out.size))
            have N2 := Lib.hid (fun g hg => (ZO.out.lt g hg).1)
            have NW0 := World.news_of_block (Box.new (w5.alloc (.cells (smA (x0, x1)) 27)) 27 (smA (x0, x1)))
            simp only [World.size_alloc] at NW0
            have NW := Lib.hid NW0
            clear NW0
            clear c3 YO HSy HSn hbf
            go_wp2_with (at_builtin; go_loud (refine wpList_append_own _ rfl _ _ 43 rfl w1.heap.size 27 i0 _ 2 24 Try.underlying43 HI.out HZ0.out HZ1.out HZ2.out rfl (by decide) _ _ _ rfl ZO.out ⟨w5.heap.size + 1, 0, none⟩ 1 1 (encS (x0, x1)) rfl rfl NW.out (encS_one (x0, x1)) (by simp [maxLen]; omega) (by omega) ZB.out.size ?_); intro v' w2 hown' hgrow _; have HC2 := Lib.hid (ZB.out.grown hgrow ZB.out.size N2.out); have HO2 := Lib.hid hown'; clear hown' hgrow)
            go_roundw
            case rel =>
              refine ⟨i + 1, hlt, by go_num, ?_, HC2.out⟩
              rw [HS.out, List.length_append, List.flatMap_append]
              simpa using HO2.out
            case measure => simp [Go.RowKit.intOf] <;> omega
          · have hbf2 : ¬ (((d.1 : Nat) : Int)) < ((x0 : Nat) : Int) := by omega
            have HS := Lib.hid (HSn.out hbf)
            clear HSy HSn hbf
            go_wp2_with fail
            go_roundw
            case rel => exact ⟨i + 1, hlt, by go_num, by rw [HS.out]; exact YO.out, YB.out⟩
            case measure => simp [Go.RowKit.intOf] <;> omega
        · obtain rfl : l = i := by omega
          have hlt' : ¬ (l : Int) < (l : Int) := Int.lt_irrefl _
          have hR := own_low2 (HO.out) (show w.heap.size ≤ w1.heap.size by omega)
          rw [HF2.out] at hR
          obtain ⟨A9, c9, rfl⟩ := own_formS hR
          have HR := Lib.hid hR
          have HBz := Lib.hid (HB1.out.trans (HC.out.mono HB1.out.size))
          clear hR
          go_wp2_with fail
          go_ret
          exact ⟨A9, c9, rfl, HR.out, HBz.out⟩
end Go.Proofs.Ytehlebeeoeghmaa
