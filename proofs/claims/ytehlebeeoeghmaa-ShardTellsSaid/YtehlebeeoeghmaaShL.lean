/- Law 13: few. -/
import Derived.Test.YtehlebeeoeghmaaShK
namespace Go.Proofs.Ytehlebeeoeghmaa
set_option linter.unusedVariables false
set_option linter.unusedSimpArgs false
open Go.RowKit Go.Lib
set_option maxRecDepth 100000
def cutX (s : ByteArray) : ByteArray := s.extract 0 (min s.size 66)
theorem cutX_size (s : ByteArray) : (cutX s).size ≤ 66 := by simp [cutX, ByteArray.size_extract]; omega
theorem cutX_min (s : ByteArray) (m : Nat) (hm : (m : Int) = min (s.size : Int) 66) : s.extract 0 m = cutX s := by
  unfold cutX
  congr 1
  omega
def cutP (x : SymR) : SymR := (x.1, cutX x.2)
def fewS (xs : List SymR) (k : Nat) : List SymR := (xs.take k).map cutP
theorem fewS_succ (xs : List SymR) (k : Nat) (h : k < xs.length) : fewS xs (k + 1) = fewS xs k ++ [((xs.getD k default).1, cutX (xs.getD k default).2)] := by
  unfold fewS
  rw [take_snocD xs k h, List.map_append]; rfl
theorem fewS_len (xs : List SymR) (k : Nat) : (fewS xs k).length = min k xs.length := by simp [fewS]
theorem fewS_all (xs : List SymR) (k : Nat) (h : xs.length = k) (h2 : k ≤ 66) : fewS xs k = fewS xs 66 := by
  unfold fewS
  rw [List.take_of_length_le (by omega), List.take_of_length_le (by omega)]
theorem fewS_id (xs : List SymR) (h : ∀ j, (xs.getD j default).1 < 18446744073709551616) (k : Nat) : ∀ j, ((fewS xs k).getD j default).1 < 18446744073709551616 := fun j => by
  unfold fewS
  by_cases hj : j < (xs.take k).length
  · have e : ((xs.take k).map cutP).getD j default = cutP ((xs.take k).getD j default) := by simp only [List.getD, List.getElem?_map, List.getElem?_eq_getElem hj]; rfl
    rw [e]
    have e2 : (xs.take k).getD j default = xs.getD j default := by
      rw [List.length_take] at hj
      simp only [List.getD, List.getElem?_take_of_lt (show j < k by omega)]
    rw [e2]; exact h j
  · have e : ((xs.take k).map cutP).getD j default = default := by
      simp only [List.getD]
      rw [List.getElem?_eq_none (by rw [List.length_map]; omega)]; rfl
    rw [e]; decide
theorem cutX_id (s : ByteArray) (h : s.size ≤ 66) : s = cutX s := by
  have := cutX_min s s.size (by omega)
  rw [← this, ByteArray.extract_zero_size]
theorem cut_world {wr W2 : World} {B : Nat} (hb : Below B W2 wr) (hB : B ≤ wr.heap.size) (a : Int) (t : ByteArray) :
    Below wr.heap.size wr ((wr.alloc (.cells #[.int .u64 a, .string t] 27)).alloc (.cells #[.int .u64 a, .string t] 27)) ∧
    (∀ j u, ([Value.int .u64 a, Value.string t])[j]? = some u → ((wr.alloc (.cells #[.int .u64 a, .string t] 27)).alloc (.cells #[.int .u64 a, .string t] 27)).cell? ((⟨wr.heap.size + 1, 0, none⟩ : Addr).add j) = some u) ∧
    B ≤ ((wr.alloc (.cells #[.int .u64 a, .string t] 27)).alloc (.cells #[.int .u64 a, .string t] 27)).heap.size := by
  have e1 : (wr.alloc (.cells #[.int .u64 a, .string t] 27)).heap.size = wr.heap.size + 1 := by simp
  refine ⟨((Below.refl _ _).alloc (Nat.le_refl _) _).alloc (by rw [e1]; omega) _, ?_, ?_⟩
  · have := World.news_of_block (Box.new (wr.alloc (.cells #[.int .u64 a, .string t] 27)) 27 #[.int .u64 a, .string t])
    rw [e1] at this
    exact this
  · rw [World.size_alloc, e1]; omega
def few1 (l : List SymR) : List SymR := fewS l 66
def fewTo (ls : List (List SymR)) (i : Nat) : List (List SymR) := (ls.take i).map few1
theorem fewTo_succ (ls : List (List SymR)) (i : Nat) (h : i < ls.length) : fewTo ls (i + 1) = fewTo ls i ++ [few1 (ls.getD i [])] := by
  unfold fewTo
  have e : ls.take (i + 1) = ls.take i ++ [ls.getD i []] := take_snocD ls i h
  rw [e, List.map_append]; rfl
theorem fewTo_len (ls : List (List SymR)) (i : Nat) (h : i ≤ ls.length) : (fewTo ls i).length = i := by simp [fewTo]; omega
def fewSh (s : ShR) : ShR := (s.1, s.2.1, fewTo s.2.2 18)
def IdsOk (ls : List (List SymR)) : Prop := ∀ j i, ((ls.getD j []).getD i default).1 < 18446744073709551616
theorem fewSh_ok {ls : List (List SymR)} (h : IdsOk ls) : OkSh (fewTo ls 18) := by
  have hg : ∀ j, (fewTo ls 18).getD j [] = few1 (ls.getD j []) ∨ (fewTo ls 18).getD j [] = [] := fun j => by
    unfold fewTo
    by_cases hj : j < (ls.take 18).length
    · left
      simp only [List.getD_eq_getElem?_getD, List.getElem?_map, List.getElem?_eq_getElem hj]
      rw [List.length_take] at hj
      simp [List.getElem_take, show j < ls.length by omega]
    · right
      simp only [List.getD_eq_getElem?_getD]
      rw [List.getElem?_eq_none (by rw [List.length_map]; omega)]
      rfl
  refine ⟨by unfold fewTo; rw [List.length_map, List.length_take]; omega, fun j => ?_, fun j i => ?_⟩
  · rcases hg j with e | e
    · rw [e]; unfold few1; rw [fewS_len]; omega
    · rw [e]; exact Nat.zero_le _
  · rcases hg j with e | e
    · rw [e]; exact fewS_id _ (fun i => h j i) 66 i
    · rw [e]; show (default : SymR).1 < _; decide
set_option maxHeartbeats 16000000 in
theorem few13_any (q z : Int) (A : Option Addr) (c : Nat) (ls : List (List SymR)) (w : World) (hs : SliceOk A ls.length c) (hl : Lsts w A ls.length ls) (w0 : World) :
    Calls Try.prog 5 #[.agg #[.int .i64 q, .int .i64 z, .slice A ls.length c]] w fun e w' => ∃ A' c', e = .returned (.agg #[.int .i64 q, .int .i64 z, .slice A' (fewTo ls 18).length c']) ∧ SpS w0 w.heap.size w' (.slice A' (fewTo ls 18).length c') (fewTo ls 18) ∧ Below w.heap.size w w' := by
  obtain ⟨i0, hi, hz0, hz1, hz2⟩ := info_parts sym13_info
  have HI := Lib.hid hi
  have HZ0 := Lib.hid hz0
  have HZ1 := Lib.hid hz1
  have HZ2 := Lib.hid hz2
  obtain ⟨i1, hy, hy0, hy1, hy2⟩ := info_parts syl_info
  have HY := Lib.hid hy
  have HY0 := Lib.hid hy0
  have HY1 := Lib.hid hy1
  have HY2 := Lib.hid hy2
  have HL := Lib.hid hl
  have HK := Lib.hid hs
  have b1 : Below w.heap.size w (w.alloc (.cells #[.int .i64 q, .int .i64 z, .slice A ls.length c] 24)) := (Below.refl w.heap.size w).alloc (Nat.le_refl _) _
  have b2 := b1.alloc b1.size (.cells #[.int .i64 0, .int .i64 0, .slice none 0 0] 24)
  obtain ⟨w1, hw1⟩ : ∃ y, y = (w.alloc (.cells #[.int .i64 q, .int .i64 z, .slice A ls.length c] 24)).alloc (.cells #[.int .i64 0, .int .i64 0, .slice none 0 0] 24) := ⟨_, rfl⟩
  have g0 : Box w1 w.heap.size 24 #[.int .i64 q, .int .i64 z, .slice A ls.length c] := by rw [hw1]; exact (Box.new w _ _).alloc _
  have g2 : Box w1 (w.heap.size + 1) 24 #[.int .i64 0, .int .i64 0, .slice none 0 0] := by
    rw [hw1]
    have := Box.new (w.alloc (.cells #[.int .i64 q, .int .i64 z, .slice A ls.length c] 24)) 24 #[.int .i64 0, .int .i64 0, .slice none 0 0]
    simpa only [World.size_alloc] using this
  have HSz := Lib.hid (show w1.heap.size = w.heap.size + 2 by rw [hw1]; simp only [World.size_alloc])
  rw [← hw1] at b2
  have HB := Lib.hid b2
  have G0 := Lib.hid g0
  have G2 := Lib.hid g2
  have HSw := Lib.hid (Nat.le_refl w1.heap.size)
  have S0 := Lib.hid (SpS.nil w0 w1.heap.size w1)
  obtain ⟨mm, hmm⟩ : ∃ k, k = min ls.length 18 := ⟨_, rfl⟩
  have hm2 : min (ls.length : Int) 18 = (mm : Int) := by omega
  have hm0 : (0 : Int) ≤ (mm : Int) := by omega
  have hmc : (mm : Int) ≤ (c : Int) := by have := hs.1; omega
  have hm18 : mm ≤ 18 := by omega
  have hml : mm ≤ ls.length := by omega
  have HEnd := Lib.hid (show fewTo ls mm = fewTo ls 18 by
    unfold fewTo
    by_cases q : ls.length ≤ 18
    · rw [List.take_of_length_le (by omega), List.take_of_length_le (by omega)]
    · rw [show mm = 18 by omega])
  have HMl := Lib.hid hml
  clear hs hl b1 b2 g0 g2 hi hz0 hz1 hz2 hy hy0 hy1 hy2 hml
  have HW1 := Lib.hid hw1
  have HMm := Lib.hid hmm
  clear hw1 hmm
  go_enter Try.func5, Try.ntmps5
  have hw1 := HW1.out
  go_upto_region 2 with (fail)
  rw [← hw1]
  clear hw1 HW1
  obtain ⟨r0, r1, r2⟩ := G0.out.tri
  go_cut [15, 16, 17] (fun p t s wx => ∃ (A' : Option Addr) (c' : Nat), p = .slice A' mm c' ∧ t = .int .i64 (mm : Int) ∧ s = .int .i64 0 ∧ Hid (0 < mm → A' = A) ∧ Hid (wx = w1))
  case first =>
    cases A with
    | none =>
      obtain ⟨hn0, rfl⟩ := HK.out.2.2 rfl
      obtain rfl : mm = 0 := by have := HMm.out; omega
      rw [hn0] at hm2 r2
      have hm0' : min (0 : Int) 18 = 0 := by decide
      go_wp2_with fail
      go_meet
      exact ⟨none, 0, rfl, rfl, rfl, Lib.hid (fun h => absurd h (by omega)), Lib.hid rfl⟩
    | some ad =>
      by_cases hq : ls.length ≤ 18
      · obtain rfl : mm = ls.length := by omega
        have hq' : (ls.length : Int) ≤ 18 := by omega
        go_wp2_with fail
        go_meet
        exact ⟨some ad, c, rfl, rfl, rfl, Lib.hid (fun _ => rfl), Lib.hid rfl⟩
      · obtain rfl : mm = 18 := by omega
        have hq' : ¬ (ls.length : Int) ≤ 18 := by omega
        have hq2 : (18 : Int) ≤ (c : Int) := by omega
        go_wp2_with fail
        go_meet
        exact ⟨some ad, c, rfl, by simp, rfl, Lib.hid (fun _ => rfl), Lib.hid rfl⟩
  case rest =>
    obtain ⟨A', c', rfl, rfl, rfl, HA, HW⟩ := hcut
    obtain rfl := HW.out
    obtain ⟨wb, rfl⟩ : ∃ x : World, x = wc := ⟨_, rfl⟩
    clear HW r0 r1 r2
    go_wp2_with fail
    go_loopw [3, 17] (fun v t wr => ∃ i : Nat, i ≤ mm ∧ t = .int .i64 (i : Int) ∧ Hid (SpS w0 wb.heap.size wr v (fewTo ls i)) ∧ Hid (Box wr w.heap.size 24 #[.int .i64 q, .int .i64 z, .slice A ls.length c]) ∧ Hid (Box wr (w.heap.size + 1) 24 #[.int .i64 0, .int .i64 0, .slice none 0 0]) ∧ Hid (Below w.heap.size w wr) ∧ Hid (wb.heap.size ≤ wr.heap.size)) (fun _ t _ => mm - (Go.RowKit.intOf t).toNat)
    case atStart => exact ⟨0, Nat.zero_le _, rfl, S0, G0, G2, HB, HSw⟩
    case round =>
      clear S0 G0 G2 HB HSw
      obtain ⟨i, hi, rfl, SP, G0, G2, HB, HSw⟩ := hrel
      obtain ⟨wo, rfl⟩ : ∃ x : World, x = wr := ⟨_, rfl⟩
      by_cases hlt : i < mm
      · have hlt' : (i : Int) < (mm : Int) := Int.ofNat_lt.2 hlt
        obtain ⟨b, off, B, l, d, e, hb, y0, hk, hS⟩ := RRow.at HL.out i (by have := HMl.out; omega)
        obtain rfl : A' = some ⟨b, off, none⟩ := (HA.out (by omega)).trans e
        have y0 := (HB.out.cell (p := ⟨b, off + i, none⟩) hb).trans y0
        have HX := Lib.hid (Recs.below hS HB.out)
        have hlx : (ls.getD i []).length = l := hS.1
        have HFs := Lib.hid (fewTo_succ ls i (by have := HMl.out; omega))
        have HFl := Lib.hid (fewTo_len ls i (by have := HMl.out; omega))
        obtain ⟨xs, hxs⟩ : ∃ y, y = ls.getD i [] := ⟨_, rfl⟩
        rw [← hxs] at HX hlx HFs
        have HXl := Lib.hid hlx
        have HKd := Lib.hid hk
        clear hS hlx hxs e hb hk
        obtain ⟨kk, hkk⟩ : ∃ k, k = min l 66 := ⟨_, rfl⟩
        have hk2 : min (l : Int) 66 = (kk : Int) := by omega
        have hk0 : (0 : Int) ≤ (kk : Int) := by omega
        have hkc : (kk : Int) ≤ (d : Int) := by have := HKd.out.1; omega
        have hk66 : kk ≤ 66 := by omega
        have HKk := Lib.hid hkk
        clear hkk
        go_upto_region 6 with (fail)
        go_cut [25, 26, 27] (fun p t s wx => ∃ (B' : Option Addr) (d' : Nat), p = .slice B' kk d' ∧ t = .int .i64 (kk : Int) ∧ s = .int .i64 0 ∧ Hid (0 < kk → B' = B) ∧ Hid (wx = wo))
        case first =>
          cases B with
          | none =>
            obtain ⟨hn0, rfl⟩ := HKd.out.2.2 rfl
            obtain rfl : kk = 0 := by have := HKk.out; omega
            subst hn0
            have hm0' : min (0 : Int) 66 = 0 := by decide
            go_wp2_with fail
            go_meet
            exact ⟨none, 0, rfl, rfl, rfl, Lib.hid (fun h => absurd h (by omega)), Lib.hid rfl⟩
          | some ad =>
            by_cases hq : l ≤ 66
            · obtain rfl : kk = l := by omega
              have hq' : (kk : Int) ≤ 66 := by omega
              go_wp2_with fail
              go_meet
              exact ⟨some ad, d, rfl, rfl, rfl, Lib.hid (fun _ => rfl), Lib.hid rfl⟩
            · obtain rfl : kk = 66 := by omega
              have hq' : ¬ (l : Int) ≤ 66 := by omega
              have hq2 : (66 : Int) ≤ (d : Int) := by omega
              go_wp2_with fail
              go_meet
              exact ⟨some ad, d, rfl, by simp, rfl, Lib.hid (fun _ => rfl), Lib.hid rfl⟩
        case rest =>
          obtain ⟨B', d', rfl, rfl, rfl, HBb, HW⟩ := hcut
          obtain rfl := HW.out
          obtain ⟨wo, rfl⟩ : ∃ x : World, x = wc := ⟨_, rfl⟩
          clear HW y0
          have R0 := Lib.hid (World.ownsRow_nil wo wo.heap.size 27 2)
          go_wp2_with fail
          go_loopw [6, 27] (fun v t wr => ∃ j : Nat, j ≤ kk ∧ t = .int .i64 (j : Int) ∧ Hid (wr.ownsRow wo.heap.size 27 2 v j ((fewS xs j).flatMap encS)) ∧ Hid (Below wo.heap.size wo wr)) (fun _ t _ => kk - (Go.RowKit.intOf t).toNat)
          case atStart => exact ⟨0, Nat.zero_le _, rfl, R0, Lib.hid (Below.refl _ _)⟩
          case round =>
            clear R0
            obtain ⟨j, hj, rfl, HR, HBy⟩ := hrel
            by_cases hjl : j < kk
            · have hjl' : (j : Int) < (kk : Int) := by omega
              obtain ⟨b1, off1, e1, hb1, x0, x1⟩ := Syms.two HX.out j (by have := HKk.out; omega)
              obtain rfl : B' = some ⟨b1, off1, none⟩ := (HBb.out (by omega)).trans e1
              have x0 := (HBy.out.cell (p := ⟨b1, off1 + j * 2, none⟩) hb1).trans x0
              have x1 := (HBy.out.cell (p := ⟨b1, off1 + j * 2 + 1, none⟩) hb1).trans x1
              have HS := Lib.hid (fewS_succ xs j (by rw [HXl.out]; have := HKk.out; omega))
              have hzr : wo.heap.size ≤ wr.heap.size := HBy.out.size
              clear e1 hb1
              generalize xs.getD j default = p at *
              obtain ⟨p0, p1⟩ := p
              dsimp only at x0 x1 HS
              by_cases hm : p1.size ≤ 66
              · have hm1 : (p1.size : Int) ≤ 66 := by omega
                have HE := Lib.hid (cutX_id p1 hm)
                have G := Lib.hid (Box.new wr 27 #[.int .u64 (p0 : Nat), .string p1])
                have HW := Lib.hid (cut_world HBy.out hzr (p0 : Nat) p1)
                have XO := Lib.hid (own_keep HR.out HW.out.1)
                have XB := Lib.hid (HBy.out.trans (HW.out.1.mono hzr))
                have N2 := Lib.hid (fun g hg => (HR.out.lt g hg).1)
                have HWs := Lib.hid HW.out.2.2
                obtain ⟨g0, g1, f0, f1⟩ := G.out.two
                clear G hzr
                go_wp2_with (at_builtin; refine wpList_append_own _ rfl _ _ 43 rfl wo.heap.size 27 i0 (.agg #[.int .u64 0, .string ⟨#[]⟩]) 2 24 Try.underlying43 HI.out HZ0.out HZ1.out HZ2.out rfl (by decide) _ _ _ rfl XO.out ⟨wr.heap.size + 1, 0, none⟩ 1 1 [.int .u64 (p0 : Nat), .string p1] rfl rfl HW.out.2.1 (by simp [Value.oneCell']) (by simp [maxLen]; omega) (by omega) HWs.out ?_; intro v' w1' hown' hgrow _; have HC := Lib.hid (XB.out.grown hgrow HWs.out N2.out); have HO2 := Lib.hid hown'; clear hown' hgrow)
                go_roundw
                case rel =>
                  refine ⟨j + 1, by omega, by go_num, Lib.hid ?_, HC⟩
                  rw [HS.out, flat_snoc, ← HE.out]
                  exact HO2.out
                case measure => simp [Go.RowKit.intOf] <;> omega
              · have hm1 : (66 : Int) < p1.size := by omega
                have hm2 : 66 ≤ p1.size := by omega
                have HE := Lib.hid (cutX_min p1 66 (by omega))
                have G := Lib.hid (Box.new wr 27 #[.int .u64 (p0 : Nat), .string p1])
                have HW := Lib.hid (cut_world HBy.out hzr (p0 : Nat) (p1.extract 0 66))
                have XO := Lib.hid (own_keep HR.out HW.out.1)
                have XB := Lib.hid (HBy.out.trans (HW.out.1.mono hzr))
                have N2 := Lib.hid (fun g hg => (HR.out.lt g hg).1)
                have HWs := Lib.hid HW.out.2.2
                obtain ⟨g0, g1, f0, f1⟩ := G.out.two
                clear G hzr
                go_wp2_with (at_builtin; refine wpList_append_own _ rfl _ _ 43 rfl wo.heap.size 27 i0 (.agg #[.int .u64 0, .string ⟨#[]⟩]) 2 24 Try.underlying43 HI.out HZ0.out HZ1.out HZ2.out rfl (by decide) _ _ _ rfl XO.out ⟨wr.heap.size + 1, 0, none⟩ 1 1 [.int .u64 (p0 : Nat), .string (p1.extract 0 66)] rfl rfl HW.out.2.1 (by simp [Value.oneCell']) (by simp [maxLen]; omega) (by omega) HWs.out ?_; intro v' w1' hown' hgrow _; have HC := Lib.hid (XB.out.grown hgrow HWs.out N2.out); have HO2 := Lib.hid hown'; clear hown' hgrow)
                go_roundw
                case rel =>
                  refine ⟨j + 1, by omega, by go_num, Lib.hid ?_, HC⟩
                  rw [HS.out, flat_snoc, ← HE.out]
                  exact HO2.out
                case measure => simp [Go.RowKit.intOf] <;> omega
            · obtain rfl : j = kk := by omega
              have hjl' : ¬ (j : Int) < (j : Int) := Int.lt_irrefl _
              obtain ⟨wq, rfl⟩ : ∃ x : World, x = wr := ⟨_, rfl⟩
              have hfl : (fewS xs j).length = j := by rw [fewS_len, HXl.out]; have := HKk.out; omega
              have HE1 := Lib.hid (show fewS xs j = few1 xs by
                unfold few1 fewS
                by_cases q : l ≤ 66
                · rw [List.take_of_length_le (by rw [HXl.out]; have := HKk.out; omega), List.take_of_length_le (by rw [HXl.out]; omega)]
                · rw [show j = 66 by have := HKk.out; omega])
              obtain ⟨B5, c5, rfl⟩ := own_formS HR.out
              have HRl := Lib.hid (show wq.ownsRow wb.heap.size 27 2 (.slice B5 j c5) (few1 xs).length ((few1 xs).flatMap encS) by
                rw [← HE1.out, hfl]
                exact own_low2 HR.out HSw.out)
              have HJl := Lib.hid (show j = (few1 xs).length by rw [← HE1.out, hfl])
              have SPw := Lib.hid (SP.out.keepB HBy.out)
              have G0w := Lib.hid (G0.out.keep HBy.out)
              have G2w := Lib.hid (G2.out.keep HBy.out)
              have HBw := Lib.hid (HB.out.trans (HBy.out.mono HB.out.size))
              have HSw2 := Lib.hid (Nat.le_trans HSw.out HBy.out.size)
              have hbq : Below wq.heap.size wq (wq.alloc (.cells #[.slice B5 j c5] 43)) := (Below.refl _ _).alloc (Nat.le_refl _) _
              obtain ⟨rs, o1, o2, o3⟩ := SPw.out
              have HO1 := Lib.hid o1
              have HOl := Lib.hid (show ∀ k, Value.ownBlock _ = some k → wb.heap.size ≤ k from fun k hk => (o2.lt k hk).1)
              have ZO := Lib.hid (own_keepB o2 hbq)
              have ZR := Lib.hid (show ∀ k, k < (fewTo ls i).length → RowS w0 wb.heap.size (wq.alloc (.cells #[.slice B5 j c5] 43)) (rs.getD k sl0) ((fewTo ls i).getD k []) from fun k hk => (o3 k hk).keepB hbq)
              have ZX := Lib.hid (show RowS w0 wb.heap.size (wq.alloc (.cells #[.slice B5 j c5] 43)) (B5, j, c5) (few1 xs) from ⟨HJl.out, .inr (own_keepB HRl.out hbq)⟩)
              have ZB := Lib.hid (HBw.out.trans (hbq.mono HBw.out.size))
              have G0z := Lib.hid (G0w.out.keep hbq)
              have G2z := Lib.hid (G2w.out.keep hbq)
              have HZz := Lib.hid (Nat.le_trans HSw2.out hbq.size)
              have NW := Lib.hid (World.news_of_block (Box.new wq 43 #[.slice B5 j c5]))
              have hal0 := HFl.out
              obtain ⟨al, hal⟩ : ∃ a, a = fewTo ls i := ⟨_, rfl⟩
              rw [← hal] at ZO ZR HFs HO1 hal0
              have hal1 : al.length ≤ 100 := by omega
              clear hal hal0 hbq o1 o2 o3 SPw HBw G0w G2w HRl SP G0 G2 HB HSw HR HBy hfl
              have HWb := Lib.hid (show w.heap.size ≤ wb.heap.size by have := HSz.out; omega)
              go_wp2_with (at_builtin; go_loud (refine wpList_append_own _ rfl _ _ 22 rfl wb.heap.size 43 i1 (.slice none 0 0) 1 24 Try.underlying22 HY.out HY0.out HY1.out HY2.out rfl (by decide) _ _ _ rfl ZO.out ⟨wq.heap.size, 0, none⟩ 1 1 [.slice B5 j c5] rfl rfl NW.out (by simp [Value.oneCell']) (by simp only [maxLen]; omega) (by omega) HZz.out ?_); intro v' w9 hown hgrow _; go_loud (have HO9 := Lib.hid (SpS.snoc HO1.out ZO.out ZR.out ZX.out hgrow hown); have HB9 := Lib.hid (ZB.out.grown hgrow ZB.out.size (fun k hk => Nat.le_trans HWb.out (HOl.out k hk))); have HSz9 := Lib.hid (Nat.le_trans HZz.out hgrow.size); have G09 := Lib.hid (Box.grown G0z.out hgrow (own_ne ZO.out G0z.out (by decide))); have G29 := Lib.hid (Box.grown G2z.out hgrow (own_ne ZO.out G2z.out (by decide)))); clear hown hgrow)
              go_roundw
              case rel =>
                refine ⟨i + 1, hlt, by go_num, Lib.hid ?_, G09, G29, HB9, HSz9⟩
                rw [HFs.out]
                exact HO9.out
              case measure => simp [Go.RowKit.intOf] <;> omega
      · obtain rfl : i = mm := Nat.le_antisymm hi (Nat.le_of_not_lt hlt)
        have hlt' : ¬ (i : Int) < (i : Int) := Int.lt_irrefl _
        rw [HEnd.out] at SP
        obtain ⟨A9, c9, rfl⟩ := SP.out.form
        obtain ⟨al, hal⟩ : ∃ a, a = fewTo ls 18 := ⟨_, rfl⟩
        rw [← hal] at SP ⊢
        have HAl := Lib.hid hal
        clear hal
        obtain ⟨an, han⟩ : ∃ a, a = al.length := ⟨_, rfl⟩
        have HAn := Lib.hid han
        obtain ⟨r0, r1, r2⟩ := G0.out.tri
        have q2 := G0.out.free 2
        obtain ⟨p0, p1, p2⟩ := G2.out.tri
        have f0 := G2.out.free 0
        have f1 := G2.out.free 1
        have f2 := G2.out.free 2
        have S1 := SP.out.far G0.out (by decide) (by decide) 2 (.slice A9 al.length c9)
        have GA := G0.out.put 2 (.slice A9 al.length c9)
        have GB := G2.out.aside (show w.heap.size + 1 ≠ w.heap.size by omega) 2 (.slice A9 al.length c9)
        have S2 := S1.far GB (by decide) (by decide) 0 (.int .i64 q)
        have S3 := S2.far (GB.put 0 (.int .i64 q)) (by decide) (by decide) 1 (.int .i64 z)
        have HS4 := Lib.hid ((S3.far ((GB.put 0 (.int .i64 q)).put 1 (.int .i64 z)) (by decide) (by decide) 2 (.slice A9 al.length c9)).low (show w.heap.size ≤ wb.heap.size by have := HSz.out; omega))
        have HB4 := Lib.hid (below3 (HB.out.setCell (p := ⟨w.heap.size, 2, none⟩) (Nat.le_refl _) (.slice A9 al.length c9)) (show w.heap.size ≤ w.heap.size + 1 by omega) (.int .i64 q) (.int .i64 z) (.slice A9 al.length c9))
        have GP := Lib.hid (GB.put3S (u := .int .i64 q) (v := .int .i64 z) (x := .slice A9 al.length c9))
        rw [← han] at HS4 HB4 GP ⊢
        clear han S1 S2 S3 GA GB
        go_wp2_with fail
        refine close_one Try.results5 rfl rfl GP.out Try.underlying24 rfl (by kernel_rfl) ?_
        refine ⟨A9, c9, ?_⟩
        rw [← HAl.out, ← HAn.out]
        exact ⟨rfl, HS4.out, HB4.out⟩
end Go.Proofs.Ytehlebeeoeghmaa
