/- Parts: Re4, Re5, PopM, BitT. -/
import Derived.Test.YtdfmogcgangdnaaZh
import Derived.IntWalk
namespace Go.Proofs.Ytdfmogcgangdnaa
section
/- The reference's with. -/
set_option linter.unusedVariables false
set_option linter.unusedSimpArgs false
open Go.RowKit
set_option maxRecDepth 100000
/-- A row of the reference's: its words are the argument's (at the world w0) or its own. -/
def RowQ (w0 w : World) (N : Nat) (r : RowV) (x : Nat) : Prop := r.1 = (N : Int) ∧ SliceOk r.2.1 r.2.2.1 r.2.2.2 ∧ (Words w0 r.2.1 r.2.2.1 (rowOf N x) ∨ OwnW w r.2.1 r.2.2.1 r.2.2.2 (rowOf N x))
def RowsQ (w0 w : World) (base : Nat) (v : Value) (N : Nat) (K : List Nat) : Prop :=
  ∃ rs : List RowV, rs.length = K.length ∧ w.ownsRow base 40 2 v K.length (rowCells rs) ∧ ∀ j, j < K.length → RowQ w0 w N (rs.getD j (0, none, 0, 0)) (K.getD j 0)
theorem RowQ.below {w0 w w' : World} {N : Nat} {r : RowV} {x : Nat} (h : RowQ w0 w N r x) (hb : Below w.heap.size w w') : RowQ w0 w' N r x := ⟨h.1, h.2.1, h.2.2.imp id (fun o => o.below hb)⟩
theorem RowsQ.below {w0 w w' : World} {base : Nat} {v : Value} {N : Nat} {K : List Nat} (h : RowsQ w0 w base v N K) (hb : Below w.heap.size w w') : RowsQ w0 w' base v N K := by
  obtain ⟨rs, h1, h2, h3⟩ := h
  exact ⟨rs, h1, own_keep h2 hb, fun j hj => (h3 j hj).below hb⟩
theorem RowsQ.appended {w0 w : World} {base : Nat} {v : Value} {N : Nat} {K : List Nat} {B : Option Addr} {l d y : Nat} (h : RowsQ w0 w base v N K) (hn : RowQ w0 w N ((N : Int), B, l, d) y) :
    ∃ rs : List RowV, (w.alloc (.cells #[.int .i64 (N : Int), .slice B l d] 40)).ownsRow base 40 2 v K.length (rowCells rs) ∧ ∀ v' w1, w1.ownsRow base 40 2 v' (K.length + 1) (rowCells rs ++ [.int .i64 (N : Int), .slice B l d]) → (w.alloc (.cells #[.int .i64 (N : Int), .slice B l d] 40)).grownBy w1 v.ownBlock → RowsQ w0 w1 base v' N (K ++ [y]) := by
  obtain ⟨rs, h1, h2, h3⟩ := h
  have h2' := World.ownsRow.alloc h2 (.cells #[.int .i64 (N : Int), .slice B l d] 40)
  have al : Below w.heap.size w (w.alloc (.cells #[.int .i64 (N : Int), .slice B l d] 40)) := (Below.refl _ _).alloc (Nat.le_refl _) _
  refine ⟨rs, h2', fun v' w1 ho hg => ⟨rs ++ [((N : Int), B, l, d)], by simp [h1], by rw [rowCells_snoc, List.length_append]; exact ho, fun j hj => ?_⟩⟩
  have gr : ∀ {r : RowV} {x : Nat}, RowQ w0 w N r x → RowQ w0 w1 N r x := fun q => ⟨q.1, q.2.1, q.2.2.imp id (fun o => (o.below al).grown h2' (by decide) hg)⟩
  rw [List.length_append] at hj
  by_cases hm : j < K.length
  · have e1 : (rs ++ [((N : Int), B, l, d)]).getD j (0, none, 0, 0) = rs.getD j (0, none, 0, 0) := by simp only [List.getD]; rw [List.getElem?_append_left (by omega)]
    have e2 : (K ++ [y]).getD j 0 = K.getD j 0 := by simp only [List.getD]; rw [List.getElem?_append_left (by omega)]
    rw [e1, e2]; exact gr (h3 j hm)
  · obtain rfl : j = K.length := by simp at hj; omega
    have e1 : (rs ++ [((N : Int), B, l, d)]).getD K.length (0, none, 0, 0) = ((N : Int), B, l, d) := by rw [← h1]; simp [List.getD]
    have e2 : (K ++ [y]).getD K.length 0 = y := by simp [List.getD]
    rw [e1, e2]; exact gr hn
theorem RowsQ.mat {w0 w : World} {base : Nat} {v : Value} {N : Nat} {K : List Nat} (h : RowsQ w0 w base v N K) {B : Nat} (hB : w0.heap.size ≤ B) (hb : Below B w0 w) : ∃ A c, v = .slice A K.length c ∧ K.length ≤ c ∧ MatAt w 0 A K.length (mkM N K) := by
  obtain ⟨rs, h1, h2, h3⟩ := h
  obtain ⟨A, c, e, hc, hm⟩ := own_mat h2 h1 (mkM N K) (mkM_len N K) (fun j hj => by
    obtain ⟨a1, a2, a3⟩ := h3 j hj
    rw [mkM_at N K j hj]
    exact ⟨a1, a2, by rcases a3 with a3 | a3; exact a3.mono hB hb; exact a3.words (rowOf_lt N _)⟩)
  exact ⟨A, c, e, hc, hm.low (Nat.zero_le _)⟩
/-- The rows ahead of the new one, i of the old ones looked at. -/
def withP (L : List Nat) (z a m i : Nat) : List Nat := (L.take (min i m)).map (fun x => if x.testBit a then x ^^^ z else x)
theorem withP_lt (L : List Nat) (z a m i : Nat) (hi : i < m) (hl : i < L.length) : withP L z a m (i + 1) = withP L z a m i ++ [if (L.getD i 0).testBit a then L.getD i 0 ^^^ z else L.getD i 0] := by
  unfold withP
  rw [Nat.min_eq_left (by omega), Nat.min_eq_left (by omega), List.take_succ_eq_append_getElem hl, List.map_append]
  simp [List.getD, hl]
theorem withP_ge (L : List Nat) (z a m i : Nat) (hi : m ≤ i) : withP L z a m (i + 1) = withP L z a m i := by
  unfold withP
  rw [Nat.min_eq_right (by omega), Nat.min_eq_right (by omega)]
theorem withP_len (L : List Nat) (z a m i : Nat) : (withP L z a m i).length ≤ L.length := by
  unfold withP; rw [List.length_map, List.length_take]; omega
/-- The rows behind it. -/
def withD (L : List Nat) (m i : Nat) : List Nat := (L.drop m).take (i - m)
theorem withD_lt (L : List Nat) (m i : Nat) (hi : i < m) : withD L m (i + 1) = withD L m i := by
  unfold withD; rw [show i + 1 - m = 0 by omega, show i - m = 0 by omega]
theorem withD_ge (L : List Nat) (m i : Nat) (hi : m ≤ i) (hl : i < L.length) : withD L m (i + 1) = withD L m i ++ [L.getD i 0] := by
  unfold withD
  rw [show i + 1 - m = (i - m) + 1 by omega, List.take_succ_eq_append_getElem (by rw [List.length_drop]; omega)]
  simp [List.getD, hl, show m + (i - m) = i by omega]
theorem withD_len (L : List Nat) (m i : Nat) : (withD L m i).length ≤ L.length := by
  unfold withD; rw [List.length_take, List.length_drop]; omega
theorem with_all (L : List Nat) (z a m : Nat) (hm : m ≤ L.length) : (withP L z a m L.length ++ [z]) ++ withD L m L.length = putW L z a m := by
  unfold withP withD putW
  have e : (L.drop m).take (L.length - m) = L.drop m := List.take_of_length_le (by rw [List.length_drop]; omega)
  rw [Nat.min_eq_right hm, e]
  simp
theorem own_empty4 (W : World) (base e : Nat) (hb : base ≤ W.heap.size) : (W.alloc (.cells #[] e)).ownsRow base e 2 (.slice (some ⟨W.heap.size, 0, none⟩) 0 0) 0 [] :=
  ⟨by simp, .inr ⟨W.heap.size, 0, #[], rfl, hb, heap_alloc_new W _, Nat.le_refl _, Nat.zero_le _, by simp, by simp⟩⟩
/-- What with hands back. -/
def WithOut (N : Nat) (K : List Nat) (w : World) (e : Ending) (w' : World) : Prop :=
  ∃ A c, e = .returned (.slice A K.length c) ∧ MatAt w' 0 A K.length (mkM N K) ∧ Below w.heap.size w w'
set_option maxHeartbeats 16000000 in
theorem with_any (N : Nat) (hN : N ≤ 512) (L P : List Nat) (hR : Rref L P) (hL : ∀ r ∈ L, r < 2 ^ N) (hlen : L.length ≤ 100) (z a m : Nat) (hz : z < 2 ^ N) (hla : IsLow z a) (hm : m ≤ L.length) (hm1 : ∀ i, i < m → P.getD i 0 < a) (hm2 : ∀ i, m ≤ i → i < L.length → a < P.getD i 0) (A B : Option Addr) (c l d lo : Nat) (w : World) (hmat : MatAt w lo A L.length (mkM N L)) (hs : SliceOk B l d) (hw : Words w B l (rowOf N z)) :
    Calls Try.prog 36 #[.slice A L.length c, .agg #[.int .i64 (N : Int), .slice B l d]] w (WithOut N (putW L z a m) w) := by
  have hW : Below w.heap.size w (w.alloc (.cells #[.int .i64 N, .slice B l d] 40)) := (Below.refl _ _).alloc (Nat.le_refl _) _
  have Q := Lib.hid (Box.new w 40 #[.int .i64 (N : Int), .slice B l d])
  have HWd := Lib.hid (hw.below hW)
  have HW := Lib.hid hW
  have HX := Lib.hid hz
  have HM := Lib.hid hmat
  have HS := Lib.hid hs
  have HLt := Lib.hid (lt_all hL)
  have HAN := Lib.hid (low_lt hz hla)
  have HFst := Lib.hid (fun w' (h : Words w' B l (rowOf N z)) => first_low N z a hN hz hla B l d w' h)
  have HW0 := Lib.hid hw
  obtain ⟨i0, hi0, hz0, hz1, hz2⟩ := info_parts row_infoM
  have HI := Lib.hid hi0
  have HZ0 := Lib.hid hz0
  have HZ1 := Lib.hid hz1
  have HZ2 := Lib.hid hz2
  clear hi0 hz0 hz1 hz2
  clear hw hW hz hmat hs
  obtain ⟨q0, q1, -, -⟩ := Q.out.two
  go_enter Try.func36, Try.ntmps36
  go_wp2_with fail
  refine (HFst.out _ HWd.out).mono ?_
  rintro e x1 ⟨rfl, hb⟩
  have Q1 := Lib.hid (Q.out.keep hb)
  have HB1 := Lib.hid (chainN HW.out HW.out.size hb)
  have HWd1 := Lib.hid (HWd.out.below hb)
  clear hb q0 q1
  obtain ⟨q0, q1, -, -⟩ := Q1.out.two
  have hoe := own_empty4 x1 (w.heap.size + 1) 40 (by have := Q1.out.lt; omega)
  have Q2 := Lib.hid (Q1.out.alloc (.cells #[] 40))
  have HB2 := Lib.hid (HB1.out.alloc HB1.out.size (.cells #[] 40))
  have HO2 := Lib.hid (show RowsQ w (x1.alloc (.cells #[] 40)) (w.heap.size + 1) (.slice (some ⟨x1.heap.size, 0, none⟩) 0 0) N (withP L z a m 0) from ⟨[], by simp [withP], by simpa [withP, rowCells] using hoe, fun j hj => by simp [withP] at hj⟩)
  clear hoe
  go_wp2_with fail
  clear q0 q1
  go_loopw [6, 16] (fun v t wr => ∃ (i : Nat) (v' : Value), v' = v ∧ i ≤ L.length ∧ t = .int .i64 (i : Int) ∧ Hid (RowsQ w wr (w.heap.size + 1) v' N (withP L z a m i)) ∧ Hid (Box wr w.heap.size 40 #[.int .i64 (N : Int), .slice B l d]) ∧ Hid (Below w.heap.size w wr)) (fun _ t _ => L.length - (intOf t).toNat)
  case atStart => exact ⟨0, _, rfl, Nat.zero_le _, rfl, HO2, Q2, HB2⟩
  case round =>
    obtain ⟨i, v, rfl, hi, rfl, HRo, R0, HB⟩ := hrel
    clear Q2 HB2 HO2 Q1 HB1 HWd1 HWd HW Q
    by_cases hlt : i < L.length
    · have hlt' : (i : Int) < (L.length : Int) := by omega
      have hwl := withP_len L z a m i
      obtain ⟨b, off, B1, l1, c1, rfl, hbl, x0, x1, hs, hw0⟩ := HM.out.at i hlt
      have hw := hw0.mono (Nat.le_refl _) HB.out
      have x0 := (HB.out.cell (p := ⟨b, off + i * 2, none⟩) hbl).trans x0
      have x1 := (HB.out.cell (p := ⟨b, off + i * 2 + 1, none⟩) hbl).trans x1
      rw [mkM_at N L i hlt] at x0 hw hw0
      simp only [mkR] at x0 hw hw0
      have hal : Below wr.heap.size wr (wr.alloc (.cells #[.int .i64 (N : Int), .slice B1 l1 c1] 40)) := (Below.refl _ _).alloc (Nat.le_refl _) _
      have E := Lib.hid (Box.new wr 40 #[.int .i64 (N : Int), .slice B1 l1 c1])
      have HC := Lib.hid hal
      have HWx := Lib.hid (hw.below hal)
      have RQ0 := Lib.hid (show ∀ W', RowQ w W' N ((N : Int), B1, l1, c1) (L.getD i 0) from fun W' => ⟨rfl, hs, .inl hw0⟩)
      have HLow := Lib.hid (hR.low i hlt)
      have HF := Lib.hid (fun w' (h : Words w' B1 l1 (rowOf N (L.getD i 0))) => first_low N _ _ hN (HLt.out i) HLow.out B1 l1 c1 w' h)
      have HBt := Lib.hid (fun w' (h : Words w' B1 l1 (rowOf N (L.getD i 0))) => rbit_any N _ _ hN B1 l1 c1 HAN.out w' h)
      have HLi := Lib.hid (HLt.out i)
      have HM1 := Lib.hid (hm1 i)
      have HM2 := Lib.hid (fun h => hm2 i h hlt)
      clear hal hw hs hw0 HLow
      generalize hyy : L.getD i 0 = y at *
      have HY := Lib.hid hyy
      clear hyy
      generalize P.getD i 0 = pi at *
      obtain ⟨e0, e1, -, -⟩ := E.out.two
      by_cases him : i < m
      · have hpa : (pi : Int) < (a : Int) := by have := HM1.out him; omega
        have HWP := Lib.hid (withP_lt L z a m i him hlt)
        rw [HY.out] at HWP
        go_wp2_with fail
        refine (HF.out _ HWx.out).mono ?_
        rintro e y1 ⟨rfl, hb⟩
        have E := Lib.hid (E.out.keep hb)
        have HC := Lib.hid (chain HC.out hb)
        have HWx := Lib.hid (HWx.out.below hb)
        clear hb e0 e1
        obtain ⟨e0, e1, ef0, ef1⟩ := E.out.two
        cases hbt : y.testBit a with
        | true =>
          rw [hbt] at HBt HWP
          clear hbt
          obtain ⟨r0, r1, -, -⟩ := (R0.out.keep HC.out).two
          go_wp2_with fail
          refine (HBt.out _ HWx.out).mono ?_
          rintro e y2 ⟨rfl, hb⟩
          have E := Lib.hid (E.out.keep hb)
          have HC := Lib.hid (chain HC.out hb)
          have HWx := Lib.hid (HWx.out.below hb)
          have HWz := Lib.hid (HW0.out.mono (Nat.le_refl _) (chain HB.out HC.out))
          clear hb e0 e1 ef0 ef1 r0 r1
          obtain ⟨e0, e1, ef0, ef1⟩ := E.out.two
          obtain ⟨r0, r1, -, -⟩ := (R0.out.keep HC.out).two
          go_wp2_with fail
          refine (refXor_num N y z hN HLi.out HX.out B1 B l1 c1 l d _ HWx.out HWz.out).mono ?_
          rintro e y3 ⟨A3, l3, c3, rfl, ow, hb⟩
          have E := Lib.hid (E.out.keep hb)
          have OW := Lib.hid ow
          have HC := Lib.hid (chain HC.out hb)
          clear hb ow e0 e1 ef0 ef1 r0 r1
          obtain ⟨e0, e1, ef0, ef1⟩ := E.out.two
          have HRw := Lib.hid (show RowQ w ((y3.setCell ⟨wr.heap.size, 0, none⟩ (.int .i64 (N : Int))).setCell ⟨wr.heap.size, 1, none⟩ (.slice A3 l3 c3)) N ((N : Int), A3, l3, c3) (y ^^^ z) from ⟨rfl, OW.out.ok, .inr (OW.out.put2 E.out _ _)⟩)
          have E := Lib.hid (E.out.put2 (u := .int .i64 (N : Int)) (v := .slice A3 l3 c3))
          have HC := Lib.hid ((HC.out.setCell (p := ⟨wr.heap.size, 0, none⟩) (Nat.le_refl _) (.int .i64 (N : Int))).setCell (p := ⟨wr.heap.size, 1, none⟩) (Nat.le_refl _) (.slice A3 l3 c3))
          have R0 := Lib.hid (R0.out.keep HC.out)
          have HRo := Lib.hid (HRo.out.below HC.out)
          have HB := Lib.hid (chain HB.out HC.out)
          clear OW HWx HWz HF HBt
          go_upto_region 9 with (fail)
          generalize (y3.setCell ⟨wr.heap.size, 0, none⟩ (.int .i64 (N : Int))).setCell ⟨wr.heap.size, 1, none⟩ (.slice A3 l3 c3) = w8 at *
          clear e0 e1 ef0 ef1
          obtain ⟨e0, e1, ef0, ef1⟩ := E.out.two
          obtain ⟨rs, ho, hnx⟩ := HRo.out.appended HRw.out
          have YO := Lib.hid ho
          have HNx := Lib.hid hnx
          clear ho hnx
          have hkl := hwl
          have Y0 := Lib.hid (R0.out.alloc (.cells #[.int .i64 (N : Int), .slice A3 l3 c3] 40))
          have YB := Lib.hid (HB.out.alloc HB.out.size (.cells #[.int .i64 (N : Int), .slice A3 l3 c3] 40))
          have YBs := Lib.hid (show w.heap.size + 1 ≤ (w8.alloc (.cells #[.int .i64 (N : Int), .slice A3 l3 c3] 40)).heap.size by have := R0.out.lt; simp; omega)
          have N0 := Lib.hid (show v.ownBlock ≠ some w.heap.size from fun e => by have := (YO.out.lt _ e).1; omega)
          have N2 := Lib.hid (show ∀ k, v.ownBlock = some k → w.heap.size ≤ k from fun k hk => by have := (YO.out.lt k hk).1; omega)
          have HNW := Lib.hid (World.news_of_block (Box.new w8 40 #[.int .i64 (N : Int), .slice A3 l3 c3]))
          have ki := HI.out
          have kz0 := HZ0.out
          have kz1 := HZ1.out
          have kz2 := HZ2.out
          go_wp2_with (at_builtin; refine wpList_append_own _ rfl _ _ 22 rfl (w.heap.size + 1) 40 i0 (.agg #[.int .i64 0, .slice none 0 0]) 2 32 Try.underlying22 ki kz0 kz1 kz2 rfl (by decide) _ _ _ rfl YO.out ⟨w8.heap.size, 0, none⟩ 1 1 [.int .i64 (N : Int), .slice A3 l3 c3] rfl rfl HNW.out (by simp [Value.oneCell']) (by simp [maxLen]; omega) (by omega) YBs.out ?_; intro v9 w9 hown' hgrow _; have R09 := Lib.hid (Y0.out.grown hgrow N0.out); have HB9 := Lib.hid (YB.out.grown hgrow YB.out.size N2.out); have HR9 := Lib.hid (HNx.out _ _ hown' hgrow); clear hown' hgrow)
          go_wp2_with fail
          go_roundw
          case rel => exact ⟨i + 1, _, rfl, by omega, by go_num, by rw [HWP.out]; exact HR9, R09, HB9⟩
          case measure => simp [intOf] <;> omega
        | false =>
          rw [hbt] at HBt HWP
          clear hbt
          go_wp2_with fail
          refine (HBt.out _ HWx.out).mono ?_
          rintro e y2 ⟨rfl, hb⟩
          have E := Lib.hid (E.out.keep hb)
          have HC := Lib.hid (chain HC.out hb)
          have R0 := Lib.hid (R0.out.keep HC.out)
          have HRo := Lib.hid (HRo.out.below HC.out)
          have HB := Lib.hid (chain HB.out HC.out)
          clear hb HWx HF HBt
          have HRw := Lib.hid (RQ0.out y2)
          clear e0 e1 ef0 ef1
          obtain ⟨e0, e1, ef0, ef1⟩ := E.out.two
          obtain ⟨rs, ho, hnx⟩ := HRo.out.appended HRw.out
          have YO := Lib.hid ho
          have HNx := Lib.hid hnx
          clear ho hnx
          have hkl := hwl
          have Y0 := Lib.hid (R0.out.alloc (.cells #[.int .i64 (N : Int), .slice B1 l1 c1] 40))
          have YB := Lib.hid (HB.out.alloc HB.out.size (.cells #[.int .i64 (N : Int), .slice B1 l1 c1] 40))
          have YBs := Lib.hid (show w.heap.size + 1 ≤ (y2.alloc (.cells #[.int .i64 (N : Int), .slice B1 l1 c1] 40)).heap.size by have := R0.out.lt; simp; omega)
          have N0 := Lib.hid (show v.ownBlock ≠ some w.heap.size from fun e => by have := (YO.out.lt _ e).1; omega)
          have N2 := Lib.hid (show ∀ k, v.ownBlock = some k → w.heap.size ≤ k from fun k hk => by have := (YO.out.lt k hk).1; omega)
          have HNW := Lib.hid (World.news_of_block (Box.new y2 40 #[.int .i64 (N : Int), .slice B1 l1 c1]))
          have ki := HI.out
          have kz0 := HZ0.out
          have kz1 := HZ1.out
          have kz2 := HZ2.out
          go_wp2_with (at_builtin; refine wpList_append_own _ rfl _ _ 22 rfl (w.heap.size + 1) 40 i0 (.agg #[.int .i64 0, .slice none 0 0]) 2 32 Try.underlying22 ki kz0 kz1 kz2 rfl (by decide) _ _ _ rfl YO.out ⟨y2.heap.size, 0, none⟩ 1 1 [.int .i64 (N : Int), .slice B1 l1 c1] rfl rfl HNW.out (by simp [Value.oneCell']) (by simp [maxLen]; omega) (by omega) YBs.out ?_; intro v9 w9 hown' hgrow _; have R09 := Lib.hid (Y0.out.grown hgrow N0.out); have HB9 := Lib.hid (YB.out.grown hgrow YB.out.size N2.out); have HR9 := Lib.hid (HNx.out _ _ hown' hgrow); clear hown' hgrow)
          go_wp2_with fail
          go_roundw
          case rel => exact ⟨i + 1, _, rfl, by omega, by go_num, by rw [HWP.out]; exact HR9, R09, HB9⟩
          case measure => simp [intOf] <;> omega
      · have hpa : ¬ (pi : Int) < (a : Int) := by have := HM2.out (by omega); omega
        have HWP := Lib.hid (withP_ge L z a m i (by omega))
        go_wp2_with fail
        refine (HF.out _ HWx.out).mono ?_
        rintro e y1 ⟨rfl, hb⟩
        have E := Lib.hid (E.out.keep hb)
        have HC := Lib.hid (chain HC.out hb)
        have HWx := Lib.hid (HWx.out.below hb)
        clear hb e0 e1
        obtain ⟨e0, e1, ef0, ef1⟩ := E.out.two
        have R0 := Lib.hid (R0.out.keep HC.out)
        have HRo := Lib.hid (HRo.out.below HC.out)
        have HB := Lib.hid (chain HB.out HC.out)
        go_wp2_with fail
        go_roundw
        case rel => exact ⟨i + 1, _, rfl, by omega, by go_num, by rw [HWP.out]; exact HRo, R0, HB⟩
        case measure => simp [intOf] <;> omega
    · obtain rfl : i = L.length := by omega
      have hlt' : ¬ (L.length : Int) < (L.length : Int) := by omega
      have hwl := withP_len L z a m L.length
      have HRq := Lib.hid (show ∀ W', RowQ w W' N ((N : Int), B, l, d) z from fun W' => ⟨rfl, HS.out, .inl HW0.out⟩)
      have HRw := Lib.hid (HRq.out wr)
      obtain ⟨r0, r1, -, -⟩ := R0.out.two
      go_upto_region 11 with (fail)
      obtain ⟨rs, ho, hnx⟩ := HRo.out.appended HRw.out
      have YO := Lib.hid ho
      have HNx := Lib.hid hnx
      clear ho hnx
      have hkl := hwl
      have Y0 := Lib.hid (R0.out.alloc (.cells #[.int .i64 (N : Int), .slice B l d] 40))
      have YB := Lib.hid (HB.out.alloc HB.out.size (.cells #[.int .i64 (N : Int), .slice B l d] 40))
      have YBs := Lib.hid (show w.heap.size + 1 ≤ (wr.alloc (.cells #[.int .i64 (N : Int), .slice B l d] 40)).heap.size by have := R0.out.lt; simp; omega)
      have N0 := Lib.hid (show v.ownBlock ≠ some w.heap.size from fun e => by have := (YO.out.lt _ e).1; omega)
      have N2 := Lib.hid (show ∀ k, v.ownBlock = some k → w.heap.size ≤ k from fun k hk => by have := (YO.out.lt k hk).1; omega)
      have HNW := Lib.hid (World.news_of_block (Box.new wr 40 #[.int .i64 (N : Int), .slice B l d]))
      have ki := HI.out
      have kz0 := HZ0.out
      have kz1 := HZ1.out
      have kz2 := HZ2.out
      go_wp2_with (at_builtin; refine wpList_append_own _ rfl _ _ 22 rfl (w.heap.size + 1) 40 i0 (.agg #[.int .i64 0, .slice none 0 0]) 2 32 Try.underlying22 ki kz0 kz1 kz2 rfl (by decide) _ _ _ rfl YO.out ⟨wr.heap.size, 0, none⟩ 1 1 [.int .i64 (N : Int), .slice B l d] rfl rfl HNW.out (by simp [Value.oneCell']) (by simp [maxLen]; omega) (by omega) YBs.out ?_; intro v9 w9 hown' hgrow _; have R09 := Lib.hid (Y0.out.grown hgrow N0.out); have HB9 := Lib.hid (YB.out.grown hgrow YB.out.size N2.out); have HR9 := Lib.hid (HNx.out _ _ hown' hgrow); clear hown' hgrow)
      clear r0 r1
      go_wp2_with fail
      generalize hK1 : withP L z a m L.length ++ [z] = K1 at *
      have hK1l : K1.length ≤ 101 := by rw [← hK1, List.length_append]; simp; omega
      have HAll := Lib.hid (show K1 ++ withD L m L.length = putW L z a m by rw [← hK1]; exact with_all L z a m hm)
      clear hK1 hwl
      go_loopw [6, 42] (fun v t wr => ∃ (i : Nat) (v' : Value), v' = v ∧ i ≤ L.length ∧ t = .int .i64 (i : Int) ∧ Hid (RowsQ w wr (w.heap.size + 1) v' N (K1 ++ withD L m i)) ∧ Hid (Box wr w.heap.size 40 #[.int .i64 (N : Int), .slice B l d]) ∧ Hid (Below w.heap.size w wr)) (fun _ t _ => L.length - (intOf t).toNat)
      case atStart => exact ⟨0, _, rfl, Nat.zero_le _, rfl, by rw [show withD L m 0 = [] by unfold withD; simp, List.append_nil]; exact HR9, R09, HB9⟩
      case round =>
        obtain ⟨i, v, rfl, hi, rfl, HRo, R0, HB⟩ := hrel
        clear R09 HB9 HR9
        by_cases hlt : i < L.length
        · have hlt' : (i : Int) < (L.length : Int) := by omega
          have hwl : (K1 ++ withD L m i).length ≤ 201 := by have := withD_len L m i; rw [List.length_append]; omega
          obtain ⟨b, off, B1, l1, c1, rfl, hbl, x0, x1, hs, hw0⟩ := HM.out.at i hlt
          have hw := hw0.mono (Nat.le_refl _) HB.out
          have x0 := (HB.out.cell (p := ⟨b, off + i * 2, none⟩) hbl).trans x0
          have x1 := (HB.out.cell (p := ⟨b, off + i * 2 + 1, none⟩) hbl).trans x1
          rw [mkM_at N L i hlt] at x0 hw hw0
          simp only [mkR] at x0 hw hw0
          have hal : Below wr.heap.size wr (wr.alloc (.cells #[.int .i64 (N : Int), .slice B1 l1 c1] 40)) := (Below.refl _ _).alloc (Nat.le_refl _) _
          have E := Lib.hid (Box.new wr 40 #[.int .i64 (N : Int), .slice B1 l1 c1])
          have HC := Lib.hid hal
          have HWx := Lib.hid (hw.below hal)
          have RQ0 := Lib.hid (show ∀ W', RowQ w W' N ((N : Int), B1, l1, c1) (L.getD i 0) from fun W' => ⟨rfl, hs, .inl hw0⟩)
          have HLow := Lib.hid (hR.low i hlt)
          have HF := Lib.hid (fun w' (h : Words w' B1 l1 (rowOf N (L.getD i 0))) => first_low N _ _ hN (HLt.out i) HLow.out B1 l1 c1 w' h)
          have HBt := Lib.hid (fun w' (h : Words w' B1 l1 (rowOf N (L.getD i 0))) => rbit_any N _ _ hN B1 l1 c1 HAN.out w' h)
          have HLi := Lib.hid (HLt.out i)
          have HM1 := Lib.hid (hm1 i)
          have HM2 := Lib.hid (fun h => hm2 i h hlt)
          clear hal hw hs hw0 HLow
          generalize hyy : L.getD i 0 = y at *
          have HY := Lib.hid hyy
          clear hyy
          generalize P.getD i 0 = pi at *
          obtain ⟨e0, e1, -, -⟩ := E.out.two
          by_cases him : i < m
          · have hpa : ¬ (a : Int) < (pi : Int) := by have := HM1.out him; omega
            have HWP := Lib.hid (withD_lt L m i him)
            go_wp2_with fail
            refine (HF.out _ HWx.out).mono ?_
            rintro e y1 ⟨rfl, hb⟩
            have E := Lib.hid (E.out.keep hb)
            have HC := Lib.hid (chain HC.out hb)
            have HWx := Lib.hid (HWx.out.below hb)
            clear hb e0 e1
            obtain ⟨e0, e1, ef0, ef1⟩ := E.out.two
            have R0 := Lib.hid (R0.out.keep HC.out)
            have HRo := Lib.hid (HRo.out.below HC.out)
            have HB := Lib.hid (chain HB.out HC.out)
            go_wp2_with fail
            go_roundw
            case rel => exact ⟨i + 1, _, rfl, by omega, by go_num, by rw [HWP.out]; exact HRo, R0, HB⟩
            case measure => simp [intOf] <;> omega
          · have hpa : (a : Int) < (pi : Int) := by have := HM2.out (by omega); omega
            have HWP := Lib.hid (show K1 ++ withD L m (i + 1) = (K1 ++ withD L m i) ++ [y] by rw [withD_ge L m i (by omega) hlt, HY.out, List.append_assoc])
            go_wp2_with fail
            refine (HF.out _ HWx.out).mono ?_
            rintro e y1 ⟨rfl, hb⟩
            have E := Lib.hid (E.out.keep hb)
            have HC := Lib.hid (chain HC.out hb)
            have HWx := Lib.hid (HWx.out.below hb)
            clear hb e0 e1
            obtain ⟨e0, e1, ef0, ef1⟩ := E.out.two
            have R0 := Lib.hid (R0.out.keep HC.out)
            have HRo := Lib.hid (HRo.out.below HC.out)
            have HB := Lib.hid (chain HB.out HC.out)
            have HRw := Lib.hid (RQ0.out y1)
            clear HWx HF HBt
            generalize K1 ++ withD L m i = K2 at *
            go_upto_region 16 with (fail)
            obtain ⟨rs, ho, hnx⟩ := HRo.out.appended HRw.out
            have YO := Lib.hid ho
            have HNx := Lib.hid hnx
            clear ho hnx
            have hkl := hwl
            have Y0 := Lib.hid (R0.out.alloc (.cells #[.int .i64 (N : Int), .slice B1 l1 c1] 40))
            have YB := Lib.hid (HB.out.alloc HB.out.size (.cells #[.int .i64 (N : Int), .slice B1 l1 c1] 40))
            have YBs := Lib.hid (show w.heap.size + 1 ≤ (y1.alloc (.cells #[.int .i64 (N : Int), .slice B1 l1 c1] 40)).heap.size by have := R0.out.lt; simp; omega)
            have N0 := Lib.hid (show v.ownBlock ≠ some w.heap.size from fun e => by have := (YO.out.lt _ e).1; omega)
            have N2 := Lib.hid (show ∀ k, v.ownBlock = some k → w.heap.size ≤ k from fun k hk => by have := (YO.out.lt k hk).1; omega)
            have HNW := Lib.hid (World.news_of_block (Box.new y1 40 #[.int .i64 (N : Int), .slice B1 l1 c1]))
            have ki := HI.out
            have kz0 := HZ0.out
            have kz1 := HZ1.out
            have kz2 := HZ2.out
            go_wp2_with (at_builtin; refine wpList_append_own _ rfl _ _ 22 rfl (w.heap.size + 1) 40 i0 (.agg #[.int .i64 0, .slice none 0 0]) 2 32 Try.underlying22 ki kz0 kz1 kz2 rfl (by decide) _ _ _ rfl YO.out ⟨y1.heap.size, 0, none⟩ 1 1 [.int .i64 (N : Int), .slice B1 l1 c1] rfl rfl HNW.out (by simp [Value.oneCell']) (by simp [maxLen]; omega) (by omega) YBs.out ?_; intro v9 w9 hown' hgrow _; have R09 := Lib.hid (Y0.out.grown hgrow N0.out); have HB9 := Lib.hid (YB.out.grown hgrow YB.out.size N2.out); have HR9 := Lib.hid (HNx.out _ _ hown' hgrow); clear hown' hgrow)
            go_wp2_with fail
            go_roundw
            case rel => exact ⟨i + 1, _, rfl, by omega, by go_num, by rw [HWP.out]; exact HR9, R09, HB9⟩
            case measure => simp [intOf] <;> omega
        · obtain rfl : i = L.length := by omega
          have hlt' : ¬ (L.length : Int) < (L.length : Int) := by omega
          rw [HAll.out] at HRo
          obtain ⟨A', c', rfl, -, hmat⟩ := HRo.out.mat (Nat.le_refl _) HB.out
          have HMat := Lib.hid hmat
          clear hmat
          go_wp2_with fail
          go_ret
          exact ⟨A', c', rfl, HMat.out, HB.out⟩
end
section
/- The reference's Echelon. -/
set_option linter.unusedVariables false
set_option linter.unusedSimpArgs false
open Go.RowKit
set_option maxRecDepth 100000
theorem same_lt {n : Nat} {L M : List Nat} (h : ∀ r ∈ L, r < 2 ^ n) (hs : SameSp L M) : ∀ r ∈ M, r < 2 ^ n := fun r hr => sp_lt h ((hs r).2 (sp_mem hr))
theorem take_lt' {n : Nat} {L : List Nat} (h : ∀ r ∈ L, r < 2 ^ n) (k : Nat) : ∀ r ∈ L.take k, r < 2 ^ n := fun r hr => h r (List.mem_of_mem_take hr)
theorem left_same {L P : List Nat} (h : Rref L P) (r : Nat) (h0 : leftN L P r L.length = 0) : SameSp (L ++ [r]) L := by
  have hs := (left_zero h r).1 h0
  refine SameSp.of (fun x hx => ?_) (fun x hx => sp_mem (List.mem_append.2 (.inl hx)))
  rcases List.mem_append.1 hx with hx | hx
  · exact sp_mem hx
  · simp at hx; subst hx; exact hs
theorem put_more {L P : List Nat} (h : Rref L P) (r a : Nat) (ha : IsLow (leftN L P r L.length) a) :
    ∃ m, m ≤ L.length ∧ (∀ i, i < m → P.getD i 0 < a) ∧ (∀ i, m ≤ i → i < L.length → a < P.getD i 0) ∧ Rref (putW L (leftN L P r L.length) a m) (putP P a m) ∧ SameSp (L ++ [r]) (putW L (leftN L P r L.length) a m) := by
  have hsp := leftN_span L P r L.length (Nat.le_refl _)
  have hz : ∀ j, j < L.length → (leftN L P r L.length).testBit (P.getD j 0) = false := fun j hj => by rw [leftN_bits h r _ (Nat.le_refl _) j hj, if_pos hj]
  generalize leftN L P r L.length = x at *
  have hn : a ∉ P := fun hp => by
    obtain ⟨j, hj, rfl⟩ := mem_getD hp
    have := hz j (by rw [h.len]; exact hj)
    rw [ha.1] at this; cases this
  obtain ⟨m, hm, h1, h2⟩ := cut_place h a hn
  refine ⟨m, hm, h1, h2, put_rref h x a m ha hz hm h1 h2, SameSp.trans ?_ (put_span x a m hm)⟩
  have liftL : ∀ y, ∀ v, Sp L v → Sp (L ++ [y]) v := fun y v hv => sp_sub (fun r hr => sp_mem (List.mem_append.2 (.inl hr))) hv
  refine SameSp.of (fun y hy => ?_) (fun y hy => ?_)
  · rcases List.mem_append.1 hy with hy | hy
    · exact sp_mem (List.mem_append.2 (.inl hy))
    · simp at hy; subst hy
      have := sp_xor (liftL x _ hsp) (sp_mem (show x ∈ L ++ [x] by simp))
      rw [xor_back] at this; exact this
  · rcases List.mem_append.1 hy with hy | hy
    · exact sp_mem (List.mem_append.2 (.inl hy))
    · simp at hy; subst hy
      have := sp_xor (sp_mem (show r ∈ L ++ [r] by simp)) (liftL r _ hsp)
      rw [← Nat.xor_assoc, Nat.xor_self, Nat.zero_xor] at this; exact this
theorem span_step {ms L M : List Nat} {k : Nat} (hk : k < ms.length) (hs : SameSp (ms.take k) L) (gs : SameSp (L ++ [ms.getD k 0]) M) : SameSp (ms.take (k + 1)) M := by
  refine SameSp.trans ?_ gs
  have e : ms.take (k + 1) = ms.take k ++ [ms.getD k 0] := by
    rw [List.take_succ_eq_append_getElem (by omega)]; simp [List.getD, hk]
  rw [e]
  refine SameSp.of (fun y hy => ?_) (fun y hy => ?_)
  · rcases List.mem_append.1 hy with hy | hy
    · exact sp_sub (fun r hr => sp_mem (List.mem_append.2 (.inl hr))) ((hs _).1 (sp_mem hy))
    · simp at hy; subst hy; exact sp_mem (by simp)
  · rcases List.mem_append.1 hy with hy | hy
    · exact sp_sub (fun r hr => sp_mem (List.mem_append.2 (.inl hr))) ((hs _).2 (sp_mem hy))
    · simp at hy; subst hy; exact sp_mem (by simp)
theorem rref_nil : Rref [] [] := ⟨rfl, fun _ h => absurd h (Nat.not_lt_zero _), fun _ _ h => absurd h (Nat.not_lt_zero _), fun _ _ _ h => absurd h (Nat.not_lt_zero _)⟩
theorem first_zero (N : Nat) (hN : N ≤ 512) (A : Option Addr) (l c : Nat) (w : World) (hw : Words w A l (rowOf N 0)) :
    Calls Try.prog 35 #[.agg #[.int .i64 (N : Int), .slice A l c]] w fun e w' => e = .returned (.int .i64 (-1)) ∧ Below w.heap.size w w' := by
  refine (first_any N 0 hN (Nat.two_pow_pos N) A l c w hw).mono ?_
  rintro e w' ⟨⟨q, hq, rfl⟩ | ⟨_, rfl⟩, hb⟩
  · exact absurd hq.1 (by simp)
  · exact ⟨rfl, hb⟩
/-- What the reference's Echelon hands back. -/
def RefEch (N : Nat) (orig : List Nat) (w : World) (e : Ending) (w' : World) : Prop :=
  ∃ (M P : List Nat) (A : Option Addr) (c : Nat), e = .returned (.slice A M.length c) ∧ Rref M P ∧ SameSp orig M ∧ MatAt w' 0 A M.length (mkM N M) ∧ Below w.heap.size w w'
set_option maxHeartbeats 16000000 in
theorem refEch_any (N : Nat) (hN : N ≤ 512) (Ms : List Nat) (hL : ∀ r ∈ Ms, r < 2 ^ N) (hlen : Ms.length ≤ 66) (A : Option Addr) (c lo : Nat) (w : World) (hmat : MatAt w lo A Ms.length (mkM N Ms)) :
    Calls Try.prog 13 #[.agg #[.int .i64 (N : Int), .slice A Ms.length c]] w (RefEch N Ms w) := by
  have hW : Below w.heap.size w (w.alloc (.cells #[.int .i64 N, .slice A Ms.length c] 24)) := (Below.refl _ _).alloc (Nat.le_refl _) _
  have Q := Lib.hid (Box.new w 24 #[.int .i64 (N : Int), .slice A Ms.length c])
  have HW := Lib.hid hW
  have HM := Lib.hid hmat
  have HLt := Lib.hid (lt_all hL)
  have HL := Lib.hid hL
  clear hW hmat hL
  obtain ⟨q0, q1, -, -⟩ := Q.out.two
  go_enter Try.func13, Try.ntmps13
  have Q0 := Lib.hid (Q.out.alloc (.cells #[] 40))
  have HB0 := Lib.hid (HW.out.alloc HW.out.size (.cells #[] 40))
  go_wp2_with fail
  clear q0 q1
  go_loopw [3, 11] (fun v t wr => ∃ (i : Nat) (K P : List Nat) (A' : Option Addr) (c' : Nat), .slice A' K.length c' = v ∧ i ≤ Ms.length ∧ t = .int .i64 (i : Int) ∧ Hid (Rref K P) ∧ Hid (SameSp (Ms.take i) K) ∧ Hid (MatAt wr 0 A' K.length (mkM N K)) ∧ Hid (Below w.heap.size w wr)) (fun _ t _ => Ms.length - (intOf t).toNat)
  case atStart => exact ⟨0, [], [], _, _, rfl, Nat.zero_le _, rfl, Lib.hid rref_nil, Lib.hid (by rw [List.take_zero]; exact SameSp.refl _), Lib.hid (MatAt.nil _ _ _), HB0⟩
  case round =>
    obtain ⟨i, K, P, A', c', rfl, hi, rfl, HR, HSp, HK, HB⟩ := hrel
    clear Q0 HB0 Q HW
    by_cases hlt : i < Ms.length
    · have hlt' : (i : Int) < (Ms.length : Int) := by omega
      obtain ⟨b, off, B1, l1, c1, rfl, hbl, x0, x1, hs, hw0⟩ := HM.out.at i hlt
      have hw := hw0.mono (Nat.le_refl _) HB.out
      have x0 := (HB.out.cell (p := ⟨b, off + i * 2, none⟩) hbl).trans x0
      have x1 := (HB.out.cell (p := ⟨b, off + i * 2 + 1, none⟩) hbl).trans x1
      rw [mkM_at N Ms i hlt] at x0 hw
      simp only [mkR] at x0 hw
      have hal : Below wr.heap.size wr (wr.alloc (.cells #[.int .i64 (N : Int), .slice B1 l1 c1] 40)) := (Below.refl _ _).alloc (Nat.le_refl _) _
      have E := Lib.hid (Box.new wr 40 #[.int .i64 (N : Int), .slice B1 l1 c1])
      have HKlt := Lib.hid (same_lt (take_lt' HL.out i) HSp.out)
      have hkl : K.length ≤ 66 := by have := rank_le HR.out HSp.out; rw [List.length_take] at this; omega
      have HLi := Lib.hid (HLt.out i)
      have HLeft := Lib.hid (left_any N hN K P HR.out HKlt.out (by omega) (Ms.getD i 0) HLi.out A' B1 c' l1 c1 0 _ (HK.out.below hal) hs (hw.below hal))
      have HB := Lib.hid (chain HB.out hal)
      have HK := Lib.hid (HK.out.below hal)
      have HZlt := Lib.hid (leftN_lt (P := P) (lt_all HKlt.out) _ HLi.out K.length)
      clear hal hw hs hw0
      obtain ⟨e0, e1, -, -⟩ := E.out.two
      go_wp2_with fail
      refine HLeft.out.mono ?_
      rintro e y1 ⟨A3, l3, c3, rfl, hs3, hw3, hb⟩
      have hal : Below y1.heap.size y1 (y1.alloc (.cells #[.int .i64 (N : Int), .slice A3 l3 c3] 40)) := (Below.refl _ _).alloc (Nat.le_refl _) _
      have E3 := Lib.hid (Box.new y1 40 #[.int .i64 (N : Int), .slice A3 l3 c3])
      have HW3 := Lib.hid (hw3.below hal)
      have HS3 := Lib.hid hs3
      have HB := Lib.hid (chain (chain HB.out hb) hal)
      have HK := Lib.hid ((HK.out.below hb).below hal)
      clear hal hb hw3 hs3 e0 e1 E HLeft
      obtain ⟨e0, e1, -, -⟩ := E3.out.two
      by_cases hz : leftN K P (Ms.getD i 0) K.length = 0
      · have HStep := Lib.hid (span_step hlt HSp.out (left_same HR.out _ hz))
        rw [hz] at HW3
        clear hz
        go_wp2_with fail
        refine (first_zero N hN A3 l3 c3 _ HW3.out).mono ?_
        rintro e y2 ⟨rfl, hb⟩
        have HB := Lib.hid (chain HB.out hb)
        have HK := Lib.hid (HK.out.below hb)
        clear hb e0 e1
        go_wp2_with fail
        go_roundw
        case rel => exact ⟨i + 1, K, P, A', c', rfl, by omega, by go_num, HR, HStep, HK, HB⟩
        case measure => simp [intOf] <;> omega
      · obtain ⟨a, ha⟩ := low_exists hz
        obtain ⟨m, p1, p2, p3, p4, p5⟩ := put_more HR.out _ a ha
        have HA := Lib.hid ha
        have HStep := Lib.hid (span_step hlt HSp.out p5)
        have HRef := Lib.hid p4
        have hge : (0 : Int) ≤ (a : Int) := by omega
        have HWith := Lib.hid (fun w' (h1 : MatAt w' 0 A' K.length (mkM N K)) (h2 : Words w' A3 l3 (rowOf N (leftN K P (Ms.getD i 0) K.length))) => with_any N hN K P HR.out HKlt.out (by omega) _ a m HZlt.out ha p1 p2 p3 A' A3 c' l3 c3 0 w' h1 HS3.out h2)
        clear hz ha p1 p2 p3 p4 p5
        generalize putW K (leftN K P (Ms.getD i 0) K.length) a m = K2 at *
        generalize putP P a m = P2 at *
        go_wp2_with fail
        refine (first_low N _ a hN HZlt.out HA.out A3 l3 c3 _ HW3.out).mono ?_
        rintro e y2 ⟨rfl, hb⟩
        have E3 := Lib.hid (E3.out.keep hb)
        have HB := Lib.hid (chain HB.out hb)
        have HK := Lib.hid (HK.out.below hb)
        have HW3 := Lib.hid (HW3.out.below hb)
        clear hb e0 e1
        obtain ⟨e0, e1, -, -⟩ := E3.out.two
        go_wp2_with fail
        refine (HWith.out _ HK.out HW3.out).mono ?_
        rintro e y3 ⟨A5, c5, rfl, hm5, hb⟩
        have HB := Lib.hid (chain HB.out hb)
        have HK5 := Lib.hid hm5
        clear hb hm5 e0 e1
        go_wp2_with fail
        go_roundw
        case rel => exact ⟨i + 1, K2, P2, A5, c5, rfl, by omega, by go_num, HRef, HStep, HK5, HB⟩
        case measure => simp [intOf] <;> omega
    · obtain rfl : i = Ms.length := by omega
      have hlt' : ¬ (Ms.length : Int) < (Ms.length : Int) := by omega
      have hsp := HSp.out
      rw [List.take_length] at hsp
      go_wp2_with fail
      go_ret
      exact ⟨K, P, A', c', rfl, HR.out, hsp, HK.out, HB.out⟩
end
section
/- How many bits of a word are 1, byte by byte, and folded. No program. -/
set_option linter.unusedVariables false
set_option linter.unusedSimpArgs false
/-- A number by its bytes, the lowest first. -/
def valB : List Nat → Nat
  | [] => 0
  | c :: cs => c + 256 * valB cs
theorem valB_and (m : Nat) (hm : m < 256) : ∀ cs : List Nat, (∀ c ∈ cs, c < 256) → valB cs &&& valB (List.replicate cs.length m) = valB (cs.map (· &&& m))
  | [], _ => by simp [valB]
  | c :: cs, h => by
    have hc : c < 256 := h c (by simp)
    have ih := valB_and m hm cs (fun x hx => h x (by simp [hx]))
    have e1 : (valB (c :: cs) &&& valB (List.replicate (c :: cs).length m)) / 2 ^ 8 = valB (c :: cs) / 2 ^ 8 &&& valB (List.replicate (c :: cs).length m) / 2 ^ 8 := Nat.and_div_two_pow
    have e2 : (valB (c :: cs) &&& valB (List.replicate (c :: cs).length m)) % 2 ^ 8 = (valB (c :: cs) % 2 ^ 8) &&& (valB (List.replicate (c :: cs).length m) % 2 ^ 8) := Nat.and_mod_two_pow
    simp only [List.length_cons, List.replicate_succ, valB] at *
    rw [show (c + 256 * valB cs) / 2 ^ 8 = valB cs by omega, show (m + 256 * valB (List.replicate cs.length m)) / 2 ^ 8 = valB (List.replicate cs.length m) by omega, ih] at e1
    rw [show (c + 256 * valB cs) % 2 ^ 8 = c by omega, show (m + 256 * valB (List.replicate cs.length m)) % 2 ^ 8 = m by omega] at e2
    have := Nat.div_add_mod ((c + 256 * valB cs) &&& (m + 256 * valB (List.replicate cs.length m))) (2 ^ 8)
    rw [e1, e2] at this
    simp only [List.map_cons, valB]
    omega
/-- Bytes shifted down by k bits. -/
def shrB (p q : Nat) : List Nat → List Nat
  | [] => []
  | [c] => [c / p]
  | c :: d :: r => (c / p + d % p * q) :: shrB p q (d :: r)
theorem div_cut (c p q y : Nat) (hp : 0 < p) (e : p * q = 256) : (c + 256 * y) / p = c / p + q * y := by
  rw [← e, Nat.mul_assoc, Nat.add_mul_div_left _ _ hp]
theorem shrB_val (p q : Nat) (hp : 0 < p) (e : p * q = 256) : ∀ cs : List Nat, valB (shrB p q cs) = valB cs / p
  | [] => by simp [shrB, valB]
  | [c] => by simp [shrB, valB]
  | c :: d :: r => by
    have ih := shrB_val p q hp e (d :: r)
    show c / p + d % p * q + 256 * valB (shrB p q (d :: r)) = (c + 256 * valB (d :: r)) / p
    rw [ih, div_cut c p q _ hp e, ← e]
    have h1 := Nat.div_add_mod (valB (d :: r)) p
    have h2 : valB (d :: r) % p = d % p := by
      simp only [valB]
      rw [← e, Nat.mul_assoc, Nat.add_mul_mod_self_left]
    rw [h2] at h1
    have h3 : q * valB (d :: r) = q * (p * (valB (d :: r) / p) + d % p) := by rw [h1]
    rw [h3, Nat.mul_add, Nat.mul_comm (d % p) q, ← Nat.mul_assoc q p, Nat.mul_comm q p]
    omega
theorem shrB_len (p q : Nat) : ∀ cs : List Nat, (shrB p q cs).length = cs.length
  | [] => rfl
  | [c] => rfl
  | c :: d :: r => by simp only [shrB, List.length_cons]; rw [shrB_len p q (d :: r)]; rfl
theorem shrB_lt (p q : Nat) (hp : 0 < p) (e : p * q = 256) : ∀ cs : List Nat, (∀ c ∈ cs, c < 256) → ∀ c ∈ shrB p q cs, c < 256
  | [], _ => by simp [shrB]
  | [c], h => by
    intro x hx
    have : x = c / p := by simpa [shrB] using hx
    have := h c (by simp)
    have := Nat.div_le_self c p
    omega
  | c :: d :: r, h => by
    intro x hx
    rcases List.mem_cons.1 (show x ∈ (c / p + d % p * q) :: shrB p q (d :: r) from hx) with rfl | hx
    · have h1 := h c (by simp)
      have h2 : c / p < q := by rw [Nat.div_lt_iff_lt_mul hp, Nat.mul_comm, e]; exact h1
      have h3 : d % p < p := Nat.mod_lt _ hp
      have h4 : (d % p + 1) * q ≤ p * q := Nat.mul_le_mul_right _ h3
      rw [Nat.add_mul, Nat.one_mul, e] at h4
      omega
    · exact shrB_lt p q hp e (d :: r) (fun y hy => h y (by simp [hy])) x hx
theorem valB_add : ∀ xa bs : List Nat, xa.length = bs.length → valB xa + valB bs = valB (List.zipWith (· + ·) xa bs)
  | [], [], _ => rfl
  | a :: xa, b :: bs, h => by
    have ih := valB_add xa bs (by simpa using h)
    simp only [valB, List.zipWith_cons_cons]
    omega
  | [], _ :: _, h => by simp at h
  | _ :: _, [], h => by simp at h
/-- Two masked halves put together, byte by byte. -/
theorem half_map (p q m : Nat) (f : Nat → Nat) (hf : ∀ c, c < 256 → ∀ z, z < p → ((c / p + z * q) &&& m) + (c &&& m) = f c) (hf0 : ∀ c, c < 256 → ((c / p) &&& m) + (c &&& m) = f c) (hp : 0 < p) :
    ∀ cs : List Nat, (∀ c ∈ cs, c < 256) → List.zipWith (· + ·) ((shrB p q cs).map (· &&& m)) (cs.map (· &&& m)) = cs.map f
  | [], _ => rfl
  | [c], h => by simp [shrB, hf0 c (h c (by simp))]
  | c :: d :: r, h => by
    have ih := half_map p q m f hf hf0 hp (d :: r) (fun y hy => h y (by simp [hy]))
    simp only [shrB, List.map_cons, List.zipWith_cons_cons] at *
    rw [ih, hf c (h c (by simp)) (d % p) (Nat.mod_lt _ hp)]
/-- Two halves put together, and masked, byte by byte. -/
theorem both_map : ∀ cs : List Nat, (List.zipWith (· + ·) (shrB 16 16 cs) cs).map (· &&& 15) = cs.map fun c => (c / 16 + c) % 16
  | [] => rfl
  | [c] => by
    simp only [shrB, List.zipWith_cons_cons, List.zipWith_nil_left, List.map_cons, List.map_nil]
    exact congrArg (fun y => [y]) (Nat.and_two_pow_sub_one_eq_mod (c / 16 + c) 4)
  | c :: d :: r => by
    have ih := both_map (d :: r)
    simp only [shrB, List.map_cons, List.zipWith_cons_cons] at *
    rw [ih, show (c / 16 + d % 16 * 16 + c) &&& 15 = (c / 16 + d % 16 * 16 + c) % 2 ^ 4 from Nat.and_two_pow_sub_one_eq_mod _ 4, show (c / 16 + d % 16 * 16 + c) % 2 ^ 4 = (c / 16 + c) % 16 by omega]
theorem both_lt : ∀ cs : List Nat, (∀ c ∈ cs, c / 16 ≤ 4 ∧ c % 16 ≤ 4) → ∀ x ∈ List.zipWith (· + ·) (shrB 16 16 cs) cs, x < 256
  | [], _ => by simp [shrB]
  | [c], h => by
    intro x hx
    have := h c (by simp)
    have : x = c / 16 + c := by simpa [shrB] using hx
    omega
  | c :: d :: r, h => by
    intro x hx
    simp only [shrB, List.zipWith_cons_cons] at hx
    rcases List.mem_cons.1 hx with rfl | hx
    · have h1 := h c (by simp)
      have h2 := h d (by simp)
      omega
    · exact both_lt (d :: r) (fun y hy => h y (by simp [hy])) x hx
def f1 (c : Nat) : Nat := ((c / 2) &&& 85) + (c &&& 85)
def f2 (c : Nat) : Nat := ((c / 4) &&& 51) + (c &&& 51)
/-- How many bits of a byte are 1. -/
def pop8 (c : Nat) : Nat := ((List.range 8).filter c.testBit).length
theorem f1_ok : ∀ c : Fin 256, ∀ z : Fin 2, ((c.val / 2 + z.val * 128) &&& 85) + (c.val &&& 85) = f1 c.val := by decide +kernel
theorem f1_lt : ∀ c : Fin 256, f1 c.val < 171 := by decide +kernel
theorem f2_ok : ∀ c : Fin 256, ∀ z : Fin 4, ((c.val / 4 + z.val * 64) &&& 51) + (c.val &&& 51) = f2 c.val := by decide +kernel
theorem f2_lt : ∀ c : Fin 256, f2 (f1 c.val) / 16 ≤ 4 ∧ f2 (f1 c.val) % 16 ≤ 4 := by decide +kernel
theorem pop_ok : ∀ c : Fin 256, (f2 (f1 c.val) / 16 + f2 (f1 c.val)) % 16 = pop8 c.val := by decide +kernel
theorem pop_le : ∀ c : Fin 256, pop8 c.val ≤ 8 := by decide +kernel
/-- The three steps that count within bytes. -/
def stepA (x : Nat) : Nat := ((x / 2) &&& 6148914691236517205) + (x &&& 6148914691236517205)
def stepB (x : Nat) : Nat := ((x / 4) &&& 3689348814741910323) + (x &&& 3689348814741910323)
def stepC (x : Nat) : Nat := (x / 16 + x) &&& 1085102592571150095
theorem step_half (p q m : Nat) (f : Nat → Nat) (M : Nat) (hm : m < 256) (hp : 0 < p) (e : p * q = 256) (hf : ∀ c : Fin 256, ∀ z : Fin p, ((c.val / p + z.val * q) &&& m) + (c.val &&& m) = f c.val) (cs : List Nat) (h : ∀ c ∈ cs, c < 256) (hM : M = valB (List.replicate cs.length m)) :
    ((valB cs / p) &&& M) + (valB cs &&& M) = valB (cs.map f) := by
  have l1 := shrB_len p q cs
  have e1 := valB_and m hm (shrB p q cs) (shrB_lt p q hp e cs h)
  have e2 := valB_and m hm cs h
  rw [l1, shrB_val p q hp e] at e1
  rw [hM, e1, e2, valB_add _ _ (by simp [l1]), half_map p q m f (fun c hc z hz => hf ⟨c, hc⟩ ⟨z, hz⟩) (fun c hc => by have := hf ⟨c, hc⟩ ⟨0, hp⟩; simpa using this) hp cs h]
theorem steps (cs : List Nat) (h : ∀ c ∈ cs, c < 256) (h8 : cs.length = 8) : stepC (stepB (stepA (valB cs))) = valB (cs.map pop8) ∧ stepA (valB cs) = valB (cs.map f1) ∧ stepB (stepA (valB cs)) = valB (cs.map fun c => f2 (f1 c)) := by
  have a1 : stepA (valB cs) = valB (cs.map f1) := step_half 2 128 85 f1 _ (by decide) (by decide) rfl f1_ok cs h (by rw [h8]; decide)
  have hb : ∀ c ∈ cs.map f1, c < 256 := by
    intro x hx
    obtain ⟨c, hc, rfl⟩ := List.mem_map.1 hx
    have := f1_lt ⟨c, h c hc⟩
    simp only at this
    omega
  have a2 : stepB (valB (cs.map f1)) = valB ((cs.map f1).map f2) := step_half 4 64 51 f2 _ (by decide) (by decide) rfl f2_ok _ hb (by rw [List.length_map, h8]; decide)
  rw [List.map_map] at a2
  refine ⟨?_, a1, by rw [a1, a2]; rfl⟩
  rw [a1, a2]
  unfold stepC
  have hc : ∀ x ∈ cs.map (f2 ∘ f1), x / 16 ≤ 4 ∧ x % 16 ≤ 4 := by
    intro x hx
    obtain ⟨c, hc, rfl⟩ := List.mem_map.1 hx
    exact f2_lt ⟨c, h c hc⟩
  rw [← shrB_val 16 16 (by decide) rfl, valB_add _ _ (by rw [shrB_len])]
  have e3 := valB_and 15 (by decide) _ (both_lt _ hc)
  have hl : (List.zipWith (· + ·) (shrB 16 16 (cs.map (f2 ∘ f1))) (cs.map (f2 ∘ f1))).length = 8 := by simp [shrB_len, h8]
  rw [hl, both_map, List.map_map] at e3
  rw [show (1085102592571150095 : Nat) = valB (List.replicate 8 15) by decide, e3]
  congr 1
  apply List.map_congr_left
  intro c hc
  exact pop_ok ⟨c, h c hc⟩
/-- The bytes of a word. -/
def bytesW (x : Nat) : List Nat := (List.range 8).map fun i => x / 256 ^ i % 256
theorem bytesW_eq (x : Nat) : bytesW x = [x % 256, x / 256 % 256, x / 65536 % 256, x / 16777216 % 256, x / 4294967296 % 256, x / 1099511627776 % 256, x / 281474976710656 % 256, x / 72057594037927936 % 256] := by simp [bytesW, List.range_succ]
theorem bytesW_val (x : Nat) (h : x < 18446744073709551616) : valB (bytesW x) = x := by
  rw [bytesW_eq]
  simp only [valB]
  omega
/-- The sums of bytes, folded. -/
theorem fold_sum (a b c d e f g i : Nat) (h : a ≤ 8 ∧ b ≤ 8 ∧ c ≤ 8 ∧ d ≤ 8 ∧ e ≤ 8 ∧ f ≤ 8 ∧ g ≤ 8 ∧ i ≤ 8) (z t u v : Nat) (hz : z = valB [a, b, c, d, e, f, g, i]) (ht : t = z + z / 256) (hu : u = t + t / 65536) (hv : v = u + u / 4294967296) :
    v % 128 = a + b + c + d + e + f + g + i ∧ v < 18446744073709551616 := by
  simp only [valB] at hz
  have t1 : t = (a + b) + 256 * ((b + c) + 256 * ((c + d) + 256 * ((d + e) + 256 * ((e + f) + 256 * ((f + g) + 256 * ((g + i) + 256 * i)))))) := by omega
  clear ht hz
  have u1 : u = (a + b + c + d) + 256 * ((b + c + d + e) + 256 * ((c + d + e + f) + 256 * ((d + e + f + g) + 256 * ((e + f + g + i) + 256 * ((f + g + i) + 256 * ((g + i) + 256 * i)))))) := by omega
  clear hu t1
  have v1 : u / 4294967296 = (e + f + g + i) + 256 * ((f + g + i) + 256 * ((g + i) + 256 * i)) := by omega
  rw [v1, u1] at hv
  omega
/-- How many of the first m bits are 1. -/
def popW (x m : Nat) : Nat := ((List.range m).filter x.testBit).length
theorem popW_step (x m : Nat) : popW x (m + 8) = popW x m + pop8 (x / 2 ^ m % 256) := by
  unfold popW pop8
  rw [List.range_add, List.filter_append, List.length_append, List.filter_map, List.length_map]
  congr 2
  apply List.filter_congr
  intro j hj
  have hj : j < 8 := by simpa using hj
  show x.testBit (m + j) = _
  rw [show (256 : Nat) = 2 ^ 8 from rfl, Nat.testBit_mod_two_pow, Nat.testBit_div_two_pow, Nat.add_comm]
  simp [hj]
theorem popW_bytes (x : Nat) : popW x 64 = pop8 (x % 256) + pop8 (x / 256 % 256) + pop8 (x / 65536 % 256) + pop8 (x / 16777216 % 256) + pop8 (x / 4294967296 % 256) + pop8 (x / 1099511627776 % 256) + pop8 (x / 281474976710656 % 256) + pop8 (x / 72057594037927936 % 256) := by
  have s0 := popW_step x 0
  have s1 := popW_step x 8
  have s2 := popW_step x 16
  have s3 := popW_step x 24
  have s4 := popW_step x 32
  have s5 := popW_step x 40
  have s6 := popW_step x 48
  have s7 := popW_step x 56
  have z : popW x 0 = 0 := rfl
  simp only [Nat.reduceAdd, Nat.reducePow, Nat.div_one] at s0 s1 s2 s3 s4 s5 s6 s7
  omega
/-- The library's count of a word's bits, step by step. -/
theorem count_word (x : Nat) (hx : x < 18446744073709551616) (z t u v : Nat) (hz : z = stepC (stepB (stepA x))) (ht : t = z + z / 256) (hu : u = t + t / 65536) (hv : v = u + u / 4294967296) : v % 128 = popW x 64 ∧ v < 18446744073709551616 := by
  have hb : ∀ c ∈ bytesW x, c < 256 := by
    intro c hc
    rw [bytesW] at hc
    obtain ⟨i, -, rfl⟩ := List.mem_map.1 hc
    exact Nat.mod_lt _ (by omega)
  have h1 := (steps (bytesW x) hb (by simp [bytesW])).1
  rw [bytesW_val x hx] at h1
  rw [h1, bytesW_eq] at hz
  rw [popW_bytes]
  have hp : ∀ y : Nat, pop8 (y % 256) ≤ 8 := fun y => pop_le ⟨y % 256, Nat.mod_lt _ (by omega)⟩
  exact fold_sum _ _ _ _ _ _ _ _ ⟨hp x, hp _, hp _, hp _, hp _, hp _, hp _, hp _⟩ z t u v hz ht hu hv
theorem steps_small (x : Nat) : stepA x < 18446744073709551616 ∧ stepB (stepA x) < 18446744073709551616 ∧ stepA x = ((x / 2) &&& 6148914691236517205) + (x &&& 6148914691236517205) := by
  have h1 : (x / 2) &&& 6148914691236517205 ≤ 6148914691236517205 := Nat.and_le_right
  have h2 : x &&& 6148914691236517205 ≤ 6148914691236517205 := Nat.and_le_right
  have h3 : (stepA x / 4) &&& 3689348814741910323 ≤ 3689348814741910323 := Nat.and_le_right
  have h4 : stepA x &&& 3689348814741910323 ≤ 3689348814741910323 := Nat.and_le_right
  refine ⟨?_, ?_, rfl⟩
  · unfold stepA; omega
  · show (stepA x / 4 &&& 3689348814741910323) + (stepA x &&& 3689348814741910323) < _; omega
end
section
/- The lowest bit of a word: how a word is cut at it. No program. -/
set_option linter.unusedVariables false
set_option linter.unusedSimpArgs false
theorem odd_form (x : Nat) (h : 0 < x) : ∃ i m, x = 2 ^ i * (2 * m + 1) := by
  induction x using Nat.strongRecOn with
  | ind x ih =>
    by_cases hp : x % 2 = 1
    · exact ⟨0, x / 2, by simp; omega⟩
    · obtain ⟨i, m, e⟩ := ih (x / 2) (by omega) (by omega)
      refine ⟨i + 1, m, ?_⟩
      have h2 : x = 2 * (x / 2) := by omega
      rw [h2, e, Nat.pow_succ, Nat.mul_comm (2 ^ i) 2, Nat.mul_assoc]
theorem odd_bit (i m j : Nat) : (2 ^ i * (2 * m + 1)).testBit j = if j < i then false else if j = i then true else m.testBit (j - i - 1) := by
  rw [Nat.testBit_two_pow_mul]
  by_cases h : j < i
  · simp [h, Nat.not_le.2 h]
  · by_cases e : j = i
    · subst e; simp
    · obtain ⟨d, rfl⟩ : ∃ d, j = i + (d + 1) := ⟨j - i - 1, by omega⟩
      have h1 : i + (d + 1) - i = d + 1 := by omega
      have h2 : d + 1 - 1 = d := by omega
      rw [h1, h2]
      simp [Nat.testBit_succ, show (2 * m + 1) / 2 = m by omega]
theorem odd_bit1 (i m j : Nat) : (2 ^ i * (2 * m + 1) - 1).testBit j = if j < i then true else if j = i then false else m.testBit (j - i - 1) := by
  have hp : 0 < 2 ^ i := Nat.two_pow_pos i
  have e : 2 ^ i * (2 * m + 1) - 1 = 2 ^ i * (2 * m) + (2 ^ i - 1) := by
    rw [Nat.mul_add, Nat.mul_one]; omega
  rw [e, Nat.testBit_two_pow_mul_add _ (by omega)]
  by_cases h : j < i
  · simp [h, Nat.testBit_two_pow_sub_one]
  · by_cases e : j = i
    · subst e; simp [Nat.testBit_zero]
    · obtain ⟨d, rfl⟩ : ∃ d, j = i + (d + 1) := ⟨j - i - 1, by omega⟩
      have h1 : i + (d + 1) - i = d + 1 := by omega
      have h2 : d + 1 - 1 = d := by omega
      rw [h1, h2]
      simp [Nat.testBit_succ, show 2 * m / 2 = m by omega]
/-- The lowest bit struck off. -/
theorem strike_low (i m : Nat) : (2 ^ i * (2 * m + 1)) &&& (2 ^ i * (2 * m + 1) - 1) = 2 ^ i * (2 * m) := by
  apply Nat.eq_of_testBit_eq
  intro j
  rw [Nat.testBit_and, odd_bit, odd_bit1, Nat.testBit_two_pow_mul]
  by_cases h : j < i
  · simp [h, Nat.not_le.2 h]
  · by_cases e : j = i
    · subst e; simp [Nat.testBit_zero]
    · obtain ⟨d, rfl⟩ : ∃ d, j = i + (d + 1) := ⟨j - i - 1, by omega⟩
      have h1 : i + (d + 1) - i = d + 1 := by omega
      have h2 : d + 1 - 1 = d := by omega
      rw [h1, h2]
      have h3 : ¬ i + (d + 1) < i := h
      simp only [h3, Bool.true_and, if_false, Bool.and_self, Nat.testBit_succ, e, show 2 * m / 2 = m by omega, show i + (d + 1) ≥ i by omega, decide_true]
/-- The lowest bit alone. -/
theorem only_low (i m : Nat) (hx : 2 ^ i * (2 * m + 1) < 18446744073709551616) : (2 ^ i * (2 * m + 1)) &&& (18446744073709551616 - 2 ^ i * (2 * m + 1)) = 2 ^ i := by
  have hp : 0 < 2 ^ i * (2 * m + 1) := Nat.mul_pos (Nat.two_pow_pos i) (by omega)
  have hi : i < 64 := by
    refine Nat.lt_of_not_le fun h => ?_
    have h1 : 2 ^ 64 ≤ 2 ^ i := Nat.pow_le_pow_right (by omega) h
    have h2 : 2 ^ i * 1 ≤ 2 ^ i * (2 * m + 1) := Nat.mul_le_mul_left _ (by omega)
    omega
  apply Nat.eq_of_testBit_eq
  intro j
  have e : 18446744073709551616 - 2 ^ i * (2 * m + 1) = 2 ^ 64 - (2 ^ i * (2 * m + 1) - 1 + 1) := by
    rw [show 2 ^ i * (2 * m + 1) - 1 + 1 = 2 ^ i * (2 * m + 1) by omega]
  rw [e, Nat.testBit_and, Nat.testBit_two_pow_sub_succ (by omega), odd_bit, odd_bit1, Nat.testBit_two_pow]
  by_cases h : j < i
  · simp [h]; omega
  · by_cases e : j = i
    · subst e; simp [hi]
    · have : ¬ i = j := fun h => e h.symm
      simp [h, e, this]
      intro h1 _
      exact h1
/-- The table of places by a de Bruijn word, as the library has it. -/
def dbTab : List Nat := [0, 1, 56, 2, 57, 49, 28, 3, 61, 58, 42, 50, 38, 29, 17, 4, 62, 47, 59, 36, 45, 43, 51, 22, 53, 39, 33, 30, 24, 18, 12, 5, 63, 55, 48, 27, 60, 41, 37, 16, 46, 35, 44, 21, 52, 32, 23, 11, 54, 26, 40, 15, 34, 20, 31, 10, 25, 14, 19, 9, 13, 8, 7, 6]
theorem db_at : ∀ i : Fin 64, dbTab.getD (2 ^ i.val * 285870213051353865 % 18446744073709551616 / 288230376151711744) 99 = i.val := by decide
end
end Go.Proofs.Ytdfmogcgangdnaa
