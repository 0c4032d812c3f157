/- Parts: Re3, Re4, Re5, BitT, Plc, Tz, Ones, OnesP, BackM, MmM, PopM, Oc, OnesQ, OnesF, RefPl. -/
import Derived.Test.YtmfhimeffmpgaaaGreatZh
import Derived.IntWalk
import Derived.Laws.BitsAllLaws
import Derived.LoopIn
import Derived.LoopNIn
import Derived.Maps.AppendAt
import Derived.OwnWalkIn
import Derived.RangeFuncBound
import Derived.RangeFuncBox
import Derived.RangeFuncCalls
import Derived.RangeFuncLeaves
import Derived.RangeFuncNested
import Derived.Shelf.Abstract
import Derived.Shelf.RegionOpen
import Derived.TacticsInMore
namespace Go.Proofs.YtmfhimeffmpgaaaGreat
section
/- The reference's Left. -/
set_option linter.unusedVariables false
set_option linter.unusedSimpArgs false
open Go.RowKit
set_option maxRecDepth 100000
theorem first_low (N x p : Nat) (hN : N ≤ 512) (hx : x < 2 ^ N) (hp : IsLow x p) (A : Option Addr) (l c : Nat) (w : World) (hw : Words w A l (rowOf N x)) :
    Calls Tryz.prog 48 #[.agg #[.int .i64 (N : Int), .slice A l c]] w fun e w' => e = .returned (.int .i64 (p : Int)) ∧ Below w.heap.size w w' := by
  refine (first_any N x hN hx A l c w hw).mono ?_
  rintro e w' ⟨⟨q, hq, rfl⟩ | ⟨rfl, rfl⟩, hb⟩
  · rw [hq.uniq hp]; exact ⟨rfl, hb⟩
  · exact absurd hp.1 (by simp)
theorem low_lt {N x p : Nat} (hx : x < 2 ^ N) (hp : IsLow x p) : p < N := by
  apply Classical.byContradiction
  intro h
  have := Nat.testBit_lt_two_pow (Nat.lt_of_lt_of_le hx (Nat.pow_le_pow_right (by omega) (show N ≤ p by omega)))
  rw [hp.1] at this; cases this
theorem leftN_lt {N : Nat} {L P : List Nat} (hL : ∀ i, L.getD i 0 < 2 ^ N) (x : Nat) (hx : x < 2 ^ N) : ∀ k, leftN L P x k < 2 ^ N
  | 0 => hx
  | k + 1 => by
    unfold leftN
    split
    · exact Nat.xor_lt_two_pow (leftN_lt hL x hx k) (hL k)
    · exact leftN_lt hL x hx k
/-- What Left leaves: a row, its words anywhere. -/
def LeftOut (N z : Nat) (w : World) (e : Ending) (w' : World) : Prop :=
  ∃ A l c, e = .returned (.agg #[.int .i64 (N : Int), .slice A l c]) ∧ SliceOk A l c ∧ Words w' A l (rowOf N z) ∧ Below w.heap.size w w'
theorem left_any (N : Nat) (hN : N ≤ 512) (L P : List Nat) (hR : Rref L P) (hL : ∀ r ∈ L, r < 2 ^ N) (hlen : L.length ≤ 100) (x : Nat) (hx : x < 2 ^ N) (A B : Option Addr) (c l d lo : Nat) (w : World) (hm : MatAt w lo A L.length (mkM N L)) (hs : SliceOk B l d) (hw : Words w B l (rowOf N x)) :
    Calls Tryz.prog 47 #[.slice A L.length c, .agg #[.int .i64 (N : Int), .slice B l d]] w (LeftOut N (leftN L P x L.length) w) := by
  have hW : Below w.heap.size w (w.alloc (.cells #[.int .i64 N, .slice B l d] 56)) := (Below.refl _ _).alloc (Nat.le_refl _) _
  have Q := Lib.hid (Box.new w 56 #[.int .i64 (N : Int), .slice B l d])
  have HWd := Lib.hid (hw.below hW)
  have HW := Lib.hid hW
  have HX := Lib.hid hx
  have HM := Lib.hid hm
  have HS := Lib.hid hs
  have HLt := Lib.hid (lt_all hL)
  clear hw hW hx hm hs
  obtain ⟨q0, q1, -, -⟩ := Q.out.two
  go_enter Tryz.func47, Tryz.ntmps47
  have hW2 := (HW.out.alloc HW.out.size (.cells #[.int .i64 0, .slice none 0 0] 56))
  have Q0 := Lib.hid (Q.out.alloc (.cells #[.int .i64 0, .slice none 0 0] 56))
  have q1' := Box.new (w.alloc (.cells #[.int .i64 N, .slice B l d] 56)) 56 #[.int .i64 0, .slice none 0 0]
  simp only [World.size_alloc] at q1'
  have Q1 := Lib.hid q1'
  have HW0 := Lib.hid (HWd.out.alloc (.cells #[.int .i64 0, .slice none 0 0] 56))
  have HB0 := Lib.hid hW2
  clear hW2 q1'
  go_wp2_with fail
  clear q0 q1
  go_loopw [9] (fun t wr => ∃ (i : Nat) (B' : Option Addr) (l' d' : Nat), i ≤ L.length ∧ t = .int .i64 (i : Int) ∧ Hid (Box wr w.heap.size 56 #[.int .i64 (N : Int), .slice B' l' d']) ∧ Hid (Box wr (w.heap.size + 1) 56 #[.int .i64 0, .slice none 0 0]) ∧ Hid (SliceOk B' l' d') ∧ Hid (Words wr B' l' (rowOf N (leftN L P x i))) ∧ Hid (Below w.heap.size w wr)) (fun t _ => L.length - (intOf t).toNat)
  case atStart => exact ⟨0, B, l, d, Nat.zero_le _, rfl, Q0, Q1, HS, HW0, HB0⟩
  case round =>
    obtain ⟨i, B', l', d', hi, rfl, R0, R1, HS', HWr, HB⟩ := hrel
    clear Q0 Q1 HW0 HB0 HS HWd Q HW
    by_cases hlt : i < L.length
    · have hlt' : (i : Int) < (L.length : Int) := by omega
      obtain ⟨b, off, B1, l1, c1, rfl, hbl, x0, x1, hs, hw⟩ := (HM.out.mono (Nat.le_refl _) HB.out).at i hlt
      rw [mkM_at N L i hlt] at x0 hw
      simp only [mkR] at x0 hw
      have hal : Below wr.heap.size wr (wr.alloc (.cells #[.int .i64 (N : Int), .slice B1 l1 c1] 56)) := (Below.refl _ _).alloc (Nat.le_refl _) _
      have E := Lib.hid (Box.new wr 56 #[.int .i64 (N : Int), .slice B1 l1 c1])
      have R0 := Lib.hid (R0.out.keep hal)
      have R1 := Lib.hid (R1.out.keep hal)
      have HB := Lib.hid (chain HB.out hal)
      have HWx := Lib.hid (hw.below hal)
      have HWr := Lib.hid (HWr.out.below hal)
      have HLow := Lib.hid (hR.low i hlt)
      have HPN := Lib.hid (low_lt (HLt.out i) HLow.out)
      have HLv := Lib.hid (leftN_lt (P := P) HLt.out x HX.out i)
      have HFst := Lib.hid (fun w' (h : Words w' B1 l1 (rowOf N (L.getD i 0))) => first_low N _ _ hN (HLt.out i) HLow.out B1 l1 c1 w' h)
      have HBt := Lib.hid (fun w' (h : Words w' B' l' (rowOf N (leftN L P x i))) => rbit_any N _ _ hN B' l' d' HPN.out w' h)
      have DX := Lib.hid (HWx.out.drew)
      have DR := Lib.hid (HWr.out.drew)
      clear hal hw hs
      obtain ⟨e0, e1, -, -⟩ := E.out.two
      obtain ⟨r0, r1, rf0, rf1⟩ := R0.out.two
      cases hb : (leftN L P x i).testBit (P.getD i 0) with
      | true =>
        rw [hb] at HBt
        have HN := Lib.hid (show leftN L P x (i + 1) = leftN L P x i ^^^ L.getD i 0 by rw [leftN, if_pos hb])
        clear hb
        go_wp2_with fail
        go_region_held3 (fun w' => w'.cell? ⟨w.heap.size, 0, none⟩ = some (.int .i64 (N : Int)) ∧ w'.cell? ⟨w.heap.size, 1, none⟩ = some (.slice B' l' d') ∧ w'.cell? ⟨wr.heap.size, 0, none⟩ = some (.int .i64 (N : Int)) ∧ w'.cell? ⟨wr.heap.size, 1, none⟩ = some (.slice B1 l1 c1)) (go_keep)
          (first
            | (go_at_call 48; refine (HFst.out _ DX.out).mono ?_; rintro f1 y1 ⟨rfl, hb⟩; have R0a := Lib.hid (R0.out.drew.keep hb); have R1a := Lib.hid (R1.out.drew.keep hb); have Ea := Lib.hid (E.out.drew.keep hb); have HBa := Lib.hid (chainN HB.out.drew HB.out.size hb); have DXa := Lib.hid (DX.out.below hb); have DRa := Lib.hid (DR.out.below hb); clear hb; obtain ⟨s0, s1, -, -⟩ := R0a.out.two; obtain ⟨t0, t1, -, -⟩ := Ea.out.two)
            | (go_at_call 64; refine (HBt.out _ DRa.out).mono ?_; rintro f2 y2 ⟨rfl, hb⟩; have R0b := Lib.hid (R0a.out.keep hb); have R1b := Lib.hid (R1a.out.keep hb); have Eb := Lib.hid (Ea.out.keep hb); have HBb := Lib.hid (chainN HBa.out HBa.out.size hb); have DXb := Lib.hid (DXa.out.below hb); have DRb := Lib.hid (DRa.out.below hb); clear hb; obtain ⟨u0, u1, -, -⟩ := R0b.out.two; obtain ⟨v0, v1, -, -⟩ := Eb.out.two))
        clear s0 s1 t0 t1 r0 r1 e0 e1
        go_wp2_with fail
        refine (refXor_num N _ _ hN HLv.out (HLt.out i) B' B1 l' d' l1 c1 _ DRb.out DXb.out).mono ?_
        rw [← HN.out]
        rintro e y3 ⟨A3, l3, c3, rfl, ow, hb⟩
        have R0c := Lib.hid (R0b.out.keep hb)
        have R1c := Lib.hid (R1b.out.keep hb)
        have HBc := Lib.hid (chainN HBb.out HBb.out.size hb)
        have OW := Lib.hid ow
        clear hb ow u0 u1 v0 v1
        obtain ⟨u0, u1, uf0, uf1⟩ := R0c.out.two
        go_wp2_with fail
        go_roundw
        case rel => exact ⟨i + 1, A3, l3, c3, by omega, by go_num, Lib.hid R0c.out.put2, Lib.hid ((R1c.out.far (p := ⟨w.heap.size, 0, none⟩) (by simp) _).far (p := ⟨w.heap.size, 1, none⟩) (by simp) _), Lib.hid OW.out.ok, Lib.hid ((OW.out.words (rowOf_lt N _)).put2 R0c.out _ _), Lib.hid ((HBc.out.setCell (p := ⟨w.heap.size, 0, none⟩) (Nat.le_refl _) _).setCell (p := ⟨w.heap.size, 1, none⟩) (Nat.le_refl _) _)⟩
        case measure => simp [intOf] <;> omega
      | false =>
        rw [hb] at HBt
        have HN := Lib.hid (show leftN L P x (i + 1) = leftN L P x i by rw [leftN, hb]; rfl)
        clear hb
        go_wp2_with fail
        go_region_held3 (fun w' => w'.cell? ⟨w.heap.size, 0, none⟩ = some (.int .i64 (N : Int)) ∧ w'.cell? ⟨w.heap.size, 1, none⟩ = some (.slice B' l' d') ∧ w'.cell? ⟨wr.heap.size, 0, none⟩ = some (.int .i64 (N : Int)) ∧ w'.cell? ⟨wr.heap.size, 1, none⟩ = some (.slice B1 l1 c1)) (go_keep)
          (first
            | (go_at_call 48; refine (HFst.out _ DX.out).mono ?_; rintro f1 y1 ⟨rfl, hb⟩; have R0a := Lib.hid (R0.out.drew.keep hb); have R1a := Lib.hid (R1.out.drew.keep hb); have Ea := Lib.hid (E.out.drew.keep hb); have HBa := Lib.hid (chainN HB.out.drew HB.out.size hb); have DXa := Lib.hid (DX.out.below hb); have DRa := Lib.hid (DR.out.below hb); clear hb; obtain ⟨s0, s1, -, -⟩ := R0a.out.two; obtain ⟨t0, t1, -, -⟩ := Ea.out.two)
            | (go_at_call 64; refine (HBt.out _ DRa.out).mono ?_; rintro f2 y2 ⟨rfl, hb⟩; have R0b := Lib.hid (R0a.out.keep hb); have R1b := Lib.hid (R1a.out.keep hb); have Eb := Lib.hid (Ea.out.keep hb); have HBb := Lib.hid (chainN HBa.out HBa.out.size hb); have DXb := Lib.hid (DXa.out.below hb); have DRb := Lib.hid (DRa.out.below hb); clear hb; obtain ⟨u0, u1, -, -⟩ := R0b.out.two; obtain ⟨v0, v1, -, -⟩ := Eb.out.two))
        clear s0 s1 t0 t1 r0 r1 e0 e1
        go_wp2_with fail
        go_roundw
        case rel => exact ⟨i + 1, B', l', d', by omega, by go_num, R0b, R1b, HS', by rw [HN.out]; exact DRb, HBb⟩
        case measure => simp [intOf] <;> omega
    · obtain rfl : i = L.length := by omega
      have hlt' : ¬ (L.length : Int) < (L.length : Int) := by omega
      obtain ⟨r0, r1, -, -⟩ := R0.out.two
      obtain ⟨s0, s1, sf0, sf1⟩ := R1.out.two
      go_wp2_with fail
      refine close_one Tryz.results47 rfl rfl R1.out.put2 Tryz.underlying56 rfl (by kernel_rfl) ⟨_, _, _, rfl, HS'.out, HWr.out.put2 R1.out _ _, ?_⟩
      exact (HB.out.setCell (p := ⟨w.heap.size + 1, 0, none⟩) (by simp) _).setCell (p := ⟨w.heap.size + 1, 1, none⟩) (by simp) _
end
section
/- The reference's with. -/
set_option linter.unusedVariables false
set_option linter.unusedSimpArgs false
open Go.RowKit
set_option maxRecDepth 100000
/-- A row of the reference's: its words are the argument's (at the world w0) or its own. -/
def RowQ (w0 w : World) (N : Nat) (r : RowV) (x : Nat) : Prop := r.1 = (N : Int) ∧ SliceOk r.2.1 r.2.2.1 r.2.2.2 ∧ (Words w0 r.2.1 r.2.2.1 (rowOf N x) ∨ OwnW w r.2.1 r.2.2.1 r.2.2.2 (rowOf N x))
def RowsQ (w0 w : World) (base : Nat) (v : Value) (N : Nat) (K : List Nat) : Prop :=
  ∃ rs : List RowV, rs.length = K.length ∧ w.ownsRow base 56 2 v K.length (rowCells rs) ∧ ∀ j, j < K.length → RowQ w0 w N (rs.getD j (0, none, 0, 0)) (K.getD j 0)
theorem RowQ.below {w0 w w' : World} {N : Nat} {r : RowV} {x : Nat} (h : RowQ w0 w N r x) (hb : Below w.heap.size w w') : RowQ w0 w' N r x := ⟨h.1, h.2.1, h.2.2.imp id (fun o => o.below hb)⟩
theorem RowsQ.below {w0 w w' : World} {base : Nat} {v : Value} {N : Nat} {K : List Nat} (h : RowsQ w0 w base v N K) (hb : Below w.heap.size w w') : RowsQ w0 w' base v N K := by
  obtain ⟨rs, h1, h2, h3⟩ := h
  exact ⟨rs, h1, own_keep h2 hb, fun j hj => (h3 j hj).below hb⟩
theorem RowsQ.appended {w0 w : World} {base : Nat} {v : Value} {N : Nat} {K : List Nat} {B : Option Addr} {l d y : Nat} (h : RowsQ w0 w base v N K) (hn : RowQ w0 w N ((N : Int), B, l, d) y) :
    ∃ rs : List RowV, (w.alloc (.cells #[.int .i64 (N : Int), .slice B l d] 56)).ownsRow base 56 2 v K.length (rowCells rs) ∧ ∀ v' w1, w1.ownsRow base 56 2 v' (K.length + 1) (rowCells rs ++ [.int .i64 (N : Int), .slice B l d]) → (w.alloc (.cells #[.int .i64 (N : Int), .slice B l d] 56)).grownBy w1 v.ownBlock → RowsQ w0 w1 base v' N (K ++ [y]) := by
  obtain ⟨rs, h1, h2, h3⟩ := h
  have h2' := World.ownsRow.alloc h2 (.cells #[.int .i64 (N : Int), .slice B l d] 56)
  have al : Below w.heap.size w (w.alloc (.cells #[.int .i64 (N : Int), .slice B l d] 56)) := (Below.refl _ _).alloc (Nat.le_refl _) _
  refine ⟨rs, h2', fun v' w1 ho hg => ⟨rs ++ [((N : Int), B, l, d)], by simp [h1], by rw [rowCells_snoc, List.length_append]; exact ho, fun j hj => ?_⟩⟩
  have gr : ∀ {r : RowV} {x : Nat}, RowQ w0 w N r x → RowQ w0 w1 N r x := fun q => ⟨q.1, q.2.1, q.2.2.imp id (fun o => (o.below al).grown h2' (by decide) hg)⟩
  rw [List.length_append] at hj
  by_cases hm : j < K.length
  · have e1 : (rs ++ [((N : Int), B, l, d)]).getD j (0, none, 0, 0) = rs.getD j (0, none, 0, 0) := by simp only [List.getD]; rw [List.getElem?_append_left (by omega)]
    have e2 : (K ++ [y]).getD j 0 = K.getD j 0 := by simp only [List.getD]; rw [List.getElem?_append_left (by omega)]
    rw [e1, e2]; exact gr (h3 j hm)
  · obtain rfl : j = K.length := by simp at hj; omega
    have e1 : (rs ++ [((N : Int), B, l, d)]).getD K.length (0, none, 0, 0) = ((N : Int), B, l, d) := by rw [← h1]; simp [List.getD]
    have e2 : (K ++ [y]).getD K.length 0 = y := by simp [List.getD]
    rw [e1, e2]; exact gr hn
theorem RowsQ.mat {w0 w : World} {base : Nat} {v : Value} {N : Nat} {K : List Nat} (h : RowsQ w0 w base v N K) {B : Nat} (hB : w0.heap.size ≤ B) (hb : Below B w0 w) : ∃ A c, v = .slice A K.length c ∧ K.length ≤ c ∧ MatAt w 0 A K.length (mkM N K) := by
  obtain ⟨rs, h1, h2, h3⟩ := h
  obtain ⟨A, c, e, hc, hm⟩ := own_mat h2 h1 (mkM N K) (mkM_len N K) (fun j hj => by
    obtain ⟨a1, a2, a3⟩ := h3 j hj
    rw [mkM_at N K j hj]
    exact ⟨a1, a2, by rcases a3 with a3 | a3; exact a3.mono hB hb; exact a3.words (rowOf_lt N _)⟩)
  exact ⟨A, c, e, hc, hm.low (Nat.zero_le _)⟩
/-- The rows ahead of the new one, i of the old ones looked at. -/
def withP (L : List Nat) (z a m i : Nat) : List Nat := (L.take (min i m)).map (fun x => if x.testBit a then x ^^^ z else x)
theorem withP_lt (L : List Nat) (z a m i : Nat) (hi : i < m) (hl : i < L.length) : withP L z a m (i + 1) = withP L z a m i ++ [if (L.getD i 0).testBit a then L.getD i 0 ^^^ z else L.getD i 0] := by
  unfold withP
  rw [Nat.min_eq_left (by omega), Nat.min_eq_left (by omega), List.take_succ_eq_append_getElem hl, List.map_append]
  simp [List.getD, hl]
theorem withP_ge (L : List Nat) (z a m i : Nat) (hi : m ≤ i) : withP L z a m (i + 1) = withP L z a m i := by
  unfold withP
  rw [Nat.min_eq_right (by omega), Nat.min_eq_right (by omega)]
theorem withP_len (L : List Nat) (z a m i : Nat) : (withP L z a m i).length ≤ L.length := by
  unfold withP; rw [List.length_map, List.length_take]; omega
/-- The rows behind it. -/
def withD (L : List Nat) (m i : Nat) : List Nat := (L.drop m).take (i - m)
theorem withD_lt (L : List Nat) (m i : Nat) (hi : i < m) : withD L m (i + 1) = withD L m i := by
  unfold withD; rw [show i + 1 - m = 0 by omega, show i - m = 0 by omega]
theorem withD_ge (L : List Nat) (m i : Nat) (hi : m ≤ i) (hl : i < L.length) : withD L m (i + 1) = withD L m i ++ [L.getD i 0] := by
  unfold withD
  rw [show i + 1 - m = (i - m) + 1 by omega, List.take_succ_eq_append_getElem (by rw [List.length_drop]; omega)]
  simp [List.getD, hl, show m + (i - m) = i by omega]
theorem withD_len (L : List Nat) (m i : Nat) : (withD L m i).length ≤ L.length := by
  unfold withD; rw [List.length_take, List.length_drop]; omega
theorem with_all (L : List Nat) (z a m : Nat) (hm : m ≤ L.length) : (withP L z a m L.length ++ [z]) ++ withD L m L.length = putW L z a m := by
  unfold withP withD putW
  have e : (L.drop m).take (L.length - m) = L.drop m := List.take_of_length_le (by rw [List.length_drop]; omega)
  rw [Nat.min_eq_right hm, e]
  simp
theorem own_empty4 (W : World) (base e : Nat) (hb : base ≤ W.heap.size) : (W.alloc (.cells #[] e)).ownsRow base e 2 (.slice (some ⟨W.heap.size, 0, none⟩) 0 0) 0 [] :=
  ⟨by simp, .inr ⟨W.heap.size, 0, #[], rfl, hb, heap_alloc_new W _, Nat.le_refl _, Nat.zero_le _, by simp, by simp⟩⟩
/-- What with hands back. -/
def WithOut (N : Nat) (K : List Nat) (w : World) (e : Ending) (w' : World) : Prop :=
  ∃ A c, e = .returned (.slice A K.length c) ∧ MatAt w' 0 A K.length (mkM N K) ∧ Below w.heap.size w w'
set_option maxHeartbeats 16000000 in
theorem with_any (N : Nat) (hN : N ≤ 512) (L P : List Nat) (hR : Rref L P) (hL : ∀ r ∈ L, r < 2 ^ N) (hlen : L.length ≤ 100) (z a m : Nat) (hz : z < 2 ^ N) (hla : IsLow z a) (hm : m ≤ L.length) (hm1 : ∀ i, i < m → P.getD i 0 < a) (hm2 : ∀ i, m ≤ i → i < L.length → a < P.getD i 0) (A B : Option Addr) (c l d lo : Nat) (w : World) (hmat : MatAt w lo A L.length (mkM N L)) (hs : SliceOk B l d) (hw : Words w B l (rowOf N z)) :
    Calls Tryz.prog 49 #[.slice A L.length c, .agg #[.int .i64 (N : Int), .slice B l d]] w (WithOut N (putW L z a m) w) := by
  have hW : Below w.heap.size w (w.alloc (.cells #[.int .i64 N, .slice B l d] 56)) := (Below.refl _ _).alloc (Nat.le_refl _) _
  have Q := Lib.hid (Box.new w 56 #[.int .i64 (N : Int), .slice B l d])
  have HWd := Lib.hid (hw.below hW)
  have HW := Lib.hid hW
  have HX := Lib.hid hz
  have HM := Lib.hid hmat
  have HS := Lib.hid hs
  have HLt := Lib.hid (lt_all hL)
  have HAN := Lib.hid (low_lt hz hla)
  have HFst := Lib.hid (fun w' (h : Words w' B l (rowOf N z)) => first_low N z a hN hz hla B l d w' h)
  have HW0 := Lib.hid hw
  obtain ⟨i0, hi0, hz0, hz1, hz2⟩ := info_parts row_infoM
  have HI := Lib.hid hi0
  have HZ0 := Lib.hid hz0
  have HZ1 := Lib.hid hz1
  have HZ2 := Lib.hid hz2
  clear hi0 hz0 hz1 hz2
  clear hw hW hz hmat hs
  obtain ⟨q0, q1, -, -⟩ := Q.out.two
  go_enter Tryz.func49, Tryz.ntmps49
  go_wp2_with fail
  refine (HFst.out _ HWd.out).mono ?_
  rintro e x1 ⟨rfl, hb⟩
  have Q1 := Lib.hid (Q.out.keep hb)
  have HB1 := Lib.hid (chainN HW.out HW.out.size hb)
  have HWd1 := Lib.hid (HWd.out.below hb)
  clear hb q0 q1
  obtain ⟨q0, q1, -, -⟩ := Q1.out.two
  have hoe := own_empty4 x1 (w.heap.size + 1) 56 (by have := Q1.out.lt; omega)
  have Q2 := Lib.hid (Q1.out.alloc (.cells #[] 56))
  have HB2 := Lib.hid (HB1.out.alloc HB1.out.size (.cells #[] 56))
  have HO2 := Lib.hid (show RowsQ w (x1.alloc (.cells #[] 56)) (w.heap.size + 1) (.slice (some ⟨x1.heap.size, 0, none⟩) 0 0) N (withP L z a m 0) from ⟨[], by simp [withP], by simpa [withP, rowCells] using hoe, fun j hj => by simp [withP] at hj⟩)
  clear hoe
  go_wp2_with fail
  clear q0 q1
  go_loopw [6, 16] (fun v t wr => ∃ (i : Nat) (v' : Value), v' = v ∧ i ≤ L.length ∧ t = .int .i64 (i : Int) ∧ Hid (RowsQ w wr (w.heap.size + 1) v' N (withP L z a m i)) ∧ Hid (Box wr w.heap.size 56 #[.int .i64 (N : Int), .slice B l d]) ∧ Hid (Below w.heap.size w wr)) (fun _ t _ => L.length - (intOf t).toNat)
  case atStart => exact ⟨0, _, rfl, Nat.zero_le _, rfl, HO2, Q2, HB2⟩
  case round =>
    obtain ⟨i, v, rfl, hi, rfl, HRo, R0, HB⟩ := hrel
    clear Q2 HB2 HO2 Q1 HB1 HWd1 HWd HW Q
    by_cases hlt : i < L.length
    · have hlt' : (i : Int) < (L.length : Int) := by omega
      have hwl := withP_len L z a m i
      obtain ⟨b, off, B1, l1, c1, rfl, hbl, x0, x1, hs, hw0⟩ := HM.out.at i hlt
      have hw := hw0.mono (Nat.le_refl _) HB.out
      have x0 := (HB.out.cell (p := ⟨b, off + i * 2, none⟩) hbl).trans x0
      have x1 := (HB.out.cell (p := ⟨b, off + i * 2 + 1, none⟩) hbl).trans x1
      rw [mkM_at N L i hlt] at x0 hw hw0
      simp only [mkR] at x0 hw hw0
      have hal : Below wr.heap.size wr (wr.alloc (.cells #[.int .i64 (N : Int), .slice B1 l1 c1] 56)) := (Below.refl _ _).alloc (Nat.le_refl _) _
      have E := Lib.hid (Box.new wr 56 #[.int .i64 (N : Int), .slice B1 l1 c1])
      have HC := Lib.hid hal
      have HWx := Lib.hid (hw.below hal)
      have RQ0 := Lib.hid (show ∀ W', RowQ w W' N ((N : Int), B1, l1, c1) (L.getD i 0) from fun W' => ⟨rfl, hs, .inl hw0⟩)
      have HLow := Lib.hid (hR.low i hlt)
      have HF := Lib.hid (fun w' (h : Words w' B1 l1 (rowOf N (L.getD i 0))) => first_low N _ _ hN (HLt.out i) HLow.out B1 l1 c1 w' h)
      have HBt := Lib.hid (fun w' (h : Words w' B1 l1 (rowOf N (L.getD i 0))) => rbit_any N _ _ hN B1 l1 c1 HAN.out w' h)
      have HLi := Lib.hid (HLt.out i)
      have HM1 := Lib.hid (hm1 i)
      have HM2 := Lib.hid (fun h => hm2 i h hlt)
      clear hal hw hs hw0 HLow
      generalize hyy : L.getD i 0 = y at *
      have HY := Lib.hid hyy
      clear hyy
      generalize P.getD i 0 = pi at *
      obtain ⟨e0, e1, -, -⟩ := E.out.two
      by_cases him : i < m
      · have hpa : (pi : Int) < (a : Int) := by have := HM1.out him; omega
        have HWP := Lib.hid (withP_lt L z a m i him hlt)
        rw [HY.out] at HWP
        go_wp2_with fail
        refine (HF.out _ HWx.out).mono ?_
        rintro e y1 ⟨rfl, hb⟩
        have E := Lib.hid (E.out.keep hb)
        have HC := Lib.hid (chain HC.out hb)
        have HWx := Lib.hid (HWx.out.below hb)
        clear hb e0 e1
        obtain ⟨e0, e1, ef0, ef1⟩ := E.out.two
        cases hbt : y.testBit a with
        | true =>
          rw [hbt] at HBt HWP
          clear hbt
          obtain ⟨r0, r1, -, -⟩ := (R0.out.keep HC.out).two
          go_wp2_with fail
          refine (HBt.out _ HWx.out).mono ?_
          rintro e y2 ⟨rfl, hb⟩
          have E := Lib.hid (E.out.keep hb)
          have HC := Lib.hid (chain HC.out hb)
          have HWx := Lib.hid (HWx.out.below hb)
          have HWz := Lib.hid (HW0.out.mono (Nat.le_refl _) (chain HB.out HC.out))
          clear hb e0 e1 ef0 ef1 r0 r1
          obtain ⟨e0, e1, ef0, ef1⟩ := E.out.two
          obtain ⟨r0, r1, -, -⟩ := (R0.out.keep HC.out).two
          go_wp2_with fail
          refine (refXor_num N y z hN HLi.out HX.out B1 B l1 c1 l d _ HWx.out HWz.out).mono ?_
          rintro e y3 ⟨A3, l3, c3, rfl, ow, hb⟩
          have E := Lib.hid (E.out.keep hb)
          have OW := Lib.hid ow
          have HC := Lib.hid (chain HC.out hb)
          clear hb ow e0 e1 ef0 ef1 r0 r1
          obtain ⟨e0, e1, ef0, ef1⟩ := E.out.two
          have HRw := Lib.hid (show RowQ w ((y3.setCell ⟨wr.heap.size, 0, none⟩ (.int .i64 (N : Int))).setCell ⟨wr.heap.size, 1, none⟩ (.slice A3 l3 c3)) N ((N : Int), A3, l3, c3) (y ^^^ z) from ⟨rfl, OW.out.ok, .inr (OW.out.put2 E.out _ _)⟩)
          have E := Lib.hid (E.out.put2 (u := .int .i64 (N : Int)) (v := .slice A3 l3 c3))
          have HC := Lib.hid ((HC.out.setCell (p := ⟨wr.heap.size, 0, none⟩) (Nat.le_refl _) (.int .i64 (N : Int))).setCell (p := ⟨wr.heap.size, 1, none⟩) (Nat.le_refl _) (.slice A3 l3 c3))
          have R0 := Lib.hid (R0.out.keep HC.out)
          have HRo := Lib.hid (HRo.out.below HC.out)
          have HB := Lib.hid (chain HB.out HC.out)
          clear OW HWx HWz HF HBt
          go_upto_region 9 with (fail)
          generalize (y3.setCell ⟨wr.heap.size, 0, none⟩ (.int .i64 (N : Int))).setCell ⟨wr.heap.size, 1, none⟩ (.slice A3 l3 c3) = w8 at *
          clear e0 e1 ef0 ef1
          obtain ⟨e0, e1, ef0, ef1⟩ := E.out.two
          obtain ⟨rs, ho, hnx⟩ := HRo.out.appended HRw.out
          have YO := Lib.hid ho
          have HNx := Lib.hid hnx
          clear ho hnx
          have hkl := hwl
          have Y0 := Lib.hid (R0.out.alloc (.cells #[.int .i64 (N : Int), .slice A3 l3 c3] 56))
          have YB := Lib.hid (HB.out.alloc HB.out.size (.cells #[.int .i64 (N : Int), .slice A3 l3 c3] 56))
          have YBs := Lib.hid (show w.heap.size + 1 ≤ (w8.alloc (.cells #[.int .i64 (N : Int), .slice A3 l3 c3] 56)).heap.size by have := R0.out.lt; simp; omega)
          have N0 := Lib.hid (show v.ownBlock ≠ some w.heap.size from fun e => by have := (YO.out.lt _ e).1; omega)
          have N2 := Lib.hid (show ∀ k, v.ownBlock = some k → w.heap.size ≤ k from fun k hk => by have := (YO.out.lt k hk).1; omega)
          have HNW := Lib.hid (World.news_of_block (Box.new w8 56 #[.int .i64 (N : Int), .slice A3 l3 c3]))
          have ki := HI.out
          have kz0 := HZ0.out
          have kz1 := HZ1.out
          have kz2 := HZ2.out
          go_wp2_with (at_builtin; refine wpList_append_own _ rfl _ _ 26 rfl (w.heap.size + 1) 56 i0 (.agg #[.int .i64 0, .slice none 0 0]) 2 32 Tryz.underlying26 ki kz0 kz1 kz2 rfl (by decide) _ _ _ rfl YO.out ⟨w8.heap.size, 0, none⟩ 1 1 [.int .i64 (N : Int), .slice A3 l3 c3] rfl rfl HNW.out (by simp [Value.oneCell']) (by simp [maxLen]; omega) (by omega) YBs.out ?_; intro v9 w9 hown' hgrow _; have R09 := Lib.hid (Y0.out.grown hgrow N0.out); have HB9 := Lib.hid (YB.out.grown hgrow YB.out.size N2.out); have HR9 := Lib.hid (HNx.out _ _ hown' hgrow); clear hown' hgrow)
          go_wp2_with fail
          go_roundw
          case rel => exact ⟨i + 1, _, rfl, by omega, by go_num, by rw [HWP.out]; exact HR9, R09, HB9⟩
          case measure => simp [intOf] <;> omega
        | false =>
          rw [hbt] at HBt HWP
          clear hbt
          go_wp2_with fail
          refine (HBt.out _ HWx.out).mono ?_
          rintro e y2 ⟨rfl, hb⟩
          have E := Lib.hid (E.out.keep hb)
          have HC := Lib.hid (chain HC.out hb)
          have R0 := Lib.hid (R0.out.keep HC.out)
          have HRo := Lib.hid (HRo.out.below HC.out)
          have HB := Lib.hid (chain HB.out HC.out)
          clear hb HWx HF HBt
          have HRw := Lib.hid (RQ0.out y2)
          clear e0 e1 ef0 ef1
          obtain ⟨e0, e1, ef0, ef1⟩ := E.out.two
          obtain ⟨rs, ho, hnx⟩ := HRo.out.appended HRw.out
          have YO := Lib.hid ho
          have HNx := Lib.hid hnx
          clear ho hnx
          have hkl := hwl
          have Y0 := Lib.hid (R0.out.alloc (.cells #[.int .i64 (N : Int), .slice B1 l1 c1] 56))
          have YB := Lib.hid (HB.out.alloc HB.out.size (.cells #[.int .i64 (N : Int), .slice B1 l1 c1] 56))
          have YBs := Lib.hid (show w.heap.size + 1 ≤ (y2.alloc (.cells #[.int .i64 (N : Int), .slice B1 l1 c1] 56)).heap.size by have := R0.out.lt; simp; omega)
          have N0 := Lib.hid (show v.ownBlock ≠ some w.heap.size from fun e => by have := (YO.out.lt _ e).1; omega)
          have N2 := Lib.hid (show ∀ k, v.ownBlock = some k → w.heap.size ≤ k from fun k hk => by have := (YO.out.lt k hk).1; omega)
          have HNW := Lib.hid (World.news_of_block (Box.new y2 56 #[.int .i64 (N : Int), .slice B1 l1 c1]))
          have ki := HI.out
          have kz0 := HZ0.out
          have kz1 := HZ1.out
          have kz2 := HZ2.out
          go_wp2_with (at_builtin; refine wpList_append_own _ rfl _ _ 26 rfl (w.heap.size + 1) 56 i0 (.agg #[.int .i64 0, .slice none 0 0]) 2 32 Tryz.underlying26 ki kz0 kz1 kz2 rfl (by decide) _ _ _ rfl YO.out ⟨y2.heap.size, 0, none⟩ 1 1 [.int .i64 (N : Int), .slice B1 l1 c1] rfl rfl HNW.out (by simp [Value.oneCell']) (by simp [maxLen]; omega) (by omega) YBs.out ?_; intro v9 w9 hown' hgrow _; have R09 := Lib.hid (Y0.out.grown hgrow N0.out); have HB9 := Lib.hid (YB.out.grown hgrow YB.out.size N2.out); have HR9 := Lib.hid (HNx.out _ _ hown' hgrow); clear hown' hgrow)
          go_wp2_with fail
          go_roundw
          case rel => exact ⟨i + 1, _, rfl, by omega, by go_num, by rw [HWP.out]; exact HR9, R09, HB9⟩
          case measure => simp [intOf] <;> omega
      · have hpa : ¬ (pi : Int) < (a : Int) := by have := HM2.out (by omega); omega
        have HWP := Lib.hid (withP_ge L z a m i (by omega))
        go_wp2_with fail
        refine (HF.out _ HWx.out).mono ?_
        rintro e y1 ⟨rfl, hb⟩
        have E := Lib.hid (E.out.keep hb)
        have HC := Lib.hid (chain HC.out hb)
        have HWx := Lib.hid (HWx.out.below hb)
        clear hb e0 e1
        obtain ⟨e0, e1, ef0, ef1⟩ := E.out.two
        have R0 := Lib.hid (R0.out.keep HC.out)
        have HRo := Lib.hid (HRo.out.below HC.out)
        have HB := Lib.hid (chain HB.out HC.out)
        go_wp2_with fail
        go_roundw
        case rel => exact ⟨i + 1, _, rfl, by omega, by go_num, by rw [HWP.out]; exact HRo, R0, HB⟩
        case measure => simp [intOf] <;> omega
    · obtain rfl : i = L.length := by omega
      have hlt' : ¬ (L.length : Int) < (L.length : Int) := by omega
      have hwl := withP_len L z a m L.length
      have HRq := Lib.hid (show ∀ W', RowQ w W' N ((N : Int), B, l, d) z from fun W' => ⟨rfl, HS.out, .inl HW0.out⟩)
      have HRw := Lib.hid (HRq.out wr)
      obtain ⟨r0, r1, -, -⟩ := R0.out.two
      go_upto_region 11 with (fail)
      obtain ⟨rs, ho, hnx⟩ := HRo.out.appended HRw.out
      have YO := Lib.hid ho
      have HNx := Lib.hid hnx
      clear ho hnx
      have hkl := hwl
      have Y0 := Lib.hid (R0.out.alloc (.cells #[.int .i64 (N : Int), .slice B l d] 56))
      have YB := Lib.hid (HB.out.alloc HB.out.size (.cells #[.int .i64 (N : Int), .slice B l d] 56))
      have YBs := Lib.hid (show w.heap.size + 1 ≤ (wr.alloc (.cells #[.int .i64 (N : Int), .slice B l d] 56)).heap.size by have := R0.out.lt; simp; omega)
      have N0 := Lib.hid (show v.ownBlock ≠ some w.heap.size from fun e => by have := (YO.out.lt _ e).1; omega)
      have N2 := Lib.hid (show ∀ k, v.ownBlock = some k → w.heap.size ≤ k from fun k hk => by have := (YO.out.lt k hk).1; omega)
      have HNW := Lib.hid (World.news_of_block (Box.new wr 56 #[.int .i64 (N : Int), .slice B l d]))
      have ki := HI.out
      have kz0 := HZ0.out
      have kz1 := HZ1.out
      have kz2 := HZ2.out
      go_wp2_with (at_builtin; refine wpList_append_own _ rfl _ _ 26 rfl (w.heap.size + 1) 56 i0 (.agg #[.int .i64 0, .slice none 0 0]) 2 32 Tryz.underlying26 ki kz0 kz1 kz2 rfl (by decide) _ _ _ rfl YO.out ⟨wr.heap.size, 0, none⟩ 1 1 [.int .i64 (N : Int), .slice B l d] rfl rfl HNW.out (by simp [Value.oneCell']) (by simp [maxLen]; omega) (by omega) YBs.out ?_; intro v9 w9 hown' hgrow _; have R09 := Lib.hid (Y0.out.grown hgrow N0.out); have HB9 := Lib.hid (YB.out.grown hgrow YB.out.size N2.out); have HR9 := Lib.hid (HNx.out _ _ hown' hgrow); clear hown' hgrow)
      clear r0 r1
      go_wp2_with fail
      generalize hK1 : withP L z a m L.length ++ [z] = K1 at *
      have hK1l : K1.length ≤ 101 := by rw [← hK1, List.length_append]; simp; omega
      have HAll := Lib.hid (show K1 ++ withD L m L.length = putW L z a m by rw [← hK1]; exact with_all L z a m hm)
      clear hK1 hwl
      go_loopw [6, 42] (fun v t wr => ∃ (i : Nat) (v' : Value), v' = v ∧ i ≤ L.length ∧ t = .int .i64 (i : Int) ∧ Hid (RowsQ w wr (w.heap.size + 1) v' N (K1 ++ withD L m i)) ∧ Hid (Box wr w.heap.size 56 #[.int .i64 (N : Int), .slice B l d]) ∧ Hid (Below w.heap.size w wr)) (fun _ t _ => L.length - (intOf t).toNat)
      case atStart => exact ⟨0, _, rfl, Nat.zero_le _, rfl, by rw [show withD L m 0 = [] by unfold withD; simp, List.append_nil]; exact HR9, R09, HB9⟩
      case round =>
        obtain ⟨i, v, rfl, hi, rfl, HRo, R0, HB⟩ := hrel
        clear R09 HB9 HR9
        by_cases hlt : i < L.length
        · have hlt' : (i : Int) < (L.length : Int) := by omega
          have hwl : (K1 ++ withD L m i).length ≤ 201 := by have := withD_len L m i; rw [List.length_append]; omega
          obtain ⟨b, off, B1, l1, c1, rfl, hbl, x0, x1, hs, hw0⟩ := HM.out.at i hlt
          have hw := hw0.mono (Nat.le_refl _) HB.out
          have x0 := (HB.out.cell (p := ⟨b, off + i * 2, none⟩) hbl).trans x0
          have x1 := (HB.out.cell (p := ⟨b, off + i * 2 + 1, none⟩) hbl).trans x1
          rw [mkM_at N L i hlt] at x0 hw hw0
          simp only [mkR] at x0 hw hw0
          have hal : Below wr.heap.size wr (wr.alloc (.cells #[.int .i64 (N : Int), .slice B1 l1 c1] 56)) := (Below.refl _ _).alloc (Nat.le_refl _) _
          have E := Lib.hid (Box.new wr 56 #[.int .i64 (N : Int), .slice B1 l1 c1])
          have HC := Lib.hid hal
          have HWx := Lib.hid (hw.below hal)
          have RQ0 := Lib.hid (show ∀ W', RowQ w W' N ((N : Int), B1, l1, c1) (L.getD i 0) from fun W' => ⟨rfl, hs, .inl hw0⟩)
          have HLow := Lib.hid (hR.low i hlt)
          have HF := Lib.hid (fun w' (h : Words w' B1 l1 (rowOf N (L.getD i 0))) => first_low N _ _ hN (HLt.out i) HLow.out B1 l1 c1 w' h)
          have HBt := Lib.hid (fun w' (h : Words w' B1 l1 (rowOf N (L.getD i 0))) => rbit_any N _ _ hN B1 l1 c1 HAN.out w' h)
          have HLi := Lib.hid (HLt.out i)
          have HM1 := Lib.hid (hm1 i)
          have HM2 := Lib.hid (fun h => hm2 i h hlt)
          clear hal hw hs hw0 HLow
          generalize hyy : L.getD i 0 = y at *
          have HY := Lib.hid hyy
          clear hyy
          generalize P.getD i 0 = pi at *
          obtain ⟨e0, e1, -, -⟩ := E.out.two
          by_cases him : i < m
          · have hpa : ¬ (a : Int) < (pi : Int) := by have := HM1.out him; omega
            have HWP := Lib.hid (withD_lt L m i him)
            go_wp2_with fail
            refine (HF.out _ HWx.out).mono ?_
            rintro e y1 ⟨rfl, hb⟩
            have E := Lib.hid (E.out.keep hb)
            have HC := Lib.hid (chain HC.out hb)
            have HWx := Lib.hid (HWx.out.below hb)
            clear hb e0 e1
            obtain ⟨e0, e1, ef0, ef1⟩ := E.out.two
            have R0 := Lib.hid (R0.out.keep HC.out)
            have HRo := Lib.hid (HRo.out.below HC.out)
            have HB := Lib.hid (chain HB.out HC.out)
            go_wp2_with fail
            go_roundw
            case rel => exact ⟨i + 1, _, rfl, by omega, by go_num, by rw [HWP.out]; exact HRo, R0, HB⟩
            case measure => simp [intOf] <;> omega
          · have hpa : (a : Int) < (pi : Int) := by have := HM2.out (by omega); omega
            have HWP := Lib.hid (show K1 ++ withD L m (i + 1) = (K1 ++ withD L m i) ++ [y] by rw [withD_ge L m i (by omega) hlt, HY.out, List.append_assoc])
            go_wp2_with fail
            refine (HF.out _ HWx.out).mono ?_
            rintro e y1 ⟨rfl, hb⟩
            have E := Lib.hid (E.out.keep hb)
            have HC := Lib.hid (chain HC.out hb)
            have HWx := Lib.hid (HWx.out.below hb)
            clear hb e0 e1
            obtain ⟨e0, e1, ef0, ef1⟩ := E.out.two
            have R0 := Lib.hid (R0.out.keep HC.out)
            have HRo := Lib.hid (HRo.out.below HC.out)
            have HB := Lib.hid (chain HB.out HC.out)
            have HRw := Lib.hid (RQ0.out y1)
            clear HWx HF HBt
            generalize K1 ++ withD L m i = K2 at *
            go_upto_region 16 with (fail)
            obtain ⟨rs, ho, hnx⟩ := HRo.out.appended HRw.out
            have YO := Lib.hid ho
            have HNx := Lib.hid hnx
            clear ho hnx
            have hkl := hwl
            have Y0 := Lib.hid (R0.out.alloc (.cells #[.int .i64 (N : Int), .slice B1 l1 c1] 56))
            have YB := Lib.hid (HB.out.alloc HB.out.size (.cells #[.int .i64 (N : Int), .slice B1 l1 c1] 56))
            have YBs := Lib.hid (show w.heap.size + 1 ≤ (y1.alloc (.cells #[.int .i64 (N : Int), .slice B1 l1 c1] 56)).heap.size by have := R0.out.lt; simp; omega)
            have N0 := Lib.hid (show v.ownBlock ≠ some w.heap.size from fun e => by have := (YO.out.lt _ e).1; omega)
            have N2 := Lib.hid (show ∀ k, v.ownBlock = some k → w.heap.size ≤ k from fun k hk => by have := (YO.out.lt k hk).1; omega)
            have HNW := Lib.hid (World.news_of_block (Box.new y1 56 #[.int .i64 (N : Int), .slice B1 l1 c1]))
            have ki := HI.out
            have kz0 := HZ0.out
            have kz1 := HZ1.out
            have kz2 := HZ2.out
            go_wp2_with (at_builtin; refine wpList_append_own _ rfl _ _ 26 rfl (w.heap.size + 1) 56 i0 (.agg #[.int .i64 0, .slice none 0 0]) 2 32 Tryz.underlying26 ki kz0 kz1 kz2 rfl (by decide) _ _ _ rfl YO.out ⟨y1.heap.size, 0, none⟩ 1 1 [.int .i64 (N : Int), .slice B1 l1 c1] rfl rfl HNW.out (by simp [Value.oneCell']) (by simp [maxLen]; omega) (by omega) YBs.out ?_; intro v9 w9 hown' hgrow _; have R09 := Lib.hid (Y0.out.grown hgrow N0.out); have HB9 := Lib.hid (YB.out.grown hgrow YB.out.size N2.out); have HR9 := Lib.hid (HNx.out _ _ hown' hgrow); clear hown' hgrow)
            go_wp2_with fail
            go_roundw
            case rel => exact ⟨i + 1, _, rfl, by omega, by go_num, by rw [HWP.out]; exact HR9, R09, HB9⟩
            case measure => simp [intOf] <;> omega
        · obtain rfl : i = L.length := by omega
          have hlt' : ¬ (L.length : Int) < (L.length : Int) := by omega
          rw [HAll.out] at HRo
          obtain ⟨A', c', rfl, -, hmat⟩ := HRo.out.mat (Nat.le_refl _) HB.out
          have HMat := Lib.hid hmat
          clear hmat
          go_wp2_with fail
          go_ret
          exact ⟨A', c', rfl, HMat.out, HB.out⟩
end
section
/- The reference's Echelon. -/
set_option linter.unusedVariables false
set_option linter.unusedSimpArgs false
open Go.RowKit
set_option maxRecDepth 100000
theorem same_lt {n : Nat} {L M : List Nat} (h : ∀ r ∈ L, r < 2 ^ n) (hs : SameSp L M) : ∀ r ∈ M, r < 2 ^ n := fun r hr => sp_lt h ((hs r).2 (sp_mem hr))
theorem take_lt' {n : Nat} {L : List Nat} (h : ∀ r ∈ L, r < 2 ^ n) (k : Nat) : ∀ r ∈ L.take k, r < 2 ^ n := fun r hr => h r (List.mem_of_mem_take hr)
theorem left_same {L P : List Nat} (h : Rref L P) (r : Nat) (h0 : leftN L P r L.length = 0) : SameSp (L ++ [r]) L := by
  have hs := (left_zero h r).1 h0
  refine SameSp.of (fun x hx => ?_) (fun x hx => sp_mem (List.mem_append.2 (.inl hx)))
  rcases List.mem_append.1 hx with hx | hx
  · exact sp_mem hx
  · simp at hx; subst hx; exact hs
theorem put_more {L P : List Nat} (h : Rref L P) (r a : Nat) (ha : IsLow (leftN L P r L.length) a) :
    ∃ m, m ≤ L.length ∧ (∀ i, i < m → P.getD i 0 < a) ∧ (∀ i, m ≤ i → i < L.length → a < P.getD i 0) ∧ Rref (putW L (leftN L P r L.length) a m) (putP P a m) ∧ SameSp (L ++ [r]) (putW L (leftN L P r L.length) a m) := by
  have hsp := leftN_span L P r L.length (Nat.le_refl _)
  have hz : ∀ j, j < L.length → (leftN L P r L.length).testBit (P.getD j 0) = false := fun j hj => by rw [leftN_bits h r _ (Nat.le_refl _) j hj, if_pos hj]
  generalize leftN L P r L.length = x at *
  have hn : a ∉ P := fun hp => by
    obtain ⟨j, hj, rfl⟩ := mem_getD hp
    have := hz j (by rw [h.len]; exact hj)
    rw [ha.1] at this; cases this
  obtain ⟨m, hm, h1, h2⟩ := cut_place h a hn
  refine ⟨m, hm, h1, h2, put_rref h x a m ha hz hm h1 h2, SameSp.trans ?_ (put_span x a m hm)⟩
  have liftL : ∀ y, ∀ v, Sp L v → Sp (L ++ [y]) v := fun y v hv => sp_sub (fun r hr => sp_mem (List.mem_append.2 (.inl hr))) hv
  refine SameSp.of (fun y hy => ?_) (fun y hy => ?_)
  · rcases List.mem_append.1 hy with hy | hy
    · exact sp_mem (List.mem_append.2 (.inl hy))
    · simp at hy; subst hy
      have := sp_xor (liftL x _ hsp) (sp_mem (show x ∈ L ++ [x] by simp))
      rw [xor_back] at this; exact this
  · rcases List.mem_append.1 hy with hy | hy
    · exact sp_mem (List.mem_append.2 (.inl hy))
    · simp at hy; subst hy
      have := sp_xor (sp_mem (show r ∈ L ++ [r] by simp)) (liftL r _ hsp)
      rw [← Nat.xor_assoc, Nat.xor_self, Nat.zero_xor] at this; exact this
theorem span_step {ms L M : List Nat} {k : Nat} (hk : k < ms.length) (hs : SameSp (ms.take k) L) (gs : SameSp (L ++ [ms.getD k 0]) M) : SameSp (ms.take (k + 1)) M := by
  refine SameSp.trans ?_ gs
  have e : ms.take (k + 1) = ms.take k ++ [ms.getD k 0] := by
    rw [List.take_succ_eq_append_getElem (by omega)]; simp [List.getD, hk]
  rw [e]
  refine SameSp.of (fun y hy => ?_) (fun y hy => ?_)
  · rcases List.mem_append.1 hy with hy | hy
    · exact sp_sub (fun r hr => sp_mem (List.mem_append.2 (.inl hr))) ((hs _).1 (sp_mem hy))
    · simp at hy; subst hy; exact sp_mem (by simp)
  · rcases List.mem_append.1 hy with hy | hy
    · exact sp_sub (fun r hr => sp_mem (List.mem_append.2 (.inl hr))) ((hs _).2 (sp_mem hy))
    · simp at hy; subst hy; exact sp_mem (by simp)
theorem rref_nil : Rref [] [] := ⟨rfl, fun _ h => absurd h (Nat.not_lt_zero _), fun _ _ h => absurd h (Nat.not_lt_zero _), fun _ _ _ h => absurd h (Nat.not_lt_zero _)⟩
theorem first_zero (N : Nat) (hN : N ≤ 512) (A : Option Addr) (l c : Nat) (w : World) (hw : Words w A l (rowOf N 0)) :
    Calls Tryz.prog 48 #[.agg #[.int .i64 (N : Int), .slice A l c]] w fun e w' => e = .returned (.int .i64 (-1)) ∧ Below w.heap.size w w' := by
  refine (first_any N 0 hN (Nat.two_pow_pos N) A l c w hw).mono ?_
  rintro e w' ⟨⟨q, hq, rfl⟩ | ⟨_, rfl⟩, hb⟩
  · exact absurd hq.1 (by simp)
  · exact ⟨rfl, hb⟩
/-- What the reference's Echelon hands back. -/
def RefEch (N : Nat) (orig : List Nat) (w : World) (e : Ending) (w' : World) : Prop :=
  ∃ (M P : List Nat) (A : Option Addr) (c : Nat), e = .returned (.slice A M.length c) ∧ Rref M P ∧ SameSp orig M ∧ MatAt w' 0 A M.length (mkM N M) ∧ Below w.heap.size w w'
set_option maxHeartbeats 16000000 in
theorem refEch_any (N : Nat) (hN : N ≤ 512) (Ms : List Nat) (hL : ∀ r ∈ Ms, r < 2 ^ N) (hlen : Ms.length ≤ 66) (A : Option Addr) (c lo : Nat) (w : World) (hmat : MatAt w lo A Ms.length (mkM N Ms)) :
    Calls Tryz.prog 25 #[.agg #[.int .i64 (N : Int), .slice A Ms.length c]] w (RefEch N Ms w) := by
  have hW : Below w.heap.size w (w.alloc (.cells #[.int .i64 N, .slice A Ms.length c] 28)) := (Below.refl _ _).alloc (Nat.le_refl _) _
  have Q := Lib.hid (Box.new w 28 #[.int .i64 (N : Int), .slice A Ms.length c])
  have HW := Lib.hid hW
  have HM := Lib.hid hmat
  have HLt := Lib.hid (lt_all hL)
  have HL := Lib.hid hL
  clear hW hmat hL
  obtain ⟨q0, q1, -, -⟩ := Q.out.two
  go_enter Tryz.func25, Tryz.ntmps25
  have Q0 := Lib.hid (Q.out.alloc (.cells #[] 56))
  have HB0 := Lib.hid (HW.out.alloc HW.out.size (.cells #[] 56))
  go_wp2_with fail
  clear q0 q1
  go_loopw [3, 11] (fun v t wr => ∃ (i : Nat) (K P : List Nat) (A' : Option Addr) (c' : Nat), .slice A' K.length c' = v ∧ i ≤ Ms.length ∧ t = .int .i64 (i : Int) ∧ Hid (Rref K P) ∧ Hid (SameSp (Ms.take i) K) ∧ Hid (MatAt wr 0 A' K.length (mkM N K)) ∧ Hid (Below w.heap.size w wr)) (fun _ t _ => Ms.length - (intOf t).toNat)
  case atStart => exact ⟨0, [], [], _, _, rfl, Nat.zero_le _, rfl, Lib.hid rref_nil, Lib.hid (by rw [List.take_zero]; exact SameSp.refl _), Lib.hid (MatAt.nil _ _ _), HB0⟩
  case round =>
    obtain ⟨i, K, P, A', c', rfl, hi, rfl, HR, HSp, HK, HB⟩ := hrel
    clear Q0 HB0 Q HW
    by_cases hlt : i < Ms.length
    · have hlt' : (i : Int) < (Ms.length : Int) := by omega
      obtain ⟨b, off, B1, l1, c1, rfl, hbl, x0, x1, hs, hw0⟩ := HM.out.at i hlt
      have hw := hw0.mono (Nat.le_refl _) HB.out
      have x0 := (HB.out.cell (p := ⟨b, off + i * 2, none⟩) hbl).trans x0
      have x1 := (HB.out.cell (p := ⟨b, off + i * 2 + 1, none⟩) hbl).trans x1
      rw [mkM_at N Ms i hlt] at x0 hw
      simp only [mkR] at x0 hw
      have hal : Below wr.heap.size wr (wr.alloc (.cells #[.int .i64 (N : Int), .slice B1 l1 c1] 56)) := (Below.refl _ _).alloc (Nat.le_refl _) _
      have E := Lib.hid (Box.new wr 56 #[.int .i64 (N : Int), .slice B1 l1 c1])
      have HKlt := Lib.hid (same_lt (take_lt' HL.out i) HSp.out)
      have hkl : K.length ≤ 66 := by have := rank_le HR.out HSp.out; rw [List.length_take] at this; omega
      have HLi := Lib.hid (HLt.out i)
      have HLeft := Lib.hid (left_any N hN K P HR.out HKlt.out (by omega) (Ms.getD i 0) HLi.out A' B1 c' l1 c1 0 _ (HK.out.below hal) hs (hw.below hal))
      have HB := Lib.hid (chain HB.out hal)
      have HK := Lib.hid (HK.out.below hal)
      have HZlt := Lib.hid (leftN_lt (P := P) (lt_all HKlt.out) _ HLi.out K.length)
      clear hal hw hs hw0
      obtain ⟨e0, e1, -, -⟩ := E.out.two
      go_wp2_with fail
      refine HLeft.out.mono ?_
      rintro e y1 ⟨A3, l3, c3, rfl, hs3, hw3, hb⟩
      have hal : Below y1.heap.size y1 (y1.alloc (.cells #[.int .i64 (N : Int), .slice A3 l3 c3] 56)) := (Below.refl _ _).alloc (Nat.le_refl _) _
      have E3 := Lib.hid (Box.new y1 56 #[.int .i64 (N : Int), .slice A3 l3 c3])
      have HW3 := Lib.hid (hw3.below hal)
      have HS3 := Lib.hid hs3
      have HB := Lib.hid (chain (chain HB.out hb) hal)
      have HK := Lib.hid ((HK.out.below hb).below hal)
      clear hal hb hw3 hs3 e0 e1 E HLeft
      obtain ⟨e0, e1, -, -⟩ := E3.out.two
      by_cases hz : leftN K P (Ms.getD i 0) K.length = 0
      · have HStep := Lib.hid (span_step hlt HSp.out (left_same HR.out _ hz))
        rw [hz] at HW3
        clear hz
        go_wp2_with fail
        refine (first_zero N hN A3 l3 c3 _ HW3.out).mono ?_
        rintro e y2 ⟨rfl, hb⟩
        have HB := Lib.hid (chain HB.out hb)
        have HK := Lib.hid (HK.out.below hb)
        clear hb e0 e1
        go_wp2_with fail
        go_roundw
        case rel => exact ⟨i + 1, K, P, A', c', rfl, by omega, by go_num, HR, HStep, HK, HB⟩
        case measure => simp [intOf] <;> omega
      · obtain ⟨a, ha⟩ := low_exists hz
        obtain ⟨m, p1, p2, p3, p4, p5⟩ := put_more HR.out _ a ha
        have HA := Lib.hid ha
        have HStep := Lib.hid (span_step hlt HSp.out p5)
        have HRef := Lib.hid p4
        have hge : (0 : Int) ≤ (a : Int) := by omega
        have HWith := Lib.hid (fun w' (h1 : MatAt w' 0 A' K.length (mkM N K)) (h2 : Words w' A3 l3 (rowOf N (leftN K P (Ms.getD i 0) K.length))) => with_any N hN K P HR.out HKlt.out (by omega) _ a m HZlt.out ha p1 p2 p3 A' A3 c' l3 c3 0 w' h1 HS3.out h2)
        clear hz ha p1 p2 p3 p4 p5
        generalize putW K (leftN K P (Ms.getD i 0) K.length) a m = K2 at *
        generalize putP P a m = P2 at *
        go_wp2_with fail
        refine (first_low N _ a hN HZlt.out HA.out A3 l3 c3 _ HW3.out).mono ?_
        rintro e y2 ⟨rfl, hb⟩
        have E3 := Lib.hid (E3.out.keep hb)
        have HB := Lib.hid (chain HB.out hb)
        have HK := Lib.hid (HK.out.below hb)
        have HW3 := Lib.hid (HW3.out.below hb)
        clear hb e0 e1
        obtain ⟨e0, e1, -, -⟩ := E3.out.two
        go_wp2_with fail
        refine (HWith.out _ HK.out HW3.out).mono ?_
        rintro e y3 ⟨A5, c5, rfl, hm5, hb⟩
        have HB := Lib.hid (chain HB.out hb)
        have HK5 := Lib.hid hm5
        clear hb hm5 e0 e1
        go_wp2_with fail
        go_roundw
        case rel => exact ⟨i + 1, K2, P2, A5, c5, rfl, by omega, by go_num, HRef, HStep, HK5, HB⟩
        case measure => simp [intOf] <;> omega
    · obtain rfl : i = Ms.length := by omega
      have hlt' : ¬ (Ms.length : Int) < (Ms.length : Int) := by omega
      have hsp := HSp.out
      rw [List.take_length] at hsp
      go_wp2_with fail
      go_ret
      exact ⟨K, P, A', c', rfl, HR.out, hsp, HK.out, HB.out⟩
end
section
/- The lowest bit of a word: how a word is cut at it. No program. -/
set_option linter.unusedVariables false
set_option linter.unusedSimpArgs false
theorem odd_form (x : Nat) (h : 0 < x) : ∃ i m, x = 2 ^ i * (2 * m + 1) := by
  induction x using Nat.strongRecOn with
  | ind x ih =>
    by_cases hp : x % 2 = 1
    · exact ⟨0, x / 2, by simp; omega⟩
    · obtain ⟨i, m, e⟩ := ih (x / 2) (by omega) (by omega)
      refine ⟨i + 1, m, ?_⟩
      have h2 : x = 2 * (x / 2) := by omega
      rw [h2, e, Nat.pow_succ, Nat.mul_comm (2 ^ i) 2, Nat.mul_assoc]
theorem odd_bit (i m j : Nat) : (2 ^ i * (2 * m + 1)).testBit j = if j < i then false else if j = i then true else m.testBit (j - i - 1) := by
  rw [Nat.testBit_two_pow_mul]
  by_cases h : j < i
  · simp [h, Nat.not_le.2 h]
  · by_cases e : j = i
    · subst e; simp
    · obtain ⟨d, rfl⟩ : ∃ d, j = i + (d + 1) := ⟨j - i - 1, by omega⟩
      have h1 : i + (d + 1) - i = d + 1 := by omega
      have h2 : d + 1 - 1 = d := by omega
      rw [h1, h2]
      simp [Nat.testBit_succ, show (2 * m + 1) / 2 = m by omega]
theorem odd_bit1 (i m j : Nat) : (2 ^ i * (2 * m + 1) - 1).testBit j = if j < i then true else if j = i then false else m.testBit (j - i - 1) := by
  have hp : 0 < 2 ^ i := Nat.two_pow_pos i
  have e : 2 ^ i * (2 * m + 1) - 1 = 2 ^ i * (2 * m) + (2 ^ i - 1) := by
    rw [Nat.mul_add, Nat.mul_one]; omega
  rw [e, Nat.testBit_two_pow_mul_add _ (by omega)]
  by_cases h : j < i
  · simp [h, Nat.testBit_two_pow_sub_one]
  · by_cases e : j = i
    · subst e; simp [Nat.testBit_zero]
    · obtain ⟨d, rfl⟩ : ∃ d, j = i + (d + 1) := ⟨j - i - 1, by omega⟩
      have h1 : i + (d + 1) - i = d + 1 := by omega
      have h2 : d + 1 - 1 = d := by omega
      rw [h1, h2]
      simp [Nat.testBit_succ, show 2 * m / 2 = m by omega]
/-- The lowest bit struck off. -/
theorem strike_low (i m : Nat) : (2 ^ i * (2 * m + 1)) &&& (2 ^ i * (2 * m + 1) - 1) = 2 ^ i * (2 * m) := by
  apply Nat.eq_of_testBit_eq
  intro j
  rw [Nat.testBit_and, odd_bit, odd_bit1, Nat.testBit_two_pow_mul]
  by_cases h : j < i
  · simp [h, Nat.not_le.2 h]
  · by_cases e : j = i
    · subst e; simp [Nat.testBit_zero]
    · obtain ⟨d, rfl⟩ : ∃ d, j = i + (d + 1) := ⟨j - i - 1, by omega⟩
      have h1 : i + (d + 1) - i = d + 1 := by omega
      have h2 : d + 1 - 1 = d := by omega
      rw [h1, h2]
      have h3 : ¬ i + (d + 1) < i := h
      simp only [h3, Bool.true_and, if_false, Bool.and_self, Nat.testBit_succ, e, show 2 * m / 2 = m by omega, show i + (d + 1) ≥ i by omega, decide_true]
/-- The lowest bit alone. -/
theorem only_low (i m : Nat) (hx : 2 ^ i * (2 * m + 1) < 18446744073709551616) : (2 ^ i * (2 * m + 1)) &&& (18446744073709551616 - 2 ^ i * (2 * m + 1)) = 2 ^ i := by
  have hp : 0 < 2 ^ i * (2 * m + 1) := Nat.mul_pos (Nat.two_pow_pos i) (by omega)
  have hi : i < 64 := by
    refine Nat.lt_of_not_le fun h => ?_
    have h1 : 2 ^ 64 ≤ 2 ^ i := Nat.pow_le_pow_right (by omega) h
    have h2 : 2 ^ i * 1 ≤ 2 ^ i * (2 * m + 1) := Nat.mul_le_mul_left _ (by omega)
    omega
  apply Nat.eq_of_testBit_eq
  intro j
  have e : 18446744073709551616 - 2 ^ i * (2 * m + 1) = 2 ^ 64 - (2 ^ i * (2 * m + 1) - 1 + 1) := by
    rw [show 2 ^ i * (2 * m + 1) - 1 + 1 = 2 ^ i * (2 * m + 1) by omega]
  rw [e, Nat.testBit_and, Nat.testBit_two_pow_sub_succ (by omega), odd_bit, odd_bit1, Nat.testBit_two_pow]
  by_cases h : j < i
  · simp [h]; omega
  · by_cases e : j = i
    · subst e; simp [hi]
    · have : ¬ i = j := fun h => e h.symm
      simp [h, e, this]
      intro h1 _
      exact h1
/-- The table of places by a de Bruijn word, as the library has it. -/
def dbTab : List Nat := [0, 1, 56, 2, 57, 49, 28, 3, 61, 58, 42, 50, 38, 29, 17, 4, 62, 47, 59, 36, 45, 43, 51, 22, 53, 39, 33, 30, 24, 18, 12, 5, 63, 55, 48, 27, 60, 41, 37, 16, 46, 35, 44, 21, 52, 32, 23, 11, 54, 26, 40, 15, 34, 20, 31, 10, 25, 14, 19, 9, 13, 8, 7, 6]
theorem db_at : ∀ i : Fin 64, dbTab.getD (2 ^ i.val * 285870213051353865 % 18446744073709551616 / 288230376151711744) 99 = i.val := by decide
end
section
/- The places of the bits 1 of words, and how they are found word by word, lowest bit first. No program. -/
set_option linter.unusedVariables false
set_option linter.unusedSimpArgs false
/-- Where bits are 1, of the first m. -/
def plcN (us : List Nat) (m : Nat) : List Nat := (List.range m).filter fun p => bitAt us p == 1
theorem plcN_succ (us : List Nat) (m : Nat) : plcN us (m + 1) = plcN us m ++ if bitAt us m = 1 then [m] else [] := by
  unfold plcN
  rw [List.range_succ, List.filter_append]
  by_cases h : bitAt us m = 1 <;> simp [h]
/-- A word without its low bits. -/
def hiW (x t : Nat) : Nat := 2 ^ t * (x / 2 ^ t)
theorem hiW_bit (x t j : Nat) : (hiW x t).testBit j = (decide (t ≤ j) && x.testBit j) := by
  unfold hiW
  rw [Nat.testBit_two_pow_mul, Nat.testBit_div_two_pow]
  by_cases h : t ≤ j
  · simp [h, Nat.sub_add_cancel h]
  · simp [h]
theorem bitAt_bit (us : List Nat) (i j : Nat) (h : j < 64) : (bitAt us (64 * i + j) = 1) = ((us.getD i 0).testBit j = true) := by
  unfold bitAt
  rw [show (64 * i + j) / 64 = i by omega, show (64 * i + j) % 64 = j by omega, Nat.testBit_eq_decide_div_mod_eq]
  simp
theorem plcN_skip (us : List Nat) (i t s : Nat) (hs : t + s ≤ 64) (h : ∀ j, t ≤ j → j < t + s → (us.getD i 0).testBit j = false) : plcN us (64 * i + (t + s)) = plcN us (64 * i + t) := by
  induction s with
  | zero => rfl
  | succ s ih =>
    rw [show 64 * i + (t + (s + 1)) = (64 * i + (t + s)) + 1 by omega, plcN_succ, ih (by omega) (fun j h1 h2 => h j h1 (by omega))]
    have : ¬ bitAt us (64 * i + (t + s)) = 1 := by
      rw [bitAt_bit us i (t + s) (by omega), h (t + s) (by omega) (by omega)]; simp
    rw [if_neg this, List.append_nil]
theorem hi_done (us : List Nat) (i t : Nat) (ht : t ≤ 64) (h : hiW (us.getD i 0) t = 0) : plcN us (64 * i + t) = plcN us (64 * (i + 1)) := by
  have := plcN_skip us i t (64 - t) (by omega) (fun j h1 h2 => by
    have := hiW_bit (us.getD i 0) t j
    rw [h] at this
    simpa [h1] using this.symm)
  rw [show t + (64 - t) = 64 by omega] at this
  rw [← this, show 64 * (i + 1) = 64 * i + 64 by omega]
theorem hi_step (us : List Nat) (i t : Nat) (hx : us.getD i 0 < 18446744073709551616) (h : hiW (us.getD i 0) t ≠ 0) :
    ∃ s m, t ≤ s ∧ s < 64 ∧ hiW (us.getD i 0) t = 2 ^ s * (2 * m + 1) ∧ hiW (us.getD i 0) (s + 1) = 2 ^ s * (2 * m) ∧ plcN us (64 * i + (s + 1)) = plcN us (64 * i + t) ++ [64 * i + s] := by
  obtain ⟨s, m, e⟩ := odd_form (hiW (us.getD i 0) t) (by omega)
  have hb : ∀ j, (decide (t ≤ j) && (us.getD i 0).testBit j) = if j < s then false else if j = s then true else m.testBit (j - s - 1) := fun j => by
    rw [← hiW_bit, e, odd_bit]
  have h0 := hb s
  simp only [Nat.lt_irrefl, if_false, if_true, Bool.and_eq_true, decide_eq_true_eq] at h0
  have hs : s < 64 := by
    refine Nat.lt_of_not_le fun h6 => ?_
    have := Nat.testBit_lt_two_pow (i := s) (Nat.lt_of_lt_of_le hx (show 2 ^ 64 ≤ 2 ^ s from Nat.pow_le_pow_right (by omega) h6))
    rw [this] at h0; exact absurd h0.2 (by decide)
  refine ⟨s, m, h0.1, hs, e, ?_, ?_⟩
  · apply Nat.eq_of_testBit_eq
    intro j
    rw [hiW_bit, Nat.testBit_two_pow_mul]
    have := hb j
    by_cases h1 : s + 1 ≤ j
    · have h2 : t ≤ j := by omega
      have h3 : ¬ j < s := by omega
      have h4 : ¬ j = s := by omega
      simp only [h2, h3, h4, decide_true, Bool.true_and, if_false] at this
      have h5 : s ≤ j := by omega
      obtain ⟨d, rfl⟩ : ∃ d, j = s + (d + 1) := ⟨j - s - 1, by omega⟩
      simp only [h1, h5, decide_true, Bool.true_and, this]
      rw [show s + (d + 1) - s = d + 1 by omega, show d + 1 - 1 = d by omega, Nat.testBit_succ, show 2 * m / 2 = m by omega]
    · have h6 : (decide (s + 1 ≤ j)) = false := by simpa using h1
      rw [h6, Bool.false_and]
      by_cases h7 : s ≤ j
      · obtain rfl : j = s := by omega
        simp [Nat.testBit_zero]
      · simp [h7]
  · rw [show 64 * i + (s + 1) = (64 * i + s) + 1 by omega, plcN_succ]
    have e1 : plcN us (64 * i + s) = plcN us (64 * i + t) := by
      have := plcN_skip us i t (s - t) (by omega) (fun j h1 h2 => by
        have := hb j
        have h3 : j < s := by omega
        simpa [h1, h3] using this)
      rwa [show t + (s - t) = s by omega] at this
    have e2 : bitAt us (64 * i + s) = 1 := by rw [bitAt_bit us i s hs]; exact h0.2
    rw [e1, if_pos e2]
theorem hiW_zero (x : Nat) : hiW x 0 = x := by simp [hiW]
theorem hiW_lt (x t : Nat) (hx : x < 18446744073709551616) : hiW x t < 18446744073709551616 := Nat.lt_of_le_of_lt (Nat.mul_div_le x (2 ^ t)) hx
end
section
/- math/bits.TrailingZeros64, where its table lies as the library has it. -/
set_option linter.unusedVariables false
set_option linter.unusedSimpArgs false
open Go.RowKit
/-- The library's table lies in block 0. -/
def TabAt (w : World) (g : Nat) : Prop := g < w.heap.size ∧ ∀ i, i < 64 → w.cell? ⟨g, i, none⟩ = some (.int .u8 (dbTab.getD i 99 : Nat))
theorem TabAt.below {w w' : World} {g : Nat} (h : TabAt w g) (hb : Below w.heap.size w w') : TabAt w' g := ⟨Nat.lt_of_lt_of_le h.1 hb.size, fun i hi => (hb.cell (p := ⟨g, i, none⟩) h.1).trans (h.2 i hi)⟩
theorem TabAt.same {w w' : World} {g : Nat} (h : TabAt w g) (hb : w'.heap[g]? = w.heap[g]?) : TabAt w' g := by
  refine ⟨?_, fun i hi => (World.cell?_of_block (a := ⟨g, i, none⟩) hb).trans (h.2 i hi)⟩
  rcases Nat.lt_or_ge g w'.heap.size with hl | hg
  · exact hl
  · have h1 := h.1
    rw [Array.getElem?_eq_none hg, Array.getElem?_eq_getElem h1] at hb; cases hb
theorem neg_in (x : Nat) (h1 : 0 < x) (hx : x < 18446744073709551616) : IntKind.u64.wrap (-(x : Int)) = ((18446744073709551616 - x : Nat) : Int) := by rw [IntKind.wrap_u64]; omega
theorem prod_in (y : Nat) : IntKind.u64.wrap ((y : Int) * 285870213051353865) / 288230376151711744 = ((y * 285870213051353865 % 18446744073709551616 / 288230376151711744 : Nat) : Int) := by rw [IntKind.wrap_u64]; omega
theorem quo_lt (y : Nat) : y * 285870213051353865 % 18446744073709551616 / 288230376151711744 < 64 := by omega
theorem exp_lt (s m : Nat) (hx : 2 ^ s * (2 * m + 1) < 18446744073709551616) : s < 64 := by
  refine Nat.lt_of_not_le fun h => ?_
  have h1 : 2 ^ 64 ≤ 2 ^ s := Nat.pow_le_pow_right (by omega) h
  have h2 : 2 ^ s * 1 ≤ 2 ^ s * (2 * m + 1) := Nat.mul_le_mul_left _ (by omega)
  omega
theorem tz_val (x s m : Nat) (hx : x < 18446744073709551616) (e : x = 2 ^ s * (2 * m + 1)) :
    ∃ q : Nat, q < 64 ∧ IntKind.u64.wrap (bits BinOp.and IntKind.u64 (x : Int) (IntKind.u64.wrap (-(x : Int))) * 285870213051353865) / 288230376151711744 = (q : Int) ∧ dbTab.getD q 99 = s := by
  have hp : 0 < x := by rw [e]; exact Nat.mul_pos (Nat.two_pow_pos s) (by omega)
  have hl := only_low s m (by rw [← e]; exact hx)
  rw [← e] at hl
  refine ⟨2 ^ s * 285870213051353865 % 18446744073709551616 / 288230376151711744, quo_lt _, ?_, db_at ⟨s, exp_lt s m (by rw [← e]; exact hx)⟩⟩
  rw [neg_in x hp hx, u64_and_nat x (18446744073709551616 - x) hx (by omega), hl, prod_in]
end
section
/- The iterator bitrow.ones: the places of the bits 1, rising. -/
set_option linter.unusedVariables false
set_option linter.unusedSimpArgs false
open Go.RowKit Go.Shelf
attribute [local go_sem] Oper.semAt_some
/-- What the iterator asks of a round: some blocks stay. -/
def KpS (S : Nat → Prop) (W W' : World) : Prop := ∀ b, S b → W'.heap[b]? = W.heap[b]?
theorem KpS.trans {S : Nat → Prop} {A B C : World} (h : KpS S A B) (k : KpS S B C) : KpS S A C := fun b hb => (k b hb).trans (h b hb)
theorem KpS.refl (S : Nat → Prop) (A : World) : KpS S A A := fun _ _ => rfl
/-- How a round of the iterator is left. -/
def RndS (S : Nat → Prop) (J Jx : List Nat → World → Prop) (ys : List Nat) (W : World) (b : Bool) (W' : World) : Prop := (b = true → J ys W' ∧ KpS S W W') ∧ (b = false → Jx ys W')
def RndSE (S : Nat → Prop) (J Jx : List Nat → World → Prop) (ys : List Nat) (W : World) (e : Ending) (W' : World) : Prop := ∃ b : Bool, e = .returned (.bool b) ∧ RndS S J Jx ys W b W'
theorem rndS_of {S : Nat → Prop} {J Jx : List Nat → World → Prop} {ys : List Nat} {W : World} (e : Ending) (W' : World) (h : (e = .returned (.bool true) ∧ J ys W' ∧ KpS S W W') ∨ (e = .returned (.bool false) ∧ Jx ys W')) : RndSE S J Jx ys W e W' := by
  rcases h with ⟨rfl, h1, h2⟩ | ⟨rfl, h1⟩
  · exact ⟨true, rfl, fun _ => ⟨h1, h2⟩, (fun h => by cases h)⟩
  · exact ⟨false, rfl, (fun h => by cases h), fun _ => h1⟩
theorem plcN_prefix (us : List Nat) (a b : Nat) (h : a ≤ b) : plcN us a <+: plcN us b := by
  obtain ⟨d, rfl⟩ := Nat.le.dest h
  unfold plcN
  rw [List.range_add, List.filter_append]
  exact List.prefix_append _ _
theorem plcN_len (us : List Nat) (m : Nat) : (plcN us m).length ≤ m := by
  have := List.length_filter_le (fun p => bitAt us p == 1) (List.range m)
  simpa [plcN] using this
theorem plcN_lt (us : List Nat) (m : Nat) {p : Nat} (h : p ∈ plcN us m) : p < m := by
  have := (List.mem_filter.1 h).1
  simpa using this
end
section
/- bitrow.ones, and bitrow.Places: the places of the bits 1. -/
set_option linter.unusedVariables false
set_option linter.unusedSimpArgs false
open Go.RowKit Go.Shelf
attribute [local go_sem] Oper.semAt_some
theorem ownP_low {w : World} {base base' e size n : Nat} {v : Value} {xs : List Value} (h : w.ownsRow base e size v n xs) (hb : base' ≤ base) : w.ownsRow base' e size v n xs := by
  refine ⟨h.1, ?_⟩
  rcases h.2 with h0 | ⟨g, cap, cur, rfl, h1, h2⟩
  · exact .inl h0
  · exact .inr ⟨g, cap, cur, rfl, Nat.le_trans hb h1, h2⟩
def plcV (x : Nat) : Value := .int .i64 (x : Int)
theorem int_infoP : (Tryz.prog.info? 3).map (fun i => (i.zero, i.size, i.bytes)) = some (some (.int .i64 0), 1, 8) := by kernel_rfl
theorem keepS {W w1 : World} {B n1 : Nat} {S : Nat → Prop} {v v' : Value} {e k : Nat} {xs : List Value} {tmp : Obj} (hrow : W.ownsRow n1 e 1 v k xs) (hgrow : (W.alloc tmp).grownBy w1 v.ownBlock) (hs : n1 ≤ W.heap.size)
    (hS : ∀ b, S b → b < n1 ∧ b ≠ B) : KpS S W (w1.setCell ⟨B, 0, none⟩ v') := by
  intro b hb
  have hbn := hS b hb
  have hne : some b ≠ v.ownBlock := fun e => by have := (hrow.lt b e.symm).1; omega
  rw [heap_setCell_other w1 ⟨B, 0, none⟩ b v' hbn.2, hgrow.block b (by simp; omega) hne, Below.heap_alloc W tmp b (by omega)]
theorem kpS_put {S : Nat → Prop} {w : World} (hS : ∀ b, S b → b < w.heap.size) (W : World) (l : Nat) (o o' : Obj) (hl : w.heap.size ≤ l) (_ : W.heap[l]? = some o) (_ : o.isCells = false) (_ : o.isWalk = false) : KpS S W (W.putObj l o') := by
  intro b hb
  exact World.putObj_heap_other (by have := hS b hb; omega)
theorem TabAt.put2 {w : World} {g : Nat} {t : TypeId} {a b : Value} (h : TabAt w 0) (hb : Box w g t #[a, b]) (hg : g ≠ 0) (u v : Value) : TabAt ((w.setCell ⟨g, 0, none⟩ u).setCell ⟨g, 1, none⟩ v) 0 := by
  refine h.same ?_
  rw [heap_setCell_other _ ⟨g, 1, none⟩ _ v (Ne.symm hg), heap_setCell_other _ ⟨g, 0, none⟩ _ u (Ne.symm hg)]
def plcZ (ys : List Nat) : List Int := ys.map fun x : Nat => (x : Int)
theorem plcZ_getD (ys : List Nat) (j : Nat) : (plcZ ys).getD j 0 = (ys.getD j 0 : Nat) := by
  simp only [plcZ, List.getD, List.getElem?_map]
  cases ys[j]? <;> simp
theorem own_plcInts {w : World} {base n : Nat} {A : Option Addr} {c : Nat} {ys : List Nat} (h : w.ownsRow base 3 1 (.slice A n c) n (ys.map plcV)) (hb : ∀ x ∈ ys, x ≤ 1000000) : Ints w A n (plcZ ys) := by
  have e : (plcZ ys).map (Value.int .i64) = ys.map plcV := by simp [plcZ, plcV, Function.comp_def]
  rw [← e] at h
  refine own_ints h fun j => ?_
  rw [plcZ_getD]
  have : ys.getD j 0 ≤ 1000000 := by
    simp only [List.getD]
    cases hx : ys[j]? with
    | none => simp
    | some y => simpa using hb y (List.mem_of_getElem? hx)
  omega
/-- A slice of numbers of its own, and no error, is returned. -/
def PlcOut (ys : List Nat) (w : World) (e : Ending) (w' : World) : Prop := ∃ v, e = .returned (.tuple #[v, .int .i64 0]) ∧ w'.ownsRow w.heap.size 3 1 v ys.length (ys.map plcV) ∧ Below w.heap.size w w'
end
section
/- Rows and their places: a row is that of its places; counts. No program. -/
set_option linter.unusedVariables false
set_option linter.unusedSimpArgs false
theorem plcZ_mem (us : List Nat) (m : Nat) (z : Int) (h : z ∈ plcZ (plcN us m)) : ∃ p : Nat, z = p ∧ p < m ∧ bitAt us p = 1 := by
  obtain ⟨p, hp, rfl⟩ := List.mem_map.1 h
  have := List.mem_filter.1 hp
  exact ⟨p, rfl, by simpa using this.1, by simpa using this.2⟩
theorem there_plc (us : List Nat) (N : Nat) : there (N : Int) (plcZ (plcN us N)) = true := by
  simp only [there, List.all_eq_true]
  intro z hz
  obtain ⟨p, rfl, h1, -⟩ := plcZ_mem us N z hz
  simp; omega
theorem ofBits_plc (us : List Nat) (N : Nat) (hr : rightB (N : Int) us = true) (hlt : ∀ j, us.getD j 0 < 18446744073709551616) : ofBits N (plcZ (plcN us N)) = us := by
  have hlen := right_len_eq hr
  rw [Int.toNat_natCast] at hlen
  apply List.ext_getElem (by rw [ofBits_len, hlen])
  intro i h1 h2
  have g1 : (ofBits N (plcZ (plcN us N)))[i] = (ofBits N (plcZ (plcN us N))).getD i 0 := by simp [List.getD, h1]
  have g2 : us[i] = us.getD i 0 := by simp [List.getD, h2]
  rw [g1, g2]
  rw [ofBits_len] at h1
  apply Nat.eq_of_testBit_eq
  intro j
  rw [ofBits_test N _ i j h1]
  by_cases hj : j < 64
  · rw [Bool.eq_iff_iff, ← bitAt_bit us i j hj]
    simp only [List.any_eq_true, Bool.and_eq_true, beq_iff_eq]
    constructor
    · rintro ⟨z, hz, e1, e2⟩
      obtain ⟨p, rfl, -, h4⟩ := plcZ_mem us N z hz
      rw [Int.toNat_natCast] at e1 e2
      rw [← h4]; congr 1; omega
    · intro h
      have hN : 64 * i + j < N := by
        refine Nat.lt_of_not_le fun hle => ?_
        have := right_bits hr (64 * i + j) hle (by omega)
        omega
      refine ⟨((64 * i + j : Nat) : Int), List.mem_map.2 ⟨64 * i + j, List.mem_filter.2 ⟨by simpa using hN, by simpa using h⟩, rfl⟩, ?_, ?_⟩
      · rw [Int.toNat_natCast]; omega
      · rw [Int.toNat_natCast]; omega
  · have : (us.getD i 0).testBit j = false := Nat.testBit_lt_two_pow (Nat.lt_of_lt_of_le (hlt i) (show 2 ^ 64 ≤ 2 ^ j from Nat.pow_le_pow_right (by omega) (by omega)))
    rw [this, List.any_eq_false]
    intro z _
    simp; omega
theorem zip_bit (f : Nat → Nat → Nat) (us vs : List Nat) (p : Nat) (hu : p / 64 < us.length) (hv : p / 64 < vs.length) : (bitAt (List.zipWith f us vs) p == 1) = (f (us.getD (p / 64) 0) (vs.getD (p / 64) 0)).testBit (p % 64) := by
  rw [bitAt_test, zip_last f us vs _ hu hv]
theorem count_join (us vs : List Nat) (hl : us.length = vs.length) (m : Nat) (hm : m ≤ 64 * us.length) :
    (plcN us m).length + (plcN vs m).length = (plcN (xorL us vs) m).length + 2 * (plcN (andL us vs) m).length := by
  induction m with
  | zero => simp [plcN]
  | succ m ih =>
    have ih := ih (by omega)
    have hx : (bitAt (xorL us vs) m == 1) = _ := zip_bit (· ^^^ ·) us vs m (by omega) (by omega)
    have ha : (bitAt (andL us vs) m == 1) = _ := zip_bit (· &&& ·) us vs m (by omega) (by omega)
    rw [Nat.testBit_xor, ← bitAt_test, ← bitAt_test] at hx
    rw [Nat.testBit_and, ← bitAt_test, ← bitAt_test] at ha
    rw [plcN_succ, plcN_succ, plcN_succ, plcN_succ]
    simp only [List.length_append]
    have b1 := bitAt_le us m
    have b2 := bitAt_le vs m
    have b3 := bitAt_le (xorL us vs) m
    have b4 := bitAt_le (andL us vs) m
    rcases b1 with b1 | b1 <;> rcases b2 with b2 | b2 <;> rcases b3 with b3 | b3 <;> rcases b4 with b4 | b4 <;> simp [b1, b2, b3, b4] at hx ha ⊢ <;> omega
theorem xor_backL (us vs : List Nat) (hl : us.length = vs.length) : xorL (xorL us vs) vs = us := by
  apply List.ext_getElem
  · simp [xorL, hl]
  · intro i h1 h2
    simp [xorL, Nat.xor_assoc]
end
section
/- Mathematics of a product of matrices. -/
set_option linter.unusedVariables false
set_option linter.unusedSimpArgs false
theorem bitAt_xor (us vs : List Nat) (p : Nat) (hu : p / 64 < us.length) (hv : p / 64 < vs.length) : bitAt (xorL us vs) p = (bitAt us p + bitAt vs p) % 2 := by
  have hx : (bitAt (xorL us vs) p == 1) = _ := zip_bit (· ^^^ ·) us vs p hu hv
  rw [Nat.testBit_xor, ← bitAt_test, ← bitAt_test] at hx
  have b1 := bitAt_le us p
  have b2 := bitAt_le vs p
  have b3 := bitAt_le (xorL us vs) p
  rcases b1 with b1 | b1 <;> rcases b2 with b2 | b2 <;> rcases b3 with b3 | b3 <;> simp [b1, b2, b3] at hx ⊢
theorem bitAt_zeros (n p : Nat) : bitAt (List.replicate n 0) p = 0 := by
  unfold bitAt
  have : (List.replicate n 0).getD (p / 64) 0 = 0 := by
    simp only [List.getD, List.getElem?_replicate]; split <;> rfl
  rw [this]; simp
theorem right_zeros (n : Nat) (h : lmb (n : Int) = true) : rightB (n : Int) (List.replicate (nw n) 0) = true := by
  simp only [rightB, h, Int.toNat_natCast, List.length_replicate, Bool.true_and, beq_self_eq_true]
  have : (List.replicate (nw n) 0).getD (nw n - 1) 0 = 0 := by
    simp only [List.getD, List.getElem?_replicate]; split <;> rfl
  rw [this]; simp
theorem xorL_lt (us vs : List Nat) (hu : ∀ j, us.getD j 0 < 18446744073709551616) (hv : ∀ j, vs.getD j 0 < 18446744073709551616) (j : Nat) : (xorL us vs).getD j 0 < 18446744073709551616 := by
  unfold xorL
  simp only [List.getD, List.getElem?_zipWith]
  have h1 := hu j
  have h2 := hv j
  simp only [List.getD] at h1 h2
  cases e1 : us[j]? <;> cases e2 : vs[j]? <;> simp [e1, e2] at h1 h2 ⊢
  exact Nat.xor_lt_two_pow (n := 64) h1 h2
/-- Two rows that may be, of the same bits, are the same. -/
theorem right_ext {n : Nat} {us vs : List Nat} (h1 : rightB (n : Int) us = true) (h2 : rightB (n : Int) vs = true) (hu : ∀ j, us.getD j 0 < 18446744073709551616) (hv : ∀ j, vs.getD j 0 < 18446744073709551616) (h : ∀ i, i < n → bitAt us i = bitAt vs i) : us = vs := by
  rw [← ofBits_plc us n h1 hu, ← ofBits_plc vs n h2 hv]
  have : plcN us n = plcN vs n := by
    unfold plcN
    apply List.filter_congr
    intro p hp
    rw [h p (by simpa using hp)]
  rw [this]
/-- The xor of those rows that stand at some places. -/
def xrowsF (ms : List (Int × List Nat)) (acc : List Nat) (ps : List Nat) : List Nat := ps.foldl (fun acc p => xorL acc (ms.getD p (0, [])).2) acc
def xrows (n : Nat) (ms : List (Int × List Nat)) (ps : List Nat) : List Nat := xrowsF ms (List.replicate (nw n) 0) ps
theorem xrows_snoc (n : Nat) (ms : List (Int × List Nat)) (ps : List Nat) (p : Nat) : xrows n ms (ps ++ [p]) = xorL (xrows n ms ps) (ms.getD p (0, [])).2 := by simp [xrows, xrowsF]
theorem xrowsF_right {n : Nat} {ms : List (Int × List Nat)} (hr : rightM n ms = true) (ps : List Nat) (hp : ∀ p ∈ ps, p < ms.length) (acc : List Nat) (ha : rightB (n : Int) acc = true) : rightB (n : Int) (xrowsF ms acc ps) = true := by
  induction ps generalizing acc with
  | nil => exact ha
  | cons p ps ih => exact ih (fun q hq => hp q (List.mem_cons_of_mem _ hq)) _ (right_xor ha (rightM_at hr p (hp p (List.mem_cons_self ..))).2)
theorem xrowsF_lt {ms : List (Int × List Nat)} (hz : ∀ i j, ((ms.getD i (0, [])).2).getD j 0 < 18446744073709551616) (ps : List Nat) (acc : List Nat) (ha : ∀ j, acc.getD j 0 < 18446744073709551616) (j : Nat) : (xrowsF ms acc ps).getD j 0 < 18446744073709551616 := by
  induction ps generalizing acc with
  | nil => exact ha j
  | cons p ps ih => exact ih _ (xorL_lt _ _ ha (hz p))
theorem rightM_lmb {n : Nat} {ms : List (Int × List Nat)} (hr : rightM n ms = true) : lmb (n : Int) = true := by
  have := rightM_bd hr
  exact (lmb_iff n).2 ⟨by omega, by omega⟩
theorem xrows_right {n : Nat} {ms : List (Int × List Nat)} (hr : rightM n ms = true) (ps : List Nat) (hp : ∀ p ∈ ps, p < ms.length) : rightB (n : Int) (xrows n ms ps) = true := xrowsF_right hr ps hp _ (right_zeros n (rightM_lmb hr))
theorem xrows_lt (n : Nat) {ms : List (Int × List Nat)} (hz : ∀ i j, ((ms.getD i (0, [])).2).getD j 0 < 18446744073709551616) (ps : List Nat) (j : Nat) : (xrows n ms ps).getD j 0 < 18446744073709551616 := xrowsF_lt hz ps _ (zeros_lt _) j
theorem right_has {n : Nat} {us : List Nat} (h : rightB (n : Int) us = true) {i : Nat} (hi : i < n) : i / 64 < us.length := by
  have := right_len_eq h
  rw [Int.toNat_natCast] at this
  unfold nw at this; omega
theorem xrowsF_bit {n : Nat} {ms : List (Int × List Nat)} (hr : rightM n ms = true) (ps : List Nat) (hp : ∀ p ∈ ps, p < ms.length) (acc : List Nat) (ha : rightB (n : Int) acc = true) (i : Nat) (hi : i < n) : bitAt (xrowsF ms acc ps) i = (bitAt acc i + (ps.map fun p => mbit ms p i).sum) % 2 := by
  induction ps generalizing acc with
  | nil =>
    have := bitAt_le acc i
    simp [xrowsF]; omega
  | cons p ps ih =>
    have hp0 := (rightM_at hr p (hp p (List.mem_cons_self ..))).2
    have := ih (fun q hq => hp q (List.mem_cons_of_mem _ hq)) _ (right_xor ha hp0)
    have e : xrowsF ms acc (p :: ps) = xrowsF ms (xorL acc (ms.getD p (0, [])).2) ps := rfl
    rw [e, this, bitAt_xor _ _ _ (right_has ha hi) (right_has hp0 hi), List.map_cons, List.sum_cons]
    show (_ % 2 + _) % 2 = (_ + (bitAt (ms.getD p (0, [])).2 i + _)) % 2
    omega
theorem xrows_bit {n : Nat} {ms : List (Int × List Nat)} (hr : rightM n ms = true) (ps : List Nat) (hp : ∀ p ∈ ps, p < ms.length) (i : Nat) (hi : i < n) : bitAt (xrows n ms ps) i = (ps.map fun p => mbit ms p i).sum % 2 := by
  unfold xrows
  rw [xrowsF_bit hr ps hp _ (right_zeros n (rightM_lmb hr)) i hi, bitAt_zeros, Nat.zero_add]
/-- The sum of products of bits. -/
def psum (us : List Nat) (ms : List (Int × List Nat)) (i : Nat) : Nat → Nat
  | 0 => 0
  | k + 1 => psum us ms i k + bitAt us k * mbit ms k i
theorem psum_le (us : List Nat) (ms : List (Int × List Nat)) (i k : Nat) : psum us ms i k ≤ k := by
  induction k with
  | zero => exact Nat.le_refl _
  | succ k ih =>
    simp only [psum]
    rcases bitAt_le us k with h | h <;> rcases mbit_le ms k i with h' | h' <;> rw [h, h'] <;> omega
theorem psum_plc (us : List Nat) (ms : List (Int × List Nat)) (i k : Nat) : ((plcN us k).map fun p => mbit ms p i).sum = psum us ms i k := by
  induction k with
  | zero => rfl
  | succ k ih =>
    rw [plcN_succ, List.map_append, List.sum_append, ih]
    simp only [psum]
    rcases bitAt_le us k with h | h <;> simp [h]
/-- A row times a matrix of n columns. -/
def mulW (n : Nat) (ms : List (Int × List Nat)) (us : List Nat) : List Nat := xrows n ms (plcN us ms.length)
theorem plc_lt {us : List Nat} {k : Nat} : ∀ p ∈ plcN us k, p < k := fun _ h => plcN_lt us k h
theorem mulW_right {n : Nat} {ms : List (Int × List Nat)} (hr : rightM n ms = true) (us : List Nat) : rightB (n : Int) (mulW n ms us) = true := xrows_right hr _ plc_lt
theorem mulW_lt (n : Nat) {ms : List (Int × List Nat)} (hz : ∀ i j, ((ms.getD i (0, [])).2).getD j 0 < 18446744073709551616) (us : List Nat) (j : Nat) : (mulW n ms us).getD j 0 < 18446744073709551616 := xrows_lt n hz _ j
theorem mulW_bit {n : Nat} {ms : List (Int × List Nat)} (hr : rightM n ms = true) (us : List Nat) (i : Nat) (hi : i < n) : bitAt (mulW n ms us) i = psum us ms i ms.length % 2 := by
  unfold mulW
  rw [xrows_bit hr _ plc_lt i hi, psum_plc]
/-- The row times the matrix as numbers. -/
def mulZ (us : List Nat) (ms : List (Int × List Nat)) (k : Nat) : List Int := (List.range k).map fun i => ((psum us ms i ms.length % 2 : Nat) : Int)
theorem mulZ_succ (us : List Nat) (ms : List (Int × List Nat)) (k : Nat) : mulZ us ms (k + 1) = mulZ us ms k ++ [((psum us ms k ms.length % 2 : Nat) : Int)] := by simp [mulZ, List.range_succ]
theorem mulZ_len (us : List Nat) (ms : List (Int × List Nat)) (k : Nat) : (mulZ us ms k).length = k := by simp [mulZ]
theorem mulZ_bound (us : List Nat) (ms : List (Int × List Nat)) (k j : Nat) : -9223372036854775808 ≤ (mulZ us ms k).getD j 0 ∧ (mulZ us ms k).getD j 0 ≤ 9223372036854775807 := by
  by_cases hj : j < k
  · have e : (mulZ us ms k).getD j 0 = ((psum us ms j ms.length % 2 : Nat) : Int) := by simp [mulZ, List.getD, hj]
    rw [e]; omega
  · have e : (mulZ us ms k)[j]? = none := List.getElem?_eq_none (by rw [mulZ_len]; omega)
    simp only [List.getD, e, Option.getD_none]; omega
theorem hasB_plcZ (l : List Nat) (j : Nat) : hasB (plcZ l) (j : Int) = l.contains j := by
  unfold hasB plcZ
  rw [Bool.eq_iff_iff]
  simp only [List.contains_iff_mem, List.mem_map]
  constructor
  · rintro ⟨a, h, e⟩
    obtain rfl : a = j := by omega
    exact h
  · exact fun h => ⟨j, h, rfl⟩
/-- A list of bits is read back as the row that has them. -/
theorem from_row {n : Nat} {us : List Nat} (h : rightB (n : Int) us = true) (hu : ∀ j, us.getD j 0 < 18446744073709551616) (zs : List Int) (hz : zs = (List.range n).map fun i => ((bitAt us i : Nat) : Int)) : fromL (bitsOf zs) (nw n) = us := by
  have e : zs = ofInts (plcZ (plcN us n)) n := by
    rw [hz]
    unfold ofInts
    apply List.map_congr_left
    intro j hj
    have hj' : j < n := by simpa using hj
    rw [hasB_plcZ]
    have e : (plcN us n).contains j = (bitAt us j == 1) := by
      rw [Bool.eq_iff_iff]
      simp [plcN, hj']
    rw [e]
    rcases bitAt_le us j with h | h <;> simp [h]
  rw [e, from_of n _ (there_plc us n), ofBits_plc us n h hu]
theorem from_mul {n : Nat} {ms : List (Int × List Nat)} (hr : rightM n ms = true) (hz : ∀ i j, ((ms.getD i (0, [])).2).getD j 0 < 18446744073709551616) (us : List Nat) : fromL (bitsOf (mulZ us ms n)) (nw n) = mulW n ms us := by
  refine from_row (mulW_right hr us) (mulW_lt n hz us) _ ?_
  unfold mulZ
  apply List.map_congr_left
  intro i hi
  rw [mulW_bit hr us i (by simpa using hi)]
def mulM (n : Nat) (ms rs : List (Int × List Nat)) : List (Int × List Nat) := (List.range rs.length).map fun i => ((n : Int), mulW n ms (rs.getD i (0, [])).2)
theorem mulM_len (n : Nat) (ms rs : List (Int × List Nat)) : (mulM n ms rs).length = rs.length := by simp [mulM]
theorem mulM_at (n : Nat) (ms rs : List (Int × List Nat)) (i : Nat) (h : i < rs.length) : (mulM n ms rs).getD i (0, []) = ((n : Int), mulW n ms (rs.getD i (0, [])).2) := by simp [mulM, List.getD, h]
theorem mulM_lt (n : Nat) {ms : List (Int × List Nat)} (rs : List (Int × List Nat)) (hz : ∀ i j, ((ms.getD i (0, [])).2).getD j 0 < 18446744073709551616) (i j : Nat) : (((mulM n ms rs).getD i (0, [])).2).getD j 0 < 18446744073709551616 := by
  by_cases h : i < rs.length
  · rw [mulM_at n ms rs i h]; exact mulW_lt n hz _ j
  · have e : (mulM n ms rs)[i]? = none := List.getElem?_eq_none (by rw [mulM_len]; omega)
    simp [List.getD, e]
theorem mulM_take (n : Nat) (ms rs : List (Int × List Nat)) (i : Nat) (h : i < rs.length) : (mulM n ms rs).take (i + 1) = (mulM n ms rs).take i ++ [((n : Int), mulW n ms (rs.getD i (0, [])).2)] := by
  rw [take_one (mulM n ms rs) i (0, []) (by rw [mulM_len]; exact h), mulM_at n ms rs i h]
end
section
/- How many bits of a word are 1, byte by byte, and folded. No program. -/
set_option linter.unusedVariables false
set_option linter.unusedSimpArgs false
/-- A number by its bytes, the lowest first. -/
def valB : List Nat → Nat
  | [] => 0
  | c :: cs => c + 256 * valB cs
theorem valB_and (m : Nat) (hm : m < 256) : ∀ cs : List Nat, (∀ c ∈ cs, c < 256) → valB cs &&& valB (List.replicate cs.length m) = valB (cs.map (· &&& m))
  | [], _ => by simp [valB]
  | c :: cs, h => by
    have hc : c < 256 := h c (by simp)
    have ih := valB_and m hm cs (fun x hx => h x (by simp [hx]))
    have e1 : (valB (c :: cs) &&& valB (List.replicate (c :: cs).length m)) / 2 ^ 8 = valB (c :: cs) / 2 ^ 8 &&& valB (List.replicate (c :: cs).length m) / 2 ^ 8 := Nat.and_div_two_pow
    have e2 : (valB (c :: cs) &&& valB (List.replicate (c :: cs).length m)) % 2 ^ 8 = (valB (c :: cs) % 2 ^ 8) &&& (valB (List.replicate (c :: cs).length m) % 2 ^ 8) := Nat.and_mod_two_pow
    simp only [List.length_cons, List.replicate_succ, valB] at *
    rw [show (c + 256 * valB cs) / 2 ^ 8 = valB cs by omega, show (m + 256 * valB (List.replicate cs.length m)) / 2 ^ 8 = valB (List.replicate cs.length m) by omega, ih] at e1
    rw [show (c + 256 * valB cs) % 2 ^ 8 = c by omega, show (m + 256 * valB (List.replicate cs.length m)) % 2 ^ 8 = m by omega] at e2
    have := Nat.div_add_mod ((c + 256 * valB cs) &&& (m + 256 * valB (List.replicate cs.length m))) (2 ^ 8)
    rw [e1, e2] at this
    simp only [List.map_cons, valB]
    omega
/-- Bytes shifted down by k bits. -/
def shrB (p q : Nat) : List Nat → List Nat
  | [] => []
  | [c] => [c / p]
  | c :: d :: r => (c / p + d % p * q) :: shrB p q (d :: r)
theorem div_cut (c p q y : Nat) (hp : 0 < p) (e : p * q = 256) : (c + 256 * y) / p = c / p + q * y := by
  rw [← e, Nat.mul_assoc, Nat.add_mul_div_left _ _ hp]
theorem shrB_val (p q : Nat) (hp : 0 < p) (e : p * q = 256) : ∀ cs : List Nat, valB (shrB p q cs) = valB cs / p
  | [] => by simp [shrB, valB]
  | [c] => by simp [shrB, valB]
  | c :: d :: r => by
    have ih := shrB_val p q hp e (d :: r)
    show c / p + d % p * q + 256 * valB (shrB p q (d :: r)) = (c + 256 * valB (d :: r)) / p
    rw [ih, div_cut c p q _ hp e, ← e]
    have h1 := Nat.div_add_mod (valB (d :: r)) p
    have h2 : valB (d :: r) % p = d % p := by
      simp only [valB]
      rw [← e, Nat.mul_assoc, Nat.add_mul_mod_self_left]
    rw [h2] at h1
    have h3 : q * valB (d :: r) = q * (p * (valB (d :: r) / p) + d % p) := by rw [h1]
    rw [h3, Nat.mul_add, Nat.mul_comm (d % p) q, ← Nat.mul_assoc q p, Nat.mul_comm q p]
    omega
theorem shrB_len (p q : Nat) : ∀ cs : List Nat, (shrB p q cs).length = cs.length
  | [] => rfl
  | [c] => rfl
  | c :: d :: r => by simp only [shrB, List.length_cons]; rw [shrB_len p q (d :: r)]; rfl
theorem shrB_lt (p q : Nat) (hp : 0 < p) (e : p * q = 256) : ∀ cs : List Nat, (∀ c ∈ cs, c < 256) → ∀ c ∈ shrB p q cs, c < 256
  | [], _ => by simp [shrB]
  | [c], h => by
    intro x hx
    have : x = c / p := by simpa [shrB] using hx
    have := h c (by simp)
    have := Nat.div_le_self c p
    omega
  | c :: d :: r, h => by
    intro x hx
    rcases List.mem_cons.1 (show x ∈ (c / p + d % p * q) :: shrB p q (d :: r) from hx) with rfl | hx
    · have h1 := h c (by simp)
      have h2 : c / p < q := by rw [Nat.div_lt_iff_lt_mul hp, Nat.mul_comm, e]; exact h1
      have h3 : d % p < p := Nat.mod_lt _ hp
      have h4 : (d % p + 1) * q ≤ p * q := Nat.mul_le_mul_right _ h3
      rw [Nat.add_mul, Nat.one_mul, e] at h4
      omega
    · exact shrB_lt p q hp e (d :: r) (fun y hy => h y (by simp [hy])) x hx
theorem valB_add : ∀ xa bs : List Nat, xa.length = bs.length → valB xa + valB bs = valB (List.zipWith (· + ·) xa bs)
  | [], [], _ => rfl
  | a :: xa, b :: bs, h => by
    have ih := valB_add xa bs (by simpa using h)
    simp only [valB, List.zipWith_cons_cons]
    omega
  | [], _ :: _, h => by simp at h
  | _ :: _, [], h => by simp at h
/-- Two masked halves put together, byte by byte. -/
theorem half_map (p q m : Nat) (f : Nat → Nat) (hf : ∀ c, c < 256 → ∀ z, z < p → ((c / p + z * q) &&& m) + (c &&& m) = f c) (hf0 : ∀ c, c < 256 → ((c / p) &&& m) + (c &&& m) = f c) (hp : 0 < p) :
    ∀ cs : List Nat, (∀ c ∈ cs, c < 256) → List.zipWith (· + ·) ((shrB p q cs).map (· &&& m)) (cs.map (· &&& m)) = cs.map f
  | [], _ => rfl
  | [c], h => by simp [shrB, hf0 c (h c (by simp))]
  | c :: d :: r, h => by
    have ih := half_map p q m f hf hf0 hp (d :: r) (fun y hy => h y (by simp [hy]))
    simp only [shrB, List.map_cons, List.zipWith_cons_cons] at *
    rw [ih, hf c (h c (by simp)) (d % p) (Nat.mod_lt _ hp)]
/-- Two halves put together, and masked, byte by byte. -/
theorem both_map : ∀ cs : List Nat, (List.zipWith (· + ·) (shrB 16 16 cs) cs).map (· &&& 15) = cs.map fun c => (c / 16 + c) % 16
  | [] => rfl
  | [c] => by
    simp only [shrB, List.zipWith_cons_cons, List.zipWith_nil_left, List.map_cons, List.map_nil]
    exact congrArg (fun y => [y]) (Nat.and_two_pow_sub_one_eq_mod (c / 16 + c) 4)
  | c :: d :: r => by
    have ih := both_map (d :: r)
    simp only [shrB, List.map_cons, List.zipWith_cons_cons] at *
    rw [ih, show (c / 16 + d % 16 * 16 + c) &&& 15 = (c / 16 + d % 16 * 16 + c) % 2 ^ 4 from Nat.and_two_pow_sub_one_eq_mod _ 4, show (c / 16 + d % 16 * 16 + c) % 2 ^ 4 = (c / 16 + c) % 16 by omega]
theorem both_lt : ∀ cs : List Nat, (∀ c ∈ cs, c / 16 ≤ 4 ∧ c % 16 ≤ 4) → ∀ x ∈ List.zipWith (· + ·) (shrB 16 16 cs) cs, x < 256
  | [], _ => by simp [shrB]
  | [c], h => by
    intro x hx
    have := h c (by simp)
    have : x = c / 16 + c := by simpa [shrB] using hx
    omega
  | c :: d :: r, h => by
    intro x hx
    simp only [shrB, List.zipWith_cons_cons] at hx
    rcases List.mem_cons.1 hx with rfl | hx
    · have h1 := h c (by simp)
      have h2 := h d (by simp)
      omega
    · exact both_lt (d :: r) (fun y hy => h y (by simp [hy])) x hx
def f1 (c : Nat) : Nat := ((c / 2) &&& 85) + (c &&& 85)
def f2 (c : Nat) : Nat := ((c / 4) &&& 51) + (c &&& 51)
/-- How many bits of a byte are 1. -/
def pop8 (c : Nat) : Nat := ((List.range 8).filter c.testBit).length
theorem f1_ok : ∀ c : Fin 256, ∀ z : Fin 2, ((c.val / 2 + z.val * 128) &&& 85) + (c.val &&& 85) = f1 c.val := by decide +kernel
theorem f1_lt : ∀ c : Fin 256, f1 c.val < 171 := by decide +kernel
theorem f2_ok : ∀ c : Fin 256, ∀ z : Fin 4, ((c.val / 4 + z.val * 64) &&& 51) + (c.val &&& 51) = f2 c.val := by decide +kernel
theorem f2_lt : ∀ c : Fin 256, f2 (f1 c.val) / 16 ≤ 4 ∧ f2 (f1 c.val) % 16 ≤ 4 := by decide +kernel
theorem pop_ok : ∀ c : Fin 256, (f2 (f1 c.val) / 16 + f2 (f1 c.val)) % 16 = pop8 c.val := by decide +kernel
theorem pop_le : ∀ c : Fin 256, pop8 c.val ≤ 8 := by decide +kernel
/-- The three steps that count within bytes. -/
def stepA (x : Nat) : Nat := ((x / 2) &&& 6148914691236517205) + (x &&& 6148914691236517205)
def stepB (x : Nat) : Nat := ((x / 4) &&& 3689348814741910323) + (x &&& 3689348814741910323)
def stepC (x : Nat) : Nat := (x / 16 + x) &&& 1085102592571150095
theorem step_half (p q m : Nat) (f : Nat → Nat) (M : Nat) (hm : m < 256) (hp : 0 < p) (e : p * q = 256) (hf : ∀ c : Fin 256, ∀ z : Fin p, ((c.val / p + z.val * q) &&& m) + (c.val &&& m) = f c.val) (cs : List Nat) (h : ∀ c ∈ cs, c < 256) (hM : M = valB (List.replicate cs.length m)) :
    ((valB cs / p) &&& M) + (valB cs &&& M) = valB (cs.map f) := by
  have l1 := shrB_len p q cs
  have e1 := valB_and m hm (shrB p q cs) (shrB_lt p q hp e cs h)
  have e2 := valB_and m hm cs h
  rw [l1, shrB_val p q hp e] at e1
  rw [hM, e1, e2, valB_add _ _ (by simp [l1]), half_map p q m f (fun c hc z hz => hf ⟨c, hc⟩ ⟨z, hz⟩) (fun c hc => by have := hf ⟨c, hc⟩ ⟨0, hp⟩; simpa using this) hp cs h]
theorem steps (cs : List Nat) (h : ∀ c ∈ cs, c < 256) (h8 : cs.length = 8) : stepC (stepB (stepA (valB cs))) = valB (cs.map pop8) ∧ stepA (valB cs) = valB (cs.map f1) ∧ stepB (stepA (valB cs)) = valB (cs.map fun c => f2 (f1 c)) := by
  have a1 : stepA (valB cs) = valB (cs.map f1) := step_half 2 128 85 f1 _ (by decide) (by decide) rfl f1_ok cs h (by rw [h8]; decide)
  have hb : ∀ c ∈ cs.map f1, c < 256 := by
    intro x hx
    obtain ⟨c, hc, rfl⟩ := List.mem_map.1 hx
    have := f1_lt ⟨c, h c hc⟩
    simp only at this
    omega
  have a2 : stepB (valB (cs.map f1)) = valB ((cs.map f1).map f2) := step_half 4 64 51 f2 _ (by decide) (by decide) rfl f2_ok _ hb (by rw [List.length_map, h8]; decide)
  rw [List.map_map] at a2
  refine ⟨?_, a1, by rw [a1, a2]; rfl⟩
  rw [a1, a2]
  unfold stepC
  have hc : ∀ x ∈ cs.map (f2 ∘ f1), x / 16 ≤ 4 ∧ x % 16 ≤ 4 := by
    intro x hx
    obtain ⟨c, hc, rfl⟩ := List.mem_map.1 hx
    exact f2_lt ⟨c, h c hc⟩
  rw [← shrB_val 16 16 (by decide) rfl, valB_add _ _ (by rw [shrB_len])]
  have e3 := valB_and 15 (by decide) _ (both_lt _ hc)
  have hl : (List.zipWith (· + ·) (shrB 16 16 (cs.map (f2 ∘ f1))) (cs.map (f2 ∘ f1))).length = 8 := by simp [shrB_len, h8]
  rw [hl, both_map, List.map_map] at e3
  rw [show (1085102592571150095 : Nat) = valB (List.replicate 8 15) by decide, e3]
  congr 1
  apply List.map_congr_left
  intro c hc
  exact pop_ok ⟨c, h c hc⟩
/-- The bytes of a word. -/
def bytesW (x : Nat) : List Nat := (List.range 8).map fun i => x / 256 ^ i % 256
theorem bytesW_eq (x : Nat) : bytesW x = [x % 256, x / 256 % 256, x / 65536 % 256, x / 16777216 % 256, x / 4294967296 % 256, x / 1099511627776 % 256, x / 281474976710656 % 256, x / 72057594037927936 % 256] := by simp [bytesW, List.range_succ]
theorem bytesW_val (x : Nat) (h : x < 18446744073709551616) : valB (bytesW x) = x := by
  rw [bytesW_eq]
  simp only [valB]
  omega
/-- The sums of bytes, folded. -/
theorem fold_sum (a b c d e f g i : Nat) (h : a ≤ 8 ∧ b ≤ 8 ∧ c ≤ 8 ∧ d ≤ 8 ∧ e ≤ 8 ∧ f ≤ 8 ∧ g ≤ 8 ∧ i ≤ 8) (z t u v : Nat) (hz : z = valB [a, b, c, d, e, f, g, i]) (ht : t = z + z / 256) (hu : u = t + t / 65536) (hv : v = u + u / 4294967296) :
    v % 128 = a + b + c + d + e + f + g + i ∧ v < 18446744073709551616 := by
  simp only [valB] at hz
  have t1 : t = (a + b) + 256 * ((b + c) + 256 * ((c + d) + 256 * ((d + e) + 256 * ((e + f) + 256 * ((f + g) + 256 * ((g + i) + 256 * i)))))) := by omega
  clear ht hz
  have u1 : u = (a + b + c + d) + 256 * ((b + c + d + e) + 256 * ((c + d + e + f) + 256 * ((d + e + f + g) + 256 * ((e + f + g + i) + 256 * ((f + g + i) + 256 * ((g + i) + 256 * i)))))) := by omega
  clear hu t1
  have v1 : u / 4294967296 = (e + f + g + i) + 256 * ((f + g + i) + 256 * ((g + i) + 256 * i)) := by omega
  rw [v1, u1] at hv
  omega
/-- How many of the first m bits are 1. -/
def popW (x m : Nat) : Nat := ((List.range m).filter x.testBit).length
theorem popW_step (x m : Nat) : popW x (m + 8) = popW x m + pop8 (x / 2 ^ m % 256) := by
  unfold popW pop8
  rw [List.range_add, List.filter_append, List.length_append, List.filter_map, List.length_map]
  congr 2
  apply List.filter_congr
  intro j hj
  have hj : j < 8 := by simpa using hj
  show x.testBit (m + j) = _
  rw [show (256 : Nat) = 2 ^ 8 from rfl, Nat.testBit_mod_two_pow, Nat.testBit_div_two_pow, Nat.add_comm]
  simp [hj]
theorem popW_bytes (x : Nat) : popW x 64 = pop8 (x % 256) + pop8 (x / 256 % 256) + pop8 (x / 65536 % 256) + pop8 (x / 16777216 % 256) + pop8 (x / 4294967296 % 256) + pop8 (x / 1099511627776 % 256) + pop8 (x / 281474976710656 % 256) + pop8 (x / 72057594037927936 % 256) := by
  have s0 := popW_step x 0
  have s1 := popW_step x 8
  have s2 := popW_step x 16
  have s3 := popW_step x 24
  have s4 := popW_step x 32
  have s5 := popW_step x 40
  have s6 := popW_step x 48
  have s7 := popW_step x 56
  have z : popW x 0 = 0 := rfl
  simp only [Nat.reduceAdd, Nat.reducePow, Nat.div_one] at s0 s1 s2 s3 s4 s5 s6 s7
  omega
/-- The library's count of a word's bits, step by step. -/
theorem count_word (x : Nat) (hx : x < 18446744073709551616) (z t u v : Nat) (hz : z = stepC (stepB (stepA x))) (ht : t = z + z / 256) (hu : u = t + t / 65536) (hv : v = u + u / 4294967296) : v % 128 = popW x 64 ∧ v < 18446744073709551616 := by
  have hb : ∀ c ∈ bytesW x, c < 256 := by
    intro c hc
    rw [bytesW] at hc
    obtain ⟨i, -, rfl⟩ := List.mem_map.1 hc
    exact Nat.mod_lt _ (by omega)
  have h1 := (steps (bytesW x) hb (by simp [bytesW])).1
  rw [bytesW_val x hx] at h1
  rw [h1, bytesW_eq] at hz
  rw [popW_bytes]
  have hp : ∀ y : Nat, pop8 (y % 256) ≤ 8 := fun y => pop_le ⟨y % 256, Nat.mod_lt _ (by omega)⟩
  exact fold_sum _ _ _ _ _ _ _ _ ⟨hp x, hp _, hp _, hp _, hp _, hp _, hp _, hp _⟩ z t u v hz ht hu hv
theorem steps_small (x : Nat) : stepA x < 18446744073709551616 ∧ stepB (stepA x) < 18446744073709551616 ∧ stepA x = ((x / 2) &&& 6148914691236517205) + (x &&& 6148914691236517205) := by
  have h1 : (x / 2) &&& 6148914691236517205 ≤ 6148914691236517205 := Nat.and_le_right
  have h2 : x &&& 6148914691236517205 ≤ 6148914691236517205 := Nat.and_le_right
  have h3 : (stepA x / 4) &&& 3689348814741910323 ≤ 3689348814741910323 := Nat.and_le_right
  have h4 : stepA x &&& 3689348814741910323 ≤ 3689348814741910323 := Nat.and_le_right
  refine ⟨?_, ?_, rfl⟩
  · unfold stepA; omega
  · show (stepA x / 4 &&& 3689348814741910323) + (stepA x &&& 3689348814741910323) < _; omega
end
section
/- math/bits.OnesCount64, bitrow.Count. -/
set_option linter.unusedVariables false
set_option linter.unusedSimpArgs false
open Go.RowKit
theorem ofInt_i64N (a : Nat) (ha : a < 9223372036854775808) : (BitVec.ofInt 64 (a : Int)).toNat = a := by
  rw [BitVec.ofInt_natCast, BitVec.toNat_ofNat]; exact Nat.mod_eq_of_lt (by omega)
theorem i64_and_nat (a b : Nat) (ha : a < 9223372036854775808) (hb : b < 9223372036854775808) : bits .and .i64 (a : Int) (b : Int) = ((a &&& b : Nat) : Int) := by
  have hx : a &&& b < 2 ^ 63 := Nat.and_lt_two_pow _ (by omega)
  show IntKind.i64.wrap ((BitVec.ofInt 64 (a : Int) &&& BitVec.ofInt 64 (b : Int)).toNat : Int) = _
  rw [BitVec.toNat_and, ofInt_i64N a ha, ofInt_i64N b hb]
  exact IntWalk.i64_in _ (by omega)
theorem low7 (v : Nat) : v &&& 127 = v % 128 := Nat.and_two_pow_sub_one_eq_mod v 7
end
section
/- bitrow.Count, bitrow.Get. -/
set_option linter.unusedVariables false
set_option linter.unusedSimpArgs false
open Go.RowKit
theorem plcN_word (us : List Nat) (j : Nat) : (plcN us (64 * (j + 1))).length = (plcN us (64 * j)).length + popW (us.getD j 0) 64 := by
  unfold plcN popW
  rw [show 64 * (j + 1) = 64 * j + 64 by omega, List.range_add, List.filter_append, List.length_append, List.filter_map, List.length_map]
  congr 2
  apply List.filter_congr
  intro p hp
  have hp : p < 64 := by simpa using hp
  show (bitAt us (64 * j + p) == 1) = _
  rw [Bool.eq_iff_iff, beq_iff_eq, bitAt_bit us j p hp]
end
section
/- bitrow.First: the first place of a bit 1. -/
set_option linter.unusedVariables false
set_option linter.unusedSimpArgs false
open Go.RowKit Go.Shelf
attribute [local go_sem] Oper.semAt_some
/-- What First tells of the places. -/
def firstV : List Nat → Int
  | [] => 0
  | p :: _ => (p : Int)
def firstE : List Nat → Int
  | [] => 4
  | _ :: _ => 0
theorem boxed_putObj {W : World} {B D : Nat} {t : TypeId} {v : Value} {o : Obj} (hD : D ≠ B) (h : Boxed W B t v) : Boxed (W.putObj D o) B t v := (World.putObj_heap_other (Ne.symm hD)).trans h
end
section
/- The reference's Places: where a row's bits are 1. -/
set_option linter.unusedVariables false
set_option linter.unusedSimpArgs false
open Go.RowKit
/-- A slice of numbers of its own is returned. -/
def PlcRet (ys : List Nat) (w : World) (e : Ending) (w' : World) : Prop := ∃ v, e = .returned v ∧ w'.ownsRow w.heap.size 3 1 v ys.length (ys.map plcV) ∧ Below w.heap.size w w'
end
end Go.Proofs.YtmfhimeffmpgaaaGreat
