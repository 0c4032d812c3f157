/- Parts: Bs3, Bs4, BsC, BsK, Re5, BsF. -/
import Derived.Test.YtdfmogcgangdnaaZg
import Derived.Deep.RegionHeld3
namespace Go.Proofs.Ytdfmogcgangdnaa
section
/- backsub: owner.clear. -/
set_option linter.unusedVariables false
set_option linter.unusedSimpArgs false
open Go.RowKit
set_option maxRecDepth 100000
theorem gr_trans {w w1 w2 : World} {r : Option Nat} (h : w.grownBy w1 r) (k : w1.grownBy w2 r) : w.grownBy w2 r :=
  ⟨k.os.trans h.os, k.tape.trans h.tape, k.output.trans h.output, Nat.le_trans h.size k.size, fun b hb hne => (k.block b (Nat.lt_of_lt_of_le hb h.size) hne).trans (h.block b hb hne)⟩
theorem gr_set (w : World) (g i : Nat) (u : Value) {r : Option Nat} (h : r = some g) : w.grownBy (w.setCell ⟨g, i, none⟩ u) r := by subst h; exact gk_set w g i u
/-- What lies below is kept. -/
theorem gr_low {w0 w w1 : World} {B : Nat} {r : Option Nat} (hb : Below B w0 w) (hB : B ≤ w.heap.size) (h : w.grownBy w1 r) (hr : ∀ g, r = some g → B ≤ g) : Below B w0 w1 :=
  hb.trans ⟨h.os, h.tape, h.output, h.size, fun b hb => h.block b (Nat.lt_of_lt_of_le hb hB) (fun e => by have := hr b e.symm; omega)⟩
theorem PairsQ.block {w0 w : World} {base g c m : Nat} {N : Nat} {L : List PV} (h : PairsQ w0 w base (.slice (some ⟨g, 0, none⟩) m c) N L) (hn : 0 < L.length) : ∃ cur, Box w g 85 cur := by
  obtain ⟨rs, h1, h2, h3⟩ := h
  obtain ⟨g', c', hv, -, -, -, cur, hb⟩ := h2.form hn
  injection hv with hv
  injection hv with hv
  injection hv with hv
  subst hv
  exact ⟨cur, hb⟩
theorem box_ne {w : World} {g b : Nat} {t u : TypeId} {cs ds : Array Value} (h : Box w g t cs) (k : Box w b u ds) (hne : t ≠ u) : g ≠ b := fun e => by
  subst e
  unfold Box at h k
  rw [h] at k
  injection k with k
  injection k with _ k
  exact hne k
section
variable {w0 W : World} {g i N : Nat} {A : Option Addr} {l d : Nat} {s : ByteArray} {cur : Array Value}
theorem prW_row (h : Box W g 85 cur) {n : Nat} {r : RowV} {x : Nat} (q : RowQ w0 W n r x) : RowQ w0 (((W.setCell ⟨g, i * 3, none⟩ (.int .i64 (N : Int))).setCell ⟨g, i * 3 + 1, none⟩ (.slice A l d)).setCell ⟨g, i * 3 + 2, none⟩ (.string s)) n r x := ((q.far h (by decide) _ _).far (h.put _ _) (by decide) _ _).far ((h.put _ _).put _ _) (by decide) _ _
theorem prW_box {b : Nat} {t : TypeId} {cs : Array Value} (q : Box W b t cs) (hne : b ≠ g) : Box (((W.setCell ⟨g, i * 3, none⟩ (.int .i64 (N : Int))).setCell ⟨g, i * 3 + 1, none⟩ (.slice A l d)).setCell ⟨g, i * 3 + 2, none⟩ (.string s)) b t cs := ((q.far (p := ⟨g, i * 3, none⟩) hne _).far (p := ⟨g, i * 3 + 1, none⟩) hne _).far (p := ⟨g, i * 3 + 2, none⟩) hne _
end
/-- A pair stored anew. -/
def prW (W : World) (g i N : Nat) (A : Option Addr) (l d : Nat) (s : ByteArray) : World := ((W.setCell ⟨g, i * 3, none⟩ (.int .i64 (N : Int))).setCell ⟨g, i * 3 + 1, none⟩ (.slice A l d)).setCell ⟨g, i * 3 + 2, none⟩ (.string s)
theorem prW_grown (W : World) (g i N : Nat) (A : Option Addr) (l d : Nat) (s : ByteArray) {r : Option Nat} (h : r = some g) : W.grownBy (prW W g i N A l d s) r := gr_trans (gr_trans (gr_set _ _ _ _ h) (gr_set _ _ _ _ h)) (gr_set _ _ _ _ h)
/-- What clear leaves. -/
def ClrOut (w0 : World) (base N : Nat) (v : Value) (L : List PV) (w : World) (r : Option Nat) (e : Ending) (w' : World) : Prop :=
  (∃ u, e = .returned u) ∧ PairsQ w0 w' base v N L ∧ w.grownBy w' r
set_option maxHeartbeats 4000000 in
theorem pclear_any (N n : Nat) (hN : N ≤ 512) (hn : n ≤ 64) (f : PV) (hf : GoodP N n f) (L : List PV) (hL : ∀ p ∈ L, GoodP N n p) (hlen : L.length ≤ 64) (c : Nat) (hc : c < N) (w0 : World) (base : Nat) (v : Value) (w : World) (hw0 : w0.heap.size ≤ w.heap.size) (hb0 : Below w0.heap.size w0 w) (hbase : w0.heap.size ≤ base)
    (A : Option Addr) (l d : Nat) (hq : RowQ w0 w N ((N : Int), A, l, d) f.1) (hr : PairsQ w0 w base v N L) (r : Option Nat) (hrr : ∀ g c, 0 < L.length → v = .slice (some ⟨g, 0, none⟩) L.length c → r = some g) (hrl : ∀ g, r = some g → w0.heap.size ≤ g) :
    Calls Try.prog 62 #[.agg #[.int .i64 (N : Int), .slice A l d, .string f.2, .int .i64 (c : Int)], v] w (ClrOut w0 base N v (clrP c f L) w r) := by
  have b1 : Below w.heap.size w (w.alloc (.cells #[.int .i64 (N : Int), .slice A l d, .string f.2, .int .i64 (c : Int)] 87)) := (Below.refl _ _).alloc (Nat.le_refl _) _
  have Q := Lib.hid (Box.new w 87 #[.int .i64 (N : Int), .slice A l d, .string f.2, .int .i64 (c : Int)])
  have HR := Lib.hid (hr.keep b1)
  have HQ := Lib.hid (hq.below b1)
  have HB := Lib.hid b1
  have HL := Lib.hid hL
  have HF := Lib.hid hf
  have HB0 := Lib.hid hb0
  have HRR := Lib.hid hrr
  have HRL := Lib.hid hrl
  obtain ⟨A0, cap, rfl, hcap, hcm⟩ := hr.form0
  unfold maxLen at hcm
  clear hr b1 hL hb0 hq hf hrr hrl
  go_enter Try.func62, Try.ntmps62
  go_wp2_with fail
  go_loopw [8] (fun t wr => ∃ i : Nat, i ≤ L.length ∧ t = .int .i64 (i : Int) ∧ Hid (Box wr w.heap.size 87 #[.int .i64 (N : Int), .slice A l d, .string f.2, .int .i64 (c : Int)]) ∧ Hid (RowQ w0 wr N ((N : Int), A, l, d) f.1) ∧ Hid (PairsQ w0 wr base (.slice A0 L.length cap) N (clrU c f L i)) ∧ Hid (w.grownBy wr r)) (fun t _ => L.length - (intOf t).toNat)
  case atStart => exact ⟨0, Nat.zero_le _, rfl, Q, HQ, Lib.hid (by rw [clrU_zero]; exact HR.out), Lib.hid (gk_below HB.out)⟩
  case round =>
    obtain ⟨i, hi, rfl, QB, RQ, PQ, HG⟩ := hrel
    have HCL := Lib.hid (clrU_len c f L i hi)
    have hws : w.heap.size < wr.heap.size := QB.out.lt
    by_cases hlt : i < L.length
    · have hlt' : (i : Int) < (L.length : Int) := by omega
      have pq := PQ.out
      obtain ⟨g, cap', hv, hgb, hgw, -, -⟩ := pq.form (by rw [HCL.out]; omega)
      injection hv with hv hc1 hcc
      subst hv
      clear hc1 hcc
      have HRg := Lib.hid (HRR.out g cap (by omega) rfl)
      rw [show L.length = (clrU c f L i).length from HCL.out.symm] at pq
      obtain ⟨A1, l1, d1, x0, x1, x2, rq, -, -, -⟩ := pq.at i (by rw [HCL.out]; exact hlt)
      have gp := clrU_good HF.out HL.out i _ (getD_memP (L := clrU c f L i) (i := i) (by rw [HCL.out]; exact hlt))
      rw [clrU_here c f L i hlt] at x2 rq gp
      obtain ⟨p, hp⟩ : ∃ p, p = L.getD i pv0 := ⟨_, rfl⟩
      rw [← hp] at x2 rq gp
      have GP := Lib.hid gp
      have HPI := Lib.hid hp
      have HBz := Lib.hid (gr_low HB0.out hw0 HG.out HRL.out)
      clear hp gp pq
      have al : Below wr.heap.size wr (wr.alloc (.cells #[.int .i64 (N : Int), .slice A1 l1 d1, .string p.2] 85)) := (Below.refl _ _).alloc (Nat.le_refl _) _
      have RB := Lib.hid (Box.new wr 85 #[.int .i64 (N : Int), .slice A1 l1 d1, .string p.2])
      have AL1 := Lib.hid al
      have RP := Lib.hid (rq.below al)
      have HW := Lib.hid (RP.out.words (Nat.le_refl _) (chainN HBz.out (by omega) al))
      have HH := Lib.hid (pairHas_any N p.1 hN GP.out.1 A1 l1 d1 c p.2 hc _ HW.out)
      obtain ⟨r0, r1, r2, -, -, -⟩ := RB.out.three
      obtain ⟨q0, q1, q2, q3, -, -, -, -⟩ := (QB.out.keep al).quad
      clear al rq HW
      cases hbit : p.1.testBit c with
      | false =>
        rw [hbit] at HH
        have HNo := Lib.hid (clrU_no c f L i hlt (by rw [← HPI.out]; exact hbit))
        clear hbit
        go_wp2_with fail
        refine HH.out.mono ?_
        rintro e w1 ⟨rfl, hb⟩
        have HC := Lib.hid (chain AL1.out hb)
        clear hb
        go_wp2_with fail
        go_roundw
        case rel => exact ⟨i + 1, by omega, by go_num, Lib.hid (QB.out.keep HC.out), Lib.hid (RQ.out.below HC.out), Lib.hid (by rw [HNo.out]; exact PQ.out.keep HC.out), Lib.hid (gr_trans HG.out (gk_below HC.out))⟩
        case measure => simp [intOf]; omega
      | true =>
        rw [hbit] at HH
        have HYes := Lib.hid (clrU_yes c f L i hlt (by rw [← HPI.out]; exact hbit))
        clear hbit
        go_wp2_with fail
        refine HH.out.mono ?_
        rintro e w1 ⟨rfl, hb⟩
        have HC := Lib.hid (chain AL1.out hb)
        have QB1 := Lib.hid (QB.out.keep HC.out)
        have RQ1 := Lib.hid (RQ.out.below HC.out)
        have PQ1 := Lib.hid (PQ.out.keep HC.out)
        have HG1 := Lib.hid (gr_trans HG.out (gk_below HC.out))
        have R1 := Lib.hid (RB.out.keep hb)
        have RP1 := Lib.hid (RP.out.below hb)
        have HBz1 := Lib.hid (chainN HBz.out (by omega) HC.out)
        clear hb QB RQ PQ HG RB RP HBz AL1 r0 r1 r2 q0 q1 q2 q3 x0 x1 x2 HH
        obtain ⟨r0, r1, r2, -, -, -⟩ := R1.out.three
        obtain ⟨q0, q1, q2, q3, -, -, -, -⟩ := QB1.out.quad
        have HX := Lib.hid (plus_any N n hN hn p f GP.out HF.out A1 A l1 d1 l d w1 (RP1.out.words (Nat.le_refl _) HBz1.out) (RQ1.out.words (Nat.le_refl _) HBz1.out))
        go_wp2_with fail
        refine HX.out.mono ?_
        rintro e w2 ⟨A3, l3, d3, rfl, ow, hb⟩
        have HC2 := Lib.hid (chainN HC.out HC.out.size hb)
        have QB2 := Lib.hid (QB1.out.keep hb)
        have RQ2 := Lib.hid (RQ1.out.below hb)
        have pq2 := PQ1.out.keep hb
        have HG2 := Lib.hid (gr_trans HG1.out (gk_below hb))
        have OW := Lib.hid (show RowQ w0 w2 N ((N : Int), A3, l3, d3) (plusP p f).1 from ⟨rfl, ow.ok, .inr ow⟩)
        rw [show L.length = (clrU c f L i).length from HCL.out.symm] at pq2
        have PQ2 := Lib.hid pq2
        obtain ⟨A5, l5, d5, z0, z1, z2, -, zf0, zf1, zf2⟩ := pq2.at i (by rw [HCL.out]; exact hlt)
        have hgw2 : g < w2.heap.size := Nat.lt_of_lt_of_le hgw HC2.out.size
        obtain ⟨cur, hcur⟩ := pq2.block (by rw [HCL.out]; omega)
        have HCur := Lib.hid hcur
        have n1 : ¬ w.heap.size = g := box_ne QB2.out hcur (by decide)
        clear hcur
        clear hb ow QB1 RQ1 PQ1 HG1 R1 RP1 HBz1 HX r0 r1 r2 q0 q1 q2 q3 pq2
        go_wp2_with fail
        go_roundw
        case rel =>
          have hput := PQ2.out.put i (by rw [HCL.out]; exact hlt) (plusP p f) OW.out
          rw [HPI.out, ← HYes.out, HCL.out] at hput
          rw [← HPI.out] at hput
          exact ⟨i + 1, by omega, by go_num, Lib.hid (prW_box QB2.out n1), Lib.hid (prW_row HCur.out RQ2.out), Lib.hid hput, Lib.hid (gr_trans HG2.out (prW_grown w2 g i N A3 l3 d3 (plusP p f).2 HRg.out))⟩
        case measure => simp [intOf]; omega
    · obtain rfl : i = L.length := by omega
      have hlt' : ¬ (L.length : Int) < (L.length : Int) := by omega
      have pq := PQ.out
      rw [clrU_all] at pq
      go_wp2_with fail
      go_end0
      exact ⟨⟨_, rfl⟩, pq, HG.out⟩
end
section
/- backsub: owners in memory; allNought. -/
set_option linter.unusedVariables false
set_option linter.unusedSimpArgs false
open Go.RowKit
set_option maxRecDepth 100000
/-- The cells of owners. -/
def owC : List RowV → List PV → List Nat → List Value
  | r :: rs, p :: L, q :: P => .int .i64 r.1 :: .slice r.2.1 r.2.2.1 r.2.2.2 :: .string p.2 :: .int .i64 (q : Int) :: owC rs L P
  | _, _, _ => []
theorem owC_len : ∀ (rs : List RowV) (L : List PV) (P : List Nat), rs.length = L.length → P.length = L.length → (owC rs L P).length = L.length * 4
  | [], [], [], _, _ => rfl
  | r :: rs, p :: L, q :: P, h, k => by simp only [owC, List.length_cons, owC_len rs L P (by simpa using h) (by simpa using k)]; omega
theorem owC_at : ∀ (rs : List RowV) (L : List PV) (P : List Nat), rs.length = L.length → P.length = L.length → ∀ i, i < L.length → (owC rs L P)[i * 4]? = some (.int .i64 (rs.getD i (0, none, 0, 0)).1) ∧ (owC rs L P)[i * 4 + 1]? = some (.slice (rs.getD i (0, none, 0, 0)).2.1 (rs.getD i (0, none, 0, 0)).2.2.1 (rs.getD i (0, none, 0, 0)).2.2.2) ∧ (owC rs L P)[i * 4 + 2]? = some (.string (L.getD i pv0).2) ∧ (owC rs L P)[i * 4 + 3]? = some (.int .i64 (P.getD i 0 : Nat))
  | [], [], [], _, _, i, h => by cases h
  | r :: rs, p :: L, q :: P, _, _, 0, _ => ⟨rfl, rfl, rfl, rfl⟩
  | r :: rs, p :: L, q :: P, h, k, i + 1, hi => by
    have ih := owC_at rs L P (by simpa using h) (by simpa using k) i (by simpa using hi)
    rw [show (i + 1) * 4 = i * 4 + 4 by omega]
    simp only [owC]
    exact ⟨ih.1, ih.2.1, ih.2.2.1, ih.2.2.2⟩
theorem owC_set : ∀ (rs : List RowV) (L : List PV) (P : List Nat), rs.length = L.length → P.length = L.length → ∀ i, i < L.length → ∀ (r : RowV) (p : PV), (((owC rs L P).set (i * 4) (.int .i64 r.1)).set (i * 4 + 1) (.slice r.2.1 r.2.2.1 r.2.2.2)).set (i * 4 + 2) (.string p.2) = owC (rs.set i r) (L.set i p) P
  | [], [], [], _, _, i, h, _, _ => by cases h
  | r0 :: rs, p0 :: L, q0 :: P, _, _, 0, _, r, p => rfl
  | r0 :: rs, p0 :: L, q0 :: P, h, k, i + 1, hi, r, p => by
    have ih := owC_set rs L P (by simpa using h) (by simpa using k) i (by simpa using hi) r p
    rw [show (i + 1) * 4 = i * 4 + 4 by omega, show i * 4 + 4 + 1 = i * 4 + 1 + 4 by omega, show i * 4 + 4 + 2 = i * 4 + 2 + 4 by omega]
    simp only [owC, List.set_cons_succ]
    rw [ih]
theorem owC_snoc : ∀ (rs : List RowV) (L : List PV) (P : List Nat), rs.length = L.length → P.length = L.length → ∀ (r : RowV) (p : PV) (q : Nat), owC (rs ++ [r]) (L ++ [p]) (P ++ [q]) = owC rs L P ++ [.int .i64 r.1, .slice r.2.1 r.2.2.1 r.2.2.2, .string p.2, .int .i64 (q : Int)]
  | [], [], [], _, _, r, p, q => rfl
  | r0 :: rs, p0 :: L, q0 :: P, h, k, r, p, q => by simp only [List.cons_append, owC, owC_snoc rs L P (by simpa using h) (by simpa using k) r p q]
/-- A row of owners of the call's own. -/
def OwnersQ (w0 w : World) (base : Nat) (v : Value) (N : Nat) (L : List PV) (P : List Nat) : Prop :=
  ∃ rs : List RowV, rs.length = L.length ∧ P.length = L.length ∧ w.ownsRow base 87 4 v L.length (owC rs L P) ∧ ∀ j, j < L.length → RowQ w0 w N (rs.getD j (0, none, 0, 0)) (L.getD j pv0).1
section
variable {w0 w w' : World} {base : Nat} {v : Value} {N : Nat} {L : List PV} {P : List Nat}
theorem OwnersQ.keep (h : OwnersQ w0 w base v N L P) (hb : Below w.heap.size w w') : OwnersQ w0 w' base v N L P := by
  obtain ⟨rs, h1, h2, h3, h4⟩ := h
  exact ⟨rs, h1, h2, own_keep h3 hb, fun j hj => (h4 j hj).below hb⟩
theorem OwnersQ.far (h : OwnersQ w0 w base v N L P) {g : Nat} {t : TypeId} {cs : Array Value} (hb : Box w g t cs) (hne : 68 ≠ t) (hne2 : 87 ≠ t) (i : Nat) (u : Value) : OwnersQ w0 (w.setCell ⟨g, i, none⟩ u) base v N L P := by
  obtain ⟨rs, h1, h2, h3, h4⟩ := h
  exact ⟨rs, h1, h2, own_far h3 hb hne2 i u, fun j hj => (h4 j hj).far hb hne i u⟩
theorem OwnersQ.form (h : OwnersQ w0 w base v N L P) (hn : 0 < L.length) : ∃ g c, v = .slice (some ⟨g, 0, none⟩) L.length c ∧ base ≤ g ∧ g < w.heap.size ∧ L.length ≤ c ∧ c ≤ maxLen ∧ ∃ cur, Box w g 87 cur := by
  obtain ⟨rs, h1, h2, h3, h4⟩ := h
  rcases h3.2 with ⟨hv, hz⟩ | ⟨g, cap, cur, hv, hb, hh, hc, hm, -⟩
  · omega
  · exact ⟨g, cap, hv, hb, (show Box w g _ cur from hh).lt, hc, hm, cur, hh⟩
theorem OwnersQ.form0 (h : OwnersQ w0 w base v N L P) : ∃ A c, v = .slice A L.length c ∧ L.length ≤ c ∧ c ≤ maxLen := by
  obtain ⟨rs, h1, h2, h3, h4⟩ := h
  obtain ⟨A, c, e, -⟩ := own_form h3
  refine ⟨A, c, e, ?_⟩
  rcases h3.2 with ⟨hv, hz⟩ | ⟨g, cap, cur, hv, hb, hh, hc, hm, -⟩
  · rw [hv] at e; injection e with _ _ e; exact ⟨by omega, by rw [← e]; simp [maxLen]⟩
  · rw [hv] at e; injection e with _ _ e; subst e; exact ⟨hc, hm⟩
theorem OwnersQ.at {g c : Nat} (h : OwnersQ w0 w base (.slice (some ⟨g, 0, none⟩) L.length c) N L P) (i : Nat) (hi : i < L.length) :
    ∃ A l d, w.cell? ⟨g, i * 4, none⟩ = some (.int .i64 N) ∧ w.cell? ⟨g, i * 4 + 1, none⟩ = some (.slice A l d) ∧ w.cell? ⟨g, i * 4 + 2, none⟩ = some (.string (L.getD i pv0).2) ∧ w.cell? ⟨g, i * 4 + 3, none⟩ = some (.int .i64 (P.getD i 0 : Nat)) ∧ RowQ w0 w N ((N : Int), A, l, d) (L.getD i pv0).1 ∧ w.frozen? ⟨g, i * 4, none⟩ = false ∧ w.frozen? ⟨g, i * 4 + 1, none⟩ = false ∧ w.frozen? ⟨g, i * 4 + 2, none⟩ = false ∧ w.frozen? ⟨g, i * 4 + 3, none⟩ = false := by
  obtain ⟨rs, h1, h2, h3, h4⟩ := h
  obtain ⟨a1, a2, a3, a4⟩ := owC_at rs L P h1 h2 i hi
  have q := h4 i hi
  have hc := World.ownsRow.cells h3 (g := g) rfl
  have c1 := hc _ _ a1
  have c2 := hc _ _ a2
  have c3 := hc _ _ a3
  have c4 := hc _ _ a4
  rw [add_zeroM] at c1 c2 c3 c4
  rw [q.1] at c1
  exact ⟨_, _, _, c1, c2, c3, c4, ⟨rfl, q.2.1, q.2.2⟩, h3.frozenAt _, h3.frozenAt _, h3.frozenAt _, h3.frozenAt _⟩
/-- A pair is put in place of an owner's. -/
theorem OwnersQ.put {g c : Nat} (h : OwnersQ w0 w base (.slice (some ⟨g, 0, none⟩) L.length c) N L P) (i : Nat) (hi : i < L.length) (p : PV) {A : Option Addr} {l d : Nat} (hw : RowQ w0 w N ((N : Int), A, l, d) p.1) :
    OwnersQ w0 (((w.setCell ⟨g, i * 4, none⟩ (.int .i64 N)).setCell ⟨g, i * 4 + 1, none⟩ (.slice A l d)).setCell ⟨g, i * 4 + 2, none⟩ (.string p.2)) base (.slice (some ⟨g, 0, none⟩) L.length c) N (L.set i p) P := by
  obtain ⟨g', c', hv, -, -, -, -, cur, hbx⟩ := h.form (by omega)
  injection hv with hv
  injection hv with hv
  injection hv with hv
  subst hv
  obtain ⟨rs, h1, h2, h3, h4⟩ := h
  have s := ((h3.stored (i * 4) (.int .i64 N)).1.stored (i * 4 + 1) (.slice A l d)).1.stored (i * 4 + 2) (.string p.2) |>.1
  rw [show (((owC rs L P).set (i * 4) (.int .i64 (N : Int))).set (i * 4 + 1) (.slice A l d)).set (i * 4 + 2) (.string p.2) = owC (rs.set i ((N : Int), A, l, d)) (L.set i p) P from owC_set rs L P h1 h2 i hi ((N : Int), A, l, d) p] at s
  have far : ∀ {r : RowV} {x : Nat}, RowQ w0 w N r x → RowQ w0 (((w.setCell ⟨g, i * 4, none⟩ (.int .i64 N)).setCell ⟨g, i * 4 + 1, none⟩ (.slice A l d)).setCell ⟨g, i * 4 + 2, none⟩ (.string p.2)) N r x := fun q => ((q.far hbx (by decide) _ _).far (hbx.put _ _) (by decide) _ _).far ((hbx.put _ _).put _ _) (by decide) _ _
  refine ⟨rs.set i ((N : Int), A, l, d), by simp [h1], by rw [List.length_set]; exact h2, by rw [List.length_set]; exact s, fun j hj => ?_⟩
  rw [List.length_set] at hj
  rw [set_getD L i j p hj]
  by_cases e : i = j
  · subst e
    have e1 : (rs.set i ((N : Int), A, l, d)).getD i (0, none, 0, 0) = ((N : Int), A, l, d) := by simp [List.getD, h1, hi]
    rw [e1, if_pos rfl]
    exact far hw
  · have e1 : (rs.set i ((N : Int), A, l, d)).getD j (0, none, 0, 0) = rs.getD j (0, none, 0, 0) := by simp only [List.getD]; rw [List.getElem?_set_ne e]
    rw [e1, if_neg e]
    exact far (h4 j hj)
end
/-- Are all blocks nought? -/
def noughtP (L : List PV) : Bool := L.all fun p => noughtL p.2.data.toList
theorem noughtP_snoc (L : List PV) (i : Nat) (h : i < L.length) : noughtP (L.take (i + 1)) = (noughtP (L.take i) && noughtL (L.getD i pv0).2.data.toList) := by
  unfold noughtP
  rw [List.take_succ_eq_append_getElem h, List.all_append]; simp only [List.getD, List.getElem?_eq_getElem h, Option.getD_some, List.all_cons, List.all_nil, Bool.and_true]
theorem noughtP_not (L : List PV) (i : Nat) (h : i < L.length) (hz : noughtL (L.getD i pv0).2.data.toList = false) : noughtP L = false := by
  rw [Bool.eq_false_iff]
  intro ha
  have := List.all_eq_true.1 ha _ (getD_memP h)
  rw [hz] at this; cases this
theorem allNought_any (N : Nat) (L : List PV) (hL : ∀ p ∈ L, p.2.size ≤ 64) (hlen : L.length ≤ 64) (w0 : World) (base : Nat) (v : Value) (w : World) (hr : PairsQ w0 w base v N L) :
    Calls Try.prog 46 #[v] w fun e w' => e = .returned (.bool (noughtP L)) ∧ Below w.heap.size w w' := by
  have HR := Lib.hid hr
  have HL := Lib.hid hL
  obtain ⟨A0, cap, rfl, hcap, hcm⟩ := hr.form0
  unfold maxLen at hcm
  clear hr hL
  go_enter Try.func46, Try.ntmps46
  go_wp2_with fail
  go_loopw [7] (fun t wr => ∃ i : Nat, i ≤ L.length ∧ t = .int .i64 (i : Int) ∧ Hid (noughtP (L.take i) = true) ∧ Hid (Below w.heap.size w wr)) (fun t _ => L.length - (intOf t).toNat)
  case atStart => exact ⟨0, Nat.zero_le _, rfl, Lib.hid (by simp [noughtP]), Lib.hid (Below.refl _ _)⟩
  case round =>
    obtain ⟨i, hi, rfl, HN, HB⟩ := hrel
    by_cases hlt : i < L.length
    · have hlt' : (i : Int) < (L.length : Int) := by omega
      have pq := HR.out.keep HB.out
      obtain ⟨g, cap', hv, hgb, hgw, -, -⟩ := pq.form (by omega)
      injection hv with hv hc1 hcc
      subst hv
      clear hc1 hcc
      obtain ⟨A1, l1, d1, x0, x1, x2, rq, -, -, -⟩ := pq.at i hlt
      have gp := HL.out _ (getD_memP hlt)
      obtain ⟨p, hp⟩ : ∃ p, p = L.getD i pv0 := ⟨_, rfl⟩
      rw [← hp] at x2 gp
      have GP := Lib.hid gp
      have HPI := Lib.hid hp
      have al : Below wr.heap.size wr (wr.alloc (.cells #[.int .i64 (N : Int), .slice A1 l1 d1, .string p.2] 85)) := (Below.refl _ _).alloc (Nat.le_refl _) _
      have RB := Lib.hid (Box.new wr 85 #[.int .i64 (N : Int), .slice A1 l1 d1, .string p.2])
      have AL1 := Lib.hid al
      have HH := Lib.hid (fun W => nought_any p.2 (by have := GP.out; unfold maxLen; omega) W)
      obtain ⟨r0, r1, r2, -, -, -⟩ := RB.out.three
      clear al rq gp hp pq
      cases hbit : noughtL p.2.data.toList with
      | true =>
        rw [hbit] at HH
        have HNo := Lib.hid (show noughtP (L.take (i + 1)) = true by rw [noughtP_snoc L i hlt, HN.out, ← HPI.out, hbit]; rfl)
        clear hbit
        go_wp2_with fail
        refine (HH.out _).mono ?_
        rintro e w1 ⟨rfl, rfl⟩
        go_wp2_with fail
        go_roundw
        case rel => exact ⟨i + 1, by omega, by go_num, HNo, Lib.hid (chain HB.out AL1.out)⟩
        case measure => simp [intOf]; omega
      | false =>
        rw [hbit] at HH
        have HNo := Lib.hid (noughtP_not L i hlt (by rw [← HPI.out]; exact hbit))
        clear hbit
        go_wp2_with fail
        refine (HH.out _).mono ?_
        rintro e w1 ⟨rfl, rfl⟩
        go_wp2_with fail
        go_ret
        exact ⟨by rw [HNo.out]; rfl, chain HB.out AL1.out⟩
    · obtain rfl : i = L.length := by omega
      have hlt' : ¬ (L.length : Int) < (L.length : Int) := by omega
      have HE := Lib.hid (show noughtP L = true by have := HN.out; rwa [List.take_of_length_le (Nat.le_refl _)] at this)
      go_wp2_with fail
      go_ret
      exact ⟨by rw [HE.out]; rfl, HB.out⟩
end
section
/- What a store into blocks of one type leaves as it was. -/
set_option linter.unusedVariables false
set_option linter.unusedSimpArgs false
open Go.RowKit
set_option maxRecDepth 100000
/-- Only a block of type t was written, and new ones made. -/
def PC (w w1 : World) (t : TypeId) : Prop := ∃ r, w.grownBy w1 r ∧ ∀ g, r = some g → ∃ cur, Box w g t cur
theorem PC.of_below {w w1 : World} (t : TypeId) (h : Below w.heap.size w w1) : PC w w1 t := ⟨none, gk_below h, fun _ e => by cases e⟩
section
variable {w w1 : World} {t : TypeId}
theorem PC.ne {b : Nat} {t' : TypeId} {cs : Array Value} (k : Box w b t' cs) (hne : t' ≠ t) {r : Option Nat} (hr : ∀ g, r = some g → ∃ cur, Box w g t cur) : some b ≠ r := fun e => by
  obtain ⟨cur, hb⟩ := hr b e.symm
  exact box_ne k hb hne rfl
theorem PC.box (h : PC w w1 t) {b : Nat} {t' : TypeId} {cs : Array Value} (k : Box w b t' cs) (hne : t' ≠ t) : Box w1 b t' cs := by
  obtain ⟨r, hg, hr⟩ := h
  exact (hg.block b k.lt (PC.ne k hne hr)).trans k
theorem PC.own (h : PC w w1 t) {base e size n : Nat} {v : Value} {xs : List Value} (k : w.ownsRow base e size v n xs) (hne : e ≠ t) : w1.ownsRow base e size v n xs := by
  refine ⟨k.1, ?_⟩
  rcases k.2 with ⟨hv, hz⟩ | ⟨g, cap, cur, hv, hb, hh, hc, hm, h1, h2⟩
  · exact .inl ⟨hv, hz⟩
  · exact .inr ⟨g, cap, cur, hv, hb, h.box (show Box w g e cur from hh) hne, hc, hm, h1, h2⟩
theorem PC.row (h : PC w w1 t) {w0 : World} {N : Nat} {r : RowV} {x : Nat} (q : RowQ w0 w N r x) (hne : 68 ≠ t) : RowQ w0 w1 N r x := ⟨q.1, q.2.1, q.2.2.imp id (fun o => h.own o hne)⟩
theorem PC.owners (h : PC w w1 t) {w0 : World} {base N : Nat} {v : Value} {L : List PV} {P : List Nat} (q : OwnersQ w0 w base v N L P) (hne : 68 ≠ t) (hne2 : 87 ≠ t) : OwnersQ w0 w1 base v N L P := by
  obtain ⟨rs, h1, h2, h3, h4⟩ := q
  exact ⟨rs, h1, h2, h.own h3 hne2, fun j hj => h.row (h4 j hj) hne⟩
theorem PC.pairs (h : PC w w1 t) {w0 : World} {base N : Nat} {v : Value} {L : List PV} (q : PairsQ w0 w base v N L) (hne : 68 ≠ t) (hne2 : 85 ≠ t) : PairsQ w0 w1 base v N L := by
  obtain ⟨rs, h1, ⟨A, c, a1, a2, a3, a4⟩, h3⟩ := q
  exact ⟨rs, h1, ⟨A, c, a1, a2, a3, fun hn => by obtain ⟨g, cur, b1, b2, b3, b4⟩ := a4 hn; exact ⟨g, cur, b1, b2, h.box b3 hne2, b4⟩⟩, fun j hj => h.row (h3 j hj) hne⟩
theorem PC.low {B : Nat} {w0 : World} (h : PC w w1 t) (hb : Below B w0 w) (hB : B ≤ w.heap.size) (hl : ∀ b cs, Box w b t cs → b < B → False) : Below B w0 w1 := by
  obtain ⟨r, hg, hr⟩ := h
  exact gr_low hb hB hg (fun g e => by obtain ⟨cur, k⟩ := hr g e; rcases Nat.lt_or_ge g B with h | h; exact (hl g cur k h).elim; exact h)
theorem PC.size (h : PC w w1 t) : w.heap.size ≤ w1.heap.size := h.choose_spec.1.size
end
/-- Owners stored anew. -/
theorem OwnersQ.pc {w0 w : World} {base N g c : Nat} {L : List PV} {P : List Nat} (h : OwnersQ w0 w base (.slice (some ⟨g, 0, none⟩) L.length c) N L P) (hn : 0 < L.length) (i : Nat) (a b d : Value) : PC w (((w.setCell ⟨g, i, none⟩ a).setCell ⟨g, i + 1, none⟩ b).setCell ⟨g, i + 2, none⟩ d) 87 := by
  obtain ⟨g', c', hv, -, -, -, -, cur, hbx⟩ := h.form hn
  injection hv with hv
  injection hv with hv
  injection hv with hv
  subst hv
  exact ⟨some g, gr_trans (gr_trans (gr_set _ _ _ _ rfl) (gr_set _ _ _ _ rfl)) (gr_set _ _ _ _ rfl), fun g2 e => by injection e with e; subst e; exact ⟨cur, hbx⟩⟩
/-- The free ones that are chosen from hold the column. -/
theorem has_next {N n : Nat} {Z M P : List Nat} {O F : List PV} {k : Nat} (h : Elim Z P k (O.map (zOf N)) (F.map (zOf N))) (hr : Rref M P) (hs : SameSp (Z.map (lowN N)) M) (hk : k < P.length) (hF : ∀ p ∈ F, GoodP N n p) : ∃ i, i < F.length ∧ (F.getD i pv0).1.testBit (P.getD k 0) = true := by
  obtain ⟨i, hi, hb⟩ := h.some hr hs hk
  rw [List.length_map] at hi
  rw [mapz_at N F i hi, z_bit (hF _ (getD_memP hi)), if_pos (place_lt (rows_lt hs) hr k hk)] at hb
  exact ⟨i, hi, hb⟩
theorem elim_next {N n : Nat} {Z M P : List Nat} {O F : List PV} {k : Nat} (h : Elim Z P k (O.map (zOf N)) (F.map (zOf N))) (hr : Rref M P) (hs : SameSp (Z.map (lowN N)) M) (hk : k < P.length) (hO : ∀ p ∈ O, GoodP N n p) (hF : ∀ p ∈ F, GoodP N n p) (i : Nat) (hi : i < F.length) (hb : (F.getD i pv0).1.testBit (P.getD k 0) = true) :
    Elim Z P (k + 1) ((clrP (P.getD k 0) (F.getD i pv0) O ++ [F.getD i pv0]).map (zOf N)) ((clrP (P.getD k 0) (F.getD i pv0) (F.eraseIdx i)).map (zOf N)) := by
  have hc := place_lt (rows_lt hs) hr k hk
  have gf := hF _ (getD_memP hi)
  have h' := h.step i (by rw [List.length_map]; exact hi) (by rw [mapz_at N F i hi, z_bit gf, if_pos hc]; exact hb)
  rw [mapz_at N F i hi] at h'
  rw [List.map_append, clrP_z hc gf hO, clrP_z hc gf (fun p hp => hF p (List.mem_of_mem_eraseIdx hp)), erase_z]
  exact h'
theorem own_setOther {w : World} {base e size n : Nat} {v : Value} {xs : List Value} (h : w.ownsRow base e size v n xs) {b : Nat} (hne : ∀ g c, v = .slice (some ⟨g, 0, none⟩) n c → g ≠ b) (i : Nat) (u : Value) : (w.setCell ⟨b, i, none⟩ u).ownsRow base e size v n xs := by
  refine ⟨h.1, ?_⟩
  rcases h.2 with ⟨hv, hz⟩ | ⟨g, cap, cur, hv, hb, hh, hc, hm, h1, h2⟩
  · exact .inl ⟨hv, hz⟩
  · exact .inr ⟨g, cap, cur, hv, hb, Box.far (show Box w g e cur from hh) (p := ⟨b, i, none⟩) (hne g cap hv) u, hc, hm, h1, h2⟩
theorem OwnersQ.lt {w0 w : World} {base N : Nat} {v : Value} {L : List PV} {P : List Nat} (h : OwnersQ w0 w base v N L P) : ∀ g c, v = .slice (some ⟨g, 0, none⟩) L.length c → base ≤ g ∧ g < w.heap.size := by
  obtain ⟨rs, h1, h2, h3, h4⟩ := h
  intro g c hv
  exact h3.lt g (by rw [hv]; rfl)
theorem OwnersQ.ownW {w0 W : World} {b N' : Nat} {A : Option Addr} {l d : Nat} {s : ByteArray} {c : Nat} {x1 x2 x3 x4 : Value} (hb : Box W b 87 #[x1, x2, x3, x4]) {base N : Nat} {v : Value} {L : List PV} {P : List Nat} (h : OwnersQ w0 W base v N L P) (hne : ∀ g c, v = .slice (some ⟨g, 0, none⟩) L.length c → g ≠ b) : OwnersQ w0 (Ytdfmogcgangdnaa.ownW W b N' A l d s c) base v N L P := by
  obtain ⟨rs, h1, h2, h3, h4⟩ := h
  exact ⟨rs, h1, h2, own_setOther (own_setOther (own_setOther (own_setOther h3 hne _ _) hne _ _) hne _ _) hne _ _, fun j hj => ownW_row hb (h4 j hj)⟩
theorem own_ownW {W : World} {b N' : Nat} {A : Option Addr} {l d : Nat} {s : ByteArray} {c : Nat} {x1 x2 x3 x4 : Value} (hb : Box W b 87 #[x1, x2, x3, x4]) {base e size n : Nat} {v : Value} {xs : List Value} (h : W.ownsRow base e size v n xs) (hne : e ≠ 87) : (Ytdfmogcgangdnaa.ownW W b N' A l d s c).ownsRow base e size v n xs :=
  own_far (own_far (own_far (own_far h hb hne 0 _) (hb.put 0 _) hne 1 _) ((hb.put 0 _).put 1 _) hne 2 _) (((hb.put 0 _).put 1 _).put 2 _) hne 3 _
theorem rref_len {N : Nat} {M P : List Nat} (h : Rref M P) (hM : ∀ r, r ∈ M → r < 2 ^ N) : M.length ≤ N := by
  have key : ∀ k, k ≤ P.length → ∀ j, j < k → j ≤ P.getD j 0 := by
    intro k
    induction k with
    | zero => intro _ j hj; omega
    | succ k ih =>
      intro hk j hj
      by_cases e : j < k
      · exact ih (by omega) j e
      · obtain rfl : j = k := by omega
        rcases Nat.eq_zero_or_pos j with rfl | hp
        · omega
        · have h1 := ih (by omega) (j - 1) (by omega)
          have h2 := h.rise (j - 1) j (by omega) (by rw [h.len]; omega)
          omega
  rw [h.len]
  rcases Nat.eq_zero_or_pos P.length with h0 | h0
  · omega
  · have h1 := key P.length (Nat.le_refl _) (P.length - 1) (by omega)
    have h2 := place_lt hM h (P.length - 1) (by omega)
    omega
theorem own_blk {w : World} {base e size n : Nat} {v : Value} {xs : List Value} (h : w.ownsRow base e size v n xs) : ∀ g, v.ownBlock = some g → base ≤ g ∧ ∃ cur, Box w g e cur := by
  intro g hg
  have hl := (h.lt g hg).1
  rcases h.2 with ⟨hv, hz⟩ | ⟨g', cap, cur, hv, hb, hh, -⟩
  · subst hv; cases hg
  · subst hv
    injection hg with hg
    subst hg
    exact ⟨hl, cur, hh⟩
theorem owner_info : (Try.prog.info? 87).map (fun i => (i.zero, i.size, i.bytes)) = some (some (.agg #[.int .i64 0, .slice none 0 0, .string ⟨#[]⟩, .int .i64 0]), 4, 56) := by kernel_rfl
theorem OwnersQ.snoc {w0 w : World} {base N : Nat} {v : Value} {L : List PV} {P : List Nat} {rs : List RowV} (h1 : rs.length = L.length) (h2 : P.length = L.length) (h4 : ∀ j, j < L.length → RowQ w0 w N (rs.getD j (0, none, 0, 0)) (L.getD j pv0).1) {A : Option Addr} {l d q : Nat} {f : PV} (hq : RowQ w0 w N ((N : Int), A, l, d) f.1)
    (ho : w.ownsRow base 87 4 v (L.length + 1) (owC rs L P ++ [.int .i64 (N : Int), .slice A l d, .string f.2, .int .i64 (q : Int)])) : OwnersQ w0 w base v N (L ++ [f]) (P ++ [q]) := by
  refine ⟨rs ++ [((N : Int), A, l, d)], by simp [h1], by simp [h2], by rw [owC_snoc rs L P h1 h2, List.length_append]; exact ho, fun j hj => ?_⟩
  rw [List.length_append] at hj
  by_cases e : j < L.length
  · have e1 : (rs ++ [((N : Int), A, l, d)]).getD j (0, none, 0, 0) = rs.getD j (0, none, 0, 0) := by simp only [List.getD]; rw [List.getElem?_append_left (by omega)]
    have e2 : (L ++ [f]).getD j pv0 = L.getD j pv0 := by simp only [List.getD]; rw [List.getElem?_append_left e]
    rw [e1, e2]; exact h4 j e
  · obtain rfl : j = L.length := by simp at hj; omega
    have e1 : (rs ++ [((N : Int), A, l, d)]).getD L.length (0, none, 0, 0) = ((N : Int), A, l, d) := by rw [← h1]; simp [List.getD]
    have e2 : (L ++ [f]).getD L.length pv0 = f := by simp [List.getD]
    rw [e1, e2]; exact hq
/-- The block that a row of pairs lies in. -/
theorem PairsQ.at_row {w0 w : World} {base N : Nat} {v : Value} {L : List PV} (h : PairsQ w0 w base v N L) : ∃ r : Option Nat, (∀ g c, 0 < L.length → v = .slice (some ⟨g, 0, none⟩) L.length c → r = some g) ∧ ∀ g, r = some g → base ≤ g ∧ ∃ cur, Box w g 85 cur := by
  by_cases hn : 0 < L.length
  · obtain ⟨g, c, hv, hb, -⟩ := h.form hn
    rw [hv] at h
    refine ⟨some g, fun g2 c2 _ e => ?_, fun g2 e => ?_⟩
    · rw [hv] at e
      injection e with e
      injection e with e
      injection e with e
      rw [e]
    · injection e with e
      subst e
      exact ⟨hb, h.block hn⟩
  · exact ⟨none, fun _ _ h => absurd h hn, fun _ e => by cases e⟩
theorem pairs_good {N n : Nat} {X : List Nat} {ss : List ByteArray} (hX : ∀ r ∈ X, r < 2 ^ N) (hs : ∀ s ∈ ss, s.size = n) : ∀ p ∈ X.zip ss, GoodP N n p := fun p hp => by
  obtain ⟨a, b⟩ := p
  have := List.of_mem_zip hp
  exact ⟨hX _ this.1, hs _ this.2⟩
theorem pairs_low {N n : Nat} {X : List Nat} {ss : List ByteArray} (hX : ∀ r ∈ X, r < 2 ^ N) (hs : ∀ s ∈ ss, s.size = n) (hl : X.length = ss.length) : ((X.zip ss).map (zOf N)).map (lowN N) = X := by
  have e : ((X.zip ss).map (zOf N)).map (lowN N) = (X.zip ss).map Prod.fst := by
    rw [List.map_map]
    exact List.map_congr_left fun p hp => z_low (pairs_good hX hs p hp)
  rw [e, List.map_fst_zip (by omega)]
theorem num_bdP (P : List Nat) (h : ∀ j, j < P.length → P.getD j 0 < 1000) (j : Nat) : -9223372036854775808 ≤ (P.map fun x : Nat => (x : Int)).getD j 0 ∧ (P.map fun x : Nat => (x : Int)).getD j 0 ≤ 9223372036854775807 := by
  by_cases hj : j < P.length
  · have := h j hj
    have e : (P.map fun x : Nat => (x : Int)).getD j 0 = ((P.getD j 0 : Nat) : Int) := by simp [List.getD, hj]
    rw [e]; omega
  · have e : (P.map fun x : Nat => (x : Int))[j]? = none := List.getElem?_eq_none (by simp; omega)
    simp [List.getD, e]
theorem ints_cell {w : World} {B : Option Addr} {n : Nat} {P : List Nat} (h : Ints w B n (P.map fun x : Nat => (x : Int))) (k : Nat) (hk : k < n) : ∃ b off, B = some ⟨b, off, none⟩ ∧ b < w.heap.size ∧ w.cell? ⟨b, off + k, none⟩ = some (.int .i64 (P.getD k 0 : Nat)) := by
  obtain ⟨b, off, hB, hlt, hc⟩ := h.2.2 (by omega)
  refine ⟨b, off, hB, hlt, ?_⟩
  have hl : k < P.length := by have := h.1; simp at this; omega
  rw [hc k hk]; simp [List.getD, hl]
end
section
/- What equations tell: told columns, and their blocks. No program. -/
set_option linter.unusedVariables false
set_option linter.unusedSimpArgs false
theorem row_bitW (N x p : Nat) (h : p < 64 * nw N) : (bitAt (rowOf N x) p == 1) = x.testBit p := by
  rw [bitAt_test, rowOf_at N x (p / 64) (by omega), Nat.testBit_mod_two_pow, Nat.testBit_shiftRight]
  have e : 64 * (p / 64) + p % 64 = p := by omega
  have l : p % 64 < 64 := Nat.mod_lt _ (by omega)
  rw [e]; simp [l]
theorem one_range (c : Nat) : ∀ k, ((List.range k).filter fun p => decide (c = p)).length = if c < k then 1 else 0
  | 0 => by simp
  | k + 1 => by
    rw [List.range_succ, List.filter_append, List.length_append, one_range c k]
    by_cases e : c = k
    · subst e; simp
    · by_cases h : c < k
      · simp [h, e, show c < k + 1 by omega]
      · simp [h, e, show ¬ c < k + 1 by omega]
theorem nw_le (N : Nat) : N ≤ 64 * nw N := by unfold nw; omega
theorem popN_eq (N x : Nat) : popN N x = ((List.range (64 * nw N)).filter fun p => x.testBit p).length := by
  unfold popN plcN
  rw [rowOf_len]
  congr 1
  apply List.filter_congr
  intro p hp
  exact row_bitW N x p (by simpa using hp)
theorem popN_one {N x : Nat} (hx : x < 2 ^ N) : popN N x = 1 ↔ ∃ c, x = 2 ^ c := by
  rw [popN_eq]
  have hbig : ∀ p, 64 * nw N ≤ p → x.testBit p = false := fun p hp => Nat.testBit_lt_two_pow (Nat.lt_of_lt_of_le hx (Nat.pow_le_pow_right (by omega) (by have := nw_le N; omega)))
  constructor
  · intro h
    obtain ⟨c, hc⟩ := List.length_eq_one_iff.1 h
    refine ⟨c, Nat.eq_of_testBit_eq fun p => ?_⟩
    have hm : ∀ p, p ∈ (List.range (64 * nw N)).filter (fun p => x.testBit p) ↔ p = c := fun p => by rw [hc]; simp
    have hcm := (hm c).2 rfl
    rw [List.mem_filter] at hcm
    rw [Nat.testBit_two_pow]
    by_cases e : c = p
    · subst e; simp [hcm.2]
    · simp only [e, decide_false]
      cases hb : x.testBit p with
      | false => rfl
      | true =>
        have hl : p < 64 * nw N := by
          rcases Nat.lt_or_ge p (64 * nw N) with h | h
          · exact h
          · rw [hbig p h] at hb; cases hb
        have := (hm p).1 (by rw [List.mem_filter]; exact ⟨by simpa using hl, hb⟩)
        omega
  · rintro ⟨c, rfl⟩
    have hc : c < 64 * nw N := by
      rcases Nat.lt_or_ge c (64 * nw N) with h | h
      · exact h
      · have := hbig c h; simp [Nat.testBit_two_pow] at this
    have := one_range c (64 * nw N)
    rw [if_pos hc] at this
    rw [← this]
    congr 1
    apply List.filter_congr
    intro p _
    rw [Nat.testBit_two_pow]
/-- A row whose lowest place is p is alone just if it is it. -/
theorem alone_iff {N x p : Nat} (hx : x < 2 ^ N) (hl : IsLow x p) : popN N x = 1 ↔ x = 2 ^ p := by
  rw [popN_one hx]
  constructor
  · rintro ⟨c, rfl⟩
    have := hl.1
    rw [Nat.testBit_two_pow] at this
    have : c = p := by simpa using this
    rw [this]
  · intro h; exact ⟨p, h⟩
/-- What equations tell: the columns, rising, and their blocks. -/
def KnownP (N n : Nat) (X Z : List Nat) (cols : List Nat) (blks : List ByteArray) : Prop :=
  cols.Pairwise (· < ·) ∧ (∀ c, c ∈ cols ↔ c < N ∧ Sp X (2 ^ c)) ∧ blks.length = cols.length ∧ ∀ j, j < cols.length → (blks.getD j ByteArray.empty).size = n ∧ ∃ v, Sp Z v ∧ lowN N v = 2 ^ (cols.getD j 0) ∧ v >>> N = bn (blks.getD j ByteArray.empty).data.toList
theorem fits_uniq {N : Nat} {Z : List Nat} (hf : FitsP N Z) {u v : Nat} (hu : Sp Z u) (hv : Sp Z v) (h : lowN N u = lowN N v) : u = v :=
  xor_cancel (hf _ (sp_xor hu hv) (by rw [lowN_xor, h, Nat.xor_self]))
theorem known_uniq {N n : Nat} {X Z cols cols' : List Nat} {blks blks' : List ByteArray} (hf : FitsP N Z) (h : KnownP N n X Z cols blks) (k : KnownP N n X Z cols' blks') : cols = cols' ∧ blks = blks' := by
  have hc : cols = cols' := rising_uniq cols cols' h.1 k.1 fun x => by rw [h.2.1, k.2.1]
  subst hc
  refine ⟨rfl, List.ext_getElem (h.2.2.1.trans k.2.2.1.symm) fun j h1 h2 => ?_⟩
  have hj : j < cols.length := by rw [← h.2.2.1]; exact h1
  obtain ⟨s1, v, a1, a2, a3⟩ := h.2.2.2 j hj
  obtain ⟨s2, u, b1, b2, b3⟩ := k.2.2.2 j hj
  have e := fits_uniq hf a1 b1 (a2.trans b2.symm)
  subst e
  have hb := bn_inj _ _ (by rw [size_list, size_list, s1, s2]) (a3.symm.trans b3)
  have g1 : blks.getD j ByteArray.empty = blks[j] := by simp [List.getD, h1]
  have g2 : blks'.getD j ByteArray.empty = blks'[j] := by simp [List.getD, h2]
  rw [g1, g2] at hb
  rw [← back_list blks[j], ← back_list blks'[j], hb]
/-- The first owners that are alone. -/
def aln (N : Nat) (O : List PV) (i : Nat) : List Nat := (List.range i).filter fun j => decide (popN N (O.getD j pv0).1 = 1)
theorem aln_yes (N : Nat) (O : List PV) (i : Nat) (h : popN N (O.getD i pv0).1 = 1) : aln N O (i + 1) = aln N O i ++ [i] := by
  unfold aln; rw [List.range_succ, List.filter_append]; simp only [List.filter_cons, List.filter_nil, h, decide_true, if_true]
theorem aln_no (N : Nat) (O : List PV) (i : Nat) (h : ¬ popN N (O.getD i pv0).1 = 1) : aln N O (i + 1) = aln N O i := by
  unfold aln; rw [List.range_succ, List.filter_append]; simp only [List.filter_cons, List.filter_nil, h, decide_false, Bool.false_eq_true, if_false, List.append_nil]
theorem aln_len (N : Nat) (O : List PV) (i : Nat) : (aln N O i).length ≤ i := by
  have := List.length_filter_le (fun j => decide (popN N (O.getD j pv0).1 = 1)) (List.range i)
  simpa [aln] using this
def alnC (N : Nat) (O : List PV) (P : List Nat) (i : Nat) : List Nat := (aln N O i).map fun j => P.getD j 0
def alnB (N : Nat) (O : List PV) (i : Nat) : List ByteArray := (aln N O i).map fun j => (O.getD j pv0).2
theorem elim_known {N n : Nat} {X M P : List Nat} {Z : List Nat} {O F : List PV} (hXZ : Z.map (lowN N) = X) (h : Elim Z P P.length (O.map (zOf N)) (F.map (zOf N))) (hr : Rref M P) (hs : SameSp X M) (hO : ∀ p ∈ O, GoodP N n p) : KnownP N n X Z (alnC N O P P.length) (alnB N O P.length) := by
  have hs' : SameSp (Z.map (lowN N)) M := by rw [hXZ]; exact hs
  have hM := rows_lt hs'
  have hOl : O.length = P.length := by have := h.len; rwa [List.length_map] at this
  have row : ∀ j, j < P.length → (O.getD j pv0).1 = M.getD j 0 := fun j hj => by
    have := h.own_low hr hs' j hj
    rw [mapz_at N O j (by omega), z_low (hO _ (getD_memP (by omega)))] at this
    exact this
  have al : ∀ j, j < P.length → (popN N (O.getD j pv0).1 = 1 ↔ M.getD j 0 = 2 ^ (P.getD j 0)) := fun j hj => by
    have hl := hr.low j (by rw [hr.len]; exact hj)
    rw [row j hj]
    exact alone_iff (hM _ (getD_mem (by rw [hr.len]; exact hj))) hl
  have mem : ∀ j, j ∈ aln N O P.length ↔ j < P.length ∧ popN N (O.getD j pv0).1 = 1 := fun j => by simp [aln]
  refine ⟨?_, fun c => ?_, by simp [alnC, alnB], fun j hj => ?_⟩
  · unfold alnC
    rw [List.pairwise_map]
    refine List.Pairwise.imp_of_mem ?_ (List.Pairwise.filter _ List.pairwise_lt_range)
    intro a b ha hb hab
    exact hr.rise a b hab (by rw [hr.len]; exact ((mem b).1 hb).1)
  · simp only [alnC, List.mem_map]
    constructor
    · rintro ⟨j, hj, rfl⟩
      obtain ⟨h1, h2⟩ := (mem j).1 hj
      refine ⟨place_lt hM hr j h1, (hs _).2 ?_⟩
      rw [← (al j h1).1 h2]
      exact sp_mem (getD_mem (by rw [hr.len]; exact h1))
    · rintro ⟨-, h2⟩
      obtain ⟨j, hj, hc, hm⟩ := (told_iff hr c).1 ((hs _).1 h2)
      exact ⟨j, (mem j).2 ⟨hj, (al j hj).2 (by rw [hm, hc])⟩, hc⟩
  · have hj' : j < (aln N O P.length).length := by simpa [alnC] using hj
    have hk := (mem ((aln N O P.length)[j])).1 (List.getElem_mem hj')
    have e1 : (alnC N O P P.length).getD j 0 = P.getD (aln N O P.length)[j] 0 := by simp [alnC, List.getD, hj']
    have e2 : (alnB N O P.length).getD j ByteArray.empty = (O.getD (aln N O P.length)[j] pv0).2 := by simp [alnB, List.getD, hj']
    have g := hO _ (getD_memP (L := O) (i := (aln N O P.length)[j]) (by rw [hOl]; exact hk.1))
    rw [e1, e2]
    refine ⟨g.2, zOf N (O.getD (aln N O P.length)[j] pv0), (h.span _).1 (sp_left (sp_mem (List.mem_map.2 ⟨_, getD_memP (by rw [hOl]; exact hk.1), rfl⟩))), ?_, z_high g⟩
    rw [z_low g, row _ hk.1]
    exact (al _ hk.1).1 hk.2
/-- All blocks of free ones are nought just if they can be so. -/
theorem elim_fits {N n : Nat} {X M P : List Nat} {Z : List Nat} {O F : List PV} (hXZ : Z.map (lowN N) = X) (h : Elim Z P P.length (O.map (zOf N)) (F.map (zOf N))) (hr : Rref M P) (hs : SameSp X M) (hF : ∀ p ∈ F, GoodP N n p) : noughtP F = true ↔ FitsP N Z := by
  have hs' : SameSp (Z.map (lowN N)) M := by rw [hXZ]; exact hs
  rw [← h.fits hr hs']
  simp only [noughtP, List.all_eq_true]
  constructor
  · intro ha f hf
    obtain ⟨p, hp, rfl⟩ := List.mem_map.1 hf
    have hl := h.free_low hr hs' hf
    rw [z_low (hF p hp)] at hl
    exact (z_nought (hF p hp)).2 ⟨hl, ha p hp⟩
  · intro ha p hp
    exact ((z_nought (hF p hp)).1 (ha _ (List.mem_map.2 ⟨p, hp, rfl⟩))).2
end
section
/- The reference's Echelon. -/
set_option linter.unusedVariables false
set_option linter.unusedSimpArgs false
open Go.RowKit
set_option maxRecDepth 100000
theorem same_lt {n : Nat} {L M : List Nat} (h : ∀ r ∈ L, r < 2 ^ n) (hs : SameSp L M) : ∀ r ∈ M, r < 2 ^ n := fun r hr => sp_lt h ((hs r).2 (sp_mem hr))
theorem take_lt' {n : Nat} {L : List Nat} (h : ∀ r ∈ L, r < 2 ^ n) (k : Nat) : ∀ r ∈ L.take k, r < 2 ^ n := fun r hr => h r (List.mem_of_mem_take hr)
theorem left_same {L P : List Nat} (h : Rref L P) (r : Nat) (h0 : leftN L P r L.length = 0) : SameSp (L ++ [r]) L := by
  have hs := (left_zero h r).1 h0
  refine SameSp.of (fun x hx => ?_) (fun x hx => sp_mem (List.mem_append.2 (.inl hx)))
  rcases List.mem_append.1 hx with hx | hx
  · exact sp_mem hx
  · simp at hx; subst hx; exact hs
theorem put_more {L P : List Nat} (h : Rref L P) (r a : Nat) (ha : IsLow (leftN L P r L.length) a) :
    ∃ m, m ≤ L.length ∧ (∀ i, i < m → P.getD i 0 < a) ∧ (∀ i, m ≤ i → i < L.length → a < P.getD i 0) ∧ Rref (putW L (leftN L P r L.length) a m) (putP P a m) ∧ SameSp (L ++ [r]) (putW L (leftN L P r L.length) a m) := by
  have hsp := leftN_span L P r L.length (Nat.le_refl _)
  have hz : ∀ j, j < L.length → (leftN L P r L.length).testBit (P.getD j 0) = false := fun j hj => by rw [leftN_bits h r _ (Nat.le_refl _) j hj, if_pos hj]
  generalize leftN L P r L.length = x at *
  have hn : a ∉ P := fun hp => by
    obtain ⟨j, hj, rfl⟩ := mem_getD hp
    have := hz j (by rw [h.len]; exact hj)
    rw [ha.1] at this; cases this
  obtain ⟨m, hm, h1, h2⟩ := cut_place h a hn
  refine ⟨m, hm, h1, h2, put_rref h x a m ha hz hm h1 h2, SameSp.trans ?_ (put_span x a m hm)⟩
  have liftL : ∀ y, ∀ v, Sp L v → Sp (L ++ [y]) v := fun y v hv => sp_sub (fun r hr => sp_mem (List.mem_append.2 (.inl hr))) hv
  refine SameSp.of (fun y hy => ?_) (fun y hy => ?_)
  · rcases List.mem_append.1 hy with hy | hy
    · exact sp_mem (List.mem_append.2 (.inl hy))
    · simp at hy; subst hy
      have := sp_xor (liftL x _ hsp) (sp_mem (show x ∈ L ++ [x] by simp))
      rw [xor_back] at this; exact this
  · rcases List.mem_append.1 hy with hy | hy
    · exact sp_mem (List.mem_append.2 (.inl hy))
    · simp at hy; subst hy
      have := sp_xor (sp_mem (show r ∈ L ++ [r] by simp)) (liftL r _ hsp)
      rw [← Nat.xor_assoc, Nat.xor_self, Nat.zero_xor] at this; exact this
theorem span_step {ms L M : List Nat} {k : Nat} (hk : k < ms.length) (hs : SameSp (ms.take k) L) (gs : SameSp (L ++ [ms.getD k 0]) M) : SameSp (ms.take (k + 1)) M := by
  refine SameSp.trans ?_ gs
  have e : ms.take (k + 1) = ms.take k ++ [ms.getD k 0] := by
    rw [List.take_succ_eq_append_getElem (by omega)]; simp [List.getD, hk]
  rw [e]
  refine SameSp.of (fun y hy => ?_) (fun y hy => ?_)
  · rcases List.mem_append.1 hy with hy | hy
    · exact sp_sub (fun r hr => sp_mem (List.mem_append.2 (.inl hr))) ((hs _).1 (sp_mem hy))
    · simp at hy; subst hy; exact sp_mem (by simp)
  · rcases List.mem_append.1 hy with hy | hy
    · exact sp_sub (fun r hr => sp_mem (List.mem_append.2 (.inl hr))) ((hs _).2 (sp_mem hy))
    · simp at hy; subst hy; exact sp_mem (by simp)
theorem rref_nil : Rref [] [] := ⟨rfl, fun _ h => absurd h (Nat.not_lt_zero _), fun _ _ h => absurd h (Nat.not_lt_zero _), fun _ _ _ h => absurd h (Nat.not_lt_zero _)⟩
theorem first_zero (N : Nat) (hN : N ≤ 512) (A : Option Addr) (l c : Nat) (w : World) (hw : Words w A l (rowOf N 0)) :
    Calls Try.prog 35 #[.agg #[.int .i64 (N : Int), .slice A l c]] w fun e w' => e = .returned (.int .i64 (-1)) ∧ Below w.heap.size w w' := by
  refine (first_any N 0 hN (Nat.two_pow_pos N) A l c w hw).mono ?_
  rintro e w' ⟨⟨q, hq, rfl⟩ | ⟨_, rfl⟩, hb⟩
  · exact absurd hq.1 (by simp)
  · exact ⟨rfl, hb⟩
/-- What the reference's Echelon hands back. -/
def RefEch (N : Nat) (orig : List Nat) (w : World) (e : Ending) (w' : World) : Prop :=
  ∃ (M P : List Nat) (A : Option Addr) (c : Nat), e = .returned (.slice A M.length c) ∧ Rref M P ∧ SameSp orig M ∧ MatAt w' 0 A M.length (mkM N M) ∧ Below w.heap.size w w'
set_option maxHeartbeats 16000000 in
theorem refEch_any (N : Nat) (hN : N ≤ 512) (Ms : List Nat) (hL : ∀ r ∈ Ms, r < 2 ^ N) (hlen : Ms.length ≤ 66) (A : Option Addr) (c lo : Nat) (w : World) (hmat : MatAt w lo A Ms.length (mkM N Ms)) :
    Calls Try.prog 13 #[.agg #[.int .i64 (N : Int), .slice A Ms.length c]] w (RefEch N Ms w) := by
  have hW : Below w.heap.size w (w.alloc (.cells #[.int .i64 N, .slice A Ms.length c] 24)) := (Below.refl _ _).alloc (Nat.le_refl _) _
  have Q := Lib.hid (Box.new w 24 #[.int .i64 (N : Int), .slice A Ms.length c])
  have HW := Lib.hid hW
  have HM := Lib.hid hmat
  have HLt := Lib.hid (lt_all hL)
  have HL := Lib.hid hL
  clear hW hmat hL
  obtain ⟨q0, q1, -, -⟩ := Q.out.two
  go_enter Try.func13, Try.ntmps13
  have Q0 := Lib.hid (Q.out.alloc (.cells #[] 40))
  have HB0 := Lib.hid (HW.out.alloc HW.out.size (.cells #[] 40))
  go_wp2_with fail
  clear q0 q1
  go_loopw [3, 11] (fun v t wr => ∃ (i : Nat) (K P : List Nat) (A' : Option Addr) (c' : Nat), .slice A' K.length c' = v ∧ i ≤ Ms.length ∧ t = .int .i64 (i : Int) ∧ Hid (Rref K P) ∧ Hid (SameSp (Ms.take i) K) ∧ Hid (MatAt wr 0 A' K.length (mkM N K)) ∧ Hid (Below w.heap.size w wr)) (fun _ t _ => Ms.length - (intOf t).toNat)
  case atStart => exact ⟨0, [], [], _, _, rfl, Nat.zero_le _, rfl, Lib.hid rref_nil, Lib.hid (by rw [List.take_zero]; exact SameSp.refl _), Lib.hid (MatAt.nil _ _ _), HB0⟩
  case round =>
    obtain ⟨i, K, P, A', c', rfl, hi, rfl, HR, HSp, HK, HB⟩ := hrel
    clear Q0 HB0 Q HW
    by_cases hlt : i < Ms.length
    · have hlt' : (i : Int) < (Ms.length : Int) := by omega
      obtain ⟨b, off, B1, l1, c1, rfl, hbl, x0, x1, hs, hw0⟩ := HM.out.at i hlt
      have hw := hw0.mono (Nat.le_refl _) HB.out
      have x0 := (HB.out.cell (p := ⟨b, off + i * 2, none⟩) hbl).trans x0
      have x1 := (HB.out.cell (p := ⟨b, off + i * 2 + 1, none⟩) hbl).trans x1
      rw [mkM_at N Ms i hlt] at x0 hw
      simp only [mkR] at x0 hw
      have hal : Below wr.heap.size wr (wr.alloc (.cells #[.int .i64 (N : Int), .slice B1 l1 c1] 40)) := (Below.refl _ _).alloc (Nat.le_refl _) _
      have E := Lib.hid (Box.new wr 40 #[.int .i64 (N : Int), .slice B1 l1 c1])
      have HKlt := Lib.hid (same_lt (take_lt' HL.out i) HSp.out)
      have hkl : K.length ≤ 66 := by have := rank_le HR.out HSp.out; rw [List.length_take] at this; omega
      have HLi := Lib.hid (HLt.out i)
      have HLeft := Lib.hid (left_any N hN K P HR.out HKlt.out (by omega) (Ms.getD i 0) HLi.out A' B1 c' l1 c1 0 _ (HK.out.below hal) hs (hw.below hal))
      have HB := Lib.hid (chain HB.out hal)
      have HK := Lib.hid (HK.out.below hal)
      have HZlt := Lib.hid (leftN_lt (P := P) (lt_all HKlt.out) _ HLi.out K.length)
      clear hal hw hs hw0
      obtain ⟨e0, e1, -, -⟩ := E.out.two
      go_wp2_with fail
      refine HLeft.out.mono ?_
      rintro e y1 ⟨A3, l3, c3, rfl, hs3, hw3, hb⟩
      have hal : Below y1.heap.size y1 (y1.alloc (.cells #[.int .i64 (N : Int), .slice A3 l3 c3] 40)) := (Below.refl _ _).alloc (Nat.le_refl _) _
      have E3 := Lib.hid (Box.new y1 40 #[.int .i64 (N : Int), .slice A3 l3 c3])
      have HW3 := Lib.hid (hw3.below hal)
      have HS3 := Lib.hid hs3
      have HB := Lib.hid (chain (chain HB.out hb) hal)
      have HK := Lib.hid ((HK.out.below hb).below hal)
      clear hal hb hw3 hs3 e0 e1 E HLeft
      obtain ⟨e0, e1, -, -⟩ := E3.out.two
      by_cases hz : leftN K P (Ms.getD i 0) K.length = 0
      · have HStep := Lib.hid (span_step hlt HSp.out (left_same HR.out _ hz))
        rw [hz] at HW3
        clear hz
        go_wp2_with fail
        refine (first_zero N hN A3 l3 c3 _ HW3.out).mono ?_
        rintro e y2 ⟨rfl, hb⟩
        have HB := Lib.hid (chain HB.out hb)
        have HK := Lib.hid (HK.out.below hb)
        clear hb e0 e1
        go_wp2_with fail
        go_roundw
        case rel => exact ⟨i + 1, K, P, A', c', rfl, by omega, by go_num, HR, HStep, HK, HB⟩
        case measure => simp [intOf] <;> omega
      · obtain ⟨a, ha⟩ := low_exists hz
        obtain ⟨m, p1, p2, p3, p4, p5⟩ := put_more HR.out _ a ha
        have HA := Lib.hid ha
        have HStep := Lib.hid (span_step hlt HSp.out p5)
        have HRef := Lib.hid p4
        have hge : (0 : Int) ≤ (a : Int) := by omega
        have HWith := Lib.hid (fun w' (h1 : MatAt w' 0 A' K.length (mkM N K)) (h2 : Words w' A3 l3 (rowOf N (leftN K P (Ms.getD i 0) K.length))) => with_any N hN K P HR.out HKlt.out (by omega) _ a m HZlt.out ha p1 p2 p3 A' A3 c' l3 c3 0 w' h1 HS3.out h2)
        clear hz ha p1 p2 p3 p4 p5
        generalize putW K (leftN K P (Ms.getD i 0) K.length) a m = K2 at *
        generalize putP P a m = P2 at *
        go_wp2_with fail
        refine (first_low N _ a hN HZlt.out HA.out A3 l3 c3 _ HW3.out).mono ?_
        rintro e y2 ⟨rfl, hb⟩
        have E3 := Lib.hid (E3.out.keep hb)
        have HB := Lib.hid (chain HB.out hb)
        have HK := Lib.hid (HK.out.below hb)
        have HW3 := Lib.hid (HW3.out.below hb)
        clear hb e0 e1
        obtain ⟨e0, e1, -, -⟩ := E3.out.two
        go_wp2_with fail
        refine (HWith.out _ HK.out HW3.out).mono ?_
        rintro e y3 ⟨A5, c5, rfl, hm5, hb⟩
        have HB := Lib.hid (chain HB.out hb)
        have HK5 := Lib.hid hm5
        clear hb hm5 e0 e1
        go_wp2_with fail
        go_roundw
        case rel => exact ⟨i + 1, K2, P2, A5, c5, rfl, by omega, by go_num, HRef, HStep, HK5, HB⟩
        case measure => simp [intOf] <;> omega
    · obtain rfl : i = Ms.length := by omega
      have hlt' : ¬ (Ms.length : Int) < (Ms.length : Int) := by omega
      have hsp := HSp.out
      rw [List.take_length] at hsp
      go_wp2_with fail
      go_ret
      exact ⟨K, P, A', c', rfl, HR.out, hsp, HK.out, HB.out⟩
end
section
/- The reference's way: byte by byte, with eight more columns. No program. -/
set_option linter.unusedVariables false
set_option linter.unusedSimpArgs false
/-- A row with one byte of its block behind it. -/
def prat (N at_ z : Nat) : Nat := lowN N z + 2 ^ N * ((z >>> (N + 8 * at_)) % 256)
theorem prat_bit (N a z i : Nat) : (prat N a z).testBit i = if i < N then z.testBit i else (decide (i < N + 8) && z.testBit (i + 8 * a)) := by
  rw [prat, Nat.add_comm, Nat.testBit_two_pow_mul_add _ (lowN_lt N z)]
  split
  · rename_i h; exact lowN_bit h
  · rename_i h
    rw [show (256 : Nat) = 2 ^ 8 by rfl, Nat.testBit_mod_two_pow, Nat.testBit_shiftRight, show N + 8 * a + (i - N) = i + 8 * a by omega]
    congr 1
    apply Bool.eq_iff_iff.2
    simp; omega
theorem prat_zero (N a : Nat) : prat N a 0 = 0 := by simp [prat, lowN]
theorem prat_xor (N a x y : Nat) : prat N a (x ^^^ y) = prat N a x ^^^ prat N a y := by
  apply Nat.eq_of_testBit_eq
  intro i
  rw [Nat.testBit_xor, prat_bit, prat_bit, prat_bit, Nat.testBit_xor]
  split
  · rfl
  · rw [Nat.testBit_xor]
    cases decide (i < N + 8) <;> simp
theorem prat_lt (N a z : Nat) : prat N a z < 2 ^ (N + 8) := by
  apply Nat.lt_pow_two_of_testBit
  intro i hi
  rw [prat_bit, if_neg (by omega)]
  simp; omega
theorem prat_low (N a z : Nat) : lowN N (prat N a z) = lowN N z := by
  apply Nat.eq_of_testBit_eq
  intro i
  by_cases h : i < N
  · rw [lowN_bit h, lowN_bit h, prat_bit, if_pos h]
  · rw [Nat.testBit_lt_two_pow (Nat.lt_of_lt_of_le (lowN_lt N _) (Nat.pow_le_pow_right (by omega) (by omega))), Nat.testBit_lt_two_pow (Nat.lt_of_lt_of_le (lowN_lt N _) (Nat.pow_le_pow_right (by omega) (by omega)))]
theorem z_lt {N n : Nat} {p : PV} (h : GoodP N n p) : zOf N p < 2 ^ (N + 8 * n) := by
  apply Nat.lt_pow_two_of_testBit
  intro i hi
  rw [z_bit h, if_neg (by omega)]
  have e : i - N = 8 * ((i - N) / 8) + (i - N) % 8 := by omega
  rw [e, bn_byte _ _ _ (Nat.mod_lt _ (by omega))]
  have hl : p.2.data.toList.length = n := by rw [size_list]; exact h.2
  have : p.2.data.toList[(i - N) / 8]? = none := List.getElem?_eq_none (by omega)
  simp [List.getD, this]
/-- Equations can be so just if no byte's rows begin behind the columns. -/
theorem fits_iff {N n : Nat} {Z : List Nat} (hZ : ∀ z ∈ Z, z < 2 ^ (N + 8 * n)) (Q : Nat → List Nat) (hQ : ∀ a, a < n → ∃ M, Rref M (Q a) ∧ SameSp (Z.map (prat N a)) M) : FitsP N Z ↔ ∀ a, a < n → ∀ p ∈ Q a, p < N := by
  constructor
  · intro hf a ha p hp
    obtain ⟨M, hr, hs⟩ := hQ a ha
    obtain ⟨v, hv, hl⟩ := (hr.place p).1 hp
    obtain ⟨u, hu, rfl⟩ := (sp_map _ (prat_zero N a) (prat_xor N a) Z _).1 ((hs _).2 hv)
    rcases Nat.lt_or_ge p N with h | h
    · exact h
    · have h0 : lowN N u = 0 := by
        apply Nat.eq_of_testBit_eq
        intro i
        rw [Nat.zero_testBit]
        by_cases hi : i < N
        · rw [lowN_bit hi]
          have := hl.2 i (by omega)
          rw [prat_bit, if_pos hi] at this
          exact this
        · exact Nat.testBit_lt_two_pow (Nat.lt_of_lt_of_le (lowN_lt N _) (Nat.pow_le_pow_right (by omega) (by omega)))
      have := hl.1
      rw [hf u hu h0, prat_zero] at this
      simp at this
  · intro h v hv h0
    by_cases hz : v = 0
    · exact hz
    · obtain ⟨i, hi, -⟩ := low_exists hz
      have hN : N ≤ i := by
        rcases Nat.lt_or_ge i N with h' | h'
        · rw [← lowN_bit h', h0] at hi; simp at hi
        · exact h'
      have hlt : i < N + 8 * n := by
        rcases Nat.lt_or_ge i (N + 8 * n) with h' | h'
        · exact h'
        · rw [Nat.testBit_lt_two_pow (Nat.lt_of_lt_of_le (sp_lt hZ hv) (Nat.pow_le_pow_right (by omega) h'))] at hi; cases hi
      have ha : (i - N) / 8 < n := by omega
      obtain ⟨M, hr, hs⟩ := hQ _ ha
      have hne : prat N ((i - N) / 8) v ≠ 0 := fun e => by
        have hb : (prat N ((i - N) / 8) v).testBit (N + (i - N) % 8) = true := by
          rw [prat_bit, if_neg (by omega), show N + (i - N) % 8 + 8 * ((i - N) / 8) = i by omega, hi]
          simp; omega
        rw [e] at hb; simp at hb
      obtain ⟨p, hp⟩ := low_exists hne
      have hpQ := (hr.place p).2 ⟨_, (hs _).1 ((sp_map _ (prat_zero N _) (prat_xor N _) Z _).2 ⟨v, hv, rfl⟩), hp⟩
      have hpN := h _ ha p hpQ
      have := hp.1
      rw [prat_bit, if_pos hpN, ← lowN_bit hpN, h0] at this
      simp at this
/-- The row that a told column's byte stands behind. -/
theorem byte_row {N a : Nat} {Z M P : List Nat} (hr : Rref M P) (hs : SameSp (Z.map (prat N a)) M) (hP : ∀ p ∈ P, p < N) {v c : Nat} (hv : Sp Z v) (hl : lowN N v = 2 ^ c) (hc : c < N) : ∃ j, j < P.length ∧ P.getD j 0 = c ∧ M.getD j 0 = prat N a v := by
  have hu : Sp M (prat N a v) := (hs _).1 ((sp_map _ (prat_zero N a) (prat_xor N a) Z _).2 ⟨v, hv, rfl⟩)
  have hb : ∀ i, i < N → (prat N a v).testBit i = decide (c = i) := fun i hi => by
    rw [prat_bit, if_pos hi, ← lowN_bit hi, hl, Nat.testBit_two_pow]
  have hlow : IsLow (prat N a v) c := ⟨by rw [hb c hc]; simp, fun q hq => by rw [hb q (by omega)]; simp; omega⟩
  obtain ⟨j, hj, hjc⟩ := mem_getD ((hr.place c).2 ⟨_, hu, hlow⟩)
  have hjM : j < M.length := by rw [hr.len]; exact hj
  refine ⟨j, hj, hjc, xor_cancel (hr.zero (sp_xor (sp_mem (getD_mem hjM)) hu) fun i hi => ?_)⟩
  have hiP : i < P.length := by rw [← hr.len]; exact hi
  rw [Nat.testBit_xor, hr.one j i hjM hi, hb _ (hP _ (getD_mem hiP))]
  by_cases e : j = i
  · subst e; rw [hjc]; simp
  · have hne : c ≠ P.getD i 0 := fun e2 => by
      rw [← hjc] at e2
      rcases Nat.lt_or_gt_of_ne e with hl | hl
      · have := hr.rise j i hl hi; omega
      · have := hr.rise i j hl hjM; omega
    simp only [e, decide_false, hne, Bool.xor_self]
/-- The first bytes of a number behind N columns. -/
def byL (N v k : Nat) : List UInt8 := (List.range k).map fun a => UInt8.ofNat ((v >>> (N + 8 * a)) % 256)
theorem byL_succ (N v k : Nat) : byL N v (k + 1) = byL N v k ++ [UInt8.ofNat ((v >>> (N + 8 * k)) % 256)] := by simp [byL, List.range_succ]
theorem byL_len (N v k : Nat) : (byL N v k).length = k := by simp [byL]
theorem byL_bn (N v n : Nat) (h : v < 2 ^ (N + 8 * n)) : bn (byL N v n) = v >>> N := by
  apply Nat.eq_of_testBit_eq
  intro i
  have e : i = 8 * (i / 8) + i % 8 := by omega
  rw [Nat.testBit_shiftRight]
  conv => lhs; rw [e]
  rw [bn_byte _ _ _ (Nat.mod_lt _ (by omega))]
  by_cases hl : i / 8 < n
  · have e1 : (byL N v n).getD (i / 8) 0 = UInt8.ofNat ((v >>> (N + 8 * (i / 8))) % 256) := by simp [byL, List.getD, hl]
    have e2 : (UInt8.ofNat ((v >>> (N + 8 * (i / 8))) % 256)).toNat = (v >>> (N + 8 * (i / 8))) % 256 := by
      rw [UInt8.toNat_ofNat']; exact Nat.mod_eq_of_lt (Nat.mod_lt _ (by omega))
    rw [e1, e2, show (256 : Nat) = 2 ^ 8 by rfl, Nat.testBit_mod_two_pow, Nat.testBit_shiftRight, show N + 8 * (i / 8) + i % 8 = N + i by omega]
    have : i % 8 < 8 := Nat.mod_lt _ (by omega)
    simp [this]
  · have : (byL N v n)[i / 8]? = none := List.getElem?_eq_none (by rw [byL_len]; omega)
    rw [Nat.testBit_lt_two_pow (Nat.lt_of_lt_of_le h (Nat.pow_le_pow_right (by omega) (show N + 8 * n ≤ N + i by omega)))]
    simp [List.getD, this]
/-- A number's bits as ints. -/
def bitsI (x k : Nat) : List Int := (List.range k).map fun j => if x.testBit j then 1 else 0
theorem bitsI_succ (x k : Nat) : bitsI x (k + 1) = bitsI x k ++ [if x.testBit k then 1 else 0] := by simp [bitsI, List.range_succ]
theorem bitsI_len (x k : Nat) : (bitsI x k).length = k := by simp [bitsI]
theorem bitsI_at (x k j : Nat) (h : j < k) : (bitsI x k).getD j 0 = if x.testBit j then 1 else 0 := by simp [bitsI, List.getD, h]
theorem bitsI_lt (x k j : Nat) : -9223372036854775808 ≤ (bitsI x k).getD j 0 ∧ (bitsI x k).getD j 0 ≤ 9223372036854775807 := by
  by_cases h : j < k
  · rw [bitsI_at x k j h]; split <;> omega
  · have : (bitsI x k)[j]? = none := List.getElem?_eq_none (by rw [bitsI_len]; omega)
    simp [List.getD, this]
theorem bitsI_eq {x y k : Nat} (h : ∀ j, j < k → x.testBit j = y.testBit j) : bitsI x k = bitsI y k := by
  unfold bitsI
  apply List.map_congr_left
  intro j hj
  rw [h j (by simpa using hj)]
/-- The row of a number's bits. -/
theorem from_num (x k : Nat) (hx : x < 2 ^ k) : fromL (bitsOf (bitsI x k)) (nw k) = rowOf k x := by
  apply List.ext_getElem
  · rw [fromL_len, rowOf_len]
  · intro i hi1 hi2
    have hi : i < nw k := by rw [fromL_len] at hi1; exact hi1
    simp only [fromL, rowOf, List.getElem_map, List.getElem_range]
    apply Nat.eq_of_testBit_eq
    intro j
    rw [accM_bit _ _ _ _ (Nat.le_refl _), Nat.testBit_mod_two_pow, Nat.testBit_shiftRight]
    by_cases hj : j < 64
    · have hd : decide (j < 64) = true := by simpa using hj
      rw [hd, Bool.true_and, Bool.true_and, show 64 * i + (64 - 64 + j) = 64 * i + j by omega]
      unfold bitsOf
      rw [bitsI_len]
      by_cases hl : 64 * i + j < k
      · rw [bitsI_at x k _ hl]
        have hd2 : decide (64 * i + j < k) = true := by simpa using hl
        rw [hd2, Bool.true_and]
        cases x.testBit (64 * i + j) <;> rfl
      · have hd2 : decide (64 * i + j < k) = false := by simpa using hl
        rw [hd2, Bool.false_and, Nat.testBit_lt_two_pow (Nat.lt_of_lt_of_le hx (Nat.pow_le_pow_right (by omega) (by omega)))]
    · have hd : decide (j < 64) = false := by simpa using hj
      rw [hd, Bool.false_and, Bool.false_and]
end
end Go.Proofs.Ytdfmogcgangdnaa
