/- Parts: Mat3, Mat4, Chain, RefOf, MatM, Mat5, Mat6, Mat7, OwnF, Mat8, Rd1, Rd2. -/
import Derived.Test.YtdfmogcgangdnaaDoorZc
import Derived.Deep.AppendLies
import Derived.Deep.RegionHeld3
import Derived.Deep.RegionLaw
import Derived.Deep.RegionWith
import Derived.OpenShut
import Derived.Shelf.Abstract
namespace Go.Proofs.YtdfmogcgangdnaaDoor
section
/- Contracts of layer 3's reference: Right, Same; matrix.Like. -/
set_option linter.unusedVariables false
set_option linter.unusedSimpArgs false
open Go.RowKit
/-- Are two matrices the same? -/
def sameM (N : Int) (ms : List (Int × List Nat)) (M : Int) (ks : List (Int × List Nat)) : Bool := N == M && ms == ks
theorem sameM_self (N : Int) (ms : List (Int × List Nat)) : sameM N ms N ms = true := by simp [sameM]
theorem take_same {α : Type} (ms ks : List α) (d : α) (k : Nat) (h1 : k < ms.length) (h2 : k < ks.length) (h : ms.take k = ks.take k) (he : ms.getD k d = ks.getD k d) : ms.take (k + 1) = ks.take (k + 1) := by
  rw [take_one ms k d h1, take_one ks k d h2, h, he]
set_option maxRecDepth 100000 in
set_option maxHeartbeats 4000000 in
theorem same3_any (N M : Int) (A1 A2 : Option Addr) (n m c1 c2 l1 l2 : Nat) (ms ks : List (Int × List Nat)) (w : World) (h1 : MatAt w l1 A1 n ms) (h2 : MatAt w l2 A2 m ks) (hl : n ≤ 1000000) (hr : ∀ j, (ms.getD j (0, [])).2.length ≤ 1000000) :
    Calls Tryd.prog 11 #[.agg #[.int .i64 N, .slice A1 n c1], .agg #[.int .i64 M, .slice A2 m c2]] w fun e w' => e = .returned (.bool (sameM N ms M ks)) ∧ Below w.heap.size w w' := by
  have q0 := (Box.new w 24 #[.int .i64 N, .slice A1 n c1]).alloc (.cells #[.int .i64 M, .slice A2 m c2] 24)
  have q1 := Box.new (w.alloc (.cells #[.int .i64 N, .slice A1 n c1] 24)) 24 #[.int .i64 M, .slice A2 m c2]
  have HW := Lib.hid (show Below w.heap.size w ((w.alloc (.cells #[.int .i64 N, .slice A1 n c1] 24)).alloc (.cells #[.int .i64 M, .slice A2 m c2] 24)) from ((Below.refl _ _).alloc (Nat.le_refl _) _).alloc (by simp) _)
  simp only [World.size_alloc] at q1
  have M1 := Lib.hid (h1.below HW.out)
  have M2 := Lib.hid (h2.below HW.out)
  have HL1 := Lib.hid h1.1
  have HL2 := Lib.hid h2.1
  have HR := Lib.hid hr
  have Q0 := Lib.hid q0
  have Q1 := Lib.hid q1
  clear h1 h2 q0 q1 hr
  by_cases hN : N = M
  · subst hN
    have t1 : (N != N) = false := by simp
    by_cases hn : n = m
    · subst hn
      have t2 : (((n : Nat) : Int) != ((n : Nat) : Int)) = false := by simp
      go_enter Tryd.func11, Tryd.ntmps11
      go_wp2_with fail
      generalize (w.alloc (.cells #[.int .i64 N, .slice A1 n c1] 24)).alloc (.cells #[.int .i64 N, .slice A2 n c2] 24) = W at *
      obtain ⟨a0, a1, -, -⟩ := Q0.out.two
      obtain ⟨d0, d1, -, -⟩ := Q1.out.two
      have hz0 := Q0.out.lt
      have hz1 := Q1.out.lt
      go_wp2_with fail
      clear t1 t2
      go_loopw [23] (fun t wr => ∃ i : Nat, i ≤ n ∧ t = .int .i64 i ∧ Hid (ms.take i = ks.take i) ∧ Hid (Below W.heap.size W wr)) (fun t _ => n - (intOf t).toNat)
      case atStart => exact ⟨0, by omega, rfl, Lib.hid (by simp), Lib.hid (Below.refl _ _)⟩
      case round =>
        obtain ⟨i, hi, rfl, HT, HB⟩ := hrel
        by_cases hlt : i < n
        · have hlt' : (i : Int) < (n : Int) := by omega
          obtain ⟨g1, o1, B1, k1, e1, rfl, hg1, x1, y1, s1, u1⟩ := (M1.out.below HB.out).at i hlt
          obtain ⟨g2, o2, B2, k2, e2, rfl, hg2, x2, y2, s2, u2⟩ := (M2.out.below HB.out).at i hlt
          have O1 := Lib.hid u1
          have O2 := Lib.hid u2
          have HK := Lib.hid (HR.out i)
          have HTS := Lib.hid (take_same ms ks (0, []) i (by rw [HL1.out]; exact hlt) (by rw [HL2.out]; exact hlt) HT.out)
          have HTN := Lib.hid (show ms = ks → ms.getD i (0, []) = ks.getD i (0, []) from fun e => by rw [e])
          have HP1 := Lib.hid (show ms.getD i (0, []) = ((ms.getD i (0, [])).1, (ms.getD i (0, [])).2) from rfl)
          have HP2 := Lib.hid (show ks.getD i (0, []) = ((ks.getD i (0, [])).1, (ks.getD i (0, [])).2) from rfl)
          generalize hp1 : ms.getD i (0, []) = p1 at *
          generalize hp2 : ks.getD i (0, []) = p2 at *
          clear hp1 hp2 HP1 HP2
          obtain ⟨n1, us⟩ := p1
          obtain ⟨n2, vs⟩ := p2
          simp only at x1 y1 x2 y2 O1 O2 HK
          clear u1 u2 s1 s2
          have R0 := Lib.hid (Q0.out.below HB.out hz0)
          have R1 := Lib.hid (Q1.out.below HB.out hz1)
          obtain ⟨v0, v1, -, -⟩ := R0.out.two
          obtain ⟨f0, f1, -, -⟩ := R1.out.two
          have LZ0 := Lib.hid R0.out.lt
          have LZ1 := Lib.hid R1.out.lt
          have LG1 := Lib.hid hg1
          have LG2 := Lib.hid hg2
          clear hg1 hg2
          have HSame := Lib.hid (same_any n1 n2 B1 B2 k1 e1 k2 e2 us vs _ O1.out.drew O2.out.drew (by have := O1.out.1; have := HK.out; omega))
          cases hsb : sameB n1 us n2 vs with
          | true =>
            rw [hsb] at HSame
            have HEq := Lib.hid (show ((n1, us) : Int × List Nat) = (n2, vs) by
              simp only [sameB, Bool.and_eq_true, beq_iff_eq] at hsb
              rw [hsb.1, hsb.2])
            clear hsb
            go_wp2_with fail
            go_region_held3 (fun w' => w'.cell? ⟨w.heap.size, 1, none⟩ = some (.slice (some ⟨g1, o1, none⟩) n c1) ∧ w'.cell? ⟨w.heap.size + 1, 1, none⟩ = some (.slice (some ⟨g2, o2, none⟩) n c2) ∧ w'.cell? ⟨g1, o1 + i * 2, none⟩ = some (.int .i64 n1) ∧ w'.cell? ⟨g1, o1 + i * 2 + 1, none⟩ = some (.slice B1 k1 e1) ∧ w'.cell? ⟨g2, o2 + i * 2, none⟩ = some (.int .i64 n2) ∧ w'.cell? ⟨g2, o2 + i * 2 + 1, none⟩ = some (.slice B2 k2 e2)) (go_keep)
              (first
                | (go_at_call 28; refine HSame.out.mono ?_; rintro ee ww ⟨rfl, hb⟩; have HB1 := Lib.hid (HB.out.drew.trans (hb.mono HB.out.size)); have v1' := (hb.cell (p := ⟨w.heap.size, 1, none⟩) LZ0.out).trans v1; have f1' := (hb.cell (p := ⟨w.heap.size + 1, 1, none⟩) LZ1.out).trans f1; have x1' := (hb.cell (p := ⟨g1, o1 + i * 2, none⟩) LG1.out).trans x1; have y1' := (hb.cell (p := ⟨g1, o1 + i * 2 + 1, none⟩) LG1.out).trans y1; have x2' := (hb.cell (p := ⟨g2, o2 + i * 2, none⟩) LG2.out).trans x2; have y2' := (hb.cell (p := ⟨g2, o2 + i * 2 + 1, none⟩) LG2.out).trans y2; clear hb))
            go_wp2_with fail
            go_roundw
            case rel => exact ⟨i + 1, by omega, by go_num, Lib.hid (HTS.out HEq.out), HB1⟩
            case measure => simp [intOf] <;> omega
          | false =>
            rw [hsb] at HSame
            have HF := Lib.hid (show sameM N ms N ks = false by
              simp only [sameM, beq_self_eq_true, Bool.true_and, beq_eq_false_iff_ne]
              intro e
              have := HTN.out e
              injection this with e1 e2
              rw [e1, e2] at hsb
              simp [sameB] at hsb)
            clear hsb
            go_wp2_with fail
            go_region_held3 (fun w' => w'.cell? ⟨w.heap.size, 1, none⟩ = some (.slice (some ⟨g1, o1, none⟩) n c1) ∧ w'.cell? ⟨w.heap.size + 1, 1, none⟩ = some (.slice (some ⟨g2, o2, none⟩) n c2) ∧ w'.cell? ⟨g1, o1 + i * 2, none⟩ = some (.int .i64 n1) ∧ w'.cell? ⟨g1, o1 + i * 2 + 1, none⟩ = some (.slice B1 k1 e1) ∧ w'.cell? ⟨g2, o2 + i * 2, none⟩ = some (.int .i64 n2) ∧ w'.cell? ⟨g2, o2 + i * 2 + 1, none⟩ = some (.slice B2 k2 e2)) (go_keep)
              (first
                | (go_at_call 28; refine HSame.out.mono ?_; rintro ee ww ⟨rfl, hb⟩; have HB1 := Lib.hid (HB.out.drew.trans (hb.mono HB.out.size)); have v1' := (hb.cell (p := ⟨w.heap.size, 1, none⟩) LZ0.out).trans v1; have f1' := (hb.cell (p := ⟨w.heap.size + 1, 1, none⟩) LZ1.out).trans f1; have x1' := (hb.cell (p := ⟨g1, o1 + i * 2, none⟩) LG1.out).trans x1; have y1' := (hb.cell (p := ⟨g1, o1 + i * 2 + 1, none⟩) LG1.out).trans y1; have x2' := (hb.cell (p := ⟨g2, o2 + i * 2, none⟩) LG2.out).trans x2; have y2' := (hb.cell (p := ⟨g2, o2 + i * 2 + 1, none⟩) LG2.out).trans y2; clear hb))
            go_wp2_with fail
            go_ret
            exact ⟨by rw [HF.out]; rfl, HW.out.trans (HB1.out.mono HW.out.size)⟩
        · obtain rfl : i = n := by omega
          have hlt' : ¬ (i : Int) < (i : Int) := by omega
          have HE := Lib.hid (show sameM N ms N ks = true by
            have := HT.out
            rw [List.take_of_length_le (by rw [HL1.out]; omega), List.take_of_length_le (by rw [HL2.out]; omega)] at this
            rw [this]; exact sameM_self _ _)
          go_wp2
          go_ret
          exact ⟨by rw [HE.out]; rfl, HW.out.trans (HB.out.mono HW.out.size)⟩
    · have t2 : (((n : Nat) : Int) != ((m : Nat) : Int)) = true := by rw [bne_iff_ne]; omega
      have HF := Lib.hid (show sameM N ms N ks = false by
        simp only [sameM, beq_self_eq_true, Bool.true_and, beq_eq_false_iff_ne]
        intro e
        apply hn
        rw [← HL1.out, ← HL2.out, e])
      go_enter Tryd.func11, Tryd.ntmps11
      go_wp2
      go_ret
      exact ⟨by rw [HF.out]; rfl, HW.out⟩
  · have t1 : (N != M) = true := by simpa using hN
    have HF := Lib.hid (show sameM N ms M ks = false by
      have : (N == M) = false := by simpa using hN
      simp [sameM, this])
    go_enter Tryd.func11, Tryd.ntmps11
    go_wp2
    go_ret
    exact ⟨by rw [HF.out]; rfl, HW.out⟩
end
section
/- Contracts of layer 3: slices.EqualFunc at rows, Like, rowsBy. -/
set_option linter.unusedVariables false
set_option linter.unusedSimpArgs false
open Go.RowKit
/-- Rows as cells: how many bits, and the slice of words. -/
abbrev RowV := Int × Option Addr × Nat × Nat
def rowCells (rs : List RowV) : List Value := rs.flatMap fun r => [.int .i64 r.1, .slice r.2.1 r.2.2.1 r.2.2.2]
theorem rowCells_cons (r : RowV) (rs : List RowV) : rowCells (r :: rs) = .int .i64 r.1 :: .slice r.2.1 r.2.2.1 r.2.2.2 :: rowCells rs := rfl
theorem rowCells_len (rs : List RowV) : (rowCells rs).length = rs.length * 2 := by
  induction rs with
  | nil => rfl
  | cons r rs ih => rw [rowCells_cons, List.length_cons, List.length_cons, List.length_cons, ih]; omega
theorem rowCells_snoc (rs : List RowV) (r : RowV) : rowCells (rs ++ [r]) = rowCells rs ++ [.int .i64 r.1, .slice r.2.1 r.2.2.1 r.2.2.2] := by simp [rowCells]
theorem rowCells_at (rs : List RowV) (j : Nat) (hj : j < rs.length) : (rowCells rs)[j * 2]? = some (.int .i64 (rs.getD j (0, none, 0, 0)).1) ∧ (rowCells rs)[j * 2 + 1]? = some (.slice (rs.getD j (0, none, 0, 0)).2.1 (rs.getD j (0, none, 0, 0)).2.2.1 (rs.getD j (0, none, 0, 0)).2.2.2) := by
  induction rs generalizing j with
  | nil => cases hj
  | cons r rs ih =>
    cases j with
    | zero => rw [rowCells_cons]; exact ⟨rfl, rfl⟩
    | succ j =>
      have h := ih j (by simpa using hj)
      rw [rowCells_cons, show (j + 1) * 2 = j * 2 + 1 + 1 by omega]
      exact h
theorem rowCells_set (rs : List RowV) (j : Nat) (r : RowV) : ((rowCells rs).set (j * 2) (.int .i64 r.1)).set (j * 2 + 1) (.slice r.2.1 r.2.2.1 r.2.2.2) = rowCells (rs.set j r) := by
  induction rs generalizing j with
  | nil => simp [rowCells]
  | cons q rs ih =>
    cases j with
    | zero => rw [rowCells_cons]; rfl
    | succ j =>
      rw [rowCells_cons, List.set_cons_succ, rowCells_cons, ← ih j, show (j + 1) * 2 = j * 2 + 1 + 1 by omega]
      rfl
theorem rowCells_made (n : Nat) : (madeCells #[.int .i64 0, .slice none 0 0] (n * 2)) = (rowCells (List.replicate n (0, none, 0, 0))).toArray := by
  apply Array.toList_inj.1
  show _ = rowCells _
  unfold madeCells
  rw [Array.toList_map, Array.toList_range]
  induction n with
  | zero => rfl
  | succ n ih =>
    rw [show (n + 1) * 2 = n * 2 + 1 + 1 by omega, List.range_succ, List.range_succ, List.map_append, List.map_append, ih, List.replicate_succ', rowCells_snoc]
    have e1 : n * 2 % 2 = 0 := by omega
    have e2 : (n * 2 + 1) % 2 = 1 := by omega
    simp [e1, e2]
theorem row_infoM : (Tryd.prog.info? 27).map (fun i => (i.zero, i.size, i.bytes)) = some (some (.agg #[.int .i64 0, .slice none 0 0]), 2, 32) := by kernel_rfl
theorem makeRows_any (n : Nat) (hn : n ≤ 1000000) (w : World) :
    (Instr.makeSlice 22 (.int .i64 (n : Int)) (.int .i64 (n : Int))).run Tryd.prog w = .ok (.slice (some ⟨w.heap.size, 0, none⟩) n n) (w.alloc (.cells (rowCells (List.replicate n (0, none, 0, 0))).toArray 27)) := by
  obtain ⟨i0, hi, hz0, hz1, hz2⟩ := info_parts row_infoM
  have hr := run_make (P := Tryd.prog) w _ _ i0 _ Tryd.underlying22 hi hz0 .i64 .i64 n n (by omega) (by omega) (by rw [hz2]; omega) (by omega)
  simp only [Int.toNat_natCast, hz1] at hr
  rw [hr, ← rowCells_made]
  rfl
/-- A block of rows reads these. -/
theorem Box.rows {w : World} {g : Nat} {t : TypeId} {rs : List RowV} (h : Box w g t (rowCells rs).toArray) {N : Int} {f : Nat → List Nat} (hf : ∀ j, j < rs.length → (rs.getD j (0, none, 0, 0)).1 = N ∧ SliceOk (rs.getD j (0, none, 0, 0)).2.1 (rs.getD j (0, none, 0, 0)).2.2.1 (rs.getD j (0, none, 0, 0)).2.2.2 ∧ Words w (rs.getD j (0, none, 0, 0)).2.1 (rs.getD j (0, none, 0, 0)).2.2.1 (f j)) {lo : Nat} (hg : lo ≤ g) :
    MatAt w lo (some ⟨g, 0, none⟩) rs.length ((List.range rs.length).map fun i => (N, f i)) := by
  refine ⟨by simp, fun _ => ⟨g, 0, rfl, hg, h.lt, fun j hj => ?_⟩⟩
  obtain ⟨h1, h2, h3⟩ := hf j hj
  obtain ⟨c1, c2⟩ := rowCells_at rs j hj
  have e : ((List.range rs.length).map fun i => ((N, f i) : Int × List Nat)).getD j (0, []) = (N, f j) := by simp [List.getD, hj]
  rw [e, Nat.zero_add]
  refine ⟨_, _, _, ?_, ?_, h2, h3⟩
  · rw [h.cell, List.getElem?_toArray, c1, h1]
  · rw [h.cell, List.getElem?_toArray, c2]
theorem OwnW.ok {w : World} {A : Option Addr} {l c : Nat} {zs : List Nat} (h : OwnW w A l c zs) : SliceOk A l c := by
  rcases h.2 with ⟨hv, h0⟩ | ⟨g, cap, cur, hv, hb, hh, hn, hm, hs, hx⟩
  · injection hv with e1 e2 e3
    subst e1 e2 e3
    exact ⟨Nat.le_refl _, Nat.zero_le _, fun _ => ⟨rfl, rfl⟩⟩
  · injection hv with e1 e2 e3
    subst e1 e3
    exact ⟨hn, hm, fun h => by cases h⟩
/-- What rowsBy asks of its function. -/
def RowsAsk (fn : Nat) (pre cb : Array Value) (many : Nat) (N : Int) (f : Nat → List Nat) (w : World) : Prop :=
  ∀ (W : World) (i : Nat), i < many → Below w.heap.size w W → Calls Tryd.prog fn (pre ++ #[.int .i64 i] ++ cb) W (OneOwn N (f i) W)
/-- What rowsBy hands back. -/
def MatsOut (N : Int) (f : Nat → List Nat) (many : Nat) (w : World) (e : Ending) (w' : World) : Prop :=
  ∃ g, e = .returned (.slice (some ⟨g, 0, none⟩) many many) ∧ w.heap.size ≤ g ∧ MatAt w' w.heap.size (some ⟨g, 0, none⟩) many ((List.range many).map fun i => (N, f i)) ∧ Below w.heap.size w w'
set_option maxHeartbeats 2000000 in
theorem rowsBy_any (fn : Nat) (pre cb : Array Value) (many : Nat) (N : Int) (f : Nat → List Nat) (w : World) (eg : ∀ args w, (callFunc fn args).run Tryd.prog w = .ok (.enter fn args) w) (hm : many ≤ 64) (hf : RowsAsk fn pre cb many N f w) (hz : ∀ i j, (f i).getD j 0 < 18446744073709551616) :
    Calls Tryd.prog 26 #[.int .i64 many, .func (.func fn) pre cb] w (MatsOut N f many w) := by
  have mk := makeRows_any many (by omega) w
  have BX := Lib.hid (Box.new w 27 (rowCells (List.replicate many (0, none, 0, 0))).toArray)
  have HW := Lib.hid (show Below w.heap.size w (w.alloc (.cells (rowCells (List.replicate many (0, none, 0, 0))).toArray 27)) from (Below.refl _ _).alloc (Nat.le_refl _) _)
  have HF := Lib.hid hf
  have HZ := Lib.hid hz
  clear hf hz
  go_enter Tryd.func26, Tryd.ntmps26
  go_wp2_with fail
  generalize w.alloc (.cells (rowCells (List.replicate many (0, none, 0, 0))).toArray 27) = W at *
  clear mk
  go_loopw [11] (fun t wr => ∃ (i : Nat) (rs : List RowV), i ≤ many ∧ t = .int .i64 i ∧ rs.length = many ∧ Box wr w.heap.size 27 (rowCells rs).toArray ∧ Hid (∀ j, j < i → (rs.getD j (0, none, 0, 0)).1 = N ∧ OwnW wr (rs.getD j (0, none, 0, 0)).2.1 (rs.getD j (0, none, 0, 0)).2.2.1 (rs.getD j (0, none, 0, 0)).2.2.2 (f j)) ∧ Below w.heap.size w wr) (fun t _ => many - (intOf t).toNat)
  case atStart => exact ⟨0, _, by omega, rfl, by simp, BX.out, Lib.hid (fun j hj => absurd hj (Nat.not_lt_zero _)), HW.out⟩
  case round =>
    obtain ⟨i, rs, hi, rfl, hrs, hbx, HR, hbel⟩ := hrel
    have R := Lib.hid hbx
    have HB := Lib.hid hbel
    have HL := Lib.hid hrs
    clear hbx hbel BX HW hrs
    by_cases hlt : i < many
    · have hlt' : (i : Int) < (many : Int) := by omega
      go_wp2_with fail
      refine (HF.out _ i hlt HB.out).mono ?_
      rintro e x1 ⟨A1, l1, c1, rfl, hw, hb⟩
      have R1 := Lib.hid (R.out.keep hb)
      have HB1 := Lib.hid (chain HB.out hb)
      have HW1 := Lib.hid hw
      have HR1 := Lib.hid (fun j hj => And.intro (HR.out j hj).1 ((HR.out j hj).2.below hb))
      clear hb hw
      obtain ⟨q1, q2⟩ := rowCells_at rs i (by rw [HL.out]; exact hlt)
      have c0 : x1.cell? ⟨w.heap.size, i * 2, none⟩ = some (.int .i64 (rs.getD i (0, none, 0, 0)).1) := by rw [R1.out.cell, List.getElem?_toArray, q1]
      have d0 : x1.cell? ⟨w.heap.size, i * 2 + 1, none⟩ = some (.slice (rs.getD i (0, none, 0, 0)).2.1 (rs.getD i (0, none, 0, 0)).2.2.1 (rs.getD i (0, none, 0, 0)).2.2.2) := by rw [R1.out.cell, List.getElem?_toArray, q2]
      have f0 := R1.out.free (i * 2)
      have f1 := R1.out.free (i * 2 + 1)
      clear q1 q2
      go_wp2_with fail
      go_roundw
      case rel =>
        refine ⟨i + 1, rs.set i (N, A1, l1, c1), by omega, by go_num, by simp [HL.out], ?_, Lib.hid (fun j hj => ?_), (HB1.out.setCell (p := ⟨w.heap.size, i * 2, none⟩) (Nat.le_refl _) _).setCell (p := ⟨w.heap.size, i * 2 + 1, none⟩) (Nat.le_refl _) _⟩
        · have h := (R1.out.put (i * 2) (.int .i64 N)).put (i * 2 + 1) (.slice A1 l1 c1)
          have e2 := rowCells_set rs i (N, A1, l1, c1)
          simp only at e2
          rw [← e2]
          simpa using h
        · by_cases hji : j = i
          · subst hji
            have e1 : (rs.set j (N, A1, l1, c1)).getD j (0, none, 0, 0) = (N, A1, l1, c1) := by simp [List.getD, HL.out, hlt]
            rw [e1]
            exact ⟨rfl, (HW1.out.far R1.out (by decide) _ _).far (R1.out.put _ _) (by decide) _ _⟩
          · have e1 : (rs.set i (N, A1, l1, c1)).getD j (0, none, 0, 0) = rs.getD j (0, none, 0, 0) := by
              simp only [List.getD]
              rw [List.getElem?_set_ne (by omega)]
            rw [e1]
            obtain ⟨a1, a2⟩ := HR1.out j (by omega)
            exact ⟨a1, (a2.far R1.out (by decide) _ _).far (R1.out.put _ _) (by decide) _ _⟩
      case measure => simp [intOf] <;> omega
    · obtain rfl : i = many := by omega
      have hlt' : ¬ (i : Int) < (i : Int) := by omega
      go_wp2
      go_ret
      have h := R.out.rows (N := N) (f := f) (fun j hj => by
        obtain ⟨a1, a2⟩ := HR.out j (by rw [← HL.out]; exact hj)
        exact ⟨a1, a2.ok, a2.words (HZ.out j)⟩) (Nat.le_refl _)
      rw [HL.out] at h
      exact ⟨_, rfl, Nat.le_refl _, h, HB.out⟩
end
section
/- A chain of worlds that keep what was below. No program. -/
set_option linter.unusedVariables false
set_option linter.unusedSimpArgs false
open Go.RowKit
theorem chainN {w w1 w2 : World} {B : Nat} (h : Below B w w1) (hB : B ≤ w1.heap.size) (h2 : Below w1.heap.size w1 w2) : Below B w w2 := h.trans (h2.mono hB)
end
section
/- Contracts of the reference's In, There and Of. -/
set_option linter.unusedVariables false
set_option linter.unusedSimpArgs false
open Go.RowKit
def hasB (zs : List Int) (x : Int) : Bool := zs.contains x
def ofInts (zs : List Int) (n : Nat) : List Int := (List.range n).map fun (j : Nat) => if hasB zs (j : Int) then 1 else 0
theorem ofInts_succ (zs : List Int) (n : Nat) : ofInts zs (n + 1) = ofInts zs n ++ [if hasB zs (n : Int) then 1 else 0] := by simp [ofInts, List.range_succ]
theorem ofInts_len (zs : List Int) (n : Nat) : (ofInts zs n).length = n := by simp [ofInts]
theorem ofInts_get (zs : List Int) (n j : Nat) (h : j < n) : (ofInts zs n).getD j 0 = if hasB zs (j : Int) then 1 else 0 := by simp [ofInts, List.getD, h]
theorem ofInts_lt (zs : List Int) (n j : Nat) : -9223372036854775808 ≤ (ofInts zs n).getD j 0 ∧ (ofInts zs n).getD j 0 ≤ 9223372036854775807 := by
  by_cases h : j < n
  · rw [ofInts_get zs n j h]
    split <;> omega
  · have hn : (ofInts zs n)[j]? = none := List.getElem?_eq_none (by rw [ofInts_len]; omega)
    simp only [List.getD, hn, Option.getD_none]
    omega
theorem orBit_test (ws : List Nat) (p i j : Nat) (hi : i < ws.length) : ((orBit ws p).getD i 0).testBit j = ((ws.getD i 0).testBit j || (p / 64 == i && p % 64 == j)) := by
  unfold orBit
  by_cases h : p / 64 = i
  · subst h
    have e : (ws.set (p / 64) (ws.getD (p / 64) 0 ||| 2 ^ (p % 64))).getD (p / 64) 0 = ws.getD (p / 64) 0 ||| 2 ^ (p % 64) := by
      simp [List.getD, hi]
    rw [e, Nat.testBit_or, Nat.testBit_two_pow]
    simp
    rfl
  · have e : (ws.set (p / 64) (ws.getD (p / 64) 0 ||| 2 ^ (p % 64))).getD i 0 = ws.getD i 0 := by
      simp [List.getD, List.getElem?_set, h]
    have h' : (p / 64 == i) = false := by simpa using h
    rw [e, h']; simp
theorem foldl_test (ps : List Int) (ws : List Nat) (i j : Nat) (hi : i < ws.length) : ((ps.foldl (fun ws p => orBit ws p.toNat) ws).getD i 0).testBit j = ((ws.getD i 0).testBit j || ps.any fun p => p.toNat / 64 == i && p.toNat % 64 == j) := by
  induction ps generalizing ws with
  | nil => simp
  | cons p ps ih =>
    rw [List.foldl_cons, ih (orBit ws p.toNat) (by rw [orBit_length]; exact hi), orBit_test ws p.toNat i j hi, List.any_cons, Bool.or_assoc]
theorem ofBits_test (n : Nat) (ps : List Int) (i j : Nat) (hi : i < nw n) : ((ofBits n ps).getD i 0).testBit j = ps.any fun p => p.toNat / 64 == i && p.toNat % 64 == j := by
  unfold ofBits
  rw [foldl_test ps _ i j (by simpa using hi)]
  have e : (List.replicate (nw n) 0).getD i 0 = 0 := by simp [List.getD, hi]
  rw [e]; simp
theorem from_of (n : Nat) (zs : List Int) (ht : there n zs = true) : fromL (bitsOf (ofInts zs n)) (nw n) = ofBits n zs := by
  apply List.ext_getElem
  · rw [fromL_len, ofBits_len]
  · intro i hi1 hi2
    have hi : i < nw n := by rw [fromL_len] at hi1; exact hi1
    have eo : (ofBits n zs)[i] = (ofBits n zs).getD i 0 := by simp [List.getD, hi2]
    simp only [fromL, List.getElem_map, List.getElem_range]
    rw [eo]
    apply Nat.eq_of_testBit_eq
    intro j
    rw [accM_bit _ _ _ _ (Nat.le_refl _), ofBits_test n zs i j hi]
    have hall : ∀ p ∈ zs, 0 ≤ p ∧ p < n := by
      intro p hp
      have := (List.all_eq_true.1 ht) p hp
      simpa using this
    by_cases hj : j < 64
    · have hd : decide (j < 64) = true := by simpa using hj
      rw [hd, Bool.true_and, show 64 * i + (64 - 64 + j) = 64 * i + j by omega]
      rw [Bool.eq_iff_iff, List.any_eq_true]
      unfold bitsOf
      rw [ofInts_len, Bool.and_eq_true]
      constructor
      · rintro ⟨h1, h2⟩
        have h1' : 64 * i + j < n := by simpa using h1
        rw [ofInts_get zs n _ h1'] at h2
        by_cases hc : hasB zs ((64 * i + j : Nat) : Int) = true
        · refine ⟨((64 * i + j : Nat) : Int), by simpa [hasB] using hc, ?_⟩
          rw [Int.toNat_natCast]
          simp
          omega
        · rw [if_neg hc] at h2
          simp at h2
      · rintro ⟨p, hp, hb⟩
        have hr := hall p hp
        obtain ⟨q, rfl⟩ := Int.eq_ofNat_of_zero_le hr.1
        rw [Int.toNat_natCast] at hb
        simp at hb
        have e : 64 * i + j = q := by omega
        have hq : q < n := by omega
        rw [e]
        refine ⟨by simpa using hq, ?_⟩
        rw [ofInts_get zs n q hq]
        have hc : hasB zs (q : Int) = true := by simpa [hasB] using hp
        rw [if_pos hc]; rfl
    · have hd : decide (j < 64) = false := by simpa using hj
      rw [hd, Bool.false_and]
      symm
      rw [List.any_eq_false]
      intro p _
      simp
      intro _
      omega
end
section
/- Mathematics of matrices: columns. -/
set_option linter.unusedVariables false
set_option linter.unusedSimpArgs false
open Go.RowKit
/-- The bit of row j at i. -/
def mbit (ms : List (Int × List Nat)) (j i : Nat) : Nat := bitAt (ms.getD j (0, [])).2 i
theorem mbit_le (ms : List (Int × List Nat)) (j i : Nat) : mbit ms j i = 0 ∨ mbit ms j i = 1 := bitAt_le _ _
/-- Where a column's bits are 1, among the first k rows. -/
def colP (ms : List (Int × List Nat)) (i k : Nat) : List Nat := (List.range k).filter fun j => mbit ms j i == 1
def castP (l : List Nat) : List Int := l.map fun (x : Nat) => (x : Int)
theorem colP_succ (ms : List (Int × List Nat)) (i k : Nat) : colP ms i (k + 1) = colP ms i k ++ if mbit ms k i = 1 then [k] else [] := by
  unfold colP
  rw [List.range_succ, List.filter_append]
  congr 1
  by_cases h : mbit ms k i = 1
  · have t : (mbit ms k i == 1) = true := by simpa using h
    simp [t, h]
  · have t : (mbit ms k i == 1) = false := by simpa using h
    simp [t, h]
theorem colP_len (ms : List (Int × List Nat)) (i k : Nat) : (colP ms i k).length ≤ k := by
  unfold colP
  have := List.length_filter_le (fun j => mbit ms j i == 1) (List.range k)
  simpa using this
theorem colP_lt {ms : List (Int × List Nat)} {i k p : Nat} (h : p ∈ colP ms i k) : p < k := by
  have := (List.mem_filter.1 h).1
  simpa using this
theorem colP_there (ms : List (Int × List Nat)) (i k : Nat) : there (k : Int) (castP (colP ms i k)) = true := by
  simp only [there, castP, List.all_eq_true, List.mem_map]
  rintro x ⟨y, hy, rfl⟩
  have := colP_lt hy
  simp; omega
theorem castP_bound {l : List Nat} {k : Nat} (h : ∀ p ∈ l, p < k) (hk : k ≤ 1000000) (j : Nat) : -9223372036854775808 ≤ (castP l).getD j 0 ∧ (castP l).getD j 0 ≤ 9223372036854775807 := by
  by_cases hj : j < l.length
  · have e : (castP l).getD j 0 = ((l[j] : Nat) : Int) := by simp [castP, List.getD, hj]
    have := h l[j] (List.getElem_mem _)
    rw [e]; omega
  · have e : (castP l)[j]? = none := List.getElem?_eq_none (by simp [castP]; omega)
    simp only [List.getD, e, Option.getD_none]; omega
/-- The column as a row. -/
def colW (ms : List (Int × List Nat)) (i : Nat) : List Nat := ofBits ms.length (castP (colP ms i ms.length))
/-- A matrix turned, of n columns. -/
def turnM (n : Nat) (ms : List (Int × List Nat)) : List (Int × List Nat) := (List.range n).map fun i => ((ms.length : Int), colW ms i)
/-- The column as numbers. -/
def colZ (ms : List (Int × List Nat)) (i k : Nat) : List Int := (List.range k).map fun j => ((mbit ms j i : Nat) : Int)
theorem colZ_succ (ms : List (Int × List Nat)) (i k : Nat) : colZ ms i (k + 1) = colZ ms i k ++ [((mbit ms k i : Nat) : Int)] := by simp [colZ, List.range_succ]
theorem colZ_len (ms : List (Int × List Nat)) (i k : Nat) : (colZ ms i k).length = k := by simp [colZ]
theorem colZ_bound (ms : List (Int × List Nat)) (i k j : Nat) : -9223372036854775808 ≤ (colZ ms i k).getD j 0 ∧ (colZ ms i k).getD j 0 ≤ 9223372036854775807 := by
  by_cases hj : j < k
  · have e : (colZ ms i k).getD j 0 = ((mbit ms j i : Nat) : Int) := by simp [colZ, List.getD, hj]
    have := mbit_le ms j i
    rw [e]; omega
  · have e : (colZ ms i k)[j]? = none := List.getElem?_eq_none (by simp [colZ]; omega)
    simp only [List.getD, e, Option.getD_none]; omega
theorem hasB_castP (l : List Nat) (j : Nat) : hasB (castP l) (j : Int) = l.contains j := by
  unfold hasB castP
  rw [Bool.eq_iff_iff]
  simp only [List.contains_iff_mem, List.mem_map]
  constructor
  · rintro ⟨a, h, e⟩
    obtain rfl : a = j := by omega
    exact h
  · exact fun h => ⟨j, h, rfl⟩
theorem colZ_ofInts (ms : List (Int × List Nat)) (i k : Nat) : colZ ms i k = ofInts (castP (colP ms i k)) k := by
  unfold colZ ofInts
  apply List.map_congr_left
  intro j hj
  have hj' : j < k := by simpa using hj
  rw [hasB_castP]
  have e : (colP ms i k).contains j = (mbit ms j i == 1) := by
    rw [Bool.eq_iff_iff]
    simp [colP, hj']
  rw [e]
  rcases mbit_le ms j i with h | h <;> simp [h]
theorem from_col (ms : List (Int × List Nat)) (i k : Nat) : fromL (bitsOf (colZ ms i k)) (nw k) = ofBits k (castP (colP ms i k)) := by
  rw [colZ_ofInts, from_of k _ (colP_there ms i k)]
end
section
/- Contracts of layer 3: alone, One. -/
set_option linter.unusedVariables false
set_option linter.unusedSimpArgs false
open Go.RowKit
/-- What a function of one matrix and an error hands back. -/
def MatRes (N : Int) (ms : List (Int × List Nat)) (err : Int) (w : World) (e : Ending) (w' : World) : Prop :=
  ∃ A c, e = .returned (.tuple #[.agg #[.int .i64 N, .slice A ms.length c], .int .i64 err]) ∧ MatAt w' w.heap.size A ms.length ms ∧ Below w.heap.size w w'
/-- What a function of one matrix hands back. -/
def MatOne (N : Int) (ms : List (Int × List Nat)) (w : World) (e : Ending) (w' : World) : Prop :=
  ∃ A c, e = .returned (.agg #[.int .i64 N, .slice A ms.length c]) ∧ MatAt w' w.heap.size A ms.length ms ∧ Below w.heap.size w w'
def oneL (n : Nat) : List (Int × List Nat) := (List.range n).map fun (i : Nat) => ((n : Int), ofBits n [(i : Int)])
theorem oneL_len (n : Nat) : (oneL n).length = n := by simp [oneL]
def oneN (n : Int) : Int := if smb n then n else 0
def oneM (n : Int) : List (Int × List Nat) := if smb n then oneL n.toNat else []
def oneE (n : Int) : Int := if smb n then 0 else 2
end
section
/- Contracts of layer 3: column, Turn. -/
set_option linter.unusedVariables false
set_option linter.unusedSimpArgs false
open Go.RowKit
theorem int_infoM : (Tryd.prog.info? 3).map (fun i => (i.zero, i.size, i.bytes)) = some (some (.int .i64 0), 1, 8) := by kernel_rfl
set_option maxHeartbeats 2000000 in
theorem column_any (N : Nat) (A : Option Addr) (l c lo : Nat) (ms : List (Int × List Nat)) (q : Nat) (w : World) (hm : MatAt w lo A l ms) (hr : rightM N ms = true) (hq : q < N) :
    Calls Tryd.prog 27 #[.agg #[.int .i64 N, .slice A l c], .int .i64 q] w (OneOwn l (ofBits l (castP (colP ms q l))) w) := by
  obtain ⟨i0, hi, hz0, hz1, hz2⟩ := info_parts int_infoM
  have HI := Lib.hid hi
  have HZ0 := Lib.hid hz0
  have HZ1 := Lib.hid hz1
  have HZ2 := Lib.hid hz2
  clear hi hz0 hz1 hz2
  have hl := (rightM_bd hr).2.2
  rw [hm.1] at hl
  have HR := Lib.hid hr
  have HM := Lib.hid hm
  have HL := Lib.hid hm.1
  have Q0 := Lib.hid ((Box.new w 66 #[.int .i64 N, .slice A l c]).alloc (.cells #[.int .i64 0, .slice none 0 0] 27))
  have q1 := Box.new (w.alloc (.cells #[.int .i64 N, .slice A l c] 66)) 27 #[.int .i64 0, .slice none 0 0]
  have HW := Lib.hid (show Below w.heap.size w ((w.alloc (.cells #[.int .i64 N, .slice A l c] 66)).alloc (.cells #[.int .i64 0, .slice none 0 0] 27)) from ((Below.refl _ _).alloc (Nat.le_refl _) _).alloc (by simp) _)
  simp only [World.size_alloc] at q1
  have Q1 := Lib.hid q1
  have n1 := Lib.hid (show (3 : TypeId) ≠ 66 by decide)
  have n2 := Lib.hid (show (3 : TypeId) ≠ 27 by decide)
  clear hm hr q1
  obtain ⟨r0, r1, -, -⟩ := Q0.out.two
  go_enter Tryd.func27, Tryd.ntmps27
  go_wp2_with fail
  clear r0 r1
  go_loopw [5, 15] (fun v t wr => ∃ k : Nat, k ≤ l ∧ t = .int .i64 k ∧ wr.ownsRow w.heap.size 3 1 v (colP ms q k).length ((castP (colP ms q k)).map (Value.int .i64)) ∧ Box wr w.heap.size 66 #[.int .i64 N, .slice A l c] ∧ Box wr (w.heap.size + 1) 27 #[.int .i64 0, .slice none 0 0] ∧ Below w.heap.size w wr) (fun _ t _ => l - (intOf t).toNat)
  case atStart => exact ⟨0, by omega, rfl, World.ownsRow_nil _ _ _ _, Q0.out, Q1.out, HW.out⟩
  case round =>
    obtain ⟨k, hk, rfl, hown, hb0, hb1, hbel⟩ := hrel
    have HO := Lib.hid hown
    have R0 := Lib.hid hb0
    have R1 := Lib.hid hb1
    have HB := Lib.hid hbel
    have hpl := colP_len ms q k
    clear hown hb0 hb1 hbel Q0 Q1 HW
    by_cases hlt : k < l
    · have hlt' : (k : Int) < (l : Int) := by omega
      have h1 := (HM.out.mono (Nat.le_refl _) HB.out)
      obtain ⟨g1, o1, B1, k1, e1, rfl, hg1, x1, y1, s1, u1⟩ := h1.at k hlt
      obtain ⟨hn, hrr⟩ := rightM_at HR.out k (by rw [HL.out]; exact hlt)
      have HS := Lib.hid (colP_succ ms q k)
      have HMB := Lib.hid (show mbit ms k q = bitAt (ms.getD k (0, [])).2 q from rfl)
      rw [hn] at x1
      clear hn h1 s1
      generalize (ms.getD k (0, [])).2 = us at *
      have X0 := Lib.hid (R0.out.alloc (.cells #[.int .i64 N, .slice B1 k1 e1] 27))
      have X1 := Lib.hid (R1.out.alloc (.cells #[.int .i64 N, .slice B1 k1 e1] 27))
      have XO := Lib.hid (HO.out.alloc (.cells #[.int .i64 N, .slice B1 k1 e1] 27))
      have XB := Lib.hid (HB.out.alloc HB.out.size (.cells #[.int .i64 N, .slice B1 k1 e1] 27))
      have HG := Lib.hid (get_yes N q B1 k1 e1 us _ hrr hq (u1.alloc (.cells #[.int .i64 N, .slice B1 k1 e1] 27)))
      have P := Box.new wr 27 #[.int .i64 N, .slice B1 k1 e1]
      obtain ⟨p0, p1, -, -⟩ := P.two
      clear P u1 hrr
      go_wp2_with fail
      refine HG.out.mono ?_
      rintro e x1 ⟨rfl, hb⟩
      have X0 := Lib.hid (X0.out.keep hb)
      have X1 := Lib.hid (X1.out.keep hb)
      have XO := Lib.hid (own_keep XO.out hb)
      have XB := Lib.hid (chainN XB.out XB.out.size hb)
      clear hb p0 p1 HG
      have hi' := HI.out
      have hz0' := HZ0.out
      have hz1' := HZ1.out
      have hz2' := HZ2.out
      rcases bitAt_le us q with hbit | hbit
      · have HS := Lib.hid (show colP ms q (k + 1) = colP ms q k by rw [HS.out, HMB.out, hbit]; simp)
        rw [hbit]
        clear hbit
        go_wp2_with fail
        go_roundw
        case rel => exact ⟨k + 1, by omega, by go_num, by rw [HS.out]; exact XO.out, X0.out, X1.out, XB.out⟩
        case measure => simp [intOf] <;> omega
      · have HS := Lib.hid (show colP ms q (k + 1) = colP ms q k ++ [k] by rw [HS.out, HMB.out, hbit]; simp)
        rw [hbit]
        clear hbit
        have Y0 := Lib.hid (X0.out.alloc (.cells #[.int .i64 k] 3))
        have Y1 := Lib.hid (X1.out.alloc (.cells #[.int .i64 k] 3))
        have YO := Lib.hid (XO.out.alloc (.cells #[.int .i64 k] 3))
        have YB := Lib.hid (XB.out.alloc XB.out.size (.cells #[.int .i64 k] 3))
        have N0 := Lib.hid (own_ne YO.out Y0.out n1.out)
        have N1 := Lib.hid (own_ne YO.out Y1.out n2.out)
        have N2 := Lib.hid (fun k hk => (XO.out.lt k hk).1)
        go_wp2_with (at_builtin; refine wpList_append_own _ rfl _ _ 29 rfl w.heap.size 3 i0 (.int .i64 0) 1 8 Tryd.underlying29 hi' hz0' hz1' hz2' rfl (by decide) _ _ _ rfl YO.out ⟨x1.heap.size, 0, none⟩ 1 1 [.int .i64 k] rfl rfl (cell_one_new _ _ _) (by simp [Value.oneCell']) (by simp [maxLen]; omega) (by omega) YB.out.size ?_; intro v' w1 hown' hgrow _; have Z0 := Lib.hid (Y0.out.grown hgrow N0.out); have Z1 := Lib.hid (Y1.out.grown hgrow N1.out); have ZB := Lib.hid (YB.out.grown hgrow YB.out.size N2.out); have HO2 := Lib.hid hown'; clear hown' hgrow)
        go_roundw
        case rel =>
          refine ⟨k + 1, by omega, by go_num, ?_, Z0.out, Z1.out, ZB.out⟩
          rw [HS.out, List.length_append, show castP (colP ms q k ++ [k]) = castP (colP ms q k) ++ [(k : Int)] by simp [castP], List.map_append]
          exact HO2.out
        case measure => simp [intOf] <;> omega
    · obtain rfl : k = l := by omega
      have hlt' : ¬ (k : Int) < (k : Int) := by omega
      obtain ⟨A', c', rfl, hA'⟩ := own_form HO.out
      obtain ⟨r0, r1, -, -⟩ := R0.out.two
      have HL2 := Lib.hid ((lmb_iff k).2 ⟨by omega, by omega⟩)
      have HP := Lib.hid (own_ints HO.out (castP_bound (k := k) (fun p hp => colP_lt hp) (by omega)))
      go_wp2_with fail
      refine (of_own k A' _ c' (castP (colP ms q k)) HL2.out _ HP.out (by omega) (colP_there ms q k)).mono ?_
      rintro e w2 ⟨A2, l2, c2, rfl, hw, hb⟩
      have P0 := Lib.hid ((R1.out.keep hb).alloc (.cells #[.int .i64 k, .slice A2 l2 c2] 27))
      have P1 := Lib.hid (Box.new w2 27 #[.int .i64 k, .slice A2 l2 c2])
      have T1 := Lib.hid ((chainN HB.out HB.out.size hb).alloc (chainN HB.out HB.out.size hb).size (.cells #[.int .i64 k, .slice A2 l2 c2] 27))
      have HWo := Lib.hid (hw.alloc (.cells #[.int .i64 k, .slice A2 l2 c2] 27))
      clear hw hb r0 r1
      obtain ⟨r0, r1, r2, r3⟩ := P0.out.two
      obtain ⟨s0, s1, -, -⟩ := P1.out.two
      go_wp2
      refine close_one Tryd.results27 rfl rfl P0.out.put2 Tryd.underlying27 rfl (by kernel_rfl) ⟨_, _, _, rfl, HWo.out.put2 P0.out _ _, ?_⟩
      exact (T1.out.setCell (p := ⟨w.heap.size + 1, 0, none⟩) (by simp) _).setCell (p := ⟨w.heap.size + 1, 1, none⟩) (by simp) _
theorem turnM_len (n : Nat) (ms : List (Int × List Nat)) : (turnM n ms).length = n := by simp [turnM]
theorem colW_lt (ms : List (Int × List Nat)) (i j : Nat) : (colW ms i).getD j 0 < 18446744073709551616 := ofBits_lt _ _ j
def turnN (N : Int) (ms : List (Int × List Nat)) : Int := if rightM N ms then ms.length else 0
def turnL (N : Int) (ms : List (Int × List Nat)) : List (Int × List Nat) := if rightM N ms then turnM N.toNat ms else []
def turnE (N : Int) (ms : List (Int × List Nat)) : Int := if rightM N ms then 0 else 1
set_option maxHeartbeats 2000000 in
theorem turn_any (N : Int) (A : Option Addr) (l c lo : Nat) (ms : List (Int × List Nat)) (w : World) (hm : MatAt w lo A l ms) (hl : l ≤ maxLen) :
    Calls Tryd.prog 9 #[.agg #[.int .i64 N, .slice A l c]] w (MatRes (turnN N ms) (turnL N ms) (turnE N ms) w) := by
  have Q0 := Lib.hid ((Box.new w 24 #[.int .i64 N, .slice A l c]).alloc (.cells #[.int .i64 0, .slice none 0 0] 24))
  have q1 := Box.new (w.alloc (.cells #[.int .i64 N, .slice A l c] 24)) 24 #[.int .i64 0, .slice none 0 0]
  have HW := Lib.hid (show Below w.heap.size w ((w.alloc (.cells #[.int .i64 N, .slice A l c] 24)).alloc (.cells #[.int .i64 0, .slice none 0 0] 24)) from ((Below.refl _ _).alloc (Nat.le_refl _) _).alloc (by simp) _)
  simp only [World.size_alloc] at q1
  have Q1 := Lib.hid q1
  have HM := Lib.hid (hm.below HW.out)
  have HL := Lib.hid hm.1
  have HR := Lib.hid (mright_any N A l c lo ms _ HM.out hl)
  clear q1 hm
  obtain ⟨r0, r1, -, -⟩ := Q0.out.two
  obtain ⟨s0, s1, s2, s3⟩ := Q1.out.two
  cases h : rightM N ms with
  | false =>
    have e1 : turnN N ms = 0 := by simp [turnN, h]
    have e2 : turnL N ms = [] := by simp [turnL, h]
    have e3 : turnE N ms = 1 := by simp [turnE, h]
    rw [e1, e2, e3]
    rw [h] at HR
    clear e1 e2 e3 h
    go_enter Tryd.func9, Tryd.ntmps9
    go_wp2_with fail
    refine HR.out.mono ?_
    rintro e w1 ⟨rfl, hb⟩
    have P := Lib.hid (Q1.out.keep hb)
    have B := Lib.hid (chain HW.out hb)
    clear hb s0 s1 s2 s3 r0 r1
    obtain ⟨s0, s1, s2, s3⟩ := P.out.two
    go_wp2
    refine close_cell Tryd.results9 rfl rfl rfl P.out.put2 Tryd.underlying24 rfl (by kernel_rfl) ⟨_, _, rfl, MatAt.nil _ _ _, ?_⟩
    exact (B.out.setCell (p := ⟨w.heap.size + 1, 0, none⟩) (by simp) _).setCell (p := ⟨w.heap.size + 1, 1, none⟩) (by simp) _
  | true =>
    obtain ⟨n, rfl⟩ := Int.eq_ofNat_of_zero_le (rightM_bd h).1
    have hbd := rightM_bd h
    have hl64 : l ≤ 64 := by have := HL.out; omega
    have e1 : turnN n ms = l := by simp [turnN, h, HL.out]
    have e2 : turnL n ms = turnM n ms := by simp [turnL, h]
    have e3 : turnE n ms = 0 := by simp [turnE, h]
    rw [e1, e2, e3]
    have HRT := Lib.hid h
    have HTL := Lib.hid (turnM_len n ms)
    rw [h] at HR
    clear e1 e2 e3 h
    go_enter Tryd.func9, Tryd.ntmps9
    go_wp2_with fail
    refine HR.out.mono ?_
    rintro e w1 ⟨rfl, hb⟩
    have P := Lib.hid (Q1.out.keep hb)
    have P0 := Lib.hid (Q0.out.keep hb)
    have B := Lib.hid (chain HW.out hb)
    have HM1 := Lib.hid (HM.out.below hb)
    have HBY := Lib.hid (rowsBy_any 27 #[.agg #[.int .i64 n, .slice A l c]] #[] n l (colW ms) w1.drew (enters_of Tryd.func27 (by kernel_rfl) rfl) (by omega)
      (fun W i hi hb => by
        have := column_any n A l c lo ms i W (HM1.out.drew.below hb) HRT.out hi
        unfold colW; rw [HL.out]; exact this) (colW_lt ms))
    clear hb s0 s1 s2 s3 r0 r1 HR HM
    obtain ⟨s0, s1, s2, s3⟩ := P.out.two
    obtain ⟨r0, r1, -, -⟩ := P0.out.two
    go_wp2_with fail
    go_region_held3 (fun w' => w'.cell? ⟨w.heap.size, 0, none⟩ = some (.int .i64 n) ∧ w'.cell? ⟨w.heap.size, 1, none⟩ = some (.slice A l c)) (go_keep)
      (first
        | (go_at_call 26; refine HBY.out.mono ?_; rintro e2 x1 ⟨g, rfl, hg, hma, hb⟩; have P2 := Lib.hid (P.out.drew.keep hb); have B2 := Lib.hid (chain B.out.drew hb); have HM2 := Lib.hid hma; obtain ⟨t0, t1, -, -⟩ := (P0.out.drew.keep hb).two; clear hb hma; obtain ⟨u0, u1, u2, u3⟩ := P2.out.two))
    have hz : w.heap.size + 1 < w1.heap.size := by have := P.out.lt; omega
    go_wp2_with fail
    refine close_cell Tryd.results9 rfl rfl rfl P2.out.put2 Tryd.underlying24 rfl (by kernel_rfl) ⟨some ⟨g, 0, none⟩, n, by rw [HTL.out]; rfl, ?_, (B2.out.setCell (p := ⟨w.heap.size + 1, 0, none⟩) (by simp) _).setCell (p := ⟨w.heap.size + 1, 1, none⟩) (by simp) _⟩
    rw [HTL.out]
    have h := (HM2.out.put2 (y := (l : Int)) P2.out hz (.slice (some ⟨g, 0, none⟩) n n)).low (l2 := w.heap.size) (by have := HW.out.size; have : w1.drew.heap.size = w1.heap.size := rfl; omega)
    unfold turnM; rw [HL.out]
    exact h
end
section
/- Contract of law 03's few: a matrix of at most 66 rows, of three words each. -/
set_option linter.unusedVariables false
set_option linter.unusedSimpArgs false
open Go.RowKit
def cutR (r : Int × List Nat) : Int × List Nat := (r.1, r.2.take 3)
def fewM (ms : List (Int × List Nat)) : List (Int × List Nat) := (ms.take 66).map cutR
theorem fewM_len (ms : List (Int × List Nat)) : (fewM ms).length = min ms.length 66 := by simp [fewM]; omega
theorem fewM_at (ms : List (Int × List Nat)) (j : Nat) (h : j < ms.length) (h2 : j < 66) : (fewM ms).getD j (0, []) = cutR (ms.getD j (0, [])) := by
  simp [fewM, List.getD, h, h2]
theorem fewM_short (ms : List (Int × List Nat)) (j : Nat) : ((fewM ms).getD j (0, [])).2.length ≤ 3 := by
  by_cases h : j < (fewM ms).length
  · have h1 : j < ms.length := by have := fewM_len ms; omega
    have h2 : j < 66 := by have := fewM_len ms; omega
    rw [fewM_at ms j h1 h2]; simp [cutR]; omega
  · have : (fewM ms)[j]? = none := List.getElem?_eq_none (by omega)
    simp [List.getD, this]
theorem add_zeroM (g j : Nat) : (⟨g, 0, none⟩ : Addr).add j = ⟨g, j, none⟩ := by unfold Addr.add; split <;> simp_all
/-- A row of rows of the call's own, read as a matrix. -/
theorem own_mat {w : World} {base n : Nat} {v : Value} {rs : List RowV} (h : w.ownsRow base 27 2 v n (rowCells rs)) (hn : rs.length = n) (ms : List (Int × List Nat)) (hl : ms.length = n)
    (hf : ∀ j, j < n → (rs.getD j (0, none, 0, 0)).1 = (ms.getD j (0, [])).1 ∧ SliceOk (rs.getD j (0, none, 0, 0)).2.1 (rs.getD j (0, none, 0, 0)).2.2.1 (rs.getD j (0, none, 0, 0)).2.2.2 ∧ Words w (rs.getD j (0, none, 0, 0)).2.1 (rs.getD j (0, none, 0, 0)).2.2.1 (ms.getD j (0, [])).2) :
    ∃ A c, v = .slice A n c ∧ n ≤ c ∧ MatAt w base A n ms := by
  rcases h.2 with ⟨hv, h0⟩ | ⟨g, cap, cur, hv, hb, hh, hc, -⟩
  · subst h0
    obtain rfl : ms = [] := List.length_eq_zero_iff.1 hl
    exact ⟨none, 0, hv, Nat.le_refl _, MatAt.nil _ _ _⟩
  · refine ⟨some ⟨g, 0, none⟩, cap, hv, hc, hl, fun hp => ⟨g, 0, rfl, hb, (h.lt g (by rw [hv]; rfl)).2, fun j hj => ?_⟩⟩
    obtain ⟨f1, f2⟩ := rowCells_at rs j (by omega)
    obtain ⟨a1, a2, a3⟩ := hf j hj
    have hc := World.ownsRow.cells h (g := g) (by rw [hv]; rfl)
    have c1 := hc _ _ f1
    have c2 := hc _ _ f2
    rw [add_zeroM] at c1 c2
    refine ⟨_, _, _, ?_, ?_, a2, a3⟩
    · rw [Nat.zero_add, c1, a1]
    · rw [Nat.zero_add, c2]
/-- A matrix's rows keep off a store into a box of a matrix that is another block. -/
theorem MatAt.farB {w : World} {lo : Nat} {A : Option Addr} {len : Nat} {ms : List (Int × List Nat)} (h : MatAt w lo A len ms) {B : Nat} {t : TypeId} {x : Int} {S : Option Addr} {p q : Nat} (hne : ∀ b o, A = some ⟨b, o, none⟩ → 0 < len → b ≠ B) (hb : Box w B t #[.int .i64 x, .slice S p q]) (i : Nat) (u : Value) : MatAt (w.setCell ⟨B, i, none⟩ u) lo A len ms := by
  refine ⟨h.1, fun hp => ?_⟩
  obtain ⟨b, off, rfl, h1, h2, h3⟩ := h.2 hp
  have hnb := hne b off rfl hp
  refine ⟨b, off, rfl, h1, by simpa [World.setCell] using h2, fun j hj => ?_⟩
  obtain ⟨Bw, l, c, r0, r1, r2, r3⟩ := h3 j hj
  refine ⟨Bw, l, c, ?_, ?_, r2, ?_⟩
  · rw [World.cell?_setCell_other _ _ _ _ (by intro e; injection e; omega)]; exact r0
  · rw [World.cell?_setCell_other _ _ _ _ (by intro e; injection e; omega)]; exact r1
  · refine ⟨r3.1, r3.2.1, fun hp => ?_⟩
    obtain ⟨b', off', rfl, hlt, hc⟩ := r3.2.2 hp
    have hnw := r3.off hb b' off' rfl hp
    refine ⟨b', off', rfl, by simpa [World.setCell] using hlt, fun j hj => ?_⟩
    rw [World.cell?_setCell_other _ _ _ _ (by intro e; injection e; omega)]
    exact hc j hj
end
section
/- The reference's From and Of: rows of words of the call's own. -/
set_option linter.unusedVariables false
set_option linter.unusedSimpArgs false
open Go.RowKit
end
section
/- Layer 3's reference: One. -/
set_option linter.unusedVariables false
set_option linter.unusedSimpArgs false
open Go.RowKit
theorem own_drewM {w : World} {base e size n : Nat} {v : Value} {xs : List Value} (h : w.ownsRow base e size v n xs) : w.drew.ownsRow base e size v n xs := h
theorem one_ints (w : World) (t : TypeId) (i : Nat) (hi : i ≤ 1000000) : Ints (w.alloc (.cells #[.int .i64 i] t)) (some ⟨w.heap.size, 0, none⟩) 1 [(i : Int)] := by
  have bx := Box.new w t #[.int .i64 (i : Int)]
  refine ⟨rfl, fun j => ?_, fun _ => ⟨w.heap.size, 0, rfl, bx.lt, fun j hj => ?_⟩⟩
  · match j with
    | 0 => simp; omega
    | k + 1 => simp
  · rw [Nat.zero_add, bx.cell]
    match j, hj with
    | 0, _ => rfl
/-- A row of rows of the call's own, each with a row of words of the call's own. -/
def RowsW (w : World) (base : Nat) (v : Value) (ms : List (Int × List Nat)) : Prop :=
  ∃ rs : List RowV, rs.length = ms.length ∧ w.ownsRow base 27 2 v ms.length (rowCells rs) ∧ ∀ j, j < ms.length → (rs.getD j (0, none, 0, 0)).1 = (ms.getD j (0, [])).1 ∧ OwnW w (rs.getD j (0, none, 0, 0)).2.1 (rs.getD j (0, none, 0, 0)).2.2.1 (rs.getD j (0, none, 0, 0)).2.2.2 (ms.getD j (0, [])).2
theorem RowsW.nil (w : World) (base : Nat) : RowsW w base (.slice none 0 0) [] := ⟨[], rfl, World.ownsRow_nil _ _ _ _, fun j hj => by cases hj⟩
theorem RowsW.below {w w' : World} {base : Nat} {v : Value} {ms : List (Int × List Nat)} (h : RowsW w base v ms) (hb : Below w.heap.size w w') : RowsW w' base v ms := by
  obtain ⟨rs, h1, h2, h3⟩ := h
  exact ⟨rs, h1, own_keep h2 hb, fun j hj => ⟨(h3 j hj).1, (h3 j hj).2.below hb⟩⟩
theorem RowsW.far {w : World} {base : Nat} {v : Value} {ms : List (Int × List Nat)} (h : RowsW w base v ms) {g : Nat} {t : TypeId} {cs : Array Value} (hb : Box w g t cs) (hne : 63 ≠ t) (hne2 : 27 ≠ t) (i : Nat) (u : Value) : RowsW (w.setCell ⟨g, i, none⟩ u) base v ms := by
  obtain ⟨rs, h1, h2, h3⟩ := h
  exact ⟨rs, h1, own_far h2 hb hne2 i u, fun j hj => ⟨(h3 j hj).1, (h3 j hj).2.far hb hne i u⟩⟩
theorem RowsW.snoc {w : World} {base n : Nat} {v : Value} {rs : List RowV} {ms : List (Int × List Nat)} {N : Int} {A : Option Addr} {l c : Nat} {z : List Nat} (hn : ms.length = n) (h1 : rs.length = n) (h2 : w.ownsRow base 27 2 v (n + 1) (rowCells rs ++ [.int .i64 N, .slice A l c]))
    (h3 : ∀ j, j < n → (rs.getD j (0, none, 0, 0)).1 = (ms.getD j (0, [])).1 ∧ OwnW w (rs.getD j (0, none, 0, 0)).2.1 (rs.getD j (0, none, 0, 0)).2.2.1 (rs.getD j (0, none, 0, 0)).2.2.2 (ms.getD j (0, [])).2) (h4 : OwnW w A l c z) : RowsW w base v (ms ++ [(N, z)]) := by
  subst hn
  refine ⟨rs ++ [(N, A, l, c)], by simp [h1], ?_, fun j hj => ?_⟩
  · rw [rowCells_snoc, List.length_append]; exact h2
  · rw [List.length_append] at hj
    simp only [List.length_cons, List.length_nil] at hj
    by_cases h : j < ms.length
    · have := h3 j h
      simp only [List.getD, List.getElem?_append_left h, List.getElem?_append_left (h1 ▸ h)] at this ⊢
      exact this
    · obtain rfl : j = ms.length := by omega
      have e1 : (rs ++ [(N, A, l, c)]).getD ms.length (0, none, 0, 0) = (N, A, l, c) := by rw [← h1]; simp [List.getD]
      have e2 : (ms ++ [(N, z)]).getD ms.length (0, []) = (N, z) := by simp [List.getD]
      rw [e1, e2]; exact ⟨rfl, h4⟩
theorem RowsW.mat {w : World} {base : Nat} {v : Value} {ms : List (Int × List Nat)} (h : RowsW w base v ms) (hz : ∀ i j, ((ms.getD i (0, [])).2).getD j 0 < 18446744073709551616) : ∃ A c, v = .slice A ms.length c ∧ ms.length ≤ c ∧ MatAt w base A ms.length ms := by
  obtain ⟨rs, h1, h2, h3⟩ := h
  exact own_mat h2 h1 ms rfl (fun j hj => ⟨(h3 j hj).1, (h3 j hj).2.ok, (h3 j hj).2.words (hz j)⟩)
theorem oneL_take (n i : Nat) (h : i < n) : (oneL n).take (i + 1) = (oneL n).take i ++ [((n : Int), ofBits n [(i : Int)])] := by
  rw [take_one (oneL n) i (0, []) (by rw [oneL_len]; exact h)]
  simp [oneL, List.getD, h]
theorem oneL_lt (n i j : Nat) : (((oneL n).getD i (0, [])).2).getD j 0 < 18446744073709551616 := by
  by_cases h : i < n
  · have e : (oneL n).getD i (0, []) = ((n : Int), ofBits n [(i : Int)]) := by simp [oneL, List.getD, h]
    rw [e]; exact ofBits_lt n _ j
  · have e : (oneL n)[i]? = none := List.getElem?_eq_none (by rw [oneL_len]; omega)
    simp [List.getD, e]
end
section
/- Layer 4: rows of rows as numbers; has, find. -/
set_option linter.unusedVariables false
set_option linter.unusedSimpArgs false
open Go.RowKit
set_option maxRecDepth 100000
def mkR (N x : Nat) : Int × List Nat := ((N : Int), rowOf N x)
def mkM (N : Nat) (L : List Nat) : List (Int × List Nat) := L.map (mkR N)
theorem mkM_len (N : Nat) (L : List Nat) : (mkM N L).length = L.length := by simp [mkM]
theorem mkM_at (N : Nat) (L : List Nat) (i : Nat) (h : i < L.length) : (mkM N L).getD i (0, []) = mkR N (L.getD i 0) := by simp [mkM, List.getD, h]
/-- A row of rows of the call's own, told by numbers. -/
def RowsN (w : World) (base : Nat) (v : Value) (N : Nat) (L : List Nat) : Prop := RowsW w base v (mkM N L)
section
variable {w w' : World} {base : Nat} {v : Value} {N : Nat} {L : List Nat}
theorem RowsN.below (h : RowsN w base v N L) (hb : Below w.heap.size w w') : RowsN w' base v N L := RowsW.below h hb
theorem RowsN.far (h : RowsN w base v N L) {g : Nat} {t : TypeId} {cs : Array Value} (hb : Box w g t cs) (hne : 63 ≠ t) (hne2 : 27 ≠ t) (i : Nat) (u : Value) : RowsN (w.setCell ⟨g, i, none⟩ u) base v N L := RowsW.far h hb hne hne2 i u
theorem RowsN.form (h : RowsN w base v N L) (h0 : 0 < L.length) : ∃ g cap, v = .slice (some ⟨g, 0, none⟩) L.length cap ∧ base ≤ g ∧ g < w.heap.size ∧ L.length ≤ cap ∧ cap ≤ maxLen := by
  obtain ⟨rs, h1, h2, -⟩ := h
  rw [mkM_len] at h2
  rcases h2.2 with ⟨hv, hz⟩ | ⟨g, cap, cur, hv, hb, hh, hc, hm, -⟩
  · omega
  · exact ⟨g, cap, hv, hb, (show Box w g _ cur from hh).lt, hc, hm⟩
theorem RowsN.at (h : RowsN w base v N L) {g cap : Nat} (hv : v = .slice (some ⟨g, 0, none⟩) L.length cap) (i : Nat) (hi : i < L.length) :
    ∃ A l c, w.cell? ⟨g, i * 2, none⟩ = some (.int .i64 N) ∧ w.cell? ⟨g, i * 2 + 1, none⟩ = some (.slice A l c) ∧ OwnW w A l c (rowOf N (L.getD i 0)) ∧ w.frozen? ⟨g, i * 2, none⟩ = false ∧ w.frozen? ⟨g, i * 2 + 1, none⟩ = false := by
  obtain ⟨rs, h1, h2, h3⟩ := h
  rw [mkM_len] at h1 h2 h3
  obtain ⟨e1, e2⟩ := h3 i hi
  rw [mkM_at N L i hi] at e1 e2
  obtain ⟨r1, r2⟩ := rowCells_at rs i (by omega)
  have hc := World.ownsRow.cells h2 (g := g) (by rw [hv]; rfl)
  have c1 := hc _ _ r1
  have c2 := hc _ _ r2
  rw [add_zeroM] at c1 c2
  rw [e1] at c1
  rw [hv] at h2
  exact ⟨_, _, _, c1, c2, e2, h2.frozenAt _, h2.frozenAt _⟩
/-- A row is put in place of another one. -/
theorem RowsN.put {g cap : Nat} (h : RowsN w base (.slice (some ⟨g, 0, none⟩) L.length cap) N L) (i : Nat) (hi : i < L.length) (x : Nat) {A : Option Addr} {l c : Nat} (hw : OwnW w A l c (rowOf N x)) :
    RowsN ((w.setCell ⟨g, i * 2, none⟩ (.int .i64 N)).setCell ⟨g, i * 2 + 1, none⟩ (.slice A l c)) base (.slice (some ⟨g, 0, none⟩) L.length cap) N (L.set i x) := by
  obtain ⟨rs, h1, h2, h3⟩ := h
  rw [mkM_len] at h1 h2 h3
  have hbox : ∃ cur, Box w g 27 cur := by
    rcases h2.2 with ⟨hv, _⟩ | ⟨g', cap', cur, hv, hb, hh, -⟩
    · cases hv
    · injection hv with e1; injection e1 with e1; injection e1 with e1; subst e1; exact ⟨cur, hh⟩
  obtain ⟨cur, hbx⟩ := hbox
  have s1 := (h2.stored (i * 2) (.int .i64 N)).1
  have s2 := (s1.stored (i * 2 + 1) (.slice A l c)).1
  rw [show ((rowCells rs).set (i * 2) (.int .i64 (N : Int))).set (i * 2 + 1) (.slice A l c) = rowCells (rs.set i ((N : Int), A, l, c)) from rowCells_set rs i ((N : Int), A, l, c)] at s2
  refine ⟨rs.set i ((N : Int), A, l, c), by simp [h1, mkM], by rw [mkM_len, List.length_set]; exact s2, fun j hj => ?_⟩
  rw [mkM_len, List.length_set] at hj
  rw [mkM_at N _ j (by rw [List.length_set]; exact hj)]
  have far : ∀ {A : Option Addr} {l c : Nat} {zs : List Nat}, OwnW w A l c zs → OwnW ((w.setCell ⟨g, i * 2, none⟩ (.int .i64 N)).setCell ⟨g, i * 2 + 1, none⟩ (.slice A l c)) A l c zs := fun ho => (ho.far hbx (by decide) _ _).far (hbx.put _ _) (by decide) _ _
  have far2 : ∀ {B : Option Addr} {m d : Nat} {zs : List Nat}, OwnW w B m d zs → OwnW ((w.setCell ⟨g, i * 2, none⟩ (.int .i64 N)).setCell ⟨g, i * 2 + 1, none⟩ (.slice A l c)) B m d zs := fun ho => (ho.far hbx (by decide) _ _).far (hbx.put _ _) (by decide) _ _
  by_cases e : j = i
  · subst e
    have e1 : (rs.set j ((N : Int), A, l, c)).getD j (0, none, 0, 0) = ((N : Int), A, l, c) := by simp [List.getD, h1, hi]
    have e2 : (L.set j x).getD j 0 = x := by simp [List.getD, hi]
    rw [e1, e2]
    exact ⟨rfl, far2 hw⟩
  · have e1 : (rs.set i ((N : Int), A, l, c)).getD j (0, none, 0, 0) = rs.getD j (0, none, 0, 0) := by simp only [List.getD]; rw [List.getElem?_set_ne (by omega)]
    have e2 : (L.set i x).getD j 0 = L.getD j 0 := by simp only [List.getD]; rw [List.getElem?_set_ne (by omega)]
    obtain ⟨f1, f2⟩ := h3 j hj
    rw [mkM_at N L j hj] at f1 f2
    rw [e1, e2]
    exact ⟨f1, far2 f2⟩
end
theorem has_any (N x : Nat) (hN : N ≤ 512) (hx : x < 2 ^ N) (A : Option Addr) (l c p : Nat) (hp : p < N) (w : World) (hw : Words w A l (rowOf N x)) :
    Calls Tryd.prog 30 #[.agg #[.int .i64 N, .slice A l c], .int .i64 (p : Int)] w fun e w' => e = .returned (.bool (x.testBit p)) ∧ Below w.heap.size w w' := by
  have hW : Below w.heap.size w (w.alloc (.cells #[.int .i64 N, .slice A l c] 27)) := (Below.refl _ _).alloc (Nat.le_refl _) _
  have Q := Box.new w 27 #[.int .i64 (N : Int), .slice A l c]
  have HG := Lib.hid (get_yes N p A l c (rowOf N x) _ (rowOf_right N x hN hx) hp (hw.below hW))
  rw [rowOf_bitN N x p hp] at HG
  have HW := Lib.hid hW
  obtain ⟨q0, q1, -, -⟩ := Q.two
  clear hw hW Q
  cases hb : x.testBit p with
  | true =>
    rw [hb] at HG
    clear hb
    go_enter Tryd.func30, Tryd.ntmps30
    go_wp2_with fail
    refine HG.out.mono ?_
    rintro e w1 ⟨rfl, hb⟩
    have B := Lib.hid (chainN HW.out HW.out.size hb)
    clear hb
    go_wp2_with fail
    go_ret
    exact ⟨by simp, B.out⟩
  | false =>
    rw [hb] at HG
    clear hb
    go_enter Tryd.func30, Tryd.ntmps30
    go_wp2_with fail
    refine HG.out.mono ?_
    rintro e w1 ⟨rfl, hb⟩
    have B := Lib.hid (chainN HW.out HW.out.size hb)
    clear hb
    go_wp2_with fail
    go_ret
    exact ⟨by simp, B.out⟩
theorem RowsN.keepW {w : World} {base : Nat} {N : Nat} {L : List Nat} {g n cap : Nat} (h : RowsN w base (.slice (some ⟨g, 0, none⟩) n cap) N L) {B : Option Addr} {m k : Nat} {zs : List Nat} (ho : OwnW w B m k zs) (i j : Nat) (u v : Value) :
    OwnW ((w.setCell ⟨g, i, none⟩ u).setCell ⟨g, j, none⟩ v) B m k zs := by
  obtain ⟨rs, h1, h2, h3⟩ := h
  rcases h2.2 with ⟨hv, _⟩ | ⟨g', cap', cur, hv, hb, hh, -⟩
  · cases hv
  · injection hv with e1; injection e1 with e1; injection e1 with e1
    subst e1
    have hbx : Box w g 27 cur := hh
    exact (ho.far hbx (by decide) _ _).far (hbx.put _ _) (by decide) _ _
theorem Box.three {w : World} {g : Nat} {t : TypeId} {a b d : Value} (h : Box w g t #[a, b, d]) : w.cell? ⟨g, 0, none⟩ = some a ∧ w.cell? ⟨g, 1, none⟩ = some b ∧ w.cell? ⟨g, 2, none⟩ = some d ∧ w.frozen? ⟨g, 0, none⟩ = false ∧ w.frozen? ⟨g, 1, none⟩ = false ∧ w.frozen? ⟨g, 2, none⟩ = false :=
  ⟨h.cell 0, h.cell 1, h.cell 2, h.free 0, h.free 1, h.free 2⟩
/-- Where the next row is that has a column. -/
def FindOut (L : List Nat) (d c : Nat) (w : World) (e : Ending) (w' : World) : Prop :=
  ∃ i : Nat, e = .returned (.int .i64 (i : Int)) ∧ d ≤ i ∧ i ≤ L.length ∧ (∀ j, d ≤ j → j < i → (L.getD j 0).testBit c = false) ∧ (i < L.length → (L.getD i 0).testBit c = true) ∧ Below w.heap.size w w'
set_option maxHeartbeats 2000000 in
theorem find_any (N : Nat) (hN : N ≤ 512) (L : List Nat) (hL : ∀ i, L.getD i 0 < 2 ^ N) (hlen : L.length ≤ 64) (v : Value) (base wb d c : Nat) (hd : d ≤ L.length) (hc : c < N) (w : World) (hb : Box w wb 62 #[.int .i64 (N : Int), v, .int .i64 (d : Int)]) (hr : RowsN w base v N L) :
    Calls Tryd.prog 42 #[.pointer (some ⟨wb, 0, none⟩), .int .i64 (c : Int)] w (FindOut L d c w) := by
  have HBX := Lib.hid hb
  have HR := Lib.hid hr
  obtain ⟨A0, c0, hv, -⟩ := own_form hr.choose_spec.2.1
  rw [mkM_len] at hv
  subst hv
  obtain ⟨b0, b1, b2, -, -, -⟩ := hb.three
  clear hb hr
  go_enter Tryd.func42, Tryd.ntmps42
  go_wp2_with fail
  clear b0 b1 b2
  go_loopw [5] (fun t wr => ∃ i : Nat, d ≤ i ∧ i ≤ L.length ∧ t = .int .i64 (i : Int) ∧ Hid (∀ j, d ≤ j → j < i → (L.getD j 0).testBit c = false) ∧ Hid (Below w.heap.size w wr)) (fun t _ => L.length - (intOf t).toNat)
  case atStart => exact ⟨d, Nat.le_refl _, hd, rfl, Lib.hid (fun j h1 h2 => by omega), Lib.hid (Below.refl _ _)⟩
  case round =>
    obtain ⟨i, h1, h2, rfl, HF, HB⟩ := hrel
    obtain ⟨b0, b1, b2, -, -, -⟩ := (HBX.out.keep HB.out).three
    by_cases hlt : i < L.length
    · have hlt' : (i : Int) < (L.length : Int) := by omega
      have hr1 := HR.out.below HB.out
      obtain ⟨g, cap, hv, -, -, hcap, hcm⟩ := hr1.form (by omega)
      injection hv with e1 e2 e3
      subst e1
      obtain ⟨A, l, cc, x0, x1, ow, -, -⟩ := hr1.at rfl i hlt
      have HH := Lib.hid (has_any N (L.getD i 0) hN (hL i) A l cc c hc _ (ow.words (rowOf_lt N _)))
      clear hr1 e3 ow
      cases hbit : (L.getD i 0).testBit c with
      | true =>
        rw [hbit] at HH
        have HBt := Lib.hid hbit
        clear hbit
        go_wp2_with fail
        refine HH.out.mono ?_
        rintro e w1 ⟨rfl, hb⟩
        have HB2 := Lib.hid (chain HB.out hb)
        clear hb
        go_wp2_with fail
        go_ret
        exact ⟨i, rfl, h1, by omega, HF.out, fun _ => HBt.out, HB2.out⟩
      | false =>
        rw [hbit] at HH
        have HBt := Lib.hid hbit
        clear hbit
        go_wp2_with fail
        refine HH.out.mono ?_
        rintro e w1 ⟨rfl, hb⟩
        have HB2 := Lib.hid (chain HB.out hb)
        clear hb
        go_wp2_with fail
        go_roundw
        case rel => exact ⟨i + 1, by omega, by omega, by go_num, Lib.hid (fun j k1 k2 => by
          by_cases e : j = i
          · subst e; exact HBt.out
          · exact HF.out j k1 (by omega)), HB2⟩
        case measure => simp [intOf]; omega
    · obtain rfl : i = L.length := by omega
      have hlt' : ¬ (L.length : Int) < (L.length : Int) := by omega
      go_wp2_with fail
      go_ret
      exact ⟨L.length, rfl, h1, Nat.le_refl _, HF.out, fun h => absurd h (Nat.lt_irrefl _), HB.out⟩
end
section
/- Layer 4: clear: a column is put out of all rows but one. -/
set_option linter.unusedVariables false
set_option linter.unusedSimpArgs false
open Go.RowKit
set_option maxRecDepth 100000
theorem gk_trans {w w1 w2 : World} {g : Nat} (h : w.grownBy w1 (some g)) (k : w1.grownBy w2 (some g)) : w.grownBy w2 (some g) :=
  ⟨k.os.trans h.os, k.tape.trans h.tape, k.output.trans h.output, Nat.le_trans h.size k.size, fun b hb hne => (k.block b (Nat.lt_of_lt_of_le hb h.size) hne).trans (h.block b hb hne)⟩
theorem gk_below {w w1 : World} {r : Option Nat} (h : Below w.heap.size w w1) : w.grownBy w1 r := ⟨h.os, h.tape, h.output, h.size, fun b hb _ => h.block b hb⟩
theorem gk_set (w : World) (g i : Nat) (u : Value) : w.grownBy (w.setCell ⟨g, i, none⟩ u) (some g) :=
  ⟨rfl, rfl, rfl, by simp [World.setCell], fun b _ hne => Below.heap_setCell _ _ _ _ (fun e => hne (by rw [e]))⟩
theorem gk_drew {w w1 : World} {r : Option Nat} (h : w.grownBy w1 r) : w.grownBy w1.drew r := ⟨h.os, h.tape, h.output, h.size, h.block⟩
theorem RowsN.drew {w : World} {base : Nat} {v : Value} {N : Nat} {L : List Nat} (h : RowsN w base v N L) : RowsN w.drew base v N L := h
theorem gk_refl (w : World) (r : Option Nat) : w.grownBy w r := ⟨rfl, rfl, rfl, Nat.le_refl _, fun _ _ _ => rfl⟩
theorem gk_box {w w1 : World} {g b : Nat} {t : TypeId} {cs : Array Value} (h : Box w b t cs) (k : w.grownBy w1 (some g)) (hne : b ≠ g) : Box w1 b t cs := (k.block b h.lt (fun e => hne (Option.some.inj e))).trans h
/-- The column put out of the first i rows. -/
def clearP (L : List Nat) (d c i : Nat) : List Nat := (List.range L.length).map fun j => if j < i ∧ j ≠ d ∧ (L.getD j 0).testBit c = true then L.getD j 0 ^^^ L.getD d 0 else L.getD j 0
theorem clearP_len (L : List Nat) (d c i : Nat) : (clearP L d c i).length = L.length := by simp [clearP]
theorem clearP_at (L : List Nat) (d c i j : Nat) (hj : j < L.length) : (clearP L d c i).getD j 0 = if j < i ∧ j ≠ d ∧ (L.getD j 0).testBit c = true then L.getD j 0 ^^^ L.getD d 0 else L.getD j 0 := by simp [clearP, List.getD, hj]
theorem clearP_zero (L : List Nat) (d c : Nat) : clearP L d c 0 = L := by
  apply List.ext_getElem (clearP_len _ _ _ _)
  intro j h1 h2
  simp [clearP, List.getD, h2]
theorem clearP_all (L : List Nat) (d c : Nat) : clearP L d c L.length = clearL L d c := by
  unfold clearP clearL
  apply List.map_congr_left
  intro j hj
  have : j < L.length := by simpa using hj
  simp [this]
theorem clearP_yes (L : List Nat) (d c i : Nat) (hi : i < L.length) (hd : i ≠ d) (hb : (L.getD i 0).testBit c = true) : clearP L d c (i + 1) = (clearP L d c i).set i (L.getD i 0 ^^^ L.getD d 0) := by
  apply List.ext_getElem (by simp [clearP])
  intro j h1 h2
  have hj : j < L.length := by rw [clearP_len] at h1; exact h1
  have a := clearP_at L d c (i + 1) j hj
  have b := clearP_at L d c i j hj
  rw [List.getElem_set]
  have e1 : (clearP L d c (i + 1)).getD j 0 = (clearP L d c (i + 1))[j] := by simp only [List.getD, List.getElem?_eq_getElem h1, Option.getD_some]
  have h3 : j < (clearP L d c i).length := by rw [clearP_len]; exact hj
  have e2 : (clearP L d c i).getD j 0 = (clearP L d c i)[j] := by simp only [List.getD, List.getElem?_eq_getElem h3, Option.getD_some]
  rw [← e1, a]
  by_cases e : i = j
  · subst e; rw [if_pos rfl, if_pos ⟨by omega, hd, hb⟩]
  · rw [if_neg e, ← e2, b]
    by_cases hl : j < i
    · simp only [hl, show j < i + 1 by omega]
    · simp only [hl, show ¬ j < i + 1 by omega]
theorem clearP_no (L : List Nat) (d c i : Nat) (h : ¬ (i ≠ d ∧ (L.getD i 0).testBit c = true)) : clearP L d c (i + 1) = clearP L d c i := by
  unfold clearP
  apply List.map_congr_left
  intro j hj
  by_cases e : j = i
  · subst e; rw [if_neg (fun k => h k.2), if_neg (fun k => h k.2)]
  · by_cases hl : j < i
    · simp only [hl, show j < i + 1 by omega]
    · simp only [hl, show ¬ j < i + 1 by omega]
theorem lt_all {N : Nat} {L : List Nat} (h : ∀ r ∈ L, r < 2 ^ N) (i : Nat) : L.getD i 0 < 2 ^ N := by
  by_cases hi : i < L.length
  · exact h _ (getD_mem hi)
  · have : L[i]? = none := List.getElem?_eq_none (by omega)
    simp only [List.getD, this, Option.getD_none]; exact Nat.two_pow_pos N
theorem clearP_lt {N : Nat} {L : List Nat} (h : ∀ i, L.getD i 0 < 2 ^ N) (d c k i : Nat) : (clearP L d c k).getD i 0 < 2 ^ N := by
  by_cases hi : i < L.length
  · rw [clearP_at L d c k i hi]
    split
    · exact Nat.xor_lt_two_pow (h i) (h d)
    · exact h i
  · have : (clearP L d c k)[i]? = none := List.getElem?_eq_none (by rw [clearP_len]; omega)
    simp only [List.getD, this, Option.getD_none]; exact Nat.two_pow_pos N
/-- The xor of two rows told by numbers. -/
theorem xor_num (N x y : Nat) (hN : N ≤ 512) (hx : x < 2 ^ N) (hy : y < 2 ^ N) (A B : Option Addr) (l c k d : Nat) (w : World) (hu : Words w A l (rowOf N x)) (hv : Words w B k (rowOf N y)) :
    Calls Tryd.prog 31 #[.agg #[.int .i64 (N : Int), .slice A l c], .agg #[.int .i64 (N : Int), .slice B k d]] w (OwnOut N (rowOf N (x ^^^ y)) w) := by
  have h := xor_own (N : Int) A B l c k d (rowOf N x) (rowOf N y) w hu hv (rowOf_right N x hN hx) (rowOf_right N y hN hy)
  rw [rowOf_xor] at h
  exact h
theorem set2_cell {w : World} {g i j : Nat} {x : Value} (h : w.cell? ⟨g, j, none⟩ = some x) (h1 : ¬ j = i) (h2 : ¬ j = i + 1) (u v : Value) : ((w.setCell ⟨g, i, none⟩ u).setCell ⟨g, i + 1, none⟩ v).cell? ⟨g, j, none⟩ = some x := by
  rw [World.cell?_setCell_other _ _ _ _ (by intro e; injection e; omega), World.cell?_setCell_other _ _ _ _ (by intro e; injection e; omega)]
  exact h
/-- What clear leaves. -/
def ClearOut (N base wb g cap : Nat) (L : List Nat) (d c : Nat) (w : World) (e : Ending) (w' : World) : Prop :=
  (∃ v, e = .returned v) ∧ Box w' wb 62 #[.int .i64 (N : Int), .slice (some ⟨g, 0, none⟩) L.length cap, .int .i64 ((d : Int) + 1)] ∧ RowsN w' base (.slice (some ⟨g, 0, none⟩) L.length cap) N (clearL L d c) ∧ w.grownBy w' (some g)
set_option maxHeartbeats 4000000 in
theorem clear_any (N : Nat) (hN : N ≤ 512) (L : List Nat) (hL : ∀ i, L.getD i 0 < 2 ^ N) (hlen : L.length ≤ 64) (base wb g cap d c : Nat) (hd : d < L.length) (hc : c < N) (hwg : wb ≠ g) (w : World)
    (hb : Box w wb 62 #[.int .i64 (N : Int), .slice (some ⟨g, 0, none⟩) L.length cap, .int .i64 ((d : Int) + 1)]) (hr : RowsN w base (.slice (some ⟨g, 0, none⟩) L.length cap) N L) (hg : g < w.heap.size) :
    Calls Tryd.prog 25 #[.pointer (some ⟨wb, 0, none⟩), .int .i64 (c : Int)] w (ClearOut N base wb g cap L d c w) := by
  have HBX := Lib.hid hb
  have HR := Lib.hid hr
  obtain ⟨b0, b1, b2, -, -, -⟩ := hb.three
  obtain ⟨-, -, -, -, -, hcap, hcm⟩ : ∃ (_ _ : Nat), True ∧ True ∧ True ∧ L.length ≤ cap ∧ cap ≤ maxLen := by
    obtain ⟨g', cap', hv, -, -, h1, h2⟩ := hr.form (by omega)
    injection hv with _ _ e3
    subst e3
    exact ⟨0, 0, trivial, trivial, trivial, h1, h2⟩
  unfold maxLen at hcm
  clear hb hr
  go_enter Tryd.func25, Tryd.ntmps25
  go_wp2_with fail
  clear b0 b1 b2
  go_loopw [17] (fun t wr => ∃ i : Nat, i ≤ L.length ∧ t = .int .i64 (i : Int) ∧ Box wr wb 62 #[.int .i64 (N : Int), .slice (some ⟨g, 0, none⟩) L.length cap, .int .i64 ((d : Int) + 1)] ∧ RowsN wr base (.slice (some ⟨g, 0, none⟩) L.length cap) N (clearP L d c i) ∧ Hid (w.grownBy wr (some g))) (fun t _ => L.length - (intOf t).toNat)
  case atStart => exact ⟨0, Nat.zero_le _, rfl, HBX.out, by rw [clearP_zero]; exact HR.out, Lib.hid (gk_refl _ _)⟩
  case round =>
    obtain ⟨i, hi, rfl, hbx, hrw, HG⟩ := hrel
    have HB := Lib.hid hbx
    have HRw := Lib.hid hrw
    clear hbx hrw HBX HR
    have HCL := Lib.hid (clearP_len L d c i)
    by_cases hlt : i < L.length
    · have hlt' : (i : Int) < (L.length : Int) := by omega
      obtain ⟨A, l, cc, x0, x1, ow, -, -⟩ := HRw.out.at (by rw [HCL.out]) i (by rw [HCL.out]; exact hlt)
      have hx := clearP_at L d c i i hlt
      rw [if_neg (fun k => Nat.lt_irrefl _ k.1)] at hx
      rw [hx] at ow
      clear hx
      -- the row's own variable
      have hal : Below wr.heap.size wr (wr.alloc (.cells #[.int .i64 (N : Int), .slice A l cc] 27)) := (Below.refl _ _).alloc (Nat.le_refl _) _
      have RB := Lib.hid (Box.new wr 27 #[.int .i64 (N : Int), .slice A l cc])
      have HB1 := Lib.hid (HB.out.keep hal)
      have HRw1 := Lib.hid (HRw.out.below hal)
      have HG1 := Lib.hid (gk_trans HG.out (gk_below hal))
      have OW1 := Lib.hid (ow.below hal)
      have hgs : wb < wr.heap.size := HB.out.lt
      clear ow
      obtain ⟨r0, r1, -, -⟩ := RB.out.two
      have HH := Lib.hid (has_any N (L.getD i 0) hN (hL i) A l cc c hc _ (OW1.out.words (rowOf_lt N _)))
      by_cases hid : i = d
      · have t1 : ((i : Int) != (d : Int)) = false := by simp [hid]
        have HNo := Lib.hid (clearP_no L d c i (fun k => k.1 hid))
        clear hid
        go_wp2_with fail
        go_roundw
        case rel => exact ⟨i + 1, by omega, by go_num, HB1.out, by rw [HNo.out]; exact HRw1.out, HG1⟩
        case measure => simp [intOf]; omega
      · have t1 : ((i : Int) != (d : Int)) = true := by simp; omega
        have HNE := Lib.hid hid
        clear hid
        cases hbit : (L.getD i 0).testBit c with
        | false =>
          rw [hbit] at HH
          have HNo := Lib.hid (clearP_no L d c i (fun k => by rw [hbit] at k; cases k.2))
          clear hbit
          go_wp2_with fail
          refine HH.out.mono ?_
          rintro e w1 ⟨rfl, hb⟩
          have HB2 := Lib.hid (HB1.out.keep hb)
          have HRw2 := Lib.hid (HRw1.out.below hb)
          have HG2 := Lib.hid (gk_trans HG1.out (gk_below hb))
          clear hb
          go_wp2_with fail
          go_roundw
          case rel => exact ⟨i + 1, by omega, by go_num, HB2.out, by rw [HNo.out]; exact HRw2.out, HG2⟩
          case measure => simp [intOf]; omega
        | true =>
          rw [hbit] at HH
          have HYes := Lib.hid (clearP_yes L d c i hlt HNE.out hbit)
          clear hbit
          go_wp2_with fail
          refine HH.out.mono ?_
          rintro e w1 ⟨rfl, hb⟩
          have HB2 := Lib.hid (HB1.out.keep hb)
          have HRw2 := Lib.hid (HRw1.out.below hb)
          have HG2 := Lib.hid (gk_trans HG1.out (gk_below hb))
          have RB2 := Lib.hid (RB.out.keep hb)
          have OW2 := Lib.hid (OW1.out.below hb)
          clear hb r0 r1 x0 x1
          obtain ⟨A2, l2, c2, y0, y1, ow2, -, -⟩ := HRw2.out.at (by rw [HCL.out]) d (by rw [HCL.out]; exact hd)
          have hx := clearP_at L d c i d hd
          rw [if_neg (fun k => k.2.1 rfl)] at hx
          rw [hx] at ow2
          clear hx
          have OW3 := Lib.hid ow2
          clear ow2
          obtain ⟨r0, r1, -, -⟩ := RB2.out.two
          obtain ⟨b0, b1, b2, -, -, -⟩ := HB2.out.three
          have HX := Lib.hid (fun W (h1 : Words W A l (rowOf N (L.getD i 0))) (h2 : Words W A2 l2 (rowOf N (L.getD d 0))) => xor_num N (L.getD i 0) (L.getD d 0) hN (hL i) (hL d) A A2 l cc l2 c2 W h1 h2)
          have WD1 := Lib.hid (show Words w1.drew A l (rowOf N (L.getD i 0)) from OW2.out.words (rowOf_lt N _))
          have WD2 := Lib.hid (show Words w1.drew A2 l2 (rowOf N (L.getD d 0)) from OW3.out.words (rowOf_lt N _))
          have HV := Lib.hid (show Value.slice (some ⟨g, 0, none⟩) L.length cap = .slice (some ⟨g, 0, none⟩) (clearP L d c i).length cap by rw [HCL.out])
          have HGl := Lib.hid (show g < w1.drew.heap.size from Nat.lt_of_lt_of_le hg HG2.out.size)
          have HI1 := Lib.hid (show i < (clearP L d c i).length by rw [HCL.out]; exact hlt)
          have hdc : (d : Int) < (L.length : Int) := by omega
          have hgr : g < wr.heap.size := Nat.lt_of_lt_of_le hg HG.out.size
          have n1 : ¬ d * 2 = i * 2 := by have := HNE.out; omega
          have n2 : ¬ d * 2 = i * 2 + 1 := by omega
          have n3 : ¬ d * 2 + 1 = i * 2 := by omega
          have n4 : ¬ d * 2 + 1 = i * 2 + 1 := by have := HNE.out; omega
          have n5 : ¬ wb = g := hwg
          have n6 : ¬ wr.heap.size = g := by omega
          have m1 : ¬ i * 2 = d * 2 := by have := HNE.out; omega
          have m2 : ¬ i * 2 + 1 = d * 2 := by omega
          have m3 : ¬ i * 2 = d * 2 + 1 := by omega
          have m4 : ¬ i * 2 + 1 = d * 2 + 1 := by have := HNE.out; omega
          have m5 : ¬ g = wb := fun e => hwg e.symm
          have m6 : ¬ g = wr.heap.size := by omega
          go_wp2_with fail
          go_region_held3 (fun w' => w'.cell? ⟨wb, 1, none⟩ = some (.slice (some ⟨g, 0, none⟩) L.length cap) ∧ w'.cell? ⟨wr.heap.size, 0, none⟩ = some (.int .i64 (N : Int)) ∧ w'.cell? ⟨wr.heap.size, 1, none⟩ = some (.slice A l cc) ∧ w'.cell? ⟨g, d * 2, none⟩ = some (.int .i64 (N : Int)) ∧ w'.cell? ⟨g, d * 2 + 1, none⟩ = some (.slice A2 l2 c2)) (go_keep)
            (first | (go_at_call 31; refine (HX.out _ WD1.out WD2.out).mono ?_; rintro f1 y1' ⟨A3, l3, c3, rfl, ow3, hb⟩; have HB3 := Lib.hid (HB2.out.drew.keep hb); have HRw3 := Lib.hid (HRw2.out.drew.below hb); have HG3 := Lib.hid (gk_trans (gk_drew HG2.out) (gk_below hb)); have RB3 := Lib.hid (RB2.out.drew.keep hb); have OW4 := Lib.hid ow3; have q0 := (hb.cell (p := ⟨g, d * 2, none⟩) HGl.out).trans y0; have q1 := (hb.cell (p := ⟨g, d * 2 + 1, none⟩) HGl.out).trans y1; clear ow3 hb; obtain ⟨s0, s1, -, -⟩ := RB3.out.two; obtain ⟨p0, p1, p2, -, -, -⟩ := HB3.out.three; obtain ⟨A5, l5, c5, z0, z1, -, zf0, zf1⟩ := HRw3.out.at HV.out i HI1.out; have k0 := set2_cell q0 n1 n2 (.int .i64 (N : Int)) (.slice A3 l3 c3); have k1 := set2_cell q1 n3 n4 (.int .i64 (N : Int)) (.slice A3 l3 c3)))
          clear k0 k1 q0 q1
          go_wp2_with fail
          go_roundw
          case rel =>
            have hput := RowsN.put (L := clearP L d c i) (by rw [HCL.out]; exact HRw3.out) i HI1.out (L.getD i 0 ^^^ L.getD d 0) OW4.out
            rw [← HYes.out, HCL.out] at hput
            exact ⟨i + 1, by omega, by go_num, (HB3.out.far (p := ⟨g, i * 2, none⟩) hwg _).far (p := ⟨g, i * 2 + 1, none⟩) hwg _, hput, Lib.hid (gk_trans (gk_trans HG3.out (gk_set _ g (i * 2) _)) (gk_set _ g (i * 2 + 1) _))⟩
          case measure => simp [intOf]; omega
    · obtain rfl : i = L.length := by omega
      have hlt' : ¬ (L.length : Int) < (L.length : Int) := by omega
      have hrw := HRw.out
      rw [clearP_all] at hrw
      go_wp2_with fail
      go_end0
      exact ⟨⟨_, rfl⟩, HB.out, hrw, HG.out⟩
end
end Go.Proofs.YtdfmogcgangdnaaDoor
