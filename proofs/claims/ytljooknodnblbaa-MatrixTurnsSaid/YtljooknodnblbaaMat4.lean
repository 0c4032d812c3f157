/- Contracts of layer 3: slices.EqualFunc at rows, Like, rowsBy. -/
import Derived.Test.YtljooknodnblbaaMat3
import Derived.Test.YtljooknodnblbaaOwnR
import Derived.Shelf.Abstract
namespace Go.Proofs.Ytljooknodnblbaa
set_option linter.unusedVariables false
set_option linter.unusedSimpArgs false
open Go.RowKit
set_option maxHeartbeats 2000000 in
theorem equalFunc_any (A1 A2 : Option Addr) (n m c1 c2 l1 l2 : Nat) (ms ks : List (Int × List Nat)) (w : World) (h1 : MatAt w l1 A1 n ms) (h2 : MatAt w l2 A2 m ks) (hl : n ≤ 1000000) (hr : ∀ j, (ms.getD j (0, [])).2.length ≤ 1000000) :
    Calls Try.prog 20 #[.slice A1 n c1, .slice A2 m c2, .func (.func 21) #[] #[]] w fun e w' => e = .returned (.bool (ms == ks)) ∧ Below w.heap.size w w' := by
  have M1 := Lib.hid h1
  have M2 := Lib.hid h2
  have HL1 := Lib.hid h1.1
  have HL2 := Lib.hid h2.1
  have HR := Lib.hid hr
  clear h1 h2 hr
  by_cases hn : n = m
  · subst hn
    have t2 : (((n : Nat) : Int) != ((n : Nat) : Int)) = false := by simp
    go_enter Try.func20, Try.ntmps20
    go_wp2_with fail
    clear t2
    go_loopw [17] (fun t wr => ∃ i : Nat, i ≤ n ∧ t = .int .i64 i ∧ Hid (ms.take i = ks.take i) ∧ Below w.heap.size w wr) (fun t _ => n - (intOf t).toNat)
    case atStart => exact ⟨0, by omega, rfl, Lib.hid (by simp), Below.refl _ _⟩
    case round =>
      obtain ⟨i, hi, rfl, HT, hbel⟩ := hrel
      have HB := Lib.hid hbel
      clear hbel
      by_cases hlt : i < n
      · have hlt' : (i : Int) < (n : Int) := by omega
        have h1 := (M1.out.below HB.out)
        have h2 := (M2.out.below HB.out)
        obtain ⟨g1, o1, B1, k1, e1, rfl, hg1, x1, y1, s1, u1⟩ := h1.at i hlt
        obtain ⟨g2, o2, B2, k2, e2, rfl, hg2, x2, y2, s2, u2⟩ := h2.at i hlt
        clear h1 h2
        have O1 := Lib.hid u1
        have O2 := Lib.hid u2
        have HK := Lib.hid (HR.out i)
        have HTS := Lib.hid (take_same ms ks (0, []) i (by rw [HL1.out]; exact hlt) (by rw [HL2.out]; exact hlt) HT.out)
        have HTN := Lib.hid (show ms = ks → ms.getD i (0, []) = ks.getD i (0, []) from fun e => by rw [e])
        generalize hp1 : ms.getD i (0, []) = p1 at *
        generalize hp2 : ks.getD i (0, []) = p2 at *
        clear hp1 hp2
        obtain ⟨n1, us⟩ := p1
        obtain ⟨n2, vs⟩ := p2
        simp only at x1 y1 x2 y2 O1 O2 HK
        clear u1 u2 s1 s2
        have hX : Below wr.heap.size wr ((wr.alloc (.cells #[.int .i64 n1, .slice B1 k1 e1] 37)).alloc (.cells #[.int .i64 n2, .slice B2 k2 e2] 37)) := ((Below.refl _ _).alloc (Nat.le_refl _) _).alloc (by simp) _
        have x2' : (wr.alloc (.cells #[.int .i64 n1, .slice B1 k1 e1] 37)).cell? ⟨g2, o2 + i * 2, none⟩ = some (.int .i64 n2) := (((Below.refl wr.heap.size wr).alloc (Nat.le_refl _) _).cell (p := ⟨g2, o2 + i * 2, none⟩) hg2).trans x2
        have y2' : (wr.alloc (.cells #[.int .i64 n1, .slice B1 k1 e1] 37)).cell? ⟨g2, o2 + i * 2 + 1, none⟩ = some (.slice B2 k2 e2) := (((Below.refl wr.heap.size wr).alloc (Nat.le_refl _) _).cell (p := ⟨g2, o2 + i * 2 + 1, none⟩) hg2).trans y2
        have P0 := (Box.new wr 37 #[.int .i64 n1, .slice B1 k1 e1]).alloc (.cells #[.int .i64 n2, .slice B2 k2 e2] 37)
        have P1 := Box.new (wr.alloc (.cells #[.int .i64 n1, .slice B1 k1 e1] 37)) 37 #[.int .i64 n2, .slice B2 k2 e2]
        simp only [World.size_alloc] at P1
        have HX := Lib.hid (HB.out.trans (hX.mono HB.out.size))
        have HSame := Lib.hid (like_any n1 n2 B1 B2 k1 e1 k2 e2 us vs _ (O1.out.below hX) (O2.out.below hX) (by have := O1.out.1; have := HK.out; omega))
        obtain ⟨p00, p01, -, -⟩ := P0.two
        obtain ⟨p10, p11, -, -⟩ := P1.two
        clear P0 P1 hX
        cases hsb : sameB n1 us n2 vs with
        | true =>
          rw [hsb] at HSame
          have HEq := Lib.hid (show ((n1, us) : Int × List Nat) = (n2, vs) by
            simp only [sameB, Bool.and_eq_true, beq_iff_eq] at hsb
            rw [hsb.1, hsb.2])
          clear hsb
          go_wp2_with fail
          refine HSame.out.mono ?_
          rintro ee ww ⟨rfl, hb⟩
          have HC := Lib.hid (chain HX.out hb)
          clear hb
          go_wp2_with fail
          go_roundw
          case rel => exact ⟨i + 1, by omega, by go_num, Lib.hid (HTS.out HEq.out), HC.out⟩
          case measure => simp [intOf] <;> omega
        | false =>
          rw [hsb] at HSame
          have HF := Lib.hid (show (ms == ks) = false by
            rw [beq_eq_false_iff_ne]
            intro e
            have := HTN.out e
            injection this with e1 e2
            rw [e1, e2] at hsb
            simp [sameB] at hsb)
          clear hsb
          go_wp2_with fail
          refine HSame.out.mono ?_
          rintro ee ww ⟨rfl, hb⟩
          have HC := Lib.hid (chain HX.out hb)
          clear hb
          go_wp2_with fail
          go_ret
          exact ⟨by rw [HF.out]; rfl, HC.out⟩
      · obtain rfl : i = n := by omega
        have hlt' : ¬ (i : Int) < (i : Int) := by omega
        have HE := Lib.hid (show (ms == ks) = true by
          have := HT.out
          rw [List.take_of_length_le (by rw [HL1.out]; omega), List.take_of_length_le (by rw [HL2.out]; omega)] at this
          simp [this])
        go_wp2
        go_ret
        exact ⟨by rw [HE.out]; rfl, HB.out⟩
  · have t2 : (((n : Nat) : Int) != ((m : Nat) : Int)) = true := by rw [bne_iff_ne]; omega
    have HF := Lib.hid (show (ms == ks) = false by
      rw [beq_eq_false_iff_ne]
      intro e
      apply hn
      rw [← HL1.out, ← HL2.out, e])
    go_enter Try.func20, Try.ntmps20
    go_wp2
    go_ret
    exact ⟨by rw [HF.out]; rfl, Below.refl _ _⟩
theorem mlike_any (N M : Int) (A1 A2 : Option Addr) (n m c1 c2 l1 l2 : Nat) (ms ks : List (Int × List Nat)) (w : World) (h1 : MatAt w l1 A1 n ms) (h2 : MatAt w l2 A2 m ks) (hl : n ≤ 1000000) (hr : ∀ j, (ms.getD j (0, [])).2.length ≤ 1000000) :
    Calls Try.prog 9 #[.agg #[.int .i64 N, .slice A1 n c1], .agg #[.int .i64 M, .slice A2 m c2]] w fun e w' => e = .returned (.bool (sameM N ms M ks)) ∧ Below w.heap.size w w' := by
  have hW : Below w.heap.size w ((w.alloc (.cells #[.int .i64 N, .slice A1 n c1] 24)).alloc (.cells #[.int .i64 M, .slice A2 m c2] 24)) := ((Below.refl _ _).alloc (Nat.le_refl _) _).alloc (by simp) _
  have HF := Lib.hid (equalFunc_any A1 A2 n m c1 c2 l1 l2 ms ks _ (h1.below hW) (h2.below hW) hl hr)
  have HW := Lib.hid hW
  clear h1 h2 hW hr
  by_cases h : N = M
  · have t : (N == M) = true := by simpa using h
    have HE : Hid (sameM N ms M ks = (ms == ks)) := by
      show sameM N ms M ks = _
      unfold sameM
      rw [t, Bool.true_and]
    clear h
    generalize (ms == ks) = b at *
    go_enter Try.func9, Try.ntmps9
    go_wp2_with fail
    refine HF.out.mono ?_
    rintro e x1 ⟨rfl, hb⟩
    have HB := Lib.hid (chain HW.out hb)
    clear hb
    go_wp2
    go_ret
    exact ⟨by rw [HE.out]; rfl, HB.out⟩
  · have t : (N == M) = false := by simpa using h
    have HE : Hid (sameM N ms M ks = false) := by
      show sameM N ms M ks = _
      unfold sameM
      rw [t, Bool.false_and]
    go_enter Try.func9, Try.ntmps9
    go_wp2
    go_ret
    exact ⟨by rw [HE.out]; rfl, HW.out⟩
/-- Rows as cells: how many bits, and the slice of words. -/
abbrev RowV := Int × Option Addr × Nat × Nat
def rowCells (rs : List RowV) : List Value := rs.flatMap fun r => [.int .i64 r.1, .slice r.2.1 r.2.2.1 r.2.2.2]
theorem rowCells_cons (r : RowV) (rs : List RowV) : rowCells (r :: rs) = .int .i64 r.1 :: .slice r.2.1 r.2.2.1 r.2.2.2 :: rowCells rs := rfl
theorem rowCells_len (rs : List RowV) : (rowCells rs).length = rs.length * 2 := by
  induction rs with
  | nil => rfl
  | cons r rs ih => rw [rowCells_cons, List.length_cons, List.length_cons, List.length_cons, ih]; omega
theorem rowCells_snoc (rs : List RowV) (r : RowV) : rowCells (rs ++ [r]) = rowCells rs ++ [.int .i64 r.1, .slice r.2.1 r.2.2.1 r.2.2.2] := by simp [rowCells]
theorem rowCells_at (rs : List RowV) (j : Nat) (hj : j < rs.length) : (rowCells rs)[j * 2]? = some (.int .i64 (rs.getD j (0, none, 0, 0)).1) ∧ (rowCells rs)[j * 2 + 1]? = some (.slice (rs.getD j (0, none, 0, 0)).2.1 (rs.getD j (0, none, 0, 0)).2.2.1 (rs.getD j (0, none, 0, 0)).2.2.2) := by
  induction rs generalizing j with
  | nil => cases hj
  | cons r rs ih =>
    cases j with
    | zero => rw [rowCells_cons]; exact ⟨rfl, rfl⟩
    | succ j =>
      have h := ih j (by simpa using hj)
      rw [rowCells_cons, show (j + 1) * 2 = j * 2 + 1 + 1 by omega]
      exact h
theorem rowCells_set (rs : List RowV) (j : Nat) (r : RowV) : ((rowCells rs).set (j * 2) (.int .i64 r.1)).set (j * 2 + 1) (.slice r.2.1 r.2.2.1 r.2.2.2) = rowCells (rs.set j r) := by
  induction rs generalizing j with
  | nil => simp [rowCells]
  | cons q rs ih =>
    cases j with
    | zero => rw [rowCells_cons]; rfl
    | succ j =>
      rw [rowCells_cons, List.set_cons_succ, rowCells_cons, ← ih j, show (j + 1) * 2 = j * 2 + 1 + 1 by omega]
      rfl
theorem rowCells_made (n : Nat) : (madeCells #[.int .i64 0, .slice none 0 0] (n * 2)) = (rowCells (List.replicate n (0, none, 0, 0))).toArray := by
  apply Array.toList_inj.1
  show _ = rowCells _
  unfold madeCells
  rw [Array.toList_map, Array.toList_range]
  induction n with
  | zero => rfl
  | succ n ih =>
    rw [show (n + 1) * 2 = n * 2 + 1 + 1 by omega, List.range_succ, List.range_succ, List.map_append, List.map_append, ih, List.replicate_succ', rowCells_snoc]
    have e1 : n * 2 % 2 = 0 := by omega
    have e2 : (n * 2 + 1) % 2 = 1 := by omega
    simp [e1, e2]
theorem row_infoM : (Try.prog.info? 37).map (fun i => (i.zero, i.size, i.bytes)) = some (some (.agg #[.int .i64 0, .slice none 0 0]), 2, 32) := by kernel_rfl
theorem makeRows_any (n : Nat) (hn : n ≤ 1000000) (w : World) :
    (Instr.makeSlice 22 (.int .i64 (n : Int)) (.int .i64 (n : Int))).run Try.prog w = .ok (.slice (some ⟨w.heap.size, 0, none⟩) n n) (w.alloc (.cells (rowCells (List.replicate n (0, none, 0, 0))).toArray 37)) := by
  obtain ⟨i0, hi, hz0, hz1, hz2⟩ := info_parts row_infoM
  have hr := run_make (P := Try.prog) w _ _ i0 _ Try.underlying22 hi hz0 .i64 .i64 n n (by omega) (by omega) (by rw [hz2]; omega) (by omega)
  simp only [Int.toNat_natCast, hz1] at hr
  rw [hr, ← rowCells_made]
  rfl
/-- A block of rows reads these. -/
theorem Box.rows {w : World} {g : Nat} {t : TypeId} {rs : List RowV} (h : Box w g t (rowCells rs).toArray) {N : Int} {f : Nat → List Nat} (hf : ∀ j, j < rs.length → (rs.getD j (0, none, 0, 0)).1 = N ∧ SliceOk (rs.getD j (0, none, 0, 0)).2.1 (rs.getD j (0, none, 0, 0)).2.2.1 (rs.getD j (0, none, 0, 0)).2.2.2 ∧ Words w (rs.getD j (0, none, 0, 0)).2.1 (rs.getD j (0, none, 0, 0)).2.2.1 (f j)) {lo : Nat} (hg : lo ≤ g) :
    MatAt w lo (some ⟨g, 0, none⟩) rs.length ((List.range rs.length).map fun i => (N, f i)) := by
  refine ⟨by simp, fun _ => ⟨g, 0, rfl, hg, h.lt, fun j hj => ?_⟩⟩
  obtain ⟨h1, h2, h3⟩ := hf j hj
  obtain ⟨c1, c2⟩ := rowCells_at rs j hj
  have e : ((List.range rs.length).map fun i => ((N, f i) : Int × List Nat)).getD j (0, []) = (N, f j) := by simp [List.getD, hj]
  rw [e, Nat.zero_add]
  refine ⟨_, _, _, ?_, ?_, h2, h3⟩
  · rw [h.cell, List.getElem?_toArray, c1, h1]
  · rw [h.cell, List.getElem?_toArray, c2]
theorem OwnW.ok {w : World} {A : Option Addr} {l c : Nat} {zs : List Nat} (h : OwnW w A l c zs) : SliceOk A l c := by
  rcases h.2 with ⟨hv, h0⟩ | ⟨g, cap, cur, hv, hb, hh, hn, hm, hs, hx⟩
  · injection hv with e1 e2 e3
    subst e1 e2 e3
    exact ⟨Nat.le_refl _, Nat.zero_le _, fun _ => ⟨rfl, rfl⟩⟩
  · injection hv with e1 e2 e3
    subst e1 e3
    exact ⟨hn, hm, fun h => by cases h⟩
/-- What rowsBy asks of its function. -/
def RowsAsk (fn : Nat) (pre cb : Array Value) (many : Nat) (N : Int) (f : Nat → List Nat) (w : World) : Prop :=
  ∀ (W : World) (i : Nat), i < many → Below w.heap.size w W → Calls Try.prog fn (pre ++ #[.int .i64 i] ++ cb) W (OneOwn N (f i) W)
/-- What rowsBy hands back. -/
def MatsOut (N : Int) (f : Nat → List Nat) (many : Nat) (w : World) (e : Ending) (w' : World) : Prop :=
  ∃ g, e = .returned (.slice (some ⟨g, 0, none⟩) many many) ∧ w.heap.size ≤ g ∧ MatAt w' w.heap.size (some ⟨g, 0, none⟩) many ((List.range many).map fun i => (N, f i)) ∧ Below w.heap.size w w'
set_option maxHeartbeats 2000000 in
theorem rowsBy_any (fn : Nat) (pre cb : Array Value) (many : Nat) (N : Int) (f : Nat → List Nat) (w : World) (eg : ∀ args w, (callFunc fn args).run Try.prog w = .ok (.enter fn args) w) (hm : many ≤ 64) (hf : RowsAsk fn pre cb many N f w) (hz : ∀ i j, (f i).getD j 0 < 18446744073709551616) :
    Calls Try.prog 14 #[.int .i64 many, .func (.func fn) pre cb] w (MatsOut N f many w) := by
  have mk := makeRows_any many (by omega) w
  have BX := Lib.hid (Box.new w 37 (rowCells (List.replicate many (0, none, 0, 0))).toArray)
  have HW := Lib.hid (show Below w.heap.size w (w.alloc (.cells (rowCells (List.replicate many (0, none, 0, 0))).toArray 37)) from (Below.refl _ _).alloc (Nat.le_refl _) _)
  have HF := Lib.hid hf
  have HZ := Lib.hid hz
  clear hf hz
  go_enter Try.func14, Try.ntmps14
  go_wp2_with fail
  generalize w.alloc (.cells (rowCells (List.replicate many (0, none, 0, 0))).toArray 37) = W at *
  clear mk
  go_loopw [11] (fun t wr => ∃ (i : Nat) (rs : List RowV), i ≤ many ∧ t = .int .i64 i ∧ rs.length = many ∧ Box wr w.heap.size 37 (rowCells rs).toArray ∧ Hid (∀ j, j < i → (rs.getD j (0, none, 0, 0)).1 = N ∧ OwnW wr (rs.getD j (0, none, 0, 0)).2.1 (rs.getD j (0, none, 0, 0)).2.2.1 (rs.getD j (0, none, 0, 0)).2.2.2 (f j)) ∧ Below w.heap.size w wr) (fun t _ => many - (intOf t).toNat)
  case atStart => exact ⟨0, _, by omega, rfl, by simp, BX.out, Lib.hid (fun j hj => absurd hj (Nat.not_lt_zero _)), HW.out⟩
  case round =>
    obtain ⟨i, rs, hi, rfl, hrs, hbx, HR, hbel⟩ := hrel
    have R := Lib.hid hbx
    have HB := Lib.hid hbel
    have HL := Lib.hid hrs
    clear hbx hbel BX HW hrs
    by_cases hlt : i < many
    · have hlt' : (i : Int) < (many : Int) := by omega
      go_wp2_with fail
      refine (HF.out _ i hlt HB.out).mono ?_
      rintro e x1 ⟨A1, l1, c1, rfl, hw, hb⟩
      have R1 := Lib.hid (R.out.keep hb)
      have HB1 := Lib.hid (chain HB.out hb)
      have HW1 := Lib.hid hw
      have HR1 := Lib.hid (fun j hj => And.intro (HR.out j hj).1 ((HR.out j hj).2.below hb))
      clear hb hw
      obtain ⟨q1, q2⟩ := rowCells_at rs i (by rw [HL.out]; exact hlt)
      have c0 : x1.cell? ⟨w.heap.size, i * 2, none⟩ = some (.int .i64 (rs.getD i (0, none, 0, 0)).1) := by rw [R1.out.cell, List.getElem?_toArray, q1]
      have d0 : x1.cell? ⟨w.heap.size, i * 2 + 1, none⟩ = some (.slice (rs.getD i (0, none, 0, 0)).2.1 (rs.getD i (0, none, 0, 0)).2.2.1 (rs.getD i (0, none, 0, 0)).2.2.2) := by rw [R1.out.cell, List.getElem?_toArray, q2]
      have f0 := R1.out.free (i * 2)
      have f1 := R1.out.free (i * 2 + 1)
      clear q1 q2
      go_wp2_with fail
      go_roundw
      case rel =>
        refine ⟨i + 1, rs.set i (N, A1, l1, c1), by omega, by go_num, by simp [HL.out], ?_, Lib.hid (fun j hj => ?_), (HB1.out.setCell (p := ⟨w.heap.size, i * 2, none⟩) (Nat.le_refl _) _).setCell (p := ⟨w.heap.size, i * 2 + 1, none⟩) (Nat.le_refl _) _⟩
        · have h := (R1.out.put (i * 2) (.int .i64 N)).put (i * 2 + 1) (.slice A1 l1 c1)
          have e2 := rowCells_set rs i (N, A1, l1, c1)
          simp only at e2
          rw [← e2]
          simpa using h
        · by_cases hji : j = i
          · subst hji
            have e1 : (rs.set j (N, A1, l1, c1)).getD j (0, none, 0, 0) = (N, A1, l1, c1) := by simp [List.getD, HL.out, hlt]
            rw [e1]
            exact ⟨rfl, (HW1.out.far R1.out (by decide) _ _).far (R1.out.put _ _) (by decide) _ _⟩
          · have e1 : (rs.set i (N, A1, l1, c1)).getD j (0, none, 0, 0) = rs.getD j (0, none, 0, 0) := by
              simp only [List.getD]
              rw [List.getElem?_set_ne (by omega)]
            rw [e1]
            obtain ⟨a1, a2⟩ := HR1.out j (by omega)
            exact ⟨a1, (a2.far R1.out (by decide) _ _).far (R1.out.put _ _) (by decide) _ _⟩
      case measure => simp [intOf] <;> omega
    · obtain rfl : i = many := by omega
      have hlt' : ¬ (i : Int) < (i : Int) := by omega
      go_wp2
      go_ret
      have h := R.out.rows (N := N) (f := f) (fun j hj => by
        obtain ⟨a1, a2⟩ := HR.out j (by rw [← HL.out]; exact hj)
        exact ⟨a1, a2.ok, a2.words (HZ.out j)⟩) (Nat.le_refl _)
      rw [HL.out] at h
      exact ⟨_, rfl, Nat.le_refl _, h, HB.out⟩
end Go.Proofs.Ytljooknodnblbaa
