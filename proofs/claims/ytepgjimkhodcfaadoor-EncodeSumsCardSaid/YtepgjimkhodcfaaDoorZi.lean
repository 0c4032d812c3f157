/- Parts: Enc1, RefD1, RefD2, RefD3, RefD4, RefD5, Deg3, Nb2. -/
import Derived.Test.YtepgjimkhodcfaaDoorZh
import Derived.ArgAppend
import Derived.Deep.RegionHeld3
namespace Go.Proofs.YtepgjimkhodcfaaDoor
section
/- Contracts of layer 9: mayBe, Make, Many. -/
set_option linter.unusedVariables false
set_option linter.unusedSimpArgs false
open Go.RowKit
/-- May source blocks be? -/
def mayS (ss : List ByteArray) : Bool := decide (1 ≤ ss.length) && okS ((ss.getD 0 ByteArray.empty).size : Nat) ss
/-- The sum that a symbol has. -/
def symS (ss : List ByteArray) (id : Nat) : ByteArray := pickS ((ss.getD 0 ByteArray.empty).size : Nat) ss ss.length (nbRow ss.length id)
theorem mayS_parts {ss : List ByteArray} (h : mayS ss = true) : 1 ≤ ss.length ∧ ss.length ≤ 64 ∧ okS ((ss.getD 0 ByteArray.empty).size : Nat) ss = true := by
  simp only [mayS, Bool.and_eq_true, decide_eq_true_eq] at h
  have h2 := h.2
  simp only [okS, Bool.and_eq_true, decide_eq_true_eq] at h2
  exact ⟨h.1, h2.2, h.2⟩
theorem Texts.zero {w : World} {A : Option Addr} {l : Nat} {ss : List ByteArray} (h : Texts w A l ss) (h0 : 0 < l) : ∃ b off, A = some ⟨b, off, none⟩ ∧ b < w.heap.size ∧ w.cell? ⟨b, off, none⟩ = some (.string (ss.getD 0 ByteArray.empty)) := by
  obtain ⟨b, off, rfl, hlt, hc⟩ := h.2.2 h0
  exact ⟨b, off, rfl, hlt, hc 0 h0⟩
set_option maxHeartbeats 1000000 in
theorem encMay_any (A : Option Addr) (l c : Nat) (ss : List ByteArray) (w : World) (ht : Texts w A l ss) (hlc : l ≤ c) (hcm : c ≤ maxLen) :
    Calls Tryd.prog 22 #[.slice A l c] w fun e w' => e = .returned (.bool (mayS ss)) ∧ Below w.heap.size w w' := by
  by_cases h0 : l = 0
  · subst h0
    have e : mayS ss = false := by simp [mayS, ht.1]
    rw [e]
    clear e
    go_enter Tryd.func22, Tryd.ntmps22
    go_wp2
    go_ret
    exact ⟨rfl, Below.refl _ _⟩
  · obtain ⟨b, off, rfl, hb, c0⟩ := ht.zero (by omega)
    have HS := Lib.hid (sum_any ((ss.getD 0 ByteArray.empty).size : Nat) (some ⟨b, off, none⟩) l c ss w ht hlc hcm)
    have hm := ht.2.1 0
    have HE := Lib.hid (show mayS ss = okS ((ss.getD 0 ByteArray.empty).size : Nat) ss by
      have : decide (1 ≤ ss.length) = true := by rw [ht.1]; simp; omega
      rw [mayS, this, Bool.true_and])
    unfold maxLen at hm hcm
    have t0 : ((l : Int) == 0) = false := by simpa using h0
    have g1 : (0 : Int) < l := by omega
    have h0' : 0 < l := by omega
    cases ho : okS ((ss.getD 0 ByteArray.empty).size : Nat) ss with
    | false =>
      have HW := Lib.hid (sumE_no ho)
      rw [ho] at HE
      clear ht ho
      generalize ss.getD 0 ByteArray.empty = s at *
      go_enter Tryd.func22, Tryd.ntmps22
      go_wp2_with fail
      refine HS.out.mono ?_
      rw [HW.out]
      rintro e w1 ⟨rfl, hb⟩
      have B := Lib.hid hb
      clear hb
      go_wp2_with fail
      go_ret
      exact ⟨by rw [HE.out]; rfl, B.out⟩
    | true =>
      have HW := Lib.hid (sumE_ok ho)
      rw [ho] at HE
      clear ht ho
      generalize ss.getD 0 ByteArray.empty = s at *
      go_enter Tryd.func22, Tryd.ntmps22
      go_wp2_with fail
      refine HS.out.mono ?_
      rw [HW.out]
      rintro e w1 ⟨rfl, hb⟩
      have B := Lib.hid hb
      clear hb
      go_wp2_with fail
      go_ret
      exact ⟨by rw [HE.out]; rfl, B.out⟩
/-- A symbol and an error are returned. -/
def SymOut (i : Nat) (s : ByteArray) (er : Int) (w : World) (e : Ending) (w' : World) : Prop := e = .returned (.tuple #[.agg #[.int .u64 (i : Int), .string s], .int .i64 er]) ∧ Below w.heap.size w w'
theorem symE_ok {ss : List ByteArray} (h : mayS ss = true) (id : Nat) : pickE ((ss.getD 0 ByteArray.empty).size : Nat) ss ss.length (nbRow ss.length id) = 0 := by
  obtain ⟨h1, h2, h3⟩ := mayS_parts h
  have e : ((ss.length : Int) == (ss.length : Int)) = true := by simp
  unfold pickE
  rw [h3, nb_right ss.length id h1 h2, e]; rfl
set_option maxRecDepth 100000 in
set_option maxHeartbeats 2000000 in
theorem encMake_yes (A : Option Addr) (l c : Nat) (ss : List ByteArray) (id : Nat) (w : World) (ht : Texts w A l ss) (hlc : l ≤ c) (hcm : c ≤ maxLen) (hi : id < 18446744073709551616) (hT : TabAt w 1) (hm : mayS ss = true) :
    Calls Tryd.prog 14 #[.slice A l c, .int .u64 id] w (SymOut id (symS ss id) 0 w) := by
  obtain ⟨h1, h2, h3⟩ := mayS_parts hm
  have hlen := ht.1
  have hW : Below w.heap.size w (w.alloc (.cells #[.int .u64 0, .string ⟨#[]⟩] 38)) := (Below.refl _ _).alloc (Nat.le_refl _) _
  have Q0 := Lib.hid (Box.new w 38 #[.int .u64 0, .string ⟨#[]⟩])
  have HM := Lib.hid (encMay_any A l c ss _ (ht.below hW) hlc hcm)
  rw [hm] at HM
  obtain ⟨b, off, rfl, hb, c0⟩ := ht.zero (by omega)
  have HTx := Lib.hid ht
  have HT := Lib.hid hT
  have HW := Lib.hid hW
  have HC := Lib.hid c0
  have HB := Lib.hid hb
  have HRow := Lib.hid (row_yes l id (by omega) (by omega) hi)
  have HE := Lib.hid (symE_ok hm id)
  have HSy := Lib.hid (show symS ss id = pickS ((ss.getD 0 ByteArray.empty).size : Nat) ss l (nbRow l id) by rw [symS, hlen])
  rw [hlen] at HE
  have hm0 := ht.2.1 0
  unfold maxLen at hm0
  have g1 : (0 : Int) < l := by omega
  have h0' : 0 < l := by omega
  clear ht hT hW hb h1 h2 h3 hm
  go_enter Tryd.func14, Tryd.ntmps14
  go_wp2_with fail
  refine HM.out.mono ?_
  rintro e w1 ⟨rfl, hb⟩
  have Q := Lib.hid (Q0.out.keep hb)
  have B := Lib.hid (chainN HW.out HW.out.size hb)
  clear hb
  go_wp2_with fail
  refine (HRow.out _).mono ?_
  rintro e w2 ⟨A2, l2, c2, rfl, hw, hb⟩
  have Q := Lib.hid ((Q.out.keep hb).alloc (.cells #[.int .i64 l, .slice A2 l2 c2] 58))
  have B2 := Lib.hid (chainN B.out B.out.size hb)
  have B := Lib.hid (B2.out.alloc B2.out.size (.cells #[.int .i64 l, .slice A2 l2 c2] 58))
  have R := Lib.hid (Box.new w2 58 #[.int .i64 l, .slice A2 l2 c2])
  have HWd := Lib.hid (hw.alloc (.cells #[.int .i64 l, .slice A2 l2 c2] 58))
  clear hb hw
  have HP := Lib.hid (pick_any ((ss.getD 0 ByteArray.empty).size : Nat) (some ⟨b, off, none⟩) l c ss l A2 l2 c2 (nbRow l id) (w2.alloc (.cells #[.int .i64 l, .slice A2 l2 c2] 58)).drew ((HTx.out.mono (Nat.le_refl _) B.out).drewT) hlc hcm HWd.out.drew (show TabAt (World.drew _) 1 from HT.out.below B.out.drew))
  rw [HE.out, ← HSy.out] at HP
  have LB := Lib.hid (show b < (w2.alloc (.cells #[.int .i64 l, .slice A2 l2 c2] 58)).heap.size from Nat.lt_of_lt_of_le HB.out B.out.size)
  have c0 := (B.out.cell (p := ⟨b, off, none⟩) HB.out).trans HC.out
  generalize ss.getD 0 ByteArray.empty = s0 at *
  generalize symS ss id = sy at *
  obtain ⟨r0, r1, -, -⟩ := R.out.two
  go_wp2_with fail
  go_region_held3 (fun w' => w'.cell? ⟨b, off, none⟩ = some (.string s0) ∧ w'.cell? ⟨w2.heap.size, 0, none⟩ = some (.int .i64 l) ∧ w'.cell? ⟨w2.heap.size, 1, none⟩ = some (.slice A2 l2 c2)) (go_keep)
    (first
      | (go_at_call 26; refine HP.out.mono ?_; rintro e5 y5 ⟨rfl, hb⟩; have Q5 := Lib.hid (Q.out.drew.keep hb); have B5 := Lib.hid (chainN B.out.drew B.out.size hb); have c5 := (hb.cell (p := ⟨b, off, none⟩) LB.out).trans c0; obtain ⟨m0, m1, -, -⟩ := (R.out.drew.keep hb).two; clear hb; obtain ⟨z0, z1, z2, z3⟩ := Q5.out.two))
  go_wp2_with fail
  refine close_cell Tryd.results14 rfl rfl rfl Q5.out.put2 Tryd.underlying38 rfl (by kernel_rfl) ⟨rfl, ?_⟩
  exact (B5.out.setCell (p := ⟨w.heap.size, 0, none⟩) (Nat.le_refl _) _).setCell (p := ⟨w.heap.size, 1, none⟩) (Nat.le_refl _) _
theorem encMake_no (A : Option Addr) (l c : Nat) (ss : List ByteArray) (id : Nat) (w : World) (ht : Texts w A l ss) (hlc : l ≤ c) (hcm : c ≤ maxLen) (hm : mayS ss = false) :
    Calls Tryd.prog 14 #[.slice A l c, .int .u64 id] w (SymOut 0 ⟨#[]⟩ 1 w) := by
  have hW : Below w.heap.size w (w.alloc (.cells #[.int .u64 0, .string ⟨#[]⟩] 38)) := (Below.refl _ _).alloc (Nat.le_refl _) _
  have Q0 := Lib.hid (Box.new w 38 #[.int .u64 0, .string ⟨#[]⟩])
  have HM := Lib.hid (encMay_any A l c ss _ (ht.below hW) hlc hcm)
  rw [hm] at HM
  have HW := Lib.hid hW
  clear ht hW hm
  go_enter Tryd.func14, Tryd.ntmps14
  go_wp2_with fail
  refine HM.out.mono ?_
  rintro e w1 ⟨rfl, hb⟩
  have Q := Lib.hid (Q0.out.keep hb)
  have B := Lib.hid (chainN HW.out HW.out.size hb)
  clear hb
  obtain ⟨z0, z1, z2, z3⟩ := Q.out.two
  go_wp2_with fail
  refine close_cell Tryd.results14 rfl rfl rfl Q.out.put2 Tryd.underlying38 rfl (by kernel_rfl) ⟨rfl, ?_⟩
  exact (B.out.setCell (p := ⟨w.heap.size, 0, none⟩) (Nat.le_refl _) _).setCell (p := ⟨w.heap.size, 1, none⟩) (Nat.le_refl _) _
/-- Symbols as cells. -/
abbrev SymN := Nat × ByteArray
def symCells (ls : List SymN) : List Value := ls.flatMap fun r => [.int .u64 (r.1 : Nat), .string r.2]
theorem symCells_cons (r : SymN) (ls : List SymN) : symCells (r :: ls) = .int .u64 (r.1 : Nat) :: .string r.2 :: symCells ls := rfl
theorem symCells_snoc (ls : List SymN) (r : SymN) : symCells (ls ++ [r]) = symCells ls ++ [.int .u64 (r.1 : Nat), .string r.2] := by simp [symCells]
theorem symCells_at (ls : List SymN) (j : Nat) (hj : j < ls.length) : (symCells ls)[j * 2]? = some (.int .u64 ((ls.getD j (0, ByteArray.empty)).1 : Nat)) ∧ (symCells ls)[j * 2 + 1]? = some (.string (ls.getD j (0, ByteArray.empty)).2) := by
  induction ls generalizing j with
  | nil => cases hj
  | cons r ls ih =>
    cases j with
    | zero => rw [symCells_cons]; exact ⟨rfl, rfl⟩
    | succ j =>
      have h := ih j (by simpa using hj)
      rw [symCells_cons, show (j + 1) * 2 = j * 2 + 1 + 1 by omega]
      exact h
theorem symCells_set (ls : List SymN) (j : Nat) (r : SymN) : ((symCells ls).set (j * 2) (.int .u64 (r.1 : Nat))).set (j * 2 + 1) (.string r.2) = symCells (ls.set j r) := by
  induction ls generalizing j with
  | nil => simp [symCells]
  | cons q ls ih =>
    cases j with
    | zero => rw [symCells_cons]; rfl
    | succ j =>
      rw [symCells_cons, List.set_cons_succ, symCells_cons, ← ih j, show (j + 1) * 2 = j * 2 + 1 + 1 by omega]
      rfl
theorem symCells_made (n : Nat) : (madeCells #[.int .u64 0, .string ⟨#[]⟩] (n * 2)) = (symCells (List.replicate n (0, ⟨#[]⟩))).toArray := by
  apply Array.toList_inj.1
  show _ = symCells _
  unfold madeCells
  rw [Array.toList_map, Array.toList_range]
  induction n with
  | zero => rfl
  | succ n ih =>
    rw [show (n + 1) * 2 = n * 2 + 1 + 1 by omega, List.range_succ, List.range_succ, List.map_append, List.map_append, ih, List.replicate_succ', symCells_snoc]
    have e1 : n * 2 % 2 = 0 := by omega
    have e2 : (n * 2 + 1) % 2 = 1 := by omega
    simp [e1, e2]
theorem sym_info : (Tryd.prog.info? 38).map (fun i => (i.zero, i.size, i.bytes)) = some (some (.agg #[.int .u64 0, .string ⟨#[]⟩]), 2, 24) := by kernel_rfl
theorem makeSyms_any (n : Nat) (hn : n ≤ 1000000) (w : World) :
    (Instr.makeSlice 41 (.int .i64 (n : Int)) (.int .i64 (n : Int))).run Tryd.prog w = .ok (.slice (some ⟨w.heap.size, 0, none⟩) n n) (w.alloc (.cells (symCells (List.replicate n (0, ⟨#[]⟩))).toArray 38)) := by
  obtain ⟨i0, hi, hz0, hz1, hz2⟩ := info_parts sym_info
  have hr := run_make (P := Tryd.prog) w _ _ i0 _ Tryd.underlying41 hi hz0 .i64 .i64 n n (by omega) (by omega) (by rw [hz2]; omega) (by omega)
  simp only [Int.toNat_natCast, hz1] at hr
  rw [hr, ← symCells_made]
  rfl
/-- The slice at A of len symbols reads ls. -/
def SymsAt (w : World) (A : Option Addr) (len : Nat) (ls : List SymN) : Prop :=
  ls.length = len ∧ (0 < len → ∃ b off, A = some ⟨b, off, none⟩ ∧ b < w.heap.size ∧ ∀ j, j < len → w.cell? ⟨b, off + j * 2, none⟩ = some (.int .u64 ((ls.getD j (0, ByteArray.empty)).1 : Nat)) ∧ w.cell? ⟨b, off + j * 2 + 1, none⟩ = some (.string (ls.getD j (0, ByteArray.empty)).2))
theorem SymsAt.nil (w : World) (A : Option Addr) : SymsAt w A 0 [] := ⟨rfl, fun h => by omega⟩
theorem SymsAt.below {w w' : World} {A : Option Addr} {len : Nat} {ls : List SymN} (h : SymsAt w A len ls) (hb : Below w.heap.size w w') : SymsAt w' A len ls := by
  refine ⟨h.1, fun hp => ?_⟩
  obtain ⟨b, off, rfl, h2, h3⟩ := h.2 hp
  exact ⟨b, off, rfl, Nat.lt_of_lt_of_le h2 hb.size, fun j hj => ⟨(hb.cell (p := ⟨b, off + j * 2, none⟩) h2).trans (h3 j hj).1, (hb.cell (p := ⟨b, off + j * 2 + 1, none⟩) h2).trans (h3 j hj).2⟩⟩
/-- Symbols and an error are returned. -/
def ManyOut (ls : List SymN) (er : Int) (w : World) (e : Ending) (w' : World) : Prop :=
  ∃ A c, e = .returned (.tuple #[.slice A ls.length c, .int .i64 er]) ∧ SymsAt w' A ls.length ls ∧ Below w.heap.size w w'
def symL (ss : List ByteArray) (ids : List Nat) : List SymN := ids.map fun id => (id, symS ss id)
theorem symL_at (ss : List ByteArray) (ids : List Nat) (j : Nat) (h : j < ids.length) : (symL ss ids).getD j (0, ByteArray.empty) = (ids.getD j 0, symS ss (ids.getD j 0)) := by simp [symL, List.getD, h]
theorem encMany_no (A : Option Addr) (l c : Nat) (ss : List ByteArray) (B : Option Addr) (n d : Nat) (w : World) (ht : Texts w A l ss) (hlc : l ≤ c) (hcm : c ≤ maxLen) (hm : mayS ss = false) :
    Calls Tryd.prog 15 #[.slice A l c, .slice B n d] w (ManyOut [] 1 w) := by
  have HM := Lib.hid (encMay_any A l c ss _ ht hlc hcm)
  rw [hm] at HM
  clear ht hm
  go_enter Tryd.func15, Tryd.ntmps15
  go_wp2_with fail
  refine HM.out.mono ?_
  rintro e w1 ⟨rfl, hb⟩
  have B := Lib.hid hb
  clear hb
  go_wp2_with fail
  go_ret2
  exact ⟨none, 0, rfl, SymsAt.nil _ _, B.out⟩
theorem encMany_long (A : Option Addr) (l c : Nat) (ss : List ByteArray) (B : Option Addr) (n d : Nat) (w : World) (ht : Texts w A l ss) (hlc : l ≤ c) (hcm : c ≤ maxLen) (hm : mayS ss = true) (hn : 64 < n) :
    Calls Tryd.prog 15 #[.slice A l c, .slice B n d] w (ManyOut [] 2 w) := by
  have HM := Lib.hid (encMay_any A l c ss _ ht hlc hcm)
  rw [hm] at HM
  have g : (64 : Int) < n := by omega
  clear ht hm
  go_enter Tryd.func15, Tryd.ntmps15
  go_wp2_with fail
  refine HM.out.mono ?_
  rintro e w1 ⟨rfl, hb⟩
  have B := Lib.hid hb
  clear hb
  go_wp2_with fail
  go_ret2
  exact ⟨none, 0, rfl, SymsAt.nil _ _, B.out⟩
set_option maxRecDepth 100000 in
set_option maxHeartbeats 2000000 in
theorem encMany_yes (A : Option Addr) (l c : Nat) (ss : List ByteArray) (B : Option Addr) (n d : Nat) (ids : List Nat) (w : World) (ht : Texts w A l ss) (hlc : l ≤ c) (hcm : c ≤ maxLen) (hm : mayS ss = true) (hn : n ≤ 64) (hids : Words w B n ids) (hT : TabAt w 1) :
    Calls Tryd.prog 15 #[.slice A l c, .slice B n d] w (ManyOut (symL ss ids) 0 w) := by
  have HM := Lib.hid (encMay_any A l c ss _ ht hlc hcm)
  rw [hm] at HM
  have HMk := Lib.hid (fun (id : Nat) (hi : id < 18446744073709551616) W (hW : Below w.heap.size w W) => encMake_yes A l c ss id W (ht.mono (Nat.le_refl _) hW) hlc hcm hi (hT.below hW) hm)
  have HI := Lib.hid hids
  have HIL := Lib.hid hids.1
  have g : ¬ (64 : Int) < n := by omega
  clear ht hm hids hT
  go_enter Tryd.func15, Tryd.ntmps15
  go_wp2_with fail
  refine HM.out.mono ?_
  rintro e w1 ⟨rfl, hb⟩
  have B1 := Lib.hid hb
  have mk := makeSyms_any n (by omega) w1
  have BX := Lib.hid (Box.new w1 38 (symCells (List.replicate n (0, ⟨#[]⟩))).toArray)
  have B2 := Lib.hid (hb.alloc hb.size (.cells (symCells (List.replicate n (0, ⟨#[]⟩))).toArray 38))
  have hsz := hb.size
  clear hb
  go_wp2_with fail
  generalize w1.alloc (.cells (symCells (List.replicate n (0, ⟨#[]⟩))).toArray 38) = W at *
  clear mk
  go_loopw [20] (fun t wr => ∃ (i : Nat) (ls : List SymN), i ≤ n ∧ t = .int .i64 i ∧ ls.length = n ∧ Box wr w1.heap.size 38 (symCells ls).toArray ∧ Hid (∀ j, j < i → ls.getD j (0, ByteArray.empty) = (symL ss ids).getD j (0, ByteArray.empty)) ∧ Below w.heap.size w wr) (fun t _ => n - (intOf t).toNat)
  case atStart => exact ⟨0, _, by omega, rfl, by simp, BX.out, Lib.hid (fun j hj => absurd hj (Nat.not_lt_zero _)), B2.out⟩
  case round =>
    obtain ⟨i, ls, hi, rfl, hls, hbx, HF, hbel⟩ := hrel
    have R := Lib.hid hbx
    have HB := Lib.hid hbel
    have HL := Lib.hid hls
    clear hbx hbel hls BX B2 B1
    by_cases hlt : i < n
    · have hlt' : (i : Int) < (n : Int) := by omega
      obtain ⟨b, off, rfl, hb, hc⟩ := HI.out.2.2 (by omega)
      have cu := (HB.out.cell (p := ⟨b, off + i, none⟩) hb).trans (hc i hlt)
      have HX := Lib.hid (HI.out.2.1 i)
      have HSL := Lib.hid (symL_at ss ids i (by rw [HIL.out]; exact hlt))
      clear hc
      generalize ids.getD i 0 = id at *
      go_wp2_with fail
      refine (HMk.out id HX.out _ HB.out).mono ?_
      rintro e x1 ⟨rfl, hb2⟩
      have R1 := Lib.hid (R.out.keep hb2)
      have HB1 := Lib.hid (chain HB.out hb2)
      clear hb2 cu
      obtain ⟨q1, q2⟩ := symCells_at ls i (by rw [HL.out]; exact hlt)
      have c0 : x1.cell? ⟨w1.heap.size, i * 2, none⟩ = some (.int .u64 ((ls.getD i (0, ByteArray.empty)).1 : Nat)) := by rw [R1.out.cell, List.getElem?_toArray, q1]
      have d0 : x1.cell? ⟨w1.heap.size, i * 2 + 1, none⟩ = some (.string (ls.getD i (0, ByteArray.empty)).2) := by rw [R1.out.cell, List.getElem?_toArray, q2]
      have f0 := R1.out.free (i * 2)
      have f1 := R1.out.free (i * 2 + 1)
      clear q1 q2
      generalize symS ss id = sy at *
      go_wp2_with fail
      go_roundw
      case rel =>
        refine ⟨i + 1, ls.set i (id, sy), by omega, by go_num, by simp [HL.out], ?_, Lib.hid (fun j hj => ?_), (HB1.out.setCell (p := ⟨w1.heap.size, i * 2, none⟩) hsz _).setCell (p := ⟨w1.heap.size, i * 2 + 1, none⟩) hsz _⟩
        · have h := (R1.out.put (i * 2) (.int .u64 (id : Nat))).put (i * 2 + 1) (.string sy)
          have e2 := symCells_set ls i (id, sy)
          simp only at e2
          rw [← e2]
          simpa using h
        · by_cases hji : j = i
          · subst hji
            rw [HSL.out]; simp [List.getD, HL.out, hlt]
          · have := HF.out j (by omega)
            simp only [List.getD] at this ⊢
            rw [List.getElem?_set_ne (by omega)]; exact this
      case measure => simp [intOf] <;> omega
    · obtain rfl : n = i := by omega
      have hlt' : ¬ (n : Int) < (n : Int) := by omega
      have hsl : (symL ss ids).length = n := by simp [symL, HIL.out]
      have HE := Lib.hid (show ls = symL ss ids by
        apply List.ext_getElem
        · rw [HL.out, hsl]
        · intro j h1 h2
          have := HF.out j (by rw [HL.out] at h1; exact h1)
          simpa [List.getD, h1, h2] using this)
      have HSL := Lib.hid hsl
      clear hsl
      go_wp2
      go_ret2
      refine ⟨some ⟨w1.heap.size, 0, none⟩, n, by rw [HSL.out]; rfl, ?_, HB.out⟩
      rw [HSL.out, ← HE.out]
      refine ⟨HL.out, fun _ => ⟨w1.heap.size, 0, rfl, R.out.lt, fun j hj => ?_⟩⟩
      obtain ⟨q1, q2⟩ := symCells_at ls j (by rw [HL.out]; exact hj)
      rw [Nat.zero_add]
      exact ⟨by rw [R.out.cell, List.getElem?_toArray, q1], by rw [R.out.cell, List.getElem?_toArray, q2]⟩
end
section
/- Contracts of layer 7's reference: Root, digits, Same. -/
set_option linter.unusedVariables false
set_option linter.unusedSimpArgs false
open Go.RowKit
set_option maxHeartbeats 1000000 in
theorem refRoot_any (k : Nat) (hk : k ≤ 2147483647) (w : World) : Calls Tryd.prog 100 #[.int .i64 k] w fun e w' => e = .returned (.int .i64 (root k : Nat)) ∧ w = w' := by
  have HR := Lib.hid (fun s h1 h2 => (root_of k s h1 h2 hk).1)
  go_enter Tryd.func100, Tryd.ntmps100
  go_wp2
  go_loop [3, 4] (fun l h => ∃ a b : Nat, a < b ∧ b ≤ 46341 ∧ l = .int .i64 a ∧ h = .int .i64 b ∧ Hid (a * a ≤ k ∧ k < b * b)) (fun l h => (intOf h).toNat - (intOf l).toNat)
  case atStart => exact ⟨0, 46341, by omega, by omega, rfl, rfl, Lib.hid ⟨by omega, by omega⟩⟩
  case round =>
    obtain ⟨a, b, hab, hb, rfl, rfl, HK⟩ := hrel
    by_cases hlt : 1 < b - a
    · have g1 : (1 : Int) < (b : Int) - a := by omega
      obtain ⟨x, hx⟩ : ∃ x, x = (a + b) / 2 := ⟨_, rfl⟩
      have hx1 : a < x := by omega
      have hx2 : x < b := by omega
      have hxe : ((a : Int) + (b : Int)) / 2 = (x : Int) := by omega
      have m1 : x * x ≤ 46341 * 46341 := Nat.mul_le_mul (by omega) (by omega)
      have m2 : (x : Int) * (x : Int) ≤ 2147488281 := by rw [sq_cast]; omega
      have m3 : 0 ≤ (x : Int) * (x : Int) := by rw [sq_cast]; omega
      clear hx
      by_cases hs : x * x ≤ k
      · have t : (x : Int) * (x : Int) ≤ k := by rw [sq_cast]; omega
        go_wp2
        go_round
        case rel => exact ⟨x, b, hx2, hb, by rw [hxe], rfl, Lib.hid ⟨hs, HK.out.2⟩⟩
        case measure => simp [intOf] <;> omega
      · have t : ¬ (x : Int) * (x : Int) ≤ k := by rw [sq_cast]; omega
        go_wp2
        go_round
        case rel => exact ⟨a, x, hx1, by omega, rfl, by rw [hxe], Lib.hid ⟨HK.out.1, by omega⟩⟩
        case measure => simp [intOf] <;> omega
    · have g1 : ¬ (1 : Int) < (b : Int) - a := by omega
      have HE := Lib.hid (HR.out a HK.out.1 (by have h := HK.out.2; rw [show b = a + 1 by omega] at h; exact h))
      go_wp2
      go_ret
      exact ⟨by rw [HE.out]; rfl, rfl⟩
theorem bit_count : ∀ N : Fin 256, ∀ j : Fin 10, N.val / 2 ^ j.val = 0 → (j.val = 0 ∨ 0 < N.val / 2 ^ (j.val - 1)) → j.val = Lib.bitLen N.val := by decide +kernel
set_option maxHeartbeats 1000000 in
theorem digits_any (n : Nat) (hn : n < 256) (w : World) : Calls Tryd.prog 101 #[.int .i64 n] w fun e w' => e = .returned (.int .i64 (Lib.bitLen n : Nat)) ∧ w = w' := by
  have HBC := Lib.hid (fun j h1 h2 h3 => bit_count ⟨n, hn⟩ ⟨j, h1⟩ h2 h3)
  go_enter Tryd.func101, Tryd.ntmps101
  go_wp2
  go_loop [0, 3] (fun m c => ∃ j : Nat, j ≤ 8 ∧ c = .int .i64 j ∧ m = .int .i64 ((n / 2 ^ j : Nat) : Int) ∧ Hid (j = 0 ∨ 0 < n / 2 ^ (j - 1))) (fun m _ => (intOf m).toNat)
  case atStart => exact ⟨0, by omega, rfl, by simp, Lib.hid (.inl rfl)⟩
  case round =>
    obtain ⟨j, hj, rfl, rfl, HJ⟩ := hrel
    have HD := Lib.hid (show n / 2 ^ (j + 1) = n / 2 ^ j / 2 by rw [Nat.pow_succ, Nat.div_div_eq_div_mul])
    have h8 : j = 8 → n / 2 ^ j = 0 := fun e => by rw [e]; exact Nat.div_eq_of_lt (by omega)
    have HB2 := Lib.hid (fun h => HBC.out j (by omega) h HJ.out)
    have HP := Lib.hid (show 0 < n / 2 ^ j → (j + 1 = 0 ∨ 0 < n / 2 ^ (j + 1 - 1)) from fun h => .inr h)
    have hm256 : n / 2 ^ j < 256 := Nat.lt_of_le_of_lt (Nat.div_le_self _ _) hn
    generalize n / 2 ^ j = m at *
    by_cases hm : 0 < m
    · have g : (0 : Int) < m := by omega
      have hj8 : j < 8 := by rcases Nat.lt_or_ge j 8 with e | e
                             · exact e
                             · have := h8 (by omega); omega
      clear h8
      go_wp2
      go_round
      case rel => exact ⟨j + 1, by omega, by go_num, by rw [HD.out]; simp, Lib.hid (HP.out hm)⟩
      case measure => simp [intOf] <;> omega
    · obtain rfl : m = 0 := by omega
      have HE := Lib.hid (HB2.out rfl)
      clear h8
      go_wp2
      go_ret
      exact ⟨by rw [← HE.out]; rfl, rfl⟩
end
section
/- Contracts of layer 7's reference: Weight. -/
set_option linter.unusedVariables false
set_option linter.unusedSimpArgs false
open Go.RowKit
theorem dd_cast (d : Nat) (h : 1 ≤ d) : (d : Int) * ((d : Int) - 1) = ((d * (d - 1) : Nat) : Int) := by
  obtain ⟨c, rfl⟩ : ∃ c, d = c + 1 := ⟨d - 1, by omega⟩
  simp
set_option maxHeartbeats 4000000 in
theorem refWeight_any (k d : Nat) (h1 : 1 ≤ k) (h2 : k ≤ 64) (h3 : 1 ≤ d) (h4 : d ≤ 64) (w : World) : Calls Tryd.prog 91 #[.int .i64 k, .int .i64 d] w fun e w' => e = .returned (.int .u64 (wgt k d : Nat)) ∧ w = w' := by
  have hr := root_small ⟨k, by omega⟩ h1
  simp only at hr
  have HR := Lib.hid (refRoot_any k (by omega) w)
  have HD := Lib.hid (digits_any (root k) (by omega) w)
  have HW := Lib.hid (show wgt k d = plainN d k + moreN d (k / root k) (root k) k from rfl)
  have hp := Nat.div_le_self k (root k)
  have hbl := bitLen_le (root k) (by omega)
  have hX : (k : Int) / (root k : Int) = ((k / root k : Nat) : Int) := by simp
  have hMd : moreN d (k / root k) (root k) k = if d < k / root k then 4294967296 * root k / (d * k) else if d = k / root k then 4294967296 * root k * Lib.bitLen (root k) / k else 0 := rfl
  have hPd : plainN d k = if d = 1 then 4294967296 / k else 4294967296 / (d * (d - 1)) := rfl
  generalize Lib.bitLen (root k) = z at *
  generalize k / root k = p at *
  generalize root k = t at *
  generalize moreN d p t k = M at *
  generalize plainN d k = P at *
  obtain ⟨g1, g2⟩ := hr
  have gk : (1 : Int) ≤ k := by omega
  have gt : (1 : Int) ≤ t := by omega
  have dk1 : 1 * 1 ≤ d * k := Nat.mul_le_mul h3 h1
  have dk2 : d * k ≤ 64 * 64 := Nat.mul_le_mul h4 h2
  have q1 : 1 ≤ (d : Int) * (k : Int) := by rw [mul_cast]; omega
  have q2 : (d : Int) * (k : Int) ≤ 4096 := by rw [mul_cast]; omega
  have tz : t * z ≤ 8 * 8 := Nat.mul_le_mul g2 hbl
  have hz3 : 4294967296 * (t : Int) * (z : Int) = ((4294967296 * (t * z) : Nat) : Int) := by rw [Int.mul_assoc, mul_cast]; simp
  have q3 : 0 ≤ 4294967296 * (t : Int) * (z : Int) := by rw [hz3]; omega
  have q4 : 4294967296 * (t : Int) * (z : Int) ≤ 274877906944 := by rw [hz3]; omega
  have HZ3 := Lib.hid hz3
  have HPd := Lib.hid hPd
  have HMd := Lib.hid hMd
  clear hz3 hPd hMd tz dk1 dk2
  by_cases hd1 : d = 1
  · rcases Nat.lt_trichotomy d p with hdp | hdp | hdp
    · have HP := Lib.hid (show P = 4294967296 / k by rw [HPd.out, if_pos hd1])
      have eP : (4294967296 : Int) / (k : Int) = (P : Int) := by rw [HP.out]; simp
      have gP : P ≤ 4294967296 := by rw [HP.out]; exact Nat.div_le_self _ _
      have gd : ¬ (1 : Int) < d := by omega
      have HM := Lib.hid (show M = 4294967296 * t / (d * k) by rw [HMd.out, if_pos hdp])
      have eM : 4294967296 * (t : Int) / ((d : Int) * (k : Int)) = (M : Int) := by rw [HM.out, mul_cast]; simp
      have gM : M ≤ 4294967296 * t := by rw [HM.out]; exact Nat.div_le_self _ _
      have c1 : (d : Int) < p := by omega
      have c2 : ((d : Int) == (p : Int)) = false := beq_eq_false_iff_ne.2 (by omega)
      clear hd1 hdp
      go_enter Tryd.func91, Tryd.ntmps91
      go_wp2_with fail
      refine HR.out.mono ?_
      rintro e w1 ⟨rfl, rfl⟩
      go_wp2_with fail
      go_ret
      exact ⟨by rw [HW.out]; simp, rfl⟩
    · have HP := Lib.hid (show P = 4294967296 / k by rw [HPd.out, if_pos hd1])
      have eP : (4294967296 : Int) / (k : Int) = (P : Int) := by rw [HP.out]; simp
      have gP : P ≤ 4294967296 := by rw [HP.out]; exact Nat.div_le_self _ _
      have gd : ¬ (1 : Int) < d := by omega
      have HM := Lib.hid (show M = 4294967296 * t * z / k by rw [HMd.out, if_neg (by omega), if_pos hdp])
      have eM : 4294967296 * (t : Int) * (z : Int) / (k : Int) = (M : Int) := by rw [HM.out]; simp
      have gM : M ≤ 274877906944 := by have := HZ3.out; have h9 : 4294967296 * t * z / k ≤ 4294967296 * t * z := Nat.div_le_self _ _; rw [HM.out]; rw [Nat.mul_assoc] at h9 ⊢; omega
      have c1 : ¬ (d : Int) < p := by omega
      have c2 : ((d : Int) == (p : Int)) = true := beq_iff_eq.2 (by omega)
      clear hd1 hdp
      go_enter Tryd.func91, Tryd.ntmps91
      go_wp2_with fail
      refine HR.out.mono ?_
      rintro e w1 ⟨rfl, rfl⟩
      go_wp2_with fail
      refine HD.out.mono ?_
      rintro e w1 ⟨rfl, rfl⟩
      go_wp2_with fail
      go_ret
      exact ⟨by rw [HW.out]; simp, rfl⟩
    · have HP := Lib.hid (show P = 4294967296 / k by rw [HPd.out, if_pos hd1])
      have eP : (4294967296 : Int) / (k : Int) = (P : Int) := by rw [HP.out]; simp
      have gP : P ≤ 4294967296 := by rw [HP.out]; exact Nat.div_le_self _ _
      have gd : ¬ (1 : Int) < d := by omega
      have HM := Lib.hid (show M = 0 by rw [HMd.out, if_neg (by omega), if_neg (by omega)])
      have c1 : ¬ (d : Int) < p := by omega
      have c2 : ((d : Int) == (p : Int)) = false := beq_eq_false_iff_ne.2 (by omega)
      clear hd1 hdp
      go_enter Tryd.func91, Tryd.ntmps91
      go_wp2_with fail
      refine HR.out.mono ?_
      rintro e w1 ⟨rfl, rfl⟩
      go_wp2_with fail
      go_ret
      exact ⟨by rw [HW.out, HM.out, Nat.add_zero]; exact congrArg (fun x => Ending.returned (Value.int .u64 x)) eP, rfl⟩
  · rcases Nat.lt_trichotomy d p with hdp | hdp | hdp
    · have HP := Lib.hid (show P = 4294967296 / (d * (d - 1)) by rw [HPd.out, if_neg hd1])
      have u1 : 1 * 1 ≤ d * (d - 1) := Nat.mul_le_mul (by omega) (by omega)
      have u2 : d * (d - 1) ≤ 64 * 63 := Nat.mul_le_mul (by omega) (by omega)
      have v1 : 1 ≤ (d : Int) * ((d : Int) - 1) := by rw [dd_cast d h3]; omega
      have v2 : (d : Int) * ((d : Int) - 1) ≤ 4032 := by rw [dd_cast d h3]; omega
      have eP : (4294967296 : Int) / ((d : Int) * ((d : Int) - 1)) = (P : Int) := by rw [HP.out, dd_cast d h3]; simp
      have gP : P ≤ 4294967296 := by rw [HP.out]; exact Nat.div_le_self _ _
      have gd : (1 : Int) < d := by omega
      clear u1 u2
      have HM := Lib.hid (show M = 4294967296 * t / (d * k) by rw [HMd.out, if_pos hdp])
      have eM : 4294967296 * (t : Int) / ((d : Int) * (k : Int)) = (M : Int) := by rw [HM.out, mul_cast]; simp
      have gM : M ≤ 4294967296 * t := by rw [HM.out]; exact Nat.div_le_self _ _
      have c1 : (d : Int) < p := by omega
      have c2 : ((d : Int) == (p : Int)) = false := beq_eq_false_iff_ne.2 (by omega)
      clear hd1 hdp
      go_enter Tryd.func91, Tryd.ntmps91
      go_wp2_with fail
      refine HR.out.mono ?_
      rintro e w1 ⟨rfl, rfl⟩
      go_wp2_with fail
      go_ret
      exact ⟨by rw [HW.out]; simp, rfl⟩
    · have HP := Lib.hid (show P = 4294967296 / (d * (d - 1)) by rw [HPd.out, if_neg hd1])
      have u1 : 1 * 1 ≤ d * (d - 1) := Nat.mul_le_mul (by omega) (by omega)
      have u2 : d * (d - 1) ≤ 64 * 63 := Nat.mul_le_mul (by omega) (by omega)
      have v1 : 1 ≤ (d : Int) * ((d : Int) - 1) := by rw [dd_cast d h3]; omega
      have v2 : (d : Int) * ((d : Int) - 1) ≤ 4032 := by rw [dd_cast d h3]; omega
      have eP : (4294967296 : Int) / ((d : Int) * ((d : Int) - 1)) = (P : Int) := by rw [HP.out, dd_cast d h3]; simp
      have gP : P ≤ 4294967296 := by rw [HP.out]; exact Nat.div_le_self _ _
      have gd : (1 : Int) < d := by omega
      clear u1 u2
      have HM := Lib.hid (show M = 4294967296 * t * z / k by rw [HMd.out, if_neg (by omega), if_pos hdp])
      have eM : 4294967296 * (t : Int) * (z : Int) / (k : Int) = (M : Int) := by rw [HM.out]; simp
      have gM : M ≤ 274877906944 := by have := HZ3.out; have h9 : 4294967296 * t * z / k ≤ 4294967296 * t * z := Nat.div_le_self _ _; rw [HM.out]; rw [Nat.mul_assoc] at h9 ⊢; omega
      have c1 : ¬ (d : Int) < p := by omega
      have c2 : ((d : Int) == (p : Int)) = true := beq_iff_eq.2 (by omega)
      clear hd1 hdp
      go_enter Tryd.func91, Tryd.ntmps91
      go_wp2_with fail
      refine HR.out.mono ?_
      rintro e w1 ⟨rfl, rfl⟩
      go_wp2_with fail
      refine HD.out.mono ?_
      rintro e w1 ⟨rfl, rfl⟩
      go_wp2_with fail
      go_ret
      exact ⟨by rw [HW.out]; simp, rfl⟩
    · have HP := Lib.hid (show P = 4294967296 / (d * (d - 1)) by rw [HPd.out, if_neg hd1])
      have u1 : 1 * 1 ≤ d * (d - 1) := Nat.mul_le_mul (by omega) (by omega)
      have u2 : d * (d - 1) ≤ 64 * 63 := Nat.mul_le_mul (by omega) (by omega)
      have v1 : 1 ≤ (d : Int) * ((d : Int) - 1) := by rw [dd_cast d h3]; omega
      have v2 : (d : Int) * ((d : Int) - 1) ≤ 4032 := by rw [dd_cast d h3]; omega
      have eP : (4294967296 : Int) / ((d : Int) * ((d : Int) - 1)) = (P : Int) := by rw [HP.out, dd_cast d h3]; simp
      have gP : P ≤ 4294967296 := by rw [HP.out]; exact Nat.div_le_self _ _
      have gd : (1 : Int) < d := by omega
      clear u1 u2
      have HM := Lib.hid (show M = 0 by rw [HMd.out, if_neg (by omega), if_neg (by omega)])
      have c1 : ¬ (d : Int) < p := by omega
      have c2 : ((d : Int) == (p : Int)) = false := beq_eq_false_iff_ne.2 (by omega)
      clear hd1 hdp
      go_enter Tryd.func91, Tryd.ntmps91
      go_wp2_with fail
      refine HR.out.mono ?_
      rintro e w1 ⟨rfl, rfl⟩
      go_wp2_with fail
      go_ret
      exact ⟨by rw [HW.out, HM.out, Nat.add_zero]; exact congrArg (fun x => Ending.returned (Value.int .u64 x)) eP, rfl⟩
end
section
/- Contracts of layer 7's reference: Weights, Table. -/
set_option linter.unusedVariables false
set_option linter.unusedSimpArgs false
open Go.RowKit
/-- A slice of words is returned. -/
def WordsRet (zs : List Nat) (w : World) (e : Ending) (w' : World) : Prop := ∃ v, e = .returned v ∧ w'.ownsRow w.heap.size 35 1 v zs.length (zs.map u64V) ∧ Below w.heap.size w w'
set_option maxHeartbeats 2000000 in
theorem refWeights_any (k : Nat) (h1 : 1 ≤ k) (h2 : k ≤ 64) (w : World) : Calls Tryd.prog 78 #[.int .i64 k] w (WordsRet (wgts k k) w) := by
  obtain ⟨i0, hi, hz0, hz1, hz2⟩ := info_parts u64_infoW
  have HI := Lib.hid hi
  have HZ0 := Lib.hid hz0
  have HZ1 := Lib.hid hz1
  have HZ2 := Lib.hid hz2
  clear hi hz0 hz1 hz2
  go_enter Tryd.func78, Tryd.ntmps78
  go_wp2
  have HOw := Lib.hid (own_empty w w.heap.size 35 (Nat.le_refl _))
  have HW := Lib.hid ((Below.refl w.heap.size w).alloc (Nat.le_refl _) (.cells #[] 35))
  go_loopw [3, 4] (fun v t wr => ∃ d : Nat, 1 ≤ d ∧ d ≤ k + 1 ∧ t = .int .i64 d ∧ wr.ownsRow w.heap.size 35 1 v (d - 1) ((wgts k (d - 1)).map u64V) ∧ Below w.heap.size w wr)
    (fun _ t _ => k + 1 - (intOf t).toNat)
  case atStart => exact ⟨1, by omega, by omega, rfl, HOw.out, HW.out⟩
  case round =>
    obtain ⟨d, hd1, hd, rfl, hown, hbel⟩ := hrel
    have HO := Lib.hid hown
    have HB := Lib.hid hbel
    clear hown hbel HW HOw
    by_cases hlt : d ≤ k
    · have hlt' : (d : Int) ≤ (k : Int) := by omega
      have hi' := HI.out
      have hz0' := HZ0.out
      have hz1' := HZ1.out
      have hz2' := HZ2.out
      have HS := Lib.hid (show wgts k (d + 1 - 1) = wgts k (d - 1) ++ [wgt k d] by
        obtain ⟨c, rfl⟩ : ∃ c, d = c + 1 := ⟨d - 1, by omega⟩
        exact wgts_succ k c)
      have HWT := Lib.hid (refWeight_any k d h1 h2 hd1 (by omega))
      generalize wgt k d = x at *
      have XO := Lib.hid (HO.out.alloc (.cells #[.int .u64 (x : Int)] 35))
      have XB := Lib.hid (HB.out.alloc HB.out.size (.cells #[.int .u64 (x : Int)] 35))
      have N2 := Lib.hid (fun k hk => (HO.out.lt k hk).1)
      go_wp2_with fail
      refine (HWT.out _).mono ?_
      rintro e w9 ⟨rfl, rfl⟩
      go_wp2_with (at_builtin; refine wpList_append_own _ rfl _ _ 36 rfl w.heap.size 35 i0 (.int .u64 0) 1 8 Tryd.underlying36 hi' hz0' hz1' hz2' rfl (by decide) _ _ _ rfl XO.out ⟨wr.heap.size, 0, none⟩ 1 1 [.int .u64 (x : Int)] rfl rfl (cell_one_new _ _ _) (by simp [Value.oneCell']) (by simp [maxLen]; omega) (by omega) XB.out.size ?_; intro v' w1 hown' hgrow _; have HC := Lib.hid (XB.out.grown hgrow XB.out.size N2.out); have HO2 := Lib.hid hown'; clear hown' hgrow)
      go_roundw
      case rel =>
        refine ⟨d + 1, by omega, by omega, by go_num, ?_, HC.out⟩
        rw [HS.out, List.map_append, show d + 1 - 1 = d - 1 + 1 by omega]
        exact HO2.out
      case measure => simp [intOf] <;> omega
    · have he : d - 1 = k := by omega
      have hlt' : ¬ (d : Int) ≤ (k : Int) := by omega
      rw [he] at HO
      have HL := Lib.hid (wgts_len k k)
      clear he
      go_wp2
      go_ret
      exact ⟨_, rfl, by rw [HL.out]; exact HO.out, HB.out⟩
end
section
/- Contract of layer 7's reference: Same. -/
set_option linter.unusedVariables false
set_option linter.unusedSimpArgs false
open Go.RowKit
end
section
/- Contract of layer 7's reference: Table. -/
set_option linter.unusedVariables false
set_option linter.unusedSimpArgs false
open Go.RowKit
set_option maxHeartbeats 2000000 in
theorem refTable_any (k : Nat) (h1 : 1 ≤ k) (h2 : k ≤ 64) (w : World) : Calls Tryd.prog 59 #[.int .i64 k] w (WordsRet (tbl (wgts k k)) w) := by
  obtain ⟨i0, hi, hz0, hz1, hz2⟩ := info_parts u64_infoW
  have HI := Lib.hid hi
  have HZ0 := Lib.hid hz0
  have HZ1 := Lib.hid hz1
  have HZ2 := Lib.hid hz2
  clear hi hz0 hz1 hz2
  have HWN := Lib.hid (refWeights_any k h1 h2)
  have HWL := Lib.hid (wgts_len k k)
  have HWb := Lib.hid (wgts_lt k h1 h2)
  go_enter Tryd.func59, Tryd.ntmps59
  go_wp2_with fail
  refine (HWN.out _).mono ?_
  rintro e w1 ⟨v1, rfl, ho1, hb⟩
  rw [HWL.out] at ho1
  obtain ⟨A1, c1, rfl, q1, q1', hw1⟩ := own_slice ho1 HWb.out
  have W1 := Lib.hid hw1
  have B1 := Lib.hid (chain ((Below.refl w.heap.size w).alloc (Nat.le_refl _) (.cells #[] 35)) hb)
  clear ho1 hw1 hb HWN
  generalize wgts k k = ws at *
  go_wp2_with fail
  have n1 := B1.out.size
  go_loopw [3, 4, 11] (fun v s c wr => ∃ i : Nat, i ≤ k ∧ c = .int .i64 i ∧ s = .int .u64 (sumN (ws.take i) : Nat) ∧ Hid ((i = 0 ∧ v = .slice (some ⟨w.heap.size, 0, none⟩) 0 0) ∨ (1 ≤ i ∧ wr.ownsRow w1.heap.size 35 1 v i ((tbl (ws.take i)).map u64V))) ∧ Below w1.heap.size w1 wr) (fun _ _ c _ => k - (intOf c).toNat)
  case atStart => exact ⟨0, by omega, rfl, rfl, Lib.hid (.inl ⟨rfl, rfl⟩), Below.refl _ _⟩
  case round =>
    obtain ⟨i, hi, rfl, rfl, HV, hbel⟩ := hrel
    have HB := Lib.hid hbel
    clear hbel
    by_cases hlt : i < k
    · have hlt' : (i : Int) < k := by omega
      obtain ⟨b, off, rfl, hb, hc⟩ := W1.out.2.2 (by omega)
      have cA := (HB.out.cell (p := ⟨b, off + i, none⟩) hb).trans (hc i hlt)
      clear hc
      have hsu := sumN_take ws i (by rw [HWL.out]; exact hlt)
      have hwn := wrap_nat (sumN (ws.take i)) (ws.getD i 0)
      rw [← hsu] at hwn
      have HT := Lib.hid (show tbl (ws.take (i + 1)) = tbl (ws.take i) ++ [sumN (ws.take (i + 1))] by
        rw [List.take_succ_eq_append_getElem (by rw [HWL.out]; exact hlt)]; exact tbl_snoc _ _)
      have HT0 := Lib.hid (show i = 0 → tbl (ws.take i) = [] from fun e => by rw [e]; rfl)
      clear hsu
      generalize hs' : sumN (ws.take (i + 1)) = y at *
      have HY := Lib.hid hs'
      clear hs'
      generalize sumN (ws.take i) = s0 at *
      generalize ws.getD i 0 = x at *
      have hi' := HI.out
      have hz0' := HZ0.out
      have hz1' := HZ1.out
      have hz2' := HZ2.out
      have XB := Lib.hid (HB.out.alloc HB.out.size (.cells #[.int .u64 (y : Int)] 35))
      rcases HV.out with ⟨h0, hv⟩ | ⟨h1i, hrow⟩
      · subst hv
        have H0 := Lib.hid h0
        clear h0
        go_wp2_with (at_builtin; refine wpList_append_grows _ rfl _ _ 36 rfl 35 i0 (.int .u64 0) 1 8 Tryd.underlying36 hi' hz0' hz1' hz2' rfl (by decide) (some ⟨w.heap.size, 0, none⟩) 0 0 [] rfl (fun h => by cases h) rfl (fun _ _ j u hu => by simp at hu) ⟨wr.heap.size, 0, none⟩ 1 1 [.int .u64 (y : Int)] rfl rfl (cell_one_new _ _ _) (by simp [Value.oneCell']) (by omega) (by simp [maxLen]) (by omega) ?_; intro v' w2 hown' hgrow; have HC := Lib.hid (XB.out.grown hgrow XB.out.size (fun k hk => by cases hk)); have HO2 := Lib.hid (own_low hown' XB.out.size); clear hown' hgrow)
        go_roundw
        case rel =>
          refine ⟨i + 1, by omega, by go_num, by rw [HY.out], Lib.hid (.inr ⟨by omega, ?_⟩), HC.out⟩
          rw [HT.out, HT0.out H0.out, H0.out]
          exact HO2.out
        case measure => simp [intOf] <;> omega
      · have HO := Lib.hid hrow
        clear hrow
        have XO := Lib.hid (HO.out.alloc (.cells #[.int .u64 (y : Int)] 35))
        have N2 := Lib.hid (fun k hk => (HO.out.lt k hk).1)
        obtain ⟨A', c', rfl, _⟩ := own_form HO.out
        go_wp2_with (at_builtin; refine wpList_append_own _ rfl _ _ 36 rfl w1.heap.size 35 i0 (.int .u64 0) 1 8 Tryd.underlying36 hi' hz0' hz1' hz2' rfl (by decide) _ _ _ rfl XO.out ⟨wr.heap.size, 0, none⟩ 1 1 [.int .u64 (y : Int)] rfl rfl (cell_one_new _ _ _) (by simp [Value.oneCell']) (by simp [maxLen]; omega) (by omega) XB.out.size ?_; intro v' w2 hown' hgrow _; have HC := Lib.hid (XB.out.grown hgrow XB.out.size N2.out); have HO2 := Lib.hid hown'; clear hown' hgrow)
        go_roundw
        case rel =>
          refine ⟨i + 1, by omega, by go_num, by rw [HY.out], Lib.hid (.inr ⟨by omega, ?_⟩), HC.out⟩
          rw [HT.out, List.map_append]
          exact HO2.out
        case measure => simp [intOf] <;> omega
    · have he : i = k := by omega
      have HROW := Lib.hid (HV.out.resolve_left (by omega))
      rw [he, List.take_of_length_le (by rw [HWL.out]; omega)] at HROW
      have hlt' : ¬ (i : Int) < k := by omega
      have HL := Lib.hid ((tbl_len ws).trans HWL.out)
      clear he
      obtain ⟨A', c', rfl, _⟩ := own_form HROW.out.2
      go_wp2
      go_ret
      exact ⟨_, rfl, by rw [HL.out]; exact own_low HROW.out.2 n1, chain B1.out HB.out⟩
end
section
/- Contracts of layer 7's reference: Right, Pick. -/
set_option linter.unusedVariables false
set_option linter.unusedSimpArgs false
open Go.RowKit
theorem tab_rises (ws : List Nat) : tabB ws = (risesFrom 0 ws && (decide (1 ≤ ws.length) && decide (ws.length ≤ 64))) := by
  unfold tabB; rw [Bool.and_comm]
set_option maxHeartbeats 1000000 in
theorem refPick_any (A : Option Addr) (l c : Nat) (ws : List Nat) (n : Nat) (w : World) (hw : Words w A l ws) (hl : l ≤ maxLen) (hlc : l ≤ c) (hn : n < 18446744073709551616) (ht : tabB ws = true) :
    Calls Tryd.prog 58 #[.slice A l c, .int .u64 n] w fun e w' => e = .returned (.int .i64 (pickD ws n : Nat)) ∧ ∃ q, w' = w.drewN q := by
  unfold maxLen at hl
  obtain ⟨h1, h64, hr⟩ := tab_at ht
  have hp := last_pos ht
  have hlen := hw.1
  rw [hlen] at h1 h64 hp
  obtain ⟨b, off, rfl, hb, hc⟩ := hw.2.2 h1
  have c1 := hc (l - 1) (by omega)
  have HPD := Lib.hid (show pickD ws n = pickN ws (n % ws.getD (l - 1) 0) + 1 by rw [pickD, hlen])
  have HM := Lib.hid (rises_mono ws hr)
  have HC := Lib.hid hc
  have HL := Lib.hid hlen
  have HLT := Lib.hid (Nat.mod_lt n hp)
  clear hw hc hlen ht hr
  have g1 : (1 : Int) ≤ l := by omega
  have g2 : (l : Int) ≤ 64 := by omega
  have g3 : ((l : Int) - 1).toNat = l - 1 := by omega
  generalize hX : ws.getD (l - 1) 0 = x at *
  have HX := Lib.hid hX
  clear hX
  have g4 : (0 : Int) < x := by omega
  have g5 : (x : Int) ≠ 0 := by omega
  go_enter Tryd.func58, Tryd.ntmps58
  go_wp2_with fail
  go_loop [17] (fun i => ∃ k : Nat, k ≤ l ∧ i = .int .i64 k ∧ Hid (∀ i, i < k → ws.getD i 0 ≤ n % x)) (fun i => l - (intOf i).toNat)
  case atStart => exact ⟨0, by omega, rfl, Lib.hid (fun i hi => by omega)⟩
  case round =>
    obtain ⟨k, hk, rfl, HN⟩ := hrel
    by_cases hlt : k < l
    · have hkl' : (k : Int) < (l : Int) := by omega
      have c2 := HC.out k hlt
      by_cases hx : n % x < ws.getD k 0
      · have HE := Lib.hid (pickN_of ws (n % x) k HN.out (fun i h1 h2 => by have := HM.out k i h1 h2; omega) (by rw [HL.out]; omega))
        have t : (n : Int) % (x : Int) < (ws.getD k 0 : Nat) := by omega
        generalize ws.getD k 0 = y at *
        go_wp2
        go_ret
        exact ⟨by rw [HPD.out, HE.out]; rfl, 0, rfl⟩
      · have HE := Lib.hid (show ∀ i, i < k + 1 → ws.getD i 0 ≤ n % x from fun i hi => by
          by_cases e : i = k
          · rw [e]; omega
          · exact HN.out i (by omega))
        have t : ¬ (n : Int) % (x : Int) < (ws.getD k 0 : Nat) := by omega
        generalize ws.getD k 0 = y at *
        go_wp2
        go_round
        case rel => exact ⟨k + 1, by omega, by go_num, HE⟩
        case measure => simp [intOf] <;> omega
    · exfalso
      have := HN.out (l - 1) (by omega)
      have := HLT.out
      have := HX.out
      omega
end
section
/- Contracts of the reference's layer 8: Places, Row. -/
set_option linter.unusedVariables false
set_option linter.unusedSimpArgs false
open Go.RowKit
def RPlOut (k id : Nat) (w : World) (e : Ending) (w' : World) : Prop :=
  ∃ v, e = .returned v ∧ w'.ownsRow w.heap.size 3 1 v (nbMany k id) ((nbL k id).map natV) ∧ Below w.heap.size w w'
set_option maxRecDepth 100000 in
set_option maxHeartbeats 1000000 in
theorem refPlaces_any (k id : Nat) (h1 : 1 ≤ k) (h2 : k ≤ 64) (hi : id < 18446744073709551616) (w : World) : Calls Tryd.prog 41 #[.int .i64 k, .int .u64 id] w (RPlOut k id w) := by
  have HST := Lib.hid (refMixed_any id hi)
  have HTB := Lib.hid (refTable_any k h1 h2)
  have HR := Lib.hid (nbMany_range k id h1 h2)
  have HTK := Lib.hid (tab_k k h1 h2)
  have HTL := Lib.hid (show (tbl (wgts k k)).length = k by rw [tbl_len, wgts_len])
  have HTW := Lib.hid (tbl_lt (wgts k k))
  have HSM := Lib.hid (refSome_any (nbState id) k (nbMany k id) (nbState_lt id) h1 (by omega) HR.out.2)
  have HX := Lib.hid (refMixed_any (nbState id) (nbState_lt id))
  have HXL := Lib.hid (mixN_lt (nbState id))
  have HNL := Lib.hid (nb_len k id h1 h2)
  have HPK := Lib.hid (show nbMany k id = pickD (tbl (wgts k k)) (mixN (nbState id)) from rfl)
  have HE := Lib.hid (show IntKind.u64.wrap (((mixN id : Nat) : Int) + 11400714819323198485) = ((nbState id : Nat) : Int) by rw [IntKind.wrap_u64, nbState, nextS]; rfl)
  have HF : ∀ (x v : Value) (w : World), (Instr.field 106 (.agg #[x, v]) 1).run Tryd.prog w = .ok v w := fun _ _ _ => by kernel_rfl
  go_enter Tryd.func41, Tryd.ntmps41
  go_wp2_with fail
  refine (HST.out _).mono ?_
  rintro e w1 ⟨rfl, rfl⟩
  go_wp2_with fail
  refine (HTB.out _).mono ?_
  rintro e w1 ⟨v, rfl, hown, hb⟩
  rw [HTL.out] at hown
  obtain ⟨A, c, rfl, hlc, hcm, hw⟩ := own_slice hown HTW.out
  have HW := Lib.hid hw
  have B := Lib.hid hb
  clear hown hw hb HST HTB
  go_wp2_with fail
  try rw [HE.out]
  refine (HX.out _).mono ?_
  rintro e w2 ⟨rfl, rfl⟩
  go_wp2_with fail
  refine (refPick_any A k c _ _ _ HW.out (by unfold maxLen; omega) hlc HXL.out HTK.out).mono ?_
  rintro e w2 ⟨rfl, q, rfl⟩
  rw [← HPK.out]
  have B := Lib.hid (bdN B.out q)
  clear HW
  go_wp2_with fail
  try rw [HE.out]
  refine (HSM.out _).mono ?_
  rintro e w3 ⟨v, rfl, hown, hb⟩
  have B3 := Lib.hid (chain B.out hb)
  have hsz := B.out.size
  have hf := HF (.int .u64 ((shufN k (nbState id)).1 : Nat)) v
  go_wp2_with fail
  go_ret
  refine ⟨v, rfl, ?_, B3.out⟩
  have h := own_low hown hsz
  rw [show (someN k (nbMany k id) (nbState id)).length = nbMany k id from HNL.out] at h
  exact h
set_option maxHeartbeats 1000000 in
theorem refRow_any (k id : Nat) (h1 : 1 ≤ k) (h2 : k ≤ 64) (hi : id < 18446744073709551616) (w : World) : Calls Tryd.prog 28 #[.int .i64 k, .int .u64 id] w (OneRow k (nbRow k id) w) := by
  have HS := Lib.hid (refPlaces_any k id h1 h2 hi)
  have HM := Lib.hid (nbMany_range k id h1 h2)
  have HT := Lib.hid (nb_there k id)
  have q0 := Box.new w 58 #[.int .i64 0, .slice none 0 0]
  have Q0 := Lib.hid q0
  have HW := Lib.hid (show Below w.heap.size w (w.alloc (.cells #[.int .i64 0, .slice none 0 0] 58)) from (Below.refl _ _).alloc (Nat.le_refl _) _)
  clear q0
  go_enter Tryd.func28, Tryd.ntmps28
  go_wp2_with fail
  refine (HS.out _).mono ?_
  rintro e w1 ⟨v, rfl, hown, hb⟩
  obtain ⟨A, c, rfl, hA⟩ := own_form hown
  have Q0 := Lib.hid (Q0.out.keep hb)
  have HW := Lib.hid (chain HW.out hb)
  have HI := Lib.hid (own_natInts hown (some_bound k _ _ (by omega)))
  clear hown hb
  go_wp2_with fail
  refine (refOf_any k A (nbMany k id) c _ _ HI.out (by have := HM.out.2; omega) (by omega) HT.out).mono ?_
  rintro e w2 ⟨A2, l, c2, rfl, hw, hb⟩
  have P0 := Lib.hid (Q0.out.keep hb)
  have T1 := Lib.hid (chain HW.out hb)
  have HWo := Lib.hid hw
  clear hw hb
  obtain ⟨r0, r1, r2, r3⟩ := P0.out.two
  go_wp2
  refine close_one Tryd.results28 rfl rfl P0.out.put2 Tryd.underlying58 rfl (by kernel_rfl) ⟨_, _, _, rfl, HWo.out.put2 P0.out _ _, ?_⟩
  exact (T1.out.setCell (p := ⟨w.heap.size, 0, none⟩) (Nat.le_refl _) _).setCell (p := ⟨w.heap.size, 1, none⟩) (Nat.le_refl _) _
end
end Go.Proofs.YtepgjimkhodcfaaDoor
