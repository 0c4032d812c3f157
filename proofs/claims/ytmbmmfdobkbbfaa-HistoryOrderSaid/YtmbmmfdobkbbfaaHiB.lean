/- Layer 22: HistoryOrder: the walk. -/
import Derived.Test.YtmbmmfdobkbbfaaHiA
import Derived.Deep.CutRange
namespace Go.Proofs.Ytmbmmfdobkbbfaa
set_option linter.unusedVariables false
set_option linter.unusedSimpArgs false
open Go.RowKit Go.Shelf
set_option maxRecDepth 100000
theorem make_ints4 (w : World) : (Instr.makeSlice 44 (.int .i64 4) (.int .i64 4)).run Try.prog w = .ok (.slice (some ⟨w.heap.size, 0, none⟩) 4 4) (w.alloc (.cells #[.int .i64 0, .int .i64 0, .int .i64 0, .int .i64 0] 3)) := by
  obtain ⟨i0, hi, hz0, hz1, hz2⟩ := info_parts int_infoH
  have hr := run_make (P := Try.prog) w 44 3 i0 _ Try.underlying44 hi hz0 .i64 .i64 4 4 (by omega) (by omega) (by rw [hz2]; omega) (by omega)
  simp only [hz1] at hr
  have e : madeCells (Value.int .i64 0).cells 4 = #[.int .i64 0, .int .i64 0, .int .i64 0, .int .i64 0] := by
    apply Array.toList_inj.1
    have := toList_madeCells_one (Value.int .i64 0) 4
    simpa [Value.cells] using this
  rw [hr, show Int.toNat 4 * 1 = 4 from rfl, e]
  rfl
/-- How many of the first k open spans are a client's, for the four clients. -/
def cnt4 (ss : List SpR) (op : List Nat) (k : Nat) (c : Int) : Nat := ((op.take k).filter fun i => (spG ss i).c == c).length
abbrev cntA (ss : List SpR) (op : List Nat) (k : Nat) : Array Value := #[.int .i64 (cnt4 ss op k 0 : Nat), .int .i64 (cnt4 ss op k 1 : Nat), .int .i64 (cnt4 ss op k 2 : Nat), .int .i64 (cnt4 ss op k 3 : Nat)]
theorem cnt4_succ (ss : List SpR) (op : List Nat) (k : Nat) (hk : k < op.length) (c : Int) : cnt4 ss op (k + 1) c = cnt4 ss op k c + if (spG ss (op.getD k 0)).c = c then 1 else 0 := by
  have e : op.take (k + 1) = op.take k ++ [op.getD k 0] := by rw [List.take_succ_eq_append_getElem hk]; simp [List.getD, hk]
  unfold cnt4
  rw [e, List.filter_append, List.length_append]
  by_cases h : (spG ss (op.getD k 0)).c = c
  · rw [List.filter_cons_of_pos (by simpa using h), if_pos h]; rfl
  · rw [List.filter_cons_of_neg (by simpa using h), if_neg h]; rfl
theorem cnt4_le (ss : List SpR) (op : List Nat) (k : Nat) (c : Int) : cnt4 ss op k c ≤ k := by
  unfold cnt4
  have := List.length_filter_le (fun i => (spG ss i).c == c) (op.take k)
  have h2 : (op.take k).length ≤ k := by rw [List.length_take]; omega
  omega
/-- What the innermost test finds. -/
theorem ord_trans {ss : List SpR} {al : Bool} (ho : OrdS ss al) (i j k : Nat) (hj : j < ss.length) (h1 : beforeB (spG ss i) (spG ss j) = true) (h2 : beforeB (spG ss j) (spG ss k) = true) : beforeB (spG ss i) (spG ss k) = true := by
  unfold beforeB at *
  simp only [Bool.and_eq_true, decide_eq_true_eq] at *
  have := ho.to j hj
  omega
theorem ord_lt {ss : List SpR} {al : Bool} (ho : OrdS ss al) (i j : Nat) (hi : i < ss.length) (hj : j < ss.length) (h1 : beforeB (spG ss i) (spG ss j) = true) : i < j ∧ beforeB (spG ss j) (spG ss i) = false := by
  unfold beforeB at *
  simp only [Bool.and_eq_true, decide_eq_true_eq, Bool.and_eq_false_iff, decide_eq_false_iff_not] at *
  have h2 := ho.to i hi
  have h3 := ho.to j hj
  refine ⟨?_, by omega⟩
  rcases Nat.lt_trichotomy i j with h | h | h
  · exact h
  · subst h; omega
  · have := ho.fr j i h hi; omega
theorem ord_one {ss : List SpR} {al : Bool} (ho : OrdS ss al) (i j : Nat) (hij : i < j) (hj : j < ss.length) (hc : (spG ss i).c = (spG ss j).c) : beforeB (spG ss i) (spG ss j) = true ∧ (spG ss i).n < (spG ss j).n := by
  obtain ⟨h1, h2, h3⟩ := ho.one i j hij hj hc
  exact ⟨by unfold beforeB; rw [decide_eq_true h1, decide_eq_true h2]; rfl, h3⟩
theorem cntA_put (ss : List SpR) (op : List Nat) (k : Nat) (hk : k < op.length) (i : Nat) (hi : i < 4) (hc : (spG ss (op.getD k 0)).c = (i : Int)) (u : Int) (hu : u = (cnt4 ss op k (i : Int) : Nat) + 1) : (cntA ss op k).setIfInBounds i (.int .i64 u) = cntA ss op (k + 1) := by
  subst hu
  have e := fun c => cnt4_succ ss op k hk c
  rw [hc] at e
  match i, hi with
  | 0, _ => rw [cntA, cntA, e 0, e 1, e 2, e 3]; rfl
  | 1, _ => rw [cntA, cntA, e 0, e 1, e 2, e 3]; rfl
  | 2, _ => rw [cntA, cntA, e 0, e 1, e 2, e 3]; rfl
  | 3, _ => rw [cntA, cntA, e 0, e 1, e 2, e 3]; rfl
set_option maxHeartbeats 8000000 in
theorem hord_any (A : Option Addr) (l cp : Nat) (h : List EvR) (hs : SliceOk A l cp) (w : World) (hH : Evs w A l h) :
    Calls Try.prog 5 #[.slice A l cp] w fun e w' => e = .returned (.bool true) ∧ Below w.heap.size w w' := by
  have HF := Lib.hid (few22_any A l cp hs w)
  have hcm : min l 50 ≤ cp := by have := hs.1; omega
  have hcp : cp ≤ maxLen := hs.2.1
  have hn50 : min l 50 ≤ 50 := by omega
  have hH := hH.take (min l 50) (by omega)
  generalize h.take (min l 50) = h at *
  generalize min l 50 = n at *
  clear hs
  have HT := Lib.hid (fun (w' : World) (hb : Below w.heap.size w w') => hH.below hb)
  have HL := Lib.hid hH.len
  have hnm : n ≤ maxLen := by omega
  have hn6 : n ≤ 1000000 := by omega
  have HSp := Lib.hid (fun hr => hspans_yes A n cp h w hH hnm hn6 hr)
  have HSn := Lib.hid (fun hr => hspans_no A n cp h w hH hnm hn6 hr)
  have HAy := Lib.hid (fun hr (w' : World) (hw : Evs w' A n h) => halone_yes A n cp h w' hw hnm hn6 hr)
  have HAn := Lib.hid (fun hr (w' : World) (hw : Evs w' A n h) => halone_no A n cp h w' hw hnm hn6 hr)
  have HOy := Lib.hid (fun hr (w' : World) (hw : Evs w' A n h) => hopen_yes A n cp h w' hw hnm hn6 hr)
  have HOn := Lib.hid (fun hr (w' : World) (hw : Evs w' A n h) => hopen_no A n cp h w' hw hnm hn6 hr)
  have HOR := Lib.hid (fun hr => ordS (h := h) hr)
  rw [hH.len] at HOR
  clear hH
  have hln := spansL_len h n
  go_enter Try.func5, Try.ntmps5
  go_wp2_with fail
  refine HF.out.mono ?_
  rintro e u1 ⟨rfl, rfl⟩
  clear HF
  cases hr9 : rightH h with
  | false =>
    go_wp2_with fail
    refine (HSn.out hr9).mono ?_
    rintro e w1 ⟨rfl, hb⟩
    have HB := Lib.hid hb
    clear hb
    go_wp2_with fail
    refine (HAn.out hr9 _ (HT.out _ HB.out)).mono ?_
    rintro e w2 ⟨rfl, hb⟩
    have HB := Lib.hid (chain HB.out hb)
    clear hb
    go_wp2_with fail
    refine (HOn.out hr9 _ (HT.out _ HB.out)).mono ?_
    rintro e w3 ⟨rfl, hb⟩
    have HB := Lib.hid (chain HB.out hb)
    clear hb
    go_wp2_with fail
    refine (alive22_any _).mono ?_
    rintro e w4 ⟨rfl, hb⟩
    have HB := Lib.hid (chain HB.out hb)
    clear hb
    go_wp2_with fail
    go_ret
    exact ⟨rfl, HB.out⟩
  | true =>
    have HS1 := Lib.hid (HSp.out hr9)
    have HA1 := Lib.hid (HAy.out hr9)
    have HO1 := Lib.hid (HOy.out hr9)
    have HOD := Lib.hid (HOR.out hr9)
    clear HSp HSn HAy HAn HOy HOn HOR hr9
    generalize spansL h n = ss at *
    generalize aloneB n ss = al at *
    have HCL := Lib.hid (fun k hk c => cnt_le HOD.out k hk c)
    have HOL := Lib.hid (fun x hx => openL_le ss ss.length x hx)
    have HOM := Lib.hid (show ∀ x ∈ openL ss ss.length, x < ss.length from fun x hx => List.mem_range.1 (List.mem_filter.1 hx).1)
    have HC4 := Lib.hid (show ∀ c, cnt4 ss (openL ss ss.length) (openL ss ss.length).length c ≤ 1 from fun c => by
      have := HCL.out ss.length (Nat.le_refl _) c
      unfold cntO at this
      unfold cnt4
      rwa [List.take_of_length_le (Nat.le_refl _)])
    have HOPL := Lib.hid (openL_len ss ss.length)
    generalize openL ss ss.length = op at *
    go_wp2_with fail
    refine HS1.out.mono ?_
    rintro e w1 ⟨A1, c1, rfl, q1, q2, q3, hb⟩
    have HB := Lib.hid hb
    have S1 := Lib.hid q3
    clear hb q1 q2 q3
    go_wp2_with fail
    refine (HA1.out _ (HT.out _ HB.out)).mono ?_
    rintro e w2 ⟨rfl, hb⟩
    have HB := Lib.hid (chain HB.out hb)
    have S1 := Lib.hid (S1.out.below hb)
    clear hb
    go_wp2_with fail
    refine (HO1.out _ (HT.out _ HB.out)).mono ?_
    rintro e w3 ⟨A2, c2, rfl, q1, q2, q3, hb⟩
    have HB := Lib.hid (chain HB.out hb)
    have S1 := Lib.hid (S1.out.below hb)
    have I1 := Lib.hid q3
    clear hb q1 q2 q3 HS1 HA1 HO1 HT
    go_wp2_with fail
    refine (alive22_any _).mono ?_
    rintro e w4 ⟨rfl, hb⟩
    have HB := Lib.hid (chain HB.out hb)
    have S1 := Lib.hid (S1.out.below hb)
    have I1 := Lib.hid (I1.out.below hb)
    clear hb
    have HMK := make_ints4
    have hopl := HOPL.out
    go_wp2_with fail
    have hg : w4.heap.size = w4.heap.size := rfl
    have B0 := Lib.hid (Box.new w4 3 #[.int .i64 0, .int .i64 0, .int .i64 0, .int .i64 0])
    have hb5 : Below w4.heap.size w4 (w4.alloc (.cells #[.int .i64 0, .int .i64 0, .int .i64 0, .int .i64 0] 3)) := (Below.refl _ _).alloc (Nat.le_refl _) _
    have HB5 := Lib.hid hb5
    clear hb5 hg
    go_loopw [69] (fun t wr => ∃ k : Nat, k ≤ op.length ∧ t = .int .i64 (k : Int) ∧ Hid (Box wr w4.heap.size 3 (cntA ss op k)) ∧ Hid (Below w4.heap.size w4 wr)) (fun t _ => op.length - (intOf t).toNat)
    case atStart => exact ⟨0, Nat.zero_le _, rfl, B0, HB5⟩
    case round =>
      clear B0 HB5
      obtain ⟨k, hk, rfl, HG, HW⟩ := hrel
      by_cases hlt : k < op.length
      · have hlt' : (k : Int) < (op.length : Int) := Int.ofNat_lt.2 hlt
        have hk5 : (k : Int) < 1000000 := by omega
        obtain ⟨b, off, rfl, hlb, hc⟩ := I1.out.2.2 (by omega)
        have ci := (HW.out.cell (p := ⟨b, off + k, none⟩) hlb).trans (hc k hlt)
        rw [natZ_getD] at ci
        have hx := HOM.out (op.getD k 0) (by simp [List.getD, hlt])
        have HP := Lib.hid (cntA_put ss op k hlt)
        have hcn := fun c => cnt4_le ss op k c
        generalize op.getD k 0 = x at *
        obtain ⟨b2, off2, rfl, hlb2, d0, d1, d2, d3, d4, d5, d6, d7, d8, d9, d10, d11, d12, d13⟩ := S1.out.cells HW.out x hx
        obtain ⟨cl1, cl2⟩ := HOD.out.cl x hx
        have hx1 : (x : Int) < (ss.length : Int) := Int.ofNat_lt.2 hx
        have hx0 : ¬ (x : Int) < 0 := by omega
        have hx2 : ¬ (ss.length : Int) ≤ (x : Int) := by omega
        have hxx : (0 : Int) ≤ (x : Int) := Int.natCast_nonneg _
        generalize spG ss x = s at *
        have n0 := hcn 0
        have n1 := hcn 1
        have n2 := hcn 2
        have n3 := hcn 3
        have g0 := HG.out.cell 0
        have g1 := HG.out.cell 1
        have g2 := HG.out.cell 2
        have g3 := HG.out.cell 3
        have v0 := HG.out.free 0
        have v1 := HG.out.free 1
        have v2 := HG.out.free 2
        have v3 := HG.out.free 3
        simp only [List.getElem?_toArray, List.getElem?_cons_zero, List.getElem?_cons_succ] at g0 g1 g2 g3
        as_aux_lemma =>
        rcases (show s.c = 0 ∨ s.c = 1 ∨ s.c = 2 ∨ s.c = 3 by omega) with hs | hs | hs | hs
        · have HQ := Lib.hid (HP.out 0 (by decide) (by rw [hs]; rfl))
          generalize cnt4 ss op k 0 = mm at *
          have z1 : ¬ (0 : Int) < 0 := by decide
          have z2 : ¬ (4 : Int) ≤ 0 := by decide
          have zm : (mm : Int) < 1000000 := by omega
          rw [hs] at d0
          clear hs HP
          go_wp2_with fail
          go_roundw
          case rel => exact ⟨k + 1, hlt, by go_num, Lib.hid (by rw [← HQ.out _ rfl]; exact HG.out.put 0 _), Lib.hid (HW.out.setCell (p := ⟨w4.heap.size, 0, none⟩) (Nat.le_refl _) _)⟩
          case measure => simp [intOf] <;> omega
        · have HQ := Lib.hid (HP.out 1 (by decide) (by rw [hs]; rfl))
          generalize cnt4 ss op k 1 = mm at *
          have z1 : ¬ (1 : Int) < 0 := by decide
          have z2 : ¬ (4 : Int) ≤ 1 := by decide
          have zm : (mm : Int) < 1000000 := by omega
          rw [hs] at d0
          clear hs HP
          go_wp2_with fail
          go_roundw
          case rel => exact ⟨k + 1, hlt, by go_num, Lib.hid (by rw [← HQ.out _ rfl]; exact HG.out.put 1 _), Lib.hid (HW.out.setCell (p := ⟨w4.heap.size, 1, none⟩) (Nat.le_refl _) _)⟩
          case measure => simp [intOf] <;> omega
        · have HQ := Lib.hid (HP.out 2 (by decide) (by rw [hs]; rfl))
          generalize cnt4 ss op k 2 = mm at *
          have z1 : ¬ (2 : Int) < 0 := by decide
          have z2 : ¬ (4 : Int) ≤ 2 := by decide
          have zm : (mm : Int) < 1000000 := by omega
          rw [hs] at d0
          clear hs HP
          go_wp2_with fail
          go_roundw
          case rel => exact ⟨k + 1, hlt, by go_num, Lib.hid (by rw [← HQ.out _ rfl]; exact HG.out.put 2 _), Lib.hid (HW.out.setCell (p := ⟨w4.heap.size, 2, none⟩) (Nat.le_refl _) _)⟩
          case measure => simp [intOf] <;> omega
        · have HQ := Lib.hid (HP.out 3 (by decide) (by rw [hs]; rfl))
          generalize cnt4 ss op k 3 = mm at *
          have z1 : ¬ (3 : Int) < 0 := by decide
          have z2 : ¬ (4 : Int) ≤ 3 := by decide
          have zm : (mm : Int) < 1000000 := by omega
          rw [hs] at d0
          clear hs HP
          go_wp2_with fail
          go_roundw
          case rel => exact ⟨k + 1, hlt, by go_num, Lib.hid (by rw [← HQ.out _ rfl]; exact HG.out.put 3 _), Lib.hid (HW.out.setCell (p := ⟨w4.heap.size, 3, none⟩) (Nat.le_refl _) _)⟩
          case measure => simp [intOf] <;> omega
      · obtain rfl : k = op.length := Nat.le_antisymm hk (Nat.le_of_not_lt hlt)
        have hlt' : ¬ (op.length : Int) < (op.length : Int) := Int.lt_irrefl _
        have n0 := HC4.out 0
        have n1 := HC4.out 1
        have n2 := HC4.out 2
        have n3 := HC4.out 3
        clear HC4 HOM HOL HCL I1
        have HG4 := Lib.hid (show ∀ q : Nat, q < 4 → ∃ m : Int, m ≤ 1 ∧ wr.cell? ⟨w4.heap.size, q, none⟩ = some (.int .i64 m) from fun q hq => by
          match q, hq with
          | 0, _ => exact ⟨_, by omega, HG.out.cell 0⟩
          | 1, _ => exact ⟨_, by omega, HG.out.cell 1⟩
          | 2, _ => exact ⟨_, by omega, HG.out.cell 2⟩
          | 3, _ => exact ⟨_, by omega, HG.out.cell 3⟩)
        clear HG n0 n1 n2 n3 HMK
        go_wp2_with fail
        obtain ⟨wx, hwx⟩ : ∃ wx, wx = wr := ⟨_, rfl⟩
        rw [← hwx] at HG4 HW ⊢
        clear hwx
        go_loopw [112] (fun t wr => ∃ k : Nat, k ≤ 4 ∧ t = .int .i64 (k : Int) ∧ wr = wx) (fun t _ => 4 - (intOf t).toNat)
        case atStart => exact ⟨0, Nat.zero_le _, rfl, rfl⟩
        case round =>
          obtain ⟨k, hk, rfl, rfl⟩ := hrel
          by_cases hlt : k < 4
          · have hlt' : (k : Int) < 4 := by omega
            obtain ⟨m, hm, hc⟩ := HG4.out k hlt
            have hm2 : ¬ (1 : Int) < m := by omega
            go_wp2_with fail
            go_roundw
            case rel => exact ⟨k + 1, hlt, by go_num, trivial⟩
            case measure => simp [intOf] <;> omega
          · obtain rfl : k = 4 := by omega
            go_wp2_with fail
            clear HG4
            obtain ⟨wo, rfl⟩ : ∃ wo : World, wo = wr := ⟨_, rfl⟩
            have S2 := Lib.hid (S1.out.below HW.out)
            have BW := Lib.hid (chain HB.out HW.out)
            clear S1 HW HB hk hlt
            go_loopw [121] (fun t wr => ∃ i : Nat, i ≤ ss.length ∧ t = .int .i64 (i : Int) ∧ Hid (Below wo.heap.size wo wr)) (fun t _ => ss.length - (intOf t).toNat)
            case atStart => exact ⟨0, Nat.zero_le _, rfl, Lib.hid (Below.refl _ _)⟩
            case round =>
              obtain ⟨i, hi, rfl, HW⟩ := hrel
              by_cases hlti : i < ss.length
              · have hlti' : (i : Int) < (ss.length : Int) := Int.ofNat_lt.2 hlti
                have hi5 : (i : Int) < 1000000 := by omega
                obtain ⟨b, off, rfl, hlb, d0, d1, d2, d3, d4, d5, d6, d7, d8, d9, d10, d11, d12, d13⟩ := S2.out.cells HW.out i hlti
                obtain ⟨w5, rfl⟩ : ∃ w5 : World, w5 = wr := ⟨_, rfl⟩
                have GA := Lib.hid (Box.new w5 41 (spA (spG ss i)))
                have HWa := Lib.hid (HW.out.alloc HW.out.size (.cells (spA (spG ss i)) 41))
                have HWs := Lib.hid HW.out.size
                generalize haa : spG ss i = a at *
                have HAA := Lib.hid haa
                clear haa
                go_wp2_with fail
                clear d0 d1 d2 d3 d4 d5 d6 d7 d8 d9 d10 d11 d12 d13 HW
                go_loopg [128] ss.length (fun q t wr => ∃ j : Nat, ss.length = j + q ∧ t = .int .i64 (j : Int) ∧ Hid (Box wr w5.heap.size 41 (spA a)) ∧ Hid (Below wo.heap.size wo wr))
                case atStart => exact ⟨0, (Nat.zero_add _).symm, rfl, GA, HWa⟩
                case round =>
                  clear GA HWa
                  obtain ⟨j, hj0, rfl, GA, HW⟩ := hrel
                  have hj : j ≤ ss.length := by omega
                  have HJ := Lib.hid hj0
                  clear hj0
                  by_cases hltj : j < ss.length
                  · have hltj' : (j : Int) < (ss.length : Int) := Int.ofNat_lt.2 hltj
                    have hj5 : (j : Int) < 1000000 := by omega
                    obtain ⟨b2, off2, he, hlb2, e0, e1, e2, e3, e4, e5, e6, e7, e8, e9, e10, e11, e12, e13⟩ := S2.out.cells HW.out j hltj
                    injection he with he
                    injection he with he1 he2
                    subst he1 he2
                    obtain ⟨w6, rfl⟩ : ∃ w6 : World, w6 = wr := ⟨_, rfl⟩
                    have GB := Lib.hid (Box.new w6 41 (spA (spG ss j)))
                    have hw56 := GA.out.lt
                    replace GA := Lib.hid (GA.out.alloc (.cells (spA (spG ss j)) 41))
                    replace HW := Lib.hid (HW.out.alloc HW.out.size (.cells (spA (spG ss j)) 41))
                    have HLT := Lib.hid (ord_lt HOD.out i j hlti hltj)
                    have HON := Lib.hid (fun hij => ord_one HOD.out i j hij hltj)
                    have HAL := Lib.hid (fun h hij => HOD.out.alone h i j hij hltj)
                    have HTR := Lib.hid (fun k => ord_trans HOD.out i j k hltj)
                    generalize hbb : spG ss j = b' at *
                    have HBB := Lib.hid hbb
                    clear hbb
                    rw [HAA.out] at HLT HON HAL HTR
                    obtain ⟨d0, d1, d2, d3, d4, d5, d6, d7, d8, d9, d10, d11, d12, d13⟩ := GA.out.sp
                    obtain ⟨q0, q1, q2, q3, q4, q5, q6, q7, q8, q9, q10, q11, q12, q13⟩ := GB.out.sp
                    go_wp2_with fail
                    refine (hbefore_any a b' _).mono ?_
                    rintro e x1 ⟨rfl, hb⟩
                    replace GA := Lib.hid (GA.out.keep hb)
                    replace GB := Lib.hid (GB.out.keep hb)
                    replace HW := Lib.hid (chain HW.out hb)
                    clear hb d0 d1 d2 d3 d4 d5 d6 d7 d8 d9 d10 d11 d12 d13 q0 q1 q2 q3 q4 q5 q6 q7 q8 q9 q10 q11 q12 q13 e0 e1 e2 e3 e4 e5 e6 e7 e8 e9 e10 e11 e12 e13
                    generalize beforeB a b' = ah at *
                    go_upto_region 30 with (fail)
                    go_cut [181] from 136 to 181 (fun t wx => t = .bool false ∧ Hid (Box wx w5.heap.size 41 (spA a)) ∧ Hid (Box wx w6.heap.size 41 (spA b')) ∧ Hid (Below wo.heap.size wo wx))
                    case first =>
                      clear HTR
                      as_aux_lemma =>
                      obtain ⟨d0, d1, d2, d3, d4, d5, d6, d7, d8, d9, d10, d11, d12, d13⟩ := GA.out.sp
                      obtain ⟨q0, q1, q2, q3, q4, q5, q6, q7, q8, q9, q10, q11, q12, q13⟩ := GB.out.sp
                      cases ah with
                      | true =>
                        obtain ⟨hij, hBA⟩ := HLT.out rfl
                        have hij1 : (i : Int) < (j : Int) := by omega
                        have hij2 : ¬ (j : Int) ≤ (i : Int) := by omega
                        go_wp2_with fail
                        refine (hbefore_any b' a _).mono ?_
                        rintro e x2 ⟨rfl, hb⟩
                        rw [hBA]
                        replace GA := Lib.hid (GA.out.keep hb)
                        replace GB := Lib.hid (GB.out.keep hb)
                        replace HW := Lib.hid (chain HW.out hb)
                        clear hb d0 d1 d2 d3 d4 d5 d6 d7 d8 d9 d10 d11 d12 d13 q0 q1 q2 q3 q4 q5 q6 q7 q8 q9 q10 q11 q12 q13
                        obtain ⟨d0, d1, d2, d3, d4, d5, d6, d7, d8, d9, d10, d11, d12, d13⟩ := GA.out.sp
                        obtain ⟨q0, q1, q2, q3, q4, q5, q6, q7, q8, q9, q10, q11, q12, q13⟩ := GB.out.sp
                        have HN := Lib.hid (fun hc => (HON.out hij hc).2)
                        clear HLT HON HAL hBA
                        by_cases hc : a.c = b'.c
                        · have tc : (a.c == b'.c) = true := by simp [hc]
                          have hn : ¬ b'.n ≤ a.n := by have := HN.out hc; omega
                          clear hc HN
                          cases al with
                          | true => go_wp2_with fail; go_meet; exact ⟨by simp [hn], GA, GB, HW⟩
                          | false => go_wp2_with fail; go_meet; exact ⟨by simp [hn], GA, GB, HW⟩
                        · have tc : (a.c == b'.c) = false := by simp [hc]
                          clear hc HN
                          cases al with
                          | true => go_wp2_with fail; go_meet; exact ⟨by simp, GA, GB, HW⟩
                          | false => go_wp2_with fail; go_meet; exact ⟨by simp, GA, GB, HW⟩
                      | false =>
                        by_cases hij : i < j
                        · have hij1 : (i : Int) < (j : Int) := by omega
                          have hc : ¬ a.c = b'.c := fun hc => by
                            have := (HON.out hij hc).1
                            cases this
                          have tc : (a.c == b'.c) = false := by simp [hc]
                          have hal : al = false := by
                            cases al with
                            | false => rfl
                            | true =>
                              have := HAL.out rfl hij
                              cases this
                          subst hal
                          clear hc HLT HON HAL
                          go_wp2_with fail
                          go_meet
                          exact ⟨by simp, GA, GB, HW⟩
                        · have hij1 : ¬ (i : Int) < (j : Int) := by omega
                          clear HLT HON HAL
                          by_cases hc : a.c = b'.c
                          · have tc : (a.c == b'.c) = true := by simp [hc]
                            clear hc
                            cases al with
                            | true => go_wp2_with fail; go_meet; exact ⟨by simp, GA, GB, HW⟩
                            | false => go_wp2_with fail; go_meet; exact ⟨by simp, GA, GB, HW⟩
                          · have tc : (a.c == b'.c) = false := by simp [hc]
                            clear hc
                            cases al with
                            | true => go_wp2_with fail; go_meet; exact ⟨by simp, GA, GB, HW⟩
                            | false => go_wp2_with fail; go_meet; exact ⟨by simp, GA, GB, HW⟩
                    case rest =>
                      clear HLT HON HAL GA GB HW
                      obtain ⟨rfl, GA, GB, HW⟩ := hcut
                      as_aux_lemma =>
                      cases ah with
                      | true =>
                        go_wp2_with fail
                        go_loopw [184] (fun t wr => ∃ k : Nat, k ≤ ss.length ∧ t = .int .i64 (k : Int) ∧ Hid (Box wr w5.heap.size 41 (spA a)) ∧ Hid (Box wr w6.heap.size 41 (spA b')) ∧ Hid (Below wo.heap.size wo wr)) (fun t _ => ss.length - (intOf t).toNat)
                        case atStart => exact ⟨0, Nat.zero_le _, rfl, GA, GB, HW⟩
                        case round =>
                          clear GA GB HW
                          obtain ⟨k, hk, rfl, GA, GB, HW⟩ := hrel
                          by_cases hltk : k < ss.length
                          · have hltk' : (k : Int) < (ss.length : Int) := Int.ofNat_lt.2 hltk
                            have hk5 : (k : Int) < 1000000 := by omega
                            obtain ⟨b2, off2, he, hlb2, h0, h1, h2, h3, h4, h5, h6, h7, h8, h9, h10, h11, h12, h13⟩ := S2.out.cells HW.out k hltk
                            injection he with he
                            injection he with he1 he2
                            subst he1 he2
                            obtain ⟨w7, rfl⟩ : ∃ w7 : World, w7 = wr := ⟨_, rfl⟩
                            have GC := Lib.hid (Box.new w7 41 (spA (spG ss k)))
                            have HBC := Lib.hid (HTR.out k)
                            replace GA := Lib.hid (GA.out.alloc (.cells (spA (spG ss k)) 41))
                            replace GB := Lib.hid (GB.out.alloc (.cells (spA (spG ss k)) 41))
                            replace HW := Lib.hid (HW.out.alloc HW.out.size (.cells (spA (spG ss k)) 41))
                            generalize spG ss k = c at *
                            obtain ⟨d0, d1, d2, d3, d4, d5, d6, d7, d8, d9, d10, d11, d12, d13⟩ := GB.out.sp
                            obtain ⟨q0, q1, q2, q3, q4, q5, q6, q7, q8, q9, q10, q11, q12, q13⟩ := GC.out.sp
                            go_wp2_with fail
                            refine (hbefore_any b' c _).mono ?_
                            rintro e x4 ⟨rfl, hb⟩
                            replace GA := Lib.hid (GA.out.keep hb)
                            replace GB := Lib.hid (GB.out.keep hb)
                            replace GC := Lib.hid (GC.out.keep hb)
                            replace HW := Lib.hid (chain HW.out hb)
                            clear hb d0 d1 d2 d3 d4 d5 d6 d7 d8 d9 d10 d11 d12 d13 q0 q1 q2 q3 q4 q5 q6 q7 q8 q9 q10 q11 q12 q13 h0 h1 h2 h3 h4 h5 h6 h7 h8 h9 h10 h11 h12 h13
                            cases hbc : beforeB b' c with
                            | false =>
                              go_wp2_with fail
                              go_roundw
                              case rel => exact ⟨k + 1, hltk, by go_num, GA, GB, HW⟩
                              case measure => simp [intOf] <;> omega
                            | true =>
                              obtain ⟨d0, d1, d2, d3, d4, d5, d6, d7, d8, d9, d10, d11, d12, d13⟩ := GA.out.sp
                              obtain ⟨q0, q1, q2, q3, q4, q5, q6, q7, q8, q9, q10, q11, q12, q13⟩ := GC.out.sp
                              go_wp2_with fail
                              refine (hbefore_any a c _).mono ?_
                              rintro e x5 ⟨rfl, hb⟩
                              rw [HBC.out (by trivial) hbc]
                              replace GA := Lib.hid (GA.out.keep hb)
                              replace GB := Lib.hid (GB.out.keep hb)
                              replace HW := Lib.hid (chain HW.out hb)
                              clear hb d0 d1 d2 d3 d4 d5 d6 d7 d8 d9 d10 d11 d12 d13 q0 q1 q2 q3 q4 q5 q6 q7 q8 q9 q10 q11 q12 q13
                              go_wp2_with fail
                              go_roundw
                              case rel => exact ⟨k + 1, hltk, by go_num, GA, GB, HW⟩
                              case measure => simp [intOf] <;> omega
                          · obtain rfl : k = ss.length := by omega
                            have hltk' : ¬ (ss.length : Int) < (ss.length : Int) := Int.lt_irrefl _
                            go_wp2_with fail
                            go_roundg (gk - 1)
                            case measure => have := HJ.out; omega
                            case rel => exact ⟨j + 1, by have := HJ.out; omega, by go_num, GA, HW⟩
                      | false =>
                        clear HTR
                        go_wp2_with fail
                        go_loopw [184] (fun t wr => ∃ k : Nat, k ≤ ss.length ∧ t = .int .i64 (k : Int) ∧ Hid (Box wr w5.heap.size 41 (spA a)) ∧ Hid (Box wr w6.heap.size 41 (spA b')) ∧ Hid (Below wo.heap.size wo wr)) (fun t _ => ss.length - (intOf t).toNat)
                        case atStart => exact ⟨0, Nat.zero_le _, rfl, GA, GB, HW⟩
                        case round =>
                          clear GA GB HW
                          obtain ⟨k, hk, rfl, GA, GB, HW⟩ := hrel
                          by_cases hltk : k < ss.length
                          · have hltk' : (k : Int) < (ss.length : Int) := Int.ofNat_lt.2 hltk
                            have hk5 : (k : Int) < 1000000 := by omega
                            obtain ⟨b2, off2, he, hlb2, h0, h1, h2, h3, h4, h5, h6, h7, h8, h9, h10, h11, h12, h13⟩ := S2.out.cells HW.out k hltk
                            injection he with he
                            injection he with he1 he2
                            subst he1 he2
                            obtain ⟨w7, rfl⟩ : ∃ w7 : World, w7 = wr := ⟨_, rfl⟩
                            have GC := Lib.hid (Box.new w7 41 (spA (spG ss k)))
                            replace GA := Lib.hid (GA.out.alloc (.cells (spA (spG ss k)) 41))
                            replace GB := Lib.hid (GB.out.alloc (.cells (spA (spG ss k)) 41))
                            replace HW := Lib.hid (HW.out.alloc HW.out.size (.cells (spA (spG ss k)) 41))
                            generalize spG ss k = c at *
                            go_wp2_with fail
                            go_roundw
                            case rel => exact ⟨k + 1, hltk, by go_num, GA, GB, HW⟩
                            case measure => simp [intOf] <;> omega
                          · obtain rfl : k = ss.length := by omega
                            have hltk' : ¬ (ss.length : Int) < (ss.length : Int) := Int.lt_irrefl _
                            go_wp2_with fail
                            go_roundg (gk - 1)
                            case measure => have := HJ.out; omega
                            case rel => exact ⟨j + 1, by have := HJ.out; omega, by go_num, GA, HW⟩
                  · obtain rfl : j = ss.length := by omega
                    have hltj' : ¬ (ss.length : Int) < (ss.length : Int) := Int.lt_irrefl _
                    go_wp2_with fail
                    go_roundw
                    case rel => exact ⟨i + 1, hlti, by go_num, HW⟩
                    case measure => simp [intOf] <;> omega
              · obtain rfl : i = ss.length := by omega
                have hlti' : ¬ (ss.length : Int) < (ss.length : Int) := Int.lt_irrefl _
                go_wp2_with fail
                go_ret
                exact ⟨rfl, chain BW.out HW.out⟩
end Go.Proofs.Ytmbmmfdobkbbfaa
