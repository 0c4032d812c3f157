/- Layer 22: the reference's Before, count. -/
import Derived.Test.YtmbmmfdobkbbfaaHiA
import Derived.Test.YtmbmmfdobkbbfaaHi3
namespace Go.Proofs.Ytmbmmfdobkbbfaa
set_option linter.unusedVariables false
set_option linter.unusedSimpArgs false
open Go.RowKit Go.Shelf
set_option maxRecDepth 100000
theorem refBefore_any (a b : SpR) (w : World) : Calls Try.prog 17 #[.agg (spA a), .agg (spA b)] w fun e w' => e = .returned (.bool (beforeB a b)) ∧ Below w.heap.size w w' := by
  have hb : Below w.heap.size w ((w.alloc (.cells (spA a) 41)).alloc (.cells (spA b) 41)) := ((Below.refl _ _).alloc (Nat.le_refl _) _).alloc (by simp) _
  have q0 := ((Box.new w 41 (spA a)).alloc (.cells (spA b) 41)).sp
  have q1 := Box.new (w.alloc (.cells (spA a) 41)) 41 (spA b)
  simp only [World.size_alloc] at q1
  have q1 := q1.sp
  have HB := Lib.hid hb
  obtain ⟨-, -, -, -, -, -, -, -, -, -, -, -, a12, a13⟩ := q0
  obtain ⟨-, -, -, -, -, -, -, -, -, -, -, -, b12, b13⟩ := q1
  clear hb
  go_enter Try.func17, Try.ntmps17
  by_cases h1 : 0 ≤ a.to
  · by_cases h2 : a.to < b.fr
    · have HE := Lib.hid (show beforeB a b = true by unfold beforeB; simp [h1, h2])
      go_wp2_with fail
      go_ret
      exact ⟨by rw [HE.out]; rfl, HB.out⟩
    · have HE := Lib.hid (show beforeB a b = false by unfold beforeB; simp [h2])
      go_wp2_with fail
      go_ret
      exact ⟨by rw [HE.out]; rfl, HB.out⟩
  · have HE := Lib.hid (show beforeB a b = false by unfold beforeB; simp [h1])
    go_wp2_with fail
    go_ret
    exact ⟨by rw [HE.out]; rfl, HB.out⟩
/-- The last one's place; -1: there is none. -/
def lastI (xs : List Nat) : Int := match xs.getLast? with | none => -1 | some j => (j : Int)
abbrev ahA (xs : List Nat) : Array Value := #[.int .i64 (xs.length : Nat), .int .i64 (lastI xs)]
theorem ahA_put (xs : List Nat) (j : Nat) (u : Int) (hu : u = (xs.length : Nat) + 1) : ((ahA xs).setIfInBounds 0 (.int .i64 u)).setIfInBounds 1 (.int .i64 (j : Int)) = ahA (xs ++ [j]) := by
  subst hu
  have e : lastI (xs ++ [j]) = (j : Int) := by unfold lastI; rw [List.getLast?_concat]
  unfold ahA
  rw [e, List.length_append]
  rfl
theorem ahA_lastle (h : List EvR) (c : Int) (m : Nat) : -1 ≤ lastI (ixs h c 0 m) ∧ lastI (ixs h c 0 m) < (m : Int) := by
  unfold lastI
  cases hg : (ixs h c 0 m).getLast? with
  | none => simp; omega
  | some j =>
    have := ixs_lt h c 0 m (List.mem_of_getLast? hg)
    simp; omega
set_option maxHeartbeats 4000000 in
theorem refCount_any (A : Option Addr) (l cp : Nat) (h : List EvR) (i : Nat) (hi : i < l) (hlm : l ≤ 1000000) (w : World) (hH : Evs w A l h) :
    Calls Try.prog 23 #[.slice A l cp, .int .i64 (i : Int)] w fun e w' => e = .returned (.agg (ahA (ixs h (evAt h i).c 0 i))) ∧ Below w.heap.size w w' := by
  have HH := Lib.hid hH
  have Z0 := Lib.hid ((Box.new w 56 #[.int .i64 0, .int .i64 0]).alloc (.cells #[.int .i64 0, .int .i64 (-1)] 56))
  have q := Box.new (w.alloc (.cells #[.int .i64 0, .int .i64 0] 56)) 56 (ahA [])
  simp only [World.size_alloc] at q
  have G0 := Lib.hid q
  have B0 := Lib.hid (((Below.refl w.heap.size w).alloc (Nat.le_refl _) (.cells #[.int .i64 0, .int .i64 0] 56)).alloc (by simp) (.cells #[.int .i64 0, .int .i64 (-1)] 56))
  have hiI : (i : Int) < (l : Int) := Int.ofNat_lt.2 hi
  obtain ⟨c, hcc⟩ : ∃ c, (evAt h i).c = c := ⟨_, rfl⟩
  rw [hcc]
  have HCC := Lib.hid hcc
  have HX0 := Lib.hid (show ixs h c 0 0 = [] from rfl)
  clear hH q hcc
  go_enter Try.func23, Try.ntmps23
  go_wp2_with fail
  go_loopw [6] (fun t wr => ∃ j : Nat, j ≤ i ∧ t = .int .i64 (j : Int) ∧ Hid (Box wr (w.heap.size + 1) 56 (ahA (ixs h c 0 j))) ∧ Hid (Box wr w.heap.size 56 #[.int .i64 0, .int .i64 0]) ∧ Hid (Below w.heap.size w wr)) (fun t _ => i - (intOf t).toNat)
  case atStart => exact ⟨0, Nat.zero_le _, rfl, G0, Z0, B0⟩
  case round =>
    clear G0 Z0 B0 HX0
    obtain ⟨j, hj, rfl, G, Z, HB⟩ := hrel
    by_cases hlt : j < i
    · have hlt' : (j : Int) < (i : Int) := Int.ofNat_lt.2 hlt
      have hj5 : (j : Int) < 1000000 := by omega
      have hjl : (j : Int) < (l : Int) := by omega
      obtain ⟨b, off, rfl, hlb, d0, -⟩ := HH.out.cells HB.out j (by omega)
      obtain ⟨b2, off2, he, hlb2, e0, -⟩ := HH.out.cells HB.out i hi
      injection he with he
      injection he with he1 he2
      subst he1 he2
      rw [HCC.out] at e0
      have HY := Lib.hid (ixs_yes h c 0 j (Nat.zero_le _))
      have HN := Lib.hid (ixs_no h c 0 j)
      have hln := ixs_len h c 0 j
      have HP := Lib.hid (ahA_put (ixs h c 0 j) j)
      have hgn : w.heap.size ≠ w.heap.size + 1 := by omega
      by_cases hc : (evAt h j).c = c
      · have HE := Lib.hid (HY.out hc)
        have tc : ((evAt h j).c == c) = true := beq_iff_eq.2 hc
        generalize (evAt h j).c = cj at *
        clear hc HY HN
        rw [← HE.out] at HP
        clear HE
        have g0 := G.out.cell 0
        have g1 := G.out.cell 1
        have v0 := G.out.free 0
        have v1 := G.out.free 1
        simp only [List.getElem?_toArray, List.getElem?_cons_zero, List.getElem?_cons_succ] at g0 g1
        have hml : ((ixs h c 0 j).length : Int) < 1000000 := by omega
        generalize hls : lastI (ixs h c 0 j) = ls at *
        generalize hmm : (ixs h c 0 j).length = mm at *
        have HQ := Lib.hid (show ∀ u : Int, u = (mm : Int) + 1 → ((#[.int .i64 (mm : Int), .int .i64 ls] : Array Value).setIfInBounds 0 (.int .i64 u)).setIfInBounds 1 (.int .i64 (j : Int)) = ahA (ixs h c 0 (j + 1)) from fun u hu => by have := HP.out u hu; rw [ahA, hmm, hls] at this; exact this)
        clear HP hmm hls hln
        go_wp2_with fail
        go_quiet (fail)
        go_wp2_with fail
        go_roundw
        case rel => exact ⟨j + 1, hlt, by go_num, Lib.hid (by rw [← HQ.out _ rfl]; exact ((Box.drewN G.out _).put 0 _).put 1 _), Lib.hid ((((Box.drewN Z.out _).far (p := ⟨w.heap.size + 1, 0, none⟩) hgn _).far (p := ⟨w.heap.size + 1, 1, none⟩) hgn _)), Lib.hid ((((bdN HB.out _).setCell (p := ⟨w.heap.size + 1, 0, none⟩) (Nat.le_succ _) _).setCell (p := ⟨w.heap.size + 1, 1, none⟩) (Nat.le_succ _) _))⟩
        case measure => simp [intOf] <;> omega
      · have HE := Lib.hid (HN.out hc)
        have tc : ((evAt h j).c == c) = false := beq_eq_false_iff_ne.2 hc
        generalize (evAt h j).c = cj at *
        clear hc HY HN HP
        go_wp2_with fail
        go_quiet (fail)
        go_wp2_with fail
        go_roundw
        case rel => exact ⟨j + 1, hlt, by go_num, Lib.hid (by rw [HE.out]; exact Box.drewN G.out _), Lib.hid (Box.drewN Z.out _), Lib.hid (bdN HB.out _)⟩
        case measure => simp [intOf] <;> omega
    · obtain rfl : j = i := by omega
      have hlt' : ¬ (j : Int) < (j : Int) := Int.lt_irrefl _
      have g0 := G.out.cell 0
      have g1 := G.out.cell 1
      have z0 := Z.out.cell 0
      have z1 := Z.out.cell 1
      have v0 := Z.out.free 0
      have v1 := Z.out.free 1
      simp only [List.getElem?_toArray, List.getElem?_cons_zero, List.getElem?_cons_succ] at g0 g1 z0 z1
      obtain ⟨ls, els⟩ : ∃ ls, lastI (ixs h c 0 j) = ls := ⟨_, rfl⟩
      obtain ⟨mm, emm⟩ : ∃ mm, (ixs h c 0 j).length = mm := ⟨_, rfl⟩
      have hGG := Lib.hid (show ahA (ixs h c 0 j) = #[.int .i64 (mm : Int), .int .i64 ls] by rw [ahA, els, emm])
      rw [els] at g1
      rw [emm] at g0
      clear els emm
      have HC := Lib.hid ((HB.out.setCell (p := ⟨w.heap.size, 0, none⟩) (Nat.le_refl _) (.int .i64 (mm : Int))).setCell (p := ⟨w.heap.size, 1, none⟩) (Nat.le_refl _) (.int .i64 ls))
      go_wp2_with fail
      refine close_one Try.results23 rfl rfl (Z.out.putAll [.int .i64 (mm : Int), .int .i64 ls] rfl) Try.underlying56 rfl (by kernel_rfl) ⟨by rw [hGG.out], HC.out⟩
end Go.Proofs.Ytmbmmfdobkbbfaa
