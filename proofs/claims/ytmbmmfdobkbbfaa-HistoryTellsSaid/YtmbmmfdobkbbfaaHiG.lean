/- Layer 22: the reference's Alone. -/
import Derived.Test.YtmbmmfdobkbbfaaHiF
import Derived.Deep.CutRange
namespace Go.Proofs.Ytmbmmfdobkbbfaa
set_option linter.unusedVariables false
set_option linter.unusedSimpArgs false
open Go.RowKit Go.Shelf
set_option maxRecDepth 100000
/-- What the reference asks of an event and the next one. -/
def sideH (h : List EvR) (l i : Nat) : Bool := !((evAt h i).b == 0 && decide (i + 1 < l) && (!((evAt h (i + 1)).c == (evAt h i).c) || !((evAt h (i + 1)).b == 1)))
def alB (h : List EvR) (l k : Nat) : Bool := (List.range k).all (sideH h l)
theorem alB_snoc (h : List EvR) (l k : Nat) : alB h l (k + 1) = (alB h l k && sideH h l k) := by unfold alB; rw [List.range_succ, List.all_append]; simp
theorem alB_up (h : List EvR) (l : Nat) {k m : Nat} (hkm : k ≤ m) (hk : alB h l k = false) : alB h l m = false := by
  obtain ⟨d, rfl⟩ := Nat.le.dest hkm
  unfold alB at *
  rw [List.range_add, List.all_append, hk]; rfl
theorem side_one {h : List EvR} (hr : rightH h = true) (i : Nat) (hi : i < h.length) (hb : (evAt h i).b = 0) : sideB h.length (spanOf h i) = sideH h h.length i := by
  have hfr := spanOf_fr h i
  unfold sideB sideH
  rw [hfr, hb]
  by_cases hl : i + 1 < h.length
  · have e1 : decide ((i : Int) < (h.length : Int) - 1) = true := by simp; omega
    rw [e1, decide_eq_true hl]
    have hd := head_down h (evAt h i).c (i + 1) h.length hl
    by_cases hc : (evAt h (i + 1)).c = (evAt h i).c
    · have hto : (spanOf h i).to = (i : Int) + 1 := by
        unfold spanOf; rw [hd, if_pos hc]; show ((i + 1 : Nat) : Int) = _; omega
      obtain ⟨c, h1, h2, h3⟩ := right_step hr i hi
      obtain ⟨c', g1, g2, g3⟩ := right_step hr (i + 1) hl
      have hcc : c' = c := by rw [hc, h2] at g2; omega
      subst hcc
      rw [ixs_yes h (c' : Int) 0 i (Nat.zero_le _) h2] at g3
      have b1 := (stepOk_parts h3).1
      have b2 := (stepOk_parts g3).1
      rw [List.length_append, List.length_cons, List.length_nil] at b2
      have hb1 : (evAt h (i + 1)).b = 1 := by rw [hb] at b1; omega
      rw [hto, hb1, beq_iff_eq.2 hc]; simp
    · have hto : ¬ (spanOf h i).to = (i : Int) + 1 := by
        unfold spanOf; rw [hd, if_neg hc]
        cases hh : ixs h (evAt h i).c (i + 1 + 1) h.length with
        | nil => show ¬ (-1 : Int) = _; omega
        | cons y ys =>
          have := (ixs_lt h (evAt h i).c (i + 1 + 1) h.length (x := y) (by rw [hh]; simp)).1
          show ¬ (y : Int) = _
          omega
      rw [beq_eq_false_iff_ne.2 hto, beq_eq_false_iff_ne.2 hc]; simp
  · have e1 : decide ((i : Int) < (h.length : Int) - 1) = false := by simp; omega
    rw [e1, decide_eq_false hl]; simp
theorem alone_eq {h : List EvR} (hr : rightH h = true) : aloneB h.length (spansL h h.length) = alB h h.length h.length := by
  rw [Bool.eq_iff_iff]
  unfold aloneB spansL begins alB
  simp only [List.all_eq_true]
  constructor
  · intro hh i hi
    by_cases hb : (evAt h i).b = 0
    · rw [← side_one hr i (List.mem_range.1 hi) hb]
      exact hh _ (List.mem_map.2 ⟨i, List.mem_filter.2 ⟨hi, by rw [hb]; rfl⟩, rfl⟩)
    · unfold sideH; rw [beq_eq_false_iff_ne.2 hb]; rfl
  · intro hh s hs
    obtain ⟨i, hi, rfl⟩ := List.mem_map.1 hs
    obtain ⟨h1, h2⟩ := List.mem_filter.1 hi
    rw [side_one hr i (List.mem_range.1 h1) (by simpa using h2)]
    exact hh i h1
set_option maxHeartbeats 4000000 in
theorem refAlone_any (A : Option Addr) (l cp : Nat) (h : List EvR) (w : World) (hH : Evs w A l h) (hlm : l ≤ 1000000) :
    Calls Try.prog 18 #[.slice A l cp] w fun e w' => e = .returned (.bool (alB h l l)) ∧ Below w.heap.size w w' := by
  have HH := Lib.hid hH
  clear hH
  go_enter Try.func18, Try.ntmps18
  go_wp2_with fail
  go_loopw [7] (fun t wr => ∃ i : Nat, i ≤ l ∧ t = .int .i64 (i : Int) ∧ Hid (alB h l i = true) ∧ Hid (Below w.heap.size w wr)) (fun t _ => l - (intOf t).toNat)
  case atStart => exact ⟨0, Nat.zero_le _, rfl, Lib.hid rfl, Lib.hid (Below.refl _ _)⟩
  case round =>
    obtain ⟨i, hi, rfl, HS, HB⟩ := hrel
    by_cases hlt : i < l
    · have hlt' : (i : Int) < (l : Int) := Int.ofNat_lt.2 hlt
      have hi5 : (i : Int) < 1000000 := by omega
      obtain ⟨b, off, rfl, hlb, d0, d1, d2, d3, d4, d5, d6, d7, d8, d9, d10, d11, d12⟩ := HH.out.cells HB.out i hlt
      obtain ⟨w5, rfl⟩ : ∃ w5 : World, w5 = wr := ⟨_, rfl⟩
      have GE := Lib.hid (Box.new w5 53 (evA (evAt h i)))
      have HB5 := Lib.hid (HB.out.alloc HB.out.size (.cells (evA (evAt h i)) 53))
      have HN := Lib.hid (show alB h l (i + 1) = sideH h l i by rw [alB_snoc, HS.out]; rfl)
      have HU := Lib.hid (show sideH h l i = false → alB h l l = false from fun hf => alB_up h l (show i + 1 ≤ l from hlt) (by rw [alB_snoc, hf]; simp))
      have HSt := Lib.hid (show sideH h l i = !((evAt h i).b == 0 && decide (i + 1 < l) && (!((evAt h (i + 1)).c == (evAt h i).c) || !((evAt h (i + 1)).b == 1))) from rfl)
      obtain ⟨g0, g1, -⟩ := GE.out.ev
      clear HS GE
      generalize hee : evAt h i = e at *
      clear hee
      by_cases e0 : e.b = 0
      · have t0 : (e.b == 0) = true := by simp [e0]
        by_cases hl1 : i + 1 < l
        · have t1 : (i : Int) + 1 < (l : Int) := by omega
          have t1b : (0 : Int) ≤ (i : Int) + 1 := by omega
          obtain ⟨b2, off2, he, hlb2, k0, k1, -⟩ := HH.out.cells HB5.out (i + 1) hl1
          injection he with he
          injection he with he1 he2
          subst he1 he2
          have eo : off + (i + 1) * 13 = off + (i * 13 + 13) := by omega
          have HKI := Lib.hid (show ((i : Int) + 1).toNat = i + 1 by omega)
          generalize evAt h (i + 1) = e' at *
          by_cases e1 : e'.c = e.c
          · have t2 : (e'.c != e.c) = false := by simp [e1]
            by_cases e2 : e'.b = 1
            · have t3 : (e'.b != 1) = false := by simp [e2]
              have ES := Lib.hid (show alB h l (i + 1) = true by rw [HN.out, HSt.out]; simp [e1, e2])
              clear HSt HN HU e0 e1 e2 hl1 eo
              go_upto_region 4 with (fail)
              go_quiet (fail)
              go_wp2_with fail
              go_roundw
              case rel => exact ⟨i + 1, hlt, by go_num, ES, Lib.hid (bdN HB5.out _)⟩
              case measure => simp [intOf] <;> omega
            · have t3 : (e'.b != 1) = true := by simp [e2]
              have ES := Lib.hid (HU.out (by rw [HSt.out]; simp [e0, e2, hl1]))
              clear HSt HN HU e0 e1 e2 hl1 eo
              go_upto_region 4 with (fail)
              go_quiet (fail)
              go_wp2_with fail
              go_ret
              exact ⟨by rw [ES.out]; rfl, bdN HB5.out _⟩
          · have t2 : (e'.c != e.c) = true := by simp [e1]
            have ES := Lib.hid (HU.out (by rw [HSt.out]; simp [e0, e1, hl1]))
            clear HSt HN HU e0 e1 hl1 eo
            go_upto_region 4 with (fail)
            go_quiet (fail)
            go_wp2_with fail
            go_ret
            exact ⟨by rw [ES.out]; rfl, bdN HB5.out _⟩
        · have t1 : ¬ (i : Int) + 1 < (l : Int) := by omega
          have ES := Lib.hid (show alB h l (i + 1) = true by rw [HN.out, HSt.out]; simp [hl1])
          clear HSt HN HU e0 hl1
          go_upto_region 4 with (fail)
          go_quiet (fail)
          go_wp2_with fail
          go_roundw
          case rel => exact ⟨i + 1, hlt, by go_num, ES, Lib.hid (bdN HB5.out _)⟩
          case measure => simp [intOf] <;> omega
      · have t0 : (e.b == 0) = false := by simp [e0]
        have ES := Lib.hid (show alB h l (i + 1) = true by rw [HN.out, HSt.out, t0]; rfl)
        clear HSt HN HU e0
        go_upto_region 4 with (fail)
        go_quiet (fail)
        go_wp2_with fail
        go_roundw
        case rel => exact ⟨i + 1, hlt, by go_num, ES, Lib.hid (bdN HB5.out _)⟩
        case measure => simp [intOf] <;> omega
    · obtain rfl : i = l := by omega
      have hlt' : ¬ (i : Int) < (i : Int) := Int.lt_irrefl _
      go_wp2_with fail
      go_ret
      exact ⟨by rw [HS.out]; rfl, HB.out⟩
end Go.Proofs.Ytmbmmfdobkbbfaa
