/- Layer 22: history.Spans, Alone, Open. -/
import Derived.Test.YtmbmmfdobkbbfaaHi5
namespace Go.Proofs.Ytmbmmfdobkbbfaa
set_option linter.unusedVariables false
set_option linter.unusedSimpArgs false
open Go.RowKit Go.Shelf
set_option maxRecDepth 100000
/-- A slice of spans. -/
structure Sps (w : World) (A : Option Addr) (l : Nat) (xs : List SpR) : Prop where
  recs : Recs encP 14 w A l xs
  reps : ∀ j, RepOk w (xs.getD j default).rep
theorem Sps.below {w w' : World} {A : Option Addr} {l : Nat} {xs : List SpR} (h : Sps w A l xs) (hb : Below w.heap.size w w') : Sps w' A l xs := ⟨h.recs.below hb, fun j => (h.reps j).below hb⟩
theorem Sps.len {w : World} {A : Option Addr} {l : Nat} {xs : List SpR} (h : Sps w A l xs) : xs.length = l := h.recs.1
/-- The spans of the events below a place. -/
def begins (h : List EvR) (m : Nat) : List Nat := (List.range m).filter fun i => (evAt h i).b == 0
def spansL (h : List EvR) (m : Nat) : List SpR := (begins h m).map (spanOf h)
theorem begins_yes (h : List EvR) (m : Nat) (hb : (evAt h m).b = 0) : begins h (m + 1) = begins h m ++ [m] := by
  unfold begins; rw [List.range_succ, List.filter_append, List.filter_cons_of_pos (by rw [hb]; rfl)]; rfl
theorem begins_no (h : List EvR) (m : Nat) (hb : ¬ (evAt h m).b = 0) : begins h (m + 1) = begins h m := by
  unfold begins; rw [List.range_succ, List.filter_append, List.filter_cons_of_neg (by simpa using hb)]; exact List.append_nil _
theorem begins_len (h : List EvR) (m : Nat) : (begins h m).length ≤ m := by
  have := List.length_filter_le (fun i => (evAt h i).b == 0) (List.range m)
  simpa [begins] using this
theorem spansL_len (h : List EvR) (m : Nat) : (spansL h m).length ≤ m := by unfold spansL; rw [List.length_map]; exact begins_len h m
theorem spansL_yes (h : List EvR) (m : Nat) (hb : (evAt h m).b = 0) : spansL h (m + 1) = spansL h m ++ [spanOf h m] := by unfold spansL; rw [begins_yes h m hb]; simp
theorem spansL_no (h : List EvR) (m : Nat) (hb : ¬ (evAt h m).b = 0) : spansL h (m + 1) = spansL h m := by unfold spansL; rw [begins_no h m hb]
theorem spanOf_rep {w : World} {A : Option Addr} {l : Nat} {h : List EvR} (hH : Evs w A l h) (i : Nat) : RepOk w (spanOf h i).rep := by
  unfold spanOf
  cases (ixs h (evAt h i).c (i + 1) h.length).head? with
  | none => exact RepOk.zero w
  | some j => exact hH.reps j
theorem spansL_rep {w : World} {A : Option Addr} {l : Nat} {h : List EvR} (hH : Evs w A l h) (m j : Nat) : RepOk w ((spansL h m).getD j default).rep := by
  by_cases hj : j < (spansL h m).length
  · have e : (spansL h m).getD j default = spanOf h ((begins h m).getD j 0) := by
      unfold spansL at *
      rw [List.length_map] at hj
      simp [List.getD, hj]
    rw [e]; exact spanOf_rep hH _
  · have e : (spansL h m).getD j default = default := by simp [List.getD, List.getElem?_eq_none (Nat.le_of_not_lt hj)]
    rw [e]; exact RepOk.zero w
theorem span_info : (Try.prog.info? 41).map (fun i => (i.zero, i.size, i.bytes)) = some (some (.agg #[.int .i64 0, .int .i64 0, .int .i64 0, .int .u64 0, .int .i64 0, .int .i64 0, .int .i64 0, .int .u64 0, .string ⟨#[]⟩, .int .i64 0, .int .i64 0, .slice none 0 0, .int .i64 0, .int .i64 0]), 14, 136) := by kernel_rfl
theorem hspans_no (A : Option Addr) (l cp : Nat) (h : List EvR) (w : World) (hH : Evs w A l h) (hl : l ≤ maxLen) (hlm : l ≤ 1000000) (hr : rightH h = false) :
    Calls Try.prog 8 #[.slice A l cp] w fun e w' => e = .returned (.tuple #[.slice none 0 0, .int .i64 1]) ∧ Below w.heap.size w w' := by
  have HR := Lib.hid (hright_any A l cp h w hH hl hlm)
  rw [hr] at HR
  clear hH hr
  go_enter Try.func8, Try.ntmps8
  go_wp2_with fail
  refine HR.out.mono ?_
  rintro e w1 ⟨rfl, hb⟩
  have HB := Lib.hid hb
  clear hb HR
  go_wp2_with fail
  go_ret2
  exact ⟨rfl, HB.out⟩
theorem own_capH {w : World} {base e size n c : Nat} {A : Option Addr} {xs : List Value} (h : w.ownsRow base e size (.slice A n c) n xs) : n ≤ c ∧ c ≤ maxLen := by
  rcases h.2 with ⟨hv, h0⟩ | ⟨g, cap, cur, hv, h1, h2, h3, h4, h5⟩
  · injection hv with _ _ hc
    subst hc h0
    exact ⟨Nat.le_refl _, Nat.zero_le _⟩
  · injection hv with _ _ hc
    subst hc
    exact ⟨h3, h4⟩
/-- Spans and no error are returned. -/
def SpansOut (ss : List SpR) (w : World) (e : Ending) (w' : World) : Prop :=
  ∃ A c, e = .returned (.tuple #[.slice A ss.length c, .int .i64 0]) ∧ ss.length ≤ c ∧ c ≤ maxLen ∧ Sps w' A ss.length ss ∧ Below w.heap.size w w'
set_option maxHeartbeats 4000000 in
theorem hspans_yes (A : Option Addr) (l cp : Nat) (h : List EvR) (w : World) (hH : Evs w A l h) (hl : l ≤ maxLen) (hlm : l ≤ 1000000) (hr : rightH h = true) :
    Calls Try.prog 8 #[.slice A l cp] w (SpansOut (spansL h l) w) := by
  obtain ⟨i0, hi, hz0, hz1, hz2⟩ := info_parts span_info
  have HI := Lib.hid hi
  have HZ0 := Lib.hid hz0
  have HZ1 := Lib.hid hz1
  have HZ2 := Lib.hid hz2
  have HR := Lib.hid (hright_any A l cp h w hH hl hlm)
  rw [hr] at HR
  have HH0 := Lib.hid hH
  clear hH hr hi hz0 hz1 hz2
  go_enter Try.func8, Try.ntmps8
  go_wp2_with fail
  refine HR.out.mono ?_
  rintro e w1 ⟨rfl, hb⟩
  have HB0 := Lib.hid hb
  have HH := Lib.hid (HH0.out.below hb)
  clear hb HR
  go_wp2_with fail
  go_loopw [4, 12] (fun v t wr => ∃ i : Nat, i ≤ l ∧ t = .int .i64 i ∧ wr.ownsRow w1.heap.size 41 14 v (spansL h i).length ((spansL h i).flatMap encP) ∧ Below w1.heap.size w1 wr) (fun _ t _ => l - (intOf t).toNat)
  case atStart => exact ⟨0, Nat.zero_le _, rfl, World.ownsRow_nil _ _ _ _, Below.refl _ _⟩
  case round =>
    obtain ⟨i, hi, rfl, hown, hbel⟩ := hrel
    have HO := Lib.hid hown
    have HC := Lib.hid hbel
    clear hown hbel
    by_cases hlt : i < l
    · have hlt' : (i : Int) < (l : Int) := Int.ofNat_lt.2 hlt
      obtain ⟨b, off, rfl, hlb, d0, d1, d2, d3, d4, d5, d6, d7, d8, d9, d10, d11, d12⟩ := HH.out.cells HC.out i hlt
      have HSy := Lib.hid (spansL_yes h i)
      have HSn := Lib.hid (spansL_no h i)
      have hsl := spansL_len h i
      have HSF := Lib.hid (fun (w' : World) (hw : Evs w' (some ⟨b, off, none⟩) l h) => callsIn_wide.1 (span_in (some ⟨b, off, none⟩) l cp h i hlt hlm w' hw))
      have G := Lib.hid (Box.new wr 53 (evA (evAt h i)))
      have c1 := Lib.hid (show Below wr.heap.size wr (wr.alloc (.cells (evA (evAt h i)) 53)) from (Below.refl _ _).alloc (Nat.le_refl _) _)
      have XO := Lib.hid (own_keep HO.out c1.out)
      have XB := Lib.hid (HC.out.trans (c1.out.mono HC.out.size))
      obtain ⟨g0, g1, -⟩ := G.out.ev
      generalize evAt h i = e at *
      by_cases e0 : e.b = 0
      · have t1 : (e.b == 0) = true := by simp [e0]
        have HS := Lib.hid (HSy.out e0)
        generalize spanOf h i = s at *
        clear e0 HSy HSn G
        go_wp2_with fail
        refine (HSF.out _ (HH.out.below XB.out)).mono ?_
        rintro e2 x2 ⟨rfl, hb⟩
        have YO := Lib.hid (own_keep XO.out hb)
        have YB := Lib.hid (chain XB.out hb)
        have c2 := Lib.hid (show Below x2.heap.size x2 (x2.alloc (.cells (spA s) 41)) from (Below.refl _ _).alloc (Nat.le_refl _) _)
        have ZO := Lib.hid (own_keep YO.out c2.out)
        have ZB := Lib.hid (YB.out.trans (c2.out.mono YB.out.size))
        have N2 := Lib.hid (fun g hg => (ZO.out.lt g hg).1)
        have NW := Lib.hid (World.news_of_block (Box.new x2 41 (spA s)))
        clear hb XO XB YO c1 c2 g0 g1 d0 d1 d2 d3 d4 d5 d6 d7 d8 d9 d10 d11 d12 HO HSF
        go_wp2_with (at_builtin; refine wpList_append_own _ rfl _ _ 24 rfl w1.heap.size 41 i0 _ 14 136 Try.underlying24 HI.out HZ0.out HZ1.out HZ2.out rfl (by decide) _ _ _ rfl ZO.out ⟨x2.heap.size, 0, none⟩ 1 1 (encP s) rfl rfl NW.out (encP_one s) (by simp [maxLen]; omega) (by omega) ZB.out.size ?_; intro v' w2 hown' hgrow _; have HC2 := Lib.hid (ZB.out.grown hgrow ZB.out.size N2.out); have HO2 := Lib.hid hown'; clear hown' hgrow)
        go_roundw
        case rel =>
          refine ⟨i + 1, hlt, by go_num, ?_, HC2.out⟩
          rw [HS.out, List.length_append, List.flatMap_append]
          simpa using HO2.out
        case measure => simp [intOf] <;> omega
      · have t1 : (e.b == 0) = false := by simp [e0]
        have HS := Lib.hid (HSn.out e0)
        clear e0 HSy HSn G
        go_wp2_with fail
        go_roundw
        case rel => exact ⟨i + 1, hlt, by go_num, by rw [HS.out]; exact XO.out, XB.out⟩
        case measure => simp [intOf] <;> omega
    · obtain rfl : l = i := by omega
      have hlt' : ¬ (l : Int) < (l : Int) := Int.lt_irrefl _
      obtain ⟨A7, c7, hv, hnil⟩ := own_form HO.out
      subst hv
      have HX := Lib.hid (own_recs encP_len HO.out (by decide))
      have HCp := Lib.hid (own_capH HO.out)
      have BB := Lib.hid (chain HB0.out HC.out)
      go_wp2_with fail
      go_ret2
      exact ⟨A7, c7, rfl, HCp.out.1, HCp.out.2, ⟨HX.out, fun j => spansL_rep (HH.out.below HC.out) l j⟩, BB.out⟩
end Go.Proofs.Ytmbmmfdobkbbfaa
