/- Layer 22: history.Alone, Open. -/
import Derived.Test.YtmbmmfdobkbbfaaHi6
namespace Go.Proofs.Ytmbmmfdobkbbfaa
set_option linter.unusedVariables false
set_option linter.unusedSimpArgs false
open Go.RowKit Go.Shelf
set_option maxRecDepth 100000
def SpAt (x : World) (b o : Nat) (s : SpR) : Prop := x.cell? ⟨b, o, none⟩ = some (.int .i64 s.c) ∧ x.cell? ⟨b, o + 1, none⟩ = some (.int .i64 s.n) ∧ x.cell? ⟨b, o + 2, none⟩ = some (.int .i64 s.call.1) ∧ x.cell? ⟨b, o + 3, none⟩ = some (.int .u64 (s.call.2.1 : Nat)) ∧ x.cell? ⟨b, o + 4, none⟩ = some (.int .i64 s.call.2.2.1) ∧ x.cell? ⟨b, o + 5, none⟩ = some (.int .i64 s.call.2.2.2.1) ∧ x.cell? ⟨b, o + 6, none⟩ = some (.int .i64 s.call.2.2.2.2.1) ∧ x.cell? ⟨b, o + 7, none⟩ = some (.int .u64 (s.call.2.2.2.2.2.1 : Nat)) ∧ x.cell? ⟨b, o + 8, none⟩ = some (.string s.call.2.2.2.2.2.2) ∧ x.cell? ⟨b, o + 9, none⟩ = some (.int .i64 s.rep.why) ∧ x.cell? ⟨b, o + 10, none⟩ = some (.int .i64 s.rep.n) ∧ x.cell? ⟨b, o + 11, none⟩ = some (.slice s.rep.A s.rep.l s.rep.c) ∧ x.cell? ⟨b, o + 12, none⟩ = some (.int .i64 s.fr) ∧ x.cell? ⟨b, o + 13, none⟩ = some (.int .i64 s.to)
abbrev spG (ss : List SpR) (j : Nat) : SpR := ss.getD j default
theorem Sps.cells {w x : World} {A : Option Addr} {l : Nat} {xs : List SpR} (h : Sps w A l xs) (hb : Below w.heap.size w x) (j : Nat) (hj : j < l) : ∃ b off, A = some ⟨b, off, none⟩ ∧ b < w.heap.size ∧ SpAt x b (off + j * 14) (spG xs j) := by
  obtain ⟨b, off, e, hlt, hc⟩ := h.recs.at j hj
  have hc := fun k v (hv : (encP (spG xs j))[k]? = some v) => (hb.cell (p := ⟨b, off + j * 14 + k, none⟩) hlt).trans (hc k v hv)
  exact ⟨b, off, e, hlt, hc 0 _ rfl, hc 1 _ rfl, hc 2 _ rfl, hc 3 _ rfl, hc 4 _ rfl, hc 5 _ rfl, hc 6 _ rfl, hc 7 _ rfl, hc 8 _ rfl, hc 9 _ rfl, hc 10 _ rfl, hc 11 _ rfl, hc 12 _ rfl, hc 13 _ rfl⟩
theorem Box.sp {w : World} {g : Nat} {t : TypeId} {s : SpR} (h : Box w g t (spA s)) : w.cell? ⟨g, 0, none⟩ = some (.int .i64 s.c) ∧ w.cell? ⟨g, 1, none⟩ = some (.int .i64 s.n) ∧ w.cell? ⟨g, 2, none⟩ = some (.int .i64 s.call.1) ∧ w.cell? ⟨g, 3, none⟩ = some (.int .u64 (s.call.2.1 : Nat)) ∧ w.cell? ⟨g, 4, none⟩ = some (.int .i64 s.call.2.2.1) ∧ w.cell? ⟨g, 5, none⟩ = some (.int .i64 s.call.2.2.2.1) ∧ w.cell? ⟨g, 6, none⟩ = some (.int .i64 s.call.2.2.2.2.1) ∧ w.cell? ⟨g, 7, none⟩ = some (.int .u64 (s.call.2.2.2.2.2.1 : Nat)) ∧ w.cell? ⟨g, 8, none⟩ = some (.string s.call.2.2.2.2.2.2) ∧ w.cell? ⟨g, 9, none⟩ = some (.int .i64 s.rep.why) ∧ w.cell? ⟨g, 10, none⟩ = some (.int .i64 s.rep.n) ∧ w.cell? ⟨g, 11, none⟩ = some (.slice s.rep.A s.rep.l s.rep.c) ∧ w.cell? ⟨g, 12, none⟩ = some (.int .i64 s.fr) ∧ w.cell? ⟨g, 13, none⟩ = some (.int .i64 s.to) :=
  ⟨h.cell 0, h.cell 1, h.cell 2, h.cell 3, h.cell 4, h.cell 5, h.cell 6, h.cell 7, h.cell 8, h.cell 9, h.cell 10, h.cell 11, h.cell 12, h.cell 13⟩
theorem spansL_at (h : List EvR) (m j : Nat) (hj : j < (spansL h m).length) : spG (spansL h m) j = spanOf h ((begins h m).getD j 0) ∧ (begins h m).getD j 0 < m ∧ (evAt h ((begins h m).getD j 0)).b = 0 := by
  have hj2 : j < (begins h m).length := by unfold spansL at hj; rwa [List.length_map] at hj
  have hm : (begins h m).getD j 0 ∈ begins h m := by simp [List.getD, hj2]
  refine ⟨by unfold spansL; simp [List.getD, hj2], ?_, ?_⟩
  · have := (List.mem_filter.1 hm).1; simpa using this
  · have := (List.mem_filter.1 hm).2; simpa using this
theorem spanOf_fr (h : List EvR) (i : Nat) : (spanOf h i).fr = (i : Int) := by unfold spanOf; cases (ixs h (evAt h i).c (i + 1) h.length).head? <;> rfl
theorem spansL_fr (h : List EvR) (m j : Nat) (hj : j < (spansL h m).length) : 0 ≤ (spG (spansL h m) j).fr ∧ (spG (spansL h m) j).fr < (m : Int) := by
  obtain ⟨e, h1, -⟩ := spansL_at h m j hj
  rw [e, spanOf_fr]; omega
/-- Does a span end right behind its beginning, or begin last of all? -/
def sideB (l : Nat) (s : SpR) : Bool := !(decide (s.fr < (l : Int) - 1) && !(s.to == s.fr + 1))
def aloneB (l : Nat) (ss : List SpR) : Bool := ss.all (sideB l)
theorem aloneB_snoc (l : Nat) (ss : List SpR) (k : Nat) (hk : k < ss.length) : aloneB l (ss.take (k + 1)) = (aloneB l (ss.take k) && sideB l (spG ss k)) := by
  unfold aloneB; rw [take_snocD ss k hk, List.all_append]; simp
theorem aloneB_up (l : Nat) (ss : List SpR) (k : Nat) (hk : aloneB l (ss.take k) = false) : aloneB l ss = false := by
  cases hh : aloneB l ss with
  | false => rfl
  | true =>
    unfold aloneB at hh hk
    rw [List.all_eq_true] at hh
    have : (ss.take k).all (sideB l) = true := List.all_eq_true.2 fun e he => hh e (List.mem_of_mem_take he)
    rw [this] at hk; cases hk
theorem halone_no (A : Option Addr) (l cp : Nat) (h : List EvR) (w : World) (hH : Evs w A l h) (hl : l ≤ maxLen) (hlm : l ≤ 1000000) (hr : rightH h = false) :
    Calls Try.prog 14 #[.slice A l cp] w fun e w' => e = .returned (.tuple #[.bool false, .int .i64 1]) ∧ Below w.heap.size w w' := by
  have HR := Lib.hid (hspans_no A l cp h w hH hl hlm hr)
  clear hH hr
  go_enter Try.func14, Try.ntmps14
  go_wp2_with fail
  refine HR.out.mono ?_
  rintro e w1 ⟨rfl, hb⟩
  have HB := Lib.hid hb
  clear hb HR
  go_wp2_with fail
  go_ret2
  exact ⟨rfl, HB.out⟩
set_option maxHeartbeats 4000000 in
theorem halone_yes (A : Option Addr) (l cp : Nat) (h : List EvR) (w : World) (hH : Evs w A l h) (hl : l ≤ maxLen) (hlm : l ≤ 1000000) (hr : rightH h = true) :
    Calls Try.prog 14 #[.slice A l cp] w fun e w' => e = .returned (.tuple #[.bool (aloneB l (spansL h l)), .int .i64 0]) ∧ Below w.heap.size w w' := by
  have HR := Lib.hid (hspans_yes A l cp h w hH hl hlm hr)
  have HF := Lib.hid (spansL_fr h l)
  have HLn := Lib.hid (spansL_len h l)
  clear hH hr hl
  generalize spansL h l = ss at *
  go_enter Try.func14, Try.ntmps14
  go_wp2_with fail
  refine HR.out.mono ?_
  rintro e w1 ⟨A1, c1, rfl, q1, q2, q3, hb⟩
  have HB0 := Lib.hid hb
  have HS0 := Lib.hid q3
  have hn := HLn.out
  generalize hnn : ss.length = n at *
  have HN := Lib.hid hnn
  clear hb HR q1 q2 q3 hnn
  go_wp2_with fail
  go_loopw [18] (fun t wr => ∃ i : Nat, i ≤ n ∧ t = .int .i64 (i : Int) ∧ Hid (aloneB l (ss.take i) = true) ∧ Hid (Below w1.heap.size w1 wr)) (fun t _ => n - (intOf t).toNat)
  case atStart => exact ⟨0, Nat.zero_le _, rfl, Lib.hid rfl, Lib.hid (Below.refl _ _)⟩
  case round =>
    obtain ⟨i, hi, rfl, HS, HB⟩ := hrel
    by_cases hlt : i < n
    · have hlt' : (i : Int) < (n : Int) := Int.ofNat_lt.2 hlt
      obtain ⟨b, off, rfl, hlb, d0, d1, d2, d3, d4, d5, d6, d7, d8, d9, d10, d11, d12, d13⟩ := HS0.out.cells HB.out i hlt
      have HNx := Lib.hid (aloneB_snoc l ss i (by rw [HN.out]; exact hlt))
      have HU := Lib.hid (aloneB_up l ss (i + 1))
      have G := Lib.hid (Box.new wr 41 (spA (spG ss i)))
      have HB := Lib.hid (HB.out.alloc HB.out.size (.cells (spA (spG ss i)) 41))
      obtain ⟨f1, f2⟩ := HF.out i hlt
      obtain ⟨-, -, -, -, -, -, -, -, -, -, -, -, g12, g13⟩ := G.out.sp
      generalize spG ss i = s at *
      have e0 : (0 : Int) ≤ s.fr := f1
      have e1 : s.fr < 1000000 := by omega
      by_cases h1 : s.fr < (l : Int) - 1
      · by_cases h2 : s.to = s.fr + 1
        · have t2 : (s.to != s.fr + 1) = false := by simp [h2]
          have HN2 := Lib.hid (show aloneB l (ss.take (i + 1)) = true by rw [HNx.out, HS.out]; simp [sideB, h2])
          clear h2
          go_wp2_with fail
          go_roundw
          case rel => exact ⟨i + 1, hlt, by go_num, HN2, HB⟩
          case measure => simp [intOf] <;> omega
        · have t2 : (s.to != s.fr + 1) = true := by simp [h2]
          have HE := Lib.hid (HU.out (by rw [HNx.out]; simp [sideB, h1, h2]))
          clear h2
          go_wp2_with fail
          go_ret2
          exact ⟨by rw [HE.out]; rfl, chain HB0.out HB.out⟩
      · have HN2 := Lib.hid (show aloneB l (ss.take (i + 1)) = true by rw [HNx.out, HS.out]; simp [sideB, h1])
        go_wp2_with fail
        go_roundw
        case rel => exact ⟨i + 1, hlt, by go_num, HN2, HB⟩
        case measure => simp [intOf] <;> omega
    · obtain rfl : i = n := Nat.le_antisymm hi (Nat.le_of_not_lt hlt)
      have hlt' : ¬ (i : Int) < (i : Int) := Int.lt_irrefl _
      have HE := Lib.hid (show aloneB l ss = true by have := HS.out; rwa [List.take_of_length_le (by rw [HN.out]; exact Nat.le_refl _)] at this)
      go_wp2_with fail
      go_ret2
      exact ⟨by rw [HE.out]; rfl, chain HB0.out HB.out⟩
/-- The places of the spans that have not ended. -/
def openL (ss : List SpR) (k : Nat) : List Nat := (List.range k).filter fun i => (spG ss i).to == -1
theorem openL_yes (ss : List SpR) (k : Nat) (hb : (spG ss k).to = -1) : openL ss (k + 1) = openL ss k ++ [k] := by
  unfold openL; rw [List.range_succ, List.filter_append, List.filter_cons_of_pos (by rw [hb]; rfl)]; rfl
theorem openL_no (ss : List SpR) (k : Nat) (hb : ¬ (spG ss k).to = -1) : openL ss (k + 1) = openL ss k := by
  unfold openL; rw [List.range_succ, List.filter_append, List.filter_cons_of_neg (by simpa using hb)]; exact List.append_nil _
theorem openL_len (ss : List SpR) (k : Nat) : (openL ss k).length ≤ k := by
  have := List.length_filter_le (fun i => (spG ss i).to == -1) (List.range k)
  simpa [openL] using this
def natV (x : Nat) : Value := .int .i64 (x : Int)
def natZ (ys : List Nat) : List Int := ys.map fun x : Nat => (x : Int)
theorem natZ_getD (ys : List Nat) (j : Nat) : (natZ ys).getD j 0 = (ys.getD j 0 : Nat) := by
  simp only [natZ, List.getD, List.getElem?_map]
  cases ys[j]? <;> simp
theorem natZ_len (ys : List Nat) : (natZ ys).length = ys.length := by simp [natZ]
theorem own_nats {w : World} {base n : Nat} {A : Option Addr} {c : Nat} {ys : List Nat} (h : w.ownsRow base 3 1 (.slice A n c) n (ys.map natV)) (hb : ∀ x ∈ ys, x ≤ 1000000) : Ints w A n (natZ ys) := by
  have e : (natZ ys).map (Value.int .i64) = ys.map natV := by simp [natZ, natV, Function.comp_def]
  rw [← e] at h
  refine own_ints h fun j => ?_
  rw [natZ_getD]
  have : ys.getD j 0 ≤ 1000000 := by
    simp only [List.getD]
    cases hx : ys[j]? with
    | none => simp
    | some y => simpa using hb y (List.mem_of_getElem? hx)
  omega
theorem int_infoH : (Try.prog.info? 3).map (fun i => (i.zero, i.size, i.bytes)) = some (some (.int .i64 0), 1, 8) := by kernel_rfl
theorem openL_le (ss : List SpR) (k : Nat) : ∀ x ∈ openL ss k, x ≤ k := fun x hx => by
  have := (List.mem_filter.1 hx).1
  have := List.mem_range.1 this
  omega
theorem hopen_no (A : Option Addr) (l cp : Nat) (h : List EvR) (w : World) (hH : Evs w A l h) (hl : l ≤ maxLen) (hlm : l ≤ 1000000) (hr : rightH h = false) :
    Calls Try.prog 15 #[.slice A l cp] w fun e w' => e = .returned (.tuple #[.slice none 0 0, .int .i64 1]) ∧ Below w.heap.size w w' := by
  have HR := Lib.hid (hspans_no A l cp h w hH hl hlm hr)
  clear hH hr
  go_enter Try.func15, Try.ntmps15
  go_wp2_with fail
  refine HR.out.mono ?_
  rintro e w1 ⟨rfl, hb⟩
  have HB := Lib.hid hb
  clear hb HR
  go_wp2_with fail
  go_ret2
  exact ⟨rfl, HB.out⟩
/-- A row of numbers and no error is returned. -/
def NumsOut (ys : List Nat) (w : World) (e : Ending) (w' : World) : Prop :=
  ∃ A c, e = .returned (.tuple #[.slice A ys.length c, .int .i64 0]) ∧ ys.length ≤ c ∧ c ≤ maxLen ∧ Ints w' A ys.length (natZ ys) ∧ Below w.heap.size w w'
set_option maxHeartbeats 4000000 in
theorem hopen_yes (A : Option Addr) (l cp : Nat) (h : List EvR) (w : World) (hH : Evs w A l h) (hl : l ≤ maxLen) (hlm : l ≤ 1000000) (hr : rightH h = true) :
    Calls Try.prog 15 #[.slice A l cp] w (NumsOut (openL (spansL h l) (spansL h l).length) w) := by
  obtain ⟨i0, hi, hz0, hz1, hz2⟩ := info_parts int_infoH
  have HI := Lib.hid hi
  have HZ0 := Lib.hid hz0
  have HZ1 := Lib.hid hz1
  have HZ2 := Lib.hid hz2
  have HR := Lib.hid (hspans_yes A l cp h w hH hl hlm hr)
  have HLn := Lib.hid (spansL_len h l)
  clear hH hr hl hi hz0 hz1 hz2
  generalize spansL h l = ss at *
  go_enter Try.func15, Try.ntmps15
  go_wp2_with fail
  refine HR.out.mono ?_
  rintro e w1 ⟨A1, c1, rfl, q1, q2, q3, hb⟩
  have HB0 := Lib.hid hb
  have HS0 := Lib.hid q3
  have hn := HLn.out
  generalize hnn : ss.length = n at *
  have HN := Lib.hid hnn
  clear hb HR q1 q2 q3 hnn
  go_wp2_with fail
  go_loopw [6, 19] (fun v t wr => ∃ i : Nat, i ≤ n ∧ t = .int .i64 (i : Int) ∧ wr.ownsRow w1.heap.size 3 1 v (openL ss i).length ((openL ss i).map natV) ∧ Below w1.heap.size w1 wr) (fun _ t _ => n - (intOf t).toNat)
  case atStart => exact ⟨0, Nat.zero_le _, rfl, World.ownsRow_nil _ _ _ _, Below.refl _ _⟩
  case round =>
    obtain ⟨i, hi, rfl, hown, hbel⟩ := hrel
    have HO := Lib.hid hown
    have HC := Lib.hid hbel
    clear hown hbel
    by_cases hlt : i < n
    · have hlt' : (i : Int) < (n : Int) := Int.ofNat_lt.2 hlt
      obtain ⟨b, off, rfl, hlb, d0, d1, d2, d3, d4, d5, d6, d7, d8, d9, d10, d11, d12, d13⟩ := HS0.out.cells HC.out i hlt
      have HSy := Lib.hid (openL_yes ss i)
      have HSn := Lib.hid (openL_no ss i)
      have hsl := openL_len ss i
      have G := Lib.hid (Box.new wr 41 (spA (spG ss i)))
      have c1 := Lib.hid (show Below wr.heap.size wr (wr.alloc (.cells (spA (spG ss i)) 41)) from (Below.refl _ _).alloc (Nat.le_refl _) _)
      have c2 := Lib.hid (show Below wr.heap.size wr ((wr.alloc (.cells (spA (spG ss i)) 41)).alloc (.cells #[.int .i64 (i : Int)] 3)) from c1.out.alloc c1.out.size _)
      have YO := Lib.hid (own_keep HO.out c1.out)
      have YB := Lib.hid (HC.out.trans (c1.out.mono HC.out.size))
      have XO := Lib.hid (own_keep HO.out c2.out)
      have XB := Lib.hid (HC.out.trans (c2.out.mono HC.out.size))
      have N2 := Lib.hid (fun g hg => (HO.out.lt g hg).1)
      have NW := Lib.hid (show ∀ j u, ([Value.int .i64 (i : Int)])[j]? = some u → ((wr.alloc (.cells (spA (spG ss i)) 41)).alloc (.cells #[.int .i64 (i : Int)] 3)).cell? ((⟨wr.heap.size + 1, 0, none⟩ : Addr).add j) = some u from by
        have := World.news_of_block (Box.new (wr.alloc (.cells (spA (spG ss i)) 41)) 3 #[.int .i64 (i : Int)])
        rw [World.size_alloc] at this
        exact this)
      obtain ⟨-, -, -, -, -, -, -, -, -, -, -, -, g12, g13⟩ := G.out.sp
      generalize spG ss i = s at *
      clear G c1
      by_cases h1 : s.to = -1
      · have t1 : (s.to == -1) = true := by simp [h1]
        have HS := Lib.hid (HSy.out h1)
        clear h1 HSy HSn
        go_wp2_with (at_builtin; refine wpList_append_own _ rfl _ _ 44 rfl w1.heap.size 3 i0 (.int .i64 0) 1 8 Try.underlying44 HI.out HZ0.out HZ1.out HZ2.out rfl (by decide) _ _ _ rfl XO.out ⟨wr.heap.size + 1, 0, none⟩ 1 1 [.int .i64 (i : Int)] rfl rfl NW.out (by simp [Value.oneCell']) (by simp [maxLen]; omega) (by omega) XB.out.size ?_; intro v' w2 hown' hgrow _; have HC2 := Lib.hid (XB.out.grown hgrow XB.out.size N2.out); have HO2 := Lib.hid hown'; clear hown' hgrow)
        go_roundw
        case rel =>
          refine ⟨i + 1, hlt, by go_num, ?_, HC2.out⟩
          rw [HS.out, List.length_append, List.map_append]
          exact HO2.out
        case measure => simp [intOf] <;> omega
      · have t1 : (s.to == -1) = false := by simp [h1]
        have HS := Lib.hid (HSn.out h1)
        clear h1 HSy HSn
        go_wp2_with fail
        go_roundw
        case rel => exact ⟨i + 1, hlt, by go_num, by rw [HS.out]; exact YO.out, YB.out⟩
        case measure => simp [intOf] <;> omega
    · obtain rfl : i = n := Nat.le_antisymm hi (Nat.le_of_not_lt hlt)
      have hlt' : ¬ (i : Int) < (i : Int) := Int.lt_irrefl _
      obtain ⟨A7, c7, hv, hnil⟩ := own_form HO.out
      subst hv
      have HX := Lib.hid (own_nats HO.out (fun x hx => by have := openL_le ss i x hx; omega))
      have HCp := Lib.hid (own_capH HO.out)
      have BB := Lib.hid (chain HB0.out HC.out)
      go_wp2_with fail
      go_ret2
      exact ⟨A7, c7, rfl, HCp.out.1, HCp.out.2, HX.out, BB.out⟩
end Go.Proofs.Ytmbmmfdobkbbfaa
