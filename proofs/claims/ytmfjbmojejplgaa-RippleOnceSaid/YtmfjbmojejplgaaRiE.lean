/- Layer 14: slices.Clone at drops; slices.SortFunc at drops (over the shelf's contract); Sorted, First. -/
import Derived.Test.YtmfjbmojejplgaaRiD
import Derived.Test.YtmfjbmojejplgaaShelf
import Derived.Lib.SliceRun
namespace Go.Proofs.Ytmfjbmojejplgaa
set_option linter.unusedVariables false
set_option linter.unusedSimpArgs false
open Go.RowKit Go.Sort Go.Lib Go.Shelf
set_option maxRecDepth 100000
theorem getD_bang (xs : List DrR) (i : Nat) : xs.toArray[i]! = xs.getD i default := by
  simp [List.getD]
theorem encD_bang (x : DrR) (c : Nat) (hc : c < 2) : (encD x)[c]? = some (encD x)[c]! := by
  match c, hc with
  | 0, _ => rfl
  | 1, _ => rfl
theorem holds_flat {w : World} {g : Nat} {e : TypeId} {cur : Array Value} {xs : List DrR} {n : Nat} (hn : xs.length = n) (hbx : Box w g e cur) (hx : cur.toList.take (n * 2) = xs.flatMap encD) : HoldsK encD 2 w g 0 xs.toArray := by
  intro j hj
  have hj' : j < xs.length * 2 := by simpa using hj
  have e1 : cur[j]? = (xs.flatMap encD)[j]? := by rw [← hx, List.getElem?_take, if_pos (by omega), Array.getElem?_toList]
  have e2 : (xs.flatMap encD)[j]? = (encD (xs.getD (j / 2) default))[j % 2]? := by
    have := flat_at encD_len xs (j / 2) (j % 2) (by omega) (Nat.mod_lt _ (by decide))
    rwa [show j / 2 * 2 + j % 2 = j by omega] at this
  rw [Nat.zero_add, hbx.cell j, hbx.free j, e1, e2, get_flatK encD 2 xs.toArray j (by simpa using hj'), getD_bang]
  exact ⟨encD_bang _ _ (Nat.mod_lt _ (by decide)), rfl⟩
theorem holds_drs {w : World} {g : Nat} {xs : List DrR} (h : HoldsK encD 2 w g 0 xs.toArray) (hg : g < w.heap.size) : Drs w (some ⟨g, 0, none⟩) xs.length xs := by
  refine ⟨rfl, fun _ => ⟨g, 0, rfl, hg, fun j hj k v hv => ?_⟩⟩
  have hk : k < 2 := by have := (List.getElem?_eq_some_iff.1 hv).1; rwa [encD_len] at this
  have := (HoldsK.cell h (i := j) (c := k) (by simpa using hj) hk).1
  rw [this, getD_bang]
  rw [encD_bang _ _ hk] at hv
  exact hv
theorem own_parts {w : World} {base e n : Nat} {v : Value} {xs : List DrR} (h : w.ownsRow base e 2 v n (xs.flatMap encD)) (hn : xs.length = n) (hne : v ≠ .slice none 0 0) : ∃ g c, v = .slice (some ⟨g, 0, none⟩) n c ∧ n ≤ c ∧ c ≤ maxLen ∧ base ≤ g ∧ g < w.heap.size ∧ HoldsK encD 2 w g 0 xs.toArray := by
  rcases h.2 with ⟨h0, _⟩ | ⟨g, cap, cur, rfl, hb, hh, hcap, hm, hs, hx⟩
  · exact absurd h0 hne
  · have hbx : Box w g e cur := hh
    exact ⟨g, cap, rfl, hcap, hm, hb, hbx.lt, holds_flat hn hbx hx⟩
theorem sorted_belowK (w : World) (n blk off : Nat) (d : Array DrR) (os : Array Obj) (h : blk < w.heap.size) : Below blk w (sortWorldK encD 2 w blk off n d os) :=
  ⟨rfl, rfl, rfl, by simp [sortWorldK, putRowK], fun k hk => by
    unfold sortWorldK putRowK
    rw [heap_grow_old _ _ (by simp; omega)]
    show (mapBlock (Sort.ahead w n) blk _).heap[k]? = _
    simp only [mapBlock, Array.getElem?_modify]
    rw [if_neg (by omega)]; rfl⟩
theorem ltOf_cmpD (x y : DrR) : ltOf cmpD x y = befD x y := cmpD_lt x y
theorem swoD : SWO (ltOf cmpD) := {
  irrefl := fun x => by rw [ltOf_cmpD, befD_no]; omega
  trans := fun x y z h1 h2 => by rw [ltOf_cmpD, befD_iff] at *; omega
  ntrans := fun x y z h1 h2 => by rw [ltOf_cmpD, befD_no] at *; omega }
theorem cmpLaysD (blk off size : Nat) (w : World) : CmpLays Try.prog 18 #[] encD 2 cmpD blk off size w :=
  fun _ _ _ _ x y => compare_any x y _
set_option maxHeartbeats 1000000 in
theorem sort_drops (g c : Nat) (xs : List DrR) (w : World) (h : HoldsK encD 2 w g 0 xs.toArray) (hg : g < w.heap.size) (hl : xs.length ≤ 1000000) :
    Calls Try.prog 20 #[.slice (some ⟨g, 0, none⟩) xs.length c, .func (.func 18) #[] #[]] w fun e w' => e = .returned (.tuple #[]) ∧ HoldsK encD 2 w' g 0 (srtD xs).toArray ∧ g < w'.heap.size ∧ Below g w w' := by
  have eg : ∀ args w, (callFunc 18 args).run Try.prog w = .ok (.enter 18 args) w := enters_of Try.func18 (by kernel_rfl) rfl
  have hcon := AnyQ.slices_SortFunc_total Try.sortDr 2 Try.isAgg24 Try.sizeOf24 encD encD_len (fun x v hv => encD_one x v hv) cmpD swoD 18 #[] g 0 c xs.toArray w eg (cmpLaysD g 0 xs.toArray.size w) h hg (by simp; omega) (fun x y h1 h2 => by
    rw [ltOf_cmpD, befD_no] at *
    have e1 : x.1 = y.1 := by omega
    have e2 : x.2 = y.2 := by omega
    exact Prod.ext e1 e2)
  change Calls Try.prog 20 _ _ _ at hcon
  have hsz : xs.toArray.size = xs.length := by simp
  rw [hsz] at hcon
  refine hcon.mono ?_
  rintro e w' ⟨he, n, os, rfl⟩
  have hle : (fun x y => !(ltOf cmpD) y x) = leD := by funext x y; rw [ltOf_cmpD]; rfl
  have hm : (xs.toArray.toList.mergeSort fun x y => !(ltOf cmpD) y x).toArray = (srtD xs).toArray := by rw [hle]; rfl
  rw [hm]
  have hlt : g < (putRowK encD 2 (Sort.ahead w n) g 0 (srtD xs).toArray).heap.size := by simpa [putRowK] using hg
  refine ⟨he, ?_, ?_, sorted_belowK w n g 0 _ os hg⟩
  · exact holdsK_grow encD 2 _ os g 0 _ hlt (holdsK_putRowK encD 2 (Sort.ahead w n) g 0 xs.toArray _ (holdsK_ahead encD 2 w n g 0 _ h) (by simp [srtD_len]))
  · unfold sortWorldK; rw [size_grow]; omega
/-- What slices.Clone hands back, of a row that is not nil. -/
def CloneOut (xs : List DrR) (w : World) (e : Ending) (w' : World) : Prop := ∃ g c, e = .returned (.slice (some ⟨g, 0, none⟩) xs.length c) ∧ xs.length ≤ c ∧ c ≤ maxLen ∧ w.heap.size ≤ g ∧ g < w'.heap.size ∧ HoldsK encD 2 w' g 0 xs.toArray ∧ Below w.heap.size w w'
set_option maxHeartbeats 1000000 in
theorem clone_drops (ad : Addr) (l cp : Nat) (xs : List DrR) (w : World) (hH : Drs w (some ad) l xs) (hl : l ≤ 1000000) :
    Calls Try.prog 19 #[.slice (some ad) l cp] w (CloneOut xs w) := by
  obtain ⟨i0, hi, hz0, hz1, hz2⟩ := info_parts drop_info
  have hb1 : Below w.heap.size w (w.alloc (.cells #[] 24)) := (Below.refl _ _).alloc (Nat.le_refl _) _
  have ZO := Lib.hid (own_emptyD w w.heap.size 24 (Nat.le_refl _))
  have NW := Lib.hid (Recs.news (Recs.below hH hb1) encD_len (by decide) ad rfl)
  have FL := Lib.hid (show (xs.flatMap encD).length = l * 2 by rw [flat_len encD_len, hH.1])
  have HO1 := Lib.hid (flat_one (xs := xs) encD_one)
  have HI := Lib.hid hi
  have HZ0 := Lib.hid hz0
  have HZ1 := Lib.hid hz1
  have HZ2 := Lib.hid hz2
  have HB := Lib.hid hb1
  have HN := Lib.hid hH.1
  clear hH hi hz0 hz1 hz2 hb1
  have q22 : ∀ (w : World) (a : Option Addr) (n c n' c' : Nat), (binOp .eql 25 (.slice a n c) (.slice none n' c')).run Try.prog w = .ok (.bool a.isNone) w := fun w a n c n' c' => Lib.run_eql_slice_nil w _ _ a n c n' c' Try.underlying25
  go_enter Try.func19, Try.ntmps19
  go_wp2_with (at_builtin; refine wpList_append_own _ rfl _ _ 25 rfl w.heap.size 24 i0 _ 2 16 Try.underlying25 HI.out HZ0.out HZ1.out HZ2.out rfl (by decide) _ _ _ rfl ZO.out ad l cp (xs.flatMap encD) rfl FL.out NW.out HO1.out (by simp [maxLen]; omega) (by omega) HB.out.size ?_; intro v' w2 hown' hgrow hnil; have HC2 := Lib.hid (HB.out.grown hgrow HB.out.size (fun g hg => (ZO.out.lt g hg).1)); have HO2 := Lib.hid hown'; have HNl := Lib.hid (show v' ≠ .slice none 0 0 from fun e => by have := (hnil.1 e).1; cases this); clear hown' hgrow hnil)
  obtain ⟨g, c, hv, h1, h2, h3, h4, h5⟩ := own_parts (xs := xs) (n := 0 + l) (by simpa using HO2.out) (by rw [HN.out, Nat.zero_add]) HNl.out
  rw [Nat.zero_add] at hv h1
  subst hv
  go_ret
  exact ⟨g, c, by rw [HN.out]; rfl, by rw [HN.out]; exact h1, h2, h3, h4, h5, HC2.out⟩
set_option maxHeartbeats 1000000 in
theorem clone_none (w : World) : Calls Try.prog 19 #[.slice none 0 0] w fun e w' => e = .returned (.slice none 0 0) ∧ w' = w := by
  have q22 : ∀ (w : World) (a : Option Addr) (n c n' c' : Nat), (binOp .eql 25 (.slice a n c) (.slice none n' c')).run Try.prog w = .ok (.bool a.isNone) w := fun w a n c n' c' => Lib.run_eql_slice_nil w _ _ a n c n' c' Try.underlying25
  go_enter Try.func19, Try.ntmps19
  go_wp2_with fail
  go_ret
  exact ⟨rfl, rfl⟩
theorem sort_none (c : Nat) (p : Option Addr) (w : World) :
    Calls Try.prog 20 #[.slice p 0 c, .func (.func 18) #[] #[]] w fun e w' => e = .returned (.tuple #[]) ∧ w' = w :=
  AnyF.slices_SortFunc_none Try.sortDr p c _ w
set_option maxHeartbeats 1000000 in
theorem sorted_any (A : Option Addr) (l cp : Nat) (xs : List DrR) (w : World) (hs : A = none → l = 0 ∧ cp = 0) (hH : Drs w A l xs) (hl : l ≤ 1000000) :
    Calls Try.prog 13 #[.slice A l cp] w (DropsOne (srtD xs) w) := by
  cases A with
  | none =>
    obtain ⟨rfl, rfl⟩ := hs rfl
    obtain ⟨-, rfl⟩ := Recs.none_ hH
    have HZ := Lib.hid (show srtD ([] : List DrR) = [] from List.eq_nil_of_length_eq_zero (srtD_len []))
    clear hH hs hl
    go_enter Try.func13, Try.ntmps13
    go_wp2_with fail
    refine (clone_none w).mono ?_
    rintro e w1 ⟨rfl, rfl⟩
    go_wp2_with fail
    refine (sort_none 0 none _).mono ?_
    rintro e w2 ⟨rfl, rfl⟩
    go_wp2_with fail
    go_ret
    rw [HZ.out]
    exact ⟨none, 0, rfl, ⟨Nat.le_refl _, Nat.zero_le _, fun _ => ⟨rfl, rfl⟩⟩, Recs.nil _ _, Below.refl _ _⟩
  | some ad =>
    have HC := Lib.hid (clone_drops ad l cp xs w hH hl)
    have HN := Lib.hid hH.1
    have hxl : xs.length ≤ 1000000 := by rw [hH.1]; exact hl
    clear hH hs
    go_enter Try.func13, Try.ntmps13
    go_wp2_with fail
    refine HC.out.mono ?_
    rintro e w1 ⟨g, c, rfl, h1, h2, h3, h4, h5, hb⟩
    have HB := Lib.hid hb
    have HS := Lib.hid (sort_drops g c xs w1 h5 h4 hxl)
    have HG := Lib.hid (And.intro h1 (And.intro h2 h3))
    clear hb HC h1 h2 h3 h4 h5
    go_wp2_with fail
    refine HS.out.mono ?_
    rintro e w2 ⟨rfl, h6, h7, hb⟩
    have HX := Lib.hid (holds_drs h6 h7)
    have HB2 := Lib.hid (HB.out.trans (hb.mono HG.out.2.2))
    have hsl := srtD_len xs
    clear hb h6 h7 HS
    go_wp2_with fail
    go_ret
    exact ⟨some ⟨g, 0, none⟩, c, by rw [srtD_len]; rfl, ⟨by rw [srtD_len]; exact HG.out.1, HG.out.2.1, fun e => by cases e⟩, HX.out, HB2.out⟩
end Go.Proofs.Ytmfjbmojejplgaa
