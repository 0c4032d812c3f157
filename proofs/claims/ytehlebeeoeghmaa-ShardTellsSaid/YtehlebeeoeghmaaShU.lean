/- Layer 13: slices.SortFunc at symbols, by numbers; All. -/
import Derived.Test.YtehlebeeoeghmaaShT
import Derived.Test.YtehlebeeoeghmaaShelf
import Derived.Lib.SliceRun
namespace Go.Proofs.Ytehlebeeoeghmaa
set_option linter.unusedVariables false
set_option linter.unusedSimpArgs false
open Go.RowKit Go.Sort Go.Lib Go.Shelf
set_option maxRecDepth 100000
theorem grow4 (w : World) (a b c d : Obj) : ((((w.alloc a).alloc b).drew.alloc c).alloc d) = grow (w.drewN 1) #[a, b, c, d] := by
  have e : (((w.heap.push a).push b).push c).push d = w.heap ++ #[a, b, c, d] := by apply Array.ext'; simp
  show ({ w.drewN 1 with heap := (((w.heap.push a).push b).push c).push d } : World) = { w.drewN 1 with heap := w.heap ++ #[a, b, c, d] }
  rw [e]
theorem sortedS_block (w : World) (n blk off : Nat) (d : Array SymR) (os : Array Obj) (k : Nat) (hk : k < w.heap.size) (hne : k ≠ blk) : (sortWorldK encS 2 w blk off n d os).heap[k]? = w.heap[k]? := by
  unfold sortWorldK putRowK
  rw [heap_grow_old _ _ (by simp; omega)]
  show (mapBlock (Sort.ahead w n) blk _).heap[k]? = _
  simp only [mapBlock, Array.getElem?_modify]
  rw [if_neg (fun e => hne e.symm)]; rfl
theorem sortedS_below (w : World) (n blk off : Nat) (d : Array SymR) (os : Array Obj) (h : blk < w.heap.size) : Below blk w (sortWorldK encS 2 w blk off n d os) :=
  ⟨rfl, rfl, rfl, by simp [sortWorldK, putRowK], fun k hk => sortedS_block w n blk off d os k (by omega) (by omega)⟩
theorem getD_bangS (xs : List SymR) (i : Nat) : xs.toArray[i]! = xs.getD i default := by
  simp [List.getD]
theorem encS_bang (x : SymR) (c : Nat) (hc : c < 2) : (encS x)[c]? = some (encS x)[c]! := by
  match c, hc with
  | 0, _ => rfl
  | 1, _ => rfl
theorem holds_flatS {w : World} {g : Nat} {e : TypeId} {cur : Array Value} {xs : List SymR} {n : Nat} (hn : xs.length = n) (hbx : Box w g e cur) (hx : cur.toList.take (n * 2) = xs.flatMap encS) : HoldsK encS 2 w g 0 xs.toArray := by
  intro j hj
  have hj' : j < xs.length * 2 := by simpa using hj
  have e1 : cur[j]? = (xs.flatMap encS)[j]? := by rw [← hx, List.getElem?_take, if_pos (by omega), Array.getElem?_toList]
  have e2 : (xs.flatMap encS)[j]? = (encS (xs.getD (j / 2) default))[j % 2]? := by
    have := flat_at encS_len xs (j / 2) (j % 2) (by omega) (Nat.mod_lt _ (by decide))
    rwa [show j / 2 * 2 + j % 2 = j by omega] at this
  rw [Nat.zero_add, hbx.cell j, hbx.free j, e1, e2, get_flatK encS 2 xs.toArray j (by simpa using hj'), getD_bangS]
  exact ⟨encS_bang _ _ (Nat.mod_lt _ (by decide)), rfl⟩
theorem holds_syms {w : World} {g : Nat} {xs : List SymR} (h : HoldsK encS 2 w g 0 xs.toArray) (hg : g < w.heap.size) : Syms w (some ⟨g, 0, none⟩) xs.length xs := by
  refine ⟨rfl, fun _ => ⟨g, 0, rfl, hg, fun j hj k v hv => ?_⟩⟩
  have hk : k < 2 := by have := (List.getElem?_eq_some_iff.1 hv).1; rwa [encS_len] at this
  have := (HoldsK.cell h (i := j) (c := k) (by simpa using hj) hk).1
  rw [this, getD_bangS]
  rw [encS_bang _ _ hk] at hv
  exact hv
theorem own_partsS {w : World} {base e n c : Nat} {a : Addr} {xs : List SymR} (h : w.ownsRow base e 2 (.slice (some a) n c) n (xs.flatMap encS)) (hn : xs.length = n) : ∃ g, a = ⟨g, 0, none⟩ ∧ n ≤ c ∧ c ≤ maxLen ∧ base ≤ g ∧ g < w.heap.size ∧ HoldsK encS 2 w g 0 xs.toArray := by
  rcases h.2 with ⟨h0, _⟩ | ⟨g, cap, cur, hv, hb, hh, hcap, hm, hs, hx⟩
  · cases h0
  · injection hv with e1 e2 e3
    injection e1 with e1
    subst e1 e3
    have hbx : Box w g e cur := hh
    exact ⟨g, rfl, hcap, hm, hb, hbx.lt, holds_flatS hn hbx hx⟩
def cmpD (x y : SymR) : Int := cmpI (x.1 : Int) (y.1 : Int)
theorem ltOf_cmpS (x y : SymR) : ltOf cmpD x y = decide (x.1 < y.1) := by
  have : ltOf cmpD x y = decide (cmpI (x.1 : Int) (y.1 : Int) < 0) := rfl
  rw [this]
  apply decide_eq_decide.2
  rw [cmpI_lt]
  omega
theorem swoS : SWO (ltOf cmpD) := {
  irrefl := fun x => by rw [ltOf_cmpS]; simp
  trans := fun x y z h1 h2 => by rw [ltOf_cmpS] at *; simp at *; omega
  ntrans := fun x y z h1 h2 => by rw [ltOf_cmpS] at *; simp at *; omega }
theorem cmpLaysS (g blk off size : Nat) (w : World) (hg : Box w g 61 #[numF]) (hne : g ≠ blk) : CmpLays Try.prog 43 #[.pointer (some ⟨g, 0, none⟩)] encS 2 cmpD blk off size w :=
  fun m os dk _ x y => (cmpX_any g x y _ (show Box _ g _ _ from (sortedS_block w m blk off dk os g hg.lt hne).trans hg)).mono fun _ _ ⟨he, hw⟩ => ⟨he, 1, #[_, _, _, _], hw.trans (grow4 _ _ _ _ _)⟩
set_option maxHeartbeats 1000000 in
theorem sortS_any (g c gb : Nat) (xs : List SymR) (w : World) (h : HoldsK encS 2 w g 0 xs.toArray) (hg : g < w.heap.size) (hl : xs.length ≤ 1000000) (hb : Box w gb 61 #[numF]) (hne : gb ≠ g) :
    Calls Try.prog 40 #[.slice (some ⟨g, 0, none⟩) xs.length c, cmpF gb] w fun e w' => e = .returned (.tuple #[]) ∧ ∃ zs : List SymR, zs.Perm xs ∧ (zs.Pairwise fun a b => ¬ b.1 < a.1) ∧ HoldsK encS 2 w' g 0 zs.toArray ∧ g < w'.heap.size ∧ Below g w w' := by
  have eg : ∀ args w, (callFunc 43 args).run Try.prog w = .ok (.enter 43 args) w := enters_of Try.func43 (by kernel_rfl) rfl
  have hcon := AnyQ.slices_SortFunc Try.sortSy 2 Try.isAgg27 Try.sizeOf27 encS encS_len (fun x v hv => encS_one x v hv) cmpD swoS 43 #[.pointer (some ⟨gb, 0, none⟩)] g 0 c xs.toArray w eg (cmpLaysS gb g 0 xs.toArray.size w hb hne) h hg (by simp; omega)
  change Calls Try.prog 40 _ _ _ at hcon
  have hsz : xs.toArray.size = xs.length := by simp
  rw [hsz] at hcon
  refine hcon.mono ?_
  rintro e w' ⟨he, d', n, os, hp, hs, rfl⟩
  obtain ⟨h1, -, h3⟩ := hp
  have e1 : d'.extract 0 xs.length = d' := by rw [← hsz, ← h1]; exact Array.extract_size
  have e2 : xs.toArray.extract 0 xs.length = xs.toArray := by rw [← hsz]; exact Array.extract_size
  rw [e1, e2] at h3
  have hlt : g < (putRowK encS 2 (Sort.ahead w n) g 0 d').heap.size := by simpa [putRowK] using hg
  have hd : d' = d'.toList.toArray := by simp
  refine ⟨he, d'.toList, h3, ?_, ?_, ?_, sortedS_below w n g 0 _ os hg⟩
  · rw [List.pairwise_iff_getElem]
    intro i j hi hj hij
    have h9 := hs i j (Nat.zero_le _) hij (by rw [← hsz, ← h1]; simpa using hj)
    rw [ltOf_cmpS, decide_eq_false_iff_not] at h9
    have hi2 : i < d'.size := by simpa using hi
    have hj2 : j < d'.size := by simpa using hj
    rw [getElem!_pos d' i hi2, getElem!_pos d' j hj2] at h9
    simpa using h9
  · rw [← hd]
    exact holdsK_grow encS 2 _ os g 0 _ hlt (holdsK_putRowK encS 2 (Sort.ahead w n) g 0 xs.toArray _ (holdsK_ahead encS 2 w n g 0 _ h) (by rw [h1]))
  · unfold sortWorldK; rw [size_grow]; omega
theorem sortS_none (c : Nat) (p : Option Addr) (fv : Value) (w : World) :
    Calls Try.prog 40 #[.slice p 0 c, fv] w fun e w' => e = .returned (.tuple #[]) ∧ w' = w :=
  AnyF.slices_SortFunc_none Try.sortSy p c _ w
end Go.Proofs.Ytehlebeeoeghmaa
