/- Layer 14: deeds; what they take and leave, as lists. -/
import Derived.Test.YtmfjbmojejplgaaRiQ
namespace Go.Proofs.Ytmfjbmojejplgaa
set_option linter.unusedVariables false
set_option linter.unusedSimpArgs false
open Go.RowKit Go.Sort Go.Joins Go.ChangeShapes Go.WideShapes
set_option maxRecDepth 100000
/-- A deed: is the least one taken? else the drop is pushed. -/
abbrev DeR := Bool × DrR
abbrev deA (x : DeR) : Array Value := #[.bool x.1, .int .i64 x.2.1, .int .u64 (x.2.2 : Int)]
def encG (x : DeR) : List Value := (deA x).toList
theorem encG_len (x : DeR) : (encG x).length = 3 := rfl
abbrev Des (w : World) (A : Option Addr) (l : Nat) (xs : List DeR) : Prop := Recs encG 3 w A l xs
abbrev deAt (xs : List DeR) (j : Nat) : DeR := xs.getD j default
theorem Des.cells {w x : World} {A : Option Addr} {l : Nat} {xs : List DeR} (h : Des w A l xs) (hb : Below w.heap.size w x) (j : Nat) (hj : j < l) : ∃ b off, A = some ⟨b, off, none⟩ ∧ b < w.heap.size ∧ x.cell? ⟨b, off + j * 3, none⟩ = some (.bool (deAt xs j).1) ∧ x.cell? ⟨b, off + j * 3 + 1, none⟩ = some (.int .i64 (deAt xs j).2.1) ∧ x.cell? ⟨b, off + j * 3 + 2, none⟩ = some (.int .u64 ((deAt xs j).2.2 : Int)) := by
  obtain ⟨b, off, e, hlt, hc⟩ := Recs.at h j hj
  have hc := fun k v (hv : (encG (deAt xs j))[k]? = some v) => (hb.cell (p := ⟨b, off + j * 3 + k, none⟩) hlt).trans (hc k v hv)
  exact ⟨b, off, e, hlt, hc 0 _ rfl, hc 1 _ rfl, hc 2 _ rfl⟩
/-- What is taken, what is left (in order), how many are vain. -/
structure RunS where
  tk : List DrR
  lf : List DrR
  vn : Nat
def stepR (s : RunS) (x : DeR) : RunS := if x.1 = true then (match s.lf with | [] => ⟨s.tk, [], s.vn + 1⟩ | y :: r => ⟨s.tk ++ [y], r, s.vn⟩) else ⟨s.tk, withD s.lf x.2, s.vn⟩
def runL (l : List DeR) : RunS := l.foldl stepR ⟨[], [], 0⟩
theorem take_de (xs : List DeR) (i : Nat) (hi : i < xs.length) : xs.take (i + 1) = xs.take i ++ [deAt xs i] := by rw [List.take_succ_eq_append_getElem hi]; simp [List.getD, hi]
theorem runL_snoc (xs : List DeR) (i : Nat) (hi : i < xs.length) : runL (xs.take (i + 1)) = stepR (runL (xs.take i)) (deAt xs i) := by
  unfold runL; rw [take_de xs i hi, List.foldl_append]; rfl
theorem runL_le (l : List DeR) : (runL l).tk.length ≤ l.length ∧ (runL l).lf.length ≤ l.length ∧ (runL l).vn ≤ l.length ∧ OrdD (runL l).lf := by
  have h : ∀ (l : List DeR) (s : RunS) (m : Nat), s.tk.length ≤ m → s.lf.length ≤ m → s.vn ≤ m → OrdD s.lf → (l.foldl stepR s).tk.length ≤ m + l.length ∧ (l.foldl stepR s).lf.length ≤ m + l.length ∧ (l.foldl stepR s).vn ≤ m + l.length ∧ OrdD (l.foldl stepR s).lf := by
    intro l
    induction l with
    | nil => intro s m h1 h2 h3 h4; exact ⟨h1, h2, h3, h4⟩
    | cons x xs ih =>
      intro s m h1 h2 h3 h4
      have := ih (stepR s x) (m + 1) (by unfold stepR; split <;> (try split) <;> simp_all <;> omega) (by unfold stepR; split <;> (try split) <;> simp_all [withD_len] <;> omega) (by unfold stepR; split <;> (try split) <;> simp_all <;> omega) (by
        unfold stepR
        split
        · split
          · exact List.Pairwise.nil
          · rename_i y r hh
            rw [hh] at h4
            exact (List.pairwise_cons.1 h4).2
        · exact withD_ord h4 _)
      simp only [List.foldl_cons, List.length_cons]
      refine ⟨?_, ?_, ?_, this.2.2.2⟩ <;> omega
  have := h l ⟨[], [], 0⟩ 0 (by simp) (by simp) (by simp) List.Pairwise.nil
  simpa [runL] using this
/-- A heap and its drops in order: the root is the first one. -/
theorem root_first {xs r : List DrR} {y : DrR} (hh : HeapN xs xs.length) (hp : xs.Perm (y :: r)) (ho : OrdD (y :: r)) : drAt xs 0 = y := by
  have hl : 0 < xs.length := by rw [hp.length_eq]; simp
  have h0 : drAt xs 0 ∈ xs := by simp [List.getD, hl]
  have hy : y ∈ xs := hp.mem_iff.2 (List.mem_cons_self)
  obtain ⟨k, hk, hky⟩ := List.mem_iff_getElem.1 hy
  have h1 : leD (drAt xs 0) y = true := by
    have := heap_root hh k hk
    have e : drAt xs k = y := by simp [List.getD, hk, hky]
    unfold leA at this
    rwa [e] at this
  have h2 : leD y (drAt xs 0) = true := by
    rcases List.mem_cons.1 (hp.mem_iff.1 h0) with e | e
    · rw [e, leD_iff]; omega
    · exact (List.pairwise_cons.1 ho).1 _ e
  exact leD_anti _ _ h1 h2
theorem own_chg {w w' : World} {gp n : Nat} {v v' V : Value} {vs : List Value} (h : w.ownsRow (gp + 1) 24 2 V n vs) (hc : Chg w w' gp v v') (hd : ∀ g, V.ownBlock = some g → v.ownBlock ≠ some g) : w'.ownsRow (gp + 1) 24 2 V n vs := by
  refine ⟨h.1, ?_⟩
  rcases h.2 with ⟨h0, hn⟩ | ⟨g, cap, cur, hv, hb, hh, h3⟩
  · exact .inl ⟨h0, hn⟩
  · have hx : Box w g 24 cur := hh
    exact .inr ⟨g, cap, cur, hv, hb, (hc.block g hx.lt (by omega) (hd g (by rw [hv]; rfl))).trans hh, h3⟩
theorem dis_chg {w w' : World} {gp n : Nat} {v v' V : Value} {vs : List Value} (h : w.ownsRow (gp + 1) 24 2 V n vs) (hc : Chg w w' gp v v') (hd : ∀ g, V.ownBlock = some g → v.ownBlock ≠ some g) : ∀ g, V.ownBlock = some g → v'.ownBlock ≠ some g := fun g hg e => by
  have hlt : g < w.heap.size := by
    rcases h.2 with ⟨h0, hn⟩ | ⟨g', cap, cur, hv, hb, hh, h3⟩
    · rw [h0] at hg; cases hg
    · have hx : Box w g' 24 cur := hh
      rw [hv] at hg
      injection hg with hg
      have e2 : g' = g := hg
      rw [← e2]; exact hx.lt
  rcases hc.own g e with e1 | e1
  · exact hd g hg e1
  · omega
theorem below_chg {w w5 w6 : World} {gp : Nat} {v v' : Value} {xs : List DrR} (hw : w.heap.size ≤ gp) (h : Below w.heap.size w w5) (hP : PoolS w5 gp v xs) (hc : Chg w5 w6 gp v v') : Below w.heap.size w w6 :=
  ⟨hc.os.trans h.os, hc.tape.trans h.tape, hc.output.trans h.output, Nat.le_trans h.size hc.size, fun k hk => (hc.block k (Nat.lt_of_lt_of_le hk h.size) (by omega) (fun e => by have := (hP.own.lt k e).1; omega)).trans (h.block k hk)⟩
theorem pool_grown2 {w w' : World} {gp : Nat} {v V : Value} {xs : List DrR} (h : PoolS w gp v xs) (hg : w.grownBy w' V.ownBlock) (hb : ∀ g, V.ownBlock = some g → gp + 1 ≤ g) (hd : ∀ g, V.ownBlock = some g → v.ownBlock ≠ some g) : PoolS w' gp v xs := by
  refine ⟨h.box.grown hg (fun e => by have := hb gp e; omega), ⟨h.own.1, ?_⟩⟩
  rcases h.own.2 with ⟨h0, hn⟩ | ⟨g, cap, cur, hv, hbg, hh, h3⟩
  · exact .inl ⟨h0, hn⟩
  · have hx : Box w g 24 cur := hh
    exact .inr ⟨g, cap, cur, hv, hbg, hx.grown hg (fun e => hd g e (by rw [hv]; rfl)), h3⟩
end Go.Proofs.Ytmfjbmojejplgaa
