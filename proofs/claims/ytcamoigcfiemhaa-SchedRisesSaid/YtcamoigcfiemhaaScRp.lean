/- Layer 20: what threads that rise come to, for the walk. -/
import Derived.Test.YtcamoigcfiemhaaScRk
import Derived.Test.YtcamoigcfiemhaaScRq
import Derived.Test.YtcamoigcfiemhaaScMb
namespace Go.Proofs.Ytcamoigcfiemhaa
set_option linter.unusedVariables false
set_option linter.unusedSimpArgs false
open Go.RowKit Go.Lib
set_option maxRecDepth 100000
theorem belowBoth {B : Nat} {a w : World} {g i : Nat} {t : TypeId} {cs : Array Value} (h : Below B a w) (ha : Box a g t cs) (hw : Box w g t cs) (u : Value) : Below B (a.setCell ⟨g, i, none⟩ u) (w.setCell ⟨g, i, none⟩ u) :=
  ⟨h.os, h.tape, h.output, by simpa [World.setCell] using h.size, fun k hk => by
    by_cases e : k = g
    · subst e
      exact (hw.put i u).trans (ha.put i u).symm
    · rw [Below.heap_setCell _ _ _ _ e, Below.heap_setCell _ _ _ _ e]
      exact h.block k hk⟩
theorem Box.aside {w : World} {g g' : Nat} {t : TypeId} {cs : Array Value} (h : Box w g t cs) (hne : g ≠ g') (i : Nat) (u : Value) : Box (w.setCell ⟨g', i, none⟩ u) g t cs := (Below.heap_setCell _ _ _ _ hne).trans h
theorem size_set (w : World) (p : Addr) (u : Value) : (w.setCell p u).heap.size = w.heap.size := by simp [World.setCell]
theorem cells_put (ths : List Th) (x : Th) (cn : Nat) (hc : x.c = cn) (h4 : cn < 4) (v : Int) (hv : v = (cellsOfT ths).getD cn 0 + x.n) :
    ((cellsOfT ths).map (Value.int .i64)).toArray.setIfInBounds cn (.int .i64 v) = ((cellsOfT (ths ++ [x])).map (Value.int .i64)).toArray := by
  subst hc hv
  rw [cellsOfT_snoc _ _ h4, List.map_set, List.setIfInBounds_toArray]
theorem pre_flat (l : List InR) (x : InR) : (l ++ [x]).flatMap encIn = l.flatMap encIn ++ encIn x := by
  rw [List.flatMap_append]
  congr 1
theorem step_ownR {P : Program} {w : World} {ops : Array Oper} {o : Oper} {a : Act} {K : Act → World → Prop} {Q : Exit → Act → World → Prop} {E : Prop} (hgd : o.guard = none) (s x : Operand) (t : TypeId)
    (ho : o.op = .call { callee := .builtin .append, args := #[s, x], argTypes := #[t, t] })
    (base : Nat) (e : TypeId) (i : TypeInfo) (z : Value) (size bytes : Nat) (ht : P.underlying t = some (.slice e)) (hi : P.info? e = some i) (hz : i.zero = some z)
    (hsize : i.size = size) (hby : i.bytes = bytes) (hzs : z.cells.size = size) (hsz : 0 < size)
    (v : Value) (n : Nat) (xs : List Value) (hs : a.eval s = v) (hown : w.ownsRow base e size v n xs)
    (ad : Addr) (m c : Nat) (news : List Value) (hx : a.eval x = .slice (some ad) m c) (hl : news.length = m * size) (hnews : ∀ j u, news[j]? = some u → w.cell? (ad.add j) = some u) (h1 : ∀ u ∈ news, u.oneCell' = true)
    (h63 : n + m ≤ maxLen) (hbytes : (n + m) * bytes ≤ 140737488355328) (hbase : base ≤ w.heap.size)
    (h : ∀ v' w', w'.ownsRow base e size v' (n + m) (xs ++ news) → w.grownBy w' v.ownBlock → K (a.put o.dst v') w') :
    if Region.wanted o (yielded ops a.tmps) = true then Oper.wp P o a w K Q else E := by
  have hw : Region.wanted o (yielded ops a.tmps) = true := by simp [Region.wanted, hgd]
  rw [if_pos hw]
  obtain ⟨v', w', hr, h2, h3, -⟩ := run_append_own_at (P := P) w base t o.type e i z size bytes ht hi hz hsize hby hzs hsz v n xs hown ad m c news hl hnews h1 h63 hbytes hbase
  unfold Oper.wp execOp
  simp only [ho, resolve, invoke, builtin, Sem.run_bind, Sem.run_pure, Result.andThen_ok, List.map_toArray, List.map_cons, List.map_nil, hs, hx, hr]
  exact h v' w' h2 h3
def EndsR (ths : List Th) (x : Sys × List Int) (m : Nat) : Prop := rightS x.1 = true ∧ doneRes x.1 = (true, 0) ∧ x.2.length = m ∧ x.1.ce = cellsOfT ths ∧ x.1.lo = [-1, -1, -1, -1]
theorem rises_out {ths : List Th} (hok : ∀ x ∈ ths, x.ok) (h8 : ths.length ≤ 8) (hn : ∀ t, 0 ≤ (thAt ths t).n ∧ (thAt ths t).n ≤ 999) {m : Nat} (hm : (m : Int) = remN ths (fun _ => 0)) (qs : List Int) :
    EndsR ths (runS (newS (ths.map Th.ins)) (fullL qs m)) m := by
  obtain ⟨P', g1, g2, g3, g4, g5⟩ := rises_end hok (fullL qs m) (by rw [fullL_len]; exact hm)
  have hr := g1.right hok h8 hn
  have hd : doneB (runS (newS (ths.map Th.ins)) (fullL qs m)).1 = true := by
    unfold doneB
    rw [List.all_eq_true]
    intro t ht
    have ht2 : t < ths.length := by rw [← g1.thl]; exact List.mem_range.1 ht
    rw [g1.ended ht2, g2 t ht2]
    simp
  exact ⟨hr, by unfold doneRes; rw [if_pos hr, hd], by rw [g3, fullL_len], g4, g5⟩
theorem new_right {ths : List Th} (hok : ∀ x ∈ ths, x.ok) (h8 : ths.length ≤ 8) (hn : ∀ t, 0 ≤ (thAt ths t).n ∧ (thAt ths t).n ≤ 999) : rightS (newS (ths.map Th.ins)) = true := (RI.init ths).right hok h8 hn
theorem thsN_ok (xs : List InR) : ∀ x ∈ xs.map thN, x.ok := fun x hx => by
  obtain ⟨y, -, rfl⟩ := List.mem_map.1 hx
  exact thN_ok y
theorem thsN_n (xs : List InR) (t : Nat) : 0 ≤ (thAt (xs.map thN) t).n ∧ (thAt (xs.map thN) t).n ≤ 999 := by
  unfold thAt
  by_cases q : t < xs.length
  · have : (xs.map thN).getD t ⟨[], 0, 0⟩ = thN xs[t] := by simp [List.getD, q]
    rw [this]
    exact numN_bd _
  · have : (xs.map thN).getD t ⟨[], 0, 0⟩ = ⟨[], 0, 0⟩ := by simp [List.getD, Nat.le_of_not_lt q]
    rw [this]
    exact ⟨Int.le_refl _, by decide⟩
theorem thsN_k (xs : List InR) (t : Nat) : (thAt (xs.map thN) t).k ≤ 4 := by
  unfold thAt
  by_cases q : t < xs.length
  · have : (xs.map thN).getD t ⟨[], 0, 0⟩ = thN xs[t] := by simp [List.getD, q]
    rw [this]
    exact locksN_len _ _
  · have : (xs.map thN).getD t ⟨[], 0, 0⟩ = ⟨[], 0, 0⟩ := by simp [List.getD, Nat.le_of_not_lt q]
    rw [this]
    exact Nat.zero_le _
theorem cells_bd (xs : List InR) (h : xs.length ≤ 8) (c : Nat) : 0 ≤ (cellsOfT (xs.map thN)).getD c 0 ∧ (cellsOfT (xs.map thN)).getD c 0 ≤ 9000 := by
  have hb : ∀ c, 0 ≤ totC (xs.map thN) c ∧ totC (xs.map thN) c ≤ 9000 := fun c => by
    have h1 := totC_bd (thsN_n xs) c
    rw [List.length_map] at h1
    omega
  unfold cellsOfT
  match c with
  | 0 => exact hb 0
  | 1 => exact hb 1
  | 2 => exact hb 2
  | 3 => exact hb 3
  | n + 4 => exact ⟨by simp [List.getD], by simp [List.getD]⟩
theorem SysAt.ints {w : World} {A0 A1 A2 A3 A4 A5 : Option Addr} {l0 l1 l2 l3 l4 l5 c0 c1 c2 c3 c4 c5 : Nat} {s : Sys} (h : SysAt w (.agg #[.slice A0 l0 c0, .slice A1 l1 c1, .slice A2 l2 c2, .slice A3 l3 c3, .slice A4 l4 c4, .slice A5 l5 c5]) s) : Ints w A3 l3 s.lo ∧ Ints w A4 l4 s.ce := by
  obtain ⟨B0, k0, d0, B1, k1, d1, B2, k2, d2, B3, k3, d3, B4, k4, d4, B5, k5, d5, e, -, -, -, -, -, -, -, -, -, h3, h4, -⟩ := h
  simp only [Value.agg.injEq, Array.mk.injEq, List.cons.injEq, Value.slice.injEq, and_true] at e
  obtain ⟨-, -, -, ⟨rfl, rfl, -⟩, ⟨rfl, rfl, -⟩, -⟩ := e
  exact ⟨h3, h4⟩
theorem box_ints4 {w : World} {g : Nat} {t : TypeId} {ths : List Th} (h : Box w g t ((cellsOfT ths).map (Value.int .i64)).toArray) (hb : ∀ c, 0 ≤ (cellsOfT ths).getD c 0 ∧ (cellsOfT ths).getD c 0 ≤ 9000) : Ints w (some ⟨g, 0, none⟩) 4 (cellsOfT ths) := by
  refine ⟨rfl, fun j => by have := hb j; omega, fun _ => ⟨g, 0, rfl, h.lt, fun j hj => ?_⟩⟩
  rw [Nat.zero_add]
  refine (h.cell j).trans ?_
  have : j = 0 ∨ j = 1 ∨ j = 2 ∨ j = 3 := by omega
  rcases this with rfl | rfl | rfl | rfl <;> rfl
theorem numbers_same {w : World} {A B : Option Addr} {la lb : Nat} {xs ys : List Int} (h1 : Ints w A la xs) (h2 : Ints w B lb ys) (ca cb : Nat) (e : xs = ys) (h4 : ys.length ≤ 4) (wy : World) (hb : Below w.heap.size w wy) :
    Calls Try.prog 20 #[.slice A la ca, .slice B lb cb] wy fun e w' => e = .returned (.bool true) ∧ Below wy.heap.size wy w' := by
  subst e
  have e1 := h1.1
  have e2 := h2.1
  have h9 := refNumbers_any A B la ca lb cb xs xs wy (h1.below hb) (h2.below hb) (by omega) (by omega)
  rw [show sameZ xs xs = true from decide_eq_true rfl] at h9
  exact h9
theorem rem_nat (xs : List InR) (h : xs.length ≤ 8) : ∃ m : Nat, (m : Int) = remN (xs.map thN) (fun _ => 0) ∧ m ≤ 72 := by
  have h1 := remN_bd (thsN_k xs)
  rw [List.length_map] at h1
  exact ⟨(remN (xs.map thN) (fun _ => 0)).toNat, by omega, by omega⟩
theorem ins_len (xs : List InR) (j : Nat) : (((xs.map thN).map Th.ins).getD j []).length ≤ 9 := by
  by_cases q : j < xs.length
  · have : ((xs.map thN).map Th.ins).getD j [] = (thN xs[j]).ins := by simp [List.getD, q]
    rw [this, Th.len]
    have : (thN xs[j]).k ≤ 4 := locksN_len _ _
    omega
  · have : ((xs.map thN).map Th.ins).getD j [] = [] := by simp [List.getD, Nat.le_of_not_lt q]
    rw [this]
    exact Nat.zero_le _
end Go.Proofs.Ytcamoigcfiemhaa
