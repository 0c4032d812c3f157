/- Layer 20: threads that are being built: rows of the call's own, what they come to. -/
import Derived.Test.YtcamoigcfiemhaaScRn
import Derived.Test.YtcamoigcfiemhaaScG
namespace Go.Proofs.Ytcamoigcfiemhaa
set_option linter.unusedVariables false
set_option linter.unusedSimpArgs false
open Go.RowKit Go.Lib
set_option maxRecDepth 100000
/-- Threads of the call's own: the spine and the rows. -/
def OwnT (base : Nat) (w : World) (v : Value) (xss : List (List InR)) : Prop := ∃ rs : List SlT, rs.length = xss.length ∧ w.ownsRow base 55 1 v xss.length (rs.map slV) ∧
  ∀ j, j < xss.length → (rs.getD j sl0).2.1 = (xss.getD j []).length ∧ w.ownsRow base 57 3 (slV (rs.getD j sl0)) (xss.getD j []).length ((xss.getD j []).flatMap encIn)
section
variable {base : Nat} {w w' : World} {v : Value} {xss : List (List InR)}
theorem OwnT.nil (base : Nat) (w : World) : OwnT base w (.slice none 0 0) [] := ⟨[], rfl, World.ownsRow_nil _ _ _ _, fun j hj => by simp at hj⟩
theorem OwnT.keepB (h : OwnT base w v xss) (hb : Below w.heap.size w w') : OwnT base w' v xss := by
  obtain ⟨rs, h1, h2, h3⟩ := h
  exact ⟨rs, h1, own_keepB h2 hb, fun j hj => ⟨(h3 j hj).1, own_keepB (h3 j hj).2 hb⟩⟩
theorem OwnT.far {g : Nat} {t : TypeId} {cs : Array Value} (h : OwnT base w v xss) (hb : Box w g t cs) (h1 : 55 ≠ t) (h2 : 57 ≠ t) (i : Nat) (u : Value) : OwnT base (w.setCell ⟨g, i, none⟩ u) v xss := by
  obtain ⟨rs, e1, e2, e3⟩ := h
  exact ⟨rs, e1, own_far e2 hb h1 i u, fun j hj => ⟨(e3 j hj).1, own_far (e3 j hj).2 hb h2 i u⟩⟩
theorem OwnT.form (h : OwnT base w v xss) : ∃ A c, v = .slice A xss.length c := by
  obtain ⟨rs, e1, e2, e3⟩ := h
  obtain ⟨A, c, e, -⟩ := own_form e2
  exact ⟨A, c, e⟩
theorem OwnT.read {A : Option Addr} {c : Nat} (h : OwnT base w (.slice A xss.length c) xss) : SliceOk A xss.length c ∧ Thr w A xss.length xss := by
  obtain ⟨rs, h1, h2, h3⟩ := h
  refine ⟨own_cap h2, rfl, fun hp => ?_⟩
  obtain ⟨g, rfl, hb, hlt⟩ := own_addr h2 hp
  refine ⟨g, 0, rfl, hlt, fun j hj => ?_⟩
  obtain ⟨k1, k2⟩ := h3 j hj
  have hc := World.ownsRow.cellAt h2 j (by omega)
  rw [map_slV_at rs j (by omega)] at hc
  rw [← k1] at k2
  exact ⟨_, _, _, by rw [Nat.zero_add, hc], own_cap k2, own_recs encIn_len k2 (by decide)⟩
/-- One more row: the spine is appended to. -/
theorem OwnT.snoc {rs : List SlT} {v' : Value} {B : Option Addr} {cb : Nat} {xs : List InR} (h1 : rs.length = xss.length) (h2 : w.ownsRow base 55 1 v xss.length (rs.map slV))
    (h3 : ∀ j, j < xss.length → (rs.getD j sl0).2.1 = (xss.getD j []).length ∧ w.ownsRow base 57 3 (slV (rs.getD j sl0)) (xss.getD j []).length ((xss.getD j []).flatMap encIn))
    (hx : w.ownsRow base 57 3 (.slice B xs.length cb) xs.length (xs.flatMap encIn)) (hg : w.grownBy w' v.ownBlock)
    (ho : w'.ownsRow base 55 1 v' (xss.length + 1) (rs.map slV ++ [.slice B xs.length cb])) : OwnT base w' v' (xss ++ [xs]) := by
  have keep : ∀ {u : Value} {n : Nat} {ys : List Value}, w.ownsRow base 57 3 u n ys → w'.ownsRow base 57 3 u n ys := fun {u n ys} k => by
    refine World.ownsRow.kept k hg ?_
    cases e : u.ownBlock with
    | none => exact .inl rfl
    | some g => exact .inr fun e2 => nosh_types k h2 (by decide) g e e2.symm
  refine ⟨rs ++ [(B, xs.length, cb)], by simp [h1], ?_, fun j hj => ?_⟩
  · rw [List.map_append, List.length_append]; exact ho
  · rw [List.length_append, List.length_singleton] at hj
    by_cases q : j < xss.length
    · have e1 : (rs ++ [(B, xs.length, cb)]).getD j sl0 = rs.getD j sl0 := by simp [List.getD, List.getElem?_append_left (by omega : j < rs.length)]
      have e2 : (xss ++ [xs]).getD j [] = xss.getD j [] := by simp [List.getD, List.getElem?_append_left q]
      rw [e1, e2]; exact ⟨(h3 j q).1, keep (h3 j q).2⟩
    · obtain rfl : j = xss.length := by omega
      have e1 : (rs ++ [(B, xs.length, cb)]).getD xss.length sl0 = (B, xs.length, cb) := by rw [← h1]; simp [List.getD]
      have e2 : (xss ++ [xs]).getD xss.length [] = xs := by simp [List.getD]
      rw [e1, e2]; exact ⟨rfl, keep hx⟩
end
/-! What the threads come to. -/
theorem thAt_old {ths : List Th} (x : Th) {t : Nat} (h : t < ths.length) : thAt (ths ++ [x]) t = thAt ths t := by simp [thAt, List.getD, List.getElem?_append_left h]
theorem thAt_new (ths : List Th) (x : Th) : thAt (ths ++ [x]) ths.length = x := by simp [thAt, List.getD]
theorem sumN_snoc {f g : Nat → Int} (n : Nat) (d : Int) (h : ∀ t, t < n → f t = g t) (hd : f n = d) : sumN f (n + 1) = sumN g n + d := by
  show sumN f n + f n = _
  rw [sumN_congr n h, hd]
theorem totC_snoc (ths : List Th) (x : Th) (c : Nat) : totC (ths ++ [x]) c = totC ths c + if x.c = c then x.n else 0 := by
  unfold totC
  rw [List.length_append, List.length_singleton]
  exact sumN_snoc _ _ (fun t ht => by simp only [thAt_old x ht]) (by simp only [thAt_new])
theorem remN_snoc (ths : List Th) (x : Th) : remN (ths ++ [x]) (fun _ => 0) = remN ths (fun _ => 0) + (x.ins.length : Int) := by
  unfold remN
  rw [List.length_append, List.length_singleton]
  exact sumN_snoc _ _ (fun t ht => by simp only [thAt_old x ht]) (by simp only [thAt_new, Th.len]; rfl)
def cellsOfT (ths : List Th) : List Int := [totC ths 0, totC ths 1, totC ths 2, totC ths 3]
theorem cellsOfT_snoc (ths : List Th) (x : Th) (h : x.c < 4) : cellsOfT (ths ++ [x]) = (cellsOfT ths).set x.c ((cellsOfT ths).getD x.c 0 + x.n) := by
  unfold cellsOfT
  rw [totC_snoc, totC_snoc, totC_snoc, totC_snoc]
  have : x.c = 0 ∨ x.c = 1 ∨ x.c = 2 ∨ x.c = 3 := by omega
  rcases this with e | e | e | e <;> rw [e] <;> simp
theorem totC_bd {ths : List Th} (hn : ∀ t, 0 ≤ (thAt ths t).n ∧ (thAt ths t).n ≤ 999) (c : Nat) : 0 ≤ totC ths c ∧ totC ths c ≤ 999 * (ths.length : Int) :=
  sum_range (fun t => by have := hn t; split <;> omega) _
theorem remN_bd {ths : List Th} (hok : ∀ t, (thAt ths t).k ≤ 4) : 0 ≤ remN ths (fun _ => 0) ∧ remN ths (fun _ => 0) ≤ 9 * (ths.length : Int) :=
  sum_range (fun t => by have := hok t; omega) _
/-- The instructions of a need, in the order in which they are laid. -/
theorem thN_ins (x : InR) : (thN x).ins = (locksN x.1 4).map (fun (a : Nat) => ((0 : Int), (a : Int), (0 : Int))) ++ ((2 : Int), x.2.1 % 4, numN x.2.2) :: (locksN x.1 4).map (fun (a : Nat) => ((1 : Int), (a : Int), (0 : Int))) := by
  show (locksN x.1 4).map _ ++ ((2 : Int), (((x.2.1 % 4).toNat : Nat) : Int), numN x.2.2) :: _ = _
  rw [show (((x.2.1 % 4).toNat : Nat) : Int) = x.2.1 % 4 by omega]
  rfl
end Go.Proofs.Ytcamoigcfiemhaa
