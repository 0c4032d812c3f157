/- Layer 13: copy at rows of records; slices.Insert at a row of the call's own. -/
import Derived.Test.YtehlebeeoeghmaaShH
import Derived.Laws.CopyRow
import Derived.Lib.AppendZerosOnto
import Derived.Lib.Overlaps
import Derived.Deep.RegionLaw
namespace Go.Proofs.Ytehlebeeoeghmaa
set_option linter.unusedVariables false
set_option linter.unusedSimpArgs false
open Go.RowKit Go.Lib
set_option maxRecDepth 100000
/-- Cells laid over a row from a place on. -/
def spl (L : List Value) (off : Nat) (cs : List Value) : List Value := L.take off ++ (cs ++ L.drop (off + cs.length))
theorem spl_len (L : List Value) (off : Nat) (cs : List Value) (h : off + cs.length ≤ L.length) : (spl L off cs).length = L.length := by simp [spl]; omega
section
variable {P : Program} {w : World}
theorem run_copyK (dT sT ty elem : TypeId) (k m g off dLen dCap : Nat) (a : Addr) (sLen sCap : Nat) (cur : List Value) (t : TypeId) (cs : List Value)
    (hu : P.underlying dT = some (.slice elem)) (hs : (P.info? elem).map (·.size) = some k) (hg : w.heap[g]? = some (.cells cur.toArray t (0, 0))) (hm : m = Nat.min sLen dLen) (hn : cs.length = m * k)
    (hsrc : ∀ j v, cs[j]? = some v → w.cell? (a.add j) = some v) (hfit : off + cs.length ≤ cur.length) (h1 : ∀ v ∈ cs, v.oneCell' = true) :
    (Builtin.copy_ #[dT, sT] ty #[.slice (some ⟨g, off, none⟩) dLen dCap, .slice (some a) sLen sCap]).run P w = .ok (goInt m) (w.setRow g (spl cur off cs).toArray) := by
  have hl := run_loadCells_list (P := P) w a cs hsrc
  have hst := run_storeCells_at P g off t cs 0 cur.toArray w hg (by simpa using hfit) h1
  rw [hn] at hl
  subst hm
  cases hq : P.info? elem with
  | none => simp [hq] at hs
  | some i =>
    have hi : i.size = k := by simpa [hq] using hs
    simp [Builtin.copy_, run_underlying hu, Builtin.lenOf, Builtin.firstCells, sizeOf, typeInfo, hq, hi, hl, hst, spl]
theorem wpList_copyK {ops : Array Oper} {rest : List Oper} {o : Oper} {a : Act} {Q : Exit → Act → World → Prop} (hgd : o.guard = none) (d s : Operand) (dT sT : TypeId)
    (ho : o.op = .call { callee := .builtin .copy, args := #[d, s], argTypes := #[dT, sT] }) (elem : TypeId) (k m : Nat) (hu : P.underlying dT = some (.slice elem)) (hs : (P.info? elem).map (·.size) = some k)
    (g off dLen dCap : Nat) (ad : Addr) (sLen sCap : Nat) (hd : a.eval d = .slice (some ⟨g, off, none⟩) dLen dCap) (hsv : a.eval s = .slice (some ad) sLen sCap)
    (cur : List Value) (t : TypeId) (hg : w.heap[g]? = some (.cells cur.toArray t (0, 0))) (cs : List Value) (hm : m = Nat.min sLen dLen) (hn : cs.length = m * k)
    (hsrc : ∀ j v, cs[j]? = some v → w.cell? (ad.add j) = some v) (hfit : off + cs.length ≤ cur.length) (h1 : ∀ v ∈ cs, v.oneCell' = true)
    (h : ∀ w', w' = w.setRow g (spl cur off cs).toArray → wpList P ops Q rest (a.put o.dst (goInt m)) w') : wpList P ops Q (o :: rest) a w := by
  refine wpList_plain hgd fun K hK => ?_
  have hrun := run_copyK (P := P) (w := w) dT sT o.type elem k m g off dLen dCap ad sLen sCap cur t cs hu hs hg hm hn hsrc hfit h1
  unfold Oper.wp
  simp [execOp, ho, resolve, invoke, builtin, hd, hsv, hrun, Result.andThen]
  exact hK _ _ (h _ rfl)
theorem step_copyK {ops : Array Oper} {o : Oper} {a : Act} {K : Act → World → Prop} {Q : Exit → Act → World → Prop} {E : Prop} (hgd : o.guard = none) (d s : Operand) (dT sT : TypeId)
    (ho : o.op = .call { callee := .builtin .copy, args := #[d, s], argTypes := #[dT, sT] }) (elem : TypeId) (k m : Nat) (hu : P.underlying dT = some (.slice elem)) (hs : (P.info? elem).map (·.size) = some k)
    (g off dLen dCap : Nat) (ad : Addr) (sLen sCap : Nat) (hd : a.eval d = .slice (some ⟨g, off, none⟩) dLen dCap) (hsv : a.eval s = .slice (some ad) sLen sCap)
    (cur : List Value) (t : TypeId) (hg : w.heap[g]? = some (.cells cur.toArray t (0, 0))) (cs : List Value) (hm : m = Nat.min sLen dLen) (hn : cs.length = m * k)
    (hsrc : ∀ j v, cs[j]? = some v → w.cell? (ad.add j) = some v) (hfit : off + cs.length ≤ cur.length) (h1 : ∀ v ∈ cs, v.oneCell' = true)
    (h : ∀ w', w' = w.setRow g (spl cur off cs).toArray → K (a.put o.dst (goInt m)) w') : if Region.wanted o (yielded ops a.tmps) = true then Oper.wp P o a w K Q else E := by
  have hw : Region.wanted o (yielded ops a.tmps) = true := by simp [Region.wanted, hgd]
  rw [if_pos hw]
  have hrun := run_copyK (P := P) (w := w) dT sT o.type elem k m g off dLen dCap ad sLen sCap cur t cs hu hs hg hm hn hsrc hfit h1
  unfold Oper.wp
  simp [execOp, ho, resolve, invoke, builtin, hd, hsv, hrun, Result.andThen]
  exact h _ rfl
end
theorem step_copyR {P : Program} {w : World} {ops : Array Oper} {o : Oper} {a : Act} {K : Act → World → Prop} {Q : Exit → Act → World → Prop} {E : Prop} (hgd : o.guard = none) (d s : Operand) (dT sT : TypeId)
    (ho : o.op = .call { callee := .builtin .copy, args := #[d, s], argTypes := #[dT, sT] }) (v u : Value) (hd : a.eval d = v) (hsv : a.eval s = u) {v' : Value} {w' : World} (hr : (Builtin.copy_ #[dT, sT] o.type #[v, u]).run P w = .ok v' w') (h : K (a.put o.dst v') w') :
    if Region.wanted o (yielded ops a.tmps) = true then Oper.wp P o a w K Q else E := by
  have hw : Region.wanted o (yielded ops a.tmps) = true := by simp [Region.wanted, hgd]
  rw [if_pos hw]
  unfold Oper.wp
  simp [execOp, ho, resolve, invoke, builtin, hd, hsv, hr, Result.andThen]
  exact h
theorem wpList_copyR {P : Program} {w : World} {ops : Array Oper} {rest : List Oper} {o : Oper} {a : Act} {Q : Exit → Act → World → Prop} (hgd : o.guard = none) (d s : Operand) (dT sT : TypeId)
    (ho : o.op = .call { callee := .builtin .copy, args := #[d, s], argTypes := #[dT, sT] }) (v u : Value) (hd : a.eval d = v) (hsv : a.eval s = u) {v' : Value} {w' : World} (hr : (Builtin.copy_ #[dT, sT] o.type #[v, u]).run P w = .ok v' w')
    (h : wpList P ops Q rest (a.put o.dst v') w') : wpList P ops Q (o :: rest) a w := by
  refine wpList_plain hgd fun K hK => ?_
  unfold Oper.wp
  simp [execOp, ho, resolve, invoke, builtin, hd, hsv, hr, Result.andThen]
  exact hK _ _ h
theorem grown_setRow (w : World) (g : Nat) (cs : Array Value) : w.grownBy (w.setRow g cs) (some g) :=
  ⟨rfl, rfl, rfl, by simp [World.setRow], fun k hk hne => setRow_other w g k cs (fun e => hne (by rw [e]))⟩
theorem grown_trans {a b c : World} {r : Option Nat} (h1 : a.grownBy b r) (h2 : b.grownBy c r) : a.grownBy c r :=
  ⟨h2.os.trans h1.os, h2.tape.trans h1.tape, h2.output.trans h1.output, Nat.le_trans h1.size h2.size, fun k hk hne => (h2.block k (Nat.lt_of_lt_of_le hk h1.size) hne).trans (h1.block k hk hne)⟩
theorem grown_drew {a b : World} {r : Option Nat} (h : a.grownBy b r) : a.grownBy b.drew r := ⟨h.os, h.tape, h.output, h.size, h.block⟩
theorem grown_from_drew {a b : World} {r : Option Nat} (h : a.drew.grownBy b r) : a.grownBy b r := ⟨h.os, h.tape, h.output, h.size, h.block⟩
def insS (xs : List SymR) (i : Nat) (x : SymR) : List SymR := xs.take i ++ x :: xs.drop i
theorem insS_len (xs : List SymR) (i : Nat) (x : SymR) (h : i ≤ xs.length) : (insS xs i x).length = xs.length + 1 := by simp [insS]; omega
theorem insS_flat (xs : List SymR) (i : Nat) (x : SymR) : (insS xs i x).flatMap encS = (xs.take i).flatMap encS ++ (encS x ++ (xs.drop i).flatMap encS) := by simp [insS]
def InsOut (base : Nat) (ys : List SymR) (r : Option Nat) (w : World) (e : Ending) (w' : World) : Prop := ∃ A c, e = .returned (.slice A ys.length c) ∧ w'.ownsRow base 27 2 (.slice A ys.length c) ys.length (ys.flatMap encS) ∧ w.grownBy w' r
theorem spl_at (F E R cs : List Value) (k : Nat) (hk : k = F.length) (h : E.length = cs.length) : spl (F ++ (E ++ R)) k cs = F ++ (cs ++ R) := by
  subst hk
  unfold spl
  rw [List.take_left, ← List.drop_drop, List.drop_left, ← h, List.drop_left]
theorem split3 (L : List Value) (a b c : Nat) (h : a + b + c ≤ L.length) : ∃ F E G R, L = F ++ (E ++ (G ++ R)) ∧ F.length = a ∧ E.length = b ∧ G.length = c := by
  refine ⟨L.take a, (L.drop a).take b, ((L.drop a).drop b).take c, ((L.drop a).drop b).drop c, ?_, ?_, ?_, ?_⟩
  · rw [List.take_append_drop, List.take_append_drop, List.take_append_drop]
  · rw [List.length_take]; omega
  · rw [List.length_take, List.length_drop]; omega
  · rw [List.length_take, List.length_drop, List.length_drop]; omega
/-- In place: the tail is moved up, then the new one is laid. -/
theorem spl_room (xs : List SymR) (i n : Nat) (x : SymR) (cur : List Value) (hn : xs.length = n) (hi : i < n) (hc : (n + 1) * 2 ≤ cur.length) (hx : cur.take (n * 2) = xs.flatMap encS) :
    (spl (spl cur ((i + 1) * 2) ((xs.drop i).flatMap encS)) (i * 2) (encS x)).take ((n + 1) * 2) = (insS xs i x).flatMap encS := by
  have l1 : ((xs.drop i).flatMap encS).length = (n - i) * 2 := by rw [flat_len encS_len, List.length_drop, hn]
  have l2 : ((xs.take i).flatMap encS).length = i * 2 := by rw [flat_len encS_len, List.length_take]; omega
  have l3 : (encS x).length = 2 := rfl
  have e1 : cur.take (i * 2) = (xs.take i).flatMap encS := by
    have h1 : cur.take (i * 2) = (cur.take (n * 2)).take (i * 2) := by rw [List.take_take]; congr 1; omega
    have h2 : xs.flatMap encS = (xs.take i).flatMap encS ++ (xs.drop i).flatMap encS := by rw [← List.flatMap_append, List.take_append_drop]
    rw [h1, hx, h2, List.take_left' l2]
  obtain ⟨F, E, G, R, rfl, hF, hE, hG⟩ := split3 cur (i * 2) 2 ((n - i) * 2) (by omega)
  rw [List.take_left' hF] at e1
  rw [insS_flat, ← e1]
  generalize (xs.drop i).flatMap encS = D at *
  have s1 : spl (F ++ (E ++ (G ++ R))) ((i + 1) * 2) D = (F ++ E) ++ (D ++ R) := by
    rw [← List.append_assoc]
    exact spl_at (F ++ E) G R D _ (by rw [List.length_append]; omega) (by omega)
  rw [s1, List.append_assoc, spl_at F E (D ++ R) (encS x) _ hF.symm (by omega), ← List.append_assoc (encS x), ← List.append_assoc F]
  exact List.take_left' (by simp only [List.length_append]; omega)
/-- In a new row: the head has been copied; the new one is laid, then the tail. -/
theorem spl_new (xs : List SymR) (i n : Nat) (x : SymR) (cur : List Value) (hn : xs.length = n) (hi : i < n) (hc : (n + 1) * 2 ≤ cur.length) (hx : cur.take (i * 2) = (xs.take i).flatMap encS) :
    (spl (spl cur (i * 2) (encS x)) ((i + 1) * 2) ((xs.drop i).flatMap encS)).take ((n + 1) * 2) = (insS xs i x).flatMap encS := by
  have l1 : ((xs.drop i).flatMap encS).length = (n - i) * 2 := by rw [flat_len encS_len, List.length_drop, hn]
  have l3 : (encS x).length = 2 := rfl
  obtain ⟨F, E, G, R, rfl, hF, hE, hG⟩ := split3 cur (i * 2) 2 ((n - i) * 2) (by omega)
  rw [List.take_left' hF] at hx
  rw [insS_flat, ← hx]
  generalize (xs.drop i).flatMap encS = D at *
  rw [spl_at F E (G ++ R) (encS x) _ hF.symm (by omega), ← List.append_assoc F, spl_at (F ++ encS x) G R D _ (by rw [List.length_append]; omega) (by omega), List.append_assoc, ← List.append_assoc (encS x), ← List.append_assoc F]
  exact List.take_left' (by simp only [List.length_append]; omega)
end Go.Proofs.Ytehlebeeoeghmaa
