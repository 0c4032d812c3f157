/- Steps of a region that draws: an append onto a full row, an append (of nothing, perhaps) onto a row that is a call's own; texts as cells. No program but the texts' own words. -/
import Derived.Test.YtfeaollpeaphlaaDoorBorderM
import Derived.ArgAppend
import Derived.Deep.AppendLies
import Derived.Deep.RegionLaw
namespace Go.Proofs.YtfeaollpeaphlaaDoor
set_option linter.unusedVariables false
set_option linter.unusedSimpArgs false
open Go.RowKit
theorem step_grows {P : Program} {w : World} {ops : Array Oper} {o : Oper} {a : Act} {K : Act → World → Prop} {Q : Exit → Act → World → Prop} {E : Prop} (hgd : o.guard = none) (s x : Operand) (t : TypeId)
    (ho : o.op = .call { callee := .builtin .append, args := #[s, x], argTypes := #[t, t] })
    (e : TypeId) (i : TypeInfo) (z : Value) (size bytes : Nat) (ht : P.underlying t = some (.slice e)) (hi : P.info? e = some i) (hz : i.zero = some z)
    (hsize : i.size = size) (hby : i.bytes = bytes) (hzs : z.cells.size = size) (hsz : 0 < size)
    (b : Addr) (n cap : Nat) (olds : List Value) (hs : a.eval s = .slice (some b) n cap) (hlo : olds.length = n * size) (holds : ∀ j u, olds[j]? = some u → w.cell? (b.add j) = some u)
    (ad : Addr) (m c : Nat) (news : List Value) (hx : a.eval x = .slice (some ad) m c) (hl : news.length = m * size) (hnews : ∀ j u, news[j]? = some u → w.cell? (ad.add j) = some u)
    (hg : cap < n + m) (h63 : n + m ≤ maxLen) (hbytes : (n + m) * bytes ≤ 140737488355328)
    (h : ∀ v' w', w'.ownsRow w.heap.size e size v' (n + m) (olds ++ news) → w.grownBy w' none → K (a.put o.dst v') w') :
    if Region.wanted o (yielded ops a.tmps) = true then Oper.wp P o a w K Q else E := by
  have hw : Region.wanted o (yielded ops a.tmps) = true := by simp [Region.wanted, hgd]
  rw [if_pos hw]
  obtain ⟨v', w', hr, h2, h3⟩ := run_append_arg_grows (P := P) w t o.type e i z size bytes ht hi hz hsize hby hzs hsz b n cap olds hlo holds ad m c news hl hnews hg h63 hbytes
  unfold Oper.wp execOp
  simp only [ho, resolve, invoke, builtin, Sem.run_bind, Sem.run_pure, Result.andThen_ok, List.map_toArray, List.map_cons, List.map_nil, hs, hx, hr]
  exact h v' w' h2 h3
theorem step_own {P : Program} {w : World} {ops : Array Oper} {o : Oper} {a : Act} {K : Act → World → Prop} {Q : Exit → Act → World → Prop} {E : Prop} (hgd : o.guard = none) (s x : Operand) (t : TypeId)
    (ho : o.op = .call { callee := .builtin .append, args := #[s, x], argTypes := #[t, t] })
    (base : Nat) (e : TypeId) (i : TypeInfo) (z : Value) (size bytes : Nat) (ht : P.underlying t = some (.slice e)) (hi : P.info? e = some i) (hz : i.zero = some z)
    (hsize : i.size = size) (hby : i.bytes = bytes) (hzs : z.cells.size = size) (hsz : 0 < size)
    (v : Value) (n : Nat) (xs : List Value) (hs : a.eval s = v) (hown : w.ownsRow base e size v n xs)
    (ad : Addr) (m c : Nat) (news : List Value) (hx : a.eval x = .slice (some ad) m c) (hl : news.length = m * size) (hnews : ∀ j u, news[j]? = some u → w.cell? (ad.add j) = some u) (h1 : ∀ u ∈ news, u.oneCell' = true)
    (h63 : n + m ≤ maxLen) (hbytes : (n + m) * bytes ≤ 140737488355328) (hbase : base ≤ w.heap.size)
    (h : ∀ v' w', w'.ownsRow base e size v' (n + m) (xs ++ news) → w.grownBy w' v.ownBlock → K (a.put o.dst v') w') :
    if Region.wanted o (yielded ops a.tmps) = true then Oper.wp P o a w K Q else E := by
  have hw : Region.wanted o (yielded ops a.tmps) = true := by simp [Region.wanted, hgd]
  rw [if_pos hw]
  obtain ⟨v', w', hr, h2, h3, -⟩ := run_append_own_at (P := P) w base t o.type e i z size bytes ht hi hz hsize hby hzs hsz v n xs hown ad m c news hl hnews h1 h63 hbytes hbase
  unfold Oper.wp execOp
  simp only [ho, resolve, invoke, builtin, Sem.run_bind, Sem.run_pure, Result.andThen_ok, List.map_toArray, List.map_cons, List.map_nil, hs, hx, hr]
  exact h v' w' h2 h3
theorem news_texts {w : World} {bb off l : Nat} {ts : List ByteArray} (ht : Texts w (some ⟨bb, off, none⟩) l ts) (y k : Nat) (hk : y + k ≤ l) :
    ∀ j u, (((ts.drop y).take k).map Value.string)[j]? = some u → w.cell? ((⟨bb, off + y, none⟩ : Addr).add j) = some u := by
  intro j u hu
  rw [List.getElem?_map] at hu
  obtain ⟨s, hs, rfl⟩ := Option.map_eq_some_iff.1 hu
  have hlt : j < ((ts.drop y).take k).length := (List.getElem?_eq_some_iff.1 hs).1
  rw [List.length_take, List.length_drop] at hlt
  have h1 := ht.1
  have hj : j < k := by omega
  rw [List.getElem?_take_of_lt hj, List.getElem?_drop] at hs
  obtain ⟨b, o2, he, hb, hc⟩ := ht.2.2 (by omega)
  have hc := hc (y + j) (by omega)
  rw [show ts.getD (y + j) ByteArray.empty = s by simp [List.getD, hs]] at hc
  cases he
  rcases Nat.eq_zero_or_pos j with j0 | j0
  · subst j0; simpa [Addr.add] using hc
  · simpa [Addr.add, Nat.add_assoc, Nat.ne_of_gt j0] using hc
theorem news_ones (zs : List ByteArray) : ∀ u ∈ zs.map Value.string, u.oneCell' = true := by
  intro u hu
  obtain ⟨s, -, rfl⟩ := List.mem_map.1 hu
  rfl
theorem getD_bound {L : List ByteArray} (h : ∀ s ∈ L, s.size ≤ maxLen) : ∀ j, (L.getD j ByteArray.empty).size ≤ maxLen := fun j => by
  simp only [List.getD]
  cases hj : L[j]? with
  | none => simp [maxLen]
  | some s => exact h s (List.mem_of_getElem? hj)
theorem texts_mem {w : World} {A : Option Addr} {l : Nat} {ts : List ByteArray} (ht : Texts w A l ts) : ∀ s ∈ ts, s.size ≤ maxLen := fun s hs => by
  obtain ⟨j, hj⟩ := List.getElem?_of_mem hs
  have := ht.2.1 j
  simpa [List.getD, hj] using this
theorem World.size_alloc_le (w : World) (o : Obj) : w.heap.size ≤ (w.alloc o).heap.size := by simp
theorem own_base {x w : World} {o : Obj} {e size n : Nat} {v : Value} {xs : List Value} (h : w.ownsRow (x.alloc o).drew.heap.size e size v n xs) : w.ownsRow (x.heap.size + 1) e size v n xs := by
  have e1 : (x.alloc o).drew.heap.size = x.heap.size + 1 := by show (x.alloc o).heap.size = _; simp
  rwa [e1] at h
theorem own_le {x w : World} {o : Obj} {r : Option Nat} (h : (x.alloc o).drew.grownBy w r) : x.heap.size + 1 ≤ w.heap.size := by
  have e1 : (x.alloc o).drew.heap.size = x.heap.size + 1 := by show (x.alloc o).heap.size = _; simp
  have := h.size
  omega
theorem below_grown5 {x w : World} {o : Obj} (h : (x.alloc o).drew.grownBy w none) : Below x.heap.size x w :=
  (((Below.refl _ _).alloc (Nat.le_refl _) o).drew).grown h (by show _ ≤ (x.alloc o).heap.size; simp) (fun k hk => by cases hk)
theorem texts_cell {w : World} {bb off l y : Nat} {ts : List ByteArray} (ht : Texts w (some ⟨bb, off, none⟩) l ts) (hy : y < l) : w.cell? ⟨bb, off + y, none⟩ = some (.string (ts.getD y ByteArray.empty)) ∧ ts.getD y ByteArray.empty ∈ ts ∧ bb < w.heap.size := by
  obtain ⟨b, o2, he, hb, hc⟩ := ht.2.2 (by omega)
  have h1 := ht.1
  cases he
  refine ⟨hc y hy, ?_, hb⟩
  have : y < ts.length := by omega
  simp only [List.getD, List.getElem?_eq_getElem this, Option.getD_some]
  exact List.getElem_mem _
theorem news_drew {x : World} {o : Obj} {g : Nat} {L : List Value} (h : ∀ j u, L[j]? = some u → (x.alloc o).cell? ((⟨g, 0, none⟩ : Addr).add j) = some u) : ∀ j u, L[j]? = some u → (x.alloc o).drew.cell? ((⟨g, 0, none⟩ : Addr).add j) = some u := h
theorem turned_texts {w : World} {base e n l y : Nat} {v : Value} {ts : List ByteArray} (h : w.ownsRow base e 1 v n ([] ++ ((ts.drop y).take (l - y)).map Value.string ++ ((ts.drop 0).take y).map Value.string))
    (hn : n = l) (htl : ts.length = l) (hy : y ≤ l) (hm : ∀ s ∈ ts, s.size ≤ maxLen) : ∃ A c, v = .slice A l c ∧ l ≤ c ∧ c ≤ maxLen ∧ Texts w A l (ts.drop y ++ ts.take y) := by
  subst hn
  rw [List.nil_append, ← List.map_append, List.drop_zero, List.take_of_length_le (i := n - y) (by rw [List.length_drop]; omega)] at h
  refine own_texts h (getD_bound fun s hs => ?_)
  rcases List.mem_append.1 hs with h1 | h1
  · exact hm s (List.mem_of_mem_drop h1)
  · exact hm s (List.mem_of_mem_take h1)
theorem twice_texts {w : World} {base e n l : Nat} {v : Value} {ts : List ByteArray} {s : ByteArray} (h : w.ownsRow base e 1 v n ([.string s, .string s] ++ ((ts.drop 0).take l).map Value.string))
    (hn : n = l + 2) (htl : ts.length = l) (hs : s.size ≤ maxLen) (hm : ∀ s ∈ ts, s.size ≤ maxLen) : ∃ A c, v = .slice A (l + 2) c ∧ l + 2 ≤ c ∧ c ≤ maxLen ∧ Texts w A (l + 2) (s :: s :: ts) := by
  subst hn
  rw [List.drop_zero, List.take_of_length_le (by omega), show [Value.string s, Value.string s] ++ ts.map Value.string = (s :: s :: ts).map Value.string by simp] at h
  refine own_texts h (getD_bound fun t ht => ?_)
  rcases List.mem_cons.1 ht with rfl | ht
  · exact hs
  rcases List.mem_cons.1 ht with rfl | ht
  · exact hs
  · exact hm t ht
theorem sum_turn {n : Nat} {ts : List ByteArray} (h : okS n ts = true) (y : Nat) : sumE n (ts.drop y ++ ts.take y) = 0 ∧ sumS n (ts.drop y ++ ts.take y) = ⟨(sumL n ts).toArray⟩ := by
  have h2 : okS n (ts.drop y ++ ts.take y) = true := by
    simp only [okS, allL, Bool.and_eq_true, decide_eq_true_eq, List.all_eq_true] at h ⊢
    refine ⟨⟨h.1.1, fun s hs => ?_⟩, ?_⟩
    · rcases List.mem_append.1 hs with h1 | h1
      · exact h.1.2 s (List.mem_of_mem_drop h1)
      · exact h.1.2 s (List.mem_of_mem_take h1)
    · have := h.2
      rw [List.length_append, List.length_drop, List.length_take]; omega
  refine ⟨sumE_ok h2, ?_⟩
  simp only [sumS, h2, if_true, Int.toNat_natCast]
  rw [sum_turned]
theorem sum_two {n : Nat} {ts : List ByteArray} {s : ByteArray} (h : okS n ts = true) (hl : ts.length + 2 ≤ 64) (hs : s ∈ ts) : sumE n (s :: s :: ts) = 0 ∧ sumS n (s :: s :: ts) = ⟨(sumL n ts).toArray⟩ := by
  have h2 : okS n (s :: s :: ts) = true := by
    simp only [okS, allL, Bool.and_eq_true, decide_eq_true_eq, List.all_eq_true] at h ⊢
    refine ⟨⟨h.1.1, fun t ht => ?_⟩, by simp only [List.length_cons]; omega⟩
    rcases List.mem_cons.1 ht with rfl | ht
    · exact h.1.2 _ hs
    rcases List.mem_cons.1 ht with rfl | ht
    · exact h.1.2 _ hs
    · exact h.1.2 t ht
  refine ⟨sumE_ok h2, ?_⟩
  simp only [sumS, h2, if_true, Int.toNat_natCast]
  rw [sum_twice]
end Go.Proofs.YtfeaollpeaphlaaDoor
