/- Layer 14: the heap's Push and Pop of its row. -/
import Derived.Test.YtmfjbmojejplgaaRiM
import Derived.Test.YtmfjbmojejplgaaRiH
import Derived.Deep.AppendLies
import Derived.Deep.RegionLaw
namespace Go.Proofs.Ytmfjbmojejplgaa
set_option linter.unusedVariables false
set_option linter.unusedSimpArgs false
open Go.RowKit Go.Sort
set_option maxRecDepth 100000
/-- The pool: its field holds v, a row of its own of the drops xs. -/
structure PoolS (w : World) (gp : Nat) (v : Value) (xs : List DrR) : Prop where
  box : Box w gp 50 #[v]
  own : w.ownsRow (gp + 1) 24 2 v xs.length (xs.flatMap encD)
/-- What a deed done to the pool may change. -/
structure Chg (w w' : World) (gp : Nat) (v v' : Value) : Prop where
  os : w'.os = w.os
  tape : w'.tape = w.tape
  output : w'.output = w.output
  size : w.heap.size ≤ w'.heap.size
  block : ∀ k, k < w.heap.size → k ≠ gp → v.ownBlock ≠ some k → w'.heap[k]? = w.heap[k]?
  own : ∀ g, v'.ownBlock = some g → v.ownBlock = some g ∨ w.heap.size ≤ g
theorem Chg.trans {w w1 w2 : World} {gp : Nat} {v v1 v2 : Value} (h : Chg w w1 gp v v1) (h2 : Chg w1 w2 gp v1 v2) : Chg w w2 gp v v2 :=
  ⟨h2.os.trans h.os, h2.tape.trans h.tape, h2.output.trans h.output, Nat.le_trans h.size h2.size,
   fun k hk hne hv => (h2.block k (Nat.lt_of_lt_of_le hk h.size) hne (fun e => by
     rcases h.own k e with e1 | e1
     · exact hv e1
     · omega)).trans (h.block k hk hne hv),
   fun g hg => by
     rcases h2.own g hg with e | e
     · exact h.own g e
     · exact .inr (Nat.le_trans h.size e)⟩
theorem Chg.below {w w' : World} {gp : Nat} {v : Value} (h : Below w.heap.size w w') : Chg w w' gp v v := ⟨h.os, h.tape, h.output, h.size, fun k hk _ _ => h.block k hk, fun g hg => .inl hg⟩
theorem Chg.drew {w w' : World} {gp : Nat} {v v' : Value} (h : Chg w w' gp v v') : Chg w w'.drew gp v v' := ⟨h.os, h.tape, h.output, h.size, h.block, h.own⟩
theorem Chg.grown {w w' : World} {gp g n c n' c' : Nat} (h : w.grownBy w' (some g)) : Chg w w' gp (.slice (some ⟨g, 0, none⟩) n c) (.slice (some ⟨g, 0, none⟩) n' c') :=
  ⟨h.os, h.tape, h.output, h.size, fun k hk _ hv => h.block k hk (fun e => hv (by rw [e]; rfl)), fun g' hg => .inl hg⟩
theorem PoolS.slice {w : World} {gp : Nat} {v : Value} {xs : List DrR} (h : PoolS w gp v xs) : ∃ A c, v = .slice A xs.length c := by
  obtain ⟨A, c, hv, -⟩ := own_form h.own; exact ⟨A, c, hv⟩
theorem PoolS.ne {w : World} {gp : Nat} {v : Value} {xs : List DrR} (h : PoolS w gp v xs) : v.ownBlock ≠ some gp := fun e => by
  have := (h.own.lt gp e).1; omega
theorem PoolS.row {w : World} {gp g n c : Nat} {xs : List DrR} (h : PoolS w gp (.slice (some ⟨g, 0, none⟩) n c) xs) (hn : xs.length = n) : PoolAt w gp g n c ∧ HpRow w g c xs ∧ gp ≠ g ∧ gp + 1 ≤ g ∧ c ≤ maxLen := by
  have hb : gp + 1 ≤ g := (h.own.lt g rfl).1
  refine ⟨h.box, ?_, by omega, hb, ?_⟩
  · rcases h.own.2 with ⟨h0, _⟩ | ⟨g', cap, cur, hv, hb', hh, hcap, hm, hs, hx⟩
    · injection h0 with h0; cases h0
    · injection hv with h1 h2 h3
      injection h1 with h1
      injection h1 with h1
      subst h1 h3
      exact ⟨cur, hh, hs, hcap, hx⟩
  · rcases h.own.2 with ⟨h0, _⟩ | ⟨g', cap, cur, hv, hb', hh, hcap, hm, hs, hx⟩
    · injection h0 with h0; cases h0
    · injection hv with h1 h2 h3
      subst h3; exact hm
theorem pool_of {w : World} {gp g c : Nat} {xs : List DrR} (h1 : PoolAt w gp g xs.length c) (h2 : HpRow w g c xs) (hb : gp + 1 ≤ g) (hc : c ≤ maxLen) : PoolS w gp (.slice (some ⟨g, 0, none⟩) xs.length c) xs := by
  obtain ⟨cur, hx, hs, hcap, ht⟩ := h2
  exact ⟨h1, ⟨by rw [flat_len encD_len], .inr ⟨g, c, cur, rfl, hb, hx, hcap, hc, hs, ht⟩⟩⟩
theorem ta_drop (d : DrR) (w : World) : (Instr.typeAssert (.iface 24 (.agg (drA d))) 20 24 true).run Try.prog w = .ok (.tuple #[.agg (drA d), .bool true]) w := by kernel_rfl
theorem own_setCell {w : World} {g p n c size e base : Nat} {vs : List Value} {u : Value} {i : Nat} (h : w.ownsRow base e size (.slice (some ⟨g, 0, none⟩) n c) n vs) (hne : g ≠ p) : (w.setCell ⟨p, i, none⟩ u).ownsRow base e size (.slice (some ⟨g, 0, none⟩) n c) n vs := by
  refine ⟨h.1, ?_⟩
  rcases h.2 with ⟨h0, _⟩ | ⟨g', cap, cur, hv, h1, hh, h3⟩
  · injection h0 with h0; cases h0
  · have hv2 := hv
    injection hv with e1 e2 e3
    injection e1 with e1
    injection e1 with e1
    subst e1
    exact .inr ⟨g, cap, cur, hv2, h1, (heap_setCell_other w ⟨p, i, none⟩ g u hne).trans hh, h3⟩
set_option maxHeartbeats 4000000 in
theorem dpush_any (gp : Nat) (v : Value) (xs : List DrR) (d : DrR) (hl : xs.length ≤ 100000) (w : World) (hP : PoolS w gp v xs) :
    Calls Try.prog 71 #[.pointer (some ⟨gp, 0, none⟩), .iface 24 (.agg (drA d))] w fun e w' => e = .returned (.tuple #[]) ∧ ∃ g cap, PoolS w' gp (.slice (some ⟨g, 0, none⟩) (xs.length + 1) cap) (xs ++ [d]) ∧ Chg w w' gp v (.slice (some ⟨g, 0, none⟩) (xs.length + 1) cap) := by
  obtain ⟨i0, hi, hz0, hz1, hz2⟩ := info_parts drop_info
  have HI := Lib.hid hi
  have HZ0 := Lib.hid hz0
  have HZ1 := Lib.hid hz1
  have HZ2 := Lib.hid hz2
  obtain ⟨A, c, rfl⟩ := hP.slice
  have hb1 : Below w.heap.size w (w.alloc (.cells (drA d) 24)) := (Below.refl _ _).alloc (Nat.le_refl _) _
  have hb2 : Below w.heap.size w ((w.alloc (.cells (drA d) 24)).alloc (.cells (drA d) 24)) := hb1.alloc (by simp) _
  have p0 := (hP.box.keep hb1).cell 0
  have p1 := (hP.box.keep hb1).free 0
  have q0 := (hP.box.keep hb2).cell 0
  have q1 := (hP.box.keep hb2).free 0
  have bx := Box.new w 24 (drA d)
  have b0 := bx.cell 0
  have b1 := bx.cell 1
  have by2 := Box.new (w.alloc (.cells (drA d) 24)) 24 (drA d)
  simp only [World.size_alloc] at by2
  have ZO := Lib.hid (show ((w.alloc (.cells (drA d) 24)).alloc (.cells (drA d) 24)).drew.ownsRow (gp + 1) 24 2 (.slice A xs.length c) xs.length (xs.flatMap encD) from own_keep hP.own hb2.drew)
  have NW := Lib.hid (show ∀ j u, (encD d)[j]? = some u → ((w.alloc (.cells (drA d) 24)).alloc (.cells (drA d) 24)).drew.cell? ((⟨w.heap.size + 1, 0, none⟩ : Addr).add j) = some u from fun j u hu => news_boxR (cs := encD d) (show Box _ _ _ (encD d).toArray from by2) _ rfl j u hu)
  have BX := Lib.hid (show Box ((w.alloc (.cells (drA d) 24)).alloc (.cells (drA d) 24)).drew gp 50 #[.slice A xs.length c] from hP.box.keep hb2.drew)
  have HB2 := Lib.hid hb2
  have HNe := Lib.hid hP.ne
  have s1 : gp + 1 ≤ ((w.alloc (.cells (drA d) 24)).alloc (.cells (drA d) 24)).drew.heap.size := by
    have := hP.box.lt
    simp
    omega
  have hta := ta_drop d
  clear hP hb1 hb2 hi hz0 hz1 hz2 bx by2
  simp only [List.getElem?_toArray, List.getElem?_cons_zero, List.getElem?_cons_succ] at b0 b1 p0 q0
  go_enter Try.func71, Try.ntmps71
  go_wp2_with fail
  go_region_law (first
    | (refine step_append_lies _ rfl (.tmp 15) (.tmp 17) 48 rfl (gp + 1) 24 i0 (.agg #[.int .i64 0, .int .u64 0]) 2 16 Try.underlying48 HI.out HZ0.out HZ1.out HZ2.out rfl (by decide) (.slice A xs.length c) xs.length (xs.flatMap encD) (by simp [Act.eval, Act.put]) ZO.out ⟨w.heap.size + 1, 0, none⟩ 1 1 (encD d) (by simp [Act.eval, Act.put]) rfl NW.out (encD_one d) (by omega) (by simp [maxLen]; omega) (by omega) s1 _ rfl ?_; intro g cap w1 hown hgrow hat hlt; have V1 := Lib.hid (BX.out.grown hgrow HNe.out); have HO2 := Lib.hid hown; have HGr := Lib.hid hgrow; have HAt := Lib.hid hat; clear hown hgrow hat; have z0 := V1.out.cell 0; have z1 := V1.out.free 0))
  all_goals
    go_end0
    have hsz : w.heap.size ≤ ((w.alloc (.cells (drA d) 24)).alloc (.cells (drA d) 24)).drew.heap.size := HB2.out.drew.size
    refine ⟨rfl, g, cap, ⟨V1.out.put 0 _, ?_⟩, ⟨?_, ?_, ?_, ?_, ?_, ?_⟩⟩
    · rw [List.length_append, flat_snoc]
      exact own_setCell HO2.out (fun e => by have := (HO2.out.lt g rfl).1; omega)
    · exact HGr.out.os
    · exact HGr.out.tape
    · exact HGr.out.output
    · exact Nat.le_trans hsz (Nat.le_trans HGr.out.size (by simp [World.setCell]))
    · intro k hk hne hv
      rw [heap_setCell_other w1 ⟨gp, 0, none⟩ k _ hne]
      exact (HGr.out.block k (Nat.lt_of_lt_of_le hk hsz) (fun e => hv (by rw [e]))).trans (HB2.out.block k hk)
    · intro g' hg'
      injection hg' with hg'
      subst hg'
      rcases HAt.out with e | e
      · exact .inl e
      · exact .inr (by rw [e]; exact hsz)
end Go.Proofs.Ytmfjbmojejplgaa
