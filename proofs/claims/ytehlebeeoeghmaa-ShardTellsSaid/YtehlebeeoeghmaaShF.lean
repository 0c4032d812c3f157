/- Layer 13: rows of rows of symbols of the call's own; the reference's All, Why. -/
import Derived.Test.YtehlebeeoeghmaaShE
import Derived.Laws.OwnMore
namespace Go.Proofs.Ytehlebeeoeghmaa
set_option linter.unusedVariables false
set_option linter.unusedSimpArgs false
open Go.RowKit Go.Lib
set_option maxRecDepth 100000
abbrev SlT := Option Addr × Nat × Nat
abbrev sl0 : SlT := (none, 0, 0)
abbrev slV (r : SlT) : Value := .slice r.1 r.2.1 r.2.2
/-- Two rows that share no block. -/
def NoSh (a b : Value) : Prop := ∀ g, a.ownBlock = some g → b.ownBlock ≠ some g
theorem NoSh.symm {a b : Value} (h : NoSh a b) : NoSh b a := fun g h1 h2 => h g h2 h1
theorem own_kind {w : World} {base size n : Nat} {e : TypeId} {v : Value} {xs : List Value} (h : w.ownsRow base e size v n xs) {g : Nat} (hg : v.ownBlock = some g) : ∃ c, w.heap[g]? = some (.cells c e (0, 0)) := by
  rcases h.2 with ⟨rfl, _⟩ | ⟨g', cap, cur, rfl, hb, hh, _⟩
  · simp [Value.ownBlock] at hg
  · simp [Value.ownBlock] at hg
    subst hg
    exact ⟨cur, hh⟩
theorem nosh_types {w : World} {b1 b2 s1 s2 n1 n2 : Nat} {e1 e2 : TypeId} {v1 v2 : Value} {xs1 xs2 : List Value} (h1 : w.ownsRow b1 e1 s1 v1 n1 xs1) (h2 : w.ownsRow b2 e2 s2 v2 n2 xs2) (hne : e1 ≠ e2) : NoSh v1 v2 := fun g hg hg2 => by
  obtain ⟨c1, k1⟩ := own_kind h1 hg
  obtain ⟨c2, k2⟩ := own_kind h2 hg2
  rw [k1] at k2
  injection k2 with k2
  injection k2 with _ k3
  exact hne k3
theorem own_keepB {w w' : World} {base size n : Nat} {e : TypeId} {v : Value} {xs : List Value} (h : w.ownsRow base e size v n xs) (hb : Below w.heap.size w w') : w'.ownsRow base e size v n xs :=
  World.ownsRow.kept (row := none) h ⟨hb.os, hb.tape, hb.output, hb.size, fun k hk _ => hb.block k hk⟩ (by cases v.ownBlock <;> simp)
theorem own_low {w : World} {base base' size n : Nat} {e : TypeId} {v : Value} {xs : List Value} (h : w.ownsRow base e size v n xs) (hb : base' ≤ base) : w.ownsRow base' e size v n xs := by
  refine ⟨h.1, ?_⟩
  rcases h.2 with h1 | ⟨g, cap, cur, hv, h1, h2⟩
  · exact .inl h1
  · exact .inr ⟨g, cap, cur, hv, Nat.le_trans hb h1, h2⟩
theorem nosh_new {w : World} {b1 b2 s1 s2 n1 n2 : Nat} {e1 e2 : TypeId} {v1 v2 : Value} {xs1 xs2 : List Value} {w1 : World} (h1 : w.ownsRow b1 e1 s1 v1 n1 xs1) (h2 : w1.ownsRow b2 e2 s2 v2 n2 xs2) (hb : w.heap.size ≤ b2) : NoSh v1 v2 := fun g hg hg2 => by
  have a := (h1.lt g hg).2
  have b := (h2.lt g hg2).1
  omega
theorem own_cap {w : World} {base size n c : Nat} {e : TypeId} {A : Option Addr} {xs : List Value} (h : w.ownsRow base e size (.slice A n c) n xs) : SliceOk A n c := by
  rcases h.2 with ⟨hv, h0⟩ | ⟨g, cap, cur, hv, h1, h2, h3, h4, h5⟩
  · injection hv with e1 e2 e3
    subst e1 e2 e3
    exact ⟨Nat.le_refl _, Nat.zero_le _, fun _ => ⟨rfl, rfl⟩⟩
  · injection hv with e1 e2 e3
    subst e1 e3
    exact ⟨h3, h4, fun h => by cases h⟩
theorem own_addr {w : World} {base size n c : Nat} {e : TypeId} {A : Option Addr} {xs : List Value} (h : w.ownsRow base e size (.slice A n c) n xs) (hn : 0 < n) : ∃ g, A = some ⟨g, 0, none⟩ ∧ base ≤ g ∧ g < w.heap.size := by
  rcases h.2 with ⟨hv, h0⟩ | ⟨g, cap, cur, hv, h1, h2, h3, h4, h5⟩
  · omega
  · injection hv with e1 e2 e3
    subst e1
    exact ⟨g, rfl, h1, (Array.getElem?_eq_some_iff.1 h2).1⟩
theorem map_slV_at (rs : List SlT) (j : Nat) (h : j < rs.length) : (rs.map slV)[j]? = some (slV (rs.getD j sl0)) := by simp [List.getD, h]
theorem slV_one (rs : List SlT) : ∀ u ∈ rs.map slV, u.oneCell' = true := by
  intro u hu
  obtain ⟨r, -, rfl⟩ := List.mem_map.1 hu
  rfl
/-- A row: one that was there at w0, or the call's own. -/
def RowS (w0 : World) (base : Nat) (w : World) (r : SlT) (xs : List SymR) : Prop := r.2.1 = xs.length ∧ (SliceOk r.1 r.2.1 r.2.2 ∧ Syms w0 r.1 r.2.1 xs ∨ w.ownsRow base 27 2 (slV r) xs.length (xs.flatMap encS))
/-- The spine is the call's own. -/
def SpS (w0 : World) (base : Nat) (w : World) (v : Value) (ls : List (List SymR)) : Prop := ∃ rs : List SlT, rs.length = ls.length ∧ w.ownsRow base 43 1 v ls.length (rs.map slV) ∧ ∀ j, j < ls.length → RowS w0 base w (rs.getD j sl0) (ls.getD j [])
section
variable {w0 w w' : World} {base : Nat} {v : Value} {ls : List (List SymR)} {r : SlT} {xs : List SymR}
theorem RowS.keepB (h : RowS w0 base w r xs) (hb : Below w.heap.size w w') : RowS w0 base w' r xs := ⟨h.1, h.2.imp id fun k => own_keepB k hb⟩
theorem RowS.read (h : RowS w0 base w r xs) (hb : Below w0.heap.size w0 w) : SliceOk r.1 r.2.1 r.2.2 ∧ Syms w r.1 r.2.1 xs := by
  obtain ⟨h1, ⟨h2, h3⟩ | h2⟩ := h
  · exact ⟨h2, Recs.below h3 hb⟩
  · rw [← h1] at h2
    exact ⟨own_cap h2, own_recs encS_len h2 (by decide)⟩
theorem SpS.nil (w0 : World) (base : Nat) (w : World) : SpS w0 base w (.slice none 0 0) [] := ⟨[], rfl, World.ownsRow_nil _ _ _ _, fun j hj => by simp at hj⟩
theorem SpS.keepB (h : SpS w0 base w v ls) (hb : Below w.heap.size w w') : SpS w0 base w' v ls := by
  obtain ⟨rs, h1, h2, h3⟩ := h
  exact ⟨rs, h1, own_keepB h2 hb, fun j hj => (h3 j hj).keepB hb⟩
theorem SpS.low {base' : Nat} (h : SpS w0 base w v ls) (hb : base' ≤ base) : SpS w0 base' w v ls := by
  obtain ⟨rs, h1, h2, h3⟩ := h
  exact ⟨rs, h1, own_low h2 hb, fun j hj => ⟨(h3 j hj).1, (h3 j hj).2.imp id fun k => own_low k hb⟩⟩
theorem SpS.far {g : Nat} {t : TypeId} {cs : Array Value} (h : SpS w0 base w v ls) (hb : Box w g t cs) (h1 : 43 ≠ t) (h2 : 27 ≠ t) (i : Nat) (u : Value) : SpS w0 base (w.setCell ⟨g, i, none⟩ u) v ls := by
  obtain ⟨rs, e1, e2, e3⟩ := h
  exact ⟨rs, e1, own_far e2 hb h1 i u, fun j hj => ⟨(e3 j hj).1, (e3 j hj).2.imp id fun k => own_far k hb h2 i u⟩⟩
theorem SpS.form (h : SpS w0 base w v ls) : ∃ A c, v = .slice A ls.length c := by
  obtain ⟨rs, e1, e2, e3⟩ := h
  obtain ⟨A, c, e, -⟩ := own_form e2
  exact ⟨A, c, e⟩
theorem SpS.read {A : Option Addr} {c : Nat} (h : SpS w0 base w (.slice A ls.length c) ls) (hb : Below w0.heap.size w0 w) : SliceOk A ls.length c ∧ Lsts w A ls.length ls := by
  obtain ⟨rs, h1, h2, h3⟩ := h
  refine ⟨own_cap h2, rfl, fun hp => ?_⟩
  obtain ⟨g, rfl, hg, hlt⟩ := own_addr h2 hp
  refine ⟨g, 0, rfl, hlt, fun j hj => ?_⟩
  have hc := World.ownsRow.cellAt h2 j (by omega)
  rw [map_slV_at rs j (by omega)] at hc
  exact ⟨_, _, _, by rw [Nat.zero_add, hc], ((h3 j hj).read hb).1, ((h3 j hj).read hb).2⟩
/-- The spine is appended to. -/
theorem SpS.snoc {rs : List SlT} {v' : Value} (h1 : rs.length = ls.length) (h2 : w.ownsRow base 43 1 v ls.length (rs.map slV)) (h3 : ∀ j, j < ls.length → RowS w0 base w (rs.getD j sl0) (ls.getD j []))
    (hx : RowS w0 base w r xs) (hg : w.grownBy w' v.ownBlock) (ho : w'.ownsRow base 43 1 v' (ls.length + 1) (rs.map slV ++ [slV r])) : SpS w0 base w' v' (ls ++ [xs]) := by
  have keep : ∀ {u : Value} {n : Nat} {ys : List Value}, w.ownsRow base 27 2 u n ys → w'.ownsRow base 27 2 u n ys := fun {u n ys} k => by
    refine World.ownsRow.kept k hg ?_
    cases e : u.ownBlock with
    | none => exact .inl rfl
    | some g => exact .inr fun e2 => nosh_types k h2 (by decide) g e e2.symm
  refine ⟨rs ++ [r], by simp [h1], ?_, fun j hj => ?_⟩
  · rw [List.map_append, List.length_append]; exact ho
  · rw [List.length_append, List.length_singleton] at hj
    by_cases q : j < ls.length
    · have e1 : (rs ++ [r]).getD j sl0 = rs.getD j sl0 := by simp [List.getD, List.getElem?_append_left (by omega : j < rs.length)]
      have e2 : (ls ++ [xs]).getD j [] = ls.getD j [] := by simp [List.getD, List.getElem?_append_left q]
      rw [e1, e2]; exact ⟨(h3 j q).1, (h3 j q).2.imp id keep⟩
    · obtain rfl : j = ls.length := by omega
      have e1 : (rs ++ [r]).getD ls.length sl0 = r := by rw [← h1]; simp [List.getD]
      have e2 : (ls ++ [xs]).getD ls.length [] = xs := by simp [List.getD]
      rw [e1, e2]; exact ⟨hx.1, hx.2.imp id keep⟩
end
def allS (ls : List (List SymR)) : List SymR := ls.flatten.foldl withS []
def allTo (ls : List (List SymR)) (i j : Nat) : List SymR := ((ls.getD i []).take j).foldl withS (allS (ls.take i))
theorem allTo_zero (ls : List (List SymR)) (i : Nat) : allTo ls i 0 = allS (ls.take i) := by simp [allTo]
theorem allTo_succ (ls : List (List SymR)) (i j : Nat) (h : j < (ls.getD i []).length) : allTo ls i (j + 1) = withS (allTo ls i j) ((ls.getD i []).getD j default) := by
  unfold allTo
  rw [take_snocD _ j h, List.foldl_append]
  rfl
theorem allTo_end (ls : List (List SymR)) (i : Nat) (h : i < ls.length) : allTo ls i (ls.getD i []).length = allS (ls.take (i + 1)) := by
  unfold allTo allS
  have e : ls.take (i + 1) = ls.take i ++ [ls.getD i []] := take_snocD ls i h
  rw [e, List.take_length, List.flatten_append, List.foldl_append]
  simp
theorem fold_len : ∀ (l acc : List SymR), (l.foldl withS acc).length ≤ acc.length + l.length
  | [], acc => Nat.le_refl _
  | x :: l, acc => by
    have h1 := fold_len l (withS acc x)
    have h2 := withS_len acc x
    rw [List.foldl_cons, List.length_cons]
    omega
theorem flat_cnt (ls : List (List SymR)) : ls.flatten.length = cntS ls := by unfold cntS; rw [List.length_flatten]
theorem allTo_len (ls : List (List SymR)) (i j : Nat) : (allTo ls i j).length ≤ cntS (ls.take i) + j := by
  have h1 := fold_len ((ls.getD i []).take j) (allS (ls.take i))
  have h2 := fold_len (ls.take i).flatten []
  rw [flat_cnt] at h2
  have h3 : ((ls.getD i []).take j).length ≤ j := by rw [List.length_take]; omega
  unfold allTo
  have h4 : (allS (ls.take i)).length ≤ cntS (ls.take i) := by unfold allS; simpa using h2
  omega
def AllOut (ys : List SymR) (w : World) (e : Ending) (w' : World) : Prop := ∃ A c, e = .returned (.slice A ys.length c) ∧ SliceOk A ys.length c ∧ Syms w' A ys.length ys ∧ Below w.heap.size w w'
set_option maxHeartbeats 8000000 in
theorem refAll13_any (q z : Int) (A : Option Addr) (c : Nat) (ls : List (List SymR)) (w : World) (h : Lsts w A ls.length ls) (ho : OkSh ls) :
    Calls Try.prog 21 #[.agg #[.int .i64 q, .int .i64 z, .slice A ls.length c]] w (AllOut (allS ls) w) := by
  have HL := Lib.hid h
  have HO := Lib.hid ho
  have hn := ho.n
  clear h ho
  have hb1 : Below w.heap.size w (w.alloc (.cells #[.int .i64 q, .int .i64 z, .slice A ls.length c] 24)) := (Below.refl w.heap.size w).alloc (Nat.le_refl _) _
  have W1 := Lib.hid (hb1.alloc hb1.size (.cells #[] 27))
  have Q := Lib.hid ((Box.new w 24 #[.int .i64 q, .int .i64 z, .slice A ls.length c]).alloc (.cells #[] 27))
  obtain ⟨r0, r1, r2⟩ := Q.out.tri
  clear hb1
  go_enter Try.func21, Try.ntmps21
  go_wp2_with fail
  clear r0 r1 r2
  go_loopw [3, 12] (fun v t wr => ∃ i : Nat, i ≤ ls.length ∧ t = .int .i64 (i : Int) ∧ ∃ A2 c2, v = .slice A2 (allS (ls.take i)).length c2 ∧ Hid (SliceOk A2 (allS (ls.take i)).length c2) ∧ Hid (Syms wr A2 (allS (ls.take i)).length (allS (ls.take i))) ∧ Hid (Below w.heap.size w wr)) (fun _ t _ => ls.length - (Go.RowKit.intOf t).toNat)
  case atStart => exact ⟨0, Nat.zero_le _, rfl, _, 0, rfl, Lib.hid ⟨Nat.le_refl _, Nat.zero_le _, fun h => by cases h⟩, Lib.hid (Recs.nil _ _), W1⟩
  case round =>
    obtain ⟨i, hi, rfl, A2, c2, rfl, HK, HS, HB⟩ := hrel
    obtain ⟨wo, rfl⟩ : ∃ x : World, x = wr := ⟨_, rfl⟩
    by_cases hlt : i < ls.length
    · have hlt' : (i : Int) < (ls.length : Int) := Int.ofNat_lt.2 hlt
      obtain ⟨b, off, B, l, d, rfl, hb, x0, hk, hX⟩ := RRow.at HL.out i hlt
      have x0 := (HB.out.cell (p := ⟨b, off + i, none⟩) hb).trans x0
      have hl : (ls.getD i []).length = l := hX.1
      have HX := Lib.hid hX
      have h2 := HO.out.r i
      have hb2 := cntS_bd HO.out i
      have HEnd := Lib.hid (allTo_end ls i hlt)
      have HSc := Lib.hid (allTo_succ ls i)
      have HLn := Lib.hid (allTo_len ls i)
      rw [← allTo_zero] at HK HS
      have hz := allTo_zero ls i
      rw [hl] at HEnd HSc
      rw [← hz]
      clear hX hk hz
      have hl1 : l ≤ 1000 := by omega
      go_wp2_with fail
      go_loopw [3, 18] (fun v t wr => ∃ j : Nat, j ≤ l ∧ t = .int .i64 (j : Int) ∧ ∃ A2 c2, v = .slice A2 (allTo ls i j).length c2 ∧ Hid (SliceOk A2 (allTo ls i j).length c2) ∧ Hid (Syms wr A2 (allTo ls i j).length (allTo ls i j)) ∧ Hid (Below w.heap.size w wr)) (fun _ t _ => l - (Go.RowKit.intOf t).toNat)
      case atStart => exact ⟨0, Nat.zero_le _, rfl, A2, c2, rfl, HK, HS, HB⟩
      case round =>
        clear HK HS HB
        obtain ⟨j, hj, rfl, A3, c3, rfl, HK, HS, HB⟩ := hrel
        by_cases hjl : j < l
        · have hjl' : (j : Int) < (l : Int) := Int.ofNat_lt.2 hjl
          obtain ⟨b1, off1, rfl, hb1, y0, y1⟩ := HX.out.two j hjl
          have y0 := (HB.out.cell (p := ⟨b1, off1 + j * 2, none⟩) hb1).trans y0
          have y1 := (HB.out.cell (p := ⟨b1, off1 + j * 2 + 1, none⟩) hb1).trans y1
          obtain ⟨w5, rfl⟩ : ∃ w5 : World, w5 = wr := ⟨_, rfl⟩
          have hlen := HLn.out j
          have GX := Lib.hid (Box.new w5 27 (smA ((ls.getD i []).getD j default)))
          have c1 : Below w5.heap.size w5 (w5.alloc (.cells (smA ((ls.getD i []).getD j default)) 27)) := (Below.refl _ _).alloc (Nat.le_refl _) _
          have HW := Lib.hid (refWith13_any A3 (allTo ls i j).length c3 (allTo ls i j) ((ls.getD i []).getD j default) _ (Recs.below HS.out c1) (by omega))
          have HC1 := Lib.hid (HB.out.trans (c1.mono HB.out.size))
          rw [← HSc.out j hjl] at HW
          generalize (ls.getD i []).getD j default = x at *
          obtain ⟨x0', x1'⟩ := x
          obtain ⟨g0, g1, -, -⟩ := GX.out.two
          dsimp only at g0 g1 y0 y1
          clear c1 HS GX HK HB hlen
          go_wp2_with fail
          refine HW.out.mono ?_
          rintro e x2 ⟨A4, c4, rfl, ho4, hb⟩
          have HK4 := Lib.hid (own_cap ho4)
          have HS4 := Lib.hid (own_recs encS_len ho4 (by decide))
          have HC4 := Lib.hid (chain HC1.out hb)
          clear ho4 hb HW HC1 y0 y1 g0 g1
          go_wp2_with fail
          go_roundw
          case rel => exact ⟨j + 1, hjl, by go_num, A4, c4, rfl, HK4, HS4, HC4⟩
          case measure => simp [Go.RowKit.intOf] <;> omega
        · obtain rfl : j = l := by omega
          have hjl' : ¬ (j : Int) < (j : Int) := Int.lt_irrefl _
          rw [HEnd.out] at HK HS ⊢
          have hi5 : (i : Int) < 1000000 := by omega
          go_wp2_with fail
          go_roundw
          case rel => exact ⟨i + 1, hlt, by go_num, A3, c3, rfl, HK, HS, HB⟩
          case measure => simp [Go.RowKit.intOf] <;> omega
    · obtain rfl : i = ls.length := Nat.le_antisymm hi (Nat.le_of_not_lt hlt)
      have hlt' : ¬ (ls.length : Int) < (ls.length : Int) := Int.lt_irrefl _
      rw [List.take_length] at HK HS ⊢
      go_wp2_with fail
      go_ret
      exact ⟨A2, c2, rfl, HK.out, HS.out, HB.out⟩
def whySh (s : ShR) (x : SymR) : Int := if (x.2.size : Int) = s.2.1 then (if hasI (allS s.2.2) x.1 then 8 else if (cntS s.2.2 : Int) = s.1 then 7 else 0) else 2
set_option maxHeartbeats 8000000 in
theorem refWhy13_any (v : Value) (s : ShR) (x : SymR) (w : World) (h : ShAt w v s) (ho : OkSh s.2.2) :
    Calls Try.prog 14 #[v, .agg (smA x)] w fun e w' => e = .returned (.int .i64 (whySh s x)) ∧ Below w.heap.size w w' := by
  obtain ⟨A, c, rfl, hs, hl⟩ := h
  obtain ⟨q, z, ls⟩ := s
  obtain ⟨x0, x1⟩ := x
  dsimp only at hs hl ho ⊢
  have HL := Lib.hid hl
  have HO := Lib.hid ho
  have hb1 : Below w.heap.size w (w.alloc (.cells #[.int .i64 q, .int .i64 z, .slice A ls.length c] 24)) := (Below.refl w.heap.size w).alloc (Nat.le_refl _) _
  have W1 := Lib.hid (hb1.alloc hb1.size (.cells (smA (x0, x1)) 27))
  have Q := Lib.hid ((Box.new w 24 #[.int .i64 q, .int .i64 z, .slice A ls.length c]).alloc (.cells (smA (x0, x1)) 27))
  have QX := Box.new (w.alloc (.cells #[.int .i64 q, .int .i64 z, .slice A ls.length c] 24)) 27 (smA (x0, x1))
  simp only [World.size_alloc] at QX
  have QX := Lib.hid QX
  have HA := Lib.hid (refAll13_any q z A c ls _ (Lsts.below HL.out W1.out) HO.out)
  have HC := Lib.hid (fun wy (hb : Below w.heap.size w wy) => refCount13_any q z A c ls wy (Lsts.below HL.out hb) HO.out)
  have hcl : (allS ls).length ≤ 100000 := by
    have h2 := fold_len ls.flatten []
    rw [flat_cnt] at h2
    have h3 := cntS_bd HO.out ls.length
    have h4 := HO.out.n
    rw [List.take_length] at h3
    have h5 : (allS ls).length ≤ 0 + cntS ls := h2
    omega
  have HE := Lib.hid (show whySh (q, z, ls) (x0, x1) = if (x1.size : Int) = z then (if hasI (allS ls) x0 then 8 else if (cntS ls : Int) = q then 7 else 0) else 2 from rfl)
  obtain ⟨r0, r1, r2⟩ := Q.out.tri
  obtain ⟨s0, s1, -, -⟩ := QX.out.two
  clear hb1 hl ho hs
  by_cases e1 : (x1.size : Int) = z
  · have HE1 := Lib.hid (HE.out.trans (if_pos e1))
    have t1 : ((x1.size : Int) != z) = false := by simp [e1]
    clear e1 HE
    go_enter Try.func14, Try.ntmps14
    go_wp2_with fail
    refine HA.out.mono ?_
    rintro e w2 ⟨A2, c2, rfl, hk, hS, hb⟩
    have HS := Lib.hid hS
    have Q2 := Lib.hid (Q.out.keep hb)
    have QX2 := Lib.hid (QX.out.keep hb)
    have HB2 := Lib.hid (W1.out.trans (hb.mono W1.out.size))
    clear hk hS hb r0 r1 r2 s0 s1 HA
    obtain ⟨ys, hys⟩ : ∃ y, y = allS ls := ⟨_, rfl⟩
    rw [← hys] at hcl HS HE1 ⊢
    clear hys
    obtain ⟨l, hll⟩ : ∃ l, l = ys.length := ⟨_, rfl⟩
    rw [← hll] at HS hcl ⊢
    have HSl := Lib.hid hll.symm
    clear hll
    go_wp2_with fail
    go_loopw [16] (fun t wr => ∃ i : Nat, i ≤ l ∧ t = .int .i64 (i : Int) ∧ Hid (hasI (ys.take i) x0 = false) ∧ Hid (Box wr w.heap.size 24 #[.int .i64 q, .int .i64 z, .slice A ls.length c]) ∧ Hid (Box wr (w.heap.size + 1) 27 (smA (x0, x1))) ∧ Hid (Below w2.heap.size w2 wr)) (fun t _ => l - (Go.RowKit.intOf t).toNat)
    case atStart => exact ⟨0, Nat.zero_le _, rfl, Lib.hid rfl, Q2, QX2, Lib.hid (Below.refl _ _)⟩
    case round =>
      obtain ⟨i, hi, rfl, HN, Q3, QX3, HB3⟩ := hrel
      by_cases hlt : i < l
      · have hlt' : (i : Int) < (l : Int) := Int.ofNat_lt.2 hlt
        obtain ⟨b1, off1, rfl, hb1, y0, y1⟩ := HS.out.two i hlt
        have y0 := (HB3.out.cell (p := ⟨b1, off1 + i * 2, none⟩) hb1).trans y0
        have y1 := (HB3.out.cell (p := ⟨b1, off1 + i * 2 + 1, none⟩) hb1).trans y1
        have HSn := Lib.hid (hasI_snoc ys x0 i (by rw [HSl.out]; exact hlt))
        have HUp := Lib.hid (hasI_up ys x0 (i + 1))
        have GX := Lib.hid (Box.new wr 27 (smA (ys.getD i default)))
        have Q4 := Lib.hid (Q3.out.alloc (.cells (smA (ys.getD i default)) 27))
        have QX4 := Lib.hid (QX3.out.alloc (.cells (smA (ys.getD i default)) 27))
        have HB4 := Lib.hid (HB3.out.alloc HB3.out.size (.cells (smA (ys.getD i default)) 27))
        generalize ys.getD i default = y at *
        obtain ⟨v0, v1⟩ := y
        obtain ⟨g0, g1, -, -⟩ := GX.out.two
        obtain ⟨s0, s1, -, -⟩ := QX4.out.two
        dsimp only at g0 g1 y0 y1 HSn s0 s1
        by_cases hv : v0 = x0
        · subst hv
          have HE2 := Lib.hid (HE1.out.trans (if_pos (HUp.out (by rw [HSn.out]; simp))))
          have tv : ((v0 : Int) == (v0 : Int)) = true := by simp
          clear HSn HUp HE1
          go_wp2_with fail
          go_ret
          exact ⟨by rw [HE2.out]; rfl, (HB2.out.trans (HB4.out.mono HB2.out.size))⟩
        · have tv : ((v0 : Int) == (x0 : Int)) = false := by simp; omega
          have HN2 := Lib.hid (show hasI (ys.take (i + 1)) x0 = false by rw [HSn.out, HN.out]; simpa using hv)
          clear HSn HUp hv
          go_wp2_with fail
          go_roundw
          case rel => exact ⟨i + 1, hlt, by go_num, HN2, Q4, QX4, HB4⟩
          case measure => simp [Go.RowKit.intOf] <;> omega
      · obtain rfl : i = l := Nat.le_antisymm hi (Nat.le_of_not_lt hlt)
        have hlt' : ¬ (i : Int) < (i : Int) := Int.lt_irrefl _
        have HE2 := Lib.hid (HE1.out.trans (if_neg (show ¬ hasI ys x0 = true by have := HN.out; rw [List.take_of_length_le (by rw [HSl.out]; exact Nat.le_refl _)] at this; rw [this]; simp)))
        have HBr := Lib.hid (HB2.out.trans (HB3.out.mono HB2.out.size))
        have HCr := Lib.hid (HC.out _ HBr.out.drew)
        obtain ⟨r0, r1, r2⟩ := Q3.out.tri
        clear HE1
        go_upto_region 9 with (fail)
        by_cases e2 : (cntS ls : Int) = q
        · have HE3 := Lib.hid (HE2.out.trans (if_pos e2))
          have tq : ((cntS ls : Int) == q) = true := by simp [e2]
          clear e2 HE2
          go_region_held3 (fun (w' : World) => w'.cell? ⟨w.heap.size, 0, none⟩ = some (.int .i64 q) ∧ w'.cell? ⟨w.heap.size, 1, none⟩ = some (.int .i64 z) ∧ w'.cell? ⟨w.heap.size, 2, none⟩ = some (.slice A ls.length c)) (go_keep) (first
            | (go_at_call 34; ((with_reducible refine HCr.out.mono ?_); rintro e w7 ⟨rfl, hb⟩; have HB7 := Lib.hid (chain HBr.out.drew hb); have Q7 := Lib.hid (Q3.out.drew.keep hb); clear hb; obtain ⟨k0, k1, k2⟩ := Q7.out.tri)))
          go_wp2_with fail
          go_ret
          exact ⟨by rw [HE3.out]; rfl, HB7.out⟩
        · have HE3 := Lib.hid (HE2.out.trans (if_neg e2))
          have tq : ((cntS ls : Int) == q) = false := by simpa using e2
          clear e2 HE2
          go_region_held3 (fun (w' : World) => w'.cell? ⟨w.heap.size, 0, none⟩ = some (.int .i64 q) ∧ w'.cell? ⟨w.heap.size, 1, none⟩ = some (.int .i64 z) ∧ w'.cell? ⟨w.heap.size, 2, none⟩ = some (.slice A ls.length c)) (go_keep) (first
            | (go_at_call 34; ((with_reducible refine HCr.out.mono ?_); rintro e w7 ⟨rfl, hb⟩; have HB7 := Lib.hid (chain HBr.out.drew hb); have Q7 := Lib.hid (Q3.out.drew.keep hb); clear hb; obtain ⟨k0, k1, k2⟩ := Q7.out.tri)))
          go_wp2_with fail
          go_ret
          exact ⟨by rw [HE3.out]; rfl, HB7.out⟩
  · have HE1 := Lib.hid (HE.out.trans (if_neg e1))
    have t1 : ((x1.size : Int) != z) = true := by simpa using e1
    clear e1 HE
    go_enter Try.func14, Try.ntmps14
    go_wp2_with fail
    go_ret
    exact ⟨by rw [HE1.out]; rfl, W1.out⟩
end Go.Proofs.Ytehlebeeoeghmaa
