/- neighbours.Rows: the rows of several symbols. -/
import Derived.Test.YtbgikkeiapbghaaDoorNb3
import Derived.Deep.AppendLies
import Derived.Deep.RegionLaw
namespace Go.Proofs.YtbgikkeiapbghaaDoor
open Go.RowKit
theorem own_drew {w : World} {base e size n : Nat} {v : Value} {xs : List Value} (h : w.ownsRow base e size v n xs) : w.drew.ownsRow base e size v n xs := h
def flatR (k : Int) (rs : List (Option Addr × Nat × Nat)) : List Value := rs.flatMap fun r => [.int .i64 k, .slice r.1 r.2.1 r.2.2]
theorem flatR_len (k : Int) (rs : List (Option Addr × Nat × Nat)) : (flatR k rs).length = rs.length * 2 := by
  induction rs with
  | nil => rfl
  | cons r rs ih => simp only [flatR, List.flatMap_cons, List.length_append, List.length_cons, List.length_nil] at *; omega
theorem flatR_snoc (k : Int) (rs : List (Option Addr × Nat × Nat)) (A : Option Addr) (l c : Nat) : flatR k (rs ++ [(A, l, c)]) = flatR k rs ++ [.int .i64 k, .slice A l c] := by simp [flatR]
/-- A row of rows of the call's own: each of k bits, and of these words. -/
def MatW (w : World) (base : Nat) (k : Int) (v : Value) (ls : List (List Nat)) : Prop :=
  ∃ rs, rs.length = ls.length ∧ w.ownsRow base 29 2 v ls.length (flatR k rs) ∧ ∀ j, j < ls.length → OwnW w (rs.getD j (none, 0, 0)).1 (rs.getD j (none, 0, 0)).2.1 (rs.getD j (none, 0, 0)).2.2 (ls.getD j [])
theorem MatW.nil (w : World) (base : Nat) (k : Int) : MatW w base k (.slice none 0 0) [] := ⟨[], rfl, World.ownsRow_nil _ _ _ _, fun j hj => by cases hj⟩
theorem MatW.below {w w' : World} {base : Nat} {k : Int} {v : Value} {ls : List (List Nat)} (h : MatW w base k v ls) (hb : Below w.heap.size w w') : MatW w' base k v ls := by
  obtain ⟨rs, h1, h2, h3⟩ := h
  exact ⟨rs, h1, own_keep h2 hb, fun j hj => (h3 j hj).below hb⟩
theorem MatW.alloc {w : World} {base : Nat} {k : Int} {v : Value} {ls : List (List Nat)} (h : MatW w base k v ls) (o : Obj) : MatW (w.alloc o) base k v ls := h.below ((Below.refl _ _).alloc (Nat.le_refl _) o)
theorem MatW.far {w : World} {base : Nat} {k : Int} {v : Value} {ls : List (List Nat)} (h : MatW w base k v ls) {g : Nat} {t : TypeId} {cs : Array Value} (hb : Box w g t cs) (hne : 22 ≠ t) (hne2 : 29 ≠ t) (i : Nat) (u : Value) : MatW (w.setCell ⟨g, i, none⟩ u) base k v ls := by
  obtain ⟨rs, h1, h2, h3⟩ := h
  exact ⟨rs, h1, own_far h2 hb hne2 i u, fun j hj => (h3 j hj).far hb hne i u⟩
theorem MatW.snoc {w : World} {base : Nat} {k : Int} {v : Value} {rs : List (Option Addr × Nat × Nat)} {ls : List (List Nat)} {A : Option Addr} {l c : Nat} {z : List Nat} (h1 : rs.length = ls.length) (h2 : w.ownsRow base 29 2 v (ls.length + 1) (flatR k rs ++ [.int .i64 k, .slice A l c]))
    (h3 : ∀ j, j < ls.length → OwnW w (rs.getD j (none, 0, 0)).1 (rs.getD j (none, 0, 0)).2.1 (rs.getD j (none, 0, 0)).2.2 (ls.getD j [])) (h4 : OwnW w A l c z) : MatW w base k v (ls ++ [z]) := by
  refine ⟨rs ++ [(A, l, c)], by simp [h1], ?_, fun j hj => ?_⟩
  · rw [flatR_snoc, List.length_append]; exact h2
  · rw [List.length_append] at hj
    simp only [List.length_cons, List.length_nil] at hj
    by_cases h : j < ls.length
    · have := h3 j h
      simp only [List.getD, List.getElem?_append_left h, List.getElem?_append_left (h1 ▸ h)] at this ⊢
      exact this
    · obtain rfl : j = ls.length := by omega
      have e1 : (rs ++ [(A, l, c)]).getD ls.length (none, 0, 0) = (A, l, c) := by rw [← h1]; simp [List.getD]
      have e2 : (ls ++ [z]).getD ls.length [] = z := by simp [List.getD]
      rw [e1, e2]; exact h4
theorem row_info : (Tryd.prog.info? 29).map (fun i => (i.zero, i.size, i.bytes)) = some (some (.agg #[.int .i64 0, .slice none 0 0]), 2, 32) := by kernel_rfl
/-- What Rows hands back. -/
def MatOut (k : Nat) (f : Nat → List Nat) (zs : List Nat) (w : World) (e : Ending) (w' : World) : Prop :=
  ∃ v, e = .returned (.tuple #[.agg #[.int .i64 k, v], .int .i64 0]) ∧ MatW w' w.heap.size k v (zs.map f) ∧ Below w.heap.size w w'
set_option maxRecDepth 100000 in
set_option maxHeartbeats 2000000 in
theorem rows_gen (k : Nat) (f : Nat → List Nat) (hk : 1 ≤ k ∧ k ≤ 64) (hM : ∀ w, Calls Tryd.prog 11 #[.int .i64 k] w fun e w' => e = .returned (.bool true) ∧ w = w')
    (hS : ∀ id : Nat, id < 18446744073709551616 → ∀ w, Calls Tryd.prog 13 #[.int .i64 k, .int .u64 id] w (OneOwn k (f id) w))
    (A : Option Addr) (l c : Nat) (zs : List Nat) (w : World) (hz : Words w A l zs) (hl : l ≤ 64) :
    Calls Tryd.prog 6 #[.int .i64 k, .slice A l c] w (MatOut k f zs w) := by
  have HM := Lib.hid hM
  have HS := Lib.hid hS
  have HZ := Lib.hid hz
  clear hM hS hz
  have hl2 : ¬ (64 : Int) < l := by omega
  obtain ⟨i0, hi, hz0, hz1, hz2⟩ := info_parts row_info
  have HI := Lib.hid hi
  have HZ0 := Lib.hid hz0
  have HZ1 := Lib.hid hz1
  have HZ2 := Lib.hid hz2
  clear hi hz0 hz1 hz2
  have Q0 := Lib.hid ((Box.new w 34 #[.int .i64 0, .slice none 0 0]).alloc (.cells #[.int .i64 k, .slice none 0 0] 34))
  have q1 := Box.new (w.alloc (.cells #[.int .i64 0, .slice none 0 0] 34)) 34 #[.int .i64 k, .slice none 0 0]
  have HW := Lib.hid (show Below w.heap.size w ((w.alloc (.cells #[.int .i64 0, .slice none 0 0] 34)).alloc (.cells #[.int .i64 k, .slice none 0 0] 34)) from ((Below.refl _ _).alloc (Nat.le_refl _) _).alloc (by simp) _)
  simp only [World.size_alloc] at q1
  have Q1 := Lib.hid q1
  clear q1
  go_enter Tryd.func6, Tryd.ntmps6
  go_wp2_with fail
  refine (HM.out _).mono ?_
  rintro e w1 ⟨rfl, rfl⟩
  go_wp2_with fail
  go_loopw [25] (fun t wr => ∃ (i : Nat) (v : Value), i ≤ l ∧ t = .int .i64 i ∧ Box wr (w.heap.size + 1) 34 #[.int .i64 k, v] ∧ MatW wr w.heap.size k v ((zs.take i).map f) ∧ Box wr w.heap.size 34 #[.int .i64 0, .slice none 0 0] ∧ Below w.heap.size w wr) (fun t _ => l - (intOf t).toNat)
  case atStart => exact ⟨0, _, by omega, rfl, Q1.out, MatW.nil _ _ _, Q0.out, HW.out⟩
  case round =>
    obtain ⟨i, v, hi, rfl, B1, hmat, B0, hbel⟩ := hrel
    have R1 := Lib.hid B1
    have R0 := Lib.hid B0
    have HMa := Lib.hid hmat
    have HB := Lib.hid hbel
    clear B1 B0 hmat hbel Q0 Q1 HW
    by_cases hlt : i < l
    · have hlt' : (i : Int) < (l : Int) := by omega
      obtain ⟨q, o, rfl, lt1, hc1⟩ := HZ.out.2.2 (by omega)
      have cu := (HB.out.cell (p := ⟨q, o + i, none⟩) lt1).trans (hc1 i hlt)
      have hx := HZ.out.2.1 i
      have HTK := Lib.hid (show (zs.take (i + 1)).map f = (zs.take i).map f ++ [f (zs.getD i 0)] by rw [take_one zs i 0 (by rw [HZ.out.1]; exact hlt)]; simp)
      have HTL := Lib.hid (show ((zs.take i).map f).length = i by have := HZ.out.1; simp; omega)
      clear hc1 lt1
      generalize zs.getD i 0 = x at *
      have HX := Lib.hid hx
      clear hx
      obtain ⟨a0, a1, f0, f1⟩ := R1.out.two
      obtain ⟨rs, hr1, hr2, hr3⟩ := HMa.out
      rw [HTL.out] at hr1 hr2 hr3
      have HOW := Lib.hid hr2
      have HRS := Lib.hid hr3
      clear hr2 hr3
      go_wp2_with fail
      go_region_law (first
        | (go_simp; go_at_call 13; refine (HS.out x HX.out _).mono ?_; rintro e1 x1 ⟨A1, l1, c1, rfl, hw, hb⟩; have S1 := Lib.hid (R1.out.drew.keep hb); have S0 := Lib.hid (R0.out.drew.keep hb); have SO := Lib.hid (own_keep (own_drew HOW.out) hb); have SR := Lib.hid (fun j hj => (HRS.out j hj).drew.below hb); have SB := Lib.hid (chain HB.out.drew hb); have SW := Lib.hid hw; clear hb hw; have T1 := Lib.hid (S1.out.alloc (.cells #[.int .i64 k, .slice A1 l1 c1] 29)); obtain ⟨s0, s1, sf0, sf1⟩ := S1.out.two; obtain ⟨t0, t1, tf0, tf1⟩ := T1.out.two; have hb0 := SB.out.size; have hn0 := SO.out.lt)
        | (refine step_append_lies _ rfl (.tmp 30) (.tmp 34) 32 rfl w.heap.size 29 i0 (.agg #[.int .i64 0, .slice none 0 0]) 2 32 Tryd.underlying32 HI.out HZ0.out HZ1.out HZ2.out rfl (by decide) v i (flatR k rs) (by simp [Act.eval, Act.put]) (World.ownsRow.alloc SO.out (.cells #[.int .i64 k, .slice A1 l1 c1] 29)) ⟨x1.heap.size, 0, none⟩ 1 1 [.int .i64 k, .slice A1 l1 c1] (by simp [Act.eval, Act.put]) rfl (World.news_of_block (Box.new x1 29 #[.int .i64 k, .slice A1 l1 c1])) (by simp [Value.oneCell']) (by omega) (by simp [maxLen]; omega) (by omega) (by simp; omega) _ rfl ?_; intro g cap w1 hown hgrow _ _; have V1 := Lib.hid (T1.out.grown hgrow (own_ne SO.out S1.out (by decide))); have HO2 := Lib.hid hown; have HG := Lib.hid hgrow; clear hown hgrow; obtain ⟨v0, v1, vf0, vf1⟩ := V1.out.two))
      all_goals
        have W0 := Lib.hid ((S0.out.alloc (.cells #[.int .i64 k, .slice A1 l1 c1] 29)).grown HG.out (own_ne SO.out S0.out (by decide)))
        have WB := Lib.hid ((SB.out.alloc SB.out.size (.cells #[.int .i64 k, .slice A1 l1 c1] 29)).grown HG.out (SB.out.alloc SB.out.size (.cells #[.int .i64 k, .slice A1 l1 c1] 29)).size (fun k hk => (SO.out.lt k hk).1))
        have WR := Lib.hid (fun j hj => OwnW.grown ((SR.out j hj).alloc (.cells #[.int .i64 k, .slice A1 l1 c1] 29)) (World.ownsRow.alloc SO.out (.cells #[.int .i64 k, .slice A1 l1 c1] 29)) (by decide) HG.out)
        have WW := Lib.hid (OwnW.grown (SW.out.alloc (.cells #[.int .i64 k, .slice A1 l1 c1] 29)) (World.ownsRow.alloc SO.out (.cells #[.int .i64 k, .slice A1 l1 c1] 29)) (by decide) HG.out)
        have WM := Lib.hid (MatW.snoc (ls := (zs.take i).map f) (by rw [HTL.out]; exact hr1) (by rw [HTL.out]; exact HO2.out) (by rw [HTL.out]; exact WR.out) WW.out)
        clear HG SO SR SB SW S0 S1 T1 HOW HRS HO2 WR WW HMa R1 R0 HB
        go_wp2_with fail
        go_roundw
        case rel => exact ⟨i + 1, _, by omega, by go_num, V1.out.put 1 _, by rw [HTK.out]; exact WM.out.far V1.out (by decide) (by decide) 1 _, W0.out.far (p := ⟨w.heap.size + 1, 1, none⟩) (by simp) _, WB.out.setCell (p := ⟨w.heap.size + 1, 1, none⟩) (by simp) _⟩
        case measure => simp [intOf] <;> omega
    · obtain rfl : i = l := by omega
      have hlt' : ¬ (i : Int) < (i : Int) := by omega
      have HTK := Lib.hid (show zs.take i = zs from List.take_of_length_le (by rw [HZ.out.1]; omega))
      rw [HTK.out] at HMa
      obtain ⟨A', c', hv⟩ : ∃ A' c', v = .slice A' zs.length c' := by
        obtain ⟨rs, -, h2, -⟩ := HMa.out
        obtain ⟨A', c', h, -⟩ := own_form h2
        rw [List.length_map] at h
        exact ⟨A', c', h⟩
      subst hv
      obtain ⟨a0, a1, -, -⟩ := R1.out.two
      obtain ⟨b0, b1, f0, f1⟩ := R0.out.two
      go_wp2
      refine close_cell Tryd.results6 rfl rfl rfl R0.out.put2 Tryd.underlying34 rfl (by kernel_rfl) ⟨_, rfl, ?_, ?_⟩
      · exact (HMa.out.far R0.out (by decide) (by decide) 0 _).far (R0.out.put 0 _) (by decide) (by decide) 1 _
      · exact (HB.out.setCell (p := ⟨w.heap.size, 0, none⟩) (Nat.le_refl _) _).setCell (p := ⟨w.heap.size, 1, none⟩) (Nat.le_refl _) _
end Go.Proofs.YtbgikkeiapbghaaDoor
