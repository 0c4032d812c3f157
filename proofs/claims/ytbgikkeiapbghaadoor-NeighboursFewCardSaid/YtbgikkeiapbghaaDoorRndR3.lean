/- Contract of layer 6: Some (over the shelf's contracts of slices.Clone and slices.Sort). -/
import Derived.Test.YtbgikkeiapbghaaDoorRndR2
import Derived.Test.YtbgikkeiapbghaaDoorShelf
namespace Go.Proofs.YtbgikkeiapbghaaDoor
open Go.RowKit Go.Sort
/-- A row of the call's own that is not nil, as a row that may be written. -/
theorem own_nats' {w : World} {base e n : Nat} {v : Value} {zs : List Nat} (h : w.ownsRow base e 1 v n (zs.map natV)) (hne : v ≠ .slice none 0 0) : ∃ g c, v = .slice (some ⟨g, 0, none⟩) n c ∧ n ≤ c ∧ base ≤ g ∧ g < w.heap.size ∧ NatsAt w g zs ∧ zs.length = n := by
  have hl : zs.length = n := by have := h.1; simpa using this
  rcases h.2 with ⟨h0, _⟩ | ⟨g, cap, cur, rfl, hb, hh, hcap, hm, hs, hx⟩
  · exact absurd h0 hne
  · have hbx : Box w g e cur := hh
    refine ⟨g, cap, rfl, hcap, hb, hbx.lt, fun j hj => ?_, hl⟩
    rw [hbx.cell j, hbx.free j]
    refine ⟨?_, rfl⟩
    have e1 : (cur.toList.take (n * 1))[j]? = (zs.map natV)[j]? := by rw [hx]
    rw [Nat.mul_one, List.getElem?_take, if_pos (by omega)] at e1
    simp only [List.getElem?_map, List.getElem?_eq_getElem hj, Option.map_some] at e1
    rw [← Array.getElem?_toList, e1]
    simp [List.getD, hj, natV]
theorem mapBlock_other (w : World) (blk k : Nat) (f : Array Value → Array Value) (h : k ≠ blk) : (mapBlock w blk f).heap[k]? = w.heap[k]? := by
  simp only [mapBlock, Array.getElem?_modify]
  rw [if_neg (fun e => h e.symm)]
/-- The world behind a sort. -/
theorem sorted_below (w : World) (n blk off : Nat) (d : Array Int) (os : Array Obj) (h : blk < w.heap.size) : Below blk w (grow (putRow (Value.int .i64) (Sort.ahead w n) blk off d) os) :=
  ⟨rfl, rfl, rfl, by simp, fun k hk => by
    rw [heap_grow_old _ _ (by simp; omega)]
    exact mapBlock_other _ _ _ _ (by omega)⟩
theorem holds_nats {w : World} {g : Nat} {zs : List Nat} (h : NatsAt w g zs) : Holds (Value.int .i64) w g 0 (zs.map fun x : Nat => (x : Int)).toArray := by
  intro j hj
  have hj' : j < zs.length := by simpa using hj
  obtain ⟨h1, h2⟩ := h j hj'
  rw [Nat.zero_add]
  refine ⟨?_, h2⟩
  rw [h1]
  simp [List.getD, hj']
theorem nats_holds {w : World} {g : Nat} {zs : List Nat} (h : Holds (Value.int .i64) w g 0 (zs.map fun x : Nat => (x : Int)).toArray) : NatsAt w g zs := by
  intro j hj
  obtain ⟨h1, h2⟩ := h j (by simpa using hj)
  rw [Nat.zero_add] at h1 h2
  refine ⟨?_, h2⟩
  rw [h1]
  simp [List.getD, hj]
/-- slices.Sort at a row of small numbers. -/
theorem sort_nats (g c k : Nat) (zs zs' : List Nat) (hz : zs.length = k) (w : World) (h : NatsAt w g zs) (hg : g < w.heap.size) (hs : (zs.map fun x : Nat => (x : Int)).mergeSort (fun x y => decide (x ≤ y)) = zs'.map fun x : Nat => (x : Int)) (hk : k ≤ 512) :
    Calls Tryd.prog 35 #[.slice (some ⟨g, 0, none⟩) k c] w fun e w' => e = .returned (.tuple #[]) ∧ NatsAt w' g zs' ∧ Below g w w' := by
  have hl : (zs.map fun x : Nat => (x : Int)).length = k := by simpa using hz
  have hl2 : zs'.length = zs.length := by
    have := congrArg List.length hs
    simpa using this.symm
  have := Tryd.slices_Sort_int g 0 c (zs.map fun x : Nat => (x : Int)) w (holds_nats h) hg (by omega)
  rw [hl] at this
  refine this.mono ?_
  rintro e w' ⟨rfl, n, os, rfl⟩
  refine ⟨rfl, ?_, sorted_below w n g 0 _ os hg⟩
  rw [hs]
  refine nats_holds (holds_grow _ _ _ _ _ _ (by simpa using hg) ?_)
  exact holds_putRow _ (Sort.ahead w n) g 0 (zs.map fun x : Nat => (x : Int)).toArray _ (holds_nats h) (by simp [hl2])
theorem some_no (s n many : Int) (h : ¬ ((1 ≤ n ∧ n ≤ 512) ∧ 0 ≤ many ∧ many ≤ n)) (w : World) : Calls Tryd.prog 20 #[.int .u64 s, .int .i64 n, .int .i64 many] w fun e w' => e = .returned (.tuple #[.int .u64 0, .slice none 0 0, .int .i64 2]) ∧ Below w.heap.size w w' := by
  have H := Lib.hid (bound_any n)
  by_cases hn : 1 ≤ n ∧ n ≤ 512
  · rw [decide_eq_true hn] at H
    by_cases h0 : many < 0
    · go_enter Tryd.func20, Tryd.ntmps20
      go_wp2_with fail
      refine (H.out _).mono ?_
      rintro e w1 ⟨rfl, rfl⟩
      go_wp2_with fail
      go_ret3
      exact ⟨rfl, Below.refl _ _⟩
    · have h1 : n < many := by omega
      go_enter Tryd.func20, Tryd.ntmps20
      go_wp2_with fail
      refine (H.out _).mono ?_
      rintro e w1 ⟨rfl, rfl⟩
      go_wp2_with fail
      go_ret3
      exact ⟨rfl, Below.refl _ _⟩
  · rw [decide_eq_false hn] at H
    go_enter Tryd.func20, Tryd.ntmps20
    go_wp2_with fail
    refine (H.out _).mono ?_
    rintro e w1 ⟨rfl, rfl⟩
    go_wp2_with fail
    go_ret3
    exact ⟨rfl, Below.refl _ _⟩
/-- What Some hands back. -/
def SomeOut (n many s : Nat) (w : World) (e : Ending) (w' : World) : Prop :=
  ∃ g c, e = .returned (.tuple #[.int .u64 ((shufN n s).1 : Nat), .slice (some ⟨g, 0, none⟩) many c, .int .i64 0]) ∧ many ≤ c ∧ NatsAt w' g (someN n many s) ∧ (someN n many s).length = many ∧ w.heap.size ≤ g ∧ g < w'.heap.size ∧ Below w.heap.size w w'
set_option maxRecDepth 100000 in
set_option maxHeartbeats 2000000 in
theorem some_yes (s n many : Nat) (hs : s < 18446744073709551616) (h1 : 1 ≤ n) (h2 : n ≤ 512) (hm : many ≤ n) (w : World) : Calls Tryd.prog 20 #[.int .u64 s, .int .i64 n, .int .i64 many] w (SomeOut n many s w) := by
  have H := Lib.hid (bound_any n)
  rw [decide_eq_true (p := 1 ≤ (n : Int) ∧ (n : Int) ≤ 512) (by omega)] at H
  have HSI := Lib.hid (some_int n many s h1 hs)
  have HSL := Lib.hid (some_len n many s h1 hs hm)
  have hm0 : ¬ (many : Int) < 0 := by omega
  have hm1 : ¬ (n : Int) < many := by omega
  have hm2 : (many : Int) ≤ n := by omega
  go_enter Tryd.func20, Tryd.ntmps20
  go_wp2_with fail
  refine (H.out _).mono ?_
  rintro e w1 ⟨rfl, rfl⟩
  go_wp2_with fail
  refine (shuffle_yes s n hs h1 h2 _).mono ?_
  rintro e w1 ⟨g, rfl, hna, hzl, hg0, hg1, hb⟩
  have HNA := Lib.hid hna
  have HZL := Lib.hid hzl
  have B1 := Lib.hid hb
  clear hna hzl hb
  go_wp2_with fail
  have HCL := Tryd.slices_Clone_int g 0 many n ((shufN n s).2.map fun x : Nat => (x : Int)) w1 (by simp [HZL.out]; exact hm) (by omega) (fun j hj => by
    have hj' : j < (shufN n s).2.length := by simpa using hj
    rw [Nat.zero_add, (HNA.out j hj').1]
    simp [List.getD, hj'])
  refine HCL.mono ?_
  clear HCL
  rintro e w2 ⟨v, rfl, hown, hne, hb⟩
  have hown2 : w2.ownsRow w1.heap.size 3 1 v many (((shufN n s).2.take many).map natV) := by
    rw [← List.map_take, List.map_map] at hown
    exact hown
  obtain ⟨g2, c2, rfl, hc2, hg2, hg3, hn2, hl2⟩ := own_nats' hown2 hne
  have B2 := Lib.hid (chain B1.out hb)
  have HN2 := Lib.hid hn2
  have HL2 := Lib.hid hl2
  have hw1 := B1.out.size
  clear hown hown2 hne hb hn2 hl2 HNA HZL
  have HS : ∀ W, Hid (W = w2) → Calls Tryd.prog 35 #[.slice (some ⟨g2, 0, none⟩) many c2] W fun e w' => e = .returned (.tuple #[]) ∧ NatsAt w' g2 (someN n many s) ∧ Below g2 W w' := by
    rintro W hW
    have hW : W = w2 := hW
    subst hW
    by_cases h0 : many = 0
    · subst h0
      refine (Tryd.slices_Sort_int_none (some ⟨g2, 0, none⟩) c2 W).mono ?_
      rintro e w' ⟨rfl, rfl⟩
      refine ⟨rfl, ?_, Below.refl _ _⟩
      have := HSL.out
      intro j hj
      omega
    · exact sort_nats g2 c2 many _ _ HL2.out W HN2.out hg3 HSI.out (by omega)
  have HS := Lib.hid HS
  go_wp2_with fail
  refine (HS.out w2 (Lib.hid rfl)).mono ?_
  rintro e w3 ⟨rfl, hn3, hb⟩
  go_wp2_with fail
  go_ret3
  exact ⟨g2, c2, rfl, hc2, hn3, HSL.out, by omega, Nat.lt_of_lt_of_le hg3 hb.size, B2.out.trans (hb.mono (by omega))⟩
end Go.Proofs.YtbgikkeiapbghaaDoor
