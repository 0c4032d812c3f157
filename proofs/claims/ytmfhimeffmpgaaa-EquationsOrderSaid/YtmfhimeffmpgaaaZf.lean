/- Parts: Nb5, RefD1, RefD2, RefD3, RefD4, RefD5, Deg3, Ref1, From, Bitrow3, Order1, RefXor, RefOf, Nb2, OwnF, Nb4, Nb6, Nb7, NbX, NrX, RdM, RdA, RdB. -/
import Derived.Test.YtmfhimeffmpgaaaZe
import Derived.ArgAppend
import Derived.Deep.AppendLies
import Derived.Deep.RegionHeld3
import Derived.Deep.RegionLaw
import Derived.Deep.RegionWith
import Derived.Maps.AppendAt
import Derived.OpenShut
import Derived.WalkKit
namespace Go.Proofs.Ytmfhimeffmpgaaa
section
/- neighbours.Rows: the rows of several symbols. -/
set_option linter.unusedVariables false
set_option linter.unusedSimpArgs false
open Go.RowKit
theorem own_drew {w : World} {base e size n : Nat} {v : Value} {xs : List Value} (h : w.ownsRow base e size v n xs) : w.drew.ownsRow base e size v n xs := h
def flatR (k : Int) (rs : List (Option Addr × Nat × Nat)) : List Value := rs.flatMap fun r => [.int .i64 k, .slice r.1 r.2.1 r.2.2]
theorem flatR_len (k : Int) (rs : List (Option Addr × Nat × Nat)) : (flatR k rs).length = rs.length * 2 := by
  induction rs with
  | nil => rfl
  | cons r rs ih => simp only [flatR, List.flatMap_cons, List.length_append, List.length_cons, List.length_nil] at *; omega
theorem flatR_snoc (k : Int) (rs : List (Option Addr × Nat × Nat)) (A : Option Addr) (l c : Nat) : flatR k (rs ++ [(A, l, c)]) = flatR k rs ++ [.int .i64 k, .slice A l c] := by simp [flatR]
/-- A row of rows of the call's own: each of k bits, and of these words. -/
def MatW (w : World) (base : Nat) (k : Int) (v : Value) (ls : List (List Nat)) : Prop :=
  ∃ rs, rs.length = ls.length ∧ w.ownsRow base 69 2 v ls.length (flatR k rs) ∧ ∀ j, j < ls.length → OwnW w (rs.getD j (none, 0, 0)).1 (rs.getD j (none, 0, 0)).2.1 (rs.getD j (none, 0, 0)).2.2 (ls.getD j [])
theorem MatW.nil (w : World) (base : Nat) (k : Int) : MatW w base k (.slice none 0 0) [] := ⟨[], rfl, World.ownsRow_nil _ _ _ _, fun j hj => by cases hj⟩
theorem MatW.below {w w' : World} {base : Nat} {k : Int} {v : Value} {ls : List (List Nat)} (h : MatW w base k v ls) (hb : Below w.heap.size w w') : MatW w' base k v ls := by
  obtain ⟨rs, h1, h2, h3⟩ := h
  exact ⟨rs, h1, own_keep h2 hb, fun j hj => (h3 j hj).below hb⟩
theorem MatW.alloc {w : World} {base : Nat} {k : Int} {v : Value} {ls : List (List Nat)} (h : MatW w base k v ls) (o : Obj) : MatW (w.alloc o) base k v ls := h.below ((Below.refl _ _).alloc (Nat.le_refl _) o)
theorem MatW.far {w : World} {base : Nat} {k : Int} {v : Value} {ls : List (List Nat)} (h : MatW w base k v ls) {g : Nat} {t : TypeId} {cs : Array Value} (hb : Box w g t cs) (hne : 25 ≠ t) (hne2 : 69 ≠ t) (i : Nat) (u : Value) : MatW (w.setCell ⟨g, i, none⟩ u) base k v ls := by
  obtain ⟨rs, h1, h2, h3⟩ := h
  exact ⟨rs, h1, own_far h2 hb hne2 i u, fun j hj => (h3 j hj).far hb hne i u⟩
theorem MatW.snoc {w : World} {base : Nat} {k : Int} {v : Value} {rs : List (Option Addr × Nat × Nat)} {ls : List (List Nat)} {A : Option Addr} {l c : Nat} {z : List Nat} (h1 : rs.length = ls.length) (h2 : w.ownsRow base 69 2 v (ls.length + 1) (flatR k rs ++ [.int .i64 k, .slice A l c]))
    (h3 : ∀ j, j < ls.length → OwnW w (rs.getD j (none, 0, 0)).1 (rs.getD j (none, 0, 0)).2.1 (rs.getD j (none, 0, 0)).2.2 (ls.getD j [])) (h4 : OwnW w A l c z) : MatW w base k v (ls ++ [z]) := by
  refine ⟨rs ++ [(A, l, c)], by simp [h1], ?_, fun j hj => ?_⟩
  · rw [flatR_snoc, List.length_append]; exact h2
  · rw [List.length_append] at hj
    simp only [List.length_cons, List.length_nil] at hj
    by_cases h : j < ls.length
    · have := h3 j h
      simp only [List.getD, List.getElem?_append_left h, List.getElem?_append_left (h1 ▸ h)] at this ⊢
      exact this
    · obtain rfl : j = ls.length := by omega
      have e1 : (rs ++ [(A, l, c)]).getD ls.length (none, 0, 0) = (A, l, c) := by rw [← h1]; simp [List.getD]
      have e2 : (ls ++ [z]).getD ls.length [] = z := by simp [List.getD]
      rw [e1, e2]; exact h4
theorem row_info : (Try.prog.info? 69).map (fun i => (i.zero, i.size, i.bytes)) = some (some (.agg #[.int .i64 0, .slice none 0 0]), 2, 32) := by kernel_rfl
/-- What Rows hands back. -/
def MatOut (k : Nat) (f : Nat → List Nat) (zs : List Nat) (w : World) (e : Ending) (w' : World) : Prop :=
  ∃ v, e = .returned (.tuple #[.agg #[.int .i64 k, v], .int .i64 0]) ∧ MatW w' w.heap.size k v (zs.map f) ∧ Below w.heap.size w w'
set_option maxRecDepth 100000 in
set_option maxHeartbeats 2000000 in
theorem rows_gen (k : Nat) (f : Nat → List Nat) (hk : 1 ≤ k ∧ k ≤ 64) (hM : ∀ w, Calls Try.prog 45 #[.int .i64 k] w fun e w' => e = .returned (.bool true) ∧ w = w')
    (hS : ∀ id : Nat, id < 18446744073709551616 → ∀ w, Calls Try.prog 46 #[.int .i64 k, .int .u64 id] w (OneOwn k (f id) w))
    (A : Option Addr) (l c : Nat) (zs : List Nat) (w : World) (hz : Words w A l zs) (hl : l ≤ 64) :
    Calls Try.prog 42 #[.int .i64 k, .slice A l c] w (MatOut k f zs w) := by
  have HM := Lib.hid hM
  have HS := Lib.hid hS
  have HZ := Lib.hid hz
  clear hM hS hz
  have hl2 : ¬ (64 : Int) < l := by omega
  obtain ⟨i0, hi, hz0, hz1, hz2⟩ := info_parts row_info
  have HI := Lib.hid hi
  have HZ0 := Lib.hid hz0
  have HZ1 := Lib.hid hz1
  have HZ2 := Lib.hid hz2
  clear hi hz0 hz1 hz2
  have Q0 := Lib.hid ((Box.new w 53 #[.int .i64 0, .slice none 0 0]).alloc (.cells #[.int .i64 k, .slice none 0 0] 53))
  have q1 := Box.new (w.alloc (.cells #[.int .i64 0, .slice none 0 0] 53)) 53 #[.int .i64 k, .slice none 0 0]
  have HW := Lib.hid (show Below w.heap.size w ((w.alloc (.cells #[.int .i64 0, .slice none 0 0] 53)).alloc (.cells #[.int .i64 k, .slice none 0 0] 53)) from ((Below.refl _ _).alloc (Nat.le_refl _) _).alloc (by simp) _)
  simp only [World.size_alloc] at q1
  have Q1 := Lib.hid q1
  clear q1
  go_enter Try.func42, Try.ntmps42
  go_wp2_with fail
  refine (HM.out _).mono ?_
  rintro e w1 ⟨rfl, rfl⟩
  go_wp2_with fail
  go_loopw [25] (fun t wr => ∃ (i : Nat) (v : Value), i ≤ l ∧ t = .int .i64 i ∧ Box wr (w.heap.size + 1) 53 #[.int .i64 k, v] ∧ MatW wr w.heap.size k v ((zs.take i).map f) ∧ Box wr w.heap.size 53 #[.int .i64 0, .slice none 0 0] ∧ Below w.heap.size w wr) (fun t _ => l - (intOf t).toNat)
  case atStart => exact ⟨0, _, by omega, rfl, Q1.out, MatW.nil _ _ _, Q0.out, HW.out⟩
  case round =>
    obtain ⟨i, v, hi, rfl, B1, hmat, B0, hbel⟩ := hrel
    have R1 := Lib.hid B1
    have R0 := Lib.hid B0
    have HMa := Lib.hid hmat
    have HB := Lib.hid hbel
    clear B1 B0 hmat hbel Q0 Q1 HW
    by_cases hlt : i < l
    · have hlt' : (i : Int) < (l : Int) := by omega
      obtain ⟨q, o, rfl, lt1, hc1⟩ := HZ.out.2.2 (by omega)
      have cu := (HB.out.cell (p := ⟨q, o + i, none⟩) lt1).trans (hc1 i hlt)
      have hx := HZ.out.2.1 i
      have HTK := Lib.hid (show (zs.take (i + 1)).map f = (zs.take i).map f ++ [f (zs.getD i 0)] by rw [take_one zs i 0 (by rw [HZ.out.1]; exact hlt)]; simp)
      have HTL := Lib.hid (show ((zs.take i).map f).length = i by have := HZ.out.1; simp; omega)
      clear hc1 lt1
      generalize zs.getD i 0 = x at *
      have HX := Lib.hid hx
      clear hx
      obtain ⟨a0, a1, f0, f1⟩ := R1.out.two
      obtain ⟨rs, hr1, hr2, hr3⟩ := HMa.out
      rw [HTL.out] at hr1 hr2 hr3
      have HOW := Lib.hid hr2
      have HRS := Lib.hid hr3
      clear hr2 hr3
      go_wp2_with fail
      go_region_law (first
        | (go_simp; go_at_call 46; refine (HS.out x HX.out _).mono ?_; rintro e1 x1 ⟨A1, l1, c1, rfl, hw, hb⟩; have S1 := Lib.hid (R1.out.drew.keep hb); have S0 := Lib.hid (R0.out.drew.keep hb); have SO := Lib.hid (own_keep (own_drew HOW.out) hb); have SR := Lib.hid (fun j hj => (HRS.out j hj).drew.below hb); have SB := Lib.hid (chain HB.out.drew hb); have SW := Lib.hid hw; clear hb hw; have T1 := Lib.hid (S1.out.alloc (.cells #[.int .i64 k, .slice A1 l1 c1] 69)); obtain ⟨s0, s1, sf0, sf1⟩ := S1.out.two; obtain ⟨t0, t1, tf0, tf1⟩ := T1.out.two; have hb0 := SB.out.size; have hn0 := SO.out.lt)
        | (refine step_append_lies _ rfl (.tmp 30) (.tmp 34) 51 rfl w.heap.size 69 i0 (.agg #[.int .i64 0, .slice none 0 0]) 2 32 Try.underlying51 HI.out HZ0.out HZ1.out HZ2.out rfl (by decide) v i (flatR k rs) (by simp [Act.eval, Act.put]) (World.ownsRow.alloc SO.out (.cells #[.int .i64 k, .slice A1 l1 c1] 69)) ⟨x1.heap.size, 0, none⟩ 1 1 [.int .i64 k, .slice A1 l1 c1] (by simp [Act.eval, Act.put]) rfl (World.news_of_block (Box.new x1 69 #[.int .i64 k, .slice A1 l1 c1])) (by simp [Value.oneCell']) (by omega) (by simp [maxLen]; omega) (by omega) (by simp; omega) _ rfl ?_; intro g cap w1 hown hgrow _ _; have V1 := Lib.hid (T1.out.grown hgrow (own_ne SO.out S1.out (by decide))); have HO2 := Lib.hid hown; have HG := Lib.hid hgrow; clear hown hgrow; obtain ⟨v0, v1, vf0, vf1⟩ := V1.out.two))
      all_goals
        have W0 := Lib.hid ((S0.out.alloc (.cells #[.int .i64 k, .slice A1 l1 c1] 69)).grown HG.out (own_ne SO.out S0.out (by decide)))
        have WB := Lib.hid ((SB.out.alloc SB.out.size (.cells #[.int .i64 k, .slice A1 l1 c1] 69)).grown HG.out (SB.out.alloc SB.out.size (.cells #[.int .i64 k, .slice A1 l1 c1] 69)).size (fun k hk => (SO.out.lt k hk).1))
        have WR := Lib.hid (fun j hj => OwnW.grown ((SR.out j hj).alloc (.cells #[.int .i64 k, .slice A1 l1 c1] 69)) (World.ownsRow.alloc SO.out (.cells #[.int .i64 k, .slice A1 l1 c1] 69)) (by decide) HG.out)
        have WW := Lib.hid (OwnW.grown (SW.out.alloc (.cells #[.int .i64 k, .slice A1 l1 c1] 69)) (World.ownsRow.alloc SO.out (.cells #[.int .i64 k, .slice A1 l1 c1] 69)) (by decide) HG.out)
        have WM := Lib.hid (MatW.snoc (ls := (zs.take i).map f) (by rw [HTL.out]; exact hr1) (by rw [HTL.out]; exact HO2.out) (by rw [HTL.out]; exact WR.out) WW.out)
        clear HG SO SR SB SW S0 S1 T1 HOW HRS HO2 WR WW HMa R1 R0 HB
        go_wp2_with fail
        go_roundw
        case rel => exact ⟨i + 1, _, by omega, by go_num, V1.out.put 1 _, by rw [HTK.out]; exact WM.out.far V1.out (by decide) (by decide) 1 _, W0.out.far (p := ⟨w.heap.size + 1, 1, none⟩) (by simp) _, WB.out.setCell (p := ⟨w.heap.size + 1, 1, none⟩) (by simp) _⟩
        case measure => simp [intOf] <;> omega
    · obtain rfl : i = l := by omega
      have hlt' : ¬ (i : Int) < (i : Int) := by omega
      have HTK := Lib.hid (show zs.take i = zs from List.take_of_length_le (by rw [HZ.out.1]; omega))
      rw [HTK.out] at HMa
      obtain ⟨A', c', hv⟩ : ∃ A' c', v = .slice A' zs.length c' := by
        obtain ⟨rs, -, h2, -⟩ := HMa.out
        obtain ⟨A', c', h, -⟩ := own_form h2
        rw [List.length_map] at h
        exact ⟨A', c', h⟩
      subst hv
      obtain ⟨a0, a1, -, -⟩ := R1.out.two
      obtain ⟨b0, b1, f0, f1⟩ := R0.out.two
      go_wp2
      refine close_cell Try.results42 rfl rfl rfl R0.out.put2 Try.underlying53 rfl (by kernel_rfl) ⟨_, rfl, ?_, ?_⟩
      · exact (HMa.out.far R0.out (by decide) (by decide) 0 _).far (R0.out.put 0 _) (by decide) (by decide) 1 _
      · exact (HB.out.setCell (p := ⟨w.heap.size, 0, none⟩) (Nat.le_refl _) _).setCell (p := ⟨w.heap.size, 1, none⟩) (Nat.le_refl _) _
end
section
/- Contracts of layer 7's reference: Root, digits, Same. -/
set_option linter.unusedVariables false
set_option linter.unusedSimpArgs false
open Go.RowKit
theorem bit_count : ∀ N : Fin 256, ∀ j : Fin 10, N.val / 2 ^ j.val = 0 → (j.val = 0 ∨ 0 < N.val / 2 ^ (j.val - 1)) → j.val = Lib.bitLen N.val := by decide +kernel
end
section
/- Contracts of layer 7's reference: Weight. -/
set_option linter.unusedVariables false
set_option linter.unusedSimpArgs false
open Go.RowKit
theorem dd_cast (d : Nat) (h : 1 ≤ d) : (d : Int) * ((d : Int) - 1) = ((d * (d - 1) : Nat) : Int) := by
  obtain ⟨c, rfl⟩ : ∃ c, d = c + 1 := ⟨d - 1, by omega⟩
  simp
end
section
/- Contracts of layer 7's reference: Weights, Table. -/
set_option linter.unusedVariables false
set_option linter.unusedSimpArgs false
open Go.RowKit
/-- A slice of words is returned. -/
def WordsRet (zs : List Nat) (w : World) (e : Ending) (w' : World) : Prop := ∃ v, e = .returned v ∧ w'.ownsRow w.heap.size 25 1 v zs.length (zs.map u64V) ∧ Below w.heap.size w w'
end
section
/- Contract of layer 7's reference: Same. -/
set_option linter.unusedVariables false
set_option linter.unusedSimpArgs false
open Go.RowKit
end
section
/- Contract of layer 7's reference: Table. -/
set_option linter.unusedVariables false
set_option linter.unusedSimpArgs false
open Go.RowKit
end
section
/- Contracts of layer 7's reference: Right, Pick. -/
set_option linter.unusedVariables false
set_option linter.unusedSimpArgs false
open Go.RowKit
theorem tab_rises (ws : List Nat) : tabB ws = (risesFrom 0 ws && (decide (1 ≤ ws.length) && decide (ws.length ≤ 64))) := by
  unfold tabB; rw [Bool.and_comm]
end
section
/- Contracts of the reference's words, Bit and Right. -/
set_option linter.unusedVariables false
set_option linter.unusedSimpArgs false
open Go.RowKit
def bitAt (us : List Nat) (i : Nat) : Nat := us.getD (i / 64) 0 / 2 ^ (i % 64) % 2
theorem rightB_core (n l : Nat) (us : List Nat) (h : lmb n = true) (hl : us.length = l) (hn : l = nw n) : rightB n us = (n % 64 == 0 || us.getD (l - 1) 0 / 2 ^ (n % 64) == 0) := by
  unfold rightB
  rw [h, Int.toNat_natCast, hl, hn]
  simp
theorem right_of_bits (n l : Nat) (us : List Nat) (h : lmb n = true) (hl : us.length = l) (hn : l = nw n) (hlt : ∀ j, us.getD j 0 < 18446744073709551616) (hb : ∀ i, n ≤ i → i < 64 * l → bitAt us i = 0) : rightB n us = true := by
  rw [rightB_core n l us h hl hn]
  by_cases h0 : n % 64 = 0
  · simp [h0]
  · have hp : 1 ≤ l := by rw [hn]; unfold nw; omega
    have hd : n / 64 = l - 1 := by rw [hn]; unfold nw; omega
    have : us.getD (l - 1) 0 < 2 ^ (n % 64) := by
      apply Nat.lt_pow_two_of_testBit
      intro i hi
      by_cases hi64 : i < 64
      · have := hb (64 * (l - 1) + i) (by omega) (by omega)
        unfold bitAt at this
        rw [show (64 * (l - 1) + i) / 64 = l - 1 by omega, show (64 * (l - 1) + i) % 64 = i by omega] at this
        rw [Nat.testBit_eq_decide_div_mod_eq, this]
        rfl
      · exact Nat.testBit_lt_two_pow (Nat.lt_of_lt_of_le (hlt (l - 1)) (show 2 ^ 64 ≤ 2 ^ i from Nat.pow_le_pow_right (by omega) (by omega)))
    have e : us.getD (l - 1) 0 / 2 ^ (n % 64) = 0 := Nat.div_eq_of_lt this
    rw [e]; simp
theorem not_right_of_bit (n l i : Nat) (us : List Nat) (h : lmb n = true) (hl : us.length = l) (hn : l = nw n) (h1 : n ≤ i) (h2 : i < 64 * l) (hb : bitAt us i = 1) : rightB n us = false := by
  rw [rightB_core n l us h hl hn]
  have hnw : nw n = (n + 63) / 64 := rfl
  have h0 : ¬ n % 64 = 0 := by omega
  have hd : i / 64 = l - 1 := by omega
  have hr : n % 64 ≤ i % 64 := by omega
  unfold bitAt at hb
  rw [hd] at hb
  have hne : us.getD (l - 1) 0 / 2 ^ (n % 64) ≠ 0 := by
    intro e
    have hp : 0 < 2 ^ (n % 64) := Nat.two_pow_pos _
    have hlt : us.getD (l - 1) 0 < 2 ^ (n % 64) := by
      rcases Nat.div_eq_zero_iff.1 e with h | h
      · omega
      · exact h
    have : us.getD (l - 1) 0 / 2 ^ (i % 64) = 0 := Nat.div_eq_of_lt (Nat.lt_of_lt_of_le hlt (Nat.pow_le_pow_right (by omega) hr))
    rw [this] at hb
    simp at hb
  have e1 : (n % 64 == 0) = false := by simpa using h0
  have e2 : (us.getD (l - 1) 0 / 2 ^ (n % 64) == 0) = false := by rw [beq_eq_false_iff_ne]; exact hne
  rw [e1, e2]; rfl
theorem bitAt_le (us : List Nat) (i : Nat) : bitAt us i = 0 ∨ bitAt us i = 1 := by unfold bitAt; omega
end
section
/- Contract of the reference's From: a row of bits. -/
set_option linter.unusedVariables false
set_option linter.unusedSimpArgs false
open Go.RowKit
def accM (b : Nat → Bool) (i : Nat) : Nat → Nat
  | 0 => 0
  | m + 1 => 2 * accM b i m + if b (64 * i + (63 - m)) then 1 else 0
theorem accM_lt (b : Nat → Bool) (i m : Nat) : accM b i m < 2 ^ m := by
  induction m with
  | zero => simp [accM]
  | succ m ih =>
    simp only [accM, Nat.pow_succ]
    split <;> omega
def bitsOf (zs : List Int) (j : Nat) : Bool := decide (j < zs.length) && zs.getD j 0 == 1
def fromL (b : Nat → Bool) (k : Nat) : List Nat := (List.range k).map fun i => accM b i 64
theorem fromL_lt (b : Nat → Bool) (k j : Nat) : (fromL b k).getD j 0 < 18446744073709551616 := by
  unfold fromL
  simp only [List.getD, List.getElem?_map, List.getElem?_range]
  by_cases h : j < k
  · simp [h]
    exact accM_lt b j 64
  · simp [h]
theorem fromL_succ (b : Nat → Bool) (k : Nat) : fromL b (k + 1) = fromL b k ++ [accM b k 64] := by simp [fromL, List.range_succ]
theorem fromL_len (b : Nat → Bool) (k : Nat) : (fromL b k).length = k := by simp [fromL]
theorem u64_info : (Try.prog.info? 25).map (fun i => (i.zero, i.size, i.bytes)) = some (some (.int .u64 0), 1, 8) := by kernel_rfl
end
section
/- Contracts of bitrow.And's join, and of bitrow.Xor and And. -/
set_option linter.unusedVariables false
set_option linter.unusedSimpArgs false
open Go.RowKit
theorem part_lt_and (us vs : List Nat) (j i : Nat) (hu : ∀ j, us.getD j 0 < 18446744073709551616) (hv : ∀ j, vs.getD j 0 < 18446744073709551616) : (part (· &&& ·) us vs j).getD i 0 < 18446744073709551616 := by
  unfold part
  simp only [List.getD, List.getElem?_append]
  split
  · rw [List.getElem?_take]
    split
    · rw [List.getElem?_zipWith]
      have h1 := hu i
      have h2 := hv i
      simp only [List.getD] at h1 h2
      cases e1 : us[i]? <;> cases e2 : vs[i]? <;> simp [e1, e2] at h1 h2 ⊢
      exact Nat.and_lt_two_pow (n := 64) _ h2
    · simp
  · rw [List.getElem?_replicate]
    split <;> simp
def joinN (n : Int) (us : List Nat) (m : Int) (vs : List Nat) : Int := if rightB n us && rightB m vs && n == m then n else 0
def joinW (g : Nat → Nat → Nat) (n : Int) (us : List Nat) (m : Int) (vs : List Nat) : List Nat := if rightB n us && rightB m vs && n == m then List.zipWith g us vs else []
def joinE (n : Int) (us : List Nat) (m : Int) (vs : List Nat) : Int := if rightB n us && rightB m vs then if n == m then 0 else 2 else 1
theorem joined_x (n m : Int) (A B : Option Addr) (l c k d : Nat) (us vs : List Nat) (w : World) (hu : Words w A l us) (hv : Words w B k vs) :
    Calls Try.prog 67 #[.agg #[.int .i64 n, .slice A l c], .agg #[.int .i64 m, .slice B k d], .func (.func 68) #[] #[]] w (RowOut (joinN n us m vs) (joinW (· ^^^ ·) n us m vs) (joinE n us m vs) w) := by
  unfold joinN joinW joinE
  cases h1 : rightB n us with
  | false => exact joined_arg _ n m A B l c k d us vs w hu hv (.inl h1)
  | true =>
    cases h2 : rightB m vs with
    | false => exact joined_arg _ n m A B l c k d us vs w hu hv (.inr h2)
    | true =>
      by_cases h : n = m
      · subst h
        have : (n == n) = true := by simp
        rw [this]
        exact joined_xor n A B l c k d us vs w hu hv h1 h2
      · have : (n == m) = false := by simpa using h
        rw [this]
        exact joined_size _ n m A B l c k d us vs w hu hv h1 h2 h
set_option maxHeartbeats 400000 in
theorem xor_any (n m : Int) (A B : Option Addr) (l c k d : Nat) (us vs : List Nat) (w : World) (hu : Words w A l us) (hv : Words w B k vs) :
    Calls Try.prog 56 #[.agg #[.int .i64 n, .slice A l c], .agg #[.int .i64 m, .slice B k d]] w (RowOut (joinN n us m vs) (joinW (· ^^^ ·) n us m vs) (joinE n us m vs) w) := by
  have q2 := Box.new ((w.alloc (.cells #[.int .i64 n, .slice A l c] 69)).alloc (.cells #[.int .i64 m, .slice B k d] 69)) 69 #[.int .i64 0, .slice none 0 0]
  have hW : Below w.heap.size w (((w.alloc (.cells #[.int .i64 n, .slice A l c] 69)).alloc (.cells #[.int .i64 m, .slice B k d] 69)).alloc (.cells #[.int .i64 0, .slice none 0 0] 69)) := (((Below.refl _ _).alloc (Nat.le_refl _) _).alloc (by simp) _).alloc (by simp; omega) _
  simp only [World.size_alloc] at q2
  have Q2 := Lib.hid q2
  have HW := Lib.hid hW
  have HU := Lib.hid (hu.below hW)
  have HV := Lib.hid (hv.below hW)
  clear q2 hW hu hv
  go_enter Try.func56, Try.ntmps56
  go_wp2_with fail
  refine (joined_x n m A B l c k d us vs _ HU.out HV.out).mono ?_
  rintro e x1 ⟨A1, l1, c1, rfl, hw, hb⟩
  have P2 := Lib.hid (Q2.out.keep hb)
  have HB := Lib.hid (chain HW.out hb)
  have HWo := Lib.hid hw
  clear hb hw
  obtain ⟨r0, r1, r2, r3⟩ := P2.out.two
  go_wp2
  refine close_cell Try.results56 rfl rfl rfl P2.out.put2 Try.underlying69 rfl (by kernel_rfl) ⟨_, _, _, rfl, ?_, ?_⟩
  · exact HWo.out.put2 P2.out _ _
  · exact (HB.out.setCell (p := ⟨w.heap.size + 1 + 1, 0, none⟩) (by simp; omega) _).setCell (p := ⟨w.heap.size + 1 + 1, 1, none⟩) (by simp; omega) _
end
section
/- Rows of one size that may be: what Xor and And of them are; the plain laws of both. -/
set_option linter.unusedVariables false
set_option linter.unusedSimpArgs false
open Go.RowKit
theorem right_len_eq {n : Int} {us : List Nat} (h : rightB n us = true) : us.length = nw n.toNat := by
  simp only [rightB, Bool.and_eq_true, beq_iff_eq] at h
  exact h.1.2
theorem right_lmb {n : Int} {us : List Nat} (h : rightB n us = true) : lmb n = true := by
  simp only [rightB, Bool.and_eq_true] at h
  exact h.1.1
theorem zip_last (g : Nat → Nat → Nat) (us vs : List Nat) (i : Nat) (hu : i < us.length) (hv : i < vs.length) : (List.zipWith g us vs).getD i 0 = g (us.getD i 0) (vs.getD i 0) := by
  simp [List.getD, List.getElem?_zipWith, hu, hv]
theorem right_zip (g : Nat → Nat → Nat) (hg : ∀ x y k, x / 2 ^ k = 0 → y / 2 ^ k = 0 → g x y / 2 ^ k = 0) {n : Int} {us vs : List Nat} (h1 : rightB n us = true) (h2 : rightB n vs = true) : rightB n (List.zipWith g us vs) = true := by
  have l1 := right_len_eq h1
  have l2 := right_len_eq h2
  have hl : (List.zipWith g us vs).length = us.length := by simp; omega
  simp only [rightB, Bool.and_eq_true, Bool.or_eq_true, beq_iff_eq] at h1 h2 ⊢
  refine ⟨⟨h1.1.1, by rw [hl]; exact h1.1.2⟩, ?_⟩
  rcases h1.2 with h | h
  · exact .inl h
  · rcases h2.2 with h' | h'
    · exact .inl h'
    · by_cases h0 : us.length = 0
      · left
        rw [l1] at h0
        unfold nw at h0
        omega
      · right
        rw [hl, zip_last g us vs _ (by omega) (by omega)]
        exact hg _ _ _ h (by rw [l2, ← l1] at h'; exact h')
theorem xor_div (x y k : Nat) (h : x / 2 ^ k = 0) (h' : y / 2 ^ k = 0) : (x ^^^ y) / 2 ^ k = 0 := by
  have p : 0 < 2 ^ k := Nat.two_pow_pos k
  rw [Nat.div_eq_zero_iff] at h h' ⊢
  right
  exact Nat.xor_lt_two_pow (by omega) (by omega)
theorem and_div (x y k : Nat) (h : x / 2 ^ k = 0) (_ : y / 2 ^ k = 0) : (x &&& y) / 2 ^ k = 0 := by
  have p : 0 < 2 ^ k := Nat.two_pow_pos k
  rw [Nat.div_eq_zero_iff] at h ⊢
  right
  have := Nat.and_le_left (n := x) (m := y)
  omega
def xorL (us vs : List Nat) : List Nat := List.zipWith (· ^^^ ·) us vs
def andL (us vs : List Nat) : List Nat := List.zipWith (· &&& ·) us vs
theorem right_xor {n : Int} {us vs : List Nat} (h1 : rightB n us = true) (h2 : rightB n vs = true) : rightB n (xorL us vs) = true := right_zip _ xor_div h1 h2
theorem right_and {n : Int} {us vs : List Nat} (h1 : rightB n us = true) (h2 : rightB n vs = true) : rightB n (andL us vs) = true := right_zip _ and_div h1 h2
theorem xor_ok (n : Int) (A B : Option Addr) (l c k d : Nat) (us vs : List Nat) (w : World) (hu : Words w A l us) (hv : Words w B k vs) (h1 : rightB n us = true) (h2 : rightB n vs = true) :
    Calls Try.prog 56 #[.agg #[.int .i64 n, .slice A l c], .agg #[.int .i64 n, .slice B k d]] w (RowOut n (xorL us vs) 0 w) := by
  have h := xor_any n n A B l c k d us vs w hu hv
  unfold joinN joinW joinE at h
  rw [h1, h2] at h
  simpa [xorL] using h
theorem joinE_ok {n m : Int} {us vs : List Nat} (h : joinE n us m vs = 0) : rightB n us = true ∧ rightB m vs = true ∧ n = m := by
  unfold joinE at h
  split at h
  · rename_i h1
    rw [Bool.and_eq_true] at h1
    split at h
    · rename_i h2
      exact ⟨h1.1, h1.2, by simpa using h2⟩
    · omega
  · omega
theorem joinE_no {n m : Int} {us vs : List Nat} (g : Nat → Nat → Nat) (h : joinE n us m vs ≠ 0) : joinN n us m vs = 0 ∧ joinW g n us m vs = [] := by
  unfold joinE at h
  unfold joinN joinW
  by_cases h1 : (rightB n us && rightB m vs) = true
  · rw [if_pos h1] at h
    by_cases h2 : (n == m) = true
    · rw [if_pos h2] at h; omega
    · rw [if_neg (by simp [h2]), if_neg (by simp [h2])]; exact ⟨rfl, rfl⟩
  · rw [if_neg (by simp [h1]), if_neg (by simp [h1])]; exact ⟨rfl, rfl⟩
theorem xorL_comm (us vs : List Nat) : xorL us vs = xorL vs us := by
  unfold xorL
  rw [List.zipWith_comm]
  congr 1
  funext x y
  exact Nat.xor_comm _ _
theorem andL_comm (us vs : List Nat) : andL us vs = andL vs us := by
  unfold andL
  rw [List.zipWith_comm]
  congr 1
  funext x y
  exact Nat.and_comm _ _
theorem xorL_assoc (us vs zs : List Nat) : xorL (xorL us vs) zs = xorL us (xorL vs zs) := by
  induction us generalizing vs zs with
  | nil => simp [xorL]
  | cons x us ih =>
    cases vs with
    | nil => simp [xorL]
    | cons y vs =>
      cases zs with
      | nil => simp [xorL]
      | cons z zs =>
        have := ih vs zs
        simp only [xorL, List.zipWith_cons_cons] at this ⊢
        rw [this, Nat.xor_assoc]
theorem andL_xor (us vs zs : List Nat) : andL us (xorL vs zs) = xorL (andL us vs) (andL us zs) := by
  induction us generalizing vs zs with
  | nil => simp [xorL, andL]
  | cons x us ih =>
    cases vs with
    | nil => simp [xorL, andL]
    | cons y vs =>
      cases zs with
      | nil => simp [xorL, andL]
      | cons z zs =>
        have := ih vs zs
        simp only [xorL, andL, List.zipWith_cons_cons] at this ⊢
        rw [this, Nat.and_xor_distrib_left]
end
section
/- Contracts of the reference's Xor and And. -/
set_option linter.unusedVariables false
set_option linter.unusedSimpArgs false
open Go.RowKit
theorem int_info : (Try.prog.info? 3).map (fun i => (i.zero, i.size, i.bytes)) = some (some (.int .i64 0), 1, 8) := by kernel_rfl
def bitSums (g : Nat → Nat → Nat) (us vs : List Nat) (i : Nat) : List Int := (List.range i).map fun j => ((g (bitAt us j) (bitAt vs j) : Nat) : Int)
theorem bitSums_succ (g : Nat → Nat → Nat) (us vs : List Nat) (i : Nat) : bitSums g us vs (i + 1) = bitSums g us vs i ++ [((g (bitAt us i) (bitAt vs i) : Nat) : Int)] := by simp [bitSums, List.range_succ]
theorem bitSums_len (g : Nat → Nat → Nat) (us vs : List Nat) (i : Nat) : (bitSums g us vs i).length = i := by simp [bitSums]
theorem bitSums_get (g : Nat → Nat → Nat) (us vs : List Nat) (i j : Nat) (h : j < i) : (bitSums g us vs i).getD j 0 = ((g (bitAt us j) (bitAt vs j) : Nat) : Int) := by simp [bitSums, List.getD, h]
theorem bitSums_lt (us vs : List Nat) (i j : Nat) : -9223372036854775808 ≤ (bitSums (fun x y => (x + y) % 2) us vs i).getD j 0 ∧ (bitSums (fun x y => (x + y) % 2) us vs i).getD j 0 ≤ 9223372036854775807 := by
  by_cases h : j < i
  · rw [bitSums_get _ us vs i j h]; omega
  · have hn : (bitSums (fun x y => (x + y) % 2) us vs i)[j]? = none := List.getElem?_eq_none (by rw [bitSums_len]; omega)
    simp only [List.getD, hn, Option.getD_none]
    omega
theorem accM_bit (b : Nat → Bool) (i m j : Nat) (hm : m ≤ 64) : (accM b i m).testBit j = (decide (j < m) && b (64 * i + (64 - m + j))) := by
  induction m generalizing j with
  | zero => simp [accM]
  | succ m ih =>
    simp only [accM]
    cases j with
    | zero =>
      rw [Nat.testBit_zero]
      have e : 64 - (m + 1) + 0 = 63 - m := by omega
      rw [e]
      cases b (64 * i + (63 - m)) <;> simp <;> omega
    | succ j =>
      rw [Nat.testBit_succ]
      have e : (2 * accM b i m + if b (64 * i + (63 - m)) = true then 1 else 0) / 2 = accM b i m := by split <;> omega
      rw [e, ih j (by omega)]
      have e2 : 64 - m + j = 64 - (m + 1) + (j + 1) := by omega
      rw [e2]
      have e3 : decide (j < m) = decide (j + 1 < m + 1) := by simp
      rw [e3]
theorem bitAt_test (us : List Nat) (i : Nat) : (bitAt us i == 1) = (us.getD (i / 64) 0).testBit (i % 64) := by
  rw [Nat.testBit_eq_decide_div_mod_eq]; rfl
/-- A row that may be has no bits behind its last. -/
theorem right_bits {n : Nat} {us : List Nat} (h : rightB n us = true) (i : Nat) (hi : n ≤ i) (hl : i < 64 * us.length) : bitAt us i = 0 := by
  have hlm := right_lmb h
  have hle := right_len_eq h
  rw [Int.toNat_natCast] at hle
  rcases bitAt_le us i with h0 | h1
  · exact h0
  · have := not_right_of_bit n us.length i us hlm rfl hle hi hl h1
    rw [h] at this
    cases this
theorem from_zip (g : Nat → Nat → Nat) (f : Nat → Nat → Nat) (hgf : ∀ x y k, (f x y).testBit k = (g (if x.testBit k then 1 else 0) (if y.testBit k then 1 else 0) == 1)) (h00 : g 0 0 = 0) (hf : ∀ x y, x < 18446744073709551616 → y < 18446744073709551616 → f x y < 18446744073709551616) (n : Nat) (us vs : List Nat) (h1 : rightB n us = true) (h2 : rightB n vs = true)
    (hu : ∀ j, us.getD j 0 < 18446744073709551616) (hv : ∀ j, vs.getD j 0 < 18446744073709551616) :
    fromL (bitsOf (bitSums g us vs n)) (nw n) = List.zipWith f us vs := by
  have l1 := right_len_eq h1
  have l2 := right_len_eq h2
  rw [Int.toNat_natCast] at l1 l2
  apply List.ext_getElem
  · rw [fromL_len]; simp; omega
  · intro i hi1 hi2
    have hi : i < nw n := by rw [fromL_len] at hi1; exact hi1
    have iu : i < us.length := by omega
    have iv : i < vs.length := by omega
    simp only [fromL, List.getElem_map, List.getElem_range, List.getElem_zipWith]
    have eu : us[i] = us.getD i 0 := by simp [List.getD, iu]
    have ev : vs[i] = vs.getD i 0 := by simp [List.getD, iv]
    rw [eu, ev]
    apply Nat.eq_of_testBit_eq
    intro j
    rw [accM_bit _ _ _ _ (Nat.le_refl _)]
    by_cases hj : j < 64
    · have e0 : 64 * i + (64 - 64 + j) = 64 * i + j := by omega
      have ed : (64 * i + j) / 64 = i := by omega
      have em : (64 * i + j) % 64 = j := by omega
      have bu : (if (us.getD i 0).testBit j then 1 else 0) = bitAt us (64 * i + j) := by
        have := bitAt_test us (64 * i + j)
        rw [ed, em] at this
        rw [← this]
        rcases bitAt_le us (64 * i + j) with h | h <;> rw [h] <;> rfl
      have bv : (if (vs.getD i 0).testBit j then 1 else 0) = bitAt vs (64 * i + j) := by
        have := bitAt_test vs (64 * i + j)
        rw [ed, em] at this
        rw [← this]
        rcases bitAt_le vs (64 * i + j) with h | h <;> rw [h] <;> rfl
      rw [e0, hgf, bu, bv]
      have hd : decide (j < 64) = true := by simpa using hj
      rw [hd, Bool.true_and]
      unfold bitsOf
      rw [bitSums_len]
      by_cases hn : 64 * i + j < n
      · rw [bitSums_get g us vs n _ hn]
        have : decide (64 * i + j < n) = true := by simpa using hn
        rw [this, Bool.true_and]
        rw [Bool.eq_iff_iff]
        simp only [beq_iff_eq]
        omega
      · have z1 := right_bits h1 (64 * i + j) (by omega) (by omega)
        have z2 := right_bits h2 (64 * i + j) (by omega) (by omega)
        have : decide (64 * i + j < n) = false := by simpa using hn
        rw [this, Bool.false_and, z1, z2, h00]; rfl
    · have hd : decide (j < 64) = false := by simpa using hj
      rw [hd, Bool.false_and]
      symm
      exact Nat.testBit_lt_two_pow (Nat.lt_of_lt_of_le (hf _ _ (hu i) (hv i)) (show 2 ^ 64 ≤ 2 ^ j from Nat.pow_le_pow_right (by omega) (by omega)))
theorem from_xor (n : Nat) (us vs : List Nat) (h1 : rightB n us = true) (h2 : rightB n vs = true) (hu : ∀ j, us.getD j 0 < 18446744073709551616) (hv : ∀ j, vs.getD j 0 < 18446744073709551616) :
    fromL (bitsOf (bitSums (fun x y => (x + y) % 2) us vs n)) (nw n) = xorL us vs := by
  refine from_zip _ _ ?_ rfl (fun x y hx hy => Nat.xor_lt_two_pow (n := 64) hx hy) n us vs h1 h2 hu hv
  intro x y k
  rw [Nat.testBit_xor]
  cases x.testBit k <;> cases y.testBit k <;> rfl
theorem bitSums_lt_and (us vs : List Nat) (i j : Nat) : -9223372036854775808 ≤ (bitSums (fun x y => x * y) us vs i).getD j 0 ∧ (bitSums (fun x y => x * y) us vs i).getD j 0 ≤ 9223372036854775807 := by
  by_cases h : j < i
  · rw [bitSums_get _ us vs i j h]
    rcases bitAt_le us j with h1 | h1 <;> rcases bitAt_le vs j with h2 | h2 <;> rw [h1, h2] <;> decide
  · have hn : (bitSums (fun x y => x * y) us vs i)[j]? = none := List.getElem?_eq_none (by rw [bitSums_len]; omega)
    simp only [List.getD, hn, Option.getD_none]
    omega
theorem from_and (n : Nat) (us vs : List Nat) (h1 : rightB n us = true) (h2 : rightB n vs = true) (hu : ∀ j, us.getD j 0 < 18446744073709551616) (hv : ∀ j, vs.getD j 0 < 18446744073709551616) :
    fromL (bitsOf (bitSums (fun x y => x * y) us vs n)) (nw n) = andL us vs := by
  refine from_zip _ _ ?_ rfl (fun x y hx hy => Nat.and_lt_two_pow (n := 64) _ hy) n us vs h1 h2 hu hv
  intro x y k
  rw [Nat.testBit_and]
  cases x.testBit k <;> cases y.testBit k <;> rfl
end
section
/- Contracts of the reference's In, There and Of. -/
set_option linter.unusedVariables false
set_option linter.unusedSimpArgs false
open Go.RowKit
def hasB (zs : List Int) (x : Int) : Bool := zs.contains x
def ofInts (zs : List Int) (n : Nat) : List Int := (List.range n).map fun (j : Nat) => if hasB zs (j : Int) then 1 else 0
theorem ofInts_succ (zs : List Int) (n : Nat) : ofInts zs (n + 1) = ofInts zs n ++ [if hasB zs (n : Int) then 1 else 0] := by simp [ofInts, List.range_succ]
theorem ofInts_len (zs : List Int) (n : Nat) : (ofInts zs n).length = n := by simp [ofInts]
theorem ofInts_get (zs : List Int) (n j : Nat) (h : j < n) : (ofInts zs n).getD j 0 = if hasB zs (j : Int) then 1 else 0 := by simp [ofInts, List.getD, h]
theorem ofInts_lt (zs : List Int) (n j : Nat) : -9223372036854775808 ≤ (ofInts zs n).getD j 0 ∧ (ofInts zs n).getD j 0 ≤ 9223372036854775807 := by
  by_cases h : j < n
  · rw [ofInts_get zs n j h]
    split <;> omega
  · have hn : (ofInts zs n)[j]? = none := List.getElem?_eq_none (by rw [ofInts_len]; omega)
    simp only [List.getD, hn, Option.getD_none]
    omega
theorem orBit_test (ws : List Nat) (p i j : Nat) (hi : i < ws.length) : ((orBit ws p).getD i 0).testBit j = ((ws.getD i 0).testBit j || (p / 64 == i && p % 64 == j)) := by
  unfold orBit
  by_cases h : p / 64 = i
  · subst h
    have e : (ws.set (p / 64) (ws.getD (p / 64) 0 ||| 2 ^ (p % 64))).getD (p / 64) 0 = ws.getD (p / 64) 0 ||| 2 ^ (p % 64) := by
      simp [List.getD, hi]
    rw [e, Nat.testBit_or, Nat.testBit_two_pow]
    simp
    rfl
  · have e : (ws.set (p / 64) (ws.getD (p / 64) 0 ||| 2 ^ (p % 64))).getD i 0 = ws.getD i 0 := by
      simp [List.getD, List.getElem?_set, h]
    have h' : (p / 64 == i) = false := by simpa using h
    rw [e, h']; simp
theorem foldl_test (ps : List Int) (ws : List Nat) (i j : Nat) (hi : i < ws.length) : ((ps.foldl (fun ws p => orBit ws p.toNat) ws).getD i 0).testBit j = ((ws.getD i 0).testBit j || ps.any fun p => p.toNat / 64 == i && p.toNat % 64 == j) := by
  induction ps generalizing ws with
  | nil => simp
  | cons p ps ih =>
    rw [List.foldl_cons, ih (orBit ws p.toNat) (by rw [orBit_length]; exact hi), orBit_test ws p.toNat i j hi, List.any_cons, Bool.or_assoc]
theorem ofBits_test (n : Nat) (ps : List Int) (i j : Nat) (hi : i < nw n) : ((ofBits n ps).getD i 0).testBit j = ps.any fun p => p.toNat / 64 == i && p.toNat % 64 == j := by
  unfold ofBits
  rw [foldl_test ps _ i j (by simpa using hi)]
  have e : (List.replicate (nw n) 0).getD i 0 = 0 := by simp [List.getD, hi]
  rw [e]; simp
theorem from_of (n : Nat) (zs : List Int) (ht : there n zs = true) : fromL (bitsOf (ofInts zs n)) (nw n) = ofBits n zs := by
  apply List.ext_getElem
  · rw [fromL_len, ofBits_len]
  · intro i hi1 hi2
    have hi : i < nw n := by rw [fromL_len] at hi1; exact hi1
    have eo : (ofBits n zs)[i] = (ofBits n zs).getD i 0 := by simp [List.getD, hi2]
    simp only [fromL, List.getElem_map, List.getElem_range]
    rw [eo]
    apply Nat.eq_of_testBit_eq
    intro j
    rw [accM_bit _ _ _ _ (Nat.le_refl _), ofBits_test n zs i j hi]
    have hall : ∀ p ∈ zs, 0 ≤ p ∧ p < n := by
      intro p hp
      have := (List.all_eq_true.1 ht) p hp
      simpa using this
    by_cases hj : j < 64
    · have hd : decide (j < 64) = true := by simpa using hj
      rw [hd, Bool.true_and, show 64 * i + (64 - 64 + j) = 64 * i + j by omega]
      rw [Bool.eq_iff_iff, List.any_eq_true]
      unfold bitsOf
      rw [ofInts_len, Bool.and_eq_true]
      constructor
      · rintro ⟨h1, h2⟩
        have h1' : 64 * i + j < n := by simpa using h1
        rw [ofInts_get zs n _ h1'] at h2
        by_cases hc : hasB zs ((64 * i + j : Nat) : Int) = true
        · refine ⟨((64 * i + j : Nat) : Int), by simpa [hasB] using hc, ?_⟩
          rw [Int.toNat_natCast]
          simp
          omega
        · rw [if_neg hc] at h2
          simp at h2
      · rintro ⟨p, hp, hb⟩
        have hr := hall p hp
        obtain ⟨q, rfl⟩ := Int.eq_ofNat_of_zero_le hr.1
        rw [Int.toNat_natCast] at hb
        simp at hb
        have e : 64 * i + j = q := by omega
        have hq : q < n := by omega
        rw [e]
        refine ⟨by simpa using hq, ?_⟩
        rw [ofInts_get zs n q hq]
        have hc : hasB zs (q : Int) = true := by simpa [hasB] using hp
        rw [if_pos hc]; rfl
    · have hd : decide (j < 64) = false := by simpa using hj
      rw [hd, Bool.false_and]
      symm
      rw [List.any_eq_false]
      intro p _
      simp
      intro _
      omega
end
section
/- Contracts of the reference's layer 8: Places, Row. -/
set_option linter.unusedVariables false
set_option linter.unusedSimpArgs false
open Go.RowKit
def RPlOut (k id : Nat) (w : World) (e : Ending) (w' : World) : Prop :=
  ∃ v, e = .returned v ∧ w'.ownsRow w.heap.size 3 1 v (nbMany k id) ((nbL k id).map natV) ∧ Below w.heap.size w w'
end
section
/- The reference's From and Of: rows of words of the call's own. -/
set_option linter.unusedVariables false
set_option linter.unusedSimpArgs false
open Go.RowKit
end
section
/- The reference's From, Of, Row: rows of words of the call's own. -/
set_option linter.unusedVariables false
set_option linter.unusedSimpArgs false
open Go.RowKit
end
section
/- The reference's Rows. -/
set_option linter.unusedVariables false
set_option linter.unusedSimpArgs false
open Go.RowKit
/-- What the reference's Rows hands back. -/
def MatRet (k : Nat) (f : Nat → List Nat) (zs : List Nat) (w : World) (e : Ending) (w' : World) : Prop :=
  ∃ v, e = .returned (.agg #[.int .i64 k, v]) ∧ MatW w' w.heap.size k v (zs.map f) ∧ Below w.heap.size w w'
end
section
/- The reference's Same of two matrices. -/
set_option linter.unusedVariables false
set_option linter.unusedSimpArgs false
open Go.RowKit
theorem flatR_at (k : Int) (rs : List (Option Addr × Nat × Nat)) (j : Nat) (hj : j < rs.length) : (flatR k rs)[j * 2]? = some (.int .i64 k) ∧ (flatR k rs)[j * 2 + 1]? = some (.slice (rs.getD j (none, 0, 0)).1 (rs.getD j (none, 0, 0)).2.1 (rs.getD j (none, 0, 0)).2.2) := by
  induction rs generalizing j with
  | nil => cases hj
  | cons r rs ih =>
    have e : flatR k (r :: rs) = .int .i64 k :: .slice r.1 r.2.1 r.2.2 :: flatR k rs := rfl
    cases j with
    | zero => rw [e]; exact ⟨rfl, rfl⟩
    | succ j =>
      have h := ih j (by simpa using hj)
      rw [e, show (j + 1) * 2 = j * 2 + 1 + 1 by omega]
      exact h
theorem add_zero_off (g j : Nat) : (⟨g, 0, none⟩ : Addr).add j = ⟨g, j, none⟩ := by unfold Addr.add; split <;> simp_all
theorem MatW.at {w : World} {base : Nat} {k : Int} {A : Option Addr} {n c : Nat} {ls : List (List Nat)} (h : MatW w base k (.slice A n c) ls) (j : Nat) (hj : j < ls.length) :
    ∃ g B l d, A = some ⟨g, 0, none⟩ ∧ g < w.heap.size ∧ w.cell? ⟨g, j * 2, none⟩ = some (.int .i64 k) ∧ w.cell? ⟨g, j * 2 + 1, none⟩ = some (.slice B l d) ∧ OwnW w B l d (ls.getD j []) := by
  obtain ⟨rs, h1, h2, h3⟩ := h
  obtain ⟨f1, f2⟩ := flatR_at k rs j (by omega)
  have h3 := h3 j hj
  have hA := h2.2
  rcases hA with ⟨-, h0⟩ | ⟨g, cap, cur, hv, -⟩
  · omega
  · injection hv with hA _ _
    subst hA
    have hc := World.ownsRow.cells h2 (g := g) rfl
    have c1 := hc _ _ f1
    have c2 := hc _ _ f2
    rw [add_zero_off] at c1 c2
    exact ⟨g, _, _, _, rfl, (h2.lt g rfl).2, c1, c2, h3⟩
end
section
/- NeighboursTell: the walk. -/
set_option linter.unusedVariables false
set_option linter.unusedSimpArgs false
open Go.RowKit
theorem Ints.drewI {w : World} {A : Option Addr} {len : Nat} {zs : List Int} (h : Ints w A len zs) : Ints w.drew A len zs := h
end
section
/- NeighboursRows: the walk. -/
set_option linter.unusedVariables false
set_option linter.unusedSimpArgs false
open Go.RowKit
theorem nbRow_lt (k id j : Nat) : (nbRow k id).getD j 0 < 18446744073709551616 := ofBits_lt k _ j
theorem rowsRows_lt (k : Nat) (zs : List Nat) (j i : Nat) : ((zs.map (nbRow k)).getD j []).getD i 0 < 18446744073709551616 := by
  by_cases h : j < zs.length
  · have e : (zs.map (nbRow k)).getD j [] = nbRow k (zs.getD j 0) := by simp [List.getD, h]
    rw [e]; exact nbRow_lt _ _ _
  · have e : (zs.map (nbRow k)).getD j [] = [] := by simp [List.getD, List.getElem?_eq_none (Nat.le_of_not_lt h)]
    rw [e]; simp
theorem rowsRows_len (k : Nat) (h2 : k ≤ 64) (zs : List Nat) (j : Nat) : ((zs.map (nbRow k)).getD j []).length ≤ 1000 := by
  by_cases h : j < zs.length
  · have e : (zs.map (nbRow k)).getD j [] = nbRow k (zs.getD j 0) := by simp [List.getD, h]
    rw [e, nbRow, ofBits_len]; unfold nw; omega
  · have e : (zs.map (nbRow k)).getD j [] = [] := by simp [List.getD, List.getElem?_eq_none (Nat.le_of_not_lt h)]
    rw [e]; simp
theorem rows_yes (k : Nat) (h1 : 1 ≤ k) (h2 : k ≤ 64) (A : Option Addr) (l c : Nat) (zs : List Nat) (w : World) (hz : Words w A l zs) (hl : l ≤ 64) :
    Calls Try.prog 42 #[.int .i64 k, .slice A l c] w (MatOut k (nbRow k) zs w) := by
  have HM := srcMay_any k
  rw [kmb_yes (n := k) (by omega)] at HM
  exact rows_gen k (nbRow k) ⟨h1, h2⟩ HM (fun id hi w => srcRow_own k id h1 h2 hi w) A l c zs w hz hl
theorem rows_no (k : Int) (A : Option Addr) (l c : Nat) (h : ¬ ((1 ≤ k ∧ k ≤ 64) ∧ l ≤ 64)) (w : World) : Calls Try.prog 42 #[.int .i64 k, .slice A l c] w fun e w' => e = .returned (.tuple #[.agg #[.int .i64 0, .slice none 0 0], .int .i64 2]) ∧ Below w.heap.size w w' := by
  have HM := Lib.hid (srcMay_any k)
  have Q := Lib.hid (Box.new w 53 #[.int .i64 0, .slice none 0 0])
  obtain ⟨r0, r1, r2, r3⟩ := Q.out.two
  by_cases hk : 1 ≤ k ∧ k ≤ 64
  · rw [kmb_yes hk] at HM
    have hl2 : (64 : Int) < l := by omega
    go_enter Try.func42, Try.ntmps42
    go_wp2_with fail
    refine (HM.out _).mono ?_
    rintro e w1 ⟨rfl, rfl⟩
    go_wp2
    refine close_cell Try.results42 rfl rfl rfl Q.out Try.underlying53 rfl (by kernel_rfl) ⟨rfl, (Below.refl _ _).alloc (Nat.le_refl _) _⟩
  · rw [kmb_no hk] at HM
    go_enter Try.func42, Try.ntmps42
    go_wp2_with fail
    refine (HM.out _).mono ?_
    rintro e w1 ⟨rfl, rfl⟩
    go_wp2
    refine close_cell Try.results42 rfl rfl rfl Q.out Try.underlying53 rfl (by kernel_rfl) ⟨rfl, (Below.refl _ _).alloc (Nat.le_refl _) _⟩
theorem MatW.form {w : World} {base : Nat} {k : Int} {v : Value} {ls : List (List Nat)} {n : Nat} (h : MatW w base k v ls) (hn : ls.length = n) : ∃ A c, v = .slice A n c := by
  obtain ⟨rs, -, h2, -⟩ := h
  obtain ⟨A, c, h, -⟩ := own_form h2
  exact ⟨A, c, by rw [h, hn]⟩
end
section
/- Rows that are numbers: what some of them span, by xor; reduced rows, and that they are one. No program. -/
set_option linter.unusedVariables false
set_option linter.unusedSimpArgs false
/-- The xor of a list of numbers. -/
def xs (S : List Nat) : Nat := S.foldr (· ^^^ ·) 0
theorem xs_cons (a : Nat) (S : List Nat) : xs (a :: S) = a ^^^ xs S := rfl
theorem xs_append (S T : List Nat) : xs (S ++ T) = xs S ^^^ xs T := by
  induction S with
  | nil => simp [xs]
  | cons a S ih => rw [List.cons_append, xs_cons, xs_cons, ih, Nat.xor_assoc]
/-- v is the xor of some of L. -/
def Sp (L : List Nat) (v : Nat) : Prop := ∃ S : List Nat, (∀ x ∈ S, x ∈ L) ∧ v = xs S
theorem sp_zero (L : List Nat) : Sp L 0 := ⟨[], (fun _ h => by cases h), rfl⟩
theorem sp_mem {L : List Nat} {r : Nat} (h : r ∈ L) : Sp L r := ⟨[r], fun x hx => by simp at hx; subst hx; exact h, by simp [xs]⟩
theorem sp_xor {L : List Nat} {v u : Nat} (hv : Sp L v) (hu : Sp L u) : Sp L (v ^^^ u) := by
  obtain ⟨S, h1, rfl⟩ := hv
  obtain ⟨T, h2, rfl⟩ := hu
  exact ⟨S ++ T, fun x hx => by rcases List.mem_append.1 hx with h | h; exact h1 x h; exact h2 x h, (xs_append S T).symm⟩
theorem sp_ind {L : List Nat} {P : Nat → Prop} (h0 : P 0) (hs : ∀ r u, r ∈ L → P u → P (r ^^^ u)) {v : Nat} (h : Sp L v) : P v := by
  obtain ⟨S, h1, rfl⟩ := h
  induction S with
  | nil => exact h0
  | cons a S ih => exact hs a _ (h1 a (by simp)) (ih (fun x hx => h1 x (by simp [hx])))
theorem sp_sub {L M : List Nat} (h : ∀ r ∈ L, Sp M r) {v : Nat} (hv : Sp L v) : Sp M v :=
  sp_ind (sp_zero M) (fun r u hr hu => sp_xor (h r hr) hu) hv
/-- Two lists that span the same. -/
def SameSp (L M : List Nat) : Prop := ∀ v, Sp L v ↔ Sp M v
theorem SameSp.of {L M : List Nat} (h1 : ∀ r ∈ L, Sp M r) (h2 : ∀ r ∈ M, Sp L r) : SameSp L M := fun _ => ⟨sp_sub h1, sp_sub h2⟩
theorem SameSp.refl (L : List Nat) : SameSp L L := fun _ => Iff.rfl
theorem SameSp.trans {L M K : List Nat} (h : SameSp L M) (k : SameSp M K) : SameSp L K := fun v => (h v).trans (k v)
theorem SameSp.symm {L M : List Nat} (h : SameSp L M) : SameSp M L := fun v => (h v).symm
theorem xor_cancel {a b : Nat} (h : a ^^^ b = 0) : a = b := by
  apply Nat.eq_of_testBit_eq
  intro i
  have := congrArg (fun x => x.testBit i) h
  simp only [Nat.testBit_xor, Nat.zero_testBit] at this
  revert this
  cases a.testBit i <;> cases b.testBit i <;> simp
theorem xor_back (a b : Nat) : a ^^^ b ^^^ b = a := by rw [Nat.xor_assoc, Nat.xor_self, Nat.xor_zero]
/-- p is the lowest place of v. -/
def IsLow (v p : Nat) : Prop := v.testBit p = true ∧ ∀ q, q < p → v.testBit q = false
theorem IsLow.uniq {v p q : Nat} (h : IsLow v p) (k : IsLow v q) : p = q := by
  rcases Nat.lt_trichotomy p q with hl | hl | hl
  · have := k.2 p hl; rw [h.1] at this; cases this
  · exact hl
  · have := h.2 q hl; rw [k.1] at this; cases this
theorem low_exists {v : Nat} (h : v ≠ 0) : ∃ p, IsLow v p := by
  have ex : ∃ p, v.testBit p = true := by
    by_cases hn : ∃ p, v.testBit p = true
    · exact hn
    · exact absurd (Nat.eq_of_testBit_eq (fun i => by
        rw [Nat.zero_testBit]
        cases hb : v.testBit i with
        | false => rfl
        | true => exact absurd ⟨i, hb⟩ hn)) h
  obtain ⟨p, hp⟩ := ex
  induction p using Nat.strongRecOn with
  | _ p ih =>
    by_cases hq : ∃ q, q < p ∧ v.testBit q = true
    · obtain ⟨q, hl, hb⟩ := hq; exact ih q hl hb
    · exact ⟨p, hp, fun q hl => by
        cases hb : v.testBit q with
        | false => rfl
        | true => exact absurd ⟨q, hl, hb⟩ hq⟩
/-- Reduced rows, and their places. -/
structure Rref (L P : List Nat) : Prop where
  len : L.length = P.length
  low : ∀ i, i < L.length → IsLow (L.getD i 0) (P.getD i 0)
  one : ∀ i j, i < L.length → j < L.length → (L.getD i 0).testBit (P.getD j 0) = decide (i = j)
  rise : ∀ i j, i < j → j < L.length → P.getD i 0 < P.getD j 0
/-- Those of the first k rows whose place has a bit in v. -/
def comb (L P : List Nat) (v : Nat) : Nat → Nat
  | 0 => 0
  | k + 1 => comb L P v k ^^^ (if v.testBit (P.getD k 0) then L.getD k 0 else 0)
theorem comb_xor (L P : List Nat) (v u k : Nat) : comb L P (v ^^^ u) k = comb L P v k ^^^ comb L P u k := by
  induction k with
  | zero => simp [comb]
  | succ k ih =>
    simp only [comb, ih, Nat.testBit_xor]
    generalize comb L P v k = a
    generalize comb L P u k = b
    generalize L.getD k 0 = c
    cases v.testBit (P.getD k 0) <;> cases u.testBit (P.getD k 0) <;> simp
    · rw [Nat.xor_assoc]
    · rw [Nat.xor_assoc, Nat.xor_assoc, Nat.xor_comm c b]
    · rw [Nat.xor_assoc, Nat.xor_comm c, Nat.xor_assoc, Nat.xor_self, Nat.xor_zero]
theorem comb_zero (L P : List Nat) (v k : Nat) (h : ∀ j, j < k → v.testBit (P.getD j 0) = false) : comb L P v k = 0 := by
  induction k with
  | zero => rfl
  | succ k ih => rw [comb, ih (fun j hj => h j (by omega)), h k (by omega)]; simp
theorem comb_row {L P : List Nat} (h : Rref L P) (i : Nat) (hi : i < L.length) : ∀ k, k ≤ L.length → comb L P (L.getD i 0) k = if i < k then L.getD i 0 else 0
  | 0, _ => by simp [comb]
  | k + 1, hk => by
    rw [comb, comb_row h i hi k (by omega), h.one i k hi (by omega)]
    by_cases e : i = k
    · subst e; simp
    · by_cases hl : i < k
      · simp [e, hl, show i < k + 1 by omega]
      · simp [e, hl, show ¬ i < k + 1 by omega]
theorem mem_getD {L : List Nat} {r : Nat} (h : r ∈ L) : ∃ i, i < L.length ∧ L.getD i 0 = r := by
  obtain ⟨i, hi, rfl⟩ := List.getElem_of_mem h
  exact ⟨i, hi, by simp [List.getD, hi]⟩
theorem getD_mem {L : List Nat} {i : Nat} (h : i < L.length) : L.getD i 0 ∈ L := by
  have : L.getD i 0 = L[i] := by simp [List.getD, h]
  rw [this]; exact List.getElem_mem _
/-- What reduced rows span is told by its bits at their places. -/
theorem Rref.comb {L P : List Nat} (h : Rref L P) {v : Nat} (hv : Sp L v) : v = comb L P v L.length := by
  refine sp_ind (P := fun v => v = Ytmfhimeffmpgaaa.comb L P v L.length) ?_ ?_ hv
  · exact (comb_zero L P 0 _ (fun _ _ => by simp)).symm
  · intro r u hr hu
    obtain ⟨i, hi, rfl⟩ := mem_getD hr
    rw [comb_xor, ← hu, comb_row h i hi _ (Nat.le_refl _), if_pos hi]
theorem Rref.zero {L P : List Nat} (h : Rref L P) {v : Nat} (hv : Sp L v) (hz : ∀ j, j < L.length → v.testBit (P.getD j 0) = false) : v = 0 := by
  rw [h.comb hv]; exact comb_zero L P v _ hz
theorem comb_below {L P : List Nat} (h : Rref L P) (v q i : Nat) (hi : ∀ j, j < i → v.testBit (P.getD j 0) = false) (hq : i < L.length → q < P.getD i 0) : ∀ k, k ≤ L.length → (Ytmfhimeffmpgaaa.comb L P v k).testBit q = false
  | 0, _ => by simp [Ytmfhimeffmpgaaa.comb]
  | k + 1, hk => by
    rw [Ytmfhimeffmpgaaa.comb, Nat.testBit_xor, comb_below h v q i hi hq k (by omega)]
    by_cases hl : k < i
    · rw [hi k hl]; simp
    · cases v.testBit (P.getD k 0) with
      | false => simp
      | true =>
        have hr : P.getD i 0 ≤ P.getD k 0 := by
          rcases Nat.lt_or_ge i k with h1 | h1
          · exact Nat.le_of_lt (h.rise i k h1 (by omega))
          · obtain rfl : i = k := by omega
            exact Nat.le_refl _
        have := (h.low k (by omega)).2 q (by have := hq (by omega); omega)
        rw [if_pos rfl, this]; rfl
/-- The places are the lowest ones of what is spanned. -/
theorem Rref.place {L P : List Nat} (h : Rref L P) (p : Nat) : (p ∈ P) ↔ ∃ v, Sp L v ∧ IsLow v p := by
  constructor
  · intro hp
    obtain ⟨i, hi, rfl⟩ := mem_getD hp
    have hi' : i < L.length := by rw [h.len]; exact hi
    exact ⟨_, sp_mem (getD_mem hi'), h.low i hi'⟩
  · rintro ⟨v, hv, hl⟩
    have ex : ∃ i, i < L.length ∧ v.testBit (P.getD i 0) = true := by
      by_cases hn : ∃ i, i < L.length ∧ v.testBit (P.getD i 0) = true
      · exact hn
      · have := h.zero hv (fun j hj => by
          cases hb : v.testBit (P.getD j 0) with
          | false => rfl
          | true => exact absurd ⟨j, hj, hb⟩ hn)
        rw [this] at hl
        have h1 := hl.1
        simp at h1
    obtain ⟨i, hi, hb, hmin⟩ : ∃ i, i < L.length ∧ v.testBit (P.getD i 0) = true ∧ ∀ j, j < i → v.testBit (P.getD j 0) = false := by
      obtain ⟨i, hi, hb⟩ := ex
      induction i using Nat.strongRecOn with
      | _ i ih =>
        by_cases hq : ∃ q, q < i ∧ v.testBit (P.getD q 0) = true
        · obtain ⟨q, hl, hb⟩ := hq; exact ih q hl (by omega) hb
        · exact ⟨i, hi, hb, fun q hl => by
            cases hb : v.testBit (P.getD q 0) with
            | false => rfl
            | true => exact absurd ⟨q, hl, hb⟩ hq⟩
    have hlow : IsLow v (P.getD i 0) := ⟨hb, fun q hq => by rw [h.comb hv]; exact comb_below h v q i hmin (fun _ => hq) _ (Nat.le_refl _)⟩
    rw [hl.uniq hlow]
    exact getD_mem (by rw [← h.len]; exact hi)
theorem rising_uniq : ∀ (P Q : List Nat), P.Pairwise (· < ·) → Q.Pairwise (· < ·) → (∀ x, x ∈ P ↔ x ∈ Q) → P = Q
  | [], [], _, _, _ => rfl
  | [], q :: Q, _, _, h => by have := (h q).2 (by simp); cases this
  | p :: P, [], _, _, h => by have := (h p).1 (by simp); cases this
  | p :: P, q :: Q, hp, hq, h => by
    have hp' := List.pairwise_cons.1 hp
    have hq' := List.pairwise_cons.1 hq
    have e : p = q := by
      have h1 := (h p).1 (by simp)
      have h2 := (h q).2 (by simp)
      rcases List.mem_cons.1 h1 with h1 | h1
      · exact h1
      · rcases List.mem_cons.1 h2 with h2 | h2
        · exact h2.symm
        · have := hp'.1 q h2; have := hq'.1 p h1; omega
    subst e
    congr 1
    refine rising_uniq P Q hp'.2 hq'.2 fun x => ⟨fun hx => ?_, fun hx => ?_⟩
    · rcases List.mem_cons.1 ((h x).1 (by simp [hx])) with h1 | h1
      · have := hp'.1 x hx; omega
      · exact h1
    · rcases List.mem_cons.1 ((h x).2 (by simp [hx])) with h1 | h1
      · have := hq'.1 x hx; omega
      · exact h1
theorem Rref.pairwise {L P : List Nat} (h : Rref L P) : P.Pairwise (· < ·) := by
  rw [List.pairwise_iff_getElem]
  intro i j hi hj hij
  have := h.rise i j hij (by rw [h.len]; exact hj)
  simpa [List.getD, hi, hj] using this
/-- Reduced rows that span the same are the same. -/
theorem rref_uniq {L P M Q : List Nat} (h : Rref L P) (k : Rref M Q) (hs : SameSp L M) : L = M ∧ P = Q := by
  have hP : P = Q := rising_uniq P Q h.pairwise k.pairwise fun x => by
    rw [h.place, k.place]
    exact ⟨fun ⟨v, a, b⟩ => ⟨v, (hs v).1 a, b⟩, fun ⟨v, a, b⟩ => ⟨v, (hs v).2 a, b⟩⟩
  subst hP
  have hl : L.length = M.length := h.len.trans k.len.symm
  refine ⟨List.ext_getElem hl fun i h1 h2 => ?_, rfl⟩
  have hz : L.getD i 0 ^^^ M.getD i 0 = 0 := h.zero (sp_xor (sp_mem (getD_mem h1)) ((hs _).2 (sp_mem (getD_mem h2)))) fun j hj => by
    rw [Nat.testBit_xor, h.one i j h1 hj, k.one i j h2 (by omega)]; simp
  have := xor_cancel hz
  simpa [List.getD, h1, h2] using this
end
section
/- Rows reduced column by column. No program. -/
set_option linter.unusedVariables false
set_option linter.unusedSimpArgs false
def swapL (L : List Nat) (d i : Nat) : List Nat := (L.set d (L.getD i 0)).set i (L.getD d 0)
def clearL (L : List Nat) (d c : Nat) : List Nat := (List.range L.length).map fun j => if j ≠ d ∧ (L.getD j 0).testBit c = true then L.getD j 0 ^^^ L.getD d 0 else L.getD j 0
theorem swapL_len (L : List Nat) (d i : Nat) : (swapL L d i).length = L.length := by simp [swapL]
theorem clearL_len (L : List Nat) (d c : Nat) : (clearL L d c).length = L.length := by simp [clearL]
theorem swapL_at (L : List Nat) (d i j : Nat) (hd : d < L.length) (hi : i < L.length) : (swapL L d i).getD j 0 = if j = i then L.getD d 0 else if j = d then L.getD i 0 else L.getD j 0 := by
  unfold swapL
  simp only [List.getD, List.getElem?_set, List.length_set]
  by_cases h1 : j = i
  · subst h1; simp [hi]
  · by_cases h2 : j = d
    · subst h2; simp [h1, Ne.symm h1, hd]
    · simp [h1, h2, Ne.symm h1, Ne.symm h2]
theorem clearL_at (L : List Nat) (d c j : Nat) (hj : j < L.length) : (clearL L d c).getD j 0 = if j ≠ d ∧ (L.getD j 0).testBit c = true then L.getD j 0 ^^^ L.getD d 0 else L.getD j 0 := by
  simp [clearL, List.getD, hj]
structure Work (orig L : List Nat) (d c : Nat) (P : List Nat) : Prop where
  span : SameSp orig L
  size : L.length = orig.length
  dp : P.length = d
  dl : d ≤ L.length
  low : ∀ i, i < d → IsLow (L.getD i 0) (P.getD i 0)
  lt : ∀ i, i < d → P.getD i 0 < c
  rise : ∀ i j, i < j → j < d → P.getD i 0 < P.getD j 0
  one : ∀ i j, i < L.length → j < d → (L.getD i 0).testBit (P.getD j 0) = decide (i = j)
  zero : ∀ i, d ≤ i → i < L.length → ∀ q, q < c → (L.getD i 0).testBit q = false
theorem work_start (orig : List Nat) : Work orig orig 0 0 [] :=
  ⟨SameSp.refl _, rfl, rfl, Nat.zero_le _, fun _ h => absurd h (Nat.not_lt_zero _), fun _ h => absurd h (Nat.not_lt_zero _), fun _ _ _ h => absurd h (Nat.not_lt_zero _), fun _ _ _ h => absurd h (Nat.not_lt_zero _), fun _ _ _ _ h => absurd h (Nat.not_lt_zero _)⟩
theorem work_none {orig L P : List Nat} {d c : Nat} (h : Work orig L d c P) (hn : ∀ i, d ≤ i → i < L.length → (L.getD i 0).testBit c = false) : Work orig L d (c + 1) P :=
  ⟨h.span, h.size, h.dp, h.dl, h.low, fun i hi => by have := h.lt i hi; omega, h.rise, h.one, fun i h1 h2 q hq => by
    by_cases e : q = c
    · subst e; exact hn i h1 h2
    · exact h.zero i h1 h2 q (by omega)⟩
theorem swap_span (L : List Nat) (d i : Nat) (hd : d < L.length) (hi : i < L.length) : SameSp L (swapL L d i) := by
  refine SameSp.of (fun r hr => ?_) (fun r hr => ?_)
  · obtain ⟨j, hj, rfl⟩ := mem_getD hr
    by_cases h1 : j = i
    · subst h1
      have e := swapL_at L d j d hd hi
      by_cases h2 : d = j
      · subst h2; rw [if_pos rfl] at e; rw [← e]; exact sp_mem (getD_mem (by rw [swapL_len]; exact hd))
      · rw [if_neg h2, if_pos rfl] at e; rw [← e]; exact sp_mem (getD_mem (by rw [swapL_len]; exact hd))
    · by_cases h2 : j = d
      · subst h2
        have e := swapL_at L j i i hd hi
        rw [if_pos rfl] at e; rw [← e]; exact sp_mem (getD_mem (by rw [swapL_len]; exact hi))
      · have e := swapL_at L d i j hd hi
        rw [if_neg h1, if_neg h2] at e; rw [← e]; exact sp_mem (getD_mem (by rw [swapL_len]; exact hj))
  · obtain ⟨j, hj, rfl⟩ := mem_getD hr
    rw [swapL_len] at hj
    rw [swapL_at L d i j hd hi]
    split
    · exact sp_mem (getD_mem hd)
    · split
      · exact sp_mem (getD_mem hi)
      · exact sp_mem (getD_mem hj)
theorem clear_span (L : List Nat) (d c : Nat) (hd : d < L.length) : SameSp L (clearL L d c) := by
  have own : Sp (clearL L d c) (L.getD d 0) := by
    have e := clearL_at L d c d hd
    simp only [ne_eq, not_true_eq_false, false_and, if_false] at e
    rw [← e]; exact sp_mem (getD_mem (by rw [clearL_len]; exact hd))
  refine SameSp.of (fun r hr => ?_) (fun r hr => ?_)
  · obtain ⟨j, hj, rfl⟩ := mem_getD hr
    have m : Sp (clearL L d c) ((clearL L d c).getD j 0) := sp_mem (getD_mem (by rw [clearL_len]; exact hj))
    rw [clearL_at L d c j hj] at m
    split at m
    · have := sp_xor m own
      rw [xor_back] at this; exact this
    · exact m
  · obtain ⟨j, hj, rfl⟩ := mem_getD hr
    rw [clearL_len] at hj
    rw [clearL_at L d c j hj]
    split
    · exact sp_xor (sp_mem (getD_mem hj)) (sp_mem (getD_mem hd))
    · exact sp_mem (getD_mem hj)
theorem getD_snoc (P : List Nat) (c j : Nat) : (P ++ [c]).getD j 0 = if j < P.length then P.getD j 0 else if j = P.length then c else 0 := by
  by_cases h : j < P.length
  · rw [if_pos h]; simp only [List.getD, List.getElem?_append_left h]
  · by_cases e : j = P.length
    · subst e; simp [List.getD]
    · rw [if_neg h, if_neg e]
      have : (P ++ [c])[j]? = none := List.getElem?_eq_none (by simp; omega)
      simp [List.getD, this]
theorem work_swap {orig L P : List Nat} {d c i : Nat} (h : Work orig L d c P) (h1 : d ≤ i) (h2 : i < L.length) : Work orig (swapL L d i) d c P := by
  have hd : d < L.length := by omega
  refine ⟨h.span.trans (swap_span L d i hd h2), (swapL_len _ _ _).trans h.size, h.dp, by rw [swapL_len]; exact h.dl, fun j hj => ?_, h.lt, h.rise, fun j k hj hk => ?_, fun j hj1 hj2 q hq => ?_⟩
  · rw [swapL_at L d i j hd h2, if_neg (by omega), if_neg (by omega)]; exact h.low j hj
  · rw [swapL_len] at hj
    rw [swapL_at L d i j hd h2]
    split
    · rename_i e; subst e; rw [h.one d k hd hk]; simp; omega
    · split
      · rename_i e; subst e; rw [h.one i k h2 hk]; simp; omega
      · exact h.one j k hj hk
  · rw [swapL_len] at hj2
    rw [swapL_at L d i j hd h2]
    split
    · exact h.zero d (Nat.le_refl _) hd q hq
    · split
      · exact h.zero i h1 h2 q hq
      · exact h.zero j hj1 hj2 q hq
theorem work_clear {orig L P : List Nat} {d c : Nat} (h : Work orig L d c P) (hd : d < L.length) (hb : (L.getD d 0).testBit c = true) : Work orig (clearL L d c) (d + 1) (c + 1) (P ++ [c]) := by
  have hz := h.zero d (Nat.le_refl _) hd
  have low0 : ∀ j, j < L.length → ∀ q, q < c → ((clearL L d c).getD j 0).testBit q = (L.getD j 0).testBit q := fun j hj q hq => by
    rw [clearL_at L d c j hj]
    split
    · rw [Nat.testBit_xor, hz q hq]; simp
    · rfl
  have atc : ∀ j, j < L.length → ((clearL L d c).getD j 0).testBit c = decide (j = d) := fun j hj => by
    rw [clearL_at L d c j hj]
    by_cases e : j = d
    · subst e; rw [if_neg (fun k => k.1 rfl), hb]; simp
    · by_cases b : (L.getD j 0).testBit c = true
      · rw [if_pos ⟨e, b⟩, Nat.testBit_xor, b, hb]; simp [e]
      · rw [if_neg (fun k => b k.2), Bool.eq_false_iff.2 b]; simp [e]
  refine ⟨h.span.trans (clear_span L d c hd), (clearL_len _ _ _).trans h.size, by rw [List.length_append, h.dp]; rfl, by rw [clearL_len]; omega, fun j hj => ?_, fun j hj => ?_, fun j k hjk hk => ?_, fun j k hj hk => ?_, fun j h1 h2 q hq => ?_⟩
  · rw [getD_snoc, h.dp]
    by_cases hjd : j < d
    · rw [if_pos hjd]
      have hp := h.lt j hjd
      have hl := h.low j hjd
      exact ⟨by rw [low0 j (by omega) _ hp]; exact hl.1, fun q hq => by rw [low0 j (by omega) q (by omega)]; exact hl.2 q hq⟩
    · obtain rfl : j = d := by omega
      rw [if_neg (by omega), if_pos rfl]
      exact ⟨by rw [atc j hd]; simp, fun q hq => by rw [low0 j hd q hq]; exact hz q hq⟩
  · rw [getD_snoc, h.dp]
    by_cases hjd : j < d
    · rw [if_pos hjd]; have := h.lt j hjd; omega
    · rw [if_neg hjd, if_pos (by omega)]; omega
  · rw [getD_snoc, getD_snoc, h.dp]
    rw [if_pos (show j < d by omega)]
    by_cases hkd : k < d
    · rw [if_pos hkd]; exact h.rise j k hjk hkd
    · rw [if_neg hkd, if_pos (by omega)]; exact h.lt j (by omega)
  · rw [clearL_len] at hj
    rw [getD_snoc, h.dp]
    by_cases hkd : k < d
    · rw [if_pos hkd, low0 j hj _ (h.lt k hkd)]; exact h.one j k hj hkd
    · obtain rfl : k = d := by omega
      rw [if_neg (by omega), if_pos rfl]; exact atc j hj
  · rw [clearL_len] at h2
    by_cases e : q = c
    · subst e; rw [atc j h2]; simp; omega
    · rw [low0 j h2 q (by omega)]; exact h.zero j (by omega) h2 q (by omega)
theorem sp_lt {L : List Nat} {n : Nat} (h : ∀ r ∈ L, r < 2 ^ n) {v : Nat} (hv : Sp L v) : v < 2 ^ n :=
  sp_ind (P := fun v => v < 2 ^ n) (Nat.two_pow_pos n) (fun r u hr hu => Nat.xor_lt_two_pow (h r hr) hu) hv
theorem getD_take (L : List Nat) (d i : Nat) (h : i < d) : (L.take d).getD i 0 = L.getD i 0 := by simp [List.getD, List.getElem?_take, h]
theorem work_end {orig L P : List Nat} {d n : Nat} (h : Work orig L d n P) (hl : ∀ r ∈ orig, r < 2 ^ n) : Rref (L.take d) P ∧ SameSp orig (L.take d) := by
  have hlen : (L.take d).length = d := by rw [List.length_take]; have := h.dl; omega
  have hzero : ∀ i, d ≤ i → i < L.length → L.getD i 0 = 0 := fun i h1 h2 => by
    apply Nat.eq_of_testBit_eq
    intro q
    rw [Nat.zero_testBit]
    by_cases hq : q < n
    · exact h.zero i h1 h2 q hq
    · have hlt : L.getD i 0 < 2 ^ n := sp_lt hl ((h.span _).2 (sp_mem (getD_mem h2)))
      exact Nat.testBit_lt_two_pow (Nat.lt_of_lt_of_le hlt (Nat.pow_le_pow_right (by omega) (by omega)))
  refine ⟨⟨by rw [hlen, h.dp], fun i hi => ?_, fun i j hi hj => ?_, fun i j hij hj => ?_⟩, h.span.trans (SameSp.of (fun r hr => ?_) (fun r hr => ?_))⟩
  · rw [hlen] at hi; rw [getD_take L d i hi]; exact h.low i hi
  · rw [hlen] at hi hj; rw [getD_take L d i hi]; exact h.one i j (by have := h.dl; omega) hj
  · rw [hlen] at hj; exact h.rise i j hij hj
  · obtain ⟨i, hi, rfl⟩ := mem_getD hr
    by_cases hd : i < d
    · rw [← getD_take L d i hd]; exact sp_mem (getD_mem (by rw [hlen]; exact hd))
    · rw [hzero i (by omega) hi]; exact sp_zero _
  · obtain ⟨i, hi, rfl⟩ := mem_getD hr
    rw [hlen] at hi
    rw [getD_take L d i hi]; exact sp_mem (getD_mem (by have := h.dl; omega))
end
section
/- Rows reduced one behind the other: what is left of a row, and where it is put. No program. -/
set_option linter.unusedVariables false
set_option linter.unusedSimpArgs false
def leftN (L P : List Nat) (r : Nat) : Nat → Nat
  | 0 => r
  | k + 1 => if (leftN L P r k).testBit (P.getD k 0) then leftN L P r k ^^^ L.getD k 0 else leftN L P r k
theorem leftN_bits {L P : List Nat} (h : Rref L P) (r : Nat) : ∀ k, k ≤ L.length → ∀ j, j < L.length → (leftN L P r k).testBit (P.getD j 0) = if j < k then false else r.testBit (P.getD j 0)
  | 0, _, j, _ => by simp [leftN]
  | k + 1, hk, j, hj => by
    have ih := leftN_bits h r k (by omega)
    rw [leftN]
    have hkk := ih k (by omega)
    rw [if_neg (by omega)] at hkk
    by_cases hb : (leftN L P r k).testBit (P.getD k 0) = true
    · rw [if_pos hb, Nat.testBit_xor, h.one k j (by omega) hj, ih j hj]
      by_cases e : k = j
      · subst e
        rw [if_neg (by omega), ← hkk, hb]; simp
      · by_cases hl : j < k
        · simp [e, hl, show j < k + 1 by omega]
        · simp [e, hl, show ¬ j < k + 1 by omega]
    · rw [if_neg hb, ih j hj]
      by_cases e : k = j
      · subst e
        rw [if_neg (by omega), if_pos (by omega), ← hkk]
        simpa using hb
      · by_cases hl : j < k
        · simp [hl, show j < k + 1 by omega]
        · simp [hl, show ¬ j < k + 1 by omega]
theorem leftN_span (L P : List Nat) (r : Nat) : ∀ k, k ≤ L.length → Sp L (r ^^^ leftN L P r k)
  | 0, _ => by simp only [leftN, Nat.xor_self]; exact sp_zero L
  | k + 1, hk => by
    have ih := leftN_span L P r k (by omega)
    rw [leftN]
    split
    · rw [← Nat.xor_assoc]; exact sp_xor ih (sp_mem (getD_mem (by omega)))
    · exact ih
/-- What is left is 0 just if the row was spanned. -/
theorem left_zero {L P : List Nat} (h : Rref L P) (r : Nat) : leftN L P r L.length = 0 ↔ Sp L r := by
  have hs := leftN_span L P r L.length (Nat.le_refl _)
  constructor
  · intro h0
    rw [h0, Nat.xor_zero] at hs; exact hs
  · intro hr
    refine h.zero ?_ fun j hj => ?_
    · have := sp_xor hr hs
      rw [← Nat.xor_assoc, Nat.xor_self, Nat.zero_xor] at this; exact this
    · rw [leftN_bits h r _ (Nat.le_refl _) j hj, if_pos hj]
/-- Where a place comes among rising ones. -/
theorem cut_place {L P : List Nat} (h : Rref L P) (a : Nat) (hn : a ∉ P) : ∃ m, m ≤ L.length ∧ (∀ i, i < m → P.getD i 0 < a) ∧ (∀ i, m ≤ i → i < L.length → a < P.getD i 0) := by
  have step : ∀ k, k ≤ L.length → ∃ m, m ≤ k ∧ (∀ i, i < m → P.getD i 0 < a) ∧ (∀ i, m ≤ i → i < k → a < P.getD i 0) := by
    intro k
    induction k with
    | zero => exact fun _ => ⟨0, Nat.le_refl _, fun i hi => absurd hi (Nat.not_lt_zero _), fun i _ hi => absurd hi (Nat.not_lt_zero _)⟩
    | succ k ih =>
      intro hk
      obtain ⟨m, h1, h2, h3⟩ := ih (by omega)
      have hne : P.getD k 0 ≠ a := fun e => hn (e ▸ getD_mem (by rw [← h.len]; omega))
      by_cases hlt : P.getD k 0 < a
      · refine ⟨k + 1, Nat.le_refl _, fun i hi => ?_, fun i h4 h5 => by omega⟩
        by_cases e : i = k
        · subst e; exact hlt
        · have := h.rise i k (by omega) (by omega); omega
      · refine ⟨m, by omega, h2, fun i h4 h5 => ?_⟩
        by_cases e : i = k
        · subst e; omega
        · exact h3 i h4 (by omega)
  exact step L.length (Nat.le_refl _)
def putW (L : List Nat) (r a m : Nat) : List Nat := (L.take m).map (fun x => if x.testBit a then x ^^^ r else x) ++ r :: L.drop m
def putP (P : List Nat) (a m : Nat) : List Nat := P.take m ++ a :: P.drop m
theorem putW_at (L : List Nat) (r a m i : Nat) (hm : m ≤ L.length) (hi : i < L.length + 1) : (putW L r a m).getD i 0 = if i < m then (if (L.getD i 0).testBit a then L.getD i 0 ^^^ r else L.getD i 0) else if i = m then r else L.getD (i - 1) 0 := by
  unfold putW
  by_cases h1 : i < m
  · have hl : i < L.length := by omega
    rw [if_pos h1]
    simp only [List.getD]
    rw [List.getElem?_append_left (by simp; omega)]
    simp [List.getElem?_take, h1, hl]
  · rw [if_neg h1]
    simp only [List.getD]
    rw [List.getElem?_append_right (by simp; omega)]
    have e : i - ((L.take m).map (fun x => if x.testBit a then x ^^^ r else x)).length = i - m := by simp; omega
    rw [e]
    by_cases h2 : i = m
    · subst h2; simp
    · rw [if_neg h2]
      obtain ⟨d, hd⟩ : ∃ d, i - m = d + 1 := ⟨i - m - 1, by omega⟩
      rw [hd, List.getElem?_cons_succ, List.getElem?_drop]
      congr 2; omega
theorem putP_at (P : List Nat) (a m i : Nat) (hm : m ≤ P.length) (hi : i < P.length + 1) : (putP P a m).getD i 0 = if i < m then P.getD i 0 else if i = m then a else P.getD (i - 1) 0 := by
  unfold putP
  by_cases h1 : i < m
  · rw [if_pos h1]
    simp only [List.getD]
    rw [List.getElem?_append_left (by simp; omega), List.getElem?_take, if_pos h1]
  · rw [if_neg h1]
    simp only [List.getD]
    rw [List.getElem?_append_right (by simp; omega)]
    have e : i - (P.take m).length = i - m := by simp; omega
    rw [e]
    by_cases h2 : i = m
    · subst h2; simp
    · rw [if_neg h2]
      obtain ⟨d, hd⟩ : ∃ d, i - m = d + 1 := ⟨i - m - 1, by omega⟩
      rw [hd, List.getElem?_cons_succ, List.getElem?_drop]
      congr 2; omega
theorem putW_len (L : List Nat) (r a m : Nat) (hm : m ≤ L.length) : (putW L r a m).length = L.length + 1 := by simp [putW]; omega
theorem putP_len (P : List Nat) (a m : Nat) (hm : m ≤ P.length) : (putP P a m).length = P.length + 1 := by simp [putP]; omega
/-- A row with a place of its own is put to reduced ones. -/
theorem put_rref {L P : List Nat} (h : Rref L P) (r a m : Nat) (hl : IsLow r a) (hz : ∀ j, j < L.length → r.testBit (P.getD j 0) = false) (hm : m ≤ L.length)
    (h1 : ∀ i, i < m → P.getD i 0 < a) (h2 : ∀ i, m ≤ i → i < L.length → a < P.getD i 0) : Rref (putW L r a m) (putP P a m) := by
  have hmP : m ≤ P.length := by rw [← h.len]; exact hm
  have hLP := h.len
  have lw := putW_len L r a m hm
  have row : ∀ i, i < L.length + 1 → ∀ q, (∀ j, j < L.length → q = P.getD j 0 → ((putW L r a m).getD i 0).testBit q = (if i < m then L.getD i 0 else if i = m then r else L.getD (i - 1) 0).testBit q) := fun i hi q j hj e => by
    rw [putW_at L r a m i hm hi]
    split
    · split
      · rw [Nat.testBit_xor, e, hz j hj]; simp
      · rfl
    · rfl
  have rowa : ∀ i, i < L.length + 1 → ((putW L r a m).getD i 0).testBit a = decide (i = m) := fun i hi => by
    rw [putW_at L r a m i hm hi]
    by_cases e1 : i < m
    · rw [if_pos e1]
      by_cases hb : (L.getD i 0).testBit a = true
      · rw [if_pos hb, Nat.testBit_xor, hb, hl.1]; simp; omega
      · rw [if_neg hb, Bool.eq_false_iff.2 hb]; simp; omega
    · rw [if_neg e1]
      by_cases e2 : i = m
      · rw [if_pos e2, hl.1]; simp [e2]
      · rw [if_neg e2, (h.low (i - 1) (by omega)).2 a (h2 (i - 1) (by omega) (by omega))]; simp [e2]
  refine ⟨by rw [lw, putP_len P a m hmP, h.len], fun i hi => ?_, fun i j hi hj => ?_, fun i j hij hj => ?_⟩
  · rw [lw] at hi
    rw [putP_at P a m i hmP (by omega)]
    by_cases e1 : i < m
    · rw [if_pos e1, putW_at L r a m i hm hi, if_pos e1]
      have hlo := h.low i (by omega)
      have hlt := h1 i e1
      split
      · exact ⟨by rw [Nat.testBit_xor, hlo.1, hl.2 _ hlt]; rfl, fun q hq => by rw [Nat.testBit_xor, hlo.2 q hq, hl.2 q (by omega)]; rfl⟩
      · exact hlo
    · rw [if_neg e1, putW_at L r a m i hm hi, if_neg e1]
      split
      · exact hl
      · exact h.low (i - 1) (by omega)
  · rw [lw] at hi hj
    rw [putP_at P a m j hmP (by omega)]
    by_cases e1 : j < m
    · rw [if_pos e1, row i hi _ j (by omega) rfl]
      by_cases f1 : i < m
      · rw [if_pos f1]; exact h.one i j (by omega) (by omega)
      · rw [if_neg f1]
        by_cases f2 : i = m
        · rw [if_pos f2, hz j (by omega)]; simp; omega
        · rw [if_neg f2, h.one (i - 1) j (by omega) (by omega)]; congr 1; apply propext; omega
    · rw [if_neg e1]
      by_cases e2 : j = m
      · rw [if_pos e2, rowa i hi, e2]
      · rw [if_neg e2, row i hi _ (j - 1) (by omega) rfl]
        by_cases f1 : i < m
        · rw [if_pos f1, h.one i (j - 1) (by omega) (by omega)]; congr 1; apply propext; omega
        · rw [if_neg f1]
          by_cases f2 : i = m
          · rw [if_pos f2, hz (j - 1) (by omega)]; simp; omega
          · rw [if_neg f2, h.one (i - 1) (j - 1) (by omega) (by omega)]; congr 1; apply propext; omega
  · rw [lw] at hj
    rw [putP_at P a m i hmP (by omega), putP_at P a m j hmP (by omega)]
    by_cases e1 : j < m
    · rw [if_pos (by omega), if_pos e1]; exact h.rise i j hij (by omega)
    · rw [if_neg e1]
      by_cases e2 : j = m
      · rw [if_pos e2, if_pos (by omega)]; exact h1 i (by omega)
      · rw [if_neg e2]
        by_cases f1 : i < m
        · rw [if_pos f1]; have := h1 i f1; have := h2 (j - 1) (by omega) (by omega); omega
        · rw [if_neg f1]
          by_cases f2 : i = m
          · rw [if_pos f2]; exact h2 (j - 1) (by omega) (by omega)
          · rw [if_neg f2]; exact h.rise (i - 1) (j - 1) (by omega) (by omega)
theorem put_span {L : List Nat} (r a m : Nat) (hm : m ≤ L.length) : SameSp (L ++ [r]) (putW L r a m) := by
  have own : Sp (putW L r a m) r := by
    have e := putW_at L r a m m hm (by omega)
    rw [if_neg (by omega), if_pos rfl] at e
    have := sp_mem (getD_mem (L := putW L r a m) (i := m) (by rw [putW_len L r a m hm]; omega))
    rw [e] at this; exact this
  have ownL : Sp (L ++ [r]) r := sp_mem (by simp)
  have mem : ∀ i, i < L.length → Sp (L ++ [r]) (L.getD i 0) := fun i hi => sp_mem (List.mem_append.2 (.inl (getD_mem hi)))
  refine SameSp.of (fun x hx => ?_) (fun x hx => ?_)
  · rcases List.mem_append.1 hx with hx | hx
    · obtain ⟨i, hi, rfl⟩ := mem_getD hx
      by_cases h1 : i < m
      · have e := putW_at L r a m i hm (by omega)
        rw [if_pos h1] at e
        have := sp_mem (getD_mem (L := putW L r a m) (i := i) (by rw [putW_len L r a m hm]; omega))
        rw [e] at this
        split at this
        · have := sp_xor this own; rw [xor_back] at this; exact this
        · exact this
      · have e := putW_at L r a m (i + 1) hm (by omega)
        rw [if_neg (by omega), if_neg (by omega), Nat.add_sub_cancel] at e
        have := sp_mem (getD_mem (L := putW L r a m) (i := i + 1) (by rw [putW_len L r a m hm]; omega))
        rw [e] at this; exact this
    · simp at hx; subst hx; exact own
  · obtain ⟨i, hi, rfl⟩ := mem_getD hx
    rw [putW_len L r a m hm] at hi
    rw [putW_at L r a m i hm hi]
    split
    · split
      · exact sp_xor (mem i (by omega)) ownL
      · exact mem i (by omega)
    · split
      · exact ownL
      · exact mem (i - 1) (by omega)
/-- One row more: the same rows span it, or there is one reduced row more. -/
theorem rref_more {L P : List Nat} (h : Rref L P) (r : Nat) : ∃ M Q, Rref M Q ∧ SameSp (L ++ [r]) M ∧ (Sp L r → M = L) ∧ (¬ Sp L r → M.length = L.length + 1) := by
  by_cases hs : Sp L r
  · refine ⟨L, P, h, SameSp.of (fun x hx => ?_) (fun x hx => sp_mem (List.mem_append.2 (.inl hx))), fun _ => rfl, fun k => absurd hs k⟩
    rcases List.mem_append.1 hx with hx | hx
    · exact sp_mem hx
    · simp at hx; subst hx; exact hs
  · have hne : leftN L P r L.length ≠ 0 := fun e => hs ((left_zero h r).1 e)
    have hsp := leftN_span L P r L.length (Nat.le_refl _)
    have hz : ∀ j, j < L.length → (leftN L P r L.length).testBit (P.getD j 0) = false := fun j hj => by rw [leftN_bits h r _ (Nat.le_refl _) j hj, if_pos hj]
    generalize leftN L P r L.length = x at *
    obtain ⟨a, ha⟩ := low_exists hne
    have hn : a ∉ P := fun hp => by
      obtain ⟨j, hj, rfl⟩ := mem_getD hp
      have := hz j (by rw [h.len]; exact hj)
      rw [ha.1] at this; cases this
    obtain ⟨m, hm, h1, h2⟩ := cut_place h a hn
    refine ⟨putW L x a m, putP P a m, put_rref h x a m ha hz hm h1 h2, SameSp.trans ?_ (put_span x a m hm), fun k => absurd k hs, fun _ => putW_len L x a m hm⟩
    have liftL : ∀ y, ∀ v, Sp L v → Sp (L ++ [y]) v := fun y v hv => sp_sub (fun r hr => sp_mem (List.mem_append.2 (.inl hr))) hv
    refine SameSp.of (fun y hy => ?_) (fun y hy => ?_)
    · rcases List.mem_append.1 hy with hy | hy
      · exact sp_mem (List.mem_append.2 (.inl hy))
      · simp at hy; subst hy
        have := sp_xor (liftL x _ hsp) (sp_mem (show x ∈ L ++ [x] by simp))
        rw [xor_back] at this; exact this
    · rcases List.mem_append.1 hy with hy | hy
      · exact sp_mem (List.mem_append.2 (.inl hy))
      · simp at hy; subst hy
        have := sp_xor (sp_mem (show r ∈ L ++ [r] by simp)) (liftL r _ hsp)
        rw [← Nat.xor_assoc, Nat.xor_self, Nat.zero_xor] at this; exact this
/-- Whatever rows: reduced ones that span the same, not more than these. -/
theorem rref_exists (ms : List Nat) : ∃ L P, Rref L P ∧ SameSp ms L ∧ L.length ≤ ms.length := by
  have key : ∀ k, k ≤ ms.length → ∃ L P, Rref L P ∧ SameSp (ms.take k) L ∧ L.length ≤ k := by
    intro k
    induction k with
    | zero => exact fun _ => ⟨[], [], ⟨rfl, fun _ h => absurd h (Nat.not_lt_zero _), fun _ _ h => absurd h (Nat.not_lt_zero _), fun _ _ _ h => absurd h (Nat.not_lt_zero _)⟩, by simpa using SameSp.refl [], Nat.le_refl _⟩
    | succ k ih =>
      intro hk
      obtain ⟨L, P, h, hs, hl⟩ := ih (by omega)
      obtain ⟨M, Q, g, gs, g1, g2⟩ := rref_more h (ms.getD k 0)
      refine ⟨M, Q, g, SameSp.trans ?_ gs, ?_⟩
      · have e : ms.take (k + 1) = ms.take k ++ [ms.getD k 0] := by
          rw [List.take_succ_eq_append_getElem (by omega)]; simp [List.getD, show k < ms.length by omega]
        rw [e]
        refine SameSp.of (fun y hy => ?_) (fun y hy => ?_)
        · rcases List.mem_append.1 hy with hy | hy
          · exact sp_sub (fun r hr => sp_mem (List.mem_append.2 (.inl hr))) ((hs _).1 (sp_mem hy))
          · simp at hy; subst hy; exact sp_mem (by simp)
        · rcases List.mem_append.1 hy with hy | hy
          · exact sp_sub (fun r hr => sp_mem (List.mem_append.2 (.inl hr))) ((hs _).2 (sp_mem hy))
          · simp at hy; subst hy; exact sp_mem (by simp)
      · by_cases hsp : Sp L (ms.getD k 0)
        · rw [g1 hsp]; omega
        · rw [g2 hsp]; omega
  have := key ms.length (Nat.le_refl _)
  rwa [List.take_length] at this
end
end Go.Proofs.Ytmfhimeffmpgaaa
