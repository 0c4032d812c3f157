/- Contracts of layer 6: Shuffle. -/
import Derived.Test.YtbgikkeiapbghaaDoorRnd4
import Derived.RegionTactic
import Derived.BigRegion
namespace Go.Proofs.YtbgikkeiapbghaaDoor
open Go.RowKit
theorem below_any (s n : Nat) (hs : s < 18446744073709551616) (h1 : 1 ≤ n) (h2 : n ≤ 512) (w : World) :
    Calls Tryd.prog 42 #[.int .u64 s, .int .i64 n] w fun e w' => e = .returned (.tuple #[.int .u64 ((belowN n s).1 : Nat), .int .i64 ((belowN n s).2 : Nat), .int .i64 0]) ∧ Below w.heap.size w w' := callsIn_wide.1 (below_in s n hs h1 h2 w)
/-- A row of small numbers at the head of a block, free to be written. -/
def NatsAt (w : World) (g : Nat) (zs : List Nat) : Prop := ∀ j, j < zs.length → w.cell? ⟨g, j, none⟩ = some (.int .i64 (zs.getD j 0 : Nat)) ∧ w.frozen? ⟨g, j, none⟩ = false
theorem NatsAt.put {w : World} {g : Nat} {zs : List Nat} (h : NatsAt w g zs) (i x : Nat) (hi : i < zs.length) : NatsAt (w.setCell ⟨g, i, none⟩ (.int .i64 (x : Int))) g (zs.set i x) := by
  intro j hj
  rw [List.length_set] at hj
  obtain ⟨h1, h2⟩ := h j hj
  refine ⟨?_, by rw [World.frozen?_setCell]; exact h2⟩
  by_cases e : i = j
  · subst e
    rw [World.cell?_setCell_same' _ _ _ (by rw [h1]; rfl)]
    simp [List.getD, hj]
  · rw [World.cell?_setCell_other _ _ _ _ (by intro x; injection x; omega), h1]
    simp [List.getD, List.getElem?_set, e]
theorem NatsAt.drew {w : World} {g : Nat} {zs : List Nat} (h : NatsAt w g zs) : NatsAt w.drew g zs := h
theorem NatsAt.keep {w w' : World} {g : Nat} {zs : List Nat} (h : NatsAt w g zs) {B : Nat} (hb : Below B w w') (hg : g < B) : NatsAt w' g zs := fun j hj =>
  ⟨(hb.cell (p := ⟨g, j, none⟩) hg).trans (h j hj).1, (hb.frozen (p := ⟨g, j, none⟩) hg).trans (h j hj).2⟩
theorem make_nats {P : Program} (t e : TypeId) (i : TypeInfo) (ht : P.underlying t = some (.slice e)) (hi : P.info? e = some i) (hz : i.zero = some (.int .i64 0)) (hs : i.size = 1) (hb : i.bytes = 8) (n : Nat) (hn : n ≤ 1000000) (w : World) :
    (Instr.makeSlice t (.int .i64 (n : Int)) (.int .i64 (n : Int))).run P w = .ok (.slice (some ⟨w.heap.size, 0, none⟩) n n) (w.alloc (.cells (Array.replicate n (.int .i64 0)) e)) := by
  have hr := run_make (P := P) w t e i _ ht hi hz .i64 .i64 n n (by omega) (by omega) (by rw [hb]; omega) (by omega)
  simp only [Int.toNat_natCast, hs, Nat.mul_one] at hr
  rw [hr]
  have : madeCells (Value.int .i64 0).cells n = Array.replicate n (Value.int .i64 0) := by
    apply Array.toList_inj.1
    have := toList_madeCells_one (Value.int .i64 0) n
    simpa [Value.cells] using this
  rw [this]
theorem made_nats (w : World) (e : TypeId) (n : Nat) : NatsAt (w.alloc (.cells (Array.replicate n (.int .i64 0)) e)) w.heap.size (List.replicate n 0) := by
  intro j hj
  have hj' : j < n := by simpa using hj
  have hb := Box.new w e (Array.replicate n (.int .i64 0))
  exact ⟨by rw [hb.cell j]; simp [List.getD, hj'], hb.free j⟩
/-- Numbers in an order. -/
def swapN (l : List Nat) (i j : Nat) : List Nat := (l.set i (l.getD j 0)).set j (l.getD i 0)
theorem swapN_len (l : List Nat) (i j : Nat) : (swapN l i j).length = l.length := by simp [swapN]
def shufF : Nat → Nat → List Nat → Nat × List Nat
  | 0, s, l => (s, l)
  | i + 1, s, l => shufF i (belowN (i + 2) s).1 (swapN l (i + 1) (belowN (i + 2) s).2)
def shufN (n s : Nat) : Nat × List Nat := shufF (n - 1) s (List.range n)
theorem int_infoR : (Tryd.prog.info? 3).map (fun i => (i.zero, i.size, i.bytes)) = some (some (.int .i64 0), 1, 8) := by kernel_rfl
theorem shuffle_no (s n : Int) (h : ¬ (1 ≤ n ∧ n ≤ 512)) (w : World) : Calls Tryd.prog 33 #[.int .u64 s, .int .i64 n] w fun e w' => e = .returned (.tuple #[.int .u64 0, .slice none 0 0, .int .i64 2]) ∧ Below w.heap.size w w' := by
  have H := Lib.hid (bound_any n)
  rw [decide_eq_false h] at H
  go_enter Tryd.func33, Tryd.ntmps33
  go_wp2_with fail
  refine (H.out _).mono ?_
  rintro e w1 ⟨rfl, rfl⟩
  go_wp2_with fail
  go_ret3
  exact ⟨rfl, Below.refl _ _⟩
/-- The first numbers in their places. -/
def fillN (n k : Nat) : List Nat := (List.range n).map fun j => if j < k then j else 0
theorem fillN_len (n k : Nat) : (fillN n k).length = n := by simp [fillN]
theorem fillN_zero (n : Nat) : fillN n 0 = List.replicate n 0 := by
  apply List.ext_getElem
  · simp [fillN]
  · intro i h1 h2; simp [fillN]
theorem fillN_full (n : Nat) : fillN n n = List.range n := by
  apply List.ext_getElem
  · simp [fillN]
  · intro i h1 h2
    have : i < n := by simpa [fillN] using h1
    simp [fillN, this]
theorem fillN_succ (n k : Nat) (h : k < n) : (fillN n k).set k k = fillN n (k + 1) := by
  apply List.ext_getElem
  · simp [fillN]
  · intro i h1 h2
    rw [List.getElem_set]
    by_cases e : k = i
    · subst e; simp [fillN]
    · rw [if_neg e]
      simp only [fillN, List.getElem_map, List.getElem_range]
      by_cases hi : i < k
      · rw [if_pos hi, if_pos (by omega)]
      · rw [if_neg hi, if_neg (by omega)]
theorem shufF_step (i s : Nat) (l : List Nat) (h : 1 ≤ i) : shufF i s l = shufF (i - 1) (belowN (i + 1) s).1 (swapN l i (belowN (i + 1) s).2) := by
  obtain ⟨p, rfl⟩ : ∃ p, i = p + 1 := ⟨i - 1, by omega⟩
  rfl
theorem NatsAt.swap {w : World} {g : Nat} {zs : List Nat} (h : NatsAt w g zs) (i j : Nat) (hi : i < zs.length) (hj : j < zs.length) :
    NatsAt (((w.setCell ⟨g, i, none⟩ (.int .i64 (zs.getD j 0 : Nat))).setCell ⟨g, j, none⟩ (.int .i64 (zs.getD i 0 : Nat))).drew) g (swapN zs i j) :=
  (h.put i _ hi).put j _ (by simpa using hj)
/-- What Shuffle hands back. -/
def ShufOut (n s : Nat) (w : World) (e : Ending) (w' : World) : Prop :=
  ∃ g, e = .returned (.tuple #[.int .u64 ((shufN n s).1 : Nat), .slice (some ⟨g, 0, none⟩) n n, .int .i64 0]) ∧ NatsAt w' g (shufN n s).2 ∧ (shufN n s).2.length = n ∧ w.heap.size ≤ g ∧ g < w'.heap.size ∧ Below w.heap.size w w'
set_option maxRecDepth 100000 in
set_option maxHeartbeats 2000000 in
theorem shuffle_yes (s n : Nat) (hs : s < 18446744073709551616) (h1 : 1 ≤ n) (h2 : n ≤ 512) (w : World) : Calls Tryd.prog 33 #[.int .u64 s, .int .i64 n] w (ShufOut n s w) := by
  have H := Lib.hid (bound_any n)
  rw [decide_eq_true (p := 1 ≤ (n : Int) ∧ (n : Int) ≤ 512) (by omega)] at H
  obtain ⟨i0, hi, hz0, hz1, hz2⟩ := info_parts int_infoR
  have hmk := make_nats (P := Tryd.prog) 23 3 i0 Tryd.underlying23 hi hz0 hz1 hz2 n (by omega) w
  have HNA := Lib.hid (made_nats w 3 n)
  have HB := Lib.hid ((Below.refl w.heap.size w).alloc (Nat.le_refl _) (.cells (Array.replicate n (.int .i64 0)) 3))
  have HL := Lib.hid (Box.new w 3 (Array.replicate n (.int .i64 0))).lt
  go_enter Tryd.func33, Tryd.ntmps33
  go_wp2_with fail
  refine (H.out _).mono ?_
  rintro e w1 ⟨rfl, rfl⟩
  go_wp2_with fail
  generalize w.alloc (.cells (Array.replicate n (.int .i64 0)) 3) = W0 at *
  clear hmk
  have HSH := Lib.hid (show shufF (n - 1) s (List.range n) = shufN n s from rfl)
  generalize hRR : shufN n s = R at HSH
  have HRR := Lib.hid hRR
  clear hRR
  go_loopw [18] (fun i wr => ∃ k : Nat, k ≤ n ∧ i = .int .i64 k ∧ NatsAt wr w.heap.size (fillN n k) ∧ Below w.heap.size w wr ∧ Hid (w.heap.size < wr.heap.size)) (fun i _ => n - (intOf i).toNat)
  case atStart => exact ⟨0, by omega, rfl, by rw [fillN_zero]; exact HNA.out, HB.out, HL⟩
  case round =>
    obtain ⟨k, hk, rfl, hna, hbel, hlt⟩ := hrel
    have HN := Lib.hid hna
    have HBe := Lib.hid hbel
    clear hna hbel
    by_cases hkn : k < n
    · have hkn' : (k : Int) < n := by omega
      obtain ⟨c, f⟩ := HN.out k (by rw [fillN_len]; omega)
      have P1 := Lib.hid (HN.out.put k k (by rw [fillN_len]; omega))
      have P2 := Lib.hid (HBe.out.setCell (p := ⟨w.heap.size, k, none⟩) (Nat.le_refl _) (.int .i64 (k : Int)))
      go_wp2
      go_roundw
      case rel => exact ⟨k + 1, by omega, by go_num, by rw [← fillN_succ n k hkn]; exact P1.out, P2.out, by have := hlt.out; exact Lib.hid (by simpa [World.setCell] using this)⟩
      case measure => simp [intOf] <;> omega
    · obtain rfl : k = n := by omega
      rw [fillN_full] at HN
      have HLT := hlt
      clear hlt
      have hn1 : IntKind.i64.wrap ((k : Int) - 1) = (k : Int) - 1 := IntWalk.i64_in _ (by omega)
      go_wp2
      clear hn1
      go_loopw [0, 28] (fun st i wr2 => ∃ (d t : Nat) (zs : List Nat), d ≤ k - 1 ∧ i = .int .i64 d ∧ st = .int .u64 t ∧ t < 18446744073709551616 ∧ zs.length = k ∧ Hid (NatsAt wr2 w.heap.size zs) ∧ Hid (Below w.heap.size w wr2) ∧ Hid (w.heap.size < wr2.heap.size) ∧ Hid (shufF (k - 1 - d) t zs = R)) (fun _ i _ => k - (intOf i).toNat)
      case atStart => exact ⟨0, s, List.range k, by omega, rfl, rfl, hs, by simp, HN, HBe, HLT, HSH⟩
      case round =>
        obtain ⟨d, t, zs, hd, rfl, rfl, ht, hzl, hna, hbel, hlt, hsh⟩ := hrel
        have HZL := Lib.hid hzl
        clear hzl
        by_cases hdk : d < k - 1
        · have hdk' : (d : Int) < (k : Int) - 1 := by omega
          obtain ⟨i, hi⟩ : ∃ i, i = k - 1 - d := ⟨_, rfl⟩
          have e1 : (k : Int) - 1 - (d : Int) = (i : Int) := by omega
          have hi1 : 1 ≤ i := by omega
          have hik : i < k := by omega
          have hik' : (i : Int) < (k : Int) := by omega
          rw [← hi, shufF_step i t zs hi1] at hsh
          have HI := Lib.hid hi
          clear hi
          go_wp2_with fail
          rw [show (i : Int) + 1 = ((i + 1 : Nat) : Int) from rfl]
          refine (below_any t (i + 1) ht (by omega) (by omega) _).mono ?_
          rintro e w2 ⟨rfl, hb⟩
          have hbl := belowN_lt (i + 1) t (by omega) ht
          have HNA := Lib.hid (hna.out.keep hb hlt.out)
          have HB2 := Lib.hid (hbel.out.trans (hb.mono (Nat.le_of_lt hlt.out)))
          have HL2 := Lib.hid (Nat.lt_of_lt_of_le hlt.out hb.size)
          clear hb hna hbel hlt
          generalize belowN (i + 1) t = bb at *
          obtain ⟨t', j⟩ := bb
          simp only at hbl
          obtain ⟨ht', hj⟩ := hbl
          have hjk : j < k := by omega
          have hjk' : (j : Int) < (k : Int) := by omega
          obtain ⟨c1, f1⟩ := HNA.out i (by rw [HZL.out]; exact hik)
          obtain ⟨c2, f2⟩ := HNA.out j (by rw [HZL.out]; exact hjk)
          have P1 := Lib.hid (HNA.out.swap i j (by rw [HZL.out]; exact hik) (by rw [HZL.out]; exact hjk))
          have P2 := Lib.hid (((HB2.out.setCell (p := ⟨w.heap.size, i, none⟩) (Nat.le_refl _) (.int .i64 (zs.getD j 0 : Nat))).setCell (p := ⟨w.heap.size, j, none⟩) (Nat.le_refl _) (.int .i64 (zs.getD i 0 : Nat))).drew)
          have P3 := Lib.hid (show (swapN zs i j).length = k by rw [swapN_len, HZL.out])
          have P4 := Lib.hid (show shufF (k - 1 - (d + 1)) t' (swapN zs i j) = R by rw [show k - 1 - (d + 1) = i - 1 by have := HI.out; omega]; exact hsh.out)
          have P5 := Lib.hid (show w.heap.size < (((w2.setCell ⟨w.heap.size, i, none⟩ (.int .i64 (zs.getD j 0 : Nat))).setCell ⟨w.heap.size, j, none⟩ (.int .i64 (zs.getD i 0 : Nat))).drew).heap.size by have := HL2.out; simpa [World.setCell] using this)
          clear hsh e1 HNA
          generalize swapN zs i j = zs' at *
          generalize zs.getD i 0 = x at *
          generalize zs.getD j 0 = y at *
          by_cases hij : i = j
          · subst hij
            have hxy : y = x := by
              rw [c1] at c2
              injection c2 with c2
              injection c2 with _ c2
              omega
            subst hxy
            clear c2 f2
            go_wp2_with fail
            go_region
            go_wp2_with fail
            go_roundw
            case rel => exact ⟨d + 1, t', zs', by omega, by go_num, rfl, ht', P3.out, P1, P2, P5, P4⟩
            case measure => simp [intOf] <;> omega
          · have hji : j ≠ i := fun e => hij e.symm
            go_wp2_with fail
            go_region
            go_wp2_with fail
            go_roundw
            case rel => exact ⟨d + 1, t', zs', by omega, by go_num, rfl, ht', P3.out, P1, P2, P5, P4⟩
            case measure => simp [intOf] <;> omega
        · have hdk' : ¬ (d : Int) < (k : Int) - 1 := by omega
          rw [show k - 1 - d = 0 by omega] at hsh
          have HR := Lib.hid (show R = (t, zs) from hsh.out.symm)
          go_wp2_with fail
          go_ret3
          unfold ShufOut
          rw [HRR.out, HR.out]
          exact ⟨_, rfl, hna.out, HZL.out, Nat.le_refl _, hlt.out, hbel.out⟩
end Go.Proofs.YtbgikkeiapbghaaDoor
