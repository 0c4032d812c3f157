/- Parts: From, Bitrow2, Of, Bitrow3, Order1, RefXor, RefOf. -/
import Derived.Test.YtljooknodnblbaaDoorZa
import Derived.Deep.AppendLies
import Derived.Deep.DeepCutAuto
import Derived.Deep.RegionHeld3
import Derived.Deep.RegionWith
import Derived.Maps.AppendAt
import Derived.StillTailTactics
namespace Go.Proofs.YtljooknodnblbaaDoor
section
/- Contract of the reference's From: a row of bits. -/
set_option linter.unusedVariables false
set_option linter.unusedSimpArgs false
open Go.RowKit
def accM (b : Nat → Bool) (i : Nat) : Nat → Nat
  | 0 => 0
  | m + 1 => 2 * accM b i m + if b (64 * i + (63 - m)) then 1 else 0
theorem accM_lt (b : Nat → Bool) (i m : Nat) : accM b i m < 2 ^ m := by
  induction m with
  | zero => simp [accM]
  | succ m ih =>
    simp only [accM, Nat.pow_succ]
    split <;> omega
def bitsOf (zs : List Int) (j : Nat) : Bool := decide (j < zs.length) && zs.getD j 0 == 1
def fromL (b : Nat → Bool) (k : Nat) : List Nat := (List.range k).map fun i => accM b i 64
theorem fromL_lt (b : Nat → Bool) (k j : Nat) : (fromL b k).getD j 0 < 18446744073709551616 := by
  unfold fromL
  simp only [List.getD, List.getElem?_map, List.getElem?_range]
  by_cases h : j < k
  · simp [h]
    exact accM_lt b j 64
  · simp [h]
theorem fromL_succ (b : Nat → Bool) (k : Nat) : fromL b (k + 1) = fromL b k ++ [accM b k 64] := by simp [fromL, List.range_succ]
theorem fromL_len (b : Nat → Bool) (k : Nat) : (fromL b k).length = k := by simp [fromL]
theorem u64_info : (Tryd.prog.info? 75).map (fun i => (i.zero, i.size, i.bytes)) = some (some (.int .u64 0), 1, 8) := by kernel_rfl
set_option maxHeartbeats 1000000 in
theorem from_any (A : Option Addr) (l c : Nat) (zs : List Int) (w : World) (hz : Ints w A l zs) (hl : l ≤ 10000) :
    Calls Tryd.prog 26 #[.slice A l c] w (OneRow l (fromL (bitsOf zs) (nw l)) w) := by
  obtain ⟨i0, hi, hz0, hz1, hz2⟩ := info_parts u64_info
  have hnw : nw l ≤ 1000 := by unfold nw; omega
  have Q0 := Lib.hid ((Box.new w 45 #[.int .i64 0, .slice none 0 0]).alloc (.cells #[.int .i64 l, .slice none 0 0] 45))
  have q1 := Box.new (w.alloc (.cells #[.int .i64 0, .slice none 0 0] 45)) 45 #[.int .i64 l, .slice none 0 0]
  simp only [World.size_alloc] at q1
  have Q1 := Lib.hid q1
  have HW := Lib.hid (show Below w.heap.size w ((w.alloc (.cells #[.int .i64 0, .slice none 0 0] 45)).alloc (.cells #[.int .i64 l, .slice none 0 0] 45)) from ((Below.refl _ _).alloc (Nat.le_refl _) _).alloc (by simp) _)
  have HZ := Lib.hid hz
  clear hz q1
  have HI := Lib.hid hi
  have HZ0 := Lib.hid hz0
  have HZ1 := Lib.hid hz1
  have HZ2 := Lib.hid hz2
  clear hi hz0 hz1 hz2
  go_enter Tryd.func26, Tryd.ntmps26
  go_wp2
  go_loopw [4] (fun t wr => ∃ (i : Nat) (v : Value), i ≤ nw l ∧ t = .int .i64 i ∧ Box wr (w.heap.size + 1) 45 #[.int .i64 l, v] ∧ wr.ownsRow w.heap.size 75 1 v i ((fromL (bitsOf zs) i).map fun (x : Nat) => Value.int .u64 (x : Int)) ∧ Box wr w.heap.size 45 #[.int .i64 0, .slice none 0 0] ∧ Below w.heap.size w wr)
    (fun t _ => nw l - (intOf t).toNat)
  case atStart => exact ⟨0, _, by omega, rfl, Q1.out, World.ownsRow_nil _ _ _ _, Q0.out, HW.out⟩
  case round =>
    obtain ⟨i, v, hi, rfl, B1, hown, B0, hbel⟩ := hrel
    have R1 := Lib.hid B1
    have R0 := Lib.hid B0
    have HO := Lib.hid hown
    have HB := Lib.hid hbel
    clear B1 B0 hown hbel Q0 Q1 HW
    by_cases hlt : i < nw l
    · go_wp2_with fail
      refine (refWords_any l (by omega) _).mono ?_
      rintro e w' ⟨rfl, rfl⟩
      go_wp2
      go_loop [6, 5] (fun s x => ∃ k : Nat, k ≤ 64 ∧ s = .int .i64 ((k : Int) - 1) ∧ x = .int .u64 (accM (bitsOf zs) i (64 - k) : Nat)) (fun s _ => (intOf s + 1).toNat)
      case atStart => exact ⟨64, by omega, rfl, rfl⟩
      case round =>
        obtain ⟨k, hk, rfl, rfl⟩ := hrel
        cases k with
        | zero =>
          obtain ⟨A', c', rfl, hA'⟩ := own_form HO.out
          obtain ⟨a0, a1, f0, f1⟩ := R1.out.two
          have hz := R1.out.lt
          have hacc := accM_lt (bitsOf zs) i 64
          generalize hX : accM (bitsOf zs) i (64 - 0) = x at *
          have HX := Lib.hid hX
          clear hX
          have hi' := HI.out
          have hz0' := HZ0.out
          have hz1' := HZ1.out
          have hz2' := HZ2.out
          have hne : (75 : TypeId) ≠ 45 := by decide
          have X1 := Lib.hid (R1.out.alloc (.cells #[.int .u64 (x : Int)] 75))
          have X0 := Lib.hid (R0.out.alloc (.cells #[.int .u64 (x : Int)] 75))
          have XO := Lib.hid (HO.out.alloc (.cells #[.int .u64 (x : Int)] 75))
          have XB := Lib.hid (HB.out.alloc HB.out.size (.cells #[.int .u64 (x : Int)] 75))
          have N1 := Lib.hid (own_ne XO.out X1.out hne)
          have N0 := Lib.hid (own_ne XO.out X0.out hne)
          have hsz : w.heap.size ≤ (wr.alloc (.cells #[.int .u64 (x : Int)] 75)).heap.size := XB.out.size
          have HSZ := Lib.hid hsz
          have N2 := Lib.hid (fun k hk => (HO.out.lt k hk).1)
          clear hsz hne
          go_wp2_with (at_builtin; refine wpList_append_own _ rfl _ _ 43 rfl w.heap.size 75 i0 (.int .u64 0) 1 8 Tryd.underlying43 hi' hz0' hz1' hz2' rfl (by decide) _ _ _ rfl XO.out ⟨wr.heap.size, 0, none⟩ 1 1 [.int .u64 (x : Int)] rfl rfl (cell_one_new _ _ _) (by simp [Value.oneCell']) (by simp [maxLen]; omega) (by omega) HSZ.out ?_; intro v' w1 hown' hgrow _; obtain ⟨A2, c2, rfl, hA2⟩ := own_form hown'; have S1 := Lib.hid (X1.out.grown hgrow N1.out); have S0 := Lib.hid (X0.out.grown hgrow N0.out); have HC := Lib.hid (XB.out.grown hgrow HSZ.out N2.out); have HO2 := Lib.hid hown'; clear hown' hgrow hA2; obtain ⟨e0, e1, g0, g1⟩ := S1.out.two)
          go_roundw
          case rel =>
            refine ⟨i + 1, _, by omega, by go_num, S1.out.put 1 _, ?_, S0.out.far (p := ⟨w.heap.size + 1, 1, none⟩) (by simp) _, HC.out.setCell (p := ⟨w.heap.size + 1, 1, none⟩) (by simp) _⟩
            have h1 := HO2.out
            rw [fromL_succ, List.map_append]
            have h2 : (accM (bitsOf zs) i 64) = x := HX.out
            rw [List.map_cons, List.map_nil, h2]
            exact own_far h1 S1.out (by decide) 1 _
          case measure => simp [intOf] <;> omega
        | succ j =>
          rw [show (((j + 1 : Nat) : Int) - 1) = (j : Int) by omega]
          have hx := accM_lt (bitsOf zs) i (64 - (j + 1))
          have hp : 2 ^ (64 - (j + 1)) ≤ 2 ^ 63 := Nat.pow_le_pow_right (by omega) (by omega)
          have hx2 : accM (bitsOf zs) i (64 - (j + 1)) < 9223372036854775808 := by omega
          have HS : Hid (accM (bitsOf zs) i (64 - j) = 2 * accM (bitsOf zs) i (64 - (j + 1)) + if bitsOf zs (64 * i + j) then 1 else 0) := by
            show _ = _
            rw [show 64 - j = (64 - (j + 1)) + 1 by omega]
            simp only [accM]
            rw [show 63 - (64 - (j + 1)) = j by omega]
          clear hx hp
          generalize accM (bitsOf zs) i (64 - (j + 1)) = x at *
          by_cases hin : 64 * i + j < l
          · obtain ⟨b, o, rfl, hlb, hc⟩ := HZ.out.2.2 (by omega)
            have cz := (HB.out.cell (p := ⟨b, o + (64 * i + j), none⟩) hlb).trans (hc (64 * i + j) hin)
            have hin' : 64 * (i : Int) + j < l := by omega
            obtain ⟨y, ey⟩ : ∃ y, y = zs.getD (64 * i + j) 0 := ⟨_, rfl⟩
            rw [← ey] at cz
            have EY := Lib.hid ey
            clear ey hc
            by_cases hy : y = 1
            · have t1 : (y == 1) = true := by simpa using hy
              clear hy
              have HB1 : Hid (bitsOf zs (64 * i + j) = true) := by
                show bitsOf zs (64 * i + j) = true
                unfold bitsOf
                rw [← EY.out, t1, HZ.out.1]
                simpa using hin
              go_wp2
              go_round
              case rel => exact ⟨j, by omega, rfl, by rw [HS.out, HB1.out]; first | rfl | go_num⟩
              case measure => simp [intOf] <;> omega
            · have t1 : (y == 1) = false := by simpa using hy
              clear hy
              have HB1 : Hid (bitsOf zs (64 * i + j) = false) := by
                show bitsOf zs (64 * i + j) = false
                unfold bitsOf
                rw [← EY.out, t1]; simp
              go_wp2
              go_round
              case rel => exact ⟨j, by omega, rfl, by rw [HS.out, HB1.out]; first | rfl | go_num⟩
              case measure => simp [intOf] <;> omega
          · have hin' : ¬ 64 * (i : Int) + j < l := by omega
            have HB1 : Hid (bitsOf zs (64 * i + j) = false) := by
              show bitsOf zs (64 * i + j) = false
              unfold bitsOf
              rw [HZ.out.1]; simp; omega
            go_wp2
            go_round
            case rel => exact ⟨j, by omega, rfl, by rw [HS.out, HB1.out]; first | rfl | go_num⟩
            case measure => simp [intOf] <;> omega
    · obtain rfl : i = nw l := by omega
      obtain ⟨A', c', rfl, hA'⟩ := own_form HO.out
      obtain ⟨a0, a1, -, -⟩ := R1.out.two
      obtain ⟨b0, b1, f0, f1⟩ := R0.out.two
      go_wp2_with fail
      refine (refWords_any l (by omega) _).mono ?_
      rintro e w' ⟨rfl, rfl⟩
      go_wp2
      refine close_one Tryd.results26 rfl rfl R0.out.put2 Tryd.underlying45 rfl (by kernel_rfl) ⟨_, _, _, rfl, ?_, ?_⟩
      · exact (own_words HO.out (fromL_lt _ _)).put2 R0.out _ _
      · exact (HB.out.setCell (p := ⟨w.heap.size, 0, none⟩) (Nat.le_refl _) _).setCell (p := ⟨w.heap.size, 1, none⟩) (Nat.le_refl _) _
end
section
/- Contracts of bitrow.joined, Xor, And. -/
set_option linter.unusedVariables false
set_option linter.unusedSimpArgs false
open Go.RowKit
def zrow : Value := .agg #[.int .i64 0, .slice none 0 0]
set_option maxHeartbeats 400000 in
/-- What a call that answers a row and an error leaves. -/
def RowOut (n : Int) (zs : List Nat) (er : Int) (w : World) (e : Ending) (w' : World) : Prop :=
  ∃ A l c, e = .returned (.tuple #[.agg #[.int .i64 n, .slice A l c], .int .i64 er]) ∧ Words w' A l zs ∧ Below w.heap.size w w'
theorem rightB_len8 {n : Int} {us : List Nat} (h : rightB n us = true) {l : Nat} (e : us.length = l) : l ≤ 8 := by
  simp only [rightB, Bool.and_eq_true, beq_iff_eq] at h
  have hn := (lmb_iff n).1 h.1.1
  have := h.1.2
  unfold nw at this
  omega
theorem rightB_len {n : Int} {us vs : List Nat} (h : rightB n us = true) (h2 : rightB n vs = true) {l k : Nat} (e : us.length = l) (e2 : vs.length = k) : k = l := by
  simp only [rightB, Bool.and_eq_true, beq_iff_eq] at h h2
  have := h.1.2
  have := h2.1.2
  omega
theorem joined_arg (f : Nat) (n m : Int) (A B : Option Addr) (l c k d : Nat) (us vs : List Nat) (w : World) (hu : Words w A l us) (hv : Words w B k vs) (h : rightB n us = false ∨ rightB m vs = false) :
    Calls Tryd.prog 49 #[.agg #[.int .i64 n, .slice A l c], .agg #[.int .i64 m, .slice B k d], .func (.func f) #[] #[]] w (RowOut 0 [] 1 w) := by
  have q0 := ((Box.new w 45 #[.int .i64 n, .slice A l c]).alloc (.cells #[.int .i64 m, .slice B k d] 45)).alloc (.cells #[.int .i64 0, .slice none 0 0] 45)
  have q1 := (Box.new (w.alloc (.cells #[.int .i64 n, .slice A l c] 45)) 45 #[.int .i64 m, .slice B k d]).alloc (.cells #[.int .i64 0, .slice none 0 0] 45)
  have q2 := Box.new ((w.alloc (.cells #[.int .i64 n, .slice A l c] 45)).alloc (.cells #[.int .i64 m, .slice B k d] 45)) 45 #[.int .i64 0, .slice none 0 0]
  have hW : Below w.heap.size w (((w.alloc (.cells #[.int .i64 n, .slice A l c] 45)).alloc (.cells #[.int .i64 m, .slice B k d] 45)).alloc (.cells #[.int .i64 0, .slice none 0 0] 45)) := (((Below.refl _ _).alloc (Nat.le_refl _) _).alloc (by simp) _).alloc (by simp; omega) _
  simp only [World.size_alloc] at q1 q2
  have hu1 := hu.below hW
  have hv1 := hv.below hW
  have Q0 := Lib.hid q0
  have Q1 := Lib.hid q1
  have Q2 := Lib.hid q2
  have HW := Lib.hid hW
  have HU := Lib.hid hu1
  have HV := Lib.hid hv1
  clear q0 q1 q2 hW hu1 hv1 hu hv
  go_enter Tryd.func49, Tryd.ntmps49
  go_wp2_with fail
  refine (right_any n A l c us _ HU.out).mono ?_
  rintro e x1 ⟨rfl, hb⟩
  have Q0 := Lib.hid (Q0.out.keep hb)
  have Q1 := Lib.hid (Q1.out.keep hb)
  have Q2 := Lib.hid (Q2.out.keep hb)
  have HV := Lib.hid (HV.out.below hb)
  have HW := Lib.hid (chain HW.out hb)
  clear HU hb
  obtain ⟨c0, c1, -, -⟩ := Q1.out.two
  obtain ⟨r0, r1, r2, r3⟩ := Q2.out.two
  cases h1 : rightB n us with
  | false =>
    clear h1 h
    go_wp2
    refine close_cell Tryd.results49 rfl rfl rfl Q2.out.put2 Tryd.underlying45 rfl (by kernel_rfl) ⟨_, _, _, rfl, Words.nil _ _, ?_⟩
    exact (HW.out.setCell (p := ⟨w.heap.size + 1 + 1, 0, none⟩) (by simp; omega) _).setCell (p := ⟨w.heap.size + 1 + 1, 1, none⟩) (by simp; omega) _
  | true =>
    have h2 : rightB m vs = false := by simpa [h1] using h
    go_wp2_with fail
    refine (right_any m B k d vs _ HV.out).mono ?_
    rintro e x2 ⟨rfl, hb⟩
    have Q2 := Lib.hid (Q2.out.keep hb)
    have HW := Lib.hid (chain HW.out hb)
    clear hb c0 c1 r0 r1 r2 r3
    obtain ⟨r0, r1, r2, r3⟩ := Q2.out.two
    go_wp2
    refine close_cell Tryd.results49 rfl rfl rfl Q2.out.put2 Tryd.underlying45 rfl (by kernel_rfl) ⟨_, _, _, rfl, Words.nil _ _, ?_⟩
    exact (HW.out.setCell (p := ⟨w.heap.size + 1 + 1, 0, none⟩) (by simp; omega) _).setCell (p := ⟨w.heap.size + 1 + 1, 1, none⟩) (by simp; omega) _
set_option maxHeartbeats 400000 in
theorem joined_size (f : Nat) (n m : Int) (A B : Option Addr) (l c k d : Nat) (us vs : List Nat) (w : World) (hu : Words w A l us) (hv : Words w B k vs) (h1 : rightB n us = true) (h2 : rightB m vs = true) (hnm : n ≠ m) :
    Calls Tryd.prog 49 #[.agg #[.int .i64 n, .slice A l c], .agg #[.int .i64 m, .slice B k d], .func (.func f) #[] #[]] w (RowOut 0 [] 2 w) := by
  have q0 := ((Box.new w 45 #[.int .i64 n, .slice A l c]).alloc (.cells #[.int .i64 m, .slice B k d] 45)).alloc (.cells #[.int .i64 0, .slice none 0 0] 45)
  have q1 := (Box.new (w.alloc (.cells #[.int .i64 n, .slice A l c] 45)) 45 #[.int .i64 m, .slice B k d]).alloc (.cells #[.int .i64 0, .slice none 0 0] 45)
  have q2 := Box.new ((w.alloc (.cells #[.int .i64 n, .slice A l c] 45)).alloc (.cells #[.int .i64 m, .slice B k d] 45)) 45 #[.int .i64 0, .slice none 0 0]
  have hW : Below w.heap.size w (((w.alloc (.cells #[.int .i64 n, .slice A l c] 45)).alloc (.cells #[.int .i64 m, .slice B k d] 45)).alloc (.cells #[.int .i64 0, .slice none 0 0] 45)) := (((Below.refl _ _).alloc (Nat.le_refl _) _).alloc (by simp) _).alloc (by simp; omega) _
  simp only [World.size_alloc] at q1 q2
  have hu1 := hu.below hW
  have hv1 := hv.below hW
  have Q0 := Lib.hid q0
  have Q1 := Lib.hid q1
  have Q2 := Lib.hid q2
  have HW := Lib.hid hW
  have HU := Lib.hid hu1
  have HV := Lib.hid hv1
  have HU0 := Lib.hid hu
  have HV0 := Lib.hid hv
  clear q0 q1 q2 hW hu1 hv1 hu hv
  go_enter Tryd.func49, Tryd.ntmps49
  go_wp2_with fail
  refine (right_any n A l c us _ HU.out).mono ?_
  rintro e x1 ⟨rfl, hb⟩
  have Q0 := Lib.hid (Q0.out.keep hb)
  have Q1 := Lib.hid (Q1.out.keep hb)
  have Q2 := Lib.hid (Q2.out.keep hb)
  have HV := Lib.hid (HV.out.below hb)
  have HW := Lib.hid (chain HW.out hb)
  clear HU hb
  obtain ⟨c0, c1, -, -⟩ := Q1.out.two
  go_wp2_with fail
  refine (right_any m B k d vs _ HV.out).mono ?_
  rintro e x2 ⟨rfl, hb⟩
  have Q0 := Lib.hid (Q0.out.keep hb)
  have Q1 := Lib.hid (Q1.out.keep hb)
  have Q2 := Lib.hid (Q2.out.keep hb)
  have HW := Lib.hid (chain HW.out hb)
  clear hb c0 c1 HV
  obtain ⟨r0, r1, r2, r3⟩ := Q2.out.two
  obtain ⟨a0, a1, -, -⟩ := Q0.out.two
  obtain ⟨b0, b1, -, -⟩ := Q1.out.two
  have t : (n != m) = true := by simpa using hnm
  go_wp2
  refine close_cell Tryd.results49 rfl rfl rfl Q2.out.put2 Tryd.underlying45 rfl (by kernel_rfl) ⟨_, _, _, rfl, Words.nil _ _, ?_⟩
  exact (HW.out.setCell (p := ⟨w.heap.size + 1 + 1, 0, none⟩) (by simp; omega) _).setCell (p := ⟨w.heap.size + 1 + 1, 1, none⟩) (by simp; omega) _
theorem uint64_info : (Tryd.prog.info? 75).map (fun i => (i.zero, i.size, i.bytes)) = some (some (.int .u64 0), 1, 8) := by kernel_rfl
theorem make_any (n : Nat) (hn : n ≤ 1000000) (w : World) :
    (Instr.makeSlice 43 (.int .i64 (n : Int)) (.int .i64 (n : Int))).run Tryd.prog w = .ok (.slice (some ⟨w.heap.size, 0, none⟩) n n) (w.alloc (.cells (numsA (List.replicate n 0)) 75)) := by
  obtain ⟨i0, hi, hz0, hz1, hz2⟩ := info_parts uint64_info
  exact make_words _ _ i0 Tryd.underlying43 hi hz0 hz1 hz2 n hn w
def part (g : Nat → Nat → Nat) (us vs : List Nat) (k : Nat) : List Nat := (List.zipWith g us vs).take k ++ List.replicate (us.length - k) 0
theorem part_zero (g : Nat → Nat → Nat) (us vs : List Nat) : part g us vs 0 = List.replicate us.length 0 := by simp [part]
theorem part_len (g : Nat → Nat → Nat) (us vs : List Nat) (j k : Nat) (hu : us.length = k) (hv : vs.length = k) : (part g us vs j).length = k := by
  simp [part]; omega
theorem part_get (g : Nat → Nat → Nat) (us vs : List Nat) (j i k : Nat) (hu : us.length = k) (hv : vs.length = k) (hi : i < k) (hj : j ≤ k) : (part g us vs j).getD i 0 = if i < j then g (us.getD i 0) (vs.getD i 0) else 0 := by
  unfold part
  have hl : ((List.zipWith g us vs).take j).length = j := by simp; omega
  by_cases h : i < j
  · rw [if_pos h]
    have h1 : i < us.length := by omega
    have h2 : i < vs.length := by omega
    simp only [List.getD, List.getElem?_append]
    rw [if_pos (by omega)]
    simp [h, h1, h2, List.getElem?_zipWith]
  · rw [if_neg h]
    simp only [List.getD, List.getElem?_append]
    rw [if_neg (by omega), List.getElem?_replicate]
    split <;> rfl
theorem part_fresh (g : Nat → Nat → Nat) (us vs : List Nat) (j k : Nat) (hu : us.length = k) (hv : vs.length = k) (hj : j < k) : (numsA (part g us vs j))[j]? = some (.int .u64 0) := by
  rw [numsA_get _ _ (by rw [part_len g us vs j k hu hv]; exact hj), part_get g us vs j j k hu hv hj (by omega)]
  simp
theorem part_set (g : Nat → Nat → Nat) (us vs : List Nat) (j k : Nat) (hu : us.length = k) (hv : vs.length = k) (hj : j < k) : (part g us vs j).set j (g (us.getD j 0) (vs.getD j 0)) = part g us vs (j + 1) := by
  apply List.ext_getElem
  · rw [List.length_set, part_len g us vs j k hu hv, part_len g us vs (j + 1) k hu hv]
  · intro i h1 h2
    have hi : i < k := by rw [part_len g us vs (j + 1) k hu hv] at h2; exact h2
    have e1 := part_get g us vs j i k hu hv hi (by omega)
    have e2 := part_get g us vs (j + 1) i k hu hv hi (by omega)
    have l1 : i < (part g us vs j).length := by rw [part_len g us vs j k hu hv]; exact hi
    simp only [List.getD, List.getElem?_eq_getElem l1, Option.getD_some] at e1
    simp only [List.getD, List.getElem?_eq_getElem h2, Option.getD_some] at e2
    rw [List.getElem_set, e2]
    by_cases e : j = i
    · subst e; simp [List.getD]
    · rw [if_neg e, e1]
      have : (i < j) ↔ (i < j + 1) := by omega
      simp only [this, List.getD]
theorem part_full (g : Nat → Nat → Nat) (us vs : List Nat) (k : Nat) (hu : us.length = k) (hv : vs.length = k) : part g us vs k = List.zipWith g us vs := by
  unfold part
  rw [List.take_of_length_le (by simp; omega), hu]
  simp
theorem part_lt (us vs : List Nat) (j i : Nat) (hu : ∀ j, us.getD j 0 < 18446744073709551616) (hv : ∀ j, vs.getD j 0 < 18446744073709551616) : (part (· ^^^ ·) us vs j).getD i 0 < 18446744073709551616 := by
  unfold part
  simp only [List.getD, List.getElem?_append]
  split
  · rw [List.getElem?_take]
    split
    · rw [List.getElem?_zipWith]
      have h1 := hu i
      have h2 := hv i
      simp only [List.getD] at h1 h2
      cases e1 : us[i]? <;> cases e2 : vs[i]? <;> simp [e1, e2] at h1 h2 ⊢
      exact Nat.xor_lt_two_pow (n := 64) h1 h2
    · simp
  · rw [List.getElem?_replicate]
    split <;> simp
theorem xor1_any (x y : Nat) (hx : x < 18446744073709551616) (hy : y < 18446744073709551616) (w : World) : Calls Tryd.prog 50 #[.int .u64 x, .int .u64 y] w fun e w' => e = .returned (.int .u64 ((x ^^^ y : Nat) : Int)) ∧ w = w' := by
  go_enter Tryd.func50, Tryd.ntmps50
  go_wp2
  go_ret
  exact ⟨congrArg (fun z => Ending.returned (.int .u64 z)) (u64_xor_nat x y hx hy), rfl⟩
set_option maxHeartbeats 400000 in
theorem joined_xor (n : Int) (A B : Option Addr) (l c k d : Nat) (us vs : List Nat) (w : World) (hu : Words w A l us) (hv : Words w B k vs) (h1 : rightB n us = true) (h2 : rightB n vs = true) :
    Calls Tryd.prog 49 #[.agg #[.int .i64 n, .slice A l c], .agg #[.int .i64 n, .slice B k d], .func (.func 50) #[] #[]] w (RowOut n (List.zipWith (· ^^^ ·) us vs) 0 w) := by
  have hl : l ≤ 8 := rightB_len8 h1 hu.1
  have hkl : k = l := rightB_len h1 h2 hu.1 hv.1
  subst hkl
  have q0 := ((Box.new w 45 #[.int .i64 n, .slice A k c]).alloc (.cells #[.int .i64 n, .slice B k d] 45)).alloc (.cells #[.int .i64 0, .slice none 0 0] 45)
  have q1 := (Box.new (w.alloc (.cells #[.int .i64 n, .slice A k c] 45)) 45 #[.int .i64 n, .slice B k d]).alloc (.cells #[.int .i64 0, .slice none 0 0] 45)
  have q2 := Box.new ((w.alloc (.cells #[.int .i64 n, .slice A k c] 45)).alloc (.cells #[.int .i64 n, .slice B k d] 45)) 45 #[.int .i64 0, .slice none 0 0]
  have hW : Below w.heap.size w (((w.alloc (.cells #[.int .i64 n, .slice A k c] 45)).alloc (.cells #[.int .i64 n, .slice B k d] 45)).alloc (.cells #[.int .i64 0, .slice none 0 0] 45)) := (((Below.refl _ _).alloc (Nat.le_refl _) _).alloc (by simp) _).alloc (by simp; omega) _
  simp only [World.size_alloc] at q1 q2
  have hu1 := hu.below hW
  have hv1 := hv.below hW
  have Q0 := Lib.hid q0
  have Q1 := Lib.hid q1
  have Q2 := Lib.hid q2
  have HW := Lib.hid hW
  have HU := Lib.hid hu1
  have HV := Lib.hid hv1
  have HU0 := Lib.hid hu
  have HV0 := Lib.hid hv
  clear q0 q1 q2 hW hu1 hv1 hu hv
  go_enter Tryd.func49, Tryd.ntmps49
  go_wp2_with fail
  refine (right_any n A k c us _ HU.out).mono ?_
  rintro e x1 ⟨rfl, hb⟩
  have Q0 := Lib.hid (Q0.out.keep hb)
  have Q1 := Lib.hid (Q1.out.keep hb)
  have Q2 := Lib.hid (Q2.out.keep hb)
  have HV := Lib.hid (HV.out.below hb)
  have HW := Lib.hid (chain HW.out hb)
  clear HU hb
  obtain ⟨c0, c1, -, -⟩ := Q1.out.two
  go_wp2_with fail
  refine (right_any n B k d vs _ HV.out).mono ?_
  rintro e x2 ⟨rfl, hb⟩
  have Q0 := Lib.hid (Q0.out.keep hb)
  have Q1 := Lib.hid (Q1.out.keep hb)
  have Q2 := Lib.hid (Q2.out.keep hb)
  have HW := Lib.hid (chain HW.out hb)
  clear hb c0 c1 HV
  obtain ⟨r0, r1, r2, r3⟩ := Q2.out.two
  obtain ⟨a0, a1, -, -⟩ := Q0.out.two
  obtain ⟨b0, b1, -, -⟩ := Q1.out.two
  have t : (n != n) = false := by simp
  have hmk := make_any k (by omega) x2
  have HX2 := Lib.hid Q2.out.lt
  have Q3 := Lib.hid (Box.new x2 75 (numsA (List.replicate k 0)))
  have Q0 := Lib.hid (Q0.out.alloc (.cells (numsA (List.replicate k 0)) 75))
  have Q1 := Lib.hid (Q1.out.alloc (.cells (numsA (List.replicate k 0)) 75))
  have Q2 := Lib.hid (Q2.out.alloc (.cells (numsA (List.replicate k 0)) 75))
  have HW := Lib.hid (HW.out.alloc HW.out.size (.cells (numsA (List.replicate k 0)) 75))
  go_wp2
  clear hmk t h1 h2 a0 a1 b0 b1 r0 r1 r2 r3
  go_loopw [31] (fun i wr => ∃ j : Nat, j ≤ k ∧ i = .int .i64 j ∧ Box wr x2.heap.size 75 (numsA (part (· ^^^ ·) us vs j)) ∧ Box wr w.heap.size 45 #[.int .i64 n, .slice A k c] ∧ Box wr (w.heap.size + 1) 45 #[.int .i64 n, .slice B k d] ∧ Box wr (w.heap.size + 1 + 1) 45 #[.int .i64 0, .slice none 0 0] ∧ Below w.heap.size w wr)
    (fun i _ => k - (intOf i).toNat)
  case atStart => exact ⟨0, by omega, rfl, by rw [part_zero, HU0.out.1]; exact Q3.out, Q0.out, Q1.out, Q2.out, HW.out⟩
  case round =>
    obtain ⟨j, hj, rfl, B3, B0, B1, B2, hbel⟩ := hrel
    have R3 := Lib.hid B3
    have R0 := Lib.hid B0
    have R1 := Lib.hid B1
    have R2 := Lib.hid B2
    have HB := Lib.hid hbel
    clear B3 B0 B1 B2 hbel Q0 Q1 Q2 Q3 HW
    obtain ⟨a0, a1, -, -⟩ := R0.out.two
    obtain ⟨b0, b1, -, -⟩ := R1.out.two
    by_cases hlt : j < k
    · obtain ⟨p, o, rfl, lt1, hc1⟩ := HU0.out.2.2 (by omega)
      obtain ⟨p2, o2, rfl, lt2, hc2⟩ := HV0.out.2.2 (by omega)
      have cu := (HB.out.cell (p := ⟨p, o + j, none⟩) lt1).trans (hc1 j hlt)
      have cv := (HB.out.cell (p := ⟨p2, o2 + j, none⟩) lt2).trans (hc2 j hlt)
      have hx := HU0.out.2.1 j
      have hy := HV0.out.2.1 j
      obtain ⟨x, ex⟩ : ∃ x, x = us.getD j 0 := ⟨_, rfl⟩
      obtain ⟨y, ey⟩ : ∃ y, y = vs.getD j 0 := ⟨_, rfl⟩
      rw [← ex] at cu hx
      rw [← ey] at cv hy
      have hxy := Lib.hid (And.intro ex ey)
      clear ex ey
      have cg : wr.cell? ⟨x2.heap.size, j, none⟩ = some (.int .u64 0) := by rw [R3.out.cell j]; exact part_fresh _ us vs j k HU0.out.1 HV0.out.1 hlt
      have fg := R3.out.free j
      clear hc1 hc2
      have hz := HX2.out
      have n1 : ¬ x2.heap.size = w.heap.size := by omega
      have n2 : ¬ x2.heap.size = w.heap.size + 1 := by omega
      have n3 : ¬ x2.heap.size = p := by omega
      have n4 : ¬ x2.heap.size = p2 := by omega
      have n1' : ¬ w.heap.size = x2.heap.size := by omega
      have n2' : ¬ w.heap.size + 1 = x2.heap.size := by omega
      have n3' : ¬ p = x2.heap.size := by omega
      have n4' : ¬ p2 = x2.heap.size := by omega
      have n5' : ¬ w.heap.size + 1 + 1 = x2.heap.size := by omega
      go_wp2
      go_region_held3 (fun w' => w'.cell? ⟨w.heap.size, 1, none⟩ = some (.slice (some ⟨p, o, none⟩) k c) ∧ w'.cell? ⟨w.heap.size + 1, 1, none⟩ = some (.slice (some ⟨p2, o2, none⟩) k d) ∧ w'.cell? ⟨p, o + j, none⟩ = some (.int .u64 x) ∧ w'.cell? ⟨p2, o2 + j, none⟩ = some (.int .u64 y)) (go_keep) (first | (go_at_call 50; refine (xor1_any x y hx hy _).mono ?_; rintro e w' ⟨rfl, rfl⟩))
      have P1 := Lib.hid ((R3.out.put j (.int .u64 ((x ^^^ y : Nat) : Int))).drew)
      have P0 := Lib.hid ((R0.out.far (p := ⟨x2.heap.size, j, none⟩) n1' (.int .u64 ((x ^^^ y : Nat) : Int))).drew)
      have P2 := Lib.hid ((R1.out.far (p := ⟨x2.heap.size, j, none⟩) n2' (.int .u64 ((x ^^^ y : Nat) : Int))).drew)
      have P3 := Lib.hid ((R2.out.far (p := ⟨x2.heap.size, j, none⟩) n5' (.int .u64 ((x ^^^ y : Nat) : Int))).drew)
      have P4 := Lib.hid ((HB.out.setCell (p := ⟨x2.heap.size, j, none⟩) (by simp; omega) (.int .u64 ((x ^^^ y : Nat) : Int))).drew)
      clear cg fg cu cv n1 n2 n3 n4 n1' n2' n3' n4' a0 a1 b0 b1
      generalize (wr.setCell ⟨x2.heap.size, j, none⟩ (.int .u64 ((x ^^^ y : Nat) : Int))).drew = wn at *
      go_wp2
      go_roundw
      case rel => exact ⟨j + 1, by omega, by go_num, by have := P1.out; rw [numsA_set, hxy.out.1, hxy.out.2, part_set _ us vs j k HU0.out.1 HV0.out.1 hlt] at this; exact this, P0.out, P2.out, P3.out, P4.out⟩
      case measure => simp [intOf]; omega
    · obtain ⟨r0, r1, r2, r3⟩ := R2.out.two
      have hz := HX2.out
      have n5' : ¬ w.heap.size + 1 + 1 = x2.heap.size := by omega
      obtain rfl : j = k := by omega
      go_wp2
      refine close_cell Tryd.results49 rfl rfl rfl R2.out.put2 Tryd.underlying45 rfl (by kernel_rfl) ?_
      have hp : part (· ^^^ ·) us vs j = List.zipWith (· ^^^ ·) us vs := part_full _ us vs j HU0.out.1 HV0.out.1
      have hw := (((R3.out.far (p := ⟨w.heap.size + 1 + 1, 0, none⟩) (by simp; omega) (.int .i64 n)).far (p := ⟨w.heap.size + 1 + 1, 1, none⟩) (by simp; omega) (.slice (some ⟨x2.heap.size, 0, none⟩) j j))).words (fun i => part_lt us vs j i HU0.out.2.1 HV0.out.2.1)
      rw [part_len _ us vs j j HU0.out.1 HV0.out.1, hp] at hw
      exact ⟨_, _, _, rfl, hw, (HB.out.setCell (p := ⟨w.heap.size + 1 + 1, 0, none⟩) (by simp; omega) _).setCell (p := ⟨w.heap.size + 1 + 1, 1, none⟩) (by simp; omega) _⟩
end
section
/- Contracts of bitrow.New and bitrow.Of. -/
set_option linter.unusedVariables false
set_option linter.unusedSimpArgs false
open Go.RowKit
/-- A new row of words of the call's own. -/
def NewOut (n : Int) (zs : List Nat) (w : World) (e : Ending) (w' : World) : Prop :=
  ∃ g, e = .returned (.tuple #[.agg #[.int .i64 n, .slice (some ⟨g, 0, none⟩) zs.length zs.length], .int .i64 0]) ∧ Box w' g 75 (numsA zs) ∧ w.heap.size ≤ g ∧ Below w.heap.size w w'
theorem new_no (n : Int) (h : lmb n = false) (w : World) : Calls Tryd.prog 35 #[.int .i64 n] w (RowOut 0 [] 2 w) := by
  have q := Box.new w 45 #[.int .i64 0, .slice none 0 0]
  have Q := Lib.hid q
  clear q
  go_enter Tryd.func35, Tryd.ntmps35
  go_wp2_with fail
  refine (lengthMayBe_any n _).mono ?_
  rintro e w' ⟨rfl, rfl⟩
  go_wp2
  refine close_cell Tryd.results35 rfl rfl rfl Q.out Tryd.underlying45 rfl (by kernel_rfl) ⟨_, _, _, rfl, Words.nil _ _, (Below.refl _ _).alloc (Nat.le_refl _) _⟩
theorem new_yes (n : Nat) (h : lmb n = true) (w : World) : Calls Tryd.prog 35 #[.int .i64 n] w (NewOut n (List.replicate (nw n) 0) w) := by
  have hn := (lmb_iff n).1 h
  have hnw : nw n ≤ 8 := by unfold nw; omega
  have q := Box.new w 45 #[.int .i64 0, .slice none 0 0]
  have Q := Lib.hid q
  clear q
  have hmk := make_any (nw n) (by omega)
  go_enter Tryd.func35, Tryd.ntmps35
  go_wp2_with fail
  refine (lengthMayBe_any n _).mono ?_
  rintro e w' ⟨rfl, rfl⟩
  go_wp2_with fail
  refine (wordsFor_any n (by omega) _).mono ?_
  rintro e w' ⟨rfl, rfl⟩
  go_wp2
  have q := (Box.new w 45 #[.int .i64 n, .slice (some ⟨w.heap.size + 1, 0, none⟩) (nw n) (nw n)]).alloc (.cells (numsA (List.replicate (nw n) 0)) 75)
  have q2 := Box.new (w.alloc (.cells #[.int .i64 n, .slice (some ⟨w.heap.size + 1, 0, none⟩) (nw n) (nw n)] 45)) 75 (numsA (List.replicate (nw n) 0))
  simp only [World.size_alloc] at q2
  refine close_cell Tryd.results35 rfl rfl rfl q Tryd.underlying45 rfl (by kernel_rfl) ⟨w.heap.size + 1, by rw [List.length_replicate]; rfl, q2, by omega, ((Below.refl _ _).alloc (Nat.le_refl _) _).alloc (by simp) _⟩
def orBit (ws : List Nat) (p : Nat) : List Nat := ws.set (p / 64) (ws.getD (p / 64) 0 ||| 2 ^ (p % 64))
def ofBits (n : Nat) (ps : List Int) : List Nat := ps.foldl (fun ws p => orBit ws p.toNat) (List.replicate (nw n) 0)
def there (n : Int) (ps : List Int) : Bool := ps.all fun p => decide (0 ≤ p) && decide (p < n)
theorem orBit_length (ws : List Nat) (p : Nat) : (orBit ws p).length = ws.length := by simp [orBit]
theorem orBit_lt (ws : List Nat) (p : Nat) (h : ∀ j, ws.getD j 0 < 18446744073709551616) (j : Nat) : (orBit ws p).getD j 0 < 18446744073709551616 := by
  unfold orBit
  simp only [List.getD, List.getElem?_set]
  split
  · split
    · simp only [Option.getD_some]
      have := h (p / 64)
      exact Nat.or_lt_two_pow (n := 64) this (Nat.pow_lt_pow_right (by omega) (by omega))
    · simp
  · exact h j
theorem foldl_bits (ps : List Int) (ws : List Nat) (h : ∀ j, ws.getD j 0 < 18446744073709551616) : (ps.foldl (fun ws p => orBit ws p.toNat) ws).length = ws.length ∧ ∀ j, (ps.foldl (fun ws p => orBit ws p.toNat) ws).getD j 0 < 18446744073709551616 := by
  induction ps generalizing ws with
  | nil => exact ⟨rfl, h⟩
  | cons p ps ih =>
    have := ih (orBit ws p.toNat) (orBit_lt ws _ h)
    rw [orBit_length] at this
    exact this
theorem zeros_lt (n j : Nat) : (List.replicate n 0).getD j 0 < 18446744073709551616 := by
  simp [List.getD, List.getElem?_replicate]
  split <;> simp
theorem ofBits_len (n : Nat) (ps : List Int) : (ofBits n ps).length = nw n := by
  have := (foldl_bits ps (List.replicate (nw n) 0) (zeros_lt _)).1
  rw [List.length_replicate] at this
  exact this
theorem ofBits_lt (n : Nat) (ps : List Int) (j : Nat) : (ofBits n ps).getD j 0 < 18446744073709551616 := (foldl_bits ps _ (zeros_lt _)).2 j
theorem ofBits_snoc (n : Nat) (ps : List Int) (p : Int) : ofBits n (ps ++ [p]) = orBit (ofBits n ps) p.toNat := by simp [ofBits]
theorem take_one {α : Type} (l : List α) (k : Nat) (d : α) (h : k < l.length) : l.take (k + 1) = l.take k ++ [l.getD k d] := by
  rw [List.take_succ_eq_append_getElem h]; simp [List.getD, h]
set_option maxHeartbeats 400000 in
theorem of_no (n : Int) (A : Option Addr) (l c : Nat) (h : lmb n = false) (w : World) : Calls Tryd.prog 45 #[.int .i64 n, .slice A l c] w (RowOut 0 [] 2 w) := by
  have Q := Lib.hid (Box.new w 45 #[.int .i64 0, .slice none 0 0])
  go_enter Tryd.func45, Tryd.ntmps45
  go_wp2_with fail
  refine (new_no n h _).mono ?_
  rintro e x1 ⟨A1, l1, c1, rfl, hw, hb⟩
  have Q := Lib.hid (Q.out.keep hb)
  have HB := Lib.hid (chain ((Below.refl _ _).alloc (Nat.le_refl _) _) hb)
  have hz := Q.out.lt
  clear hb hw
  obtain ⟨r0, r1, r2, r3⟩ := Q.out.two
  go_wp2
  refine close_cell Tryd.results45 rfl rfl rfl (Q.out.put2.alloc _) Tryd.underlying45 rfl (by kernel_rfl) ⟨_, _, _, rfl, Words.nil _ _, ?_⟩
  exact (((HB.out.setCell (p := ⟨w.heap.size, 0, none⟩) (Nat.le_refl _) _).setCell (p := ⟨w.heap.size, 1, none⟩) (Nat.le_refl _) _)).alloc (by simp; omega) _
def ofN (n : Int) (ps : List Int) : Int := if lmb n && there n ps then n else 0
def ofW (n : Int) (ps : List Int) : List Nat := if lmb n && there n ps then ofBits n.toNat ps else []
def ofE (n : Int) (ps : List Int) : Int := if lmb n then if there n ps then 0 else 3 else 2
theorem or_val (x r : Nat) (hx : x < 18446744073709551616) (hr : r < 64) : bits BinOp.or IntKind.u64 (x : Int) (IntKind.u64.wrap (2 ^ r)) = ((x ||| 2 ^ r : Nat) : Int) := by
  have hp : 2 ^ r < 2 ^ 64 := Nat.pow_lt_pow_right (by omega) hr
  have e : (2 : Int) ^ r % 18446744073709551616 = ((2 ^ r : Nat) : Int) := by
    have : (2 : Int) ^ r = ((2 ^ r : Nat) : Int) := by simp
    rw [this]
    generalize 2 ^ r = p at *
    omega
  rw [IntKind.wrap_u64, e, u64_or_nat _ _ hx hp]
set_option maxHeartbeats 1000000 in
theorem of_yes (n : Nat) (A : Option Addr) (l c : Nat) (ps : List Int) (h : lmb n = true) (w : World) (hp : Ints w A l ps) (hl : l ≤ 9223372036854775807) : Calls Tryd.prog 45 #[.int .i64 n, .slice A l c] w (RowOut (ofN n ps) (ofW n ps) (ofE n ps) w) := by
  have Q := Lib.hid (Box.new w 45 #[.int .i64 0, .slice none 0 0])
  have HP := Lib.hid hp
  have HL := Lib.hid h
  have hn := (lmb_iff n).1 h
  have hnw : nw n ≤ 8 := by unfold nw; omega
  clear hp
  go_enter Tryd.func45, Tryd.ntmps45
  go_wp2_with fail
  refine (new_yes n h _).mono ?_
  clear h
  rintro e x1 ⟨g, rfl, hg, hgs, hb⟩
  have Q := Lib.hid (Q.out.keep hb)
  have HB := Lib.hid (chain ((Below.refl _ _).alloc (Nat.le_refl _) _) hb)
  have hz := Q.out.lt
  have hg1 := hg.lt
  have HG := Lib.hid hg
  rw [List.length_replicate]
  simp at hgs
  clear hb hg
  go_wp2
  have P0 := Lib.hid (Q.out.alloc (.cells #[.int .i64 n, .slice (some ⟨g, 0, none⟩) (nw n) (nw n)] 45))
  have P1 := Lib.hid (Box.new x1 45 #[.int .i64 n, .slice (some ⟨g, 0, none⟩) (nw n) (nw n)])
  have P2 := Lib.hid (HG.out.alloc (.cells #[.int .i64 n, .slice (some ⟨g, 0, none⟩) (nw n) (nw n)] 45))
  have P3 := Lib.hid (HB.out.alloc HB.out.size (.cells #[.int .i64 n, .slice (some ⟨g, 0, none⟩) (nw n) (nw n)] 45))
  clear Q HB HG
  go_loopw [21] (fun i wr => ∃ j : Nat, j ≤ l ∧ i = .int .i64 j ∧ there n (ps.take j) = true ∧ Box wr g 75 (numsA (ofBits n (ps.take j))) ∧ Box wr w.heap.size 45 #[.int .i64 0, .slice none 0 0] ∧ Box wr x1.heap.size 45 #[.int .i64 n, .slice (some ⟨g, 0, none⟩) (nw n) (nw n)] ∧ Below w.heap.size w wr)
    (fun i _ => l - (intOf i).toNat)
  case atStart => exact ⟨0, by omega, rfl, rfl, P2.out, P0.out, P1.out, P3.out⟩
  case round =>
    obtain ⟨j, hj, rfl, hth, B2, B0, B1, hbel⟩ := hrel
    have R0 := Lib.hid B0
    have R1 := Lib.hid B1
    have R2 := Lib.hid B2
    have HB := Lib.hid hbel
    have HT := Lib.hid hth
    clear B0 B1 B2 hbel hth P0 P1 P2 P3
    obtain ⟨a0, a1, f0, f1⟩ := R0.out.two
    obtain ⟨b0, b1, -, -⟩ := R1.out.two
    by_cases hlt : j < l
    · obtain ⟨q, o, rfl, lt1, hc1⟩ := HP.out.2.2 (by omega)
      have cu := (HB.out.cell (p := ⟨q, o + j, none⟩) lt1).trans (hc1 j hlt)
      obtain ⟨x, ex⟩ : ∃ x, x = ps.getD j 0 := ⟨_, rfl⟩
      rw [← ex] at cu
      have EX := Lib.hid ex
      clear ex hc1
      go_wp2_with fail
      refine (isPlace_any _ _ _ _ x _).mono ?_
      rintro e w2 ⟨rfl, hb⟩
      have S0 := Lib.hid (R0.out.keep hb)
      have S1 := Lib.hid (R1.out.keep hb)
      have S2 := Lib.hid (R2.out.keep hb)
      have HC := Lib.hid (chain HB.out hb)
      clear hb a0 a1 f0 f1 b0 b1 cu
      obtain ⟨a0, a1, f0, f1⟩ := S0.out.two
      obtain ⟨b0, b1, -, -⟩ := S1.out.two
      have htk : ps.take (j + 1) = ps.take j ++ [x] := by rw [EX.out]; exact take_one ps j 0 (by rw [HP.out.1]; exact hlt)
      have HTk := Lib.hid htk
      clear htk
      by_cases hx : 0 ≤ x ∧ x < n
      · obtain ⟨y, rfl⟩ := Int.eq_ofNat_of_zero_le hx.1
        have t0 : (decide (0 ≤ (y : Int)) && decide ((y : Int) < n)) = true := by simp; omega
        rw [t0]
        clear t0
        have hlen : (ofBits n (ps.take j)).length = nw n := ofBits_len n _
        have hy8 : y / 64 < nw n := by unfold nw; omega
        have hv := ofBits_lt n (ps.take j) (y / 64)
        have cg : w2.cell? ⟨g, y / 64, none⟩ = some (.int .u64 ((ofBits n (ps.take j)).getD (y / 64) 0 : Nat)) := by rw [S2.out.cell, numsA_get _ _ (by omega)]
        have fg := S2.out.free (y / 64)
        have P2 := Lib.hid ((S2.out.put (y / 64) (.int .u64 (((ofBits n (ps.take j)).getD (y / 64) 0 ||| 2 ^ (y % 64) : Nat) : Int))).drew)
        have HV := Lib.hid (or_val ((ofBits n (ps.take j)).getD (y / 64) 0) (y % 64) hv (by omega))
        have n1 : w.heap.size ≠ g := by omega
        have n2 : x1.heap.size ≠ g := by omega
        have P0 := Lib.hid ((S0.out.far (p := ⟨g, y / 64, none⟩) n1 (.int .u64 (((ofBits n (ps.take j)).getD (y / 64) 0 ||| 2 ^ (y % 64) : Nat) : Int))).drew)
        have P1 := Lib.hid ((S1.out.far (p := ⟨g, y / 64, none⟩) n2 (.int .u64 (((ofBits n (ps.take j)).getD (y / 64) 0 ||| 2 ^ (y % 64) : Nat) : Int))).drew)
        have P3 := Lib.hid ((HC.out.setCell (p := ⟨g, y / 64, none⟩) (by simp; omega) (.int .u64 (((ofBits n (ps.take j)).getD (y / 64) 0 ||| 2 ^ (y % 64) : Nat) : Int))).drew)
        have H4 : Hid (there n (ps.take (j + 1)) = true) := by
          show there n (ps.take (j + 1)) = true
          rw [HTk.out]
          have := HT.out
          simp only [there, List.all_append, Bool.and_eq_true] at this ⊢
          exact ⟨this, by simp; omega⟩
        have H5 : Hid ((numsA (ofBits n (ps.take j))).setIfInBounds (y / 64) (.int .u64 (((ofBits n (ps.take j)).getD (y / 64) 0 ||| 2 ^ (y % 64) : Nat) : Int)) = numsA (ofBits n (ps.take (j + 1)))) := by
          show _ = _
          rw [numsA_set, HTk.out, ofBits_snoc]; rfl
        generalize (ofBits n (ps.take j)).getD (y / 64) 0 = v at *
        go_wp2
        have g1 : (y : Int).tdiv 64 = ((y / 64 : Nat) : Int) := by rw [Int.tdiv_eq_ediv_of_nonneg (by omega)]; omega
        have g2 : (y : Int).tmod 64 = ((y % 64 : Nat) : Int) := by rw [Int.tmod_eq_emod_of_nonneg (by omega)]; omega
        have g3 : IntKind.i64.wrap ((y / 64 : Nat) : Int) = ((y / 64 : Nat) : Int) := IntWalk.i64_in _ (by omega)
        have g4 : (0 : Int) ≤ ((y / 64 : Nat) : Int) := by omega
        have g5 : ((y / 64 : Nat) : Int) < (nw n : Int) := by omega
        go_region
        rw [HV.out]
        clear g1 g2 g3 g4 g5 a0 a1 f0 f1 b0 b1 cg fg
        generalize (w2.setCell ⟨g, y / 64, none⟩ (.int .u64 ((v ||| 2 ^ (y % 64) : Nat) : Int))).drew = wn at *
        go_wp2
        go_roundw
        case rel => exact ⟨j + 1, by omega, by go_num, H4.out, by have := P2.out; rw [H5.out] at this; exact this, P0.out, P1.out, P3.out⟩
        case measure => simp [intOf]; omega
      · have t0 : (decide (0 ≤ x) && decide (x < n)) = false := by simp; omega
        rw [t0]
        clear t0
        have H4 : Hid (there n ps = false) := by
          show there n ps = false
          rw [← List.take_append_drop (j + 1) ps, HTk.out]
          have : (decide (0 ≤ x) && decide (x < n)) = false := by simp; omega
          simp [there, List.all_append, this]
        go_wp2
        refine close_cell Tryd.results45 rfl rfl rfl S0.out.put2 Tryd.underlying45 rfl (by kernel_rfl) ?_
        unfold ofN ofW ofE
        rw [HL.out, H4.out]
        exact ⟨_, _, _, rfl, Words.nil _ _, (HC.out.setCell (p := ⟨w.heap.size, 0, none⟩) (Nat.le_refl _) _).setCell (p := ⟨w.heap.size, 1, none⟩) (Nat.le_refl _) _⟩
    · obtain rfl : j = l := by omega
      have H4 : Hid (ps.take j = ps) := by
        show ps.take j = ps
        exact List.take_of_length_le (by rw [HP.out.1]; omega)
      go_wp2
      refine close_cell Tryd.results45 rfl rfl rfl R0.out.put2 Tryd.underlying45 rfl (by kernel_rfl) ?_
      have h5 := HT.out
      have h6 := R2.out
      rw [H4.out] at h5 h6
      unfold ofN ofW ofE
      rw [HL.out, h5]
      have n1 : g ≠ w.heap.size := by omega
      have hw := ((h6.far (p := ⟨w.heap.size, 0, none⟩) n1 (.int .i64 n)).far (p := ⟨w.heap.size, 1, none⟩) n1 (.slice (some ⟨g, 0, none⟩) (nw n) (nw n))).words (ofBits_lt n ps)
      rw [ofBits_len] at hw
      exact ⟨_, _, _, rfl, hw, (HB.out.setCell (p := ⟨w.heap.size, 0, none⟩) (Nat.le_refl _) _).setCell (p := ⟨w.heap.size, 1, none⟩) (Nat.le_refl _) _⟩
theorem of_any (n : Int) (A : Option Addr) (l c : Nat) (ps : List Int) (w : World) (hp : Ints w A l ps) (hl : l ≤ 9223372036854775807) : Calls Tryd.prog 45 #[.int .i64 n, .slice A l c] w (RowOut (ofN n ps) (ofW n ps) (ofE n ps) w) := by
  cases h : lmb n with
  | false =>
    unfold ofN ofW ofE
    rw [h]
    exact of_no n A l c h w
  | true =>
    obtain ⟨m, rfl⟩ := Int.eq_ofNat_of_zero_le ((lmb_iff n).1 h).1
    exact of_yes m A l c ps h w hp hl
end
section
/- Contracts of bitrow.And's join, and of bitrow.Xor and And. -/
set_option linter.unusedVariables false
set_option linter.unusedSimpArgs false
open Go.RowKit
theorem part_lt_and (us vs : List Nat) (j i : Nat) (hu : ∀ j, us.getD j 0 < 18446744073709551616) (hv : ∀ j, vs.getD j 0 < 18446744073709551616) : (part (· &&& ·) us vs j).getD i 0 < 18446744073709551616 := by
  unfold part
  simp only [List.getD, List.getElem?_append]
  split
  · rw [List.getElem?_take]
    split
    · rw [List.getElem?_zipWith]
      have h1 := hu i
      have h2 := hv i
      simp only [List.getD] at h1 h2
      cases e1 : us[i]? <;> cases e2 : vs[i]? <;> simp [e1, e2] at h1 h2 ⊢
      exact Nat.and_lt_two_pow (n := 64) _ h2
    · simp
  · rw [List.getElem?_replicate]
    split <;> simp
def joinN (n : Int) (us : List Nat) (m : Int) (vs : List Nat) : Int := if rightB n us && rightB m vs && n == m then n else 0
def joinW (g : Nat → Nat → Nat) (n : Int) (us : List Nat) (m : Int) (vs : List Nat) : List Nat := if rightB n us && rightB m vs && n == m then List.zipWith g us vs else []
def joinE (n : Int) (us : List Nat) (m : Int) (vs : List Nat) : Int := if rightB n us && rightB m vs then if n == m then 0 else 2 else 1
theorem joined_x (n m : Int) (A B : Option Addr) (l c k d : Nat) (us vs : List Nat) (w : World) (hu : Words w A l us) (hv : Words w B k vs) :
    Calls Tryd.prog 49 #[.agg #[.int .i64 n, .slice A l c], .agg #[.int .i64 m, .slice B k d], .func (.func 50) #[] #[]] w (RowOut (joinN n us m vs) (joinW (· ^^^ ·) n us m vs) (joinE n us m vs) w) := by
  unfold joinN joinW joinE
  cases h1 : rightB n us with
  | false => exact joined_arg _ n m A B l c k d us vs w hu hv (.inl h1)
  | true =>
    cases h2 : rightB m vs with
    | false => exact joined_arg _ n m A B l c k d us vs w hu hv (.inr h2)
    | true =>
      by_cases h : n = m
      · subst h
        have : (n == n) = true := by simp
        rw [this]
        exact joined_xor n A B l c k d us vs w hu hv h1 h2
      · have : (n == m) = false := by simpa using h
        rw [this]
        exact joined_size _ n m A B l c k d us vs w hu hv h1 h2 h
set_option maxHeartbeats 400000 in
theorem xor_any (n m : Int) (A B : Option Addr) (l c k d : Nat) (us vs : List Nat) (w : World) (hu : Words w A l us) (hv : Words w B k vs) :
    Calls Tryd.prog 37 #[.agg #[.int .i64 n, .slice A l c], .agg #[.int .i64 m, .slice B k d]] w (RowOut (joinN n us m vs) (joinW (· ^^^ ·) n us m vs) (joinE n us m vs) w) := by
  have q2 := Box.new ((w.alloc (.cells #[.int .i64 n, .slice A l c] 45)).alloc (.cells #[.int .i64 m, .slice B k d] 45)) 45 #[.int .i64 0, .slice none 0 0]
  have hW : Below w.heap.size w (((w.alloc (.cells #[.int .i64 n, .slice A l c] 45)).alloc (.cells #[.int .i64 m, .slice B k d] 45)).alloc (.cells #[.int .i64 0, .slice none 0 0] 45)) := (((Below.refl _ _).alloc (Nat.le_refl _) _).alloc (by simp) _).alloc (by simp; omega) _
  simp only [World.size_alloc] at q2
  have Q2 := Lib.hid q2
  have HW := Lib.hid hW
  have HU := Lib.hid (hu.below hW)
  have HV := Lib.hid (hv.below hW)
  clear q2 hW hu hv
  go_enter Tryd.func37, Tryd.ntmps37
  go_wp2_with fail
  refine (joined_x n m A B l c k d us vs _ HU.out HV.out).mono ?_
  rintro e x1 ⟨A1, l1, c1, rfl, hw, hb⟩
  have P2 := Lib.hid (Q2.out.keep hb)
  have HB := Lib.hid (chain HW.out hb)
  have HWo := Lib.hid hw
  clear hb hw
  obtain ⟨r0, r1, r2, r3⟩ := P2.out.two
  go_wp2
  refine close_cell Tryd.results37 rfl rfl rfl P2.out.put2 Tryd.underlying45 rfl (by kernel_rfl) ⟨_, _, _, rfl, ?_, ?_⟩
  · exact HWo.out.put2 P2.out _ _
  · exact (HB.out.setCell (p := ⟨w.heap.size + 1 + 1, 0, none⟩) (by simp; omega) _).setCell (p := ⟨w.heap.size + 1 + 1, 1, none⟩) (by simp; omega) _
end
section
/- Rows of one size that may be: what Xor and And of them are; the plain laws of both. -/
set_option linter.unusedVariables false
set_option linter.unusedSimpArgs false
open Go.RowKit
theorem right_len_eq {n : Int} {us : List Nat} (h : rightB n us = true) : us.length = nw n.toNat := by
  simp only [rightB, Bool.and_eq_true, beq_iff_eq] at h
  exact h.1.2
theorem right_lmb {n : Int} {us : List Nat} (h : rightB n us = true) : lmb n = true := by
  simp only [rightB, Bool.and_eq_true] at h
  exact h.1.1
theorem zip_last (g : Nat → Nat → Nat) (us vs : List Nat) (i : Nat) (hu : i < us.length) (hv : i < vs.length) : (List.zipWith g us vs).getD i 0 = g (us.getD i 0) (vs.getD i 0) := by
  simp [List.getD, List.getElem?_zipWith, hu, hv]
theorem right_zip (g : Nat → Nat → Nat) (hg : ∀ x y k, x / 2 ^ k = 0 → y / 2 ^ k = 0 → g x y / 2 ^ k = 0) {n : Int} {us vs : List Nat} (h1 : rightB n us = true) (h2 : rightB n vs = true) : rightB n (List.zipWith g us vs) = true := by
  have l1 := right_len_eq h1
  have l2 := right_len_eq h2
  have hl : (List.zipWith g us vs).length = us.length := by simp; omega
  simp only [rightB, Bool.and_eq_true, Bool.or_eq_true, beq_iff_eq] at h1 h2 ⊢
  refine ⟨⟨h1.1.1, by rw [hl]; exact h1.1.2⟩, ?_⟩
  rcases h1.2 with h | h
  · exact .inl h
  · rcases h2.2 with h' | h'
    · exact .inl h'
    · by_cases h0 : us.length = 0
      · left
        rw [l1] at h0
        unfold nw at h0
        omega
      · right
        rw [hl, zip_last g us vs _ (by omega) (by omega)]
        exact hg _ _ _ h (by rw [l2, ← l1] at h'; exact h')
theorem xor_div (x y k : Nat) (h : x / 2 ^ k = 0) (h' : y / 2 ^ k = 0) : (x ^^^ y) / 2 ^ k = 0 := by
  have p : 0 < 2 ^ k := Nat.two_pow_pos k
  rw [Nat.div_eq_zero_iff] at h h' ⊢
  right
  exact Nat.xor_lt_two_pow (by omega) (by omega)
theorem and_div (x y k : Nat) (h : x / 2 ^ k = 0) (_ : y / 2 ^ k = 0) : (x &&& y) / 2 ^ k = 0 := by
  have p : 0 < 2 ^ k := Nat.two_pow_pos k
  rw [Nat.div_eq_zero_iff] at h ⊢
  right
  have := Nat.and_le_left (n := x) (m := y)
  omega
def xorL (us vs : List Nat) : List Nat := List.zipWith (· ^^^ ·) us vs
def andL (us vs : List Nat) : List Nat := List.zipWith (· &&& ·) us vs
theorem right_xor {n : Int} {us vs : List Nat} (h1 : rightB n us = true) (h2 : rightB n vs = true) : rightB n (xorL us vs) = true := right_zip _ xor_div h1 h2
theorem right_and {n : Int} {us vs : List Nat} (h1 : rightB n us = true) (h2 : rightB n vs = true) : rightB n (andL us vs) = true := right_zip _ and_div h1 h2
theorem xor_ok (n : Int) (A B : Option Addr) (l c k d : Nat) (us vs : List Nat) (w : World) (hu : Words w A l us) (hv : Words w B k vs) (h1 : rightB n us = true) (h2 : rightB n vs = true) :
    Calls Tryd.prog 37 #[.agg #[.int .i64 n, .slice A l c], .agg #[.int .i64 n, .slice B k d]] w (RowOut n (xorL us vs) 0 w) := by
  have h := xor_any n n A B l c k d us vs w hu hv
  unfold joinN joinW joinE at h
  rw [h1, h2] at h
  simpa [xorL] using h
theorem joinE_ok {n m : Int} {us vs : List Nat} (h : joinE n us m vs = 0) : rightB n us = true ∧ rightB m vs = true ∧ n = m := by
  unfold joinE at h
  split at h
  · rename_i h1
    rw [Bool.and_eq_true] at h1
    split at h
    · rename_i h2
      exact ⟨h1.1, h1.2, by simpa using h2⟩
    · omega
  · omega
theorem joinE_no {n m : Int} {us vs : List Nat} (g : Nat → Nat → Nat) (h : joinE n us m vs ≠ 0) : joinN n us m vs = 0 ∧ joinW g n us m vs = [] := by
  unfold joinE at h
  unfold joinN joinW
  by_cases h1 : (rightB n us && rightB m vs) = true
  · rw [if_pos h1] at h
    by_cases h2 : (n == m) = true
    · rw [if_pos h2] at h; omega
    · rw [if_neg (by simp [h2]), if_neg (by simp [h2])]; exact ⟨rfl, rfl⟩
  · rw [if_neg (by simp [h1]), if_neg (by simp [h1])]; exact ⟨rfl, rfl⟩
theorem xorL_comm (us vs : List Nat) : xorL us vs = xorL vs us := by
  unfold xorL
  rw [List.zipWith_comm]
  congr 1
  funext x y
  exact Nat.xor_comm _ _
theorem andL_comm (us vs : List Nat) : andL us vs = andL vs us := by
  unfold andL
  rw [List.zipWith_comm]
  congr 1
  funext x y
  exact Nat.and_comm _ _
theorem xorL_assoc (us vs zs : List Nat) : xorL (xorL us vs) zs = xorL us (xorL vs zs) := by
  induction us generalizing vs zs with
  | nil => simp [xorL]
  | cons x us ih =>
    cases vs with
    | nil => simp [xorL]
    | cons y vs =>
      cases zs with
      | nil => simp [xorL]
      | cons z zs =>
        have := ih vs zs
        simp only [xorL, List.zipWith_cons_cons] at this ⊢
        rw [this, Nat.xor_assoc]
theorem andL_xor (us vs zs : List Nat) : andL us (xorL vs zs) = xorL (andL us vs) (andL us zs) := by
  induction us generalizing vs zs with
  | nil => simp [xorL, andL]
  | cons x us ih =>
    cases vs with
    | nil => simp [xorL, andL]
    | cons y vs =>
      cases zs with
      | nil => simp [xorL, andL]
      | cons z zs =>
        have := ih vs zs
        simp only [xorL, andL, List.zipWith_cons_cons] at this ⊢
        rw [this, Nat.and_xor_distrib_left]
end
section
/- Contracts of the reference's Xor and And. -/
set_option linter.unusedVariables false
set_option linter.unusedSimpArgs false
open Go.RowKit
theorem int_info : (Tryd.prog.info? 3).map (fun i => (i.zero, i.size, i.bytes)) = some (some (.int .i64 0), 1, 8) := by kernel_rfl
def bitSums (g : Nat → Nat → Nat) (us vs : List Nat) (i : Nat) : List Int := (List.range i).map fun j => ((g (bitAt us j) (bitAt vs j) : Nat) : Int)
theorem bitSums_succ (g : Nat → Nat → Nat) (us vs : List Nat) (i : Nat) : bitSums g us vs (i + 1) = bitSums g us vs i ++ [((g (bitAt us i) (bitAt vs i) : Nat) : Int)] := by simp [bitSums, List.range_succ]
theorem bitSums_len (g : Nat → Nat → Nat) (us vs : List Nat) (i : Nat) : (bitSums g us vs i).length = i := by simp [bitSums]
theorem bitSums_get (g : Nat → Nat → Nat) (us vs : List Nat) (i j : Nat) (h : j < i) : (bitSums g us vs i).getD j 0 = ((g (bitAt us j) (bitAt vs j) : Nat) : Int) := by simp [bitSums, List.getD, h]
theorem bitSums_lt (us vs : List Nat) (i j : Nat) : -9223372036854775808 ≤ (bitSums (fun x y => (x + y) % 2) us vs i).getD j 0 ∧ (bitSums (fun x y => (x + y) % 2) us vs i).getD j 0 ≤ 9223372036854775807 := by
  by_cases h : j < i
  · rw [bitSums_get _ us vs i j h]; omega
  · have hn : (bitSums (fun x y => (x + y) % 2) us vs i)[j]? = none := List.getElem?_eq_none (by rw [bitSums_len]; omega)
    simp only [List.getD, hn, Option.getD_none]
    omega
theorem accM_bit (b : Nat → Bool) (i m j : Nat) (hm : m ≤ 64) : (accM b i m).testBit j = (decide (j < m) && b (64 * i + (64 - m + j))) := by
  induction m generalizing j with
  | zero => simp [accM]
  | succ m ih =>
    simp only [accM]
    cases j with
    | zero =>
      rw [Nat.testBit_zero]
      have e : 64 - (m + 1) + 0 = 63 - m := by omega
      rw [e]
      cases b (64 * i + (63 - m)) <;> simp <;> omega
    | succ j =>
      rw [Nat.testBit_succ]
      have e : (2 * accM b i m + if b (64 * i + (63 - m)) = true then 1 else 0) / 2 = accM b i m := by split <;> omega
      rw [e, ih j (by omega)]
      have e2 : 64 - m + j = 64 - (m + 1) + (j + 1) := by omega
      rw [e2]
      have e3 : decide (j < m) = decide (j + 1 < m + 1) := by simp
      rw [e3]
theorem bitAt_test (us : List Nat) (i : Nat) : (bitAt us i == 1) = (us.getD (i / 64) 0).testBit (i % 64) := by
  rw [Nat.testBit_eq_decide_div_mod_eq]; rfl
/-- A row that may be has no bits behind its last. -/
theorem right_bits {n : Nat} {us : List Nat} (h : rightB n us = true) (i : Nat) (hi : n ≤ i) (hl : i < 64 * us.length) : bitAt us i = 0 := by
  have hlm := right_lmb h
  have hle := right_len_eq h
  rw [Int.toNat_natCast] at hle
  rcases bitAt_le us i with h0 | h1
  · exact h0
  · have := not_right_of_bit n us.length i us hlm rfl hle hi hl h1
    rw [h] at this
    cases this
theorem from_zip (g : Nat → Nat → Nat) (f : Nat → Nat → Nat) (hgf : ∀ x y k, (f x y).testBit k = (g (if x.testBit k then 1 else 0) (if y.testBit k then 1 else 0) == 1)) (h00 : g 0 0 = 0) (hf : ∀ x y, x < 18446744073709551616 → y < 18446744073709551616 → f x y < 18446744073709551616) (n : Nat) (us vs : List Nat) (h1 : rightB n us = true) (h2 : rightB n vs = true)
    (hu : ∀ j, us.getD j 0 < 18446744073709551616) (hv : ∀ j, vs.getD j 0 < 18446744073709551616) :
    fromL (bitsOf (bitSums g us vs n)) (nw n) = List.zipWith f us vs := by
  have l1 := right_len_eq h1
  have l2 := right_len_eq h2
  rw [Int.toNat_natCast] at l1 l2
  apply List.ext_getElem
  · rw [fromL_len]; simp; omega
  · intro i hi1 hi2
    have hi : i < nw n := by rw [fromL_len] at hi1; exact hi1
    have iu : i < us.length := by omega
    have iv : i < vs.length := by omega
    simp only [fromL, List.getElem_map, List.getElem_range, List.getElem_zipWith]
    have eu : us[i] = us.getD i 0 := by simp [List.getD, iu]
    have ev : vs[i] = vs.getD i 0 := by simp [List.getD, iv]
    rw [eu, ev]
    apply Nat.eq_of_testBit_eq
    intro j
    rw [accM_bit _ _ _ _ (Nat.le_refl _)]
    by_cases hj : j < 64
    · have e0 : 64 * i + (64 - 64 + j) = 64 * i + j := by omega
      have ed : (64 * i + j) / 64 = i := by omega
      have em : (64 * i + j) % 64 = j := by omega
      have bu : (if (us.getD i 0).testBit j then 1 else 0) = bitAt us (64 * i + j) := by
        have := bitAt_test us (64 * i + j)
        rw [ed, em] at this
        rw [← this]
        rcases bitAt_le us (64 * i + j) with h | h <;> rw [h] <;> rfl
      have bv : (if (vs.getD i 0).testBit j then 1 else 0) = bitAt vs (64 * i + j) := by
        have := bitAt_test vs (64 * i + j)
        rw [ed, em] at this
        rw [← this]
        rcases bitAt_le vs (64 * i + j) with h | h <;> rw [h] <;> rfl
      rw [e0, hgf, bu, bv]
      have hd : decide (j < 64) = true := by simpa using hj
      rw [hd, Bool.true_and]
      unfold bitsOf
      rw [bitSums_len]
      by_cases hn : 64 * i + j < n
      · rw [bitSums_get g us vs n _ hn]
        have : decide (64 * i + j < n) = true := by simpa using hn
        rw [this, Bool.true_and]
        rw [Bool.eq_iff_iff]
        simp only [beq_iff_eq]
        omega
      · have z1 := right_bits h1 (64 * i + j) (by omega) (by omega)
        have z2 := right_bits h2 (64 * i + j) (by omega) (by omega)
        have : decide (64 * i + j < n) = false := by simpa using hn
        rw [this, Bool.false_and, z1, z2, h00]; rfl
    · have hd : decide (j < 64) = false := by simpa using hj
      rw [hd, Bool.false_and]
      symm
      exact Nat.testBit_lt_two_pow (Nat.lt_of_lt_of_le (hf _ _ (hu i) (hv i)) (show 2 ^ 64 ≤ 2 ^ j from Nat.pow_le_pow_right (by omega) (by omega)))
theorem from_xor (n : Nat) (us vs : List Nat) (h1 : rightB n us = true) (h2 : rightB n vs = true) (hu : ∀ j, us.getD j 0 < 18446744073709551616) (hv : ∀ j, vs.getD j 0 < 18446744073709551616) :
    fromL (bitsOf (bitSums (fun x y => (x + y) % 2) us vs n)) (nw n) = xorL us vs := by
  refine from_zip _ _ ?_ rfl (fun x y hx hy => Nat.xor_lt_two_pow (n := 64) hx hy) n us vs h1 h2 hu hv
  intro x y k
  rw [Nat.testBit_xor]
  cases x.testBit k <;> cases y.testBit k <;> rfl
theorem bitSums_lt_and (us vs : List Nat) (i j : Nat) : -9223372036854775808 ≤ (bitSums (fun x y => x * y) us vs i).getD j 0 ∧ (bitSums (fun x y => x * y) us vs i).getD j 0 ≤ 9223372036854775807 := by
  by_cases h : j < i
  · rw [bitSums_get _ us vs i j h]
    rcases bitAt_le us j with h1 | h1 <;> rcases bitAt_le vs j with h2 | h2 <;> rw [h1, h2] <;> decide
  · have hn : (bitSums (fun x y => x * y) us vs i)[j]? = none := List.getElem?_eq_none (by rw [bitSums_len]; omega)
    simp only [List.getD, hn, Option.getD_none]
    omega
theorem from_and (n : Nat) (us vs : List Nat) (h1 : rightB n us = true) (h2 : rightB n vs = true) (hu : ∀ j, us.getD j 0 < 18446744073709551616) (hv : ∀ j, vs.getD j 0 < 18446744073709551616) :
    fromL (bitsOf (bitSums (fun x y => x * y) us vs n)) (nw n) = andL us vs := by
  refine from_zip _ _ ?_ rfl (fun x y hx hy => Nat.and_lt_two_pow (n := 64) _ hy) n us vs h1 h2 hu hv
  intro x y k
  rw [Nat.testBit_and]
  cases x.testBit k <;> cases y.testBit k <;> rfl
end
section
/- Contracts of the reference's In, There and Of. -/
set_option linter.unusedVariables false
set_option linter.unusedSimpArgs false
open Go.RowKit
def hasB (zs : List Int) (x : Int) : Bool := zs.contains x
def ofInts (zs : List Int) (n : Nat) : List Int := (List.range n).map fun (j : Nat) => if hasB zs (j : Int) then 1 else 0
theorem ofInts_succ (zs : List Int) (n : Nat) : ofInts zs (n + 1) = ofInts zs n ++ [if hasB zs (n : Int) then 1 else 0] := by simp [ofInts, List.range_succ]
theorem ofInts_len (zs : List Int) (n : Nat) : (ofInts zs n).length = n := by simp [ofInts]
theorem ofInts_get (zs : List Int) (n j : Nat) (h : j < n) : (ofInts zs n).getD j 0 = if hasB zs (j : Int) then 1 else 0 := by simp [ofInts, List.getD, h]
theorem ofInts_lt (zs : List Int) (n j : Nat) : -9223372036854775808 ≤ (ofInts zs n).getD j 0 ∧ (ofInts zs n).getD j 0 ≤ 9223372036854775807 := by
  by_cases h : j < n
  · rw [ofInts_get zs n j h]
    split <;> omega
  · have hn : (ofInts zs n)[j]? = none := List.getElem?_eq_none (by rw [ofInts_len]; omega)
    simp only [List.getD, hn, Option.getD_none]
    omega
theorem orBit_test (ws : List Nat) (p i j : Nat) (hi : i < ws.length) : ((orBit ws p).getD i 0).testBit j = ((ws.getD i 0).testBit j || (p / 64 == i && p % 64 == j)) := by
  unfold orBit
  by_cases h : p / 64 = i
  · subst h
    have e : (ws.set (p / 64) (ws.getD (p / 64) 0 ||| 2 ^ (p % 64))).getD (p / 64) 0 = ws.getD (p / 64) 0 ||| 2 ^ (p % 64) := by
      simp [List.getD, hi]
    rw [e, Nat.testBit_or, Nat.testBit_two_pow]
    simp
    rfl
  · have e : (ws.set (p / 64) (ws.getD (p / 64) 0 ||| 2 ^ (p % 64))).getD i 0 = ws.getD i 0 := by
      simp [List.getD, List.getElem?_set, h]
    have h' : (p / 64 == i) = false := by simpa using h
    rw [e, h']; simp
theorem foldl_test (ps : List Int) (ws : List Nat) (i j : Nat) (hi : i < ws.length) : ((ps.foldl (fun ws p => orBit ws p.toNat) ws).getD i 0).testBit j = ((ws.getD i 0).testBit j || ps.any fun p => p.toNat / 64 == i && p.toNat % 64 == j) := by
  induction ps generalizing ws with
  | nil => simp
  | cons p ps ih =>
    rw [List.foldl_cons, ih (orBit ws p.toNat) (by rw [orBit_length]; exact hi), orBit_test ws p.toNat i j hi, List.any_cons, Bool.or_assoc]
theorem ofBits_test (n : Nat) (ps : List Int) (i j : Nat) (hi : i < nw n) : ((ofBits n ps).getD i 0).testBit j = ps.any fun p => p.toNat / 64 == i && p.toNat % 64 == j := by
  unfold ofBits
  rw [foldl_test ps _ i j (by simpa using hi)]
  have e : (List.replicate (nw n) 0).getD i 0 = 0 := by simp [List.getD, hi]
  rw [e]; simp
theorem from_of (n : Nat) (zs : List Int) (ht : there n zs = true) : fromL (bitsOf (ofInts zs n)) (nw n) = ofBits n zs := by
  apply List.ext_getElem
  · rw [fromL_len, ofBits_len]
  · intro i hi1 hi2
    have hi : i < nw n := by rw [fromL_len] at hi1; exact hi1
    have eo : (ofBits n zs)[i] = (ofBits n zs).getD i 0 := by simp [List.getD, hi2]
    simp only [fromL, List.getElem_map, List.getElem_range]
    rw [eo]
    apply Nat.eq_of_testBit_eq
    intro j
    rw [accM_bit _ _ _ _ (Nat.le_refl _), ofBits_test n zs i j hi]
    have hall : ∀ p ∈ zs, 0 ≤ p ∧ p < n := by
      intro p hp
      have := (List.all_eq_true.1 ht) p hp
      simpa using this
    by_cases hj : j < 64
    · have hd : decide (j < 64) = true := by simpa using hj
      rw [hd, Bool.true_and, show 64 * i + (64 - 64 + j) = 64 * i + j by omega]
      rw [Bool.eq_iff_iff, List.any_eq_true]
      unfold bitsOf
      rw [ofInts_len, Bool.and_eq_true]
      constructor
      · rintro ⟨h1, h2⟩
        have h1' : 64 * i + j < n := by simpa using h1
        rw [ofInts_get zs n _ h1'] at h2
        by_cases hc : hasB zs ((64 * i + j : Nat) : Int) = true
        · refine ⟨((64 * i + j : Nat) : Int), by simpa [hasB] using hc, ?_⟩
          rw [Int.toNat_natCast]
          simp
          omega
        · rw [if_neg hc] at h2
          simp at h2
      · rintro ⟨p, hp, hb⟩
        have hr := hall p hp
        obtain ⟨q, rfl⟩ := Int.eq_ofNat_of_zero_le hr.1
        rw [Int.toNat_natCast] at hb
        simp at hb
        have e : 64 * i + j = q := by omega
        have hq : q < n := by omega
        rw [e]
        refine ⟨by simpa using hq, ?_⟩
        rw [ofInts_get zs n q hq]
        have hc : hasB zs (q : Int) = true := by simpa [hasB] using hp
        rw [if_pos hc]; rfl
    · have hd : decide (j < 64) = false := by simpa using hj
      rw [hd, Bool.false_and]
      symm
      rw [List.any_eq_false]
      intro p _
      simp
      intro _
      omega
end
end Go.Proofs.YtljooknodnblbaaDoor
