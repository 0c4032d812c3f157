/- Parts: BackM, MmM, OnesF, RefPl, RefNums, TellsX, Ms1, Ms2, Ms3, Ms4, FewT, Pick, HTail, PkX, RefTx, Ms5, BtA. -/
import Derived.Test.YtdfmogcgangdnaaDoorZh
import Derived.BigRegion
import Derived.Deep.RegionHeld
import Derived.IntWalk
import Derived.OpenShut
import Derived.OrdersHeld
import Derived.RegionTactic
import Derived.StillTail
import Derived.Test.YtdfmogcgangdnaaDoorChecked
namespace Go.Proofs.YtdfmogcgangdnaaDoor
section
/- Rows and their places: a row is that of its places; counts. No program. -/
set_option linter.unusedVariables false
set_option linter.unusedSimpArgs false
theorem plcZ_mem (us : List Nat) (m : Nat) (z : Int) (h : z ∈ plcZ (plcN us m)) : ∃ p : Nat, z = p ∧ p < m ∧ bitAt us p = 1 := by
  obtain ⟨p, hp, rfl⟩ := List.mem_map.1 h
  have := List.mem_filter.1 hp
  exact ⟨p, rfl, by simpa using this.1, by simpa using this.2⟩
theorem there_plc (us : List Nat) (N : Nat) : there (N : Int) (plcZ (plcN us N)) = true := by
  simp only [there, List.all_eq_true]
  intro z hz
  obtain ⟨p, rfl, h1, -⟩ := plcZ_mem us N z hz
  simp; omega
theorem ofBits_plc (us : List Nat) (N : Nat) (hr : rightB (N : Int) us = true) (hlt : ∀ j, us.getD j 0 < 18446744073709551616) : ofBits N (plcZ (plcN us N)) = us := by
  have hlen := right_len_eq hr
  rw [Int.toNat_natCast] at hlen
  apply List.ext_getElem (by rw [ofBits_len, hlen])
  intro i h1 h2
  have g1 : (ofBits N (plcZ (plcN us N)))[i] = (ofBits N (plcZ (plcN us N))).getD i 0 := by simp [List.getD, h1]
  have g2 : us[i] = us.getD i 0 := by simp [List.getD, h2]
  rw [g1, g2]
  rw [ofBits_len] at h1
  apply Nat.eq_of_testBit_eq
  intro j
  rw [ofBits_test N _ i j h1]
  by_cases hj : j < 64
  · rw [Bool.eq_iff_iff, ← bitAt_bit us i j hj]
    simp only [List.any_eq_true, Bool.and_eq_true, beq_iff_eq]
    constructor
    · rintro ⟨z, hz, e1, e2⟩
      obtain ⟨p, rfl, -, h4⟩ := plcZ_mem us N z hz
      rw [Int.toNat_natCast] at e1 e2
      rw [← h4]; congr 1; omega
    · intro h
      have hN : 64 * i + j < N := by
        refine Nat.lt_of_not_le fun hle => ?_
        have := right_bits hr (64 * i + j) hle (by omega)
        omega
      refine ⟨((64 * i + j : Nat) : Int), List.mem_map.2 ⟨64 * i + j, List.mem_filter.2 ⟨by simpa using hN, by simpa using h⟩, rfl⟩, ?_, ?_⟩
      · rw [Int.toNat_natCast]; omega
      · rw [Int.toNat_natCast]; omega
  · have : (us.getD i 0).testBit j = false := Nat.testBit_lt_two_pow (Nat.lt_of_lt_of_le (hlt i) (show 2 ^ 64 ≤ 2 ^ j from Nat.pow_le_pow_right (by omega) (by omega)))
    rw [this, List.any_eq_false]
    intro z _
    simp; omega
theorem zip_bit (f : Nat → Nat → Nat) (us vs : List Nat) (p : Nat) (hu : p / 64 < us.length) (hv : p / 64 < vs.length) : (bitAt (List.zipWith f us vs) p == 1) = (f (us.getD (p / 64) 0) (vs.getD (p / 64) 0)).testBit (p % 64) := by
  rw [bitAt_test, zip_last f us vs _ hu hv]
theorem count_join (us vs : List Nat) (hl : us.length = vs.length) (m : Nat) (hm : m ≤ 64 * us.length) :
    (plcN us m).length + (plcN vs m).length = (plcN (xorL us vs) m).length + 2 * (plcN (andL us vs) m).length := by
  induction m with
  | zero => simp [plcN]
  | succ m ih =>
    have ih := ih (by omega)
    have hx : (bitAt (xorL us vs) m == 1) = _ := zip_bit (· ^^^ ·) us vs m (by omega) (by omega)
    have ha : (bitAt (andL us vs) m == 1) = _ := zip_bit (· &&& ·) us vs m (by omega) (by omega)
    rw [Nat.testBit_xor, ← bitAt_test, ← bitAt_test] at hx
    rw [Nat.testBit_and, ← bitAt_test, ← bitAt_test] at ha
    rw [plcN_succ, plcN_succ, plcN_succ, plcN_succ]
    simp only [List.length_append]
    have b1 := bitAt_le us m
    have b2 := bitAt_le vs m
    have b3 := bitAt_le (xorL us vs) m
    have b4 := bitAt_le (andL us vs) m
    rcases b1 with b1 | b1 <;> rcases b2 with b2 | b2 <;> rcases b3 with b3 | b3 <;> rcases b4 with b4 | b4 <;> simp [b1, b2, b3, b4] at hx ha ⊢ <;> omega
theorem xor_backL (us vs : List Nat) (hl : us.length = vs.length) : xorL (xorL us vs) vs = us := by
  apply List.ext_getElem
  · simp [xorL, hl]
  · intro i h1 h2
    simp [xorL, Nat.xor_assoc]
end
section
/- Mathematics of a product of matrices. -/
set_option linter.unusedVariables false
set_option linter.unusedSimpArgs false
theorem bitAt_xor (us vs : List Nat) (p : Nat) (hu : p / 64 < us.length) (hv : p / 64 < vs.length) : bitAt (xorL us vs) p = (bitAt us p + bitAt vs p) % 2 := by
  have hx : (bitAt (xorL us vs) p == 1) = _ := zip_bit (· ^^^ ·) us vs p hu hv
  rw [Nat.testBit_xor, ← bitAt_test, ← bitAt_test] at hx
  have b1 := bitAt_le us p
  have b2 := bitAt_le vs p
  have b3 := bitAt_le (xorL us vs) p
  rcases b1 with b1 | b1 <;> rcases b2 with b2 | b2 <;> rcases b3 with b3 | b3 <;> simp [b1, b2, b3] at hx ⊢
theorem bitAt_zeros (n p : Nat) : bitAt (List.replicate n 0) p = 0 := by
  unfold bitAt
  have : (List.replicate n 0).getD (p / 64) 0 = 0 := by
    simp only [List.getD, List.getElem?_replicate]; split <;> rfl
  rw [this]; simp
theorem right_zeros (n : Nat) (h : lmb (n : Int) = true) : rightB (n : Int) (List.replicate (nw n) 0) = true := by
  simp only [rightB, h, Int.toNat_natCast, List.length_replicate, Bool.true_and, beq_self_eq_true]
  have : (List.replicate (nw n) 0).getD (nw n - 1) 0 = 0 := by
    simp only [List.getD, List.getElem?_replicate]; split <;> rfl
  rw [this]; simp
theorem xorL_lt (us vs : List Nat) (hu : ∀ j, us.getD j 0 < 18446744073709551616) (hv : ∀ j, vs.getD j 0 < 18446744073709551616) (j : Nat) : (xorL us vs).getD j 0 < 18446744073709551616 := by
  unfold xorL
  simp only [List.getD, List.getElem?_zipWith]
  have h1 := hu j
  have h2 := hv j
  simp only [List.getD] at h1 h2
  cases e1 : us[j]? <;> cases e2 : vs[j]? <;> simp [e1, e2] at h1 h2 ⊢
  exact Nat.xor_lt_two_pow (n := 64) h1 h2
/-- Two rows that may be, of the same bits, are the same. -/
theorem right_ext {n : Nat} {us vs : List Nat} (h1 : rightB (n : Int) us = true) (h2 : rightB (n : Int) vs = true) (hu : ∀ j, us.getD j 0 < 18446744073709551616) (hv : ∀ j, vs.getD j 0 < 18446744073709551616) (h : ∀ i, i < n → bitAt us i = bitAt vs i) : us = vs := by
  rw [← ofBits_plc us n h1 hu, ← ofBits_plc vs n h2 hv]
  have : plcN us n = plcN vs n := by
    unfold plcN
    apply List.filter_congr
    intro p hp
    rw [h p (by simpa using hp)]
  rw [this]
/-- The xor of those rows that stand at some places. -/
def xrowsF (ms : List (Int × List Nat)) (acc : List Nat) (ps : List Nat) : List Nat := ps.foldl (fun acc p => xorL acc (ms.getD p (0, [])).2) acc
def xrows (n : Nat) (ms : List (Int × List Nat)) (ps : List Nat) : List Nat := xrowsF ms (List.replicate (nw n) 0) ps
theorem xrows_snoc (n : Nat) (ms : List (Int × List Nat)) (ps : List Nat) (p : Nat) : xrows n ms (ps ++ [p]) = xorL (xrows n ms ps) (ms.getD p (0, [])).2 := by simp [xrows, xrowsF]
theorem xrowsF_right {n : Nat} {ms : List (Int × List Nat)} (hr : rightM n ms = true) (ps : List Nat) (hp : ∀ p ∈ ps, p < ms.length) (acc : List Nat) (ha : rightB (n : Int) acc = true) : rightB (n : Int) (xrowsF ms acc ps) = true := by
  induction ps generalizing acc with
  | nil => exact ha
  | cons p ps ih => exact ih (fun q hq => hp q (List.mem_cons_of_mem _ hq)) _ (right_xor ha (rightM_at hr p (hp p (List.mem_cons_self ..))).2)
theorem xrowsF_lt {ms : List (Int × List Nat)} (hz : ∀ i j, ((ms.getD i (0, [])).2).getD j 0 < 18446744073709551616) (ps : List Nat) (acc : List Nat) (ha : ∀ j, acc.getD j 0 < 18446744073709551616) (j : Nat) : (xrowsF ms acc ps).getD j 0 < 18446744073709551616 := by
  induction ps generalizing acc with
  | nil => exact ha j
  | cons p ps ih => exact ih _ (xorL_lt _ _ ha (hz p))
theorem rightM_lmb {n : Nat} {ms : List (Int × List Nat)} (hr : rightM n ms = true) : lmb (n : Int) = true := by
  have := rightM_bd hr
  exact (lmb_iff n).2 ⟨by omega, by omega⟩
theorem xrows_right {n : Nat} {ms : List (Int × List Nat)} (hr : rightM n ms = true) (ps : List Nat) (hp : ∀ p ∈ ps, p < ms.length) : rightB (n : Int) (xrows n ms ps) = true := xrowsF_right hr ps hp _ (right_zeros n (rightM_lmb hr))
theorem xrows_lt (n : Nat) {ms : List (Int × List Nat)} (hz : ∀ i j, ((ms.getD i (0, [])).2).getD j 0 < 18446744073709551616) (ps : List Nat) (j : Nat) : (xrows n ms ps).getD j 0 < 18446744073709551616 := xrowsF_lt hz ps _ (zeros_lt _) j
theorem right_has {n : Nat} {us : List Nat} (h : rightB (n : Int) us = true) {i : Nat} (hi : i < n) : i / 64 < us.length := by
  have := right_len_eq h
  rw [Int.toNat_natCast] at this
  unfold nw at this; omega
theorem xrowsF_bit {n : Nat} {ms : List (Int × List Nat)} (hr : rightM n ms = true) (ps : List Nat) (hp : ∀ p ∈ ps, p < ms.length) (acc : List Nat) (ha : rightB (n : Int) acc = true) (i : Nat) (hi : i < n) : bitAt (xrowsF ms acc ps) i = (bitAt acc i + (ps.map fun p => mbit ms p i).sum) % 2 := by
  induction ps generalizing acc with
  | nil =>
    have := bitAt_le acc i
    simp [xrowsF]; omega
  | cons p ps ih =>
    have hp0 := (rightM_at hr p (hp p (List.mem_cons_self ..))).2
    have := ih (fun q hq => hp q (List.mem_cons_of_mem _ hq)) _ (right_xor ha hp0)
    have e : xrowsF ms acc (p :: ps) = xrowsF ms (xorL acc (ms.getD p (0, [])).2) ps := rfl
    rw [e, this, bitAt_xor _ _ _ (right_has ha hi) (right_has hp0 hi), List.map_cons, List.sum_cons]
    show (_ % 2 + _) % 2 = (_ + (bitAt (ms.getD p (0, [])).2 i + _)) % 2
    omega
theorem xrows_bit {n : Nat} {ms : List (Int × List Nat)} (hr : rightM n ms = true) (ps : List Nat) (hp : ∀ p ∈ ps, p < ms.length) (i : Nat) (hi : i < n) : bitAt (xrows n ms ps) i = (ps.map fun p => mbit ms p i).sum % 2 := by
  unfold xrows
  rw [xrowsF_bit hr ps hp _ (right_zeros n (rightM_lmb hr)) i hi, bitAt_zeros, Nat.zero_add]
/-- The sum of products of bits. -/
def psum (us : List Nat) (ms : List (Int × List Nat)) (i : Nat) : Nat → Nat
  | 0 => 0
  | k + 1 => psum us ms i k + bitAt us k * mbit ms k i
theorem psum_le (us : List Nat) (ms : List (Int × List Nat)) (i k : Nat) : psum us ms i k ≤ k := by
  induction k with
  | zero => exact Nat.le_refl _
  | succ k ih =>
    simp only [psum]
    rcases bitAt_le us k with h | h <;> rcases mbit_le ms k i with h' | h' <;> rw [h, h'] <;> omega
theorem psum_plc (us : List Nat) (ms : List (Int × List Nat)) (i k : Nat) : ((plcN us k).map fun p => mbit ms p i).sum = psum us ms i k := by
  induction k with
  | zero => rfl
  | succ k ih =>
    rw [plcN_succ, List.map_append, List.sum_append, ih]
    simp only [psum]
    rcases bitAt_le us k with h | h <;> simp [h]
/-- A row times a matrix of n columns. -/
def mulW (n : Nat) (ms : List (Int × List Nat)) (us : List Nat) : List Nat := xrows n ms (plcN us ms.length)
theorem plc_lt {us : List Nat} {k : Nat} : ∀ p ∈ plcN us k, p < k := fun _ h => plcN_lt us k h
theorem mulW_right {n : Nat} {ms : List (Int × List Nat)} (hr : rightM n ms = true) (us : List Nat) : rightB (n : Int) (mulW n ms us) = true := xrows_right hr _ plc_lt
theorem mulW_lt (n : Nat) {ms : List (Int × List Nat)} (hz : ∀ i j, ((ms.getD i (0, [])).2).getD j 0 < 18446744073709551616) (us : List Nat) (j : Nat) : (mulW n ms us).getD j 0 < 18446744073709551616 := xrows_lt n hz _ j
theorem mulW_bit {n : Nat} {ms : List (Int × List Nat)} (hr : rightM n ms = true) (us : List Nat) (i : Nat) (hi : i < n) : bitAt (mulW n ms us) i = psum us ms i ms.length % 2 := by
  unfold mulW
  rw [xrows_bit hr _ plc_lt i hi, psum_plc]
/-- The row times the matrix as numbers. -/
def mulZ (us : List Nat) (ms : List (Int × List Nat)) (k : Nat) : List Int := (List.range k).map fun i => ((psum us ms i ms.length % 2 : Nat) : Int)
theorem mulZ_succ (us : List Nat) (ms : List (Int × List Nat)) (k : Nat) : mulZ us ms (k + 1) = mulZ us ms k ++ [((psum us ms k ms.length % 2 : Nat) : Int)] := by simp [mulZ, List.range_succ]
theorem mulZ_len (us : List Nat) (ms : List (Int × List Nat)) (k : Nat) : (mulZ us ms k).length = k := by simp [mulZ]
theorem mulZ_bound (us : List Nat) (ms : List (Int × List Nat)) (k j : Nat) : -9223372036854775808 ≤ (mulZ us ms k).getD j 0 ∧ (mulZ us ms k).getD j 0 ≤ 9223372036854775807 := by
  by_cases hj : j < k
  · have e : (mulZ us ms k).getD j 0 = ((psum us ms j ms.length % 2 : Nat) : Int) := by simp [mulZ, List.getD, hj]
    rw [e]; omega
  · have e : (mulZ us ms k)[j]? = none := List.getElem?_eq_none (by rw [mulZ_len]; omega)
    simp only [List.getD, e, Option.getD_none]; omega
theorem hasB_plcZ (l : List Nat) (j : Nat) : hasB (plcZ l) (j : Int) = l.contains j := by
  unfold hasB plcZ
  rw [Bool.eq_iff_iff]
  simp only [List.contains_iff_mem, List.mem_map]
  constructor
  · rintro ⟨a, h, e⟩
    obtain rfl : a = j := by omega
    exact h
  · exact fun h => ⟨j, h, rfl⟩
/-- A list of bits is read back as the row that has them. -/
theorem from_row {n : Nat} {us : List Nat} (h : rightB (n : Int) us = true) (hu : ∀ j, us.getD j 0 < 18446744073709551616) (zs : List Int) (hz : zs = (List.range n).map fun i => ((bitAt us i : Nat) : Int)) : fromL (bitsOf zs) (nw n) = us := by
  have e : zs = ofInts (plcZ (plcN us n)) n := by
    rw [hz]
    unfold ofInts
    apply List.map_congr_left
    intro j hj
    have hj' : j < n := by simpa using hj
    rw [hasB_plcZ]
    have e : (plcN us n).contains j = (bitAt us j == 1) := by
      rw [Bool.eq_iff_iff]
      simp [plcN, hj']
    rw [e]
    rcases bitAt_le us j with h | h <;> simp [h]
  rw [e, from_of n _ (there_plc us n), ofBits_plc us n h hu]
theorem from_mul {n : Nat} {ms : List (Int × List Nat)} (hr : rightM n ms = true) (hz : ∀ i j, ((ms.getD i (0, [])).2).getD j 0 < 18446744073709551616) (us : List Nat) : fromL (bitsOf (mulZ us ms n)) (nw n) = mulW n ms us := by
  refine from_row (mulW_right hr us) (mulW_lt n hz us) _ ?_
  unfold mulZ
  apply List.map_congr_left
  intro i hi
  rw [mulW_bit hr us i (by simpa using hi)]
def mulM (n : Nat) (ms rs : List (Int × List Nat)) : List (Int × List Nat) := (List.range rs.length).map fun i => ((n : Int), mulW n ms (rs.getD i (0, [])).2)
theorem mulM_len (n : Nat) (ms rs : List (Int × List Nat)) : (mulM n ms rs).length = rs.length := by simp [mulM]
theorem mulM_at (n : Nat) (ms rs : List (Int × List Nat)) (i : Nat) (h : i < rs.length) : (mulM n ms rs).getD i (0, []) = ((n : Int), mulW n ms (rs.getD i (0, [])).2) := by simp [mulM, List.getD, h]
theorem mulM_lt (n : Nat) {ms : List (Int × List Nat)} (rs : List (Int × List Nat)) (hz : ∀ i j, ((ms.getD i (0, [])).2).getD j 0 < 18446744073709551616) (i j : Nat) : (((mulM n ms rs).getD i (0, [])).2).getD j 0 < 18446744073709551616 := by
  by_cases h : i < rs.length
  · rw [mulM_at n ms rs i h]; exact mulW_lt n hz _ j
  · have e : (mulM n ms rs)[i]? = none := List.getElem?_eq_none (by rw [mulM_len]; omega)
    simp [List.getD, e]
theorem mulM_take (n : Nat) (ms rs : List (Int × List Nat)) (i : Nat) (h : i < rs.length) : (mulM n ms rs).take (i + 1) = (mulM n ms rs).take i ++ [((n : Int), mulW n ms (rs.getD i (0, [])).2)] := by
  rw [take_one (mulM n ms rs) i (0, []) (by rw [mulM_len]; exact h), mulM_at n ms rs i h]
end
section
/- bitrow.First: the first place of a bit 1. -/
set_option linter.unusedVariables false
set_option linter.unusedSimpArgs false
open Go.RowKit Go.Shelf
attribute [local go_sem] Oper.semAt_some
/-- What First tells of the places. -/
def firstV : List Nat → Int
  | [] => 0
  | p :: _ => (p : Int)
def firstE : List Nat → Int
  | [] => 4
  | _ :: _ => 0
theorem boxed_putObj {W : World} {B D : Nat} {t : TypeId} {v : Value} {o : Obj} (hD : D ≠ B) (h : Boxed W B t v) : Boxed (W.putObj D o) B t v := (World.putObj_heap_other (Ne.symm hD)).trans h
theorem first_no (N : Int) (A : Option Addr) (len c : Nat) (us : List Nat) (w : World) (hr : rightB N us = false) (hW : Words w A len us) :
    Calls Tryd.prog 14 #[.agg #[.int .i64 N, .slice A len c]] w fun e w' => e = .returned (.tuple #[.int .i64 0, .int .i64 1]) ∧ Below w.heap.size w w' := by
  have HW := Lib.hid (((hW.alloc (.cells #[.int .i64 N, .slice A len c] 27)).alloc (.cells #[.int .i64 0] 3)).alloc (.cells #[.int .i64 0] 30))
  have HR := Lib.hid (right_any N A len c us _ HW.out)
  rw [hr] at HR
  have Q := Lib.hid (((Box.new w 27 #[.int .i64 N, .slice A len c]).alloc (.cells #[.int .i64 0] 3)).alloc (.cells #[.int .i64 0] 30))
  have q1 := (Box.new (w.alloc (.cells #[.int .i64 N, .slice A len c] 27)) 3 #[.int .i64 0]).alloc (.cells #[.int .i64 0] 30)
  have q2 := Box.new ((w.alloc (.cells #[.int .i64 N, .slice A len c] 27)).alloc (.cells #[.int .i64 0] 3)) 30 #[.int .i64 0]
  simp only [World.size_alloc] at q1 q2
  have Q1 := Lib.hid q1
  have Q2 := Lib.hid q2
  have HB := Lib.hid (show Below w.heap.size w (((w.alloc (.cells #[.int .i64 N, .slice A len c] 27)).alloc (.cells #[.int .i64 0] 3)).alloc (.cells #[.int .i64 0] 30)) from (((Below.refl _ _).alloc (Nat.le_refl _) _).alloc (by simp) _).alloc (by simp; omega) _)
  obtain ⟨r0, r1, -, -⟩ := Q.out.two
  clear q1 q2 hW hr
  go_enter Tryd.func14, Tryd.ntmps14
  go_wp2_with fail
  refine HR.out.mono ?_
  rintro e w1 ⟨rfl, hb⟩
  have B := Lib.hid (chain HB.out hb)
  have Q1 := Lib.hid (Q1.out.keep hb)
  have Q2 := Lib.hid (Q2.out.keep hb)
  clear hb r0 r1 HR HB
  have c1 := Q1.out.cell 0
  have c2 := Q2.out.cell 0
  have f1 := Q1.out.free 0
  have f2 := Q2.out.free 0
  simp at c1 c2
  have s1 := (Q1.out.put 0 (.int .i64 0)).cell 0
  go_wp2
  have P1 := ((Q1.out.put 0 (.int .i64 0)).far (p := ⟨w.heap.size + 1 + 1, 0, none⟩) (by simp) (.int .i64 1)).cell 0
  have P2 := ((Q2.out.far (p := ⟨w.heap.size + 1, 0, none⟩) (by simp) (.int .i64 0)).put 0 (.int .i64 1)).cell 0
  simp at P1 P2
  refine bodyPost_ret (v := .tuple #[.int .i64 0, .int .i64 1]) (by simp [results, Tryd.results14, go_sem, P1, P2]) rfl ⟨rfl, ?_⟩
  exact (B.out.setCell (p := ⟨w.heap.size + 1, 0, none⟩) (by simp) _).setCell (p := ⟨w.heap.size + 1 + 1, 0, none⟩) (by simp; omega) _
set_option maxRecDepth 100000 in
set_option maxHeartbeats 2000000 in
theorem first_in (N : Int) (A : Option Addr) (len c : Nat) (us : List Nat) (w : World) (hr : rightB N us = true) (hW : Words w A len us) (hT : TabAt w 0) :
    CallsIn Fence.wide 5 Tryd.prog 14 #[.agg #[.int .i64 N, .slice A len c]] w fun e w' => e = .returned (.tuple #[.int .i64 (firstV (plcN us (64 * len))), .int .i64 (firstE (plcN us (64 * len)))]) ∧ Below w.heap.size w w' := by
  have hl8 := rightB_len8 hr hW.1
  have hal : Below w.heap.size w (((w.alloc (.cells #[.int .i64 N, .slice A len c] 27)).alloc (.cells #[.int .i64 0] 3)).alloc (.cells #[.int .i64 0] 30)) := (((Below.refl _ _).alloc (Nat.le_refl _) _).alloc (by simp) _).alloc (by simp; omega) _
  have HW := Lib.hid (hW.below hal)
  have HT := Lib.hid (hT.below hal)
  have HB := Lib.hid hal
  have HR := Lib.hid (right_any N A len c us _ HW.out)
  rw [hr] at HR
  have Q := Lib.hid (((Box.new w 27 #[.int .i64 N, .slice A len c]).alloc (.cells #[.int .i64 0] 3)).alloc (.cells #[.int .i64 0] 30))
  have q1 := (Box.new (w.alloc (.cells #[.int .i64 N, .slice A len c] 27)) 3 #[.int .i64 0]).alloc (.cells #[.int .i64 0] 30)
  have q2 := Box.new ((w.alloc (.cells #[.int .i64 N, .slice A len c] 27)).alloc (.cells #[.int .i64 0] 3)) 30 #[.int .i64 0]
  simp only [World.size_alloc] at q1 q2
  have Q1 := Lib.hid q1
  have Q2 := Lib.hid q2
  have hT0 := hT.1
  have HLt := Lib.hid (show ∀ b off, 0 < len → A = some ⟨b, off, none⟩ → b < w.heap.size from fun b off h e => by
    obtain ⟨b', off', e', hlt, _⟩ := hW.2.2 h
    rw [e] at e'; injection e' with e'; injection e' with e1 _; omega)
  obtain ⟨r0, r1, -, -⟩ := Q.out.two
  clear q1 q2 hW hr hT hal
  refine callsIn_of_wp_marks Tryd.func14 rfl trivial ?_ rfl
  simp only [Tryd.ntmps14, List.size_toArray, List.length_cons, List.length_nil, Nat.reduceAdd, Nat.reduceSub, Array.replicate_succ, Array.replicate_zero, List.push_toArray, List.append_toArray, List.nil_append, List.cons_append]
  gi_wp2
  refine ⟨trivial, (callsIn_wide.2 HR.out).mono ?_⟩
  rintro e x1 ⟨rfl, hb⟩
  have B := Lib.hid (chain HB.out hb)
  have Q1 := Lib.hid (Q1.out.keep hb)
  have Q2 := Lib.hid (Q2.out.keep hb)
  have Q := Lib.hid (Q.out.keep hb)
  have HW1 := Lib.hid (HW.out.below hb)
  have HT1 := Lib.hid (HT.out.below hb)
  clear hb r0 r1 HR HB
  obtain ⟨r0, r1, -, -⟩ := Q.out.two
  gi_wp2
  refine ⟨trivial, (callsIn_wide.2 (onesIt_any N A len c _)).mono ?_⟩
  rintro e w1 ⟨B0, rfl, bB, hge, hb⟩
  have hB0 := chain B.out hb
  have b1 : Boxed w1 (w.heap.size + 1) 3 (.int .i64 0) := Q1.out.keep hb
  have b2 : Boxed w1 (w.heap.size + 1 + 1) 30 (.int .i64 0) := Q2.out.keep hb
  have hw1 := HW1.out.below hb
  have ht1 := HT1.out.below hb
  have l1 := b1.lt
  have l2 := b2.lt
  have hx2 : w.heap.size + 1 + 1 < x1.heap.size := Q2.out.lt
  have lB := bB.lt
  have hsz1 := hB0.size
  clear hb r0 r1 Q Q1 Q2 HW HT
  gi_wp2
  refine wpIn_rangeFunc_ownG rfl (by omega) (gf := 50) (lb := #[.pointer (some ⟨B0, 0, none⟩)]) rfl trivial (enters_of Tryd.func50 (by kernel_rfl) rfl)
    (ones_stops (5 - 1) (by omega) B0 N A len c us (by omega) (fun b => b < w1.heap.size ∧ b ≠ w.heap.size + 1 ∧ b ≠ w.heap.size + 1 + 1) ⟨by omega, by omega, by omega⟩ ⟨lB, by omega, by omega⟩ (fun b off h e => by have := HLt.out b off h e; omega) w1 bB hw1 ht1) KpS.trans (kpS_put (fun b h => h.1)) (Below.refl _ _) (fun _ => rfl)
    (fun pre W => (pre = [] ∧ Boxed W (w.heap.size + 1) 3 (.int .i64 0) ∧ Boxed W (w.heap.size + 1 + 1) 30 (.int .i64 0)) ∧ Below w.heap.size w W ∧ w1.heap.size ≤ W.heap.size)
    (fun cd pre W => (cd = .ret ∧ Boxed W (w.heap.size + 1) 3 (.int .i64 (firstV pre)) ∧ Boxed W (w.heap.size + 1 + 1) 30 (.int .i64 0)) ∧ Below w.heap.size w W ∧ w1.heap.size ≤ W.heap.size)
    ?hI ?hIx ⟨⟨rfl, b1, b2⟩, hB0, Nat.le_refl _⟩
    (fun x => { tmps := #[.agg #[.int .i64 N, .slice A len c], .pointer (some ⟨w.heap.size, 0, none⟩), .pointer (some ⟨w.heap.size + 1, 0, none⟩), .pointer (some ⟨w.heap.size + 1 + 1, 0, none⟩), .int .i64 (x : Int), .agg #[.int .i64 N, .slice A len c], .bool true, .bool false, .agg #[.int .i64 N, .slice A len c], .func (.func 50) #[] #[.pointer (some ⟨B0, 0, none⟩)], .int .i64 (x : Int), undef], defers := [] }) ?assign ?body ?done ?stop
  case hI =>
    refine OwnFrom.and ?_ (OwnFrom.and (ownFrom_below (Nat.le_refl _) (by omega)) (fun _ _ _ _ hs hg _ => Nat.le_trans hs hg.size))
    exact OwnFrom.and (fun _ _ _ _ hs _ _ => hs) (OwnFrom.and (Own.from (boxed_own (w.heap.size + 1) 3 (fun _ : List Nat => .int .i64 0)) _) (Own.from (boxed_own (w.heap.size + 1 + 1) 30 (fun _ : List Nat => .int .i64 0)) _))
  case hIx =>
    intro cd
    refine OwnFrom.and ?_ (OwnFrom.and (ownFrom_below (Nat.le_refl _) (by omega)) (fun _ _ _ _ hs hg _ => Nat.le_trans hs hg.size))
    exact OwnFrom.and (fun _ _ _ _ hs _ _ => hs) (OwnFrom.and (Own.from (boxed_own (w.heap.size + 1) 3 (fun pre : List Nat => .int .i64 (firstV pre))) _) (Own.from (boxed_own (w.heap.size + 1 + 1) 30 (fun _ : List Nat => .int .i64 0)) _))
  case assign =>
    intro l x W K hK
    gi_wp2
    exact hK
  case body =>
    rintro l pre x W ⟨⟨rfl, h1, h2⟩, hB, hsz⟩ hlt
    have c1 := h1.cell
    have c2 := h2.cell
    have f1 := h1.frozen
    have f2 := h2.frozen
    have P1 : Boxed ((W.setCell ⟨w.heap.size + 1, 0, none⟩ (.int .i64 (x : Int))).setCell ⟨w.heap.size + 1 + 1, 0, none⟩ (.int .i64 0)) (w.heap.size + 1) 3 (.int .i64 (x : Int)) := (h1.set _).other (B' := w.heap.size + 1 + 1) (by omega) _
    have P2 : Boxed ((W.setCell ⟨w.heap.size + 1, 0, none⟩ (.int .i64 (x : Int))).setCell ⟨w.heap.size + 1 + 1, 0, none⟩ (.int .i64 0)) (w.heap.size + 1 + 1) 30 (.int .i64 0) := (h2.other (B' := w.heap.size + 1) (by omega) _).set _
    have hko : KeepsOthers W ((W.setCell ⟨w.heap.size + 1, 0, none⟩ (.int .i64 (x : Int))).setCell ⟨w.heap.size + 1 + 1, 0, none⟩ (.int .i64 0)) := (KeepsOthers.setCell _ _ _).trans (KeepsOthers.setCell _ _ _)
    have PB := (hB.setCell (p := ⟨w.heap.size + 1, 0, none⟩) (by simp) (.int .i64 (x : Int))).setCell (p := ⟨w.heap.size + 1 + 1, 0, none⟩) (by simp; omega) (.int .i64 0)
    have HP := Lib.hid (And.intro P1 (And.intro P2 (And.intro hko PB)))
    clear P1 P2 hko PB
    gi_wp2
    exact ⟨HP.out.2.2.1.from _, ⟨rfl, HP.out.1, HP.out.2.1⟩, HP.out.2.2.2, Nat.le_trans hsz HP.out.2.2.1.size⟩
  case done =>
    rintro D ys W hD rfl ⟨⟨hys, h1, h2⟩, hB, hsz⟩ hK
    have c1 := h1.cell
    have c2 := h2.cell
    have f1 := h1.frozen
    have f2 := h2.frozen
    have hD1 : D ≠ w.heap.size + 1 := by omega
    have hD2 : D ≠ w.heap.size + 1 + 1 := by omega
    have HK := Lib.hid hK
    have HYS := Lib.hid hys
    clear hK hys
    gi_wp2
    have hK2 : ((W.setCell ⟨w.heap.size + 1, 0, none⟩ (.int .i64 0)).setCell ⟨w.heap.size + 1 + 1, 0, none⟩ (.int .i64 4)).heap[D]? = some (.deferred (some [])) := by
      rw [heap_setCell_other _ ⟨w.heap.size + 1 + 1, 0, none⟩ D _ hD2, heap_setCell_other _ ⟨w.heap.size + 1, 0, none⟩ D _ hD1]; exact HK.out
    refine ⟨by simp, .inl ⟨_, _, rfl, run_takeDeferred hK2, ?_⟩⟩
    have P1 : Boxed _ (w.heap.size + 1) 3 (.int .i64 0) := boxed_putObj (o := .deferred none) (show D ≠ _ from hD1) ((h1.set (.int .i64 0)).other (B' := w.heap.size + 1 + 1) (by omega) (.int .i64 4))
    have P2 : Boxed _ (w.heap.size + 1 + 1) 30 (.int .i64 4) := boxed_putObj (o := .deferred none) (show D ≠ _ from hD2) ((h2.other (B' := w.heap.size + 1) (by omega) (.int .i64 0)).set (.int .i64 4))
    have d1 := P1.cell
    have d2 := P2.cell
    refine ⟨.tuple #[.int .i64 0, .int .i64 4], by simp [results, Tryd.results14, go_sem, d1, d2], by rw [HYS.out]; rfl, ?_⟩
    have PB := (hB.setCell (p := ⟨w.heap.size + 1, 0, none⟩) (by simp) (.int .i64 0)).setCell (p := ⟨w.heap.size + 1 + 1, 0, none⟩) (by simp; omega) (.int .i64 4)
    exact PB.trans (belowK_b (w := w) (Nat.le_refl _) _ D _ _ (by omega) hK2 rfl rfl)
  case stop =>
    rintro D cd pre W hD hpre ⟨⟨rfl, h1, h2⟩, hB, hsz⟩ hK
    have HPre := Lib.hid hpre
    clear hpre
    gi_wp2
    refine ⟨by simp, .inl ⟨_, _, rfl, run_takeDeferred hK, ?_⟩⟩
    have P1 : Boxed _ (w.heap.size + 1) 3 (.int .i64 (firstV pre)) := boxed_putObj (o := .deferred none) (show D ≠ _ by omega) h1
    have P2 : Boxed _ (w.heap.size + 1 + 1) 30 (.int .i64 0) := boxed_putObj (o := .deferred none) (show D ≠ _ by omega) h2
    have d1 := P1.cell
    have d2 := P2.cell
    obtain ⟨⟨t, ht⟩, hne⟩ := HPre.out
    refine ⟨.tuple #[.int .i64 (firstV pre), .int .i64 0], by simp [results, Tryd.results14, go_sem, d1, d2], ?_, hB.trans (belowK_b (w := w) (Nat.le_refl _) _ D _ _ (by omega) hK rfl rfl)⟩
    rw [← ht]
    cases pre with
    | nil => exact absurd rfl hne
    | cons x r => rfl
theorem first_yes (N : Int) (A : Option Addr) (len c : Nat) (us : List Nat) (w : World) (hr : rightB N us = true) (hW : Words w A len us) (hT : TabAt w 0) :
    Calls Tryd.prog 14 #[.agg #[.int .i64 N, .slice A len c]] w fun e w' => e = .returned (.tuple #[.int .i64 (firstV (plcN us (64 * len))), .int .i64 (firstE (plcN us (64 * len)))]) ∧ Below w.heap.size w w' := callsIn_wide.1 (first_in N A len c us w hr hW hT)
end
section
/- The reference's Places: where a row's bits are 1. -/
set_option linter.unusedVariables false
set_option linter.unusedSimpArgs false
open Go.RowKit
/-- A slice of numbers of its own is returned. -/
def PlcRet (ys : List Nat) (w : World) (e : Ending) (w' : World) : Prop := ∃ v, e = .returned v ∧ w'.ownsRow w.heap.size 3 1 v ys.length (ys.map plcV) ∧ Below w.heap.size w w'
end
section
/- Contract of the reference's Numbers: are two rows the same? -/
set_option linter.unusedVariables false
set_option linter.unusedSimpArgs false
open Go.RowKit
theorem take_eq_succ {xs ys : List Int} {i : Nat} (ha : i < xs.length) (hb : i < ys.length) (h : xs.take i = ys.take i) (e : xs.getD i 0 = ys.getD i 0) : xs.take (i + 1) = ys.take (i + 1) := by
  rw [List.take_succ_eq_append_getElem ha, List.take_succ_eq_append_getElem hb, h]
  have h1 : xs.getD i 0 = xs[i] := by simp [List.getD, ha]
  have h2 : ys.getD i 0 = ys[i] := by simp [List.getD, hb]
  rw [h1, h2] at e
  rw [e]
/-- Are two rows of numbers the same? -/
def sameZ (xs ys : List Int) : Bool := decide (xs = ys)
set_option maxHeartbeats 1000000 in
theorem refNumbers_any (A B : Option Addr) (la ca lb cb : Nat) (xs ys : List Int) (w : World) (ha : Ints w A la xs) (hb : Ints w B lb ys) (h1 : la ≤ 100000) (h2 : lb ≤ 100000) :
    Calls Tryd.prog 12 #[.slice A la ca, .slice B lb cb] w fun e w' => e = .returned (.bool (sameZ xs ys)) ∧ Below w.heap.size w w' := by
  have HA := Lib.hid ha
  have HB := Lib.hid hb
  clear ha hb
  by_cases hl : la = lb
  · subst hl
    have t0 : (((la : Nat) : Int) != ((la : Nat) : Int)) = false := by simp
    rcases Nat.eq_zero_or_pos la with h0 | hp
    · subst h0
      have HS := Lib.hid (show sameZ xs ys = true from by
        have e1 := List.eq_nil_of_length_eq_zero HA.out.1
        have e2 := List.eq_nil_of_length_eq_zero HB.out.1
        rw [e1, e2]; rfl)
      have hlt : ¬ (0 : Int) < 0 := by omega
      go_enter Tryd.func12, Tryd.ntmps12
      go_wp2_with fail
      go_loop [13] (fun i => i = .int .i64 0) (fun i => 0)
      case atStart => rfl
      case round =>
        subst hrel
        go_wp2
        go_ret
        exact ⟨by rw [HS.out]; rfl, Below.refl _ _⟩
    · obtain ⟨ba, oa, rfl, hba, hca⟩ := HA.out.2.2 hp
      obtain ⟨bb, ob, rfl, hbb, hcb⟩ := HB.out.2.2 hp
      have HCA := Lib.hid hca
      have HCB := Lib.hid hcb
      have HLA := Lib.hid HA.out.1
      have HLB := Lib.hid HB.out.1
      clear hca hcb HA HB
      go_enter Tryd.func12, Tryd.ntmps12
      go_wp2_with fail
      go_loopw [13] (fun i wr => ∃ j : Nat, j ≤ la ∧ i = .int .i64 j ∧ Hid (xs.take j = ys.take j) ∧ Hid (Below w.heap.size w wr)) (fun i _ => la - (intOf i).toNat)
      case atStart => exact ⟨0, by omega, rfl, Lib.hid rfl, Lib.hid (Below.refl _ _)⟩
      case round =>
        obtain ⟨j, hj, rfl, HE, HBL⟩ := hrel
        by_cases hjl : j < la
        · have hjl' : (j : Int) < la := by omega
          have c1 := (HBL.out.cell (p := ⟨ba, oa + j, none⟩) hba).trans (HCA.out j hjl)
          have c2 := (HBL.out.cell (p := ⟨bb, ob + j, none⟩) hbb).trans (HCB.out j hjl)
          have HST := Lib.hid (fun e => take_eq_succ (xs := xs) (ys := ys) (i := j) (by rw [HLA.out]; exact hjl) (by rw [HLB.out]; exact hjl) HE.out e)
          have HNE := Lib.hid (show xs.getD j 0 ≠ ys.getD j 0 → sameZ xs ys = false from fun h => decide_eq_false (fun e => h (by rw [e])))
          generalize xs.getD j 0 = x at *
          generalize ys.getD j 0 = y at *
          by_cases hxy : x = y
          · have t1 : (x != y) = false := by simp [hxy]
            have HS2 := Lib.hid (HST.out hxy)
            clear hxy
            go_wp2
            go_region
            go_wp2
            go_roundw
            case rel => exact ⟨j + 1, by omega, by go_num, HS2, Lib.hid HBL.out.drew⟩
            case measure => simp [intOf] <;> omega
          · have t1 : (x != y) = true := by simp [hxy]
            have HR := Lib.hid (HNE.out hxy)
            clear hxy
            go_wp2
            go_region
            go_wp2
            go_ret
            exact ⟨by rw [HR.out]; rfl, HBL.out.drew⟩
        · obtain rfl : j = la := by omega
          have hjl' : ¬ (j : Int) < j := by omega
          have HR := Lib.hid (show sameZ xs ys = true from decide_eq_true (by
            have := HE.out
            rw [List.take_of_length_le (Nat.le_of_eq HLA.out), List.take_of_length_le (Nat.le_of_eq HLB.out)] at this
            exact this))
          go_wp2
          go_ret
          exact ⟨by rw [HR.out]; rfl, HBL.out⟩
  · have t0 : (((la : Nat) : Int) != ((lb : Nat) : Int)) = true := by rw [bne_iff_ne]; omega
    have HS := Lib.hid (show sameZ xs ys = false from decide_eq_false (fun e => hl (by rw [← HA.out.1, ← HB.out.1, e])))
    go_enter Tryd.func12, Tryd.ntmps12
    go_wp2_with fail
    go_ret
    exact ⟨by rw [HS.out]; rfl, Below.refl _ _⟩
end
section
/- BitrowTells: the walk. -/
set_option linter.unusedVariables false
set_option linter.unusedSimpArgs false
open Go.RowKit
theorem plc_right (N : Nat) (us : List Nat) (h : rightB (N : Int) us = true) : plcN us (64 * us.length) = plcN us N := by
  have hl := h
  simp only [rightB, Bool.and_eq_true, beq_iff_eq, Int.toNat_natCast] at hl
  have h1 := hl.1.2
  have hlm := hl.1.1
  have hle : N ≤ 64 * us.length := by rw [h1]; unfold nw; omega
  obtain ⟨d, hd⟩ := Nat.le.dest hle
  unfold plcN
  rw [← hd, List.range_add, List.filter_append]
  have : ((List.range d).map fun x => N + x).filter (fun p => bitAt us p == 1) = [] := by
    rw [List.filter_eq_nil_iff]
    intro x hx
    obtain ⟨y, hy, rfl⟩ := List.mem_map.1 hx
    have hy : y < d := by simpa using hy
    intro hb
    have hb : bitAt us (N + y) = 1 := by simpa using hb
    have := not_right_of_bit N us.length (N + y) us hlm rfl h1 (by omega) (by omega) hb
    rw [this] at h; cases h
  rw [this, List.append_nil]
theorem plc_no (N : Int) (A : Option Addr) (len c : Nat) (us : List Nat) (w : World) (hr : rightB N us = false) (hW : Words w A len us) :
    Calls Tryd.prog 56 #[.agg #[.int .i64 N, .slice A len c]] w fun e w' => e = .returned (.tuple #[.slice none 0 0, .int .i64 1]) ∧ Below w.heap.size w w' := by
  have Q := Lib.hid (Box.new w 27 #[.int .i64 N, .slice A len c])
  have HB := Lib.hid (show Below w.heap.size w (w.alloc (.cells #[.int .i64 N, .slice A len c] 27)) from (Below.refl _ _).alloc (Nat.le_refl _) _)
  have HR := Lib.hid (right_any N A len c us _ (hW.alloc (.cells #[.int .i64 N, .slice A len c] 27)))
  rw [hr] at HR
  obtain ⟨r0, r1, -, -⟩ := Q.out.two
  clear hW hr
  go_enter Tryd.func56, Tryd.ntmps56
  go_wp2_with fail
  refine HR.out.mono ?_
  rintro e w1 ⟨rfl, hb⟩
  have B := Lib.hid (chain HB.out hb)
  clear hb
  go_wp2
  go_ret2
  exact ⟨rfl, B.out⟩
theorem get_any (n i : Int) (A : Option Addr) (len c : Nat) (us : List Nat) (w : World) (hW : Words w A len us) :
    Calls Tryd.prog 43 #[.agg #[.int .i64 n, .slice A len c], .int .i64 i] w fun e w' => e = .returned (.tuple #[.int .i64 (getV n us i), .int .i64 (getE n us i)]) ∧ Below w.heap.size w w' := by
  unfold getV getE
  cases hr : rightB n us with
  | false => simpa using get_bad n i A len c us w hr hW
  | true =>
    cases hi : (decide (0 ≤ i) && decide (i < n)) with
    | false => simpa using get_far n i A len c us w hr hi hW
    | true =>
      simp only [Bool.and_eq_true, decide_eq_true_eq] at hi
      obtain ⟨m, rfl⟩ := Int.eq_ofNat_of_zero_le hi.1
      obtain ⟨N, rfl⟩ := Int.eq_ofNat_of_zero_le (show 0 ≤ n by omega)
      simpa using get_yes N m A len c us w hr (by omega) hW
end
section
/- Contracts of layer 3: table.sum. -/
set_option linter.unusedVariables false
set_option linter.unusedSimpArgs false
open Go.RowKit
theorem OwnW.put2o {w : World} {A : Option Addr} {l c : Nat} {zs : List Nat} (h : OwnW w A l c zs) {g : Nat} {t : TypeId} {a b : Value} (hb : Box w g t #[a, b]) (hne : 63 ≠ t) (u v : Value) : OwnW ((w.setCell ⟨g, 0, none⟩ u).setCell ⟨g, 1, none⟩ v) A l c zs :=
  (h.far hb hne 0 u).far (hb.put 0 u) hne 1 v
theorem Ints.far2 {w : World} {A : Option Addr} {len : Nat} {zs : List Int} (h : Ints w A len zs) {g : Nat} (hne : ∀ b off, 0 < len → A = some ⟨b, off, none⟩ → b ≠ g) (u v : Value) : Ints ((w.setCell ⟨g, 0, none⟩ u).setCell ⟨g, 1, none⟩ v) A len zs := by
  refine ⟨h.1, h.2.1, fun hp => ?_⟩
  obtain ⟨b, off, rfl, hlt, hc⟩ := h.2.2 hp
  have hn := hne b off hp rfl
  refine ⟨b, off, rfl, by simpa [World.setCell] using hlt, fun j hj => ?_⟩
  rw [World.cell?_setCell_other _ _ _ _ (by intro e; injection e; omega), World.cell?_setCell_other _ _ _ _ (by intro e; injection e; omega)]
  exact hc j hj
end
section
/- Contracts of layer 3: rowsOf, Mul. -/
set_option linter.unusedVariables false
set_option linter.unusedSimpArgs false
open Go.RowKit
theorem Box.one {w : World} {g : Nat} {t : TypeId} {a : Value} (h : Box w g t #[a]) : w.cell? ⟨g, 0, none⟩ = some a := h.cell 0
end
section
/- Contracts of layer 3: Mul; the reference's bit. -/
set_option linter.unusedVariables false
set_option linter.unusedSimpArgs false
open Go.RowKit
theorem right_has64 {N : Nat} {us : List Nat} (h : rightB N us = true) : N ≤ 64 * us.length := by
  have := right_len_eq h
  rw [Int.toNat_natCast] at this
  unfold nw at this; omega
def mulB (N : Int) (ms : List (Int × List Nat)) (M : Int) (ks : List (Int × List Nat)) : Bool := rightM N ms && (rightM M ks && N == (ks.length : Int))
def mulN (N : Int) (ms : List (Int × List Nat)) (M : Int) (ks : List (Int × List Nat)) : Int := if mulB N ms M ks then M else 0
def mulL (N : Int) (ms : List (Int × List Nat)) (M : Int) (ks : List (Int × List Nat)) : List (Int × List Nat) := if mulB N ms M ks then mulM M.toNat ks ms else []
def mulE (N : Int) (ms : List (Int × List Nat)) (M : Int) (ks : List (Int × List Nat)) : Int := if rightM N ms && rightM M ks then if N == (ks.length : Int) then 0 else 2 else 1
end
section
/- Layer 3's reference: Mul. -/
set_option linter.unusedVariables false
set_option linter.unusedSimpArgs false
open Go.RowKit
end
section
/- Contract of law 02's few: the first 66 texts, each cut. -/
set_option linter.unusedVariables false
set_option linter.unusedSimpArgs false
open Go.RowKit
theorem string_info : (Tryd.prog.info? 9).map (fun i => (i.zero, i.size, i.bytes)) = some (some (.string ⟨#[]⟩), 1, 16) := by kernel_rfl
theorem own_texts {w : World} {base e n : Nat} {v : Value} {ss : List ByteArray} (h : w.ownsRow base e 1 v n (ss.map Value.string)) (hz : ∀ j, (ss.getD j ByteArray.empty).size ≤ maxLen) : ∃ A c, v = .slice A n c ∧ n ≤ c ∧ c ≤ maxLen ∧ Texts w A n ss := by
  have hl : ss.length = n := by have := h.1; simpa using this
  rcases h.2 with ⟨rfl, h0⟩ | ⟨g, cap, cur, rfl, hb, hh, hn, hm, hs, hx⟩
  · subst h0
    obtain rfl : ss = [] := List.length_eq_zero_iff.1 hl
    exact ⟨none, 0, rfl, Nat.le_refl _, Nat.zero_le _, Texts.nil _ _⟩
  · refine ⟨_, _, rfl, hn, hm, hl, hz, fun hp => ?_⟩
    have hbx : Box w g e cur := hh
    refine ⟨g, 0, rfl, hbx.lt, fun j hj => ?_⟩
    rw [Nat.zero_add, hbx.cell j]
    have e1 : (cur.toList.take (n * 1))[j]? = (ss.map Value.string)[j]? := by rw [hx]
    rw [Nat.mul_one, List.getElem?_take, if_pos hj] at e1
    have hjz : j < ss.length := by omega
    simp only [List.getElem?_map, List.getElem?_eq_getElem hjz, Option.map_some] at e1
    rw [← Array.getElem?_toList, e1]
    simp [List.getD, hjz]
def cuts (ss : List ByteArray) (k : Nat) : List ByteArray := (ss.take k).map cutB
theorem cuts_succ (ss : List ByteArray) (k : Nat) (h : k < ss.length) : cuts ss (k + 1) = cuts ss k ++ [cutB (ss.getD k ByteArray.empty)] := by
  unfold cuts
  rw [List.take_succ_eq_append_getElem h, List.map_append]
  simp [List.getD, h]
theorem cuts_le (ss : List ByteArray) (k j : Nat) : ((cuts ss k).getD j ByteArray.empty).size ≤ maxLen := by
  unfold cuts
  simp only [List.getD, List.getElem?_map]
  cases (ss.take k)[j]? with
  | none => simp [maxLen]
  | some s => have := cutB_size s; simp [maxLen]; omega
/-- A slice of texts is returned. -/
def TextsOut (ss : List ByteArray) (w : World) (e : Ending) (w' : World) : Prop :=
  ∃ A c, e = .returned (.slice A ss.length c) ∧ ss.length ≤ c ∧ c ≤ maxLen ∧ Texts w' A ss.length ss ∧ Below w.heap.size w w'
theorem cuts_all (ss : List ByteArray) (k : Nat) (h : ss.length = k) (h2 : k ≤ 66) : cuts ss k = cuts ss 66 := by
  unfold cuts
  rw [List.take_of_length_le (by omega), List.take_of_length_le (by omega)]
end
section
/- block.Pick: the sum of those blocks that a row names; the reference's Bits. -/
set_option linter.unusedVariables false
set_option linter.unusedSimpArgs false
open Go.RowKit
/-- The texts at some places. -/
def picks (ss : List ByteArray) (ps : List Nat) : List ByteArray := ps.map fun p => ss.getD p ByteArray.empty
theorem picks_snoc (ss : List ByteArray) (ps : List Nat) (i : Nat) (h : i < ps.length) : picks ss (ps.take (i + 1)) = picks ss (ps.take i) ++ [ss.getD (ps.getD i 0) ByteArray.empty] := by
  unfold picks
  rw [List.take_succ_eq_append_getElem h, List.map_append]
  simp [List.getD, h]
theorem picks_le (ss : List ByteArray) (ps : List Nat) (hs : ∀ j, (ss.getD j ByteArray.empty).size ≤ maxLen) (j : Nat) : ((picks ss ps).getD j ByteArray.empty).size ≤ maxLen := by
  by_cases h : j < ps.length
  · have e : (picks ss ps).getD j ByteArray.empty = ss.getD ps[j] ByteArray.empty := by simp [picks, List.getD, h]
    rw [e]; exact hs _
  · have e : (picks ss ps).getD j ByteArray.empty = ByteArray.empty := by simp [picks, List.getD, List.getElem?_eq_none (Nat.le_of_not_lt h)]
    rw [e]; simp [maxLen]
theorem sumE_ok {n : Int} {ss : List ByteArray} (h : okS n ss = true) : sumE n ss = 0 := by simp [sumE, h]
theorem sumE_no {n : Int} {ss : List ByteArray} (h : okS n ss = false) : sumE n ss = 2 := by simp [sumE, h]
theorem okS_at {n : Int} {ss : List ByteArray} (h : okS n ss = true) (j : Nat) (hj : j < ss.length) : ((ss.getD j ByteArray.empty).size : Int) = n := by
  simp only [okS, Bool.and_eq_true] at h
  exact allL_at h.1.2 j hj
theorem okS_picks {n : Int} {ss : List ByteArray} (h : okS n ss = true) (us : List Nat) : okS n (picks ss (plcN us ss.length)) = true := by
  have h' := h
  simp only [okS, Bool.and_eq_true, decide_eq_true_eq] at h' ⊢
  refine ⟨⟨h'.1.1, ?_⟩, ?_⟩
  · unfold allL picks
    rw [List.all_map, List.all_eq_true]
    intro p hp
    have := okS_at h p (plcN_lt us _ hp)
    simpa using this
  · have := plcN_len us ss.length
    simp [picks]; omega
/-- What Pick tells. -/
def PickOut (s : ByteArray) (er : Int) (w : World) (e : Ending) (w' : World) : Prop := e = .returned (.tuple #[.string s, .int .i64 er]) ∧ Below w.heap.size w w'
set_option maxHeartbeats 1000000 in
theorem pick_sum (n : Int) (A : Option Addr) (l c : Nat) (ss : List ByteArray) (N : Int) (B : Option Addr) (k d : Nat) (w : World) (ht : Texts w A l ss) (hlc : l ≤ c) (hcm : c ≤ maxLen) (h : okS n ss = false) :
    Calls Tryd.prog 35 #[.int .i64 n, .slice A l c, .agg #[.int .i64 N, .slice B k d]] w (PickOut ⟨#[]⟩ 2 w) := by
  have HB := Lib.hid (show Below w.heap.size w (w.alloc (.cells #[.int .i64 N, .slice B k d] 27)) from (Below.refl _ _).alloc (Nat.le_refl _) _)
  have HS := Lib.hid (sum_any n A l c ss _ (ht.below HB.out) hlc hcm)
  rw [sumE_no h] at HS
  clear ht h
  go_enter Tryd.func35, Tryd.ntmps35
  go_wp2_with fail
  refine HS.out.mono ?_
  rintro e w1 ⟨rfl, hb⟩
  have B := Lib.hid (chain HB.out hb)
  clear hb
  go_wp2
  go_ret2
  exact ⟨rfl, B.out⟩
set_option maxHeartbeats 1000000 in
theorem pick_row (n : Int) (A : Option Addr) (l c : Nat) (ss : List ByteArray) (N : Int) (B : Option Addr) (k d : Nat) (us : List Nat) (w : World) (ht : Texts w A l ss) (hlc : l ≤ c) (hcm : c ≤ maxLen) (hu : Words w B k us) (h : okS n ss = true) (hr : rightB N us = false) :
    Calls Tryd.prog 35 #[.int .i64 n, .slice A l c, .agg #[.int .i64 N, .slice B k d]] w (PickOut ⟨#[]⟩ 1 w) := by
  have HB := Lib.hid (show Below w.heap.size w (w.alloc (.cells #[.int .i64 N, .slice B k d] 27)) from (Below.refl _ _).alloc (Nat.le_refl _) _)
  have Q := Lib.hid (Box.new w 27 #[.int .i64 N, .slice B k d])
  have HU := Lib.hid (hu.below HB.out)
  have HS := Lib.hid (sum_any n A l c ss _ (ht.below HB.out) hlc hcm)
  rw [sumE_ok h] at HS
  have HR := Lib.hid hr
  clear ht h hu hr
  go_enter Tryd.func35, Tryd.ntmps35
  go_wp2_with fail
  refine HS.out.mono ?_
  rintro e w1 ⟨rfl, hb⟩
  have Bv := Lib.hid (chain HB.out hb)
  have Q := Lib.hid (Q.out.keep hb)
  have HU := Lib.hid (HU.out.below hb)
  clear hb
  obtain ⟨r0, r1, -, -⟩ := Q.out.two
  go_wp2_with fail
  refine (plc_no N B k d us _ HR.out HU.out).mono ?_
  rintro e w2 ⟨rfl, hb⟩
  have Bv := Lib.hid (chain Bv.out hb)
  clear hb
  go_wp2
  go_ret2
  exact ⟨rfl, Bv.out⟩
set_option maxRecDepth 100000 in
set_option maxHeartbeats 2000000 in
theorem pick_good (n : Int) (A : Option Addr) (l c : Nat) (ss : List ByteArray) (N : Nat) (B : Option Addr) (k d : Nat) (us : List Nat) (w : World) (ht : Texts w A l ss) (hlc : l ≤ c) (hcm : c ≤ maxLen) (hu : Words w B k us) (h : okS n ss = true) (hr : rightB N us = true) (hT : TabAt w 0) (hNl : N = l) :
    Calls Tryd.prog 35 #[.int .i64 n, .slice A l c, .agg #[.int .i64 N, .slice B k d]] w (PickOut (sumS n (picks ss (plcN us N))) 0 w) := by
  obtain ⟨i0, hi, hz0, hz1, hz2⟩ := info_parts string_info
  have HB := Lib.hid (show Below w.heap.size w (w.alloc (.cells #[.int .i64 N, .slice B k d] 27)) from (Below.refl _ _).alloc (Nat.le_refl _) _)
  have Q := Lib.hid (Box.new w 27 #[.int .i64 N, .slice B k d])
  have HU := Lib.hid (hu.below HB.out)
  have HT := Lib.hid (hT.below HB.out)
  have HX := Lib.hid (ht.below HB.out)
  have HS := Lib.hid (sum_any n A l c ss _ HX.out hlc hcm)
  rw [sumE_ok h] at HS
  have HR := Lib.hid hr
  have hpl := plc_right N us hr
  rw [hu.1] at hpl
  have HPl := Lib.hid hpl
  have HLt := Lib.hid (fun x (hx : x ∈ plcN us N) => plcN_lt us N hx)
  have hpn := plcN_len us N
  have hlen := ht.1
  have HL := Lib.hid hlen
  have hl64 : l ≤ 64 := by simp only [okS, Bool.and_eq_true, decide_eq_true_eq] at h; omega
  have HOK := Lib.hid (show sumE n (picks ss (plcN us N)) = 0 by rw [hNl, ← hlen]; exact sumE_ok (okS_picks h us))
  have HI := Lib.hid hi
  have HZ0 := Lib.hid hz0
  have HZ1 := Lib.hid hz1
  have HZ2 := Lib.hid hz2
  have tne : ((N : Int) != (l : Int)) = false := by simp; omega
  have hle1 : N ≤ l := by omega
  clear ht h hu hr hT hpl hlen hi hz0 hz1 hz2 hNl
  go_enter Tryd.func35, Tryd.ntmps35
  go_wp2_with fail
  refine HS.out.mono ?_
  rintro e w1 ⟨rfl, hb⟩
  have Bv := Lib.hid (chain HB.out hb)
  have Q := Lib.hid (Q.out.keep hb)
  have HU := Lib.hid (HU.out.below hb)
  have HT := Lib.hid (HT.out.below hb)
  have HX := Lib.hid (HX.out.below hb)
  clear hb
  obtain ⟨r0, r1, -, -⟩ := Q.out.two
  go_wp2_with fail
  have HP := Lib.hid (plc_yes N B k d us w1 HR.out HU.out HT.out)
  rw [HPl.out] at HP
  refine HP.out.mono ?_
  rintro e w2 ⟨v2, rfl, hown, hb⟩
  obtain ⟨A2, c2, rfl, -⟩ := own_form hown
  have HP2 := Lib.hid (own_plcInts hown (fun x hx => by have := HLt.out x hx; omega))
  have Bv := Lib.hid (chain Bv.out hb)
  have Q := Lib.hid (Q.out.keep hb)
  have HX := Lib.hid (HX.out.below hb)
  have hw2 : w.heap.size ≤ w2.heap.size := Bv.out.size
  clear hb hown HP r0 r1
  obtain ⟨r0, r1, -, -⟩ := Q.out.two
  generalize plcN us N = P at *
  obtain ⟨w3, hmk, hown3, hgrow⟩ := run_make_own (P := Tryd.prog) w2 w2.heap.size 44 9 i0 (.string ⟨#[]⟩) 1 Tryd.underlying44 HI.out HZ0.out HZ1.out .i64 .i64 P.length (by rw [HZ2.out]; omega) (by unfold maxLen; omega) (Nat.le_refl _)
  have hb3 : Below w2.heap.size w2 w3 := (Below.refl _ _).grown hgrow (Nat.le_refl _) (fun k e => by cases e)
  have HO := Lib.hid hown3
  have HB3 := Lib.hid hb3
  clear hown3 hgrow hb3
  go_wp2
  clear hmk r0 r1 tne
  go_loopw [43, 12, 14] (fun t v _ wr => ∃ i : Nat, i ≤ P.length ∧ t = .int .i64 i ∧ wr.ownsRow w2.heap.size 9 1 v i ((picks ss (P.take i)).map Value.string) ∧ Below w2.heap.size w2 wr)
    (fun t _ _ _ => P.length - (intOf t).toNat)
  case atStart => exact ⟨0, by omega, rfl, HO.out, HB3.out⟩
  case round =>
    obtain ⟨i, hi, rfl, hown, hbel⟩ := hrel
    have HO := Lib.hid hown
    have HBr := Lib.hid hbel
    clear hown hbel HB3
    by_cases hlt : i < P.length
    · obtain ⟨b2, o2, rfl, hb2, hc2⟩ := HP2.out.2.2 (by omega)
      have hp : P.getD i 0 < N := by
        have e : P.getD i 0 = P[i] := by simp [List.getD, hlt]
        rw [e]; exact HLt.out _ (List.getElem_mem hlt)
      obtain ⟨b1, o1, rfl, hb1, hc1⟩ := HX.out.2.2 (by omega)
      have c2' := (HBr.out.cell (p := ⟨b2, o2 + i, none⟩) hb2).trans (hc2 i hlt)
      rw [plcZ_getD] at c2'
      have c1' := (HBr.out.cell (p := ⟨b1, o1 + P.getD i 0, none⟩) hb1).trans (hc1 (P.getD i 0) (by omega))
      have HSn := Lib.hid (picks_snoc ss P i hlt)
      have hm := HX.out.2.1 (P.getD i 0)
      clear hc1 hc2
      generalize P.getD i 0 = p at *
      generalize ss.getD p ByteArray.empty = s at *
      have hi' := HI.out
      have hz0' := HZ0.out
      have hz1' := HZ1.out
      have hz2' := HZ2.out
      have XO := Lib.hid (HO.out.alloc (.cells #[.string s] 9))
      have XB := Lib.hid (HBr.out.alloc HBr.out.size (.cells #[.string s] 9))
      have N2 := Lib.hid (fun k hk => (HO.out.lt k hk).1)
      have hpl : (p : Int) < (l : Int) := by omega
      go_wp2_with (at_builtin; refine wpList_append_own _ rfl _ _ 44 rfl w2.heap.size 9 i0 (.string ⟨#[]⟩) 1 16 Tryd.underlying44 hi' hz0' hz1' hz2' rfl (by decide) _ _ _ rfl XO.out ⟨wr.heap.size, 0, none⟩ 1 1 [.string s] rfl rfl (cell_one_new _ _ _) (by simp [Value.oneCell']) (by simp [maxLen]; omega) (by omega) XB.out.size ?_; intro v' w4 hown' hgrow _; have HC := Lib.hid (XB.out.grown hgrow XB.out.size N2.out); have HO2 := Lib.hid hown'; clear hown' hgrow)
      go_roundw
      case rel =>
        refine ⟨i + 1, by omega, by go_num, ?_, HC.out⟩
        rw [HSn.out, List.map_append]
        exact HO2.out
      case measure => simp [intOf]; omega
    · obtain rfl : i = P.length := by omega
      have ho := HO.out
      rw [List.take_length] at ho
      have hpl : (picks ss P).length = P.length := by simp [picks]
      rw [← hpl] at ho
      obtain ⟨A', c', rfl, q1, q2, q3⟩ := own_texts ho (picks_le ss P HX.out.2.1)
      rw [hpl] at q1 q3
      have HQ := Lib.hid q3
      have Bv := Lib.hid (chain Bv.out HBr.out)
      rw [hpl]
      clear ho hpl q3 HO
      go_wp2_with fail
      refine (sum_any n A' P.length c' (picks ss P) _ HQ.out q1 q2).mono ?_
      rintro e w5 ⟨rfl, hb⟩
      rw [HOK.out]
      have Bv := Lib.hid (chain Bv.out hb)
      clear hb
      go_wp2_with fail
      go_ret2
      exact ⟨rfl, Bv.out⟩
set_option maxHeartbeats 1000000 in
theorem pick_size (n : Int) (A : Option Addr) (l c : Nat) (ss : List ByteArray) (N : Nat) (B : Option Addr) (k d : Nat) (us : List Nat) (w : World) (ht : Texts w A l ss) (hlc : l ≤ c) (hcm : c ≤ maxLen) (hu : Words w B k us) (h : okS n ss = true) (hr : rightB N us = true) (hT : TabAt w 0) (hNl : N ≠ l) :
    Calls Tryd.prog 35 #[.int .i64 n, .slice A l c, .agg #[.int .i64 N, .slice B k d]] w (PickOut ⟨#[]⟩ 1 w) := by
  have HB := Lib.hid (show Below w.heap.size w (w.alloc (.cells #[.int .i64 N, .slice B k d] 27)) from (Below.refl _ _).alloc (Nat.le_refl _) _)
  have Q := Lib.hid (Box.new w 27 #[.int .i64 N, .slice B k d])
  have HU := Lib.hid (hu.below HB.out)
  have HT := Lib.hid (hT.below HB.out)
  have HS := Lib.hid (sum_any n A l c ss _ (ht.below HB.out) hlc hcm)
  rw [sumE_ok h] at HS
  have HR := Lib.hid hr
  have tne : ((N : Int) != (l : Int)) = true := by rw [bne_iff_ne]; omega
  clear ht h hu hr hT hNl
  go_enter Tryd.func35, Tryd.ntmps35
  go_wp2_with fail
  refine HS.out.mono ?_
  rintro e w1 ⟨rfl, hb⟩
  have Bv := Lib.hid (chain HB.out hb)
  have Q := Lib.hid (Q.out.keep hb)
  have HU := Lib.hid (HU.out.below hb)
  have HT := Lib.hid (HT.out.below hb)
  clear hb
  obtain ⟨r0, r1, -, -⟩ := Q.out.two
  go_wp2_with fail
  refine (plc_yes N B k d us _ HR.out HU.out HT.out).mono ?_
  rintro e w2 ⟨v2, rfl, hown, hb⟩
  have Bv := Lib.hid (chain Bv.out hb)
  have Q := Lib.hid (Q.out.keep hb)
  clear hb hown r0 r1
  obtain ⟨r0, r1, -, -⟩ := Q.out.two
  go_wp2
  go_ret2
  exact ⟨rfl, Bv.out⟩
/-- What Pick tells, whatever comes in. -/
def pickE (n : Int) (ss : List ByteArray) (N : Int) (us : List Nat) : Int := if okS n ss then if rightB N us && N == (ss.length : Int) then 0 else 1 else 2
def pickS (n : Int) (ss : List ByteArray) (N : Int) (us : List Nat) : ByteArray := if okS n ss && (rightB N us && N == (ss.length : Int)) then sumS n (picks ss (plcN us N.toNat)) else ⟨#[]⟩
theorem pick_any (n : Int) (A : Option Addr) (l c : Nat) (ss : List ByteArray) (N : Int) (B : Option Addr) (k d : Nat) (us : List Nat) (w : World) (ht : Texts w A l ss) (hlc : l ≤ c) (hcm : c ≤ maxLen) (hu : Words w B k us) (hT : TabAt w 0) :
    Calls Tryd.prog 35 #[.int .i64 n, .slice A l c, .agg #[.int .i64 N, .slice B k d]] w (PickOut (pickS n ss N us) (pickE n ss N us) w) := by
  unfold pickS pickE
  cases h : okS n ss with
  | false => simpa using pick_sum n A l c ss N B k d w ht hlc hcm h
  | true =>
    cases hr : rightB N us with
    | false => simpa using pick_row n A l c ss N B k d us w ht hlc hcm hu h hr
    | true =>
      obtain ⟨M, rfl⟩ := Int.eq_ofNat_of_zero_le ((lmb_iff N).1 (right_lmb hr)).1
      rw [ht.1, Int.toNat_natCast]
      by_cases hN : M = l
      · have e : ((M : Int) == (l : Int)) = true := by simp [hN]
        rw [e]
        exact pick_good n A l c ss M B k d us w ht hlc hcm hu h hr hT hN
      · have e : ((M : Int) == (l : Int)) = false := by simp; omega
        rw [e]
        exact pick_size n A l c ss M B k d us w ht hlc hcm hu h hr hT hN
/-- A row's bits as numbers. -/
def bitsL (us : List Nat) (m : Nat) : List Int := (List.range m).map fun p => ((bitAt us p : Nat) : Int)
theorem bitsL_succ (us : List Nat) (m : Nat) : bitsL us (m + 1) = bitsL us m ++ [((bitAt us m : Nat) : Int)] := by simp [bitsL, List.range_succ]
theorem bitsL_len (us : List Nat) (m : Nat) : (bitsL us m).length = m := by simp [bitsL]
theorem bitsL_get (us : List Nat) (m j : Nat) (h : j < m) : (bitsL us m).getD j 0 = ((bitAt us j : Nat) : Int) := by simp [bitsL, List.getD, h]
theorem bitsL_lt (us : List Nat) (m j : Nat) : -9223372036854775808 ≤ (bitsL us m).getD j 0 ∧ (bitsL us m).getD j 0 ≤ 9223372036854775807 := by
  by_cases h : j < m
  · rw [bitsL_get us m j h]
    rcases bitAt_le us j with e | e <;> rw [e] <;> simp
  · have : (bitsL us m).getD j 0 = 0 := by simp [List.getD, List.getElem?_eq_none (show (bitsL us m).length ≤ j by rw [bitsL_len]; omega)]
    rw [this]; simp
end
section
/- A law of one's own for a region that draws its order: its first operations are taken while some cells are held (a call that makes memory among them), the last ones, which may write those very cells, come one after the other. No program. -/
set_option linter.unusedVariables false
set_option linter.unusedSimpArgs false
section
variable {P : Program} {ops : Array Oper} {Q : Exit → Act → World → Prop} {md : Region.Mode} {S : World → Prop}
/-- Whatever order the first m operations take, f of them are still to come; behind each S holds; L at the end. -/
def headH (P : Program) (md : Region.Mode) (ops : Array Oper) (Q : Exit → Act → World → Prop) (S : World → Prop) (m : Nat) (L : Array Bool → Act → World → Prop) : Nat → Array Bool → Act → World → Prop
  | 0, listed, a, w => L listed a w
  | f + 1, listed, a, w => Region.ready md ops listed ≠ [] ∧ ∀ i ∈ Region.ready md ops listed, i < m ∧ wpOp P ops Q i (fun a' w' => S w' ∧ headH P md ops Q S m L f (listed.setIfInBounds i true) a' w') a w
theorem any_of_headH {m g : Nat} {L : Array Bool → Act → World → Prop} (hL : ∀ listed a w, L listed a w → wpAny P md ops Q g listed a w) :
    ∀ (f : Nat) (listed : Array Bool) (a : Act) (w : World), headH P md ops Q S m L f listed a w → wpAny P md ops Q (f + g) listed a w
  | 0, listed, a, w, h => by rw [Nat.zero_add]; exact hL _ _ _ h
  | f + 1, listed, a, w, h => by
    rw [show f + 1 + g = (f + g) + 1 by omega]
    exact ⟨fun h0 => absurd h0 h.1, fun i hi => wpOp_mono (fun a' w' h' => any_of_headH hL f _ a' w' h'.2) (h.2 i hi).2⟩
theorem headH_first {m i : Nat} {oi : Oper} {v : Value} {L : Array Bool → Act → World → Prop} (hi : ops[i]? = some oi) (hsel : ∀ (j : Nat) (o : Oper) cs b, ops[j]? = some o → o.op ≠ .select cs b)
    (hw : ∀ listed, HeadInv md ops m listed → ∀ i, i < m → listed.getD i true = false → ∀ t, m ≤ t → t ∉ Region.ready md ops listed) (him : i < m)
    (hQ : ∀ c a w, Q (.panic c) (a.put oi.dst v) w → Q (.panic c) a w) (hdone : ∀ listed a w, L listed a w → ∀ j ∈ Region.ready md ops listed, m ≤ j) :
    ∀ (f : Nat) (listed : Array Bool) (a : Act) (w : World), HeadInv md ops m listed →
      (∀ j oj, ops[j]? = some oj → j ≠ i → listed.getD j true = false → (∀ e ∈ oj.after, Region.binds md e = true → e.on ≠ i) → oi.apart ops oj = true) →
      i ∈ Region.ready md ops listed → YieldsIf P ops S oi v a → S w →
      headH P md ops Q S m L f (listed.setIfInBounds i true) (a.put oi.dst v) w → headH P md ops Q S m L (f + 1) listed a w := by
  intro f
  induction f with
  | zero =>
    intro listed a w inv _ hr hy hS H
    have hun := (mem_ready.1 hr).1
    refine ⟨fun h => (by rw [h] at hr; cases hr), fun j hj => ?_⟩
    have hjm : j < m := by
      rcases Nat.lt_or_ge j m with h | h
      · exact h
      · exact absurd hj (hw listed inv i him hun j h)
    refine ⟨hjm, ?_⟩
    by_cases hji : j = i
    · subst hji; exact hy.wpOp hi hS ⟨hS, H⟩
    · have := hdone _ _ _ H j (ready_mono hj hji)
      omega
  | succ f ih =>
    intro listed a w inv hfree hr hy hS H
    have hun := (mem_ready.1 hr).1
    refine ⟨fun h => (by rw [h] at hr; cases hr), fun j hj => ?_⟩
    have hjm : j < m := by
      rcases Nat.lt_or_ge j m with h | h
      · exact h
      · exact absurd hj (hw listed inv i him hun j h)
    refine ⟨hjm, ?_⟩
    by_cases hji : j = i
    · subst hji; exact hy.wpOp hi hS ⟨hS, H⟩
    · have h1 := (H.2 j (ready_mono hj hji)).2
      obtain ⟨hjun, oj, hoj, hall⟩ := mem_ready.1 hj
      have hnot : ∀ e ∈ oj.after, Region.binds md e = true → e.on ≠ i := fun e he hb heq => by
        have h1 := hall e he hb
        rw [heq, getD_both hun] at h1
        cases h1
      have h2 := wpOp_putIf hoj (hfree j oj hoj hji hjun hnot) (fun cs b => hsel i oi cs b hi) (fun cs b => hsel j oj cs b hoj) hQ hy h1
      have hfree' : ∀ k ok, ops[k]? = some ok → k ≠ i → (listed.setIfInBounds j true).getD k true = false →
          (∀ e ∈ ok.after, Region.binds md e = true → e.on ≠ i) → oi.apart ops ok = true := fun k ok hk hki hun hno => by
        refine hfree k ok hk hki ?_ hno
        by_cases hjk : j = k
        · subst hjk; exact hjun
        · rw [getD_set_ne true hjk] at hun; exact hun
      refine wpOp_mono (fun a' w' h3 => ⟨h3.2.1, ih (listed.setIfInBounds j true) a' w' (inv.set hj hjm) hfree' (ready_mono hr (Ne.symm hji)) h3.1 h3.2.1 ?_⟩) h2
      rw [Array.setIfInBounds_comm _ _ hji]
      exact h3.2.2
/-- What is known of the list while the head goes on, as a Bool for the kernel. -/
def headB (md : Region.Mode) (ops : Array Oper) (m : Nat) (listed : Array Bool) : Bool :=
  (listed.size == ops.size) && ((List.range ops.size).all fun j => match ops[j]? with | some oj => !listed.getD j false || (oj.after.all fun e => !Region.binds md e || listed.getD e.on false) | none => true) && ((List.range ops.size).all fun t => decide (t < m) || !listed.getD t true)
theorem headB_inv {m : Nat} {listed : Array Bool} (h : headB md ops m listed = true) : HeadInv md ops m listed := by
  simp only [headB, Bool.and_eq_true, beq_iff_eq, List.all_eq_true, List.mem_range, Bool.or_eq_true, decide_eq_true_eq, Bool.not_eq_true'] at h
  obtain ⟨⟨h1, h2⟩, h3⟩ := h
  refine ⟨h1, fun j oj hj hl e he hb => ?_, fun t ht ht' => ?_⟩
  · have hlt : j < ops.size := (Array.getElem?_eq_some_iff.1 hj).1
    have := h2 j hlt
    simp only [hj, hl, Bool.not_true, Bool.false_or, Array.all_eq_true'] at this
    have := this e he
    simpa [hb] using this
  · rcases h3 t ht' with h | h
    · omega
    · exact h
/-- Take number i first. -/
theorem headH_take {m i : Nat} {oi : Oper} {v : Value} {f : Nat} {listed : Array Bool} {a : Act} {w : World} {L : Array Bool → Act → World → Prop} (hi : ops[i]? = some oi)
    (hall : (Region.noSelect ops && Region.sinkB md ops m && Region.chainB md ops m && decide (m < ops.size) && decide (i < m) && headB md ops m listed && Region.free md ops listed i && (Region.ready md ops listed).contains i) = true)
    (hQ : ∀ c a w, Q (.panic c) (a.put oi.dst v) w → Q (.panic c) a w) (hdone : ∀ listed a w, L listed a w → ∀ j ∈ Region.ready md ops listed, m ≤ j)
    (hy : YieldsIf P ops S oi v a) (hS : S w) (h : headH P md ops Q S m L f (listed.setIfInBounds i true) (a.put oi.dst v) w) : headH P md ops Q S m L (f + 1) listed a w := by
  simp only [Bool.and_eq_true, decide_eq_true_eq] at hall
  obtain ⟨⟨⟨⟨⟨⟨⟨h1, h2⟩, h3⟩, h4⟩, h5⟩, h6⟩, h7⟩, h8⟩ := hall
  exact headH_first hi (Region.noSelect_spec h1) (fun listed inv i him hun t ht => tail_waits h2 h3 h4 inv _ i rfl him hun t ht) h5 hQ hdone f listed a w (headB_inv h6) (Region.free_spec hi h7) (by simpa using h8) hy hS h
/-- All that come behind the first m wait for each of them. -/
def barB (md : Region.Mode) (ops : Array Oper) (m : Nat) : Bool := (List.range ops.size).all fun t => decide (t < m) || ((List.range m).all fun i => Region.waitsFor md ops t i)
theorem bar_waits {m : Nat} (h : barB md ops m = true) (listed : Array Bool) (i : Nat) (him : i < m) (hun : listed.getD i true = false) (t : Nat) (ht : m ≤ t) : t ∉ Region.ready md ops listed := by
  intro hr
  obtain ⟨_, ot, hot, hall⟩ := mem_ready.1 hr
  have htlt : t < ops.size := (Array.getElem?_eq_some_iff.1 hot).1
  simp only [barB, List.all_eq_true, List.mem_range, Bool.or_eq_true, decide_eq_true_eq] at h
  rcases h t htlt with h1 | h1
  · omega
  · obtain ⟨o', ho', e, he, hb, hon⟩ := Region.waitsFor_spec (h1 i him)
    have : o' = ot := Option.some.inj (ho'.symm.trans hot)
    subst this
    have h2 := hall e he hb
    rw [hon, getD_both hun] at h2
    cases h2
/-- Take number i first, ahead of a bar. -/
theorem headB_take {m i : Nat} {oi : Oper} {v : Value} {f : Nat} {listed : Array Bool} {a : Act} {w : World} {L : Array Bool → Act → World → Prop} (hi : ops[i]? = some oi)
    (hall : (Region.noSelect ops && barB md ops m && decide (i < m) && headB md ops m listed && Region.free md ops listed i && (Region.ready md ops listed).contains i) = true)
    (hQ : ∀ c a w, Q (.panic c) (a.put oi.dst v) w → Q (.panic c) a w) (hdone : ∀ listed a w, L listed a w → ∀ j ∈ Region.ready md ops listed, m ≤ j)
    (hy : YieldsIf P ops S oi v a) (hS : S w) (h : headH P md ops Q S m L f (listed.setIfInBounds i true) (a.put oi.dst v) w) : headH P md ops Q S m L (f + 1) listed a w := by
  simp only [Bool.and_eq_true, decide_eq_true_eq] at hall
  obtain ⟨⟨⟨⟨⟨h1, h2⟩, h5⟩, h6⟩, h7⟩, h8⟩ := hall
  exact headH_first hi (Region.noSelect_spec h1) (fun listed _ i him hun t ht => bar_waits h2 listed i him hun t ht) h5 hQ hdone f listed a w (headB_inv h6) (Region.free_spec hi h7) (by simpa using h8) hy hS h
/-- Have the first m come up? -/
def passedB (m : Nat) (listed : Array Bool) : Bool := (List.range m).all fun i => listed.getD i false
theorem passed_ready {m : Nat} {listed : Array Bool} (h : passedB m listed = true) : ∀ j ∈ Region.ready md ops listed, m ≤ j := by
  intro j hj
  obtain ⟨hun, oj, hoj, -⟩ := mem_ready.1 hj
  refine Nat.le_of_not_lt fun hlt => ?_
  have := List.all_eq_true.1 h j (List.mem_range.2 hlt)
  rw [getD_both hun] at this
  cases this
/-- THE BEGINNING, ahead of a bar: what comes behind it goes in whatever order. -/
theorem wp_held_bar {id : Nat} {a : Act} {w : World} {l : List Oper} (m : Nat) (hmx : P.follows .mixedOrders = true) (hm : m ≤ l.length)
    (h : headH P .any l.toArray Q S m (fun listed a w => passedB m listed = true ∧ wpAny P .any l.toArray Q (l.length - m) listed a w) m (Array.replicate l.toArray.size false) a w.drew) : (Code.region id l.toArray true).wp P Q a w := by
  refine wp_region_any hmx ?_
  have := any_of_headH (g := l.length - m) (fun listed a' w' hL => hL.2) _ _ _ _ h
  rw [show m + (l.length - m) = l.toArray.size by simp; omega] at this
  exact this
/-- Only number i may come up: behind it S is to be shown anew. -/
theorem headH_one {m i : Nat} {o : Oper} {f : Nat} {listed : Array Bool} {a : Act} {w : World} {L : Array Bool → Act → World → Prop} (hr : (Region.ready md ops listed == [i] && decide (i < m)) = true) (ho : ops[i]? = some o)
    (h : ∀ K' : Act → World → Prop, Shut (∀ a w, S w → (S w → headH P md ops Q S m L f (listed.setIfInBounds i true) a w) → K' a w) → if Region.wanted o (yielded ops a.tmps) = true then Oper.wp P o a w K' Q else K' (a.put o.dst undef) w) : headH P md ops Q S m L (f + 1) listed a w := by
  simp only [Bool.and_eq_true, beq_iff_eq, decide_eq_true_eq] at hr
  refine ⟨by rw [hr.1]; simp, fun j hj => ?_⟩
  rw [hr.1] at hj
  have hji : j = i := by simpa using hj
  subst hji
  exact ⟨hr.2, wpOp_step ho (fun K' hK => h K' (fun a w hS hW => hK a w ⟨hS, hW hS⟩))⟩
/-- THE BEGINNING: the first m operations so, the rest in their order. -/
theorem wp_held_tail {id : Nat} {a : Act} {w : World} {l : List Oper} (m : Nat) (hmx : P.follows .mixedOrders = true) (hm : m ≤ l.length)
    (h : headH P .any l.toArray Q S m (fun listed a w => Region.seqB .any l.toArray (l.length - m) m listed = true ∧ wpList P l.toArray Q (l.drop m) a w) m (Array.replicate l.toArray.size false) a w.drew) : (Code.region id l.toArray true).wp P Q a w := by
  refine wp_region_any hmx ?_
  have := any_of_headH (g := l.length - m) (fun listed a' w' hL => by
    have hdl : (l.drop m).length = l.length - m := by simp
    have := wpAny_of_seq (md := .any) (Q' := Q) (l.drop m) m listed a' w' (fun j => by simp [List.getElem?_drop]) (by rw [hdl]; exact hL.1) hL.2
    rwa [hdl] at this) _ _ _ _ h
  rw [show m + (l.length - m) = l.toArray.size by simp; omega] at this
  exact this
theorem seq_done {l : List Oper} {g m : Nat} {R : Array Bool → Act → World → Prop} (listed : Array Bool) (a : Act) (w : World) (h : Region.seqB md l.toArray g m listed = true ∧ R listed a w) : ∀ j ∈ Region.ready md l.toArray listed, m ≤ j := seqB_ready h.1
end
end
section
/- BlockPicks: the walk. -/
set_option linter.unusedVariables false
set_option linter.unusedSimpArgs false
open Go.RowKit
theorem sumL_snoc1 (n : Nat) (L : List ByteArray) (s : ByteArray) : sumL n (L ++ [s]) = bxL (sumL n L) s.data.toList := by simp [sumL]
theorem bxL_get (l t : List UInt8) (i : Nat) (h : i < l.length) : (bxL l t).getD i 0 = l.getD i 0 ^^^ t.getD i 0 := by simp [bxL, List.getD, h]
theorem bsum_bits (n : Nat) (ss : List ByteArray) (us : List Nat) (N i k : Nat) (hi : i < n) (hk : k ≤ N) : bsum ss (bitsL us N) i k = (sumL n (picks ss (plcN us k))).getD i 0 := by
  induction k with
  | zero => simp [bsum, plcN, picks, sumL, List.getD, hi]
  | succ k ih =>
    have ih := ih (by omega)
    have hb := bitsL_get us N k (by omega)
    rw [plcN_succ]
    simp only [bsum]
    rw [hb]
    rcases bitAt_le us k with h | h
    · rw [h, if_neg (by omega)]
      simpa using ih
    · rw [h, if_pos rfl, if_pos (by decide), show picks ss (plcN us k ++ [k]) = picks ss (plcN us k) ++ [ss.getD k ByteArray.empty] by simp [picks], sumL_snoc1, bxL_get _ _ _ (by rw [sumL_length]; exact hi), ih]
theorem bsums_bits (n : Nat) (ss : List ByteArray) (us : List Nat) (N : Nat) : bsums ss (bitsL us N) N n = sumL n (picks ss (plcN us N)) := by
  apply List.ext_getElem
  · simp [bsums, sumL_length]
  · intro i h1 h2
    have hi : i < n := by simpa [bsums] using h1
    have := bsum_bits n ss us N i N hi (Nat.le_refl _)
    simp only [bsums, List.getElem_map, List.getElem_range, this]
    simp [List.getD, h2]
theorem Texts.far {w : World} {A : Option Addr} {len : Nat} {ss : List ByteArray} {g : Nat} {t : TypeId} {x : Int} {S : Option Addr} {p q : Nat} (h : Texts w A len ss) (hb : Box w g t #[.int .i64 x, .slice S p q]) (i : Nat) (u : Value) : Texts (w.setCell ⟨g, i, none⟩ u) A len ss := by
  refine ⟨h.1, h.2.1, fun hp => ?_⟩
  obtain ⟨b, off, rfl, hlt, hc⟩ := h.2.2 hp
  have hne : b ≠ g := by
    intro e
    subst e
    have c := hc 0 hp
    rw [hb.cell] at c
    match off, c with
    | 0, c => simp at c
    | 1, c => simp at c
    | k + 2, c => simp at c
  refine ⟨b, off, rfl, by simpa [World.setCell] using hlt, fun j hj => ?_⟩
  rw [World.cell?_setCell_other _ _ _ _ (by intro e; injection e; omega)]
  exact hc j hj
theorem Texts.drewT {w : World} {A : Option Addr} {len : Nat} {ss : List ByteArray} (h : Texts w A len ss) : Texts w.drew A len ss := h
theorem strB_ne (l : List UInt8) (h : l ≠ []) : True := trivial
end
section
/- The reference's Texts: two rows of texts that are the same. -/
set_option linter.unusedVariables false
set_option linter.unusedSimpArgs false
open Go.RowKit
set_option maxHeartbeats 1000000 in
theorem refTexts_same (A B : Option Addr) (l c d : Nat) (ss : List ByteArray) (w : World) (hu : Texts w A l ss) (hv : Texts w B l ss) (hl : l ≤ 1000000) :
    Calls Tryd.prog 21 #[.slice A l c, .slice B l d] w fun e w' => e = .returned (.bool true) ∧ Below w.heap.size w w' := by
  have HU := Lib.hid hu
  have HV := Lib.hid hv
  clear hu hv
  have t2 : ((l : Int) != (l : Int)) = false := by simp
  go_enter Tryd.func21, Tryd.ntmps21
  go_wp2_with fail
  clear t2
  go_loopw [13] (fun i wr => ∃ j : Nat, j ≤ l ∧ i = .int .i64 j ∧ Below w.heap.size w wr) (fun i _ => l - (intOf i).toNat)
  case atStart => exact ⟨0, by omega, rfl, Below.refl _ _⟩
  case round =>
    obtain ⟨j, hj, rfl, hbel⟩ := hrel
    have HB := Lib.hid hbel
    clear hbel
    by_cases hlt : j < l
    · obtain ⟨p, o, rfl, lt1, hc1⟩ := HU.out.2.2 (by omega)
      obtain ⟨p2, o2, rfl, lt2, hc2⟩ := HV.out.2.2 (by omega)
      have cu := (HB.out.cell (p := ⟨p, o + j, none⟩) lt1).trans (hc1 j hlt)
      have cv := (HB.out.cell (p := ⟨p2, o2 + j, none⟩) lt2).trans (hc2 j hlt)
      generalize ss.getD j ByteArray.empty = s at *
      clear hc1 hc2
      have hlt' : (j : Int) < (l : Int) := by omega
      have hj0 : (0 : Int) ≤ (j : Int) := by omega
      go_wp2
      go_quiet (fail)
      go_wp2_with fail
      go_roundw
      case rel => exact ⟨j + 1, by omega, by go_num, bdN HB.out _⟩
      case measure => simp [intOf]; omega
    · obtain rfl : j = l := by omega
      go_wp2
      go_ret
      exact ⟨rfl, HB.out⟩
end
section
/- Contracts of layer 3: Apply, the reference's Apply; law 03's blocks; the reference's Texts. -/
set_option linter.unusedVariables false
set_option linter.unusedSimpArgs false
open Go.RowKit
theorem sumS_size (n : Int) (ss : List ByteArray) : (sumS n ss).size ≤ 64 := by
  unfold sumS
  split
  · rename_i h
    simp only [okS, Bool.and_eq_true] at h
    have := (smb_iff n).1 h.1.1
    show (sumL n.toNat ss).toArray.size ≤ 64
    rw [List.size_toArray, sumL_length]; omega
  · exact Nat.zero_le _
theorem pickS_size (n : Int) (ss : List ByteArray) (N : Int) (us : List Nat) : (pickS n ss N us).size ≤ 64 := by
  unfold pickS
  split
  · exact sumS_size _ _
  · exact Nat.zero_le _
/-- What Apply tells. -/
def appB (n N : Int) (ms : List (Int × List Nat)) (ss : List ByteArray) : Bool := rightM N ms && (okS n ss && (ss.length : Int) == N)
def appE (n N : Int) (ms : List (Int × List Nat)) (ss : List ByteArray) : Int := if rightM N ms then if okS n ss then if (ss.length : Int) == N then 0 else 2 else 2 else 1
def appF (n N : Int) (ms : List (Int × List Nat)) (ss : List ByteArray) (i : Nat) : ByteArray := pickS n ss N (ms.getD i (0, [])).2
def appR (n N : Int) (ms : List (Int × List Nat)) (ss : List ByteArray) : List ByteArray := (List.range ms.length).map (appF n N ms ss)
def appL (n N : Int) (ms : List (Int × List Nat)) (ss : List ByteArray) : List ByteArray := if appB n N ms ss then appR n N ms ss else []
theorem appR_len (n N : Int) (ms : List (Int × List Nat)) (ss : List ByteArray) : (appR n N ms ss).length = ms.length := by simp [appR]
theorem appR_at (n N : Int) (ms : List (Int × List Nat)) (ss : List ByteArray) (i : Nat) (h : i < ms.length) : (appR n N ms ss).getD i ByteArray.empty = appF n N ms ss i := by simp [appR, List.getD, h]
theorem appR_le (n N : Int) (ms : List (Int × List Nat)) (ss : List ByteArray) (i : Nat) : ((appR n N ms ss).getD i ByteArray.empty).size ≤ maxLen := by
  by_cases h : i < ms.length
  · rw [appR_at n N ms ss i h]
    have := pickS_size n ss N (ms.getD i (0, [])).2
    unfold appF maxLen; omega
  · have e : (appR n N ms ss)[i]? = none := List.getElem?_eq_none (by rw [appR_len]; omega)
    simp [List.getD, e, maxLen]
/-- Texts as cells. -/
def strCells (ss : List ByteArray) : Array Value := (ss.map Value.string).toArray
theorem strCells_get (ss : List ByteArray) (j : Nat) (h : j < ss.length) : (strCells ss)[j]? = some (.string (ss.getD j ByteArray.empty)) := by simp [strCells, List.getD, h]
theorem strCells_set (ss : List ByteArray) (k : Nat) (s : ByteArray) : (strCells ss).setIfInBounds k (.string s) = strCells (ss.set k s) := by simp [strCells, List.map_set]
theorem makeStr_any (n : Nat) (hn : n ≤ 1000000) (w : World) :
    (Instr.makeSlice 44 (.int .i64 (n : Int)) (.int .i64 (n : Int))).run Tryd.prog w = .ok (.slice (some ⟨w.heap.size, 0, none⟩) n n) (w.alloc (.cells (strCells (List.replicate n ⟨#[]⟩)) 9)) := by
  obtain ⟨i0, hi, hz0, hz1, hz2⟩ := info_parts string_info
  have hr := run_make (P := Tryd.prog) w _ _ i0 _ Tryd.underlying44 hi hz0 .i64 .i64 n n (by omega) (by omega) (by rw [hz2]; omega) (by omega)
  simp only [Int.toNat_natCast, hz1, Nat.mul_one] at hr
  rw [hr]
  have : madeCells (Value.string ⟨#[]⟩).cells n = strCells (List.replicate n ⟨#[]⟩) := by
    apply Array.toList_inj.1
    have := toList_madeCells_one (Value.string ⟨#[]⟩) n
    simpa [Value.cells, strCells] using this
  rw [this]
theorem Box.texts {w : World} {g : Nat} {t : TypeId} {ss : List ByteArray} (h : Box w g t (strCells ss)) (hz : ∀ j, (ss.getD j ByteArray.empty).size ≤ maxLen) : Texts w (some ⟨g, 0, none⟩) ss.length ss :=
  ⟨rfl, hz, fun _ => ⟨g, 0, rfl, h.lt, fun j hj => by rw [Nat.zero_add, h.cell j, strCells_get ss j hj]⟩⟩
/-- What Apply hands back. -/
def AppOut (ls : List ByteArray) (er : Int) (w : World) (e : Ending) (w' : World) : Prop :=
  ∃ A c, e = .returned (.tuple #[.slice A ls.length c, .int .i64 er]) ∧ ls.length ≤ c ∧ c ≤ maxLen ∧ Texts w' A ls.length ls ∧ Below w.heap.size w w'
set_option maxHeartbeats 4000000 in
theorem apply_any (n N : Int) (A : Option Addr) (l c lo : Nat) (ms : List (Int × List Nat)) (L : Option Addr) (k d : Nat) (ss : List ByteArray) (w : World) (hm : MatAt w lo A l ms) (hl : l ≤ maxLen) (ht : Texts w L k ss) (hkd : k ≤ d) (hd : d ≤ maxLen) (hT : TabAt w 0) :
    Calls Tryd.prog 16 #[.agg #[.int .i64 N, .slice A l c], .int .i64 n, .slice L k d] w (AppOut (appL n N ms ss) (appE n N ms ss) w) := by
  have Q0 := Lib.hid (Box.new w 24 #[.int .i64 N, .slice A l c])
  have HW := Lib.hid (show Below w.heap.size w (w.alloc (.cells #[.int .i64 N, .slice A l c] 24)) from (Below.refl _ _).alloc (Nat.le_refl _) _)
  have HM := Lib.hid hm
  have HTx := Lib.hid ht
  have HT := Lib.hid hT
  have HL := Lib.hid hm.1
  have HK := Lib.hid ht.1
  have HR := Lib.hid (mright_any N A l c lo ms _ (hm.below HW.out) hl)
  clear hm ht hT
  obtain ⟨r0, r1, -, -⟩ := Q0.out.two
  cases h : rightM N ms with
  | false =>
    have e2 : appL n N ms ss = [] := by simp [appL, appB, h]
    have e3 : appE n N ms ss = 1 := by simp [appE, h]
    rw [e2, e3]
    rw [h] at HR
    clear e2 e3 h
    go_enter Tryd.func16, Tryd.ntmps16
    go_wp2_with fail
    refine HR.out.mono ?_
    rintro e w1 ⟨rfl, hb⟩
    have B := Lib.hid (chainN HW.out HW.out.size hb)
    clear hb r0 r1
    go_wp2
    go_ret2
    exact ⟨none, 0, rfl, Nat.le_refl _, Nat.zero_le _, Texts.nil _ _, B.out⟩
  | true =>
    have HR1 := Lib.hid h
    rw [h] at HR
    have HSum := Lib.hid (fun W (hW : Below w.heap.size w W) => sum_any n L k d ss W (HTx.out.mono (Nat.le_refl _) hW) hkd hd)
    cases h2 : okS n ss with
    | false =>
      have e2 : appL n N ms ss = [] := by simp [appL, appB, h2]
      have e3 : appE n N ms ss = 2 := by simp [appE, h, h2]
      have e4 := Lib.hid (sumE_no h2)
      rw [e2, e3]
      clear e2 e3 h h2
      go_enter Tryd.func16, Tryd.ntmps16
      go_wp2_with fail
      refine HR.out.mono ?_
      rintro e w1 ⟨rfl, hb⟩
      have B := Lib.hid (chainN HW.out HW.out.size hb)
      clear hb r0 r1
      go_wp2_with fail
      refine (HSum.out _ B.out).mono ?_
      rw [e4.out]
      rintro e w2 ⟨rfl, hb⟩
      have B := Lib.hid (chainN B.out B.out.size hb)
      clear hb
      go_wp2
      go_ret2
      exact ⟨none, 0, rfl, Nat.le_refl _, Nat.zero_le _, Texts.nil _ _, B.out⟩
    | true =>
      have e4 := Lib.hid (sumE_ok h2)
      have hbd := rightM_bd h
      have hl64 := hbd.2.2
      rw [HL.out] at hl64
      unfold maxLen at hd
      by_cases hN : (k : Int) = N
      · have e1 : appB n N ms ss = true := by simp [appB, h, h2, HK.out, hN]
        have e2 : appL n N ms ss = appR n N ms ss := by simp [appL, e1]
        have e3 : appE n N ms ss = 0 := by simp [appE, h, h2, HK.out, hN]
        rw [e2, e3]
        have t1 : ((k : Int) != N) = false := by simpa using hN
        have HRL := Lib.hid (show (appR n N ms ss).length = l by rw [appR_len, HL.out])
        clear e1 e2 e3 h h2 hbd hN
        go_enter Tryd.func16, Tryd.ntmps16
        go_wp2_with fail
        refine HR.out.mono ?_
        rintro e w1 ⟨rfl, hb⟩
        have P := Lib.hid (Q0.out.keep hb)
        have B := Lib.hid (chainN HW.out HW.out.size hb)
        clear hb r0 r1
        go_wp2_with fail
        refine (HSum.out _ B.out).mono ?_
        rw [e4.out]
        rintro e w2 ⟨rfl, hb⟩
        have P := Lib.hid (P.out.keep hb)
        have B := Lib.hid (chainN B.out B.out.size hb)
        clear hb
        obtain ⟨r0, r1, -, -⟩ := P.out.two
        have mk := makeStr_any l (by omega) w2
        have BX := Lib.hid (Box.new w2 9 (strCells (List.replicate l ⟨#[]⟩)))
        have P2 := Lib.hid (P.out.alloc (.cells (strCells (List.replicate l ⟨#[]⟩)) 9))
        have B2 := Lib.hid (B.out.alloc B.out.size (.cells (strCells (List.replicate l ⟨#[]⟩)) 9))
        have hws : w.heap.size < w2.heap.size := P.out.lt
        obtain ⟨u0, u1, -, -⟩ := P2.out.two
        go_wp2_with fail
        generalize w2.alloc (.cells (strCells (List.replicate l ⟨#[]⟩)) 9) = W at *
        clear mk r0 r1 u0 u1
        go_loopw [37] (fun t wr => ∃ (i : Nat) (ts : List ByteArray), i ≤ l ∧ t = .int .i64 i ∧ ts.length = l ∧ Box wr w2.heap.size 9 (strCells ts) ∧ Hid (∀ j, j < i → ts.getD j ByteArray.empty = appF n N ms ss j) ∧ Below w.heap.size w wr) (fun t _ => l - (intOf t).toNat)
        case atStart => exact ⟨0, _, by omega, rfl, by simp, BX.out, Lib.hid (fun j hj => absurd hj (Nat.not_lt_zero _)), B2.out⟩
        case round =>
          obtain ⟨i, ts, hi, rfl, hts, hbx, HF, hbel⟩ := hrel
          have R := Lib.hid hbx
          have HB := Lib.hid hbel
          have HTL := Lib.hid hts
          clear hbx hbel hts BX P2 B2
          by_cases hlt : i < l
          · have hlt' : (i : Int) < (l : Int) := by omega
            obtain ⟨g1, o1, B1, k1, e1, rfl, hg1, x1, y1, s1, u1⟩ := (HM.out.mono (Nat.le_refl _) HB.out).at i hlt
            obtain ⟨hN, hrr⟩ := rightM_at HR1.out i (by rw [HL.out]; exact hlt)
            rw [hN] at x1
            have HFI := Lib.hid (show appF n N ms ss i = pickS n ss N (ms.getD i (0, [])).2 from rfl)
            have R1 := Lib.hid (R.out.alloc (.cells #[.int .i64 N, .slice B1 k1 e1] 27))
            have HB1 := Lib.hid (HB.out.alloc HB.out.size (.cells #[.int .i64 N, .slice B1 k1 e1] 27))
            have HP := Lib.hid (pick_any n L k d ss N B1 k1 e1 (ms.getD i (0, [])).2 _ (HTx.out.mono (Nat.le_refl _) HB1.out) hkd (by unfold maxLen; exact hd) (u1.alloc (.cells #[.int .i64 N, .slice B1 k1 e1] 27)) (HT.out.below HB1.out))
            obtain ⟨p0, p1, -, -⟩ := (Box.new wr 27 #[.int .i64 N, .slice B1 k1 e1]).two
            clear hN hrr s1 u1
            generalize pickS n ss N (ms.getD i (0, [])).2 = s at *
            generalize pickE n ss N (ms.getD i (0, [])).2 = er at *
            go_wp2_with fail
            refine HP.out.mono ?_
            rintro e x2 ⟨rfl, hb⟩
            have R2 := Lib.hid (R1.out.keep hb)
            have HB2 := Lib.hid (chainN HB1.out HB1.out.size hb)
            clear hb p0 p1
            have c0 : x2.cell? ⟨w2.heap.size, i, none⟩ = some (.string (ts.getD i ByteArray.empty)) := by rw [R2.out.cell, strCells_get ts i (by rw [HTL.out]; exact hlt)]
            have f0 := R2.out.free i
            go_wp2_with fail
            go_roundw
            case rel =>
              refine ⟨i + 1, ts.set i s, by omega, by go_num, by simp [HTL.out], ?_, Lib.hid (fun j hj => ?_), HB2.out.setCell (p := ⟨w2.heap.size, i, none⟩) (by simp; omega) _⟩
              · rw [← strCells_set]; exact R2.out.put i _
              · by_cases hji : j = i
                · subst hji
                  rw [HFI.out]; simp [List.getD, HTL.out, hlt]
                · have := HF.out j (by omega)
                  simp only [List.getD] at this ⊢
                  rw [List.getElem?_set_ne (by omega)]; exact this
            case measure => simp [intOf] <;> omega
          · obtain rfl : l = i := by omega
            have hlt' : ¬ (l : Int) < (l : Int) := by omega
            have HE := Lib.hid (show ts = appR n N ms ss by
              apply List.ext_getElem
              · rw [HTL.out, HRL.out]
              · intro j h1 h2
                have h1' : j < l := by rw [HTL.out] at h1; exact h1
                have := HF.out j h1'
                rw [← appR_at n N ms ss j (by rw [HL.out]; exact h1')] at this
                simpa [List.getD, h1, h2] using this)
            have HX := Lib.hid (R.out.texts (by rw [HE.out]; exact appR_le n N ms ss))
            rw [HTL.out, HE.out] at HX
            go_wp2
            go_ret2
            exact ⟨some ⟨w2.heap.size, 0, none⟩, l, by rw [HRL.out]; rfl, by rw [HRL.out]; exact Nat.le_refl _, by unfold maxLen; omega, by rw [HRL.out]; exact HX.out, HB.out⟩
      · have e2 : appL n N ms ss = [] := by simp [appL, appB, HK.out, hN]
        have e3 : appE n N ms ss = 2 := by simp [appE, h, h2, HK.out, hN]
        rw [e2, e3]
        have t1 : ((k : Int) != N) = true := by simpa using hN
        clear e2 e3 h h2 hbd hN
        go_enter Tryd.func16, Tryd.ntmps16
        go_wp2_with fail
        refine HR.out.mono ?_
        rintro e w1 ⟨rfl, hb⟩
        have P := Lib.hid (Q0.out.keep hb)
        have B := Lib.hid (chainN HW.out HW.out.size hb)
        clear hb r0 r1
        go_wp2_with fail
        refine (HSum.out _ B.out).mono ?_
        rw [e4.out]
        rintro e w2 ⟨rfl, hb⟩
        have P := Lib.hid (P.out.keep hb)
        have B := Lib.hid (chainN B.out B.out.size hb)
        clear hb
        obtain ⟨r0, r1, -, -⟩ := P.out.two
        go_wp2
        go_ret2
        exact ⟨none, 0, rfl, Nat.le_refl _, Nat.zero_le _, Texts.nil _ _, B.out⟩
end
section
/- Equations that blocks make: Apply's answers as numbers. -/
set_option linter.unusedVariables false
set_option linter.unusedSimpArgs false
open Go.RowKit
theorem appF_sum5 {n k : Nat} {ms : List (Int × List Nat)} {ss : List ByteArray} (hr : rightM k ms = true) (ho : okS n ss = true) (hk : ss.length = k) (i : Nat) (hi : i < ms.length) : appF n k ms ss i = ⟨(bsums ss (bitsL (ms.getD i (0, [])).2 k) k n).toArray⟩ := by
  have h := (rightM_at hr i hi).2
  have e : ((k : Int) == (ss.length : Int)) = true := by simp [hk]
  have h2 := okS_picks ho (ms.getD i (0, [])).2
  rw [hk] at h2
  unfold appF pickS
  rw [ho, h, e, bsums_bits]
  simp only [Bool.and_self, if_true, Int.toNat_natCast, sumS, h2]
end
end Go.Proofs.YtdfmogcgangdnaaDoor
