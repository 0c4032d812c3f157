/- Parts: Getr, Mat1, Block1, Mat2, Like, Mat3, Mat4, Chain, MatM, Mat5, Mat6, Mat7, Mat8, Rd1, Rd2, RngS. -/
import Derived.Test.YtmfhimeffmpgaaaGreatZf
import Derived.Deep.AppendLies
import Derived.Deep.RegionHeld3
import Derived.Deep.RegionLaw
import Derived.Deep.RegionWith
import Derived.Deep.SlicePairs
import Derived.Laws.IdiomStrings
import Derived.OpenShut
import Derived.RangeFuncBound
import Derived.RangeFuncBox
import Derived.RangeFuncCalls
import Derived.RangeFuncLeaves
import Derived.RangeFuncNested
import Derived.Shelf.Abstract
namespace Go.Proofs.YtmfhimeffmpgaaaGreat
section
/- bitrow.Get. -/
set_option linter.unusedVariables false
set_option linter.unusedSimpArgs false
open Go.RowKit
/-- What Get tells. -/
def getV (N : Int) (us : List Nat) (i : Int) : Int := if rightB N us && (decide (0 ≤ i) && decide (i < N)) then (bitAt us i.toNat : Nat) else 0
def getE (N : Int) (us : List Nat) (i : Int) : Int := if rightB N us then if decide (0 ≤ i) && decide (i < N) then 0 else 3 else 1
theorem get_bad (N i : Int) (A : Option Addr) (len c : Nat) (us : List Nat) (w : World) (hr : rightB N us = false) (hW : Words w A len us) :
    Calls Tryz.prog 97 #[.agg #[.int .i64 N, .slice A len c], .int .i64 i] w fun e w' => e = .returned (.tuple #[.int .i64 0, .int .i64 1]) ∧ Below w.heap.size w w' := by
  have Q := Lib.hid (Box.new w 56 #[.int .i64 N, .slice A len c])
  have HB := Lib.hid (show Below w.heap.size w (w.alloc (.cells #[.int .i64 N, .slice A len c] 56)) from (Below.refl _ _).alloc (Nat.le_refl _) _)
  have HR := Lib.hid (right_any N A len c us _ (hW.alloc (.cells #[.int .i64 N, .slice A len c] 56)))
  rw [hr] at HR
  obtain ⟨r0, r1, -, -⟩ := Q.out.two
  clear hW hr
  go_enter Tryz.func97, Tryz.ntmps97
  go_wp2_with fail
  refine HR.out.mono ?_
  rintro e w1 ⟨rfl, hb⟩
  have B := Lib.hid (chain HB.out hb)
  clear hb
  go_wp2
  go_ret2
  exact ⟨rfl, B.out⟩
theorem get_far (N i : Int) (A : Option Addr) (len c : Nat) (us : List Nat) (w : World) (hr : rightB N us = true) (hi : (decide (0 ≤ i) && decide (i < N)) = false) (hW : Words w A len us) :
    Calls Tryz.prog 97 #[.agg #[.int .i64 N, .slice A len c], .int .i64 i] w fun e w' => e = .returned (.tuple #[.int .i64 0, .int .i64 3]) ∧ Below w.heap.size w w' := by
  have Q := Lib.hid (Box.new w 56 #[.int .i64 N, .slice A len c])
  have HB := Lib.hid (show Below w.heap.size w (w.alloc (.cells #[.int .i64 N, .slice A len c] 56)) from (Below.refl _ _).alloc (Nat.le_refl _) _)
  have HR := Lib.hid (right_any N A len c us _ (hW.alloc (.cells #[.int .i64 N, .slice A len c] 56)))
  rw [hr] at HR
  have HI := Lib.hid (isPlace_any N A len c i)
  rw [hi] at HI
  obtain ⟨r0, r1, -, -⟩ := Q.out.two
  clear hW hr hi
  go_enter Tryz.func97, Tryz.ntmps97
  go_wp2_with fail
  refine HR.out.mono ?_
  rintro e w1 ⟨rfl, hb⟩
  have B := Lib.hid (chain HB.out hb)
  have Q := Lib.hid (Q.out.keep hb)
  clear hb r0 r1
  obtain ⟨r0, r1, -, -⟩ := Q.out.two
  go_wp2_with fail
  refine (HI.out _).mono ?_
  rintro e w2 ⟨rfl, hb⟩
  have B := Lib.hid (chain B.out hb)
  clear hb
  go_wp2
  go_ret2
  exact ⟨rfl, B.out⟩
set_option maxHeartbeats 1000000 in
theorem get_yes (N i : Nat) (A : Option Addr) (len c : Nat) (us : List Nat) (w : World) (hr : rightB N us = true) (hi : i < N) (hW : Words w A len us) :
    Calls Tryz.prog 97 #[.agg #[.int .i64 N, .slice A len c], .int .i64 i] w fun e w' => e = .returned (.tuple #[.int .i64 (bitAt us i : Nat), .int .i64 0]) ∧ Below w.heap.size w w' := by
  have hl8 := rightB_len8 hr hW.1
  have hnw : i < 64 * len := by
    have h := hr
    simp only [rightB, Bool.and_eq_true, beq_iff_eq, Int.toNat_natCast] at h
    have h1 := h.1.2
    rw [hW.1] at h1
    unfold nw at h1
    omega
  have Q := Lib.hid (Box.new w 56 #[.int .i64 N, .slice A len c])
  have HB := Lib.hid (show Below w.heap.size w (w.alloc (.cells #[.int .i64 N, .slice A len c] 56)) from (Below.refl _ _).alloc (Nat.le_refl _) _)
  have HW := Lib.hid (hW.alloc (.cells #[.int .i64 N, .slice A len c] 56))
  have HR := Lib.hid (right_any N A len c us _ HW.out)
  rw [hr] at HR
  have HI := Lib.hid (isPlace_any N A len c i)
  rw [show (decide ((0 : Int) ≤ i) && decide ((i : Int) < N)) = true by simp; omega] at HI
  obtain ⟨r0, r1, -, -⟩ := Q.out.two
  clear hW hr
  go_enter Tryz.func97, Tryz.ntmps97
  go_wp2_with fail
  refine HR.out.mono ?_
  rintro e w1 ⟨rfl, hb⟩
  have B := Lib.hid (chain HB.out hb)
  have Q := Lib.hid (Q.out.keep hb)
  have HW := Lib.hid (HW.out.below hb)
  clear hb r0 r1
  obtain ⟨r0, r1, -, -⟩ := Q.out.two
  go_wp2_with fail
  refine (HI.out _).mono ?_
  rintro e w2 ⟨rfl, hb⟩
  have B := Lib.hid (chain B.out hb)
  have Q := Lib.hid (Q.out.keep hb)
  have HW := Lib.hid (HW.out.below hb)
  clear hb r0 r1 HI HR HB
  obtain ⟨r0, r1, -, -⟩ := Q.out.two
  obtain ⟨b, off, rfl, hlb, hc⟩ := HW.out.2.2 (by omega)
  have c1 := hc (i / 64) (by omega)
  have hx := HW.out.2.1 (i / 64)
  have hv : bits BinOp.and IntKind.u64 (((us.getD (i / 64) 0 : Nat) : Int) / 2 ^ (i % 64)) 1 = ((bitAt us i : Nat) : Int) := by
    have h1 := Nat.div_le_self (us.getD (i / 64) 0) (2 ^ (i % 64))
    have := u64_and_nat (us.getD (i / 64) 0 / 2 ^ (i % 64)) 1 (by omega) (by omega)
    rw [show us.getD (i / 64) 0 / 2 ^ (i % 64) &&& 1 = bitAt us i from Nat.and_one_is_mod _, Int.natCast_ediv] at this
    simpa using this
  have hb1 : bitAt us i ≤ 1 := by rcases bitAt_le us i with h | h <;> omega
  clear hc
  generalize hme : bitAt us i = v at *
  have HE := Lib.hid hme
  clear hme
  generalize us.getD (i / 64) 0 = x at *
  have g1 : (i : Int).tdiv 64 = ((i / 64 : Nat) : Int) := by rw [Int.tdiv_eq_ediv_of_nonneg (by omega)]; omega
  have g2 : (i : Int).tmod 64 = ((i % 64 : Nat) : Int) := by rw [Int.tmod_eq_emod_of_nonneg (by omega)]; omega
  have g3 : ((i / 64 : Nat) : Int) < (len : Int) := by omega
  go_wp2
  go_ret2
  exact ⟨by rw [HE.out]; rfl, B.out⟩
end
section
/- Matrices in memory: a slice of rows, and what it reads. -/
set_option linter.unusedVariables false
set_option linter.unusedSimpArgs false
open Go.RowKit Go.Joins Go.ChangeShapes Go.WideShapes
/-- The row at a place reads so many bits, and these words. -/
def RowAt (w : World) (b off : Nat) (r : Int × List Nat) : Prop :=
  ∃ B l c, w.cell? ⟨b, off, none⟩ = some (.int .i64 r.1) ∧ w.cell? ⟨b, off + 1, none⟩ = some (.slice B l c) ∧ SliceOk B l c ∧ Words w B l r.2
/-- The slice at A of len rows reads ms; it lies in no block below lo. -/
def MatAt (w : World) (lo : Nat) (A : Option Addr) (len : Nat) (ms : List (Int × List Nat)) : Prop :=
  ms.length = len ∧ (0 < len → ∃ b off, A = some ⟨b, off, none⟩ ∧ lo ≤ b ∧ b < w.heap.size ∧ ∀ j, j < len → RowAt w b (off + j * 2) (ms.getD j (0, [])))
section
variable {w w' : World} {lo : Nat} {A : Option Addr} {len : Nat} {ms : List (Int × List Nat)}
theorem RowAt.below {b off : Nat} {r : Int × List Nat} (h : RowAt w b off r) (hl : b < w.heap.size) (hb : Below w.heap.size w w') : RowAt w' b off r := by
  obtain ⟨B, l, c, h0, h1, h2, h3⟩ := h
  exact ⟨B, l, c, (hb.cell (p := ⟨b, off, none⟩) hl).trans h0, (hb.cell (p := ⟨b, off + 1, none⟩) hl).trans h1, h2, h3.below hb⟩
theorem MatAt.below (h : MatAt w lo A len ms) (hb : Below w.heap.size w w') : MatAt w' lo A len ms := by
  refine ⟨h.1, fun hp => ?_⟩
  obtain ⟨b, off, rfl, h1, h2, h3⟩ := h.2 hp
  exact ⟨b, off, rfl, h1, Nat.lt_of_lt_of_le h2 hb.size, fun j hj => (h3 j hj).below h2 hb⟩
theorem MatAt.mono (h : MatAt w lo A len ms) {B : Nat} (hB : w.heap.size ≤ B) (hb : Below B w w') : MatAt w' lo A len ms := h.below (hb.mono hB)
theorem MatAt.alloc (h : MatAt w lo A len ms) (o : Obj) : MatAt (w.alloc o) lo A len ms := h.below ((Below.refl _ _).alloc (Nat.le_refl _) o)
theorem MatAt.drew (h : MatAt w lo A len ms) : MatAt w.drew lo A len ms := h
theorem MatAt.drewN (h : MatAt w lo A len ms) (n : Nat) : MatAt (w.drewN n) lo A len ms := h
theorem MatAt.low (h : MatAt w lo A len ms) {l2 : Nat} (hl : l2 ≤ lo) : MatAt w l2 A len ms := by
  refine ⟨h.1, fun hp => ?_⟩
  obtain ⟨b, off, rfl, h1, h2, h3⟩ := h.2 hp
  exact ⟨b, off, rfl, by omega, h2, h3⟩
theorem MatAt.nil (w : World) (lo : Nat) (A : Option Addr) : MatAt w lo A 0 [] := ⟨rfl, fun h => by omega⟩
theorem MatAt.at (h : MatAt w lo A len ms) (j : Nat) (hj : j < len) : ∃ b off B l c, A = some ⟨b, off, none⟩ ∧ b < w.heap.size ∧ w.cell? ⟨b, off + j * 2, none⟩ = some (.int .i64 (ms.getD j (0, [])).1) ∧ w.cell? ⟨b, off + j * 2 + 1, none⟩ = some (.slice B l c) ∧ SliceOk B l c ∧ Words w B l (ms.getD j (0, [])).2 := by
  obtain ⟨b, off, rfl, h1, h2, h3⟩ := h.2 (by omega)
  obtain ⟨B, l, c, r0, r1, r2, r3⟩ := h3 j hj
  exact ⟨b, off, B, l, c, rfl, h2, r0, r1, r2, r3⟩
/-- A store into a box of a row or a matrix below. -/
theorem MatAt.far (h : MatAt w lo A len ms) {g : Nat} {t : TypeId} {x : Int} {S : Option Addr} {p q : Nat} (hb : Box w g t #[.int .i64 x, .slice S p q]) (hg : g < lo) (i : Nat) (u : Value) : MatAt (w.setCell ⟨g, i, none⟩ u) lo A len ms := by
  refine ⟨h.1, fun hp => ?_⟩
  obtain ⟨b, off, rfl, h1, h2, h3⟩ := h.2 hp
  refine ⟨b, off, rfl, h1, by simpa [World.setCell] using h2, fun j hj => ?_⟩
  obtain ⟨B, l, c, r0, r1, r2, r3⟩ := h3 j hj
  refine ⟨B, l, c, ?_, ?_, r2, ?_⟩
  · rw [World.cell?_setCell_other _ _ _ _ (by intro e; injection e; omega)]; exact r0
  · rw [World.cell?_setCell_other _ _ _ _ (by intro e; injection e; omega)]; exact r1
  · refine ⟨r3.1, r3.2.1, fun hp => ?_⟩
    obtain ⟨b', off', rfl, hlt, hc⟩ := r3.2.2 hp
    have hne := r3.off hb b' off' rfl hp
    refine ⟨b', off', rfl, by simpa [World.setCell] using hlt, fun j hj => ?_⟩
    rw [World.cell?_setCell_other _ _ _ _ (by intro e; injection e; omega)]
    exact hc j hj
theorem MatAt.put2 (h : MatAt w lo A len ms) {g : Nat} {t : TypeId} {x y : Int} {S : Option Addr} {p q : Nat} (hb : Box w g t #[.int .i64 x, .slice S p q]) (hg : g < lo) (v : Value) : MatAt ((w.setCell ⟨g, 0, none⟩ (.int .i64 y)).setCell ⟨g, 1, none⟩ v) lo A len ms :=
  (h.far hb hg 0 _).far (hb.put 0 (.int .i64 y)) hg 1 v
theorem MatAt.take (h : MatAt w lo A len ms) (k : Nat) (hk : k ≤ len) : MatAt w lo A k (ms.take k) := by
  refine ⟨by simp [h.1]; omega, fun hp => ?_⟩
  obtain ⟨b, off, rfl, h1, h2, h3⟩ := h.2 (by omega)
  refine ⟨b, off, rfl, h1, h2, fun j hj => ?_⟩
  have := h3 j (by omega)
  simpa [List.getD, List.getElem?_take, hj] using this
theorem MatAt.lt (h : MatAt w lo A len ms) (j i : Nat) : (ms.getD j (0, [])).2.getD i 0 < 18446744073709551616 := by
  by_cases hj : j < len
  · obtain ⟨b, off, rfl, h1, h2, h3⟩ := h.2 (by omega)
    obtain ⟨B, l, c, r0, r1, r2, r3⟩ := h3 j hj
    exact r3.2.1 i
  · have : ms[j]? = none := List.getElem?_eq_none (by rw [h.1]; omega)
    simp [List.getD, this]
end
theorem cellsRowM : Tryz.prog.cellsOf 56 = 2 := by kernel_rfl
theorem cellsIntM : Tryz.prog.cellsOf 3 = 1 := by kernel_rfl
theorem cellsWsM : Tryz.prog.cellsOf 47 = 1 := by kernel_rfl
theorem cellsRowsM : Tryz.prog.cellsOf 26 = 1 := by kernel_rfl
theorem cellsMatM : Tryz.prog.cellsOf 28 = 2 := by kernel_rfl
/-- A slice of rows that came in. -/
theorem open_rows {H : Type} {enc : TypeId × Value → H} {W : World} {fuel : Nat} {cs : List Value} {x : DataW H × List MemPlace}
    (h : DataW.trod enc Tryz.prog W 0 (fun _ => true) true fuel 26 cs = some x) : ∃ A l c ms, cs = [.slice A l c] ∧ SliceOk A l c ∧ MatAt W 0 A l ms := by
  rcases Go.Deep.open_slice_pairs Tryz.underlying26 Tryz.underlying56 cellsRowM rfl rfl cellsIntM cellsWsM h with ⟨hcs, _⟩ | ⟨a, len, cap, m, n, V0, V1, D0, D1, P0, P1, hcs, _, hl, hm, hmm, _, hx⟩
  · exact ⟨none, 0, 0, [], hcs, ⟨Nat.le_refl _, Nat.zero_le _, fun _ => ⟨rfl, rfl⟩⟩, MatAt.nil _ _ _⟩
  · have hmm' : m = cap := by simpa using hmm
    have each : ∀ i, i < len → ∃ r : Int × List Nat, ∃ B l c, V0 i = .int .i64 r.1 ∧ V1 i = .slice B l c ∧ SliceOk B l c ∧ Words W B l r.2 := fun i hi => by
      obtain ⟨h0, h1, h2, h3⟩ := hx i (by omega)
      obtain ⟨z, e0, -, wz⟩ := DataW.trod_int Tryz.underlying3 h2
      obtain ⟨B, l, c, us, e1, s1, ws⟩ := open_words h3
      simp at e0 e1
      exact ⟨(z, us), B, l, c, e0, e1, s1, ws⟩
    obtain ⟨q, hq⟩ := Go.Deep.choose_lt each
    refine ⟨some a, len, cap, (List.range len).map q, hcs, ⟨hl, hm, fun h => by cases h⟩, by simp, fun hp => ?_⟩
    obtain ⟨b, o, ha⟩ : ∃ b o, a = ⟨b, o, none⟩ := by
      have := (hx 0 (by omega)).1
      exact addr_at (by simpa using this)
    subst ha
    have hadd : ∀ j, Addr.add { block := b, off := o } j = ⟨b, o + j, none⟩ := fun j => by
      by_cases h : j = 0 <;> simp [Addr.add, h]
    refine ⟨b, o, rfl, Nat.zero_le _, ?_, fun j hj => ?_⟩
    · have := block_lt_of_cell (hx 0 (by omega)).1
      rw [hadd] at this
      exact this
    · obtain ⟨h0, h1, -, -⟩ := hx j (by omega)
      rw [hadd] at h0 h1
      obtain ⟨B, l, c, e0, e1, s1, ws⟩ := hq j hj
      have hg : ((List.range len).map q).getD j (0, []) = q j := by simp [List.getD, hj]
      rw [hg]
      rw [e0] at h0
      rw [e1] at h1
      exact ⟨B, l, c, h0, h1, s1, ws⟩
set_option maxRecDepth 100000 in
/-- A matrix that came in. -/
theorem open_mat {H : Type} {enc : TypeId × Value → H} {W : World} {r : Reach} {b0 : Nat} {v : Value} {d : DataW H} {p : List MemPlace}
    (hv : Value.okWide Tryz.prog W r b0 28 v) (h : DataW.Trod enc Tryz.prog W 0 (fun _ => true) true 28 v d p) :
    ∃ n A l c ms, v = .agg #[.int .i64 n, .slice A l c] ∧ (Lit.int .i64 n).wf = true ∧ SliceOk A l c ∧ MatAt W 0 A l ms := by
  obtain ⟨c0, c1, y0, y1, m, rfl, rfl, rfl, hy0, hy1⟩ := open_agg2 Tryz.underlying28 (by kernel_rfl) cellsMatM hv h
  obtain ⟨a, e0, -, wa⟩ := DataW.trod_int Tryz.underlying3 hy0
  obtain ⟨A, l, c, ms, e1, hs, hw⟩ := open_rows hy1
  simp at e0 e1
  subst e0 e1
  exact ⟨a, A, l, c, ms, rfl, wa, hs, hw⟩
end
section
/- Contracts of layer 2: block.sizeMayBe, block.Zero, block.Nought, the reference's Nought, the law's cut. -/
set_option linter.unusedVariables false
set_option linter.unusedSimpArgs false
open Go.RowKit
def smb (n : Int) : Bool := decide (0 ≤ n) && decide (n ≤ 64)
theorem smb_iff (n : Int) : smb n = true ↔ 0 ≤ n ∧ n ≤ 64 := by simp [smb]
theorem smb_no (n : Int) : smb n = false ↔ ¬ (0 ≤ n ∧ n ≤ 64) := by rw [← smb_iff]; simp
/-- The first 70 bytes of a text. -/
def cutB (s : ByteArray) : ByteArray := s.extract 0 (min s.size 70)
theorem cutB_size (s : ByteArray) : (cutB s).size ≤ 70 := by simp [cutB, ByteArray.size_extract]; omega
theorem cutB_self (s : ByteArray) (h : s.size ≤ 70) : cutB s = s := by
  unfold cutB
  rw [Nat.min_eq_left h]
  apply ByteArray.ext; simp
/-- Are all bytes 0? -/
def noughtL (l : List UInt8) : Bool := l.all fun b => b == 0
theorem take_snoc (s : ByteArray) (k : Nat) (h : k < s.size) : s.data.toList.take (k + 1) = s.data.toList.take k ++ [s[k]] := by
  have hk : k < s.data.toList.length := by simpa using h
  rw [List.take_succ_eq_append_getElem hk]
  rfl
theorem nought_not (s : ByteArray) (k : Nat) (h : k < s.size) (hz : ¬ s[k] = 0) : noughtL s.data.toList = false := by
  rw [Bool.eq_false_iff]
  intro ha
  have := List.all_eq_true.1 ha (s[k]) (by rw [show s[k] = s.data.toList[k]'(by simpa using h) from rfl]; exact List.getElem_mem _)
  exact hz (by simpa using this)
theorem uint8_info : (Tryz.prog.info? 5).map (fun i => (i.zero, i.size, i.bytes)) = some (some (.int .u8 0), 1, 1) := by kernel_rfl
/-- A row of bytes in memory. -/
def bytesA (l : List UInt8) : Array Value := (l.map fun (x : UInt8) => Value.int .u8 (x.toNat : Int)).toArray
theorem bytesA_get (l : List UInt8) (j : Nat) (h : j < l.length) : (bytesA l)[j]? = some (.int .u8 ((l.getD j 0).toNat : Int)) := by
  simp [bytesA, List.getD, h]
theorem bytesA_set (l : List UInt8) (k : Nat) (x : UInt8) : (bytesA l).setIfInBounds k (.int .u8 (x.toNat : Int)) = bytesA (l.set k x) := by
  simp [bytesA, List.map_set]
def zeroB (n : Nat) : ByteArray := ⟨(List.replicate n (0 : UInt8)).toArray⟩
end
section
/- Contracts of layer 3: columnsMayBe, Right, the reference's Right. -/
set_option linter.unusedVariables false
set_option linter.unusedSimpArgs false
open Go.RowKit
theorem columnsMayBe_any (n : Int) (w : World) : Calls Tryz.prog 73 #[.int .i64 n] w fun e w' => e = .returned (.bool (smb n)) ∧ w = w' := by
  by_cases h : 0 ≤ n
  · by_cases h2 : n ≤ 64
    · have e : smb n = true := (smb_iff n).2 ⟨h, h2⟩
      rw [e]; clear e
      go_enter Tryz.func73, Tryz.ntmps73
      go_wp2
      go_ret
      exact ⟨rfl, rfl⟩
    · have e : smb n = false := (smb_no n).2 (by omega)
      rw [e]; clear e
      have t : decide (n ≤ 64) = false := by simpa using h2
      go_enter Tryz.func73, Tryz.ntmps73
      go_wp2
      go_ret
      exact ⟨by simp, rfl⟩
  · have e : smb n = false := (smb_no n).2 (by omega)
    rw [e]; clear e
    have t : decide (0 ≤ n) = false := by simpa using h
    go_enter Tryz.func73, Tryz.ntmps73
    go_wp2
    go_ret
    exact ⟨by simp, rfl⟩
/-- May a matrix be? -/
def rowsB (N : Int) (ms : List (Int × List Nat)) : Bool := ms.all fun r => (r.1 == N) && rightB r.1 r.2
def rightM (N : Int) (ms : List (Int × List Nat)) : Bool := smb N && decide (ms.length ≤ 64) && rowsB N ms
theorem rowsB_snoc (N : Int) (ms : List (Int × List Nat)) (j : Nat) (h : j < ms.length) : rowsB N (ms.take (j + 1)) = (rowsB N (ms.take j) && (((ms.getD j (0, [])).1 == N) && rightB (ms.getD j (0, [])).1 (ms.getD j (0, [])).2)) := by
  unfold rowsB
  rw [List.take_succ_eq_append_getElem h, List.all_append]
  simp [List.getD, h]
theorem rowsB_not (N : Int) (ms : List (Int × List Nat)) (j : Nat) (h : j < ms.length) (hz : (((ms.getD j (0, [])).1 == N) && rightB (ms.getD j (0, [])).1 (ms.getD j (0, [])).2) = false) : rowsB N ms = false := by
  rw [Bool.eq_false_iff]
  intro ha
  have := List.all_eq_true.1 ha (ms[j]) (List.getElem_mem _)
  rw [show ms.getD j (0, []) = ms[j] by simp [List.getD, h]] at hz
  rw [this] at hz; cases hz
theorem rightM_at {N : Int} {ms : List (Int × List Nat)} (h : rightM N ms = true) (j : Nat) (hj : j < ms.length) : (ms.getD j (0, [])).1 = N ∧ rightB N (ms.getD j (0, [])).2 = true := by
  simp only [rightM, Bool.and_eq_true] at h
  have := List.all_eq_true.1 h.2 (ms[j]) (List.getElem_mem _)
  rw [show ms.getD j (0, []) = ms[j] by simp [List.getD, hj]]
  simp only [Bool.and_eq_true, beq_iff_eq] at this
  exact ⟨this.1, this.1 ▸ this.2⟩
theorem rightM_bd {N : Int} {ms : List (Int × List Nat)} (h : rightM N ms = true) : 0 ≤ N ∧ N ≤ 64 ∧ ms.length ≤ 64 := by
  simp only [rightM, Bool.and_eq_true, decide_eq_true_eq] at h
  have := (smb_iff N).1 h.1.1
  exact ⟨this.1, this.2, h.1.2⟩
set_option maxHeartbeats 1000000 in
theorem mright_any (N : Int) (A : Option Addr) (l c lo : Nat) (ms : List (Int × List Nat)) (w : World) (hm : MatAt w lo A l ms) (hl : l ≤ maxLen) :
    Calls Tryz.prog 52 #[.agg #[.int .i64 N, .slice A l c]] w fun e w' => e = .returned (.bool (rightM N ms)) ∧ Below w.heap.size w w' := by
  unfold maxLen at hl
  have H := Lib.hid (columnsMayBe_any N)
  have Q := Lib.hid (Box.new w 28 #[.int .i64 N, .slice A l c])
  have HW := Lib.hid (show Below w.heap.size w (w.alloc (.cells #[.int .i64 N, .slice A l c] 28)) from (Below.refl _ _).alloc (Nat.le_refl _) _)
  have HM := Lib.hid hm
  have HL := Lib.hid hm.1
  clear hm
  obtain ⟨r0, r1, -, -⟩ := Q.out.two
  cases h : smb N with
  | false =>
    have HE := Lib.hid (show rightM N ms = false by simp [rightM, h])
    go_enter Tryz.func52, Tryz.ntmps52
    go_wp2_with fail
    refine (H.out _).mono ?_
    rintro e w1 ⟨rfl, rfl⟩
    go_wp2_with fail
    go_ret
    exact ⟨by rw [HE.out]; rfl, HW.out⟩
  | true =>
    by_cases h64 : l ≤ 64
    · have g1 : ¬ (64 : Int) < l := by omega
      go_enter Tryz.func52, Tryz.ntmps52
      go_wp2_with fail
      refine (H.out _).mono ?_
      rintro e w1 ⟨rfl, rfl⟩
      go_wp2_with fail
      have HSM := Lib.hid h
      clear h r0 r1 H
      go_loopw [18] (fun i wr => ∃ k : Nat, k ≤ l ∧ i = .int .i64 k ∧ Hid (rowsB N (ms.take k) = true) ∧ Box wr w.heap.size 28 #[.int .i64 N, .slice A l c] ∧ Below w.heap.size w wr) (fun i _ => l - (intOf i).toNat)
      case atStart => exact ⟨0, by omega, rfl, Lib.hid (by simp [rowsB]), Q.out, HW.out⟩
      case round =>
        obtain ⟨k, hk, rfl, HN, hbx, hbel⟩ := hrel
        have R := Lib.hid hbx
        have B := Lib.hid hbel
        clear hbx hbel Q HW
        obtain ⟨r0, r1, -, -⟩ := R.out.two
        by_cases hlt : k < l
        · have hlt' : (k : Int) < (l : Int) := by omega
          obtain ⟨b, off, B1, l1, c1, rfl, hb, x0, x1, hs, hw⟩ := (HM.out.mono (Nat.le_refl _) B.out).at k hlt
          have HS := Lib.hid (rowsB_snoc N ms k (by rw [HL.out]; exact hlt))
          have HNO := Lib.hid (rowsB_not N ms k (by rw [HL.out]; exact hlt))
          generalize (ms.getD k (0, [])).1 = n at *
          generalize (ms.getD k (0, [])).2 = us at *
          have R2 := Lib.hid (R.out.alloc (.cells #[.int .i64 n, .slice B1 l1 c1] 56))
          have B2 := Lib.hid (B.out.alloc B.out.size (.cells #[.int .i64 n, .slice B1 l1 c1] 56))
          have HW1 := Lib.hid (hw.alloc (.cells #[.int .i64 n, .slice B1 l1 c1] 56))
          have HR := Lib.hid (right_any n B1 l1 c1 us _ HW1.out)
          clear hw hs
          obtain ⟨r0, r1, -, -⟩ := R2.out.two
          by_cases hn : n = N
          · subst hn
            have t : (n != n) = false := by simp
            cases hr : rightB n us with
            | true =>
              rw [hr] at HR HS
              go_wp2_with fail
              refine HR.out.mono ?_
              rintro e w2 ⟨rfl, hb2⟩
              have B3 := Lib.hid (chain B2.out hb2)
              have R3 := Lib.hid (R2.out.keep hb2)
              clear hb2
              go_wp2_with fail
              go_roundw
              case rel => exact ⟨k + 1, by omega, by go_num, Lib.hid (by rw [HS.out, HN.out]; simp), R3.out, B3.out⟩
              case measure => simp [intOf]; omega
            | false =>
              rw [hr] at HR
              have HE := Lib.hid (show rightM n ms = false by rw [rightM, HNO.out (by simp [hr])]; simp)
              clear hr
              go_wp2_with fail
              refine HR.out.mono ?_
              rintro e w2 ⟨rfl, hb2⟩
              have B3 := Lib.hid (chain B2.out hb2)
              clear hb2
              go_wp2_with fail
              go_ret
              exact ⟨by rw [HE.out]; rfl, B3.out⟩
          · have t : (n != N) = true := by simpa using hn
            have t2 : (n == N) = false := by simpa using hn
            have HE := Lib.hid (show rightM N ms = false by rw [rightM, HNO.out (by simp [t2])]; simp)
            clear hn t2
            go_wp2_with fail
            go_ret
            exact ⟨by rw [HE.out]; rfl, B2.out⟩
        · obtain rfl : k = l := by omega
          have hlt' : ¬ (k : Int) < (k : Int) := by omega
          have HE := Lib.hid (show rightM N ms = true by
            have := HN.out
            rw [List.take_of_length_le (by rw [HL.out]; omega)] at this
            simp [rightM, HSM.out, this, HL.out, h64])
          go_wp2_with fail
          go_ret
          exact ⟨by rw [HE.out]; rfl, B.out⟩
    · have g1 : (64 : Int) < l := by omega
      have HE := Lib.hid (show rightM N ms = false by simp [rightM, HL.out, h64])
      go_enter Tryz.func52, Tryz.ntmps52
      go_wp2_with fail
      refine (H.out _).mono ?_
      rintro e w1 ⟨rfl, rfl⟩
      go_wp2_with fail
      go_ret
      exact ⟨by rw [HE.out]; rfl, HW.out⟩
end
section
/- Contracts of slices.Equal at words and of bitrow.Like. -/
set_option linter.unusedVariables false
set_option linter.unusedSimpArgs false
open Go.RowKit
end
section
/- Contracts of layer 3's reference: Right, Same; matrix.Like. -/
set_option linter.unusedVariables false
set_option linter.unusedSimpArgs false
open Go.RowKit
/-- Are two matrices the same? -/
def sameM (N : Int) (ms : List (Int × List Nat)) (M : Int) (ks : List (Int × List Nat)) : Bool := N == M && ms == ks
theorem sameM_self (N : Int) (ms : List (Int × List Nat)) : sameM N ms N ms = true := by simp [sameM]
theorem take_same {α : Type} (ms ks : List α) (d : α) (k : Nat) (h1 : k < ms.length) (h2 : k < ks.length) (h : ms.take k = ks.take k) (he : ms.getD k d = ks.getD k d) : ms.take (k + 1) = ks.take (k + 1) := by
  rw [take_one ms k d h1, take_one ks k d h2, h, he]
set_option maxRecDepth 100000 in
set_option maxHeartbeats 4000000 in
theorem same3_any (N M : Int) (A1 A2 : Option Addr) (n m c1 c2 l1 l2 : Nat) (ms ks : List (Int × List Nat)) (w : World) (h1 : MatAt w l1 A1 n ms) (h2 : MatAt w l2 A2 m ks) (hl : n ≤ 1000000) (hr : ∀ j, (ms.getD j (0, [])).2.length ≤ 1000000) :
    Calls Tryz.prog 11 #[.agg #[.int .i64 N, .slice A1 n c1], .agg #[.int .i64 M, .slice A2 m c2]] w fun e w' => e = .returned (.bool (sameM N ms M ks)) ∧ Below w.heap.size w w' := by
  have q0 := (Box.new w 28 #[.int .i64 N, .slice A1 n c1]).alloc (.cells #[.int .i64 M, .slice A2 m c2] 28)
  have q1 := Box.new (w.alloc (.cells #[.int .i64 N, .slice A1 n c1] 28)) 28 #[.int .i64 M, .slice A2 m c2]
  have HW := Lib.hid (show Below w.heap.size w ((w.alloc (.cells #[.int .i64 N, .slice A1 n c1] 28)).alloc (.cells #[.int .i64 M, .slice A2 m c2] 28)) from ((Below.refl _ _).alloc (Nat.le_refl _) _).alloc (by simp) _)
  simp only [World.size_alloc] at q1
  have M1 := Lib.hid (h1.below HW.out)
  have M2 := Lib.hid (h2.below HW.out)
  have HL1 := Lib.hid h1.1
  have HL2 := Lib.hid h2.1
  have HR := Lib.hid hr
  have Q0 := Lib.hid q0
  have Q1 := Lib.hid q1
  clear h1 h2 q0 q1 hr
  by_cases hN : N = M
  · subst hN
    have t1 : (N != N) = false := by simp
    by_cases hn : n = m
    · subst hn
      have t2 : (((n : Nat) : Int) != ((n : Nat) : Int)) = false := by simp
      go_enter Tryz.func11, Tryz.ntmps11
      go_wp2_with fail
      generalize (w.alloc (.cells #[.int .i64 N, .slice A1 n c1] 28)).alloc (.cells #[.int .i64 N, .slice A2 n c2] 28) = W at *
      obtain ⟨a0, a1, -, -⟩ := Q0.out.two
      obtain ⟨d0, d1, -, -⟩ := Q1.out.two
      have hz0 := Q0.out.lt
      have hz1 := Q1.out.lt
      go_wp2_with fail
      clear t1 t2
      go_loopw [23] (fun t wr => ∃ i : Nat, i ≤ n ∧ t = .int .i64 i ∧ Hid (ms.take i = ks.take i) ∧ Hid (Below W.heap.size W wr)) (fun t _ => n - (intOf t).toNat)
      case atStart => exact ⟨0, by omega, rfl, Lib.hid (by simp), Lib.hid (Below.refl _ _)⟩
      case round =>
        obtain ⟨i, hi, rfl, HT, HB⟩ := hrel
        by_cases hlt : i < n
        · have hlt' : (i : Int) < (n : Int) := by omega
          obtain ⟨g1, o1, B1, k1, e1, rfl, hg1, x1, y1, s1, u1⟩ := (M1.out.below HB.out).at i hlt
          obtain ⟨g2, o2, B2, k2, e2, rfl, hg2, x2, y2, s2, u2⟩ := (M2.out.below HB.out).at i hlt
          have O1 := Lib.hid u1
          have O2 := Lib.hid u2
          have HK := Lib.hid (HR.out i)
          have HTS := Lib.hid (take_same ms ks (0, []) i (by rw [HL1.out]; exact hlt) (by rw [HL2.out]; exact hlt) HT.out)
          have HTN := Lib.hid (show ms = ks → ms.getD i (0, []) = ks.getD i (0, []) from fun e => by rw [e])
          have HP1 := Lib.hid (show ms.getD i (0, []) = ((ms.getD i (0, [])).1, (ms.getD i (0, [])).2) from rfl)
          have HP2 := Lib.hid (show ks.getD i (0, []) = ((ks.getD i (0, [])).1, (ks.getD i (0, [])).2) from rfl)
          generalize hp1 : ms.getD i (0, []) = p1 at *
          generalize hp2 : ks.getD i (0, []) = p2 at *
          clear hp1 hp2 HP1 HP2
          obtain ⟨n1, us⟩ := p1
          obtain ⟨n2, vs⟩ := p2
          simp only at x1 y1 x2 y2 O1 O2 HK
          clear u1 u2 s1 s2
          have R0 := Lib.hid (Q0.out.below HB.out hz0)
          have R1 := Lib.hid (Q1.out.below HB.out hz1)
          obtain ⟨v0, v1, -, -⟩ := R0.out.two
          obtain ⟨f0, f1, -, -⟩ := R1.out.two
          have LZ0 := Lib.hid R0.out.lt
          have LZ1 := Lib.hid R1.out.lt
          have LG1 := Lib.hid hg1
          have LG2 := Lib.hid hg2
          clear hg1 hg2
          have HSame := Lib.hid (same_any n1 n2 B1 B2 k1 e1 k2 e2 us vs _ O1.out.drew O2.out.drew (by have := O1.out.1; have := HK.out; omega))
          cases hsb : sameB n1 us n2 vs with
          | true =>
            rw [hsb] at HSame
            have HEq := Lib.hid (show ((n1, us) : Int × List Nat) = (n2, vs) by
              simp only [sameB, Bool.and_eq_true, beq_iff_eq] at hsb
              rw [hsb.1, hsb.2])
            clear hsb
            go_wp2_with fail
            go_region_held3 (fun w' => w'.cell? ⟨w.heap.size, 1, none⟩ = some (.slice (some ⟨g1, o1, none⟩) n c1) ∧ w'.cell? ⟨w.heap.size + 1, 1, none⟩ = some (.slice (some ⟨g2, o2, none⟩) n c2) ∧ w'.cell? ⟨g1, o1 + i * 2, none⟩ = some (.int .i64 n1) ∧ w'.cell? ⟨g1, o1 + i * 2 + 1, none⟩ = some (.slice B1 k1 e1) ∧ w'.cell? ⟨g2, o2 + i * 2, none⟩ = some (.int .i64 n2) ∧ w'.cell? ⟨g2, o2 + i * 2 + 1, none⟩ = some (.slice B2 k2 e2)) (go_keep)
              (first
                | (go_at_call 23; refine HSame.out.mono ?_; rintro ee ww ⟨rfl, hb⟩; have HB1 := Lib.hid (HB.out.drew.trans (hb.mono HB.out.size)); have v1' := (hb.cell (p := ⟨w.heap.size, 1, none⟩) LZ0.out).trans v1; have f1' := (hb.cell (p := ⟨w.heap.size + 1, 1, none⟩) LZ1.out).trans f1; have x1' := (hb.cell (p := ⟨g1, o1 + i * 2, none⟩) LG1.out).trans x1; have y1' := (hb.cell (p := ⟨g1, o1 + i * 2 + 1, none⟩) LG1.out).trans y1; have x2' := (hb.cell (p := ⟨g2, o2 + i * 2, none⟩) LG2.out).trans x2; have y2' := (hb.cell (p := ⟨g2, o2 + i * 2 + 1, none⟩) LG2.out).trans y2; clear hb))
            go_wp2_with fail
            go_roundw
            case rel => exact ⟨i + 1, by omega, by go_num, Lib.hid (HTS.out HEq.out), HB1⟩
            case measure => simp [intOf] <;> omega
          | false =>
            rw [hsb] at HSame
            have HF := Lib.hid (show sameM N ms N ks = false by
              simp only [sameM, beq_self_eq_true, Bool.true_and, beq_eq_false_iff_ne]
              intro e
              have := HTN.out e
              injection this with e1 e2
              rw [e1, e2] at hsb
              simp [sameB] at hsb)
            clear hsb
            go_wp2_with fail
            go_region_held3 (fun w' => w'.cell? ⟨w.heap.size, 1, none⟩ = some (.slice (some ⟨g1, o1, none⟩) n c1) ∧ w'.cell? ⟨w.heap.size + 1, 1, none⟩ = some (.slice (some ⟨g2, o2, none⟩) n c2) ∧ w'.cell? ⟨g1, o1 + i * 2, none⟩ = some (.int .i64 n1) ∧ w'.cell? ⟨g1, o1 + i * 2 + 1, none⟩ = some (.slice B1 k1 e1) ∧ w'.cell? ⟨g2, o2 + i * 2, none⟩ = some (.int .i64 n2) ∧ w'.cell? ⟨g2, o2 + i * 2 + 1, none⟩ = some (.slice B2 k2 e2)) (go_keep)
              (first
                | (go_at_call 23; refine HSame.out.mono ?_; rintro ee ww ⟨rfl, hb⟩; have HB1 := Lib.hid (HB.out.drew.trans (hb.mono HB.out.size)); have v1' := (hb.cell (p := ⟨w.heap.size, 1, none⟩) LZ0.out).trans v1; have f1' := (hb.cell (p := ⟨w.heap.size + 1, 1, none⟩) LZ1.out).trans f1; have x1' := (hb.cell (p := ⟨g1, o1 + i * 2, none⟩) LG1.out).trans x1; have y1' := (hb.cell (p := ⟨g1, o1 + i * 2 + 1, none⟩) LG1.out).trans y1; have x2' := (hb.cell (p := ⟨g2, o2 + i * 2, none⟩) LG2.out).trans x2; have y2' := (hb.cell (p := ⟨g2, o2 + i * 2 + 1, none⟩) LG2.out).trans y2; clear hb))
            go_wp2_with fail
            go_ret
            exact ⟨by rw [HF.out]; rfl, HW.out.trans (HB1.out.mono HW.out.size)⟩
        · obtain rfl : i = n := by omega
          have hlt' : ¬ (i : Int) < (i : Int) := by omega
          have HE := Lib.hid (show sameM N ms N ks = true by
            have := HT.out
            rw [List.take_of_length_le (by rw [HL1.out]; omega), List.take_of_length_le (by rw [HL2.out]; omega)] at this
            rw [this]; exact sameM_self _ _)
          go_wp2
          go_ret
          exact ⟨by rw [HE.out]; rfl, HW.out.trans (HB.out.mono HW.out.size)⟩
    · have t2 : (((n : Nat) : Int) != ((m : Nat) : Int)) = true := by rw [bne_iff_ne]; omega
      have HF := Lib.hid (show sameM N ms N ks = false by
        simp only [sameM, beq_self_eq_true, Bool.true_and, beq_eq_false_iff_ne]
        intro e
        apply hn
        rw [← HL1.out, ← HL2.out, e])
      go_enter Tryz.func11, Tryz.ntmps11
      go_wp2
      go_ret
      exact ⟨by rw [HF.out]; rfl, HW.out⟩
  · have t1 : (N != M) = true := by simpa using hN
    have HF := Lib.hid (show sameM N ms M ks = false by
      have : (N == M) = false := by simpa using hN
      simp [sameM, this])
    go_enter Tryz.func11, Tryz.ntmps11
    go_wp2
    go_ret
    exact ⟨by rw [HF.out]; rfl, HW.out⟩
end
section
/- Contracts of layer 3: slices.EqualFunc at rows, Like, rowsBy. -/
set_option linter.unusedVariables false
set_option linter.unusedSimpArgs false
open Go.RowKit
/-- Rows as cells: how many bits, and the slice of words. -/
abbrev RowV := Int × Option Addr × Nat × Nat
def rowCells (rs : List RowV) : List Value := rs.flatMap fun r => [.int .i64 r.1, .slice r.2.1 r.2.2.1 r.2.2.2]
theorem rowCells_cons (r : RowV) (rs : List RowV) : rowCells (r :: rs) = .int .i64 r.1 :: .slice r.2.1 r.2.2.1 r.2.2.2 :: rowCells rs := rfl
theorem rowCells_len (rs : List RowV) : (rowCells rs).length = rs.length * 2 := by
  induction rs with
  | nil => rfl
  | cons r rs ih => rw [rowCells_cons, List.length_cons, List.length_cons, List.length_cons, ih]; omega
theorem rowCells_snoc (rs : List RowV) (r : RowV) : rowCells (rs ++ [r]) = rowCells rs ++ [.int .i64 r.1, .slice r.2.1 r.2.2.1 r.2.2.2] := by simp [rowCells]
theorem rowCells_at (rs : List RowV) (j : Nat) (hj : j < rs.length) : (rowCells rs)[j * 2]? = some (.int .i64 (rs.getD j (0, none, 0, 0)).1) ∧ (rowCells rs)[j * 2 + 1]? = some (.slice (rs.getD j (0, none, 0, 0)).2.1 (rs.getD j (0, none, 0, 0)).2.2.1 (rs.getD j (0, none, 0, 0)).2.2.2) := by
  induction rs generalizing j with
  | nil => cases hj
  | cons r rs ih =>
    cases j with
    | zero => rw [rowCells_cons]; exact ⟨rfl, rfl⟩
    | succ j =>
      have h := ih j (by simpa using hj)
      rw [rowCells_cons, show (j + 1) * 2 = j * 2 + 1 + 1 by omega]
      exact h
theorem rowCells_set (rs : List RowV) (j : Nat) (r : RowV) : ((rowCells rs).set (j * 2) (.int .i64 r.1)).set (j * 2 + 1) (.slice r.2.1 r.2.2.1 r.2.2.2) = rowCells (rs.set j r) := by
  induction rs generalizing j with
  | nil => simp [rowCells]
  | cons q rs ih =>
    cases j with
    | zero => rw [rowCells_cons]; rfl
    | succ j =>
      rw [rowCells_cons, List.set_cons_succ, rowCells_cons, ← ih j, show (j + 1) * 2 = j * 2 + 1 + 1 by omega]
      rfl
theorem rowCells_made (n : Nat) : (madeCells #[.int .i64 0, .slice none 0 0] (n * 2)) = (rowCells (List.replicate n (0, none, 0, 0))).toArray := by
  apply Array.toList_inj.1
  show _ = rowCells _
  unfold madeCells
  rw [Array.toList_map, Array.toList_range]
  induction n with
  | zero => rfl
  | succ n ih =>
    rw [show (n + 1) * 2 = n * 2 + 1 + 1 by omega, List.range_succ, List.range_succ, List.map_append, List.map_append, ih, List.replicate_succ', rowCells_snoc]
    have e1 : n * 2 % 2 = 0 := by omega
    have e2 : (n * 2 + 1) % 2 = 1 := by omega
    simp [e1, e2]
theorem row_infoM : (Tryz.prog.info? 56).map (fun i => (i.zero, i.size, i.bytes)) = some (some (.agg #[.int .i64 0, .slice none 0 0]), 2, 32) := by kernel_rfl
theorem makeRows_any (n : Nat) (hn : n ≤ 1000000) (w : World) :
    (Instr.makeSlice 26 (.int .i64 (n : Int)) (.int .i64 (n : Int))).run Tryz.prog w = .ok (.slice (some ⟨w.heap.size, 0, none⟩) n n) (w.alloc (.cells (rowCells (List.replicate n (0, none, 0, 0))).toArray 56)) := by
  obtain ⟨i0, hi, hz0, hz1, hz2⟩ := info_parts row_infoM
  have hr := run_make (P := Tryz.prog) w _ _ i0 _ Tryz.underlying26 hi hz0 .i64 .i64 n n (by omega) (by omega) (by rw [hz2]; omega) (by omega)
  simp only [Int.toNat_natCast, hz1] at hr
  rw [hr, ← rowCells_made]
  rfl
/-- A block of rows reads these. -/
theorem Box.rows {w : World} {g : Nat} {t : TypeId} {rs : List RowV} (h : Box w g t (rowCells rs).toArray) {N : Int} {f : Nat → List Nat} (hf : ∀ j, j < rs.length → (rs.getD j (0, none, 0, 0)).1 = N ∧ SliceOk (rs.getD j (0, none, 0, 0)).2.1 (rs.getD j (0, none, 0, 0)).2.2.1 (rs.getD j (0, none, 0, 0)).2.2.2 ∧ Words w (rs.getD j (0, none, 0, 0)).2.1 (rs.getD j (0, none, 0, 0)).2.2.1 (f j)) {lo : Nat} (hg : lo ≤ g) :
    MatAt w lo (some ⟨g, 0, none⟩) rs.length ((List.range rs.length).map fun i => (N, f i)) := by
  refine ⟨by simp, fun _ => ⟨g, 0, rfl, hg, h.lt, fun j hj => ?_⟩⟩
  obtain ⟨h1, h2, h3⟩ := hf j hj
  obtain ⟨c1, c2⟩ := rowCells_at rs j hj
  have e : ((List.range rs.length).map fun i => ((N, f i) : Int × List Nat)).getD j (0, []) = (N, f j) := by simp [List.getD, hj]
  rw [e, Nat.zero_add]
  refine ⟨_, _, _, ?_, ?_, h2, h3⟩
  · rw [h.cell, List.getElem?_toArray, c1, h1]
  · rw [h.cell, List.getElem?_toArray, c2]
theorem OwnW.ok {w : World} {A : Option Addr} {l c : Nat} {zs : List Nat} (h : OwnW w A l c zs) : SliceOk A l c := by
  rcases h.2 with ⟨hv, h0⟩ | ⟨g, cap, cur, hv, hb, hh, hn, hm, hs, hx⟩
  · injection hv with e1 e2 e3
    subst e1 e2 e3
    exact ⟨Nat.le_refl _, Nat.zero_le _, fun _ => ⟨rfl, rfl⟩⟩
  · injection hv with e1 e2 e3
    subst e1 e3
    exact ⟨hn, hm, fun h => by cases h⟩
/-- What rowsBy asks of its function. -/
def RowsAsk (fn : Nat) (pre cb : Array Value) (many : Nat) (N : Int) (f : Nat → List Nat) (w : World) : Prop :=
  ∀ (W : World) (i : Nat), i < many → Below w.heap.size w W → Calls Tryz.prog fn (pre ++ #[.int .i64 i] ++ cb) W (OneOwn N (f i) W)
/-- What rowsBy hands back. -/
def MatsOut (N : Int) (f : Nat → List Nat) (many : Nat) (w : World) (e : Ending) (w' : World) : Prop :=
  ∃ g, e = .returned (.slice (some ⟨g, 0, none⟩) many many) ∧ w.heap.size ≤ g ∧ MatAt w' w.heap.size (some ⟨g, 0, none⟩) many ((List.range many).map fun i => (N, f i)) ∧ Below w.heap.size w w'
end
section
/- A chain of worlds that keep what was below. No program. -/
set_option linter.unusedVariables false
set_option linter.unusedSimpArgs false
open Go.RowKit
theorem chainN {w w1 w2 : World} {B : Nat} (h : Below B w w1) (hB : B ≤ w1.heap.size) (h2 : Below w1.heap.size w1 w2) : Below B w w2 := h.trans (h2.mono hB)
end
section
/- Mathematics of matrices: columns. -/
set_option linter.unusedVariables false
set_option linter.unusedSimpArgs false
open Go.RowKit
/-- The bit of row j at i. -/
def mbit (ms : List (Int × List Nat)) (j i : Nat) : Nat := bitAt (ms.getD j (0, [])).2 i
theorem mbit_le (ms : List (Int × List Nat)) (j i : Nat) : mbit ms j i = 0 ∨ mbit ms j i = 1 := bitAt_le _ _
/-- Where a column's bits are 1, among the first k rows. -/
def colP (ms : List (Int × List Nat)) (i k : Nat) : List Nat := (List.range k).filter fun j => mbit ms j i == 1
def castP (l : List Nat) : List Int := l.map fun (x : Nat) => (x : Int)
theorem colP_succ (ms : List (Int × List Nat)) (i k : Nat) : colP ms i (k + 1) = colP ms i k ++ if mbit ms k i = 1 then [k] else [] := by
  unfold colP
  rw [List.range_succ, List.filter_append]
  congr 1
  by_cases h : mbit ms k i = 1
  · have t : (mbit ms k i == 1) = true := by simpa using h
    simp [t, h]
  · have t : (mbit ms k i == 1) = false := by simpa using h
    simp [t, h]
theorem colP_len (ms : List (Int × List Nat)) (i k : Nat) : (colP ms i k).length ≤ k := by
  unfold colP
  have := List.length_filter_le (fun j => mbit ms j i == 1) (List.range k)
  simpa using this
theorem colP_lt {ms : List (Int × List Nat)} {i k p : Nat} (h : p ∈ colP ms i k) : p < k := by
  have := (List.mem_filter.1 h).1
  simpa using this
theorem colP_there (ms : List (Int × List Nat)) (i k : Nat) : there (k : Int) (castP (colP ms i k)) = true := by
  simp only [there, castP, List.all_eq_true, List.mem_map]
  rintro x ⟨y, hy, rfl⟩
  have := colP_lt hy
  simp; omega
theorem castP_bound {l : List Nat} {k : Nat} (h : ∀ p ∈ l, p < k) (hk : k ≤ 1000000) (j : Nat) : -9223372036854775808 ≤ (castP l).getD j 0 ∧ (castP l).getD j 0 ≤ 9223372036854775807 := by
  by_cases hj : j < l.length
  · have e : (castP l).getD j 0 = ((l[j] : Nat) : Int) := by simp [castP, List.getD, hj]
    have := h l[j] (List.getElem_mem _)
    rw [e]; omega
  · have e : (castP l)[j]? = none := List.getElem?_eq_none (by simp [castP]; omega)
    simp only [List.getD, e, Option.getD_none]; omega
/-- The column as a row. -/
def colW (ms : List (Int × List Nat)) (i : Nat) : List Nat := ofBits ms.length (castP (colP ms i ms.length))
/-- A matrix turned, of n columns. -/
def turnM (n : Nat) (ms : List (Int × List Nat)) : List (Int × List Nat) := (List.range n).map fun i => ((ms.length : Int), colW ms i)
/-- The column as numbers. -/
def colZ (ms : List (Int × List Nat)) (i k : Nat) : List Int := (List.range k).map fun j => ((mbit ms j i : Nat) : Int)
theorem colZ_succ (ms : List (Int × List Nat)) (i k : Nat) : colZ ms i (k + 1) = colZ ms i k ++ [((mbit ms k i : Nat) : Int)] := by simp [colZ, List.range_succ]
theorem colZ_len (ms : List (Int × List Nat)) (i k : Nat) : (colZ ms i k).length = k := by simp [colZ]
theorem colZ_bound (ms : List (Int × List Nat)) (i k j : Nat) : -9223372036854775808 ≤ (colZ ms i k).getD j 0 ∧ (colZ ms i k).getD j 0 ≤ 9223372036854775807 := by
  by_cases hj : j < k
  · have e : (colZ ms i k).getD j 0 = ((mbit ms j i : Nat) : Int) := by simp [colZ, List.getD, hj]
    have := mbit_le ms j i
    rw [e]; omega
  · have e : (colZ ms i k)[j]? = none := List.getElem?_eq_none (by simp [colZ]; omega)
    simp only [List.getD, e, Option.getD_none]; omega
theorem hasB_castP (l : List Nat) (j : Nat) : hasB (castP l) (j : Int) = l.contains j := by
  unfold hasB castP
  rw [Bool.eq_iff_iff]
  simp only [List.contains_iff_mem, List.mem_map]
  constructor
  · rintro ⟨a, h, e⟩
    obtain rfl : a = j := by omega
    exact h
  · exact fun h => ⟨j, h, rfl⟩
theorem colZ_ofInts (ms : List (Int × List Nat)) (i k : Nat) : colZ ms i k = ofInts (castP (colP ms i k)) k := by
  unfold colZ ofInts
  apply List.map_congr_left
  intro j hj
  have hj' : j < k := by simpa using hj
  rw [hasB_castP]
  have e : (colP ms i k).contains j = (mbit ms j i == 1) := by
    rw [Bool.eq_iff_iff]
    simp [colP, hj']
  rw [e]
  rcases mbit_le ms j i with h | h <;> simp [h]
theorem from_col (ms : List (Int × List Nat)) (i k : Nat) : fromL (bitsOf (colZ ms i k)) (nw k) = ofBits k (castP (colP ms i k)) := by
  rw [colZ_ofInts, from_of k _ (colP_there ms i k)]
end
section
/- Contracts of layer 3: alone, One. -/
set_option linter.unusedVariables false
set_option linter.unusedSimpArgs false
open Go.RowKit
/-- What a function of one matrix and an error hands back. -/
def MatRes (N : Int) (ms : List (Int × List Nat)) (err : Int) (w : World) (e : Ending) (w' : World) : Prop :=
  ∃ A c, e = .returned (.tuple #[.agg #[.int .i64 N, .slice A ms.length c], .int .i64 err]) ∧ MatAt w' w.heap.size A ms.length ms ∧ Below w.heap.size w w'
/-- What a function of one matrix hands back. -/
def MatOne (N : Int) (ms : List (Int × List Nat)) (w : World) (e : Ending) (w' : World) : Prop :=
  ∃ A c, e = .returned (.agg #[.int .i64 N, .slice A ms.length c]) ∧ MatAt w' w.heap.size A ms.length ms ∧ Below w.heap.size w w'
def oneL (n : Nat) : List (Int × List Nat) := (List.range n).map fun (i : Nat) => ((n : Int), ofBits n [(i : Int)])
theorem oneL_len (n : Nat) : (oneL n).length = n := by simp [oneL]
def oneN (n : Int) : Int := if smb n then n else 0
def oneM (n : Int) : List (Int × List Nat) := if smb n then oneL n.toNat else []
def oneE (n : Int) : Int := if smb n then 0 else 2
end
section
/- Contracts of layer 3: column, Turn. -/
set_option linter.unusedVariables false
set_option linter.unusedSimpArgs false
open Go.RowKit
theorem int_infoM : (Tryz.prog.info? 3).map (fun i => (i.zero, i.size, i.bytes)) = some (some (.int .i64 0), 1, 8) := by kernel_rfl
theorem turnM_len (n : Nat) (ms : List (Int × List Nat)) : (turnM n ms).length = n := by simp [turnM]
theorem colW_lt (ms : List (Int × List Nat)) (i j : Nat) : (colW ms i).getD j 0 < 18446744073709551616 := ofBits_lt _ _ j
def turnN (N : Int) (ms : List (Int × List Nat)) : Int := if rightM N ms then ms.length else 0
def turnL (N : Int) (ms : List (Int × List Nat)) : List (Int × List Nat) := if rightM N ms then turnM N.toNat ms else []
def turnE (N : Int) (ms : List (Int × List Nat)) : Int := if rightM N ms then 0 else 1
end
section
/- Contract of law 03's few: a matrix of at most 66 rows, of three words each. -/
set_option linter.unusedVariables false
set_option linter.unusedSimpArgs false
open Go.RowKit
def cutR (r : Int × List Nat) : Int × List Nat := (r.1, r.2.take 3)
def fewM (ms : List (Int × List Nat)) : List (Int × List Nat) := (ms.take 66).map cutR
theorem fewM_len (ms : List (Int × List Nat)) : (fewM ms).length = min ms.length 66 := by simp [fewM]; omega
theorem fewM_at (ms : List (Int × List Nat)) (j : Nat) (h : j < ms.length) (h2 : j < 66) : (fewM ms).getD j (0, []) = cutR (ms.getD j (0, [])) := by
  simp [fewM, List.getD, h, h2]
theorem fewM_short (ms : List (Int × List Nat)) (j : Nat) : ((fewM ms).getD j (0, [])).2.length ≤ 3 := by
  by_cases h : j < (fewM ms).length
  · have h1 : j < ms.length := by have := fewM_len ms; omega
    have h2 : j < 66 := by have := fewM_len ms; omega
    rw [fewM_at ms j h1 h2]; simp [cutR]; omega
  · have : (fewM ms)[j]? = none := List.getElem?_eq_none (by omega)
    simp [List.getD, this]
theorem add_zeroM (g j : Nat) : (⟨g, 0, none⟩ : Addr).add j = ⟨g, j, none⟩ := by unfold Addr.add; split <;> simp_all
/-- A row of rows of the call's own, read as a matrix. -/
theorem own_mat {w : World} {base n : Nat} {v : Value} {rs : List RowV} (h : w.ownsRow base 56 2 v n (rowCells rs)) (hn : rs.length = n) (ms : List (Int × List Nat)) (hl : ms.length = n)
    (hf : ∀ j, j < n → (rs.getD j (0, none, 0, 0)).1 = (ms.getD j (0, [])).1 ∧ SliceOk (rs.getD j (0, none, 0, 0)).2.1 (rs.getD j (0, none, 0, 0)).2.2.1 (rs.getD j (0, none, 0, 0)).2.2.2 ∧ Words w (rs.getD j (0, none, 0, 0)).2.1 (rs.getD j (0, none, 0, 0)).2.2.1 (ms.getD j (0, [])).2) :
    ∃ A c, v = .slice A n c ∧ n ≤ c ∧ MatAt w base A n ms := by
  rcases h.2 with ⟨hv, h0⟩ | ⟨g, cap, cur, hv, hb, hh, hc, -⟩
  · subst h0
    obtain rfl : ms = [] := List.length_eq_zero_iff.1 hl
    exact ⟨none, 0, hv, Nat.le_refl _, MatAt.nil _ _ _⟩
  · refine ⟨some ⟨g, 0, none⟩, cap, hv, hc, hl, fun hp => ⟨g, 0, rfl, hb, (h.lt g (by rw [hv]; rfl)).2, fun j hj => ?_⟩⟩
    obtain ⟨f1, f2⟩ := rowCells_at rs j (by omega)
    obtain ⟨a1, a2, a3⟩ := hf j hj
    have hc := World.ownsRow.cells h (g := g) (by rw [hv]; rfl)
    have c1 := hc _ _ f1
    have c2 := hc _ _ f2
    rw [add_zeroM] at c1 c2
    refine ⟨_, _, _, ?_, ?_, a2, a3⟩
    · rw [Nat.zero_add, c1, a1]
    · rw [Nat.zero_add, c2]
/-- A matrix's rows keep off a store into a box of a matrix that is another block. -/
theorem MatAt.farB {w : World} {lo : Nat} {A : Option Addr} {len : Nat} {ms : List (Int × List Nat)} (h : MatAt w lo A len ms) {B : Nat} {t : TypeId} {x : Int} {S : Option Addr} {p q : Nat} (hne : ∀ b o, A = some ⟨b, o, none⟩ → 0 < len → b ≠ B) (hb : Box w B t #[.int .i64 x, .slice S p q]) (i : Nat) (u : Value) : MatAt (w.setCell ⟨B, i, none⟩ u) lo A len ms := by
  refine ⟨h.1, fun hp => ?_⟩
  obtain ⟨b, off, rfl, h1, h2, h3⟩ := h.2 hp
  have hnb := hne b off rfl hp
  refine ⟨b, off, rfl, h1, by simpa [World.setCell] using h2, fun j hj => ?_⟩
  obtain ⟨Bw, l, c, r0, r1, r2, r3⟩ := h3 j hj
  refine ⟨Bw, l, c, ?_, ?_, r2, ?_⟩
  · rw [World.cell?_setCell_other _ _ _ _ (by intro e; injection e; omega)]; exact r0
  · rw [World.cell?_setCell_other _ _ _ _ (by intro e; injection e; omega)]; exact r1
  · refine ⟨r3.1, r3.2.1, fun hp => ?_⟩
    obtain ⟨b', off', rfl, hlt, hc⟩ := r3.2.2 hp
    have hnw := r3.off hb b' off' rfl hp
    refine ⟨b', off', rfl, by simpa [World.setCell] using hlt, fun j hj => ?_⟩
    rw [World.cell?_setCell_other _ _ _ _ (by intro e; injection e; omega)]
    exact hc j hj
end
section
/- Layer 3's reference: One. -/
set_option linter.unusedVariables false
set_option linter.unusedSimpArgs false
open Go.RowKit
theorem own_drewM {w : World} {base e size n : Nat} {v : Value} {xs : List Value} (h : w.ownsRow base e size v n xs) : w.drew.ownsRow base e size v n xs := h
theorem one_ints (w : World) (t : TypeId) (i : Nat) (hi : i ≤ 1000000) : Ints (w.alloc (.cells #[.int .i64 i] t)) (some ⟨w.heap.size, 0, none⟩) 1 [(i : Int)] := by
  have bx := Box.new w t #[.int .i64 (i : Int)]
  refine ⟨rfl, fun j => ?_, fun _ => ⟨w.heap.size, 0, rfl, bx.lt, fun j hj => ?_⟩⟩
  · match j with
    | 0 => simp; omega
    | k + 1 => simp
  · rw [Nat.zero_add, bx.cell]
    match j, hj with
    | 0, _ => rfl
/-- A row of rows of the call's own, each with a row of words of the call's own. -/
def RowsW (w : World) (base : Nat) (v : Value) (ms : List (Int × List Nat)) : Prop :=
  ∃ rs : List RowV, rs.length = ms.length ∧ w.ownsRow base 56 2 v ms.length (rowCells rs) ∧ ∀ j, j < ms.length → (rs.getD j (0, none, 0, 0)).1 = (ms.getD j (0, [])).1 ∧ OwnW w (rs.getD j (0, none, 0, 0)).2.1 (rs.getD j (0, none, 0, 0)).2.2.1 (rs.getD j (0, none, 0, 0)).2.2.2 (ms.getD j (0, [])).2
theorem RowsW.nil (w : World) (base : Nat) : RowsW w base (.slice none 0 0) [] := ⟨[], rfl, World.ownsRow_nil _ _ _ _, fun j hj => by cases hj⟩
theorem RowsW.below {w w' : World} {base : Nat} {v : Value} {ms : List (Int × List Nat)} (h : RowsW w base v ms) (hb : Below w.heap.size w w') : RowsW w' base v ms := by
  obtain ⟨rs, h1, h2, h3⟩ := h
  exact ⟨rs, h1, own_keep h2 hb, fun j hj => ⟨(h3 j hj).1, (h3 j hj).2.below hb⟩⟩
theorem RowsW.far {w : World} {base : Nat} {v : Value} {ms : List (Int × List Nat)} (h : RowsW w base v ms) {g : Nat} {t : TypeId} {cs : Array Value} (hb : Box w g t cs) (hne : 44 ≠ t) (hne2 : 56 ≠ t) (i : Nat) (u : Value) : RowsW (w.setCell ⟨g, i, none⟩ u) base v ms := by
  obtain ⟨rs, h1, h2, h3⟩ := h
  exact ⟨rs, h1, own_far h2 hb hne2 i u, fun j hj => ⟨(h3 j hj).1, (h3 j hj).2.far hb hne i u⟩⟩
theorem RowsW.snoc {w : World} {base n : Nat} {v : Value} {rs : List RowV} {ms : List (Int × List Nat)} {N : Int} {A : Option Addr} {l c : Nat} {z : List Nat} (hn : ms.length = n) (h1 : rs.length = n) (h2 : w.ownsRow base 56 2 v (n + 1) (rowCells rs ++ [.int .i64 N, .slice A l c]))
    (h3 : ∀ j, j < n → (rs.getD j (0, none, 0, 0)).1 = (ms.getD j (0, [])).1 ∧ OwnW w (rs.getD j (0, none, 0, 0)).2.1 (rs.getD j (0, none, 0, 0)).2.2.1 (rs.getD j (0, none, 0, 0)).2.2.2 (ms.getD j (0, [])).2) (h4 : OwnW w A l c z) : RowsW w base v (ms ++ [(N, z)]) := by
  subst hn
  refine ⟨rs ++ [(N, A, l, c)], by simp [h1], ?_, fun j hj => ?_⟩
  · rw [rowCells_snoc, List.length_append]; exact h2
  · rw [List.length_append] at hj
    simp only [List.length_cons, List.length_nil] at hj
    by_cases h : j < ms.length
    · have := h3 j h
      simp only [List.getD, List.getElem?_append_left h, List.getElem?_append_left (h1 ▸ h)] at this ⊢
      exact this
    · obtain rfl : j = ms.length := by omega
      have e1 : (rs ++ [(N, A, l, c)]).getD ms.length (0, none, 0, 0) = (N, A, l, c) := by rw [← h1]; simp [List.getD]
      have e2 : (ms ++ [(N, z)]).getD ms.length (0, []) = (N, z) := by simp [List.getD]
      rw [e1, e2]; exact ⟨rfl, h4⟩
theorem RowsW.mat {w : World} {base : Nat} {v : Value} {ms : List (Int × List Nat)} (h : RowsW w base v ms) (hz : ∀ i j, ((ms.getD i (0, [])).2).getD j 0 < 18446744073709551616) : ∃ A c, v = .slice A ms.length c ∧ ms.length ≤ c ∧ MatAt w base A ms.length ms := by
  obtain ⟨rs, h1, h2, h3⟩ := h
  exact own_mat h2 h1 ms rfl (fun j hj => ⟨(h3 j hj).1, (h3 j hj).2.ok, (h3 j hj).2.words (hz j)⟩)
theorem oneL_take (n i : Nat) (h : i < n) : (oneL n).take (i + 1) = (oneL n).take i ++ [((n : Int), ofBits n [(i : Int)])] := by
  rw [take_one (oneL n) i (0, []) (by rw [oneL_len]; exact h)]
  simp [oneL, List.getD, h]
theorem oneL_lt (n i j : Nat) : (((oneL n).getD i (0, [])).2).getD j 0 < 18446744073709551616 := by
  by_cases h : i < n
  · have e : (oneL n).getD i (0, []) = ((n : Int), ofBits n [(i : Int)]) := by simp [oneL, List.getD, h]
    rw [e]; exact ofBits_lt n _ j
  · have e : (oneL n)[i]? = none := List.getElem?_eq_none (by rw [oneL_len]; omega)
    simp [List.getD, e]
end
section
/- Layer 4: rows of rows as numbers; has, find. -/
set_option linter.unusedVariables false
set_option linter.unusedSimpArgs false
open Go.RowKit
set_option maxRecDepth 100000
def mkR (N x : Nat) : Int × List Nat := ((N : Int), rowOf N x)
def mkM (N : Nat) (L : List Nat) : List (Int × List Nat) := L.map (mkR N)
theorem mkM_len (N : Nat) (L : List Nat) : (mkM N L).length = L.length := by simp [mkM]
theorem mkM_at (N : Nat) (L : List Nat) (i : Nat) (h : i < L.length) : (mkM N L).getD i (0, []) = mkR N (L.getD i 0) := by simp [mkM, List.getD, h]
/-- A row of rows of the call's own, told by numbers. -/
def RowsN (w : World) (base : Nat) (v : Value) (N : Nat) (L : List Nat) : Prop := RowsW w base v (mkM N L)
section
variable {w w' : World} {base : Nat} {v : Value} {N : Nat} {L : List Nat}
theorem RowsN.below (h : RowsN w base v N L) (hb : Below w.heap.size w w') : RowsN w' base v N L := RowsW.below h hb
theorem RowsN.far (h : RowsN w base v N L) {g : Nat} {t : TypeId} {cs : Array Value} (hb : Box w g t cs) (hne : 44 ≠ t) (hne2 : 56 ≠ t) (i : Nat) (u : Value) : RowsN (w.setCell ⟨g, i, none⟩ u) base v N L := RowsW.far h hb hne hne2 i u
theorem RowsN.form (h : RowsN w base v N L) (h0 : 0 < L.length) : ∃ g cap, v = .slice (some ⟨g, 0, none⟩) L.length cap ∧ base ≤ g ∧ g < w.heap.size ∧ L.length ≤ cap ∧ cap ≤ maxLen := by
  obtain ⟨rs, h1, h2, -⟩ := h
  rw [mkM_len] at h2
  rcases h2.2 with ⟨hv, hz⟩ | ⟨g, cap, cur, hv, hb, hh, hc, hm, -⟩
  · omega
  · exact ⟨g, cap, hv, hb, (show Box w g _ cur from hh).lt, hc, hm⟩
theorem RowsN.at (h : RowsN w base v N L) {g cap : Nat} (hv : v = .slice (some ⟨g, 0, none⟩) L.length cap) (i : Nat) (hi : i < L.length) :
    ∃ A l c, w.cell? ⟨g, i * 2, none⟩ = some (.int .i64 N) ∧ w.cell? ⟨g, i * 2 + 1, none⟩ = some (.slice A l c) ∧ OwnW w A l c (rowOf N (L.getD i 0)) ∧ w.frozen? ⟨g, i * 2, none⟩ = false ∧ w.frozen? ⟨g, i * 2 + 1, none⟩ = false := by
  obtain ⟨rs, h1, h2, h3⟩ := h
  rw [mkM_len] at h1 h2 h3
  obtain ⟨e1, e2⟩ := h3 i hi
  rw [mkM_at N L i hi] at e1 e2
  obtain ⟨r1, r2⟩ := rowCells_at rs i (by omega)
  have hc := World.ownsRow.cells h2 (g := g) (by rw [hv]; rfl)
  have c1 := hc _ _ r1
  have c2 := hc _ _ r2
  rw [add_zeroM] at c1 c2
  rw [e1] at c1
  rw [hv] at h2
  exact ⟨_, _, _, c1, c2, e2, h2.frozenAt _, h2.frozenAt _⟩
/-- A row is put in place of another one. -/
theorem RowsN.put {g cap : Nat} (h : RowsN w base (.slice (some ⟨g, 0, none⟩) L.length cap) N L) (i : Nat) (hi : i < L.length) (x : Nat) {A : Option Addr} {l c : Nat} (hw : OwnW w A l c (rowOf N x)) :
    RowsN ((w.setCell ⟨g, i * 2, none⟩ (.int .i64 N)).setCell ⟨g, i * 2 + 1, none⟩ (.slice A l c)) base (.slice (some ⟨g, 0, none⟩) L.length cap) N (L.set i x) := by
  obtain ⟨rs, h1, h2, h3⟩ := h
  rw [mkM_len] at h1 h2 h3
  have hbox : ∃ cur, Box w g 56 cur := by
    rcases h2.2 with ⟨hv, _⟩ | ⟨g', cap', cur, hv, hb, hh, -⟩
    · cases hv
    · injection hv with e1; injection e1 with e1; injection e1 with e1; subst e1; exact ⟨cur, hh⟩
  obtain ⟨cur, hbx⟩ := hbox
  have s1 := (h2.stored (i * 2) (.int .i64 N)).1
  have s2 := (s1.stored (i * 2 + 1) (.slice A l c)).1
  rw [show ((rowCells rs).set (i * 2) (.int .i64 (N : Int))).set (i * 2 + 1) (.slice A l c) = rowCells (rs.set i ((N : Int), A, l, c)) from rowCells_set rs i ((N : Int), A, l, c)] at s2
  refine ⟨rs.set i ((N : Int), A, l, c), by simp [h1, mkM], by rw [mkM_len, List.length_set]; exact s2, fun j hj => ?_⟩
  rw [mkM_len, List.length_set] at hj
  rw [mkM_at N _ j (by rw [List.length_set]; exact hj)]
  have far : ∀ {A : Option Addr} {l c : Nat} {zs : List Nat}, OwnW w A l c zs → OwnW ((w.setCell ⟨g, i * 2, none⟩ (.int .i64 N)).setCell ⟨g, i * 2 + 1, none⟩ (.slice A l c)) A l c zs := fun ho => (ho.far hbx (by decide) _ _).far (hbx.put _ _) (by decide) _ _
  have far2 : ∀ {B : Option Addr} {m d : Nat} {zs : List Nat}, OwnW w B m d zs → OwnW ((w.setCell ⟨g, i * 2, none⟩ (.int .i64 N)).setCell ⟨g, i * 2 + 1, none⟩ (.slice A l c)) B m d zs := fun ho => (ho.far hbx (by decide) _ _).far (hbx.put _ _) (by decide) _ _
  by_cases e : j = i
  · subst e
    have e1 : (rs.set j ((N : Int), A, l, c)).getD j (0, none, 0, 0) = ((N : Int), A, l, c) := by simp [List.getD, h1, hi]
    have e2 : (L.set j x).getD j 0 = x := by simp [List.getD, hi]
    rw [e1, e2]
    exact ⟨rfl, far2 hw⟩
  · have e1 : (rs.set i ((N : Int), A, l, c)).getD j (0, none, 0, 0) = rs.getD j (0, none, 0, 0) := by simp only [List.getD]; rw [List.getElem?_set_ne (by omega)]
    have e2 : (L.set i x).getD j 0 = L.getD j 0 := by simp only [List.getD]; rw [List.getElem?_set_ne (by omega)]
    obtain ⟨f1, f2⟩ := h3 j hj
    rw [mkM_at N L j hj] at f1 f2
    rw [e1, e2]
    exact ⟨f1, far2 f2⟩
end
theorem has_any (N x : Nat) (hN : N ≤ 512) (hx : x < 2 ^ N) (A : Option Addr) (l c p : Nat) (hp : p < N) (w : World) (hw : Words w A l (rowOf N x)) :
    Calls Tryz.prog 77 #[.agg #[.int .i64 N, .slice A l c], .int .i64 (p : Int)] w fun e w' => e = .returned (.bool (x.testBit p)) ∧ Below w.heap.size w w' := by
  have hW : Below w.heap.size w (w.alloc (.cells #[.int .i64 N, .slice A l c] 56)) := (Below.refl _ _).alloc (Nat.le_refl _) _
  have Q := Box.new w 56 #[.int .i64 (N : Int), .slice A l c]
  have HG := Lib.hid (get_yes N p A l c (rowOf N x) _ (rowOf_right N x hN hx) hp (hw.below hW))
  rw [rowOf_bitN N x p hp] at HG
  have HW := Lib.hid hW
  obtain ⟨q0, q1, -, -⟩ := Q.two
  clear hw hW Q
  cases hb : x.testBit p with
  | true =>
    rw [hb] at HG
    clear hb
    go_enter Tryz.func77, Tryz.ntmps77
    go_wp2_with fail
    refine HG.out.mono ?_
    rintro e w1 ⟨rfl, hb⟩
    have B := Lib.hid (chainN HW.out HW.out.size hb)
    clear hb
    go_wp2_with fail
    go_ret
    exact ⟨by simp, B.out⟩
  | false =>
    rw [hb] at HG
    clear hb
    go_enter Tryz.func77, Tryz.ntmps77
    go_wp2_with fail
    refine HG.out.mono ?_
    rintro e w1 ⟨rfl, hb⟩
    have B := Lib.hid (chainN HW.out HW.out.size hb)
    clear hb
    go_wp2_with fail
    go_ret
    exact ⟨by simp, B.out⟩
theorem RowsN.keepW {w : World} {base : Nat} {N : Nat} {L : List Nat} {g n cap : Nat} (h : RowsN w base (.slice (some ⟨g, 0, none⟩) n cap) N L) {B : Option Addr} {m k : Nat} {zs : List Nat} (ho : OwnW w B m k zs) (i j : Nat) (u v : Value) :
    OwnW ((w.setCell ⟨g, i, none⟩ u).setCell ⟨g, j, none⟩ v) B m k zs := by
  obtain ⟨rs, h1, h2, h3⟩ := h
  rcases h2.2 with ⟨hv, _⟩ | ⟨g', cap', cur, hv, hb, hh, -⟩
  · cases hv
  · injection hv with e1; injection e1 with e1; injection e1 with e1
    subst e1
    have hbx : Box w g 56 cur := hh
    exact (ho.far hbx (by decide) _ _).far (hbx.put _ _) (by decide) _ _
theorem Box.three {w : World} {g : Nat} {t : TypeId} {a b d : Value} (h : Box w g t #[a, b, d]) : w.cell? ⟨g, 0, none⟩ = some a ∧ w.cell? ⟨g, 1, none⟩ = some b ∧ w.cell? ⟨g, 2, none⟩ = some d ∧ w.frozen? ⟨g, 0, none⟩ = false ∧ w.frozen? ⟨g, 1, none⟩ = false ∧ w.frozen? ⟨g, 2, none⟩ = false :=
  ⟨h.cell 0, h.cell 1, h.cell 2, h.free 0, h.free 1, h.free 2⟩
/-- Where the next row is that has a column. -/
def FindOut (L : List Nat) (d c : Nat) (w : World) (e : Ending) (w' : World) : Prop :=
  ∃ i : Nat, e = .returned (.int .i64 (i : Int)) ∧ d ≤ i ∧ i ≤ L.length ∧ (∀ j, d ≤ j → j < i → (L.getD j 0).testBit c = false) ∧ (i < L.length → (L.getD i 0).testBit c = true) ∧ Below w.heap.size w w'
set_option maxHeartbeats 2000000 in
theorem find_any (N : Nat) (hN : N ≤ 512) (L : List Nat) (hL : ∀ i, L.getD i 0 < 2 ^ N) (hlen : L.length ≤ 64) (v : Value) (base wb d c : Nat) (hd : d ≤ L.length) (hc : c < N) (w : World) (hb : Box w wb 84 #[.int .i64 (N : Int), v, .int .i64 (d : Int)]) (hr : RowsN w base v N L) :
    Calls Tryz.prog 76 #[.pointer (some ⟨wb, 0, none⟩), .int .i64 (c : Int)] w (FindOut L d c w) := by
  have HBX := Lib.hid hb
  have HR := Lib.hid hr
  obtain ⟨A0, c0, hv, -⟩ := own_form hr.choose_spec.2.1
  rw [mkM_len] at hv
  subst hv
  obtain ⟨b0, b1, b2, -, -, -⟩ := hb.three
  clear hb hr
  go_enter Tryz.func76, Tryz.ntmps76
  go_wp2_with fail
  clear b0 b1 b2
  go_loopw [5] (fun t wr => ∃ i : Nat, d ≤ i ∧ i ≤ L.length ∧ t = .int .i64 (i : Int) ∧ Hid (∀ j, d ≤ j → j < i → (L.getD j 0).testBit c = false) ∧ Hid (Below w.heap.size w wr)) (fun t _ => L.length - (intOf t).toNat)
  case atStart => exact ⟨d, Nat.le_refl _, hd, rfl, Lib.hid (fun j h1 h2 => by omega), Lib.hid (Below.refl _ _)⟩
  case round =>
    obtain ⟨i, h1, h2, rfl, HF, HB⟩ := hrel
    obtain ⟨b0, b1, b2, -, -, -⟩ := (HBX.out.keep HB.out).three
    by_cases hlt : i < L.length
    · have hlt' : (i : Int) < (L.length : Int) := by omega
      have hr1 := HR.out.below HB.out
      obtain ⟨g, cap, hv, -, -, hcap, hcm⟩ := hr1.form (by omega)
      injection hv with e1 e2 e3
      subst e1
      obtain ⟨A, l, cc, x0, x1, ow, -, -⟩ := hr1.at rfl i hlt
      have HH := Lib.hid (has_any N (L.getD i 0) hN (hL i) A l cc c hc _ (ow.words (rowOf_lt N _)))
      clear hr1 e3 ow
      cases hbit : (L.getD i 0).testBit c with
      | true =>
        rw [hbit] at HH
        have HBt := Lib.hid hbit
        clear hbit
        go_wp2_with fail
        refine HH.out.mono ?_
        rintro e w1 ⟨rfl, hb⟩
        have HB2 := Lib.hid (chain HB.out hb)
        clear hb
        go_wp2_with fail
        go_ret
        exact ⟨i, rfl, h1, by omega, HF.out, fun _ => HBt.out, HB2.out⟩
      | false =>
        rw [hbit] at HH
        have HBt := Lib.hid hbit
        clear hbit
        go_wp2_with fail
        refine HH.out.mono ?_
        rintro e w1 ⟨rfl, hb⟩
        have HB2 := Lib.hid (chain HB.out hb)
        clear hb
        go_wp2_with fail
        go_roundw
        case rel => exact ⟨i + 1, by omega, by omega, by go_num, Lib.hid (fun j k1 k2 => by
          by_cases e : j = i
          · subst e; exact HBt.out
          · exact HF.out j k1 (by omega)), HB2⟩
        case measure => simp [intOf]; omega
    · obtain rfl : i = L.length := by omega
      have hlt' : ¬ (L.length : Int) < (L.length : Int) := by omega
      go_wp2_with fail
      go_ret
      exact ⟨L.length, rfl, h1, Nat.le_refl _, HF.out, fun h => absurd h (Nat.lt_irrefl _), HB.out⟩
end
section
/- Layer 4: clear: a column is put out of all rows but one. -/
set_option linter.unusedVariables false
set_option linter.unusedSimpArgs false
open Go.RowKit
set_option maxRecDepth 100000
theorem gk_trans {w w1 w2 : World} {g : Nat} (h : w.grownBy w1 (some g)) (k : w1.grownBy w2 (some g)) : w.grownBy w2 (some g) :=
  ⟨k.os.trans h.os, k.tape.trans h.tape, k.output.trans h.output, Nat.le_trans h.size k.size, fun b hb hne => (k.block b (Nat.lt_of_lt_of_le hb h.size) hne).trans (h.block b hb hne)⟩
theorem gk_below {w w1 : World} {r : Option Nat} (h : Below w.heap.size w w1) : w.grownBy w1 r := ⟨h.os, h.tape, h.output, h.size, fun b hb _ => h.block b hb⟩
theorem gk_set (w : World) (g i : Nat) (u : Value) : w.grownBy (w.setCell ⟨g, i, none⟩ u) (some g) :=
  ⟨rfl, rfl, rfl, by simp [World.setCell], fun b _ hne => Below.heap_setCell _ _ _ _ (fun e => hne (by rw [e]))⟩
theorem gk_drew {w w1 : World} {r : Option Nat} (h : w.grownBy w1 r) : w.grownBy w1.drew r := ⟨h.os, h.tape, h.output, h.size, h.block⟩
theorem RowsN.drew {w : World} {base : Nat} {v : Value} {N : Nat} {L : List Nat} (h : RowsN w base v N L) : RowsN w.drew base v N L := h
theorem gk_refl (w : World) (r : Option Nat) : w.grownBy w r := ⟨rfl, rfl, rfl, Nat.le_refl _, fun _ _ _ => rfl⟩
theorem gk_box {w w1 : World} {g b : Nat} {t : TypeId} {cs : Array Value} (h : Box w b t cs) (k : w.grownBy w1 (some g)) (hne : b ≠ g) : Box w1 b t cs := (k.block b h.lt (fun e => hne (Option.some.inj e))).trans h
/-- The column put out of the first i rows. -/
def clearP (L : List Nat) (d c i : Nat) : List Nat := (List.range L.length).map fun j => if j < i ∧ j ≠ d ∧ (L.getD j 0).testBit c = true then L.getD j 0 ^^^ L.getD d 0 else L.getD j 0
theorem clearP_len (L : List Nat) (d c i : Nat) : (clearP L d c i).length = L.length := by simp [clearP]
theorem clearP_at (L : List Nat) (d c i j : Nat) (hj : j < L.length) : (clearP L d c i).getD j 0 = if j < i ∧ j ≠ d ∧ (L.getD j 0).testBit c = true then L.getD j 0 ^^^ L.getD d 0 else L.getD j 0 := by simp [clearP, List.getD, hj]
theorem clearP_zero (L : List Nat) (d c : Nat) : clearP L d c 0 = L := by
  apply List.ext_getElem (clearP_len _ _ _ _)
  intro j h1 h2
  simp [clearP, List.getD, h2]
theorem clearP_all (L : List Nat) (d c : Nat) : clearP L d c L.length = clearL L d c := by
  unfold clearP clearL
  apply List.map_congr_left
  intro j hj
  have : j < L.length := by simpa using hj
  simp [this]
theorem clearP_yes (L : List Nat) (d c i : Nat) (hi : i < L.length) (hd : i ≠ d) (hb : (L.getD i 0).testBit c = true) : clearP L d c (i + 1) = (clearP L d c i).set i (L.getD i 0 ^^^ L.getD d 0) := by
  apply List.ext_getElem (by simp [clearP])
  intro j h1 h2
  have hj : j < L.length := by rw [clearP_len] at h1; exact h1
  have a := clearP_at L d c (i + 1) j hj
  have b := clearP_at L d c i j hj
  rw [List.getElem_set]
  have e1 : (clearP L d c (i + 1)).getD j 0 = (clearP L d c (i + 1))[j] := by simp only [List.getD, List.getElem?_eq_getElem h1, Option.getD_some]
  have h3 : j < (clearP L d c i).length := by rw [clearP_len]; exact hj
  have e2 : (clearP L d c i).getD j 0 = (clearP L d c i)[j] := by simp only [List.getD, List.getElem?_eq_getElem h3, Option.getD_some]
  rw [← e1, a]
  by_cases e : i = j
  · subst e; rw [if_pos rfl, if_pos ⟨by omega, hd, hb⟩]
  · rw [if_neg e, ← e2, b]
    by_cases hl : j < i
    · simp only [hl, show j < i + 1 by omega]
    · simp only [hl, show ¬ j < i + 1 by omega]
theorem clearP_no (L : List Nat) (d c i : Nat) (h : ¬ (i ≠ d ∧ (L.getD i 0).testBit c = true)) : clearP L d c (i + 1) = clearP L d c i := by
  unfold clearP
  apply List.map_congr_left
  intro j hj
  by_cases e : j = i
  · subst e; rw [if_neg (fun k => h k.2), if_neg (fun k => h k.2)]
  · by_cases hl : j < i
    · simp only [hl, show j < i + 1 by omega]
    · simp only [hl, show ¬ j < i + 1 by omega]
theorem lt_all {N : Nat} {L : List Nat} (h : ∀ r ∈ L, r < 2 ^ N) (i : Nat) : L.getD i 0 < 2 ^ N := by
  by_cases hi : i < L.length
  · exact h _ (getD_mem hi)
  · have : L[i]? = none := List.getElem?_eq_none (by omega)
    simp only [List.getD, this, Option.getD_none]; exact Nat.two_pow_pos N
theorem clearP_lt {N : Nat} {L : List Nat} (h : ∀ i, L.getD i 0 < 2 ^ N) (d c k i : Nat) : (clearP L d c k).getD i 0 < 2 ^ N := by
  by_cases hi : i < L.length
  · rw [clearP_at L d c k i hi]
    split
    · exact Nat.xor_lt_two_pow (h i) (h d)
    · exact h i
  · have : (clearP L d c k)[i]? = none := List.getElem?_eq_none (by rw [clearP_len]; omega)
    simp only [List.getD, this, Option.getD_none]; exact Nat.two_pow_pos N
/-- The xor of two rows told by numbers. -/
theorem xor_num (N x y : Nat) (hN : N ≤ 512) (hx : x < 2 ^ N) (hy : y < 2 ^ N) (A B : Option Addr) (l c k d : Nat) (w : World) (hu : Words w A l (rowOf N x)) (hv : Words w B k (rowOf N y)) :
    Calls Tryz.prog 75 #[.agg #[.int .i64 (N : Int), .slice A l c], .agg #[.int .i64 (N : Int), .slice B k d]] w (OwnOut N (rowOf N (x ^^^ y)) w) := by
  have h := xor_own (N : Int) A B l c k d (rowOf N x) (rowOf N y) w hu hv (rowOf_right N x hN hx) (rowOf_right N y hN hy)
  rw [rowOf_xor] at h
  exact h
theorem set2_cell {w : World} {g i j : Nat} {x : Value} (h : w.cell? ⟨g, j, none⟩ = some x) (h1 : ¬ j = i) (h2 : ¬ j = i + 1) (u v : Value) : ((w.setCell ⟨g, i, none⟩ u).setCell ⟨g, i + 1, none⟩ v).cell? ⟨g, j, none⟩ = some x := by
  rw [World.cell?_setCell_other _ _ _ _ (by intro e; injection e; omega), World.cell?_setCell_other _ _ _ _ (by intro e; injection e; omega)]
  exact h
/-- What clear leaves. -/
def ClearOut (N base wb g cap : Nat) (L : List Nat) (d c : Nat) (w : World) (e : Ending) (w' : World) : Prop :=
  (∃ v, e = .returned v) ∧ Box w' wb 84 #[.int .i64 (N : Int), .slice (some ⟨g, 0, none⟩) L.length cap, .int .i64 ((d : Int) + 1)] ∧ RowsN w' base (.slice (some ⟨g, 0, none⟩) L.length cap) N (clearL L d c) ∧ w.grownBy w' (some g)
set_option maxHeartbeats 4000000 in
theorem clear_any (N : Nat) (hN : N ≤ 512) (L : List Nat) (hL : ∀ i, L.getD i 0 < 2 ^ N) (hlen : L.length ≤ 64) (base wb g cap d c : Nat) (hd : d < L.length) (hc : c < N) (hwg : wb ≠ g) (w : World)
    (hb : Box w wb 84 #[.int .i64 (N : Int), .slice (some ⟨g, 0, none⟩) L.length cap, .int .i64 ((d : Int) + 1)]) (hr : RowsN w base (.slice (some ⟨g, 0, none⟩) L.length cap) N L) (hg : g < w.heap.size) :
    Calls Tryz.prog 55 #[.pointer (some ⟨wb, 0, none⟩), .int .i64 (c : Int)] w (ClearOut N base wb g cap L d c w) := by
  have HBX := Lib.hid hb
  have HR := Lib.hid hr
  obtain ⟨b0, b1, b2, -, -, -⟩ := hb.three
  obtain ⟨-, -, -, -, -, hcap, hcm⟩ : ∃ (_ _ : Nat), True ∧ True ∧ True ∧ L.length ≤ cap ∧ cap ≤ maxLen := by
    obtain ⟨g', cap', hv, -, -, h1, h2⟩ := hr.form (by omega)
    injection hv with _ _ e3
    subst e3
    exact ⟨0, 0, trivial, trivial, trivial, h1, h2⟩
  unfold maxLen at hcm
  clear hb hr
  go_enter Tryz.func55, Tryz.ntmps55
  go_wp2_with fail
  clear b0 b1 b2
  go_loopw [17] (fun t wr => ∃ i : Nat, i ≤ L.length ∧ t = .int .i64 (i : Int) ∧ Box wr wb 84 #[.int .i64 (N : Int), .slice (some ⟨g, 0, none⟩) L.length cap, .int .i64 ((d : Int) + 1)] ∧ RowsN wr base (.slice (some ⟨g, 0, none⟩) L.length cap) N (clearP L d c i) ∧ Hid (w.grownBy wr (some g))) (fun t _ => L.length - (intOf t).toNat)
  case atStart => exact ⟨0, Nat.zero_le _, rfl, HBX.out, by rw [clearP_zero]; exact HR.out, Lib.hid (gk_refl _ _)⟩
  case round =>
    obtain ⟨i, hi, rfl, hbx, hrw, HG⟩ := hrel
    have HB := Lib.hid hbx
    have HRw := Lib.hid hrw
    clear hbx hrw HBX HR
    have HCL := Lib.hid (clearP_len L d c i)
    by_cases hlt : i < L.length
    · have hlt' : (i : Int) < (L.length : Int) := by omega
      obtain ⟨A, l, cc, x0, x1, ow, -, -⟩ := HRw.out.at (by rw [HCL.out]) i (by rw [HCL.out]; exact hlt)
      have hx := clearP_at L d c i i hlt
      rw [if_neg (fun k => Nat.lt_irrefl _ k.1)] at hx
      rw [hx] at ow
      clear hx
      -- the row's own variable
      have hal : Below wr.heap.size wr (wr.alloc (.cells #[.int .i64 (N : Int), .slice A l cc] 56)) := (Below.refl _ _).alloc (Nat.le_refl _) _
      have RB := Lib.hid (Box.new wr 56 #[.int .i64 (N : Int), .slice A l cc])
      have HB1 := Lib.hid (HB.out.keep hal)
      have HRw1 := Lib.hid (HRw.out.below hal)
      have HG1 := Lib.hid (gk_trans HG.out (gk_below hal))
      have OW1 := Lib.hid (ow.below hal)
      have hgs : wb < wr.heap.size := HB.out.lt
      clear ow
      obtain ⟨r0, r1, -, -⟩ := RB.out.two
      have HH := Lib.hid (has_any N (L.getD i 0) hN (hL i) A l cc c hc _ (OW1.out.words (rowOf_lt N _)))
      by_cases hid : i = d
      · have t1 : ((i : Int) != (d : Int)) = false := by simp [hid]
        have HNo := Lib.hid (clearP_no L d c i (fun k => k.1 hid))
        clear hid
        go_wp2_with fail
        go_roundw
        case rel => exact ⟨i + 1, by omega, by go_num, HB1.out, by rw [HNo.out]; exact HRw1.out, HG1⟩
        case measure => simp [intOf]; omega
      · have t1 : ((i : Int) != (d : Int)) = true := by simp; omega
        have HNE := Lib.hid hid
        clear hid
        cases hbit : (L.getD i 0).testBit c with
        | false =>
          rw [hbit] at HH
          have HNo := Lib.hid (clearP_no L d c i (fun k => by rw [hbit] at k; cases k.2))
          clear hbit
          go_wp2_with fail
          refine HH.out.mono ?_
          rintro e w1 ⟨rfl, hb⟩
          have HB2 := Lib.hid (HB1.out.keep hb)
          have HRw2 := Lib.hid (HRw1.out.below hb)
          have HG2 := Lib.hid (gk_trans HG1.out (gk_below hb))
          clear hb
          go_wp2_with fail
          go_roundw
          case rel => exact ⟨i + 1, by omega, by go_num, HB2.out, by rw [HNo.out]; exact HRw2.out, HG2⟩
          case measure => simp [intOf]; omega
        | true =>
          rw [hbit] at HH
          have HYes := Lib.hid (clearP_yes L d c i hlt HNE.out hbit)
          clear hbit
          go_wp2_with fail
          refine HH.out.mono ?_
          rintro e w1 ⟨rfl, hb⟩
          have HB2 := Lib.hid (HB1.out.keep hb)
          have HRw2 := Lib.hid (HRw1.out.below hb)
          have HG2 := Lib.hid (gk_trans HG1.out (gk_below hb))
          have RB2 := Lib.hid (RB.out.keep hb)
          have OW2 := Lib.hid (OW1.out.below hb)
          clear hb r0 r1 x0 x1
          obtain ⟨A2, l2, c2, y0, y1, ow2, -, -⟩ := HRw2.out.at (by rw [HCL.out]) d (by rw [HCL.out]; exact hd)
          have hx := clearP_at L d c i d hd
          rw [if_neg (fun k => k.2.1 rfl)] at hx
          rw [hx] at ow2
          clear hx
          have OW3 := Lib.hid ow2
          clear ow2
          obtain ⟨r0, r1, -, -⟩ := RB2.out.two
          obtain ⟨b0, b1, b2, -, -, -⟩ := HB2.out.three
          have HX := Lib.hid (fun W (h1 : Words W A l (rowOf N (L.getD i 0))) (h2 : Words W A2 l2 (rowOf N (L.getD d 0))) => xor_num N (L.getD i 0) (L.getD d 0) hN (hL i) (hL d) A A2 l cc l2 c2 W h1 h2)
          have WD1 := Lib.hid (show Words w1.drew A l (rowOf N (L.getD i 0)) from OW2.out.words (rowOf_lt N _))
          have WD2 := Lib.hid (show Words w1.drew A2 l2 (rowOf N (L.getD d 0)) from OW3.out.words (rowOf_lt N _))
          have HV := Lib.hid (show Value.slice (some ⟨g, 0, none⟩) L.length cap = .slice (some ⟨g, 0, none⟩) (clearP L d c i).length cap by rw [HCL.out])
          have HGl := Lib.hid (show g < w1.drew.heap.size from Nat.lt_of_lt_of_le hg HG2.out.size)
          have HI1 := Lib.hid (show i < (clearP L d c i).length by rw [HCL.out]; exact hlt)
          have hdc : (d : Int) < (L.length : Int) := by omega
          have hgr : g < wr.heap.size := Nat.lt_of_lt_of_le hg HG.out.size
          have n1 : ¬ d * 2 = i * 2 := by have := HNE.out; omega
          have n2 : ¬ d * 2 = i * 2 + 1 := by omega
          have n3 : ¬ d * 2 + 1 = i * 2 := by omega
          have n4 : ¬ d * 2 + 1 = i * 2 + 1 := by have := HNE.out; omega
          have n5 : ¬ wb = g := hwg
          have n6 : ¬ wr.heap.size = g := by omega
          have m1 : ¬ i * 2 = d * 2 := by have := HNE.out; omega
          have m2 : ¬ i * 2 + 1 = d * 2 := by omega
          have m3 : ¬ i * 2 = d * 2 + 1 := by omega
          have m4 : ¬ i * 2 + 1 = d * 2 + 1 := by have := HNE.out; omega
          have m5 : ¬ g = wb := fun e => hwg e.symm
          have m6 : ¬ g = wr.heap.size := by omega
          go_wp2_with fail
          go_region_held3 (fun w' => w'.cell? ⟨wb, 1, none⟩ = some (.slice (some ⟨g, 0, none⟩) L.length cap) ∧ w'.cell? ⟨wr.heap.size, 0, none⟩ = some (.int .i64 (N : Int)) ∧ w'.cell? ⟨wr.heap.size, 1, none⟩ = some (.slice A l cc) ∧ w'.cell? ⟨g, d * 2, none⟩ = some (.int .i64 (N : Int)) ∧ w'.cell? ⟨g, d * 2 + 1, none⟩ = some (.slice A2 l2 c2)) (go_keep)
            (first | (go_at_call 75; refine (HX.out _ WD1.out WD2.out).mono ?_; rintro f1 y1' ⟨A3, l3, c3, rfl, ow3, hb⟩; have HB3 := Lib.hid (HB2.out.drew.keep hb); have HRw3 := Lib.hid (HRw2.out.drew.below hb); have HG3 := Lib.hid (gk_trans (gk_drew HG2.out) (gk_below hb)); have RB3 := Lib.hid (RB2.out.drew.keep hb); have OW4 := Lib.hid ow3; have q0 := (hb.cell (p := ⟨g, d * 2, none⟩) HGl.out).trans y0; have q1 := (hb.cell (p := ⟨g, d * 2 + 1, none⟩) HGl.out).trans y1; clear ow3 hb; obtain ⟨s0, s1, -, -⟩ := RB3.out.two; obtain ⟨p0, p1, p2, -, -, -⟩ := HB3.out.three; obtain ⟨A5, l5, c5, z0, z1, -, zf0, zf1⟩ := HRw3.out.at HV.out i HI1.out; have k0 := set2_cell q0 n1 n2 (.int .i64 (N : Int)) (.slice A3 l3 c3); have k1 := set2_cell q1 n3 n4 (.int .i64 (N : Int)) (.slice A3 l3 c3)))
          clear k0 k1 q0 q1
          go_wp2_with fail
          go_roundw
          case rel =>
            have hput := RowsN.put (L := clearP L d c i) (by rw [HCL.out]; exact HRw3.out) i HI1.out (L.getD i 0 ^^^ L.getD d 0) OW4.out
            rw [← HYes.out, HCL.out] at hput
            exact ⟨i + 1, by omega, by go_num, (HB3.out.far (p := ⟨g, i * 2, none⟩) hwg _).far (p := ⟨g, i * 2 + 1, none⟩) hwg _, hput, Lib.hid (gk_trans (gk_trans HG3.out (gk_set _ g (i * 2) _)) (gk_set _ g (i * 2 + 1) _))⟩
          case measure => simp [intOf]; omega
    · obtain rfl : i = L.length := by omega
      have hlt' : ¬ (L.length : Int) < (L.length : Int) := by omega
      have hrw := HRw.out
      rw [clearP_all] at hrw
      go_wp2_with fail
      go_end0
      exact ⟨⟨_, rfl⟩, HB.out, hrw, HG.out⟩
end
section
/- A law of one's own for 'for .. := range seq' where the iterator (a function or a method's value) and the body share a state: what holds at a round's head, and what holds where the round is handed over. No program. -/
set_option linter.unusedVariables false
set_option linter.unusedSimpArgs false
open Go.RowKit
variable {F : Fence} {n : Nat} {P : Program}
/-- How a round may be left. -/
def postS {σ : Type} (I : σ → World → Prop) (s : σ) (W : World) : Exit → Act → World → Prop
  | .normal, _, W' => KeepsOthers W W' ∧ I s W'
  | .ret, _, _ => False
  | .exit _, _, _ => False
  | .goto _, _, _ => False
  | .panic _, _, _ => False
  | .outgrown, _, _ => False
theorem range_state {σ : Type} {g : Operand} {ps : Array Tmp} {assign body : Code} {Q : Exit → Act → World → Prop} {a : Act} {w : World}
    (hro : F.round = none) (h1 : 1 ≤ n) {gf : Nat} {la lb : Array Value} (hg : a.eval g = .func (.func gf) la lb) (hFg : F.fn gf) (eg : ∀ args w, (callFunc gf args).run P w = .ok (.enter gf args) w)
    {encs : σ → Array Value} (next : σ → σ) (Fin : σ → Prop) (hps : ∀ x, (encs x).size = ps.size)
    (s₀ : σ) (I M : σ → World → Prop) (hI : OwnFrom w.heap.size I) (hM : OwnFrom w.heap.size M)
    (hseq : ∀ (l : Nat) (T : World → Prop), (∀ W W', T W → KeepsOthers W W' → T W') →
      (∀ s W, M s W → T W → YieldAt F (n - 1 - 1) P l (encs s) W fun e W' => e = .returned (.bool true) ∧ I (next s) W' ∧ T W') →
      ∀ s W1, I s W1 → T W1 → s = s₀ → CallsIn F (n - 1) P gf (la ++ #[.func (.yield l) #[] #[]] ++ lb) W1 fun e W' => (∃ v, e = .returned v) ∧ ∃ s, Fin s ∧ I s W' ∧ T W')
    (h0 : I s₀ w) (a₁ : σ → Act)
    (hassign : ∀ (l : Nat) (x : σ) (W : World) (K : Act → World → Prop), K (a₁ x) W →
      assign.wpIn (F.inRound l) (n - 1 - 1) P (Exit.then K (fun _ _ _ => False)) { tmps := (ps.zip (encs x)).foldl (fun t (p, v) => t.setIfInBounds p v) a.tmps, defers := [] } W)
    (hbody : ∀ (l : Nat) (s : σ) (W : World), M s W → body.wpIn (F.inRound l) (n - 1 - 1) P (postS I (next s) W) (a₁ s) W)
    (hdone : ∀ (D : Nat) (s : σ) (W : World), w.heap.size ≤ D → Fin s → I s W → W.heap[D]? = some (.deferred (some [])) → Q .normal { a with defers := { target := .collected D, args := #[] } :: a.defers } W) :
    (Code.rangeFunc g ps assign body).wpIn F n P Q a w := by
  refine wpIn_rangeFunc ?_
  intro fn hfn
  rw [hro]
  obtain ⟨rc, hrc⟩ : ∃ rc : LoopState → Option Code → Loop, rc = fun st pe => { state := st, pending := pe, fn, tmps := a.tmps, params := ps, assign, body, defers := w.heap.size } := ⟨_, rfl⟩
  obtain ⟨W1, hW1⟩ : ∃ W1, (w.alloc (.deferred (some []))).alloc (.loop (rc .ready none)) = W1 := ⟨_, rfl⟩
  have hL1 : W1.heap[w.heap.size + 1]? = some (.loop (rc .ready none)) := by
    rw [← hW1]; have := World.alloc_heap_new (w.alloc (.deferred (some []))) (.loop (rc .ready none)); rwa [World.size_alloc] at this
  have hK1 : W1.heap[w.heap.size]? = some (.deferred (some [])) := by
    rw [← hW1]; exact (Below.heap_alloc _ _ _ (by simp)).trans (World.alloc_heap_new w _)
  have hI1 : I s₀ W1 := by rw [← hW1]; exact hI.alloc _ (hI.alloc _ h0)
  refine ⟨w.heap.size + 1, [{ target := .collected w.heap.size, args := #[] }], W1, { target := .fn (.func gf) lb, args := la ++ #[.func (.yield (w.heap.size + 1)) #[] #[]] }, W1, gf,
    la ++ #[.func (.yield (w.heap.size + 1)) #[] #[]] ++ lb, W1, ?_, ?_, ?_, ?_, fun _ => h1, ?_⟩
  · rw [← hW1, hrc]; exact run_enterLoop_outer _ _ _ _ _
  · simp only [resolve, hg]
    simp [go_sem]
  · intro f' hf'; simp [Target.leads] at hf'; subst hf'; exact hFg
  · simp [invoke, go_sem, eg]
  · refine (hseq (w.heap.size + 1)
      (fun W => W.heap[w.heap.size + 1]? = some (.loop (rc .ready none)) ∧ W.heap[w.heap.size]? = some (.deferred (some [])))
      (fun W W' hs hk => ⟨hk.same _ _ hs.1 rfl, hk.same _ _ hs.2 rfl⟩) ?_ s₀ W1 hI1 ⟨hL1, hK1⟩ rfl).mono ?_
    · rintro s W hm ⟨hl, hk⟩
      have hlt : w.heap.size + 1 < W.heap.size := (Array.getElem?_eq_some_iff.1 hl).1
      have hy := run_yield (P := P) (args := encs s) hl (by rw [hrc]; exact hps _)
      rw [hrc] at hy
      refine ⟨fn, _, assign, body, hy, roundIn_of_wpIn hfn (hassign _ s W _ ⟨_, run_beginRound hl (by rw [hrc]), ?_⟩)⟩
      have hl2 : (W.putObj (w.heap.size + 1) (.loop { rc .ready none with state := .busy })).heap[w.heap.size + 1]? = some (.loop { rc .ready none with state := .busy }) := World.putObj_heap_same hlt
      have hk2 : (W.putObj (w.heap.size + 1) (.loop { rc .ready none with state := .busy })).heap[w.heap.size]? = some (.deferred (some [])) := (World.putObj_heap_other (by omega)).trans hk
      refine wpIn_mono (hbody _ s _ (hM.putObj _ hm (by omega) hl rfl)) ?_
      rintro e a3 W3 hp
      cases e with
      | normal =>
        obtain ⟨hk3, hi3⟩ := hp
        have hl3 := hk3.same _ _ hl2 rfl
        have hr := run_endRound (P := P) none hl3
        have hl4 : (W3.putObj (w.heap.size + 1) (.loop (rc .ready none))).heap[w.heap.size + 1]? = some (.loop (rc .ready none)) := World.putObj_heap_same (Array.getElem?_eq_some_iff.1 hl3).1
        have hk4 : (W3.putObj (w.heap.size + 1) (.loop (rc .ready none))).heap[w.heap.size]? = some (.deferred (some [])) := (World.putObj_heap_other (by omega)).trans (hk3.same _ _ hk2 rfl)
        have hi4 := hI.putObj (.loop (rc .ready none)) hi3 (by omega) hl3 rfl
        rw [hrc] at hr hl4 hk4 hi4 ⊢
        exact ⟨_, _, hr, rfl, hi4, hl4, hk4⟩
      | ret => exact hp.elim
      | exit id => exact hp.elim
      | goto t => exact hp.elim
      | panic ch => exact hp.elim
      | outgrown => exact hp.elim
    · rintro e W2 ⟨⟨v, rfl⟩, s, hf, hi, hl, hk⟩
      exact ⟨none, _, by have := run_endLoop (P := P) hl (by rw [hrc]; simp); rw [hrc] at this; exact this, hdone _ s _ (Nat.le_refl _) hf (hI.putObj _ hi (by omega) hl rfl) ((World.putObj_heap_other (by omega)).trans hk)⟩
end
end Go.Proofs.YtmfhimeffmpgaaaGreat
