/- Contracts of layer 3: alone, One. -/
import Derived.Test.YtljooknodnblbaaMat4
import Derived.Test.YtljooknodnblbaaMatM
namespace Go.Proofs.Ytljooknodnblbaa
set_option linter.unusedVariables false
set_option linter.unusedSimpArgs false
open Go.RowKit
theorem chainN {w w1 w2 : World} {B : Nat} (h : Below B w w1) (hB : B ≤ w1.heap.size) (h2 : Below w1.heap.size w1 w2) : Below B w w2 := h.trans (h2.mono hB)
set_option maxHeartbeats 1000000 in
theorem alone_any (n i : Nat) (hi : i < n) (hn : n ≤ 64) (w : World) : Calls Try.prog 17 #[.int .i64 n, .int .i64 i] w (OneOwn n (ofBits n [(i : Int)]) w) := by
  have Q0 := Lib.hid ((Box.new w 37 #[.int .i64 0, .slice none 0 0]).alloc (.cells #[.int .i64 i] 3))
  have HW := Lib.hid (show Below w.heap.size w ((w.alloc (.cells #[.int .i64 0, .slice none 0 0] 37)).alloc (.cells #[.int .i64 i] 3)) from ((Below.refl _ _).alloc (Nat.le_refl _) _).alloc (by simp) _)
  have bx := Box.new (w.alloc (.cells #[.int .i64 0, .slice none 0 0] 37)) 3 #[.int .i64 (i : Int)]
  have HI := Lib.hid (show Ints ((w.alloc (.cells #[.int .i64 0, .slice none 0 0] 37)).alloc (.cells #[.int .i64 i] 3)) (some ⟨w.heap.size + 1, 0, none⟩) 1 [(i : Int)] from by
    simp only [World.size_alloc] at bx
    refine ⟨rfl, fun j => ?_, fun _ => ⟨w.heap.size + 1, 0, rfl, bx.lt, fun j hj => ?_⟩⟩
    · match j with
      | 0 => simp; omega
      | k + 1 => simp
    · rw [Nat.zero_add, bx.cell]
      match j, hj with
      | 0, _ => rfl)
  clear bx
  have HL := Lib.hid ((lmb_iff n).2 ⟨by omega, by omega⟩)
  have HT := Lib.hid (show there n [(i : Int)] = true by simp [there]; omega)
  go_enter Try.func17, Try.ntmps17
  go_wp2_with fail
  refine (of_own n _ 1 1 [(i : Int)] HL.out _ HI.out (by omega) HT.out).mono ?_
  rintro e w2 ⟨A, l, c2, rfl, hw, hb⟩
  have P0 := Lib.hid ((Q0.out.keep hb).alloc (.cells #[.int .i64 n, .slice A l c2] 37))
  have P1 := Lib.hid (Box.new w2 37 #[.int .i64 n, .slice A l c2])
  have T1 := Lib.hid ((chainN HW.out HW.out.size hb).alloc (chainN HW.out HW.out.size hb).size (.cells #[.int .i64 n, .slice A l c2] 37))
  have HWo := Lib.hid (hw.alloc (.cells #[.int .i64 n, .slice A l c2] 37))
  clear hw hb
  obtain ⟨r0, r1, r2, r3⟩ := P0.out.two
  obtain ⟨s0, s1, -, -⟩ := P1.out.two
  go_wp2
  refine close_one Try.results17 rfl rfl P0.out.put2 Try.underlying37 rfl (by kernel_rfl) ⟨_, _, _, rfl, HWo.out.put2 P0.out _ _, ?_⟩
  exact (T1.out.setCell (p := ⟨w.heap.size, 0, none⟩) (Nat.le_refl _) _).setCell (p := ⟨w.heap.size, 1, none⟩) (Nat.le_refl _) _
/-- What a function of one matrix and an error hands back. -/
def MatRes (N : Int) (ms : List (Int × List Nat)) (err : Int) (w : World) (e : Ending) (w' : World) : Prop :=
  ∃ A c, e = .returned (.tuple #[.agg #[.int .i64 N, .slice A ms.length c], .int .i64 err]) ∧ MatAt w' w.heap.size A ms.length ms ∧ Below w.heap.size w w'
/-- What a function of one matrix hands back. -/
def MatOne (N : Int) (ms : List (Int × List Nat)) (w : World) (e : Ending) (w' : World) : Prop :=
  ∃ A c, e = .returned (.agg #[.int .i64 N, .slice A ms.length c]) ∧ MatAt w' w.heap.size A ms.length ms ∧ Below w.heap.size w w'
def oneL (n : Nat) : List (Int × List Nat) := (List.range n).map fun (i : Nat) => ((n : Int), ofBits n [(i : Int)])
theorem oneL_len (n : Nat) : (oneL n).length = n := by simp [oneL]
def oneN (n : Int) : Int := if smb n then n else 0
def oneM (n : Int) : List (Int × List Nat) := if smb n then oneL n.toNat else []
def oneE (n : Int) : Int := if smb n then 0 else 2
set_option maxHeartbeats 1000000 in
theorem one_any (n : Int) (w : World) : Calls Try.prog 6 #[.int .i64 n] w (MatRes (oneN n) (oneM n) (oneE n) w) := by
  have H := Lib.hid (columnsMayBe_any n)
  have Q := Lib.hid (Box.new w 24 #[.int .i64 0, .slice none 0 0])
  have HW := Lib.hid (show Below w.heap.size w (w.alloc (.cells #[.int .i64 0, .slice none 0 0] 24)) from (Below.refl _ _).alloc (Nat.le_refl _) _)
  obtain ⟨r0, r1, r2, r3⟩ := Q.out.two
  cases h : smb n with
  | false =>
    have e1 : oneN n = 0 := by simp [oneN, h]
    have e2 : oneM n = [] := by simp [oneM, h]
    have e3 : oneE n = 2 := by simp [oneE, h]
    rw [e1, e2, e3]
    clear e1 e2 e3
    go_enter Try.func6, Try.ntmps6
    go_wp2_with fail
    refine (H.out _).mono ?_
    rintro e w1 ⟨rfl, rfl⟩
    go_wp2
    refine close_cell Try.results6 rfl rfl rfl Q.out Try.underlying24 rfl (by kernel_rfl) ⟨_, _, rfl, MatAt.nil _ _ _, HW.out⟩
  | true =>
    obtain ⟨m, rfl⟩ := Int.eq_ofNat_of_zero_le ((smb_iff n).1 h).1
    have e1 : oneN m = m := by simp [oneN, h]
    have e2 : oneM m = oneL m := by simp [oneM, h]
    have e3 : oneE m = 0 := by simp [oneE, h]
    rw [e1, e2, e3]
    clear e1 e2 e3
    have hm := ((smb_iff m).1 h).2
    have HR := Lib.hid (rowsBy_any 17 #[.int .i64 m] #[] m m (fun i => ofBits m [(i : Int)]) (w.alloc (.cells #[.int .i64 0, .slice none 0 0] 24)) (enters_of Try.func17 (by kernel_rfl) rfl) (by omega)
      (fun W i hi _ => alone_any m i hi (by omega) W) (fun i j => ofBits_lt m _ j))
    go_enter Try.func6, Try.ntmps6
    go_wp2_with fail
    refine (H.out _).mono ?_
    rintro e w1 ⟨rfl, rfl⟩
    go_wp2_with fail
    refine HR.out.mono ?_
    rintro e x1 ⟨g, rfl, hg, hma, hb⟩
    have P := Lib.hid (Q.out.keep hb)
    have B := Lib.hid (chain HW.out hb)
    have HM := Lib.hid hma
    simp only [World.size_alloc] at hg HM
    clear hma hb r0 r1 r2 r3
    obtain ⟨r0, r1, r2, r3⟩ := P.out.two
    go_wp2_with fail
    refine close_cell Try.results6 rfl rfl rfl P.out.put2 Try.underlying24 rfl (by kernel_rfl) ⟨some ⟨g, 0, none⟩, m, by rw [oneL_len]; rfl, ?_, (B.out.setCell (p := ⟨w.heap.size, 0, none⟩) (Nat.le_refl _) _).setCell (p := ⟨w.heap.size, 1, none⟩) (Nat.le_refl _) _⟩
    rw [oneL_len]
    exact (HM.out.put2 P.out (by omega) _).low (by omega)
end Go.Proofs.Ytljooknodnblbaa
