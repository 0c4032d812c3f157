/- Contracts of layer 2: block.sizeMayBe, block.Zero, block.Nought, the reference's Nought, the law's cut. -/
import Derived.Test.YtfeaollpeaphlaaDoorBitrow1
import Derived.Laws.IdiomStrings
namespace Go.Proofs.YtfeaollpeaphlaaDoor
set_option linter.unusedVariables false
set_option linter.unusedSimpArgs false
open Go.RowKit
def smb (n : Int) : Bool := decide (0 ≤ n) && decide (n ≤ 64)
theorem smb_iff (n : Int) : smb n = true ↔ 0 ≤ n ∧ n ≤ 64 := by simp [smb]
theorem smb_no (n : Int) : smb n = false ↔ ¬ (0 ≤ n ∧ n ≤ 64) := by rw [← smb_iff]; simp
theorem sizeMayBe_any (n : Int) (w : World) : Calls Tryd.prog 41 #[.int .i64 n] w fun e w' => e = .returned (.bool (smb n)) ∧ w = w' := by
  by_cases h : 0 ≤ n
  · by_cases h2 : n ≤ 64
    · have e : smb n = true := (smb_iff n).2 ⟨h, h2⟩
      rw [e]; clear e
      go_enter Tryd.func41, Tryd.ntmps41
      go_wp2
      go_ret
      exact ⟨rfl, rfl⟩
    · have e : smb n = false := (smb_no n).2 (by omega)
      rw [e]; clear e
      have t : decide (n ≤ 64) = false := by simpa using h2
      go_enter Tryd.func41, Tryd.ntmps41
      go_wp2
      go_ret
      exact ⟨by simp, rfl⟩
  · have e : smb n = false := (smb_no n).2 (by omega)
    rw [e]; clear e
    have t : decide (0 ≤ n) = false := by simpa using h
    go_enter Tryd.func41, Tryd.ntmps41
    go_wp2
    go_ret
    exact ⟨by simp, rfl⟩
/-- The first 70 bytes of a text. -/
def cutB (s : ByteArray) : ByteArray := s.extract 0 (min s.size 70)
theorem cutB_size (s : ByteArray) : (cutB s).size ≤ 70 := by simp [cutB, ByteArray.size_extract]; omega
theorem cutB_self (s : ByteArray) (h : s.size ≤ 70) : cutB s = s := by
  unfold cutB
  rw [Nat.min_eq_left h]
  apply ByteArray.ext; simp
theorem cut_any (s : ByteArray) (hs : s.size ≤ maxLen) (w : World) : Calls Tryd.prog 40 #[.string s] w fun e w' => e = .returned (.string (cutB s)) ∧ w = w' := by
  unfold maxLen at hs
  by_cases h : s.size ≤ 70
  · have e : cutB s = s.extract 0 s.size := by unfold cutB; rw [Nat.min_eq_left h]
    rw [e]; clear e
    have g1 : (s.size : Int) ≤ 70 := by omega
    have g2 : ¬ (70 : Int) < s.size := by omega
    go_enter Tryd.func40, Tryd.ntmps40
    go_wp2
    go_ret
    exact ⟨by simp, rfl⟩
  · have e : cutB s = s.extract 0 70 := by unfold cutB; rw [Nat.min_eq_right (by omega)]
    rw [e]; clear e
    have g1 : (70 : Int) < s.size := by omega
    have g2 : ¬ (s.size : Int) ≤ 70 := by omega
    go_enter Tryd.func40, Tryd.ntmps40
    go_wp2
    go_ret
    exact ⟨by simp, rfl⟩
/-- Are all bytes 0? -/
def noughtL (l : List UInt8) : Bool := l.all fun b => b == 0
theorem take_snoc (s : ByteArray) (k : Nat) (h : k < s.size) : s.data.toList.take (k + 1) = s.data.toList.take k ++ [s[k]] := by
  have hk : k < s.data.toList.length := by simpa using h
  rw [List.take_succ_eq_append_getElem hk]
  rfl
theorem nought_not (s : ByteArray) (k : Nat) (h : k < s.size) (hz : ¬ s[k] = 0) : noughtL s.data.toList = false := by
  rw [Bool.eq_false_iff]
  intro ha
  have := List.all_eq_true.1 ha (s[k]) (by rw [show s[k] = s.data.toList[k]'(by simpa using h) from rfl]; exact List.getElem_mem _)
  exact hz (by simpa using this)
theorem uint8_info : (Tryd.prog.info? 5).map (fun i => (i.zero, i.size, i.bytes)) = some (some (.int .u8 0), 1, 1) := by kernel_rfl
/-- A row of bytes in memory. -/
def bytesA (l : List UInt8) : Array Value := (l.map fun (x : UInt8) => Value.int .u8 (x.toNat : Int)).toArray
theorem bytesA_get (l : List UInt8) (j : Nat) (h : j < l.length) : (bytesA l)[j]? = some (.int .u8 ((l.getD j 0).toNat : Int)) := by
  simp [bytesA, List.getD, h]
theorem bytesA_set (l : List UInt8) (k : Nat) (x : UInt8) : (bytesA l).setIfInBounds k (.int .u8 (x.toNat : Int)) = bytesA (l.set k x) := by
  simp [bytesA, List.map_set]
theorem makeB_any (n : Nat) (hn : n ≤ 1000000) (w : World) :
    (Instr.makeSlice 64 (.int .i64 (n : Int)) (.int .i64 (n : Int))).run Tryd.prog w = .ok (.slice (some ⟨w.heap.size, 0, none⟩) n n) (w.alloc (.cells (bytesA (List.replicate n 0)) 5)) := by
  obtain ⟨i0, hi, hz0, hz1, hz2⟩ := info_parts uint8_info
  have hr := run_make (P := Tryd.prog) w _ _ i0 _ Tryd.underlying64 hi hz0 .i64 .i64 n n (by omega) (by omega) (by rw [hz2]; omega) (by omega)
  simp only [Int.toNat_natCast, hz1, Nat.mul_one] at hr
  rw [hr]
  have : madeCells (Value.int .u8 0).cells n = bytesA (List.replicate n 0) := by
    apply Array.toList_inj.1
    have := toList_madeCells_one (Value.int .u8 0) n
    simpa [Value.cells, bytesA] using this
  rw [this]
theorem backB {w : World} {g n : Nat} {t : TypeId} {l : List UInt8} (h : Box w g t (bytesA l)) (hn : l.length = n) :
    (convert 64 9 (.slice (some ⟨g, 0, none⟩) n n)).run Tryd.prog w = .ok (.string ⟨l.toArray⟩) w := by
  subst hn
  refine run_convert_bytes_back (P := Tryd.prog) w 64 9 5 ⟨g, 0, none⟩ _ l Tryd.underlying64 Tryd.underlying5 Tryd.underlying9 ?_
  intro j hj
  have hadd : Addr.add { block := g, off := 0 } j = ⟨g, j, none⟩ := by
    by_cases h : j = 0 <;> simp [Addr.add, h]
  rw [hadd, h.cell j, bytesA_get l j hj]
  simp [List.getD, hj]
def zeroB (n : Nat) : ByteArray := ⟨(List.replicate n (0 : UInt8)).toArray⟩
theorem zero_no (n : Int) (h : smb n = false) (w : World) : Calls Tryd.prog 43 #[.int .i64 n] w fun e w' => e = .returned (.tuple #[.string ⟨#[]⟩, .int .i64 2]) ∧ Below w.heap.size w w' := by
  have H := Lib.hid (sizeMayBe_any n)
  go_enter Tryd.func43, Tryd.ntmps43
  go_wp2_with fail
  refine (H.out _).mono ?_
  rintro e w1 ⟨rfl, rfl⟩
  go_wp2_with fail
  go_ret2
  exact ⟨rfl, Below.refl _ _⟩
theorem zero_yes (n : Nat) (h : smb n = true) (w : World) : Calls Tryd.prog 43 #[.int .i64 n] w fun e w' => e = .returned (.tuple #[.string (zeroB n), .int .i64 0]) ∧ Below w.heap.size w w' := by
  have H := Lib.hid (sizeMayBe_any n)
  have hn := (smb_iff n).1 h
  have m := makeB_any n (by omega) w
  have c := backB (Box.new w 5 (bytesA (List.replicate n 0))) (n := n) (by simp)
  go_enter Tryd.func43, Tryd.ntmps43
  go_wp2_with fail
  refine (H.out _).mono ?_
  rintro e w1 ⟨rfl, rfl⟩
  go_wp2_with fail
  go_ret2
  exact ⟨rfl, (Below.refl _ _).alloc (Nat.le_refl _) _⟩
end Go.Proofs.YtfeaollpeaphlaaDoor
