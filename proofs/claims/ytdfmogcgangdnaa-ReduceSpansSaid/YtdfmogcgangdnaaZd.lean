/- Parts: Block1, Mat2, Same, Like, Mat3, Mat4, Chain, RefOf, MatM, Mat5. -/
import Derived.Test.YtdfmogcgangdnaaZc
import Derived.Deep.RegionHeld3
import Derived.Deep.RegionWith
import Derived.Laws.IdiomStrings
import Derived.OpenShut
import Derived.Shelf.Abstract
namespace Go.Proofs.Ytdfmogcgangdnaa
section
/- Contracts of layer 2: block.sizeMayBe, block.Zero, block.Nought, the reference's Nought, the law's cut. -/
set_option linter.unusedVariables false
set_option linter.unusedSimpArgs false
open Go.RowKit
def smb (n : Int) : Bool := decide (0 ≤ n) && decide (n ≤ 64)
theorem smb_iff (n : Int) : smb n = true ↔ 0 ≤ n ∧ n ≤ 64 := by simp [smb]
theorem smb_no (n : Int) : smb n = false ↔ ¬ (0 ≤ n ∧ n ≤ 64) := by rw [← smb_iff]; simp
theorem sizeMayBe_any (n : Int) (w : World) : Calls Try.prog 71 #[.int .i64 n] w fun e w' => e = .returned (.bool (smb n)) ∧ w = w' := by
  by_cases h : 0 ≤ n
  · by_cases h2 : n ≤ 64
    · have e : smb n = true := (smb_iff n).2 ⟨h, h2⟩
      rw [e]; clear e
      go_enter Try.func71, Try.ntmps71
      go_wp2
      go_ret
      exact ⟨rfl, rfl⟩
    · have e : smb n = false := (smb_no n).2 (by omega)
      rw [e]; clear e
      have t : decide (n ≤ 64) = false := by simpa using h2
      go_enter Try.func71, Try.ntmps71
      go_wp2
      go_ret
      exact ⟨by simp, rfl⟩
  · have e : smb n = false := (smb_no n).2 (by omega)
    rw [e]; clear e
    have t : decide (0 ≤ n) = false := by simpa using h
    go_enter Try.func71, Try.ntmps71
    go_wp2
    go_ret
    exact ⟨by simp, rfl⟩
/-- The first 70 bytes of a text. -/
def cutB (s : ByteArray) : ByteArray := s.extract 0 (min s.size 70)
theorem cutB_size (s : ByteArray) : (cutB s).size ≤ 70 := by simp [cutB, ByteArray.size_extract]; omega
theorem cutB_self (s : ByteArray) (h : s.size ≤ 70) : cutB s = s := by
  unfold cutB
  rw [Nat.min_eq_left h]
  apply ByteArray.ext; simp
/-- Are all bytes 0? -/
def noughtL (l : List UInt8) : Bool := l.all fun b => b == 0
theorem take_snoc (s : ByteArray) (k : Nat) (h : k < s.size) : s.data.toList.take (k + 1) = s.data.toList.take k ++ [s[k]] := by
  have hk : k < s.data.toList.length := by simpa using h
  rw [List.take_succ_eq_append_getElem hk]
  rfl
theorem nought_not (s : ByteArray) (k : Nat) (h : k < s.size) (hz : ¬ s[k] = 0) : noughtL s.data.toList = false := by
  rw [Bool.eq_false_iff]
  intro ha
  have := List.all_eq_true.1 ha (s[k]) (by rw [show s[k] = s.data.toList[k]'(by simpa using h) from rfl]; exact List.getElem_mem _)
  exact hz (by simpa using this)
theorem nought_any (s : ByteArray) (hs : s.size ≤ maxLen) (w : World) : Calls Try.prog 65 #[.string s] w fun e w' => e = .returned (.bool (noughtL s.data.toList)) ∧ w = w' := by
  unfold maxLen at hs
  go_enter Try.func65, Try.ntmps65
  go_wp2_with fail
  go_loop [6] (fun i => ∃ k : Nat, k ≤ s.size ∧ i = .int .i64 k ∧ Hid (noughtL (s.data.toList.take k) = true)) (fun i => s.size - (intOf i).toNat)
  case atStart => exact ⟨0, by omega, rfl, Lib.hid (by simp [noughtL])⟩
  case round =>
    obtain ⟨k, hk, rfl, HN⟩ := hrel
    by_cases hlt : k < s.size
    · by_cases hz : s[k] = 0
      · go_wp2
        go_round
        case rel => exact ⟨k + 1, by omega, by go_num, Lib.hid (by have := HN.out; rw [take_snoc s k hlt]; simp [noughtL, List.all_append] at this ⊢; exact ⟨this, hz⟩)⟩
        case measure => simp [intOf]; omega
      · have hz' : s[k].toNat ≠ 0 := fun h => hz (UInt8.toNat_inj.1 (by simpa using h))
        have t : ((s[k].toNat : Int) != 0) = true := by simpa using hz'
        have HE := Lib.hid (nought_not s k hlt hz)
        go_wp2
        go_ret
        exact ⟨by rw [HE.out]; rfl, rfl⟩
    · obtain rfl : k = s.size := by omega
      have HE := Lib.hid (show noughtL s.data.toList = true by have := HN.out; rwa [List.take_of_length_le (by simp)] at this)
      go_wp2
      go_ret
      exact ⟨by rw [HE.out]; rfl, rfl⟩
theorem uint8_info : (Try.prog.info? 5).map (fun i => (i.zero, i.size, i.bytes)) = some (some (.int .u8 0), 1, 1) := by kernel_rfl
/-- A row of bytes in memory. -/
def bytesA (l : List UInt8) : Array Value := (l.map fun (x : UInt8) => Value.int .u8 (x.toNat : Int)).toArray
theorem bytesA_get (l : List UInt8) (j : Nat) (h : j < l.length) : (bytesA l)[j]? = some (.int .u8 ((l.getD j 0).toNat : Int)) := by
  simp [bytesA, List.getD, h]
theorem bytesA_set (l : List UInt8) (k : Nat) (x : UInt8) : (bytesA l).setIfInBounds k (.int .u8 (x.toNat : Int)) = bytesA (l.set k x) := by
  simp [bytesA, List.map_set]
theorem makeB_any (n : Nat) (hn : n ≤ 1000000) (w : World) :
    (Instr.makeSlice 92 (.int .i64 (n : Int)) (.int .i64 (n : Int))).run Try.prog w = .ok (.slice (some ⟨w.heap.size, 0, none⟩) n n) (w.alloc (.cells (bytesA (List.replicate n 0)) 5)) := by
  obtain ⟨i0, hi, hz0, hz1, hz2⟩ := info_parts uint8_info
  have hr := run_make (P := Try.prog) w _ _ i0 _ Try.underlying92 hi hz0 .i64 .i64 n n (by omega) (by omega) (by rw [hz2]; omega) (by omega)
  simp only [Int.toNat_natCast, hz1, Nat.mul_one] at hr
  rw [hr]
  have : madeCells (Value.int .u8 0).cells n = bytesA (List.replicate n 0) := by
    apply Array.toList_inj.1
    have := toList_madeCells_one (Value.int .u8 0) n
    simpa [Value.cells, bytesA] using this
  rw [this]
theorem backB {w : World} {g n : Nat} {t : TypeId} {l : List UInt8} (h : Box w g t (bytesA l)) (hn : l.length = n) :
    (convert 92 9 (.slice (some ⟨g, 0, none⟩) n n)).run Try.prog w = .ok (.string ⟨l.toArray⟩) w := by
  subst hn
  refine run_convert_bytes_back (P := Try.prog) w 92 9 5 ⟨g, 0, none⟩ _ l Try.underlying92 Try.underlying5 Try.underlying9 ?_
  intro j hj
  have hadd : Addr.add { block := g, off := 0 } j = ⟨g, j, none⟩ := by
    by_cases h : j = 0 <;> simp [Addr.add, h]
  rw [hadd, h.cell j, bytesA_get l j hj]
  simp [List.getD, hj]
def zeroB (n : Nat) : ByteArray := ⟨(List.replicate n (0 : UInt8)).toArray⟩
theorem zero_no (n : Int) (h : smb n = false) (w : World) : Calls Try.prog 73 #[.int .i64 n] w fun e w' => e = .returned (.tuple #[.string ⟨#[]⟩, .int .i64 2]) ∧ Below w.heap.size w w' := by
  have H := Lib.hid (sizeMayBe_any n)
  go_enter Try.func73, Try.ntmps73
  go_wp2_with fail
  refine (H.out _).mono ?_
  rintro e w1 ⟨rfl, rfl⟩
  go_wp2_with fail
  go_ret2
  exact ⟨rfl, Below.refl _ _⟩
theorem zero_yes (n : Nat) (h : smb n = true) (w : World) : Calls Try.prog 73 #[.int .i64 n] w fun e w' => e = .returned (.tuple #[.string (zeroB n), .int .i64 0]) ∧ Below w.heap.size w w' := by
  have H := Lib.hid (sizeMayBe_any n)
  have hn := (smb_iff n).1 h
  have m := makeB_any n (by omega) w
  have c := backB (Box.new w 5 (bytesA (List.replicate n 0))) (n := n) (by simp)
  go_enter Try.func73, Try.ntmps73
  go_wp2_with fail
  refine (H.out _).mono ?_
  rintro e w1 ⟨rfl, rfl⟩
  go_wp2_with fail
  go_ret2
  exact ⟨rfl, (Below.refl _ _).alloc (Nat.le_refl _) _⟩
end
section
/- Contracts of layer 3: columnsMayBe, Right, the reference's Right. -/
set_option linter.unusedVariables false
set_option linter.unusedSimpArgs false
open Go.RowKit
theorem columnsMayBe_any (n : Int) (w : World) : Calls Try.prog 52 #[.int .i64 n] w fun e w' => e = .returned (.bool (smb n)) ∧ w = w' := by
  by_cases h : 0 ≤ n
  · by_cases h2 : n ≤ 64
    · have e : smb n = true := (smb_iff n).2 ⟨h, h2⟩
      rw [e]; clear e
      go_enter Try.func52, Try.ntmps52
      go_wp2
      go_ret
      exact ⟨rfl, rfl⟩
    · have e : smb n = false := (smb_no n).2 (by omega)
      rw [e]; clear e
      have t : decide (n ≤ 64) = false := by simpa using h2
      go_enter Try.func52, Try.ntmps52
      go_wp2
      go_ret
      exact ⟨by simp, rfl⟩
  · have e : smb n = false := (smb_no n).2 (by omega)
    rw [e]; clear e
    have t : decide (0 ≤ n) = false := by simpa using h
    go_enter Try.func52, Try.ntmps52
    go_wp2
    go_ret
    exact ⟨by simp, rfl⟩
/-- May a matrix be? -/
def rowsB (N : Int) (ms : List (Int × List Nat)) : Bool := ms.all fun r => (r.1 == N) && rightB r.1 r.2
def rightM (N : Int) (ms : List (Int × List Nat)) : Bool := smb N && decide (ms.length ≤ 64) && rowsB N ms
theorem rowsB_snoc (N : Int) (ms : List (Int × List Nat)) (j : Nat) (h : j < ms.length) : rowsB N (ms.take (j + 1)) = (rowsB N (ms.take j) && (((ms.getD j (0, [])).1 == N) && rightB (ms.getD j (0, [])).1 (ms.getD j (0, [])).2)) := by
  unfold rowsB
  rw [List.take_succ_eq_append_getElem h, List.all_append]
  simp [List.getD, h]
theorem rowsB_not (N : Int) (ms : List (Int × List Nat)) (j : Nat) (h : j < ms.length) (hz : (((ms.getD j (0, [])).1 == N) && rightB (ms.getD j (0, [])).1 (ms.getD j (0, [])).2) = false) : rowsB N ms = false := by
  rw [Bool.eq_false_iff]
  intro ha
  have := List.all_eq_true.1 ha (ms[j]) (List.getElem_mem _)
  rw [show ms.getD j (0, []) = ms[j] by simp [List.getD, h]] at hz
  rw [this] at hz; cases hz
theorem rightM_at {N : Int} {ms : List (Int × List Nat)} (h : rightM N ms = true) (j : Nat) (hj : j < ms.length) : (ms.getD j (0, [])).1 = N ∧ rightB N (ms.getD j (0, [])).2 = true := by
  simp only [rightM, Bool.and_eq_true] at h
  have := List.all_eq_true.1 h.2 (ms[j]) (List.getElem_mem _)
  rw [show ms.getD j (0, []) = ms[j] by simp [List.getD, hj]]
  simp only [Bool.and_eq_true, beq_iff_eq] at this
  exact ⟨this.1, this.1 ▸ this.2⟩
theorem rightM_bd {N : Int} {ms : List (Int × List Nat)} (h : rightM N ms = true) : 0 ≤ N ∧ N ≤ 64 ∧ ms.length ≤ 64 := by
  simp only [rightM, Bool.and_eq_true, decide_eq_true_eq] at h
  have := (smb_iff N).1 h.1.1
  exact ⟨this.1, this.2, h.1.2⟩
set_option maxHeartbeats 1000000 in
theorem mright_any (N : Int) (A : Option Addr) (l c lo : Nat) (ms : List (Int × List Nat)) (w : World) (hm : MatAt w lo A l ms) (hl : l ≤ maxLen) :
    Calls Try.prog 29 #[.agg #[.int .i64 N, .slice A l c]] w fun e w' => e = .returned (.bool (rightM N ms)) ∧ Below w.heap.size w w' := by
  unfold maxLen at hl
  have H := Lib.hid (columnsMayBe_any N)
  have Q := Lib.hid (Box.new w 24 #[.int .i64 N, .slice A l c])
  have HW := Lib.hid (show Below w.heap.size w (w.alloc (.cells #[.int .i64 N, .slice A l c] 24)) from (Below.refl _ _).alloc (Nat.le_refl _) _)
  have HM := Lib.hid hm
  have HL := Lib.hid hm.1
  clear hm
  obtain ⟨r0, r1, -, -⟩ := Q.out.two
  cases h : smb N with
  | false =>
    have HE := Lib.hid (show rightM N ms = false by simp [rightM, h])
    go_enter Try.func29, Try.ntmps29
    go_wp2_with fail
    refine (H.out _).mono ?_
    rintro e w1 ⟨rfl, rfl⟩
    go_wp2_with fail
    go_ret
    exact ⟨by rw [HE.out]; rfl, HW.out⟩
  | true =>
    by_cases h64 : l ≤ 64
    · have g1 : ¬ (64 : Int) < l := by omega
      go_enter Try.func29, Try.ntmps29
      go_wp2_with fail
      refine (H.out _).mono ?_
      rintro e w1 ⟨rfl, rfl⟩
      go_wp2_with fail
      have HSM := Lib.hid h
      clear h r0 r1 H
      go_loopw [18] (fun i wr => ∃ k : Nat, k ≤ l ∧ i = .int .i64 k ∧ Hid (rowsB N (ms.take k) = true) ∧ Box wr w.heap.size 24 #[.int .i64 N, .slice A l c] ∧ Below w.heap.size w wr) (fun i _ => l - (intOf i).toNat)
      case atStart => exact ⟨0, by omega, rfl, Lib.hid (by simp [rowsB]), Q.out, HW.out⟩
      case round =>
        obtain ⟨k, hk, rfl, HN, hbx, hbel⟩ := hrel
        have R := Lib.hid hbx
        have B := Lib.hid hbel
        clear hbx hbel Q HW
        obtain ⟨r0, r1, -, -⟩ := R.out.two
        by_cases hlt : k < l
        · have hlt' : (k : Int) < (l : Int) := by omega
          obtain ⟨b, off, B1, l1, c1, rfl, hb, x0, x1, hs, hw⟩ := (HM.out.mono (Nat.le_refl _) B.out).at k hlt
          have HS := Lib.hid (rowsB_snoc N ms k (by rw [HL.out]; exact hlt))
          have HNO := Lib.hid (rowsB_not N ms k (by rw [HL.out]; exact hlt))
          generalize (ms.getD k (0, [])).1 = n at *
          generalize (ms.getD k (0, [])).2 = us at *
          have R2 := Lib.hid (R.out.alloc (.cells #[.int .i64 n, .slice B1 l1 c1] 40))
          have B2 := Lib.hid (B.out.alloc B.out.size (.cells #[.int .i64 n, .slice B1 l1 c1] 40))
          have HW1 := Lib.hid (hw.alloc (.cells #[.int .i64 n, .slice B1 l1 c1] 40))
          have HR := Lib.hid (right_any n B1 l1 c1 us _ HW1.out)
          clear hw hs
          obtain ⟨r0, r1, -, -⟩ := R2.out.two
          by_cases hn : n = N
          · subst hn
            have t : (n != n) = false := by simp
            cases hr : rightB n us with
            | true =>
              rw [hr] at HR HS
              go_wp2_with fail
              refine HR.out.mono ?_
              rintro e w2 ⟨rfl, hb2⟩
              have B3 := Lib.hid (chain B2.out hb2)
              have R3 := Lib.hid (R2.out.keep hb2)
              clear hb2
              go_wp2_with fail
              go_roundw
              case rel => exact ⟨k + 1, by omega, by go_num, Lib.hid (by rw [HS.out, HN.out]; simp), R3.out, B3.out⟩
              case measure => simp [intOf]; omega
            | false =>
              rw [hr] at HR
              have HE := Lib.hid (show rightM n ms = false by rw [rightM, HNO.out (by simp [hr])]; simp)
              clear hr
              go_wp2_with fail
              refine HR.out.mono ?_
              rintro e w2 ⟨rfl, hb2⟩
              have B3 := Lib.hid (chain B2.out hb2)
              clear hb2
              go_wp2_with fail
              go_ret
              exact ⟨by rw [HE.out]; rfl, B3.out⟩
          · have t : (n != N) = true := by simpa using hn
            have t2 : (n == N) = false := by simpa using hn
            have HE := Lib.hid (show rightM N ms = false by rw [rightM, HNO.out (by simp [t2])]; simp)
            clear hn t2
            go_wp2_with fail
            go_ret
            exact ⟨by rw [HE.out]; rfl, B2.out⟩
        · obtain rfl : k = l := by omega
          have hlt' : ¬ (k : Int) < (k : Int) := by omega
          have HE := Lib.hid (show rightM N ms = true by
            have := HN.out
            rw [List.take_of_length_le (by rw [HL.out]; omega)] at this
            simp [rightM, HSM.out, this, HL.out, h64])
          go_wp2_with fail
          go_ret
          exact ⟨by rw [HE.out]; rfl, B.out⟩
    · have g1 : (64 : Int) < l := by omega
      have HE := Lib.hid (show rightM N ms = false by simp [rightM, HL.out, h64])
      go_enter Try.func29, Try.ntmps29
      go_wp2_with fail
      refine (H.out _).mono ?_
      rintro e w1 ⟨rfl, rfl⟩
      go_wp2_with fail
      go_ret
      exact ⟨by rw [HE.out]; rfl, HW.out⟩
end
section
/- Contract of the reference's Same: two rows are the same. -/
set_option linter.unusedVariables false
set_option linter.unusedSimpArgs false
open Go.RowKit
def sameB (n : Int) (us : List Nat) (m : Int) (vs : List Nat) : Bool := n == m && us == vs
set_option maxHeartbeats 400000 in
theorem same_any (n m : Int) (A B : Option Addr) (l c k d : Nat) (us vs : List Nat) (w : World) (hu : Words w A l us) (hv : Words w B k vs) (hl : l ≤ 1000000) :
    Calls Try.prog 33 #[.agg #[.int .i64 n, .slice A l c], .agg #[.int .i64 m, .slice B k d]] w fun e w' => e = .returned (.bool (sameB n us m vs)) ∧ Below w.heap.size w w' := by
  have q0 := (Box.new w 40 #[.int .i64 n, .slice A l c]).alloc (.cells #[.int .i64 m, .slice B k d] 40)
  have q1 := Box.new (w.alloc (.cells #[.int .i64 n, .slice A l c] 40)) 40 #[.int .i64 m, .slice B k d]
  have hW : Below w.heap.size w ((w.alloc (.cells #[.int .i64 n, .slice A l c] 40)).alloc (.cells #[.int .i64 m, .slice B k d] 40)) := ((Below.refl _ _).alloc (Nat.le_refl _) _).alloc (by simp) _
  simp only [World.size_alloc] at q1
  have Q0 := Lib.hid q0
  have Q1 := Lib.hid q1
  have HW := Lib.hid hW
  have HU := Lib.hid hu
  have HV := Lib.hid hv
  clear q0 q1 hW hu hv
  by_cases hn : n = m
  · subst hn
    have t1 : (n != n) = false := by simp
    by_cases hk : l = k
    · subst hk
      have t2 : ((l : Int) != (l : Int)) = false := by simp
      go_enter Try.func33, Try.ntmps33
      go_wp2
      clear t1 t2
      go_loopw [23] (fun i wr => ∃ j : Nat, j ≤ l ∧ i = .int .i64 j ∧ (∀ t, t < j → us.getD t 0 = vs.getD t 0) ∧ Box wr w.heap.size 40 #[.int .i64 n, .slice A l c] ∧ Box wr (w.heap.size + 1) 40 #[.int .i64 n, .slice B l d] ∧ Below w.heap.size w wr)
        (fun i _ => l - (intOf i).toNat)
      case atStart => exact ⟨0, by omega, rfl, fun t h => by omega, Q0.out, Q1.out, HW.out⟩
      case round =>
        obtain ⟨j, hj, rfl, heq, B0, B1, hbel⟩ := hrel
        have R0 := Lib.hid B0
        have R1 := Lib.hid B1
        have HB := Lib.hid hbel
        have HE := Lib.hid heq
        clear B0 B1 hbel Q0 Q1 HW heq
        obtain ⟨a0, a1, -, -⟩ := R0.out.two
        obtain ⟨b0, b1, -, -⟩ := R1.out.two
        by_cases hlt : j < l
        · obtain ⟨p, o, rfl, lt1, hc1⟩ := HU.out.2.2 (by omega)
          obtain ⟨p2, o2, rfl, lt2, hc2⟩ := HV.out.2.2 (by omega)
          have cu := (HB.out.cell (p := ⟨p, o + j, none⟩) lt1).trans (hc1 j hlt)
          have cv := (HB.out.cell (p := ⟨p2, o2 + j, none⟩) lt2).trans (hc2 j hlt)
          have hx := HU.out.2.1 j
          have hy := HV.out.2.1 j
          obtain ⟨x, ex⟩ : ∃ x, x = us.getD j 0 := ⟨_, rfl⟩
          obtain ⟨y, ey⟩ : ∃ y, y = vs.getD j 0 := ⟨_, rfl⟩
          rw [← ex] at cu hx
          rw [← ey] at cv hy
          have hxy := Lib.hid (And.intro ex ey)
          clear ex ey hc1 hc2
          have hlt' : (j : Int) < (l : Int) := by omega
          have hj0 : (0 : Int) ≤ (j : Int) := by omega
          by_cases e : x = y
          · have t3 : ((x : Int) != (y : Int)) = false := by simp [e]
            have HXY := Lib.hid e
            clear e
            go_wp2
            go_quiet (fail)
            go_wp2
            go_roundw
            case rel =>
              refine ⟨j + 1, by omega, by go_num, fun t ht => ?_, R0.out.drewN _, R1.out.drewN _, bdN HB.out _⟩
              by_cases h : t = j
              · rw [h, ← hxy.out.1, ← hxy.out.2]; exact HXY.out
              · exact HE.out t (by omega)
            case measure => simp [intOf]; omega
          · have t3 : ((x : Int) != (y : Int)) = true := by rw [bne_iff_ne]; omega
            have HF : Hid (sameB n us n vs = false) := by
              show sameB n us n vs = false
              simp only [sameB, beq_self_eq_true, Bool.true_and, beq_eq_false_iff_ne]
              intro h
              apply e
              rw [hxy.out.1, hxy.out.2, h]
            clear e
            go_wp2
            go_quiet (fail)
            go_wp2
            go_ret
            exact ⟨by rw [HF.out]; rfl, bdN HB.out _⟩
        · obtain rfl : j = l := by omega
          have HF : Hid (sameB n us n vs = true) := by
            show sameB n us n vs = true
            simp only [sameB, beq_self_eq_true, Bool.true_and, beq_iff_eq]
            apply List.ext_getElem
            · rw [HU.out.1, HV.out.1]
            · intro i h1 h2
              have := HE.out i (by rw [HU.out.1] at h1; exact h1)
              simpa [List.getD, h1, h2] using this
          go_wp2
          go_ret
          exact ⟨by rw [HF.out]; rfl, HB.out⟩
    · have t2 : ((l : Int) != (k : Int)) = true := by rw [bne_iff_ne]; omega
      have HF : Hid (sameB n us n vs = false) := by
        show sameB n us n vs = false
        simp only [sameB, beq_self_eq_true, Bool.true_and, beq_eq_false_iff_ne]
        intro h
        apply hk
        rw [← HU.out.1, ← HV.out.1, h]
      go_enter Try.func33, Try.ntmps33
      go_wp2
      go_ret
      exact ⟨by rw [HF.out]; rfl, HW.out⟩
  · have t1 : (n != m) = true := by simpa using hn
    have HF : Hid (sameB n us m vs = false) := by
      show sameB n us m vs = false
      have : (n == m) = false := by simpa using hn
      simp [sameB, this]
    go_enter Try.func33, Try.ntmps33
    go_wp2
    go_ret
    exact ⟨by rw [HF.out]; rfl, HW.out⟩
end
section
/- Contracts of slices.Equal at words and of bitrow.Like. -/
set_option linter.unusedVariables false
set_option linter.unusedSimpArgs false
open Go.RowKit
end
section
/- Contracts of layer 3's reference: Right, Same; matrix.Like. -/
set_option linter.unusedVariables false
set_option linter.unusedSimpArgs false
open Go.RowKit
set_option maxHeartbeats 1000000 in
theorem refRightM_any (N : Int) (A : Option Addr) (l c lo : Nat) (ms : List (Int × List Nat)) (w : World) (hm : MatAt w lo A l ms) (hl : l ≤ maxLen) :
    Calls Try.prog 10 #[.agg #[.int .i64 N, .slice A l c]] w fun e w' => e = .returned (.bool (rightM N ms)) ∧ Below w.heap.size w w' := by
  unfold maxLen at hl
  have Q := Lib.hid (Box.new w 24 #[.int .i64 N, .slice A l c])
  have HW := Lib.hid (show Below w.heap.size w (w.alloc (.cells #[.int .i64 N, .slice A l c] 24)) from (Below.refl _ _).alloc (Nat.le_refl _) _)
  have HM := Lib.hid hm
  have HL := Lib.hid hm.1
  clear hm
  obtain ⟨r0, r1, -, -⟩ := Q.out.two
  go_enter Try.func10, Try.ntmps10
  go_wp2_with fail
  clear r0 r1
  go_loopw [8] (fun i wr => ∃ k : Nat, k ≤ l ∧ i = .int .i64 k ∧ Hid (rowsB N (ms.take k) = true) ∧ Box wr w.heap.size 24 #[.int .i64 N, .slice A l c] ∧ Below w.heap.size w wr) (fun i _ => l - (intOf i).toNat)
  case atStart => exact ⟨0, by omega, rfl, Lib.hid (by simp [rowsB]), Q.out, HW.out⟩
  case round =>
    obtain ⟨k, hk, rfl, HN, hbx, hbel⟩ := hrel
    have R := Lib.hid hbx
    have B := Lib.hid hbel
    clear hbx hbel Q HW
    obtain ⟨r0, r1, -, -⟩ := R.out.two
    by_cases hlt : k < l
    · have hlt' : (k : Int) < (l : Int) := by omega
      obtain ⟨b, off, B1, l1, c1, rfl, hb, x0, x1, hs, hw⟩ := (HM.out.mono (Nat.le_refl _) B.out).at k hlt
      have HS := Lib.hid (rowsB_snoc N ms k (by rw [HL.out]; exact hlt))
      have HNO := Lib.hid (rowsB_not N ms k (by rw [HL.out]; exact hlt))
      generalize (ms.getD k (0, [])).1 = n at *
      generalize (ms.getD k (0, [])).2 = us at *
      have R2 := Lib.hid (R.out.alloc (.cells #[.int .i64 n, .slice B1 l1 c1] 40))
      have B2 := Lib.hid (B.out.alloc B.out.size (.cells #[.int .i64 n, .slice B1 l1 c1] 40))
      have HW1 := Lib.hid (hw.alloc (.cells #[.int .i64 n, .slice B1 l1 c1] 40))
      have HR := Lib.hid (refRight_any n B1 l1 c1 us _ HW1.out)
      clear hw hs
      obtain ⟨r0, r1, -, -⟩ := R2.out.two
      by_cases hn : n = N
      · subst hn
        have t : (n != n) = false := by simp
        cases hr : rightB n us with
        | true =>
          rw [hr] at HR HS
          go_wp2_with fail
          refine HR.out.mono ?_
          rintro e w2 ⟨rfl, hb2⟩
          have B3 := Lib.hid (chain B2.out hb2)
          have R3 := Lib.hid (R2.out.keep hb2)
          clear hb2
          go_wp2_with fail
          go_roundw
          case rel => exact ⟨k + 1, by omega, by go_num, Lib.hid (by rw [HS.out, HN.out]; simp), R3.out, B3.out⟩
          case measure => simp [intOf]; omega
        | false =>
          rw [hr] at HR
          have HE := Lib.hid (show rightM n ms = false by rw [rightM, HNO.out (by simp [hr])]; simp)
          clear hr
          go_wp2_with fail
          refine HR.out.mono ?_
          rintro e w2 ⟨rfl, hb2⟩
          have B3 := Lib.hid (chain B2.out hb2)
          clear hb2
          go_wp2_with fail
          go_ret
          exact ⟨by rw [HE.out]; rfl, B3.out⟩
      · have t : (n != N) = true := by simpa using hn
        have t2 : (n == N) = false := by simpa using hn
        have HE := Lib.hid (show rightM N ms = false by rw [rightM, HNO.out (by simp [t2])]; simp)
        clear hn t2
        go_wp2_with fail
        go_ret
        exact ⟨by rw [HE.out]; rfl, B2.out⟩
    · obtain rfl : k = l := by omega
      have hlt' : ¬ (k : Int) < (k : Int) := by omega
      have HE := Lib.hid (show rightM N ms = (smb N && decide (k ≤ 64)) by
        have := HN.out
        rw [List.take_of_length_le (by rw [HL.out]; omega)] at this
        simp [rightM, this, HL.out])
      by_cases h0 : 0 ≤ N
      · by_cases h1 : N ≤ 64
        · have HS := Lib.hid (show smb N = true from (smb_iff N).2 ⟨h0, h1⟩)
          by_cases h2 : k ≤ 64
          · have t : decide ((k : Int) ≤ 64) = true := by simp; omega
            go_wp2_with fail
            go_ret
            exact ⟨by rw [HE.out, HS.out]; simp [h2], B.out⟩
          · have t : decide ((k : Int) ≤ 64) = false := by simp; omega
            go_wp2_with fail
            go_ret
            exact ⟨by rw [HE.out, HS.out]; simp [h2], B.out⟩
        · have t : decide (N ≤ 64) = false := by simpa using h1
          have HS := Lib.hid (show smb N = false from (smb_no N).2 (by omega))
          go_wp2_with fail
          go_ret
          exact ⟨by rw [HE.out, HS.out]; simp, B.out⟩
      · have t : decide (0 ≤ N) = false := by simpa using h0
        have HS := Lib.hid (show smb N = false from (smb_no N).2 (by omega))
        go_wp2_with fail
        go_ret
        exact ⟨by rw [HE.out, HS.out]; simp, B.out⟩
/-- Are two matrices the same? -/
def sameM (N : Int) (ms : List (Int × List Nat)) (M : Int) (ks : List (Int × List Nat)) : Bool := N == M && ms == ks
theorem sameM_self (N : Int) (ms : List (Int × List Nat)) : sameM N ms N ms = true := by simp [sameM]
theorem take_same {α : Type} (ms ks : List α) (d : α) (k : Nat) (h1 : k < ms.length) (h2 : k < ks.length) (h : ms.take k = ks.take k) (he : ms.getD k d = ks.getD k d) : ms.take (k + 1) = ks.take (k + 1) := by
  rw [take_one ms k d h1, take_one ks k d h2, h, he]
set_option maxRecDepth 100000 in
set_option maxHeartbeats 4000000 in
theorem same3_any (N M : Int) (A1 A2 : Option Addr) (n m c1 c2 l1 l2 : Nat) (ms ks : List (Int × List Nat)) (w : World) (h1 : MatAt w l1 A1 n ms) (h2 : MatAt w l2 A2 m ks) (hl : n ≤ 1000000) (hr : ∀ j, (ms.getD j (0, [])).2.length ≤ 1000000) :
    Calls Try.prog 12 #[.agg #[.int .i64 N, .slice A1 n c1], .agg #[.int .i64 M, .slice A2 m c2]] w fun e w' => e = .returned (.bool (sameM N ms M ks)) ∧ Below w.heap.size w w' := by
  have q0 := (Box.new w 24 #[.int .i64 N, .slice A1 n c1]).alloc (.cells #[.int .i64 M, .slice A2 m c2] 24)
  have q1 := Box.new (w.alloc (.cells #[.int .i64 N, .slice A1 n c1] 24)) 24 #[.int .i64 M, .slice A2 m c2]
  have HW := Lib.hid (show Below w.heap.size w ((w.alloc (.cells #[.int .i64 N, .slice A1 n c1] 24)).alloc (.cells #[.int .i64 M, .slice A2 m c2] 24)) from ((Below.refl _ _).alloc (Nat.le_refl _) _).alloc (by simp) _)
  simp only [World.size_alloc] at q1
  have M1 := Lib.hid (h1.below HW.out)
  have M2 := Lib.hid (h2.below HW.out)
  have HL1 := Lib.hid h1.1
  have HL2 := Lib.hid h2.1
  have HR := Lib.hid hr
  have Q0 := Lib.hid q0
  have Q1 := Lib.hid q1
  clear h1 h2 q0 q1 hr
  by_cases hN : N = M
  · subst hN
    have t1 : (N != N) = false := by simp
    by_cases hn : n = m
    · subst hn
      have t2 : (((n : Nat) : Int) != ((n : Nat) : Int)) = false := by simp
      go_enter Try.func12, Try.ntmps12
      go_wp2_with fail
      generalize (w.alloc (.cells #[.int .i64 N, .slice A1 n c1] 24)).alloc (.cells #[.int .i64 N, .slice A2 n c2] 24) = W at *
      obtain ⟨a0, a1, -, -⟩ := Q0.out.two
      obtain ⟨d0, d1, -, -⟩ := Q1.out.two
      have hz0 := Q0.out.lt
      have hz1 := Q1.out.lt
      go_wp2_with fail
      clear t1 t2
      go_loopw [23] (fun t wr => ∃ i : Nat, i ≤ n ∧ t = .int .i64 i ∧ Hid (ms.take i = ks.take i) ∧ Hid (Below W.heap.size W wr)) (fun t _ => n - (intOf t).toNat)
      case atStart => exact ⟨0, by omega, rfl, Lib.hid (by simp), Lib.hid (Below.refl _ _)⟩
      case round =>
        obtain ⟨i, hi, rfl, HT, HB⟩ := hrel
        by_cases hlt : i < n
        · have hlt' : (i : Int) < (n : Int) := by omega
          obtain ⟨g1, o1, B1, k1, e1, rfl, hg1, x1, y1, s1, u1⟩ := (M1.out.below HB.out).at i hlt
          obtain ⟨g2, o2, B2, k2, e2, rfl, hg2, x2, y2, s2, u2⟩ := (M2.out.below HB.out).at i hlt
          have O1 := Lib.hid u1
          have O2 := Lib.hid u2
          have HK := Lib.hid (HR.out i)
          have HTS := Lib.hid (take_same ms ks (0, []) i (by rw [HL1.out]; exact hlt) (by rw [HL2.out]; exact hlt) HT.out)
          have HTN := Lib.hid (show ms = ks → ms.getD i (0, []) = ks.getD i (0, []) from fun e => by rw [e])
          have HP1 := Lib.hid (show ms.getD i (0, []) = ((ms.getD i (0, [])).1, (ms.getD i (0, [])).2) from rfl)
          have HP2 := Lib.hid (show ks.getD i (0, []) = ((ks.getD i (0, [])).1, (ks.getD i (0, [])).2) from rfl)
          generalize hp1 : ms.getD i (0, []) = p1 at *
          generalize hp2 : ks.getD i (0, []) = p2 at *
          clear hp1 hp2 HP1 HP2
          obtain ⟨n1, us⟩ := p1
          obtain ⟨n2, vs⟩ := p2
          simp only at x1 y1 x2 y2 O1 O2 HK
          clear u1 u2 s1 s2
          have R0 := Lib.hid (Q0.out.below HB.out hz0)
          have R1 := Lib.hid (Q1.out.below HB.out hz1)
          obtain ⟨v0, v1, -, -⟩ := R0.out.two
          obtain ⟨f0, f1, -, -⟩ := R1.out.two
          have LZ0 := Lib.hid R0.out.lt
          have LZ1 := Lib.hid R1.out.lt
          have LG1 := Lib.hid hg1
          have LG2 := Lib.hid hg2
          clear hg1 hg2
          have HSame := Lib.hid (same_any n1 n2 B1 B2 k1 e1 k2 e2 us vs _ O1.out.drew O2.out.drew (by have := O1.out.1; have := HK.out; omega))
          cases hsb : sameB n1 us n2 vs with
          | true =>
            rw [hsb] at HSame
            have HEq := Lib.hid (show ((n1, us) : Int × List Nat) = (n2, vs) by
              simp only [sameB, Bool.and_eq_true, beq_iff_eq] at hsb
              rw [hsb.1, hsb.2])
            clear hsb
            go_wp2_with fail
            go_region_held3 (fun w' => w'.cell? ⟨w.heap.size, 1, none⟩ = some (.slice (some ⟨g1, o1, none⟩) n c1) ∧ w'.cell? ⟨w.heap.size + 1, 1, none⟩ = some (.slice (some ⟨g2, o2, none⟩) n c2) ∧ w'.cell? ⟨g1, o1 + i * 2, none⟩ = some (.int .i64 n1) ∧ w'.cell? ⟨g1, o1 + i * 2 + 1, none⟩ = some (.slice B1 k1 e1) ∧ w'.cell? ⟨g2, o2 + i * 2, none⟩ = some (.int .i64 n2) ∧ w'.cell? ⟨g2, o2 + i * 2 + 1, none⟩ = some (.slice B2 k2 e2)) (go_keep)
              (first
                | (go_at_call 33; refine HSame.out.mono ?_; rintro ee ww ⟨rfl, hb⟩; have HB1 := Lib.hid (HB.out.drew.trans (hb.mono HB.out.size)); have v1' := (hb.cell (p := ⟨w.heap.size, 1, none⟩) LZ0.out).trans v1; have f1' := (hb.cell (p := ⟨w.heap.size + 1, 1, none⟩) LZ1.out).trans f1; have x1' := (hb.cell (p := ⟨g1, o1 + i * 2, none⟩) LG1.out).trans x1; have y1' := (hb.cell (p := ⟨g1, o1 + i * 2 + 1, none⟩) LG1.out).trans y1; have x2' := (hb.cell (p := ⟨g2, o2 + i * 2, none⟩) LG2.out).trans x2; have y2' := (hb.cell (p := ⟨g2, o2 + i * 2 + 1, none⟩) LG2.out).trans y2; clear hb))
            go_wp2_with fail
            go_roundw
            case rel => exact ⟨i + 1, by omega, by go_num, Lib.hid (HTS.out HEq.out), HB1⟩
            case measure => simp [intOf] <;> omega
          | false =>
            rw [hsb] at HSame
            have HF := Lib.hid (show sameM N ms N ks = false by
              simp only [sameM, beq_self_eq_true, Bool.true_and, beq_eq_false_iff_ne]
              intro e
              have := HTN.out e
              injection this with e1 e2
              rw [e1, e2] at hsb
              simp [sameB] at hsb)
            clear hsb
            go_wp2_with fail
            go_region_held3 (fun w' => w'.cell? ⟨w.heap.size, 1, none⟩ = some (.slice (some ⟨g1, o1, none⟩) n c1) ∧ w'.cell? ⟨w.heap.size + 1, 1, none⟩ = some (.slice (some ⟨g2, o2, none⟩) n c2) ∧ w'.cell? ⟨g1, o1 + i * 2, none⟩ = some (.int .i64 n1) ∧ w'.cell? ⟨g1, o1 + i * 2 + 1, none⟩ = some (.slice B1 k1 e1) ∧ w'.cell? ⟨g2, o2 + i * 2, none⟩ = some (.int .i64 n2) ∧ w'.cell? ⟨g2, o2 + i * 2 + 1, none⟩ = some (.slice B2 k2 e2)) (go_keep)
              (first
                | (go_at_call 33; refine HSame.out.mono ?_; rintro ee ww ⟨rfl, hb⟩; have HB1 := Lib.hid (HB.out.drew.trans (hb.mono HB.out.size)); have v1' := (hb.cell (p := ⟨w.heap.size, 1, none⟩) LZ0.out).trans v1; have f1' := (hb.cell (p := ⟨w.heap.size + 1, 1, none⟩) LZ1.out).trans f1; have x1' := (hb.cell (p := ⟨g1, o1 + i * 2, none⟩) LG1.out).trans x1; have y1' := (hb.cell (p := ⟨g1, o1 + i * 2 + 1, none⟩) LG1.out).trans y1; have x2' := (hb.cell (p := ⟨g2, o2 + i * 2, none⟩) LG2.out).trans x2; have y2' := (hb.cell (p := ⟨g2, o2 + i * 2 + 1, none⟩) LG2.out).trans y2; clear hb))
            go_wp2_with fail
            go_ret
            exact ⟨by rw [HF.out]; rfl, HW.out.trans (HB1.out.mono HW.out.size)⟩
        · obtain rfl : i = n := by omega
          have hlt' : ¬ (i : Int) < (i : Int) := by omega
          have HE := Lib.hid (show sameM N ms N ks = true by
            have := HT.out
            rw [List.take_of_length_le (by rw [HL1.out]; omega), List.take_of_length_le (by rw [HL2.out]; omega)] at this
            rw [this]; exact sameM_self _ _)
          go_wp2
          go_ret
          exact ⟨by rw [HE.out]; rfl, HW.out.trans (HB.out.mono HW.out.size)⟩
    · have t2 : (((n : Nat) : Int) != ((m : Nat) : Int)) = true := by rw [bne_iff_ne]; omega
      have HF := Lib.hid (show sameM N ms N ks = false by
        simp only [sameM, beq_self_eq_true, Bool.true_and, beq_eq_false_iff_ne]
        intro e
        apply hn
        rw [← HL1.out, ← HL2.out, e])
      go_enter Try.func12, Try.ntmps12
      go_wp2
      go_ret
      exact ⟨by rw [HF.out]; rfl, HW.out⟩
  · have t1 : (N != M) = true := by simpa using hN
    have HF := Lib.hid (show sameM N ms M ks = false by
      have : (N == M) = false := by simpa using hN
      simp [sameM, this])
    go_enter Try.func12, Try.ntmps12
    go_wp2
    go_ret
    exact ⟨by rw [HF.out]; rfl, HW.out⟩
end
section
/- Contracts of layer 3: slices.EqualFunc at rows, Like, rowsBy. -/
set_option linter.unusedVariables false
set_option linter.unusedSimpArgs false
open Go.RowKit
/-- Rows as cells: how many bits, and the slice of words. -/
abbrev RowV := Int × Option Addr × Nat × Nat
def rowCells (rs : List RowV) : List Value := rs.flatMap fun r => [.int .i64 r.1, .slice r.2.1 r.2.2.1 r.2.2.2]
theorem rowCells_cons (r : RowV) (rs : List RowV) : rowCells (r :: rs) = .int .i64 r.1 :: .slice r.2.1 r.2.2.1 r.2.2.2 :: rowCells rs := rfl
theorem rowCells_len (rs : List RowV) : (rowCells rs).length = rs.length * 2 := by
  induction rs with
  | nil => rfl
  | cons r rs ih => rw [rowCells_cons, List.length_cons, List.length_cons, List.length_cons, ih]; omega
theorem rowCells_snoc (rs : List RowV) (r : RowV) : rowCells (rs ++ [r]) = rowCells rs ++ [.int .i64 r.1, .slice r.2.1 r.2.2.1 r.2.2.2] := by simp [rowCells]
theorem rowCells_at (rs : List RowV) (j : Nat) (hj : j < rs.length) : (rowCells rs)[j * 2]? = some (.int .i64 (rs.getD j (0, none, 0, 0)).1) ∧ (rowCells rs)[j * 2 + 1]? = some (.slice (rs.getD j (0, none, 0, 0)).2.1 (rs.getD j (0, none, 0, 0)).2.2.1 (rs.getD j (0, none, 0, 0)).2.2.2) := by
  induction rs generalizing j with
  | nil => cases hj
  | cons r rs ih =>
    cases j with
    | zero => rw [rowCells_cons]; exact ⟨rfl, rfl⟩
    | succ j =>
      have h := ih j (by simpa using hj)
      rw [rowCells_cons, show (j + 1) * 2 = j * 2 + 1 + 1 by omega]
      exact h
theorem rowCells_set (rs : List RowV) (j : Nat) (r : RowV) : ((rowCells rs).set (j * 2) (.int .i64 r.1)).set (j * 2 + 1) (.slice r.2.1 r.2.2.1 r.2.2.2) = rowCells (rs.set j r) := by
  induction rs generalizing j with
  | nil => simp [rowCells]
  | cons q rs ih =>
    cases j with
    | zero => rw [rowCells_cons]; rfl
    | succ j =>
      rw [rowCells_cons, List.set_cons_succ, rowCells_cons, ← ih j, show (j + 1) * 2 = j * 2 + 1 + 1 by omega]
      rfl
theorem rowCells_made (n : Nat) : (madeCells #[.int .i64 0, .slice none 0 0] (n * 2)) = (rowCells (List.replicate n (0, none, 0, 0))).toArray := by
  apply Array.toList_inj.1
  show _ = rowCells _
  unfold madeCells
  rw [Array.toList_map, Array.toList_range]
  induction n with
  | zero => rfl
  | succ n ih =>
    rw [show (n + 1) * 2 = n * 2 + 1 + 1 by omega, List.range_succ, List.range_succ, List.map_append, List.map_append, ih, List.replicate_succ', rowCells_snoc]
    have e1 : n * 2 % 2 = 0 := by omega
    have e2 : (n * 2 + 1) % 2 = 1 := by omega
    simp [e1, e2]
theorem row_infoM : (Try.prog.info? 40).map (fun i => (i.zero, i.size, i.bytes)) = some (some (.agg #[.int .i64 0, .slice none 0 0]), 2, 32) := by kernel_rfl
theorem makeRows_any (n : Nat) (hn : n ≤ 1000000) (w : World) :
    (Instr.makeSlice 22 (.int .i64 (n : Int)) (.int .i64 (n : Int))).run Try.prog w = .ok (.slice (some ⟨w.heap.size, 0, none⟩) n n) (w.alloc (.cells (rowCells (List.replicate n (0, none, 0, 0))).toArray 40)) := by
  obtain ⟨i0, hi, hz0, hz1, hz2⟩ := info_parts row_infoM
  have hr := run_make (P := Try.prog) w _ _ i0 _ Try.underlying22 hi hz0 .i64 .i64 n n (by omega) (by omega) (by rw [hz2]; omega) (by omega)
  simp only [Int.toNat_natCast, hz1] at hr
  rw [hr, ← rowCells_made]
  rfl
/-- A block of rows reads these. -/
theorem Box.rows {w : World} {g : Nat} {t : TypeId} {rs : List RowV} (h : Box w g t (rowCells rs).toArray) {N : Int} {f : Nat → List Nat} (hf : ∀ j, j < rs.length → (rs.getD j (0, none, 0, 0)).1 = N ∧ SliceOk (rs.getD j (0, none, 0, 0)).2.1 (rs.getD j (0, none, 0, 0)).2.2.1 (rs.getD j (0, none, 0, 0)).2.2.2 ∧ Words w (rs.getD j (0, none, 0, 0)).2.1 (rs.getD j (0, none, 0, 0)).2.2.1 (f j)) {lo : Nat} (hg : lo ≤ g) :
    MatAt w lo (some ⟨g, 0, none⟩) rs.length ((List.range rs.length).map fun i => (N, f i)) := by
  refine ⟨by simp, fun _ => ⟨g, 0, rfl, hg, h.lt, fun j hj => ?_⟩⟩
  obtain ⟨h1, h2, h3⟩ := hf j hj
  obtain ⟨c1, c2⟩ := rowCells_at rs j hj
  have e : ((List.range rs.length).map fun i => ((N, f i) : Int × List Nat)).getD j (0, []) = (N, f j) := by simp [List.getD, hj]
  rw [e, Nat.zero_add]
  refine ⟨_, _, _, ?_, ?_, h2, h3⟩
  · rw [h.cell, List.getElem?_toArray, c1, h1]
  · rw [h.cell, List.getElem?_toArray, c2]
theorem OwnW.ok {w : World} {A : Option Addr} {l c : Nat} {zs : List Nat} (h : OwnW w A l c zs) : SliceOk A l c := by
  rcases h.2 with ⟨hv, h0⟩ | ⟨g, cap, cur, hv, hb, hh, hn, hm, hs, hx⟩
  · injection hv with e1 e2 e3
    subst e1 e2 e3
    exact ⟨Nat.le_refl _, Nat.zero_le _, fun _ => ⟨rfl, rfl⟩⟩
  · injection hv with e1 e2 e3
    subst e1 e3
    exact ⟨hn, hm, fun h => by cases h⟩
/-- What rowsBy asks of its function. -/
def RowsAsk (fn : Nat) (pre cb : Array Value) (many : Nat) (N : Int) (f : Nat → List Nat) (w : World) : Prop :=
  ∀ (W : World) (i : Nat), i < many → Below w.heap.size w W → Calls Try.prog fn (pre ++ #[.int .i64 i] ++ cb) W (OneOwn N (f i) W)
/-- What rowsBy hands back. -/
def MatsOut (N : Int) (f : Nat → List Nat) (many : Nat) (w : World) (e : Ending) (w' : World) : Prop :=
  ∃ g, e = .returned (.slice (some ⟨g, 0, none⟩) many many) ∧ w.heap.size ≤ g ∧ MatAt w' w.heap.size (some ⟨g, 0, none⟩) many ((List.range many).map fun i => (N, f i)) ∧ Below w.heap.size w w'
end
section
/- A chain of worlds that keep what was below. No program. -/
set_option linter.unusedVariables false
set_option linter.unusedSimpArgs false
open Go.RowKit
theorem chainN {w w1 w2 : World} {B : Nat} (h : Below B w w1) (hB : B ≤ w1.heap.size) (h2 : Below w1.heap.size w1 w2) : Below B w w2 := h.trans (h2.mono hB)
end
section
/- Contracts of the reference's In, There and Of. -/
set_option linter.unusedVariables false
set_option linter.unusedSimpArgs false
open Go.RowKit
def hasB (zs : List Int) (x : Int) : Bool := zs.contains x
theorem in_any (A : Option Addr) (l c : Nat) (zs : List Int) (x : Int) (w : World) (hz : Ints w A l zs) (hl : l ≤ 9223372036854775807) :
    Calls Try.prog 76 #[.slice A l c, .int .i64 x] w fun e w' => e = .returned (.bool (hasB zs x)) ∧ w = w' := by
  have HZ := Lib.hid hz
  clear hz
  go_enter Try.func76, Try.ntmps76
  go_wp2
  go_loop [9] (fun i => ∃ j : Nat, j ≤ l ∧ i = .int .i64 j ∧ hasB (zs.take j) x = false) (fun i => l - (intOf i).toNat)
  case atStart => exact ⟨0, by omega, rfl, rfl⟩
  case round =>
    obtain ⟨j, hj, rfl, heq⟩ := hrel
    have HE := Lib.hid heq
    clear heq
    by_cases hlt : j < l
    · obtain ⟨b, o, rfl, hlb, hc⟩ := HZ.out.2.2 (by omega)
      have cz := hc j hlt
      obtain ⟨y, ey⟩ : ∃ y, y = zs.getD j 0 := ⟨_, rfl⟩
      rw [← ey] at cz
      have htk := take_one zs j 0 (by rw [HZ.out.1]; exact hlt)
      rw [← ey] at htk
      have HT := Lib.hid htk
      clear ey hc htk
      by_cases h : y = x
      · have t : (y == x) = true := by simpa using h
        have HF : Hid (hasB zs x = true) := by
          show hasB zs x = true
          unfold hasB
          rw [← List.take_append_drop (j + 1) zs, HT.out, h]
          simp
        clear h
        go_wp2
        go_ret
        exact ⟨by rw [HF.out]; rfl, rfl⟩
      · have t : (y == x) = false := by simpa using h
        have HF : Hid (hasB (zs.take (j + 1)) x = false) := by
          show hasB (zs.take (j + 1)) x = false
          have := HE.out
          unfold hasB at this ⊢
          rw [HT.out]
          simp at this ⊢
          exact ⟨this, fun e => h e.symm⟩
        clear h
        go_wp2
        go_round
        case rel => exact ⟨j + 1, by omega, by go_num, HF.out⟩
        case measure => simp [intOf]; omega
    · have HF : Hid (hasB zs x = false) := by
        show hasB zs x = false
        unfold hasB
        have := HE.out
        unfold hasB at this
        rw [List.take_of_length_le (by rw [HZ.out.1]; omega)] at this
        exact this
      go_wp2
      go_ret
      exact ⟨by rw [HF.out]; rfl, rfl⟩
def ofInts (zs : List Int) (n : Nat) : List Int := (List.range n).map fun (j : Nat) => if hasB zs (j : Int) then 1 else 0
theorem ofInts_succ (zs : List Int) (n : Nat) : ofInts zs (n + 1) = ofInts zs n ++ [if hasB zs (n : Int) then 1 else 0] := by simp [ofInts, List.range_succ]
theorem ofInts_len (zs : List Int) (n : Nat) : (ofInts zs n).length = n := by simp [ofInts]
theorem ofInts_get (zs : List Int) (n j : Nat) (h : j < n) : (ofInts zs n).getD j 0 = if hasB zs (j : Int) then 1 else 0 := by simp [ofInts, List.getD, h]
theorem ofInts_lt (zs : List Int) (n j : Nat) : -9223372036854775808 ≤ (ofInts zs n).getD j 0 ∧ (ofInts zs n).getD j 0 ≤ 9223372036854775807 := by
  by_cases h : j < n
  · rw [ofInts_get zs n j h]
    split <;> omega
  · have hn : (ofInts zs n)[j]? = none := List.getElem?_eq_none (by rw [ofInts_len]; omega)
    simp only [List.getD, hn, Option.getD_none]
    omega
theorem orBit_test (ws : List Nat) (p i j : Nat) (hi : i < ws.length) : ((orBit ws p).getD i 0).testBit j = ((ws.getD i 0).testBit j || (p / 64 == i && p % 64 == j)) := by
  unfold orBit
  by_cases h : p / 64 = i
  · subst h
    have e : (ws.set (p / 64) (ws.getD (p / 64) 0 ||| 2 ^ (p % 64))).getD (p / 64) 0 = ws.getD (p / 64) 0 ||| 2 ^ (p % 64) := by
      simp [List.getD, hi]
    rw [e, Nat.testBit_or, Nat.testBit_two_pow]
    simp
    rfl
  · have e : (ws.set (p / 64) (ws.getD (p / 64) 0 ||| 2 ^ (p % 64))).getD i 0 = ws.getD i 0 := by
      simp [List.getD, List.getElem?_set, h]
    have h' : (p / 64 == i) = false := by simpa using h
    rw [e, h']; simp
theorem foldl_test (ps : List Int) (ws : List Nat) (i j : Nat) (hi : i < ws.length) : ((ps.foldl (fun ws p => orBit ws p.toNat) ws).getD i 0).testBit j = ((ws.getD i 0).testBit j || ps.any fun p => p.toNat / 64 == i && p.toNat % 64 == j) := by
  induction ps generalizing ws with
  | nil => simp
  | cons p ps ih =>
    rw [List.foldl_cons, ih (orBit ws p.toNat) (by rw [orBit_length]; exact hi), orBit_test ws p.toNat i j hi, List.any_cons, Bool.or_assoc]
theorem ofBits_test (n : Nat) (ps : List Int) (i j : Nat) (hi : i < nw n) : ((ofBits n ps).getD i 0).testBit j = ps.any fun p => p.toNat / 64 == i && p.toNat % 64 == j := by
  unfold ofBits
  rw [foldl_test ps _ i j (by simpa using hi)]
  have e : (List.replicate (nw n) 0).getD i 0 = 0 := by simp [List.getD, hi]
  rw [e]; simp
theorem from_of (n : Nat) (zs : List Int) (ht : there n zs = true) : fromL (bitsOf (ofInts zs n)) (nw n) = ofBits n zs := by
  apply List.ext_getElem
  · rw [fromL_len, ofBits_len]
  · intro i hi1 hi2
    have hi : i < nw n := by rw [fromL_len] at hi1; exact hi1
    have eo : (ofBits n zs)[i] = (ofBits n zs).getD i 0 := by simp [List.getD, hi2]
    simp only [fromL, List.getElem_map, List.getElem_range]
    rw [eo]
    apply Nat.eq_of_testBit_eq
    intro j
    rw [accM_bit _ _ _ _ (Nat.le_refl _), ofBits_test n zs i j hi]
    have hall : ∀ p ∈ zs, 0 ≤ p ∧ p < n := by
      intro p hp
      have := (List.all_eq_true.1 ht) p hp
      simpa using this
    by_cases hj : j < 64
    · have hd : decide (j < 64) = true := by simpa using hj
      rw [hd, Bool.true_and, show 64 * i + (64 - 64 + j) = 64 * i + j by omega]
      rw [Bool.eq_iff_iff, List.any_eq_true]
      unfold bitsOf
      rw [ofInts_len, Bool.and_eq_true]
      constructor
      · rintro ⟨h1, h2⟩
        have h1' : 64 * i + j < n := by simpa using h1
        rw [ofInts_get zs n _ h1'] at h2
        by_cases hc : hasB zs ((64 * i + j : Nat) : Int) = true
        · refine ⟨((64 * i + j : Nat) : Int), by simpa [hasB] using hc, ?_⟩
          rw [Int.toNat_natCast]
          simp
          omega
        · rw [if_neg hc] at h2
          simp at h2
      · rintro ⟨p, hp, hb⟩
        have hr := hall p hp
        obtain ⟨q, rfl⟩ := Int.eq_ofNat_of_zero_le hr.1
        rw [Int.toNat_natCast] at hb
        simp at hb
        have e : 64 * i + j = q := by omega
        have hq : q < n := by omega
        rw [e]
        refine ⟨by simpa using hq, ?_⟩
        rw [ofInts_get zs n q hq]
        have hc : hasB zs (q : Int) = true := by simpa [hasB] using hp
        rw [if_pos hc]; rfl
    · have hd : decide (j < 64) = false := by simpa using hj
      rw [hd, Bool.false_and]
      symm
      rw [List.any_eq_false]
      intro p _
      simp
      intro _
      omega
set_option maxHeartbeats 1000000 in
theorem refOf_any (n : Nat) (A : Option Addr) (l c : Nat) (zs : List Int) (w : World) (hz : Ints w A l zs) (hl : l ≤ 1000000) (hn : n ≤ 512) (ht : there n zs = true) :
    Calls Try.prog 69 #[.int .i64 n, .slice A l c] w (OneRow n (ofBits n zs) w) := by
  obtain ⟨i0, hi, hz0, hz1, hz2⟩ := info_parts int_info
  have q0 := Box.new w 40 #[.int .i64 0, .slice none 0 0]
  have hW : Below w.heap.size w (w.alloc (.cells #[.int .i64 0, .slice none 0 0] 40)) := (Below.refl _ _).alloc (Nat.le_refl _) _
  go_enter Try.func69, Try.ntmps69
  go_wp2
  have how := own_empty (w.alloc (.cells #[.int .i64 0, .slice none 0 0] 40)) w.heap.size 3 hW.size
  simp only [World.size_alloc] at how
  have HOw := Lib.hid how
  have Q0 := Lib.hid (q0.alloc (.cells #[] 3))
  have HW := Lib.hid (hW.alloc hW.size (.cells #[] 3))
  have HZ := Lib.hid hz
  have HT := Lib.hid ht
  clear how q0 hW hz ht
  have HI := Lib.hid hi
  have HZ0 := Lib.hid hz0
  have HZ1 := Lib.hid hz1
  have HZ2 := Lib.hid hz2
  clear hi hz0 hz1 hz2
  have hne := Lib.hid (show (3 : TypeId) ≠ 40 by decide)
  go_loopw [5, 6] (fun v t wr => ∃ i : Nat, i ≤ n ∧ t = .int .i64 i ∧ wr.ownsRow w.heap.size 3 1 v i ((ofInts zs i).map (Value.int .i64)) ∧ Box wr w.heap.size 40 #[.int .i64 0, .slice none 0 0] ∧ Below w.heap.size w wr)
    (fun _ t _ => n - (intOf t).toNat)
  case atStart => exact ⟨0, by omega, rfl, HOw.out, Q0.out, HW.out⟩
  case round =>
    obtain ⟨i, hi, rfl, hown, B0, hbel⟩ := hrel
    have R0 := Lib.hid B0
    have HO := Lib.hid hown
    have HB := Lib.hid hbel
    clear B0 hown hbel Q0 HW HOw
    by_cases hlt : i < n
    · have hlt' : (i : Int) < (n : Int) := by omega
      go_wp2_with fail
      refine (in_any A l c zs i _ (HZ.out.below HB.out) (by omega)).mono ?_
      rintro e w' ⟨rfl, rfl⟩
      have hi' := HI.out
      have hz0' := HZ0.out
      have hz1' := HZ1.out
      have hz2' := HZ2.out
      cases hc : hasB zs (i : Int) with
      | true =>
        have HS : Hid (ofInts zs (i + 1) = ofInts zs i ++ [1]) := by
          show _ = _
          rw [ofInts_succ, hc]; rfl
        clear hc
        have X0 := Lib.hid (R0.out.alloc (.cells #[.int .i64 1] 3))
        have XO := Lib.hid (HO.out.alloc (.cells #[.int .i64 1] 3))
        have XB := Lib.hid (HB.out.alloc HB.out.size (.cells #[.int .i64 1] 3))
        have N0 := Lib.hid (own_ne XO.out X0.out hne.out)
        have N2 := Lib.hid (fun k hk => (HO.out.lt k hk).1)
        go_wp2_with (at_builtin; refine wpList_append_own _ rfl _ _ 26 rfl w.heap.size 3 i0 (.int .i64 0) 1 8 Try.underlying26 hi' hz0' hz1' hz2' rfl (by decide) _ _ _ rfl XO.out ⟨wr.heap.size, 0, none⟩ 1 1 [.int .i64 1] rfl rfl (cell_one_new _ _ _) (by simp [Value.oneCell']) (by simp [maxLen]; omega) (by omega) XB.out.size ?_; intro v' w1 hown' hgrow _; have S0 := Lib.hid (X0.out.grown hgrow N0.out); have HC := Lib.hid (XB.out.grown hgrow XB.out.size N2.out); have HO2 := Lib.hid hown'; clear hown' hgrow)
        go_roundw
        case rel =>
          refine ⟨i + 1, by omega, by go_num, ?_, S0.out, HC.out⟩
          rw [HS.out, List.map_append]
          exact HO2.out
        case measure => simp [intOf] <;> omega
      | false =>
        have HS : Hid (ofInts zs (i + 1) = ofInts zs i ++ [0]) := by
          show _ = _
          rw [ofInts_succ, hc]; rfl
        clear hc
        have X0 := Lib.hid (R0.out.alloc (.cells #[.int .i64 0] 3))
        have XO := Lib.hid (HO.out.alloc (.cells #[.int .i64 0] 3))
        have XB := Lib.hid (HB.out.alloc HB.out.size (.cells #[.int .i64 0] 3))
        have N0 := Lib.hid (own_ne XO.out X0.out hne.out)
        have N2 := Lib.hid (fun k hk => (HO.out.lt k hk).1)
        go_wp2_with (at_builtin; refine wpList_append_own _ rfl _ _ 26 rfl w.heap.size 3 i0 (.int .i64 0) 1 8 Try.underlying26 hi' hz0' hz1' hz2' rfl (by decide) _ _ _ rfl XO.out ⟨wr.heap.size, 0, none⟩ 1 1 [.int .i64 0] rfl rfl (cell_one_new _ _ _) (by simp [Value.oneCell']) (by simp [maxLen]; omega) (by omega) XB.out.size ?_; intro v' w1 hown' hgrow _; have S0 := Lib.hid (X0.out.grown hgrow N0.out); have HC := Lib.hid (XB.out.grown hgrow XB.out.size N2.out); have HO2 := Lib.hid hown'; clear hown' hgrow)
        go_roundw
        case rel =>
          refine ⟨i + 1, by omega, by go_num, ?_, S0.out, HC.out⟩
          rw [HS.out, List.map_append]
          exact HO2.out
        case measure => simp [intOf] <;> omega
    · obtain rfl : i = n := by omega
      have hlt' : ¬ (i : Int) < (i : Int) := by omega
      obtain ⟨A', c', rfl, hA'⟩ := own_form HO.out
      go_wp2_with fail
      refine (from_any A' i c' _ _ (own_ints HO.out (ofInts_lt zs i)) (by omega)).mono ?_
      rintro e x1 ⟨A1, l1, c1, rfl, hw, hb⟩
      have P0 := Lib.hid (R0.out.keep hb)
      have T1 := Lib.hid (chain HB.out hb)
      have HWo := Lib.hid hw
      clear hw hb
      obtain ⟨r0, r1, r2, r3⟩ := P0.out.two
      go_wp2
      refine close_one Try.results69 rfl rfl P0.out.put2 Try.underlying40 rfl (by kernel_rfl) ⟨_, _, _, rfl, ?_, ?_⟩
      · have h := HWo.out
        rw [from_of i zs HT.out] at h
        exact h.put2 P0.out _ _
      · exact (T1.out.setCell (p := ⟨w.heap.size, 0, none⟩) (Nat.le_refl _) _).setCell (p := ⟨w.heap.size, 1, none⟩) (Nat.le_refl _) _
end
section
/- Mathematics of matrices: columns. -/
set_option linter.unusedVariables false
set_option linter.unusedSimpArgs false
open Go.RowKit
/-- The bit of row j at i. -/
def mbit (ms : List (Int × List Nat)) (j i : Nat) : Nat := bitAt (ms.getD j (0, [])).2 i
theorem mbit_le (ms : List (Int × List Nat)) (j i : Nat) : mbit ms j i = 0 ∨ mbit ms j i = 1 := bitAt_le _ _
/-- Where a column's bits are 1, among the first k rows. -/
def colP (ms : List (Int × List Nat)) (i k : Nat) : List Nat := (List.range k).filter fun j => mbit ms j i == 1
def castP (l : List Nat) : List Int := l.map fun (x : Nat) => (x : Int)
theorem colP_succ (ms : List (Int × List Nat)) (i k : Nat) : colP ms i (k + 1) = colP ms i k ++ if mbit ms k i = 1 then [k] else [] := by
  unfold colP
  rw [List.range_succ, List.filter_append]
  congr 1
  by_cases h : mbit ms k i = 1
  · have t : (mbit ms k i == 1) = true := by simpa using h
    simp [t, h]
  · have t : (mbit ms k i == 1) = false := by simpa using h
    simp [t, h]
theorem colP_len (ms : List (Int × List Nat)) (i k : Nat) : (colP ms i k).length ≤ k := by
  unfold colP
  have := List.length_filter_le (fun j => mbit ms j i == 1) (List.range k)
  simpa using this
theorem colP_lt {ms : List (Int × List Nat)} {i k p : Nat} (h : p ∈ colP ms i k) : p < k := by
  have := (List.mem_filter.1 h).1
  simpa using this
theorem colP_there (ms : List (Int × List Nat)) (i k : Nat) : there (k : Int) (castP (colP ms i k)) = true := by
  simp only [there, castP, List.all_eq_true, List.mem_map]
  rintro x ⟨y, hy, rfl⟩
  have := colP_lt hy
  simp; omega
theorem castP_bound {l : List Nat} {k : Nat} (h : ∀ p ∈ l, p < k) (hk : k ≤ 1000000) (j : Nat) : -9223372036854775808 ≤ (castP l).getD j 0 ∧ (castP l).getD j 0 ≤ 9223372036854775807 := by
  by_cases hj : j < l.length
  · have e : (castP l).getD j 0 = ((l[j] : Nat) : Int) := by simp [castP, List.getD, hj]
    have := h l[j] (List.getElem_mem _)
    rw [e]; omega
  · have e : (castP l)[j]? = none := List.getElem?_eq_none (by simp [castP]; omega)
    simp only [List.getD, e, Option.getD_none]; omega
/-- The column as a row. -/
def colW (ms : List (Int × List Nat)) (i : Nat) : List Nat := ofBits ms.length (castP (colP ms i ms.length))
/-- A matrix turned, of n columns. -/
def turnM (n : Nat) (ms : List (Int × List Nat)) : List (Int × List Nat) := (List.range n).map fun i => ((ms.length : Int), colW ms i)
/-- The column as numbers. -/
def colZ (ms : List (Int × List Nat)) (i k : Nat) : List Int := (List.range k).map fun j => ((mbit ms j i : Nat) : Int)
theorem colZ_succ (ms : List (Int × List Nat)) (i k : Nat) : colZ ms i (k + 1) = colZ ms i k ++ [((mbit ms k i : Nat) : Int)] := by simp [colZ, List.range_succ]
theorem colZ_len (ms : List (Int × List Nat)) (i k : Nat) : (colZ ms i k).length = k := by simp [colZ]
theorem colZ_bound (ms : List (Int × List Nat)) (i k j : Nat) : -9223372036854775808 ≤ (colZ ms i k).getD j 0 ∧ (colZ ms i k).getD j 0 ≤ 9223372036854775807 := by
  by_cases hj : j < k
  · have e : (colZ ms i k).getD j 0 = ((mbit ms j i : Nat) : Int) := by simp [colZ, List.getD, hj]
    have := mbit_le ms j i
    rw [e]; omega
  · have e : (colZ ms i k)[j]? = none := List.getElem?_eq_none (by simp [colZ]; omega)
    simp only [List.getD, e, Option.getD_none]; omega
theorem hasB_castP (l : List Nat) (j : Nat) : hasB (castP l) (j : Int) = l.contains j := by
  unfold hasB castP
  rw [Bool.eq_iff_iff]
  simp only [List.contains_iff_mem, List.mem_map]
  constructor
  · rintro ⟨a, h, e⟩
    obtain rfl : a = j := by omega
    exact h
  · exact fun h => ⟨j, h, rfl⟩
theorem colZ_ofInts (ms : List (Int × List Nat)) (i k : Nat) : colZ ms i k = ofInts (castP (colP ms i k)) k := by
  unfold colZ ofInts
  apply List.map_congr_left
  intro j hj
  have hj' : j < k := by simpa using hj
  rw [hasB_castP]
  have e : (colP ms i k).contains j = (mbit ms j i == 1) := by
    rw [Bool.eq_iff_iff]
    simp [colP, hj']
  rw [e]
  rcases mbit_le ms j i with h | h <;> simp [h]
theorem from_col (ms : List (Int × List Nat)) (i k : Nat) : fromL (bitsOf (colZ ms i k)) (nw k) = ofBits k (castP (colP ms i k)) := by
  rw [colZ_ofInts, from_of k _ (colP_there ms i k)]
end
section
/- Contracts of layer 3: alone, One. -/
set_option linter.unusedVariables false
set_option linter.unusedSimpArgs false
open Go.RowKit
/-- What a function of one matrix and an error hands back. -/
def MatRes (N : Int) (ms : List (Int × List Nat)) (err : Int) (w : World) (e : Ending) (w' : World) : Prop :=
  ∃ A c, e = .returned (.tuple #[.agg #[.int .i64 N, .slice A ms.length c], .int .i64 err]) ∧ MatAt w' w.heap.size A ms.length ms ∧ Below w.heap.size w w'
/-- What a function of one matrix hands back. -/
def MatOne (N : Int) (ms : List (Int × List Nat)) (w : World) (e : Ending) (w' : World) : Prop :=
  ∃ A c, e = .returned (.agg #[.int .i64 N, .slice A ms.length c]) ∧ MatAt w' w.heap.size A ms.length ms ∧ Below w.heap.size w w'
def oneL (n : Nat) : List (Int × List Nat) := (List.range n).map fun (i : Nat) => ((n : Int), ofBits n [(i : Int)])
theorem oneL_len (n : Nat) : (oneL n).length = n := by simp [oneL]
def oneN (n : Int) : Int := if smb n then n else 0
def oneM (n : Int) : List (Int × List Nat) := if smb n then oneL n.toNat else []
def oneE (n : Int) : Int := if smb n then 0 else 2
end
end Go.Proofs.Ytdfmogcgangdnaa
