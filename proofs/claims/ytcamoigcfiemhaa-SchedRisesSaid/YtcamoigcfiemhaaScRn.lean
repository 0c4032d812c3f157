/- Layer 20: what threads need, as it came in; the thread that each need makes. -/
import Derived.Test.YtcamoigcfiemhaaScFd
import Derived.Test.YtcamoigcfiemhaaOpen
import Derived.Test.YtcamoigcfiemhaaScRk
import Derived.Laws.BitsLemmas
import Derived.Laws.Small
namespace Go.Proofs.Ytcamoigcfiemhaa
set_option linter.unusedVariables false
set_option linter.unusedSimpArgs false
open Go.RowKit Go.Shelf Go.Joins Go.ChangeShapes Go.WideShapes
set_option maxRecDepth 100000
theorem cellsNeed : Try.prog.cellsOf 54 = 3 := by kernel_rfl
def i64B (x : Int) : Prop := -9223372036854775808 ≤ x ∧ x ≤ 9223372036854775807
def needB (x : InR) : Prop := i64B x.1 ∧ i64B x.2.1 ∧ i64B x.2.2
/-- What threads need: rows of three ints. -/
def Needs (w : World) (A : Option Addr) (l : Nat) (xs : List InR) : Prop := Recs encIn 3 w A l xs ∧ ∀ j, j < l → needB (xs.getD j default)
theorem Needs.below {w w' : World} {A : Option Addr} {l : Nat} {xs : List InR} (h : Needs w A l xs) (hb : Below w.heap.size w w') : Needs w' A l xs := ⟨Recs.below h.1 hb, h.2⟩
section
variable {H : Type} {enc : TypeId × Value → H} {W : World} {fuel : Nat} {cs : List Value} {x : DataW H × List MemPlace}
theorem wf_i64 {a : Int} (h : (Lit.int .i64 a).wf = true) : i64B a := by
  simp only [Lit.wf, Bool.and_eq_true, decide_eq_true_eq] at h
  exact h
theorem open_need (hl : cs.length = 3) (h : DataW.trod enc Try.prog W 0 (fun _ => true) true fuel 54 cs = some x) : ∃ c : InR, cs = encIn c ∧ needB c := by
  match cs, hl with
  | [v0, v1, v2], _ =>
  obtain ⟨xs, n, -, -, -, hxl, hf⟩ := DataW.trod_struct Try.underlying54 h
  match xs, hxl with
  | [y0, y1, y2], _ =>
  have g0 := hf 0 _ rfl
  have g1 := hf 1 _ rfl
  have g2 := hf 2 _ rfl
  have ei : Try.prog.cellsOf 3 = 1 := by kernel_rfl
  simp [ei] at g0 g1 g2
  obtain ⟨a0, e0, -, w0⟩ := DataW.trod_int Try.underlying3 g0
  obtain ⟨a1, e1, -, w1⟩ := DataW.trod_int Try.underlying3 g1
  obtain ⟨a2, e2, -, w2⟩ := DataW.trod_int Try.underlying3 g2
  simp at e0 e1 e2
  subst e0 e1 e2
  exact ⟨(a0, a1, a2), rfl, wf_i64 w0, wf_i64 w1, wf_i64 w2⟩
theorem open_needs (h : DataW.trod enc Try.prog W 0 (fun _ => true) true fuel 52 cs = some x) : ∃ A l c xs, cs = [.slice A l c] ∧ SliceOk A l c ∧ Needs W A l xs := by
  rcases Go.Deep.open_slice Try.underlying52 h with ⟨hcs, _⟩ | ⟨a, len, cap, m, n, D, Pl, hcs, _, hl, hm, hmm, _, hx⟩
  · exact ⟨none, 0, 0, [], hcs, ⟨Nat.le_refl _, Nat.zero_le _, fun _ => ⟨rfl, rfl⟩⟩, Recs.nil _ _, fun j hj => by omega⟩
  · have hmm' : m = cap := by simpa using hmm
    have each : ∀ i, i < len → ∃ e : InR, (∀ k v, (encIn e)[k]? = some v → W.cell? ((a.add (i * 3)).add k) = some v) ∧ needB e := fun i hi => by
      obtain ⟨cs', h1, h2⟩ := hx i (by omega)
      rw [cellsNeed] at h1
      obtain ⟨-, hlen, hcell⟩ := World.cells?_some h1
      obtain ⟨e, rfl, hb⟩ := open_need hlen h2
      refine ⟨e, fun k v hv => ?_, hb⟩
      have hk : k < 3 := by have := (List.getElem?_eq_some_iff.1 hv).1; rwa [encIn_len] at this
      rw [hcell k hk, hv]
    obtain ⟨q, hq⟩ := Go.Deep.choose_lt each
    have hg : ∀ j, j < len → ((List.range len).map q).getD j default = q j := fun j hj => by simp [List.getD, hj]
    refine ⟨some a, len, cap, (List.range len).map q, hcs, ⟨hl, hm, fun h => by cases h⟩, ⟨by simp, fun hp => ?_⟩, fun j hj => by rw [hg j hj]; exact (hq j hj).2⟩
    have h00 := (hq 0 hp).1 0 _ rfl
    have haa : ∀ i k, (a.add i).add k = a.add (i + k) := fun i k => Go.Deep.add_add a i k
    rw [haa] at h00
    obtain ⟨b, o, ha⟩ : ∃ b o, a = ⟨b, o, none⟩ := addr_at (by simpa using h00)
    subst ha
    refine ⟨b, o, rfl, ?_, fun j hj k v hv => ?_⟩
    · have := block_lt_of_cell h00
      rw [addP] at this
      exact this
    · rw [hg j hj] at hv
      have := (hq j hj).1 k v hv
      rw [haa, addP] at this
      rwa [Nat.add_assoc]
end
/-! The thread of a need. -/
theorem i64_and1 (n : Int) : bits .and .i64 n 1 = n % 2 := by
  have h1 : (BitVec.ofInt 64 1).toNat = 2 ^ 1 - 1 := by decide
  have key : (BitVec.ofInt 64 n &&& BitVec.ofInt 64 1).toNat = (n % ((2 ^ 64 : Nat) : Int)).toNat % 2 ^ 1 := by
    rw [BitVec.toNat_and, BitVec.toNat_ofInt, h1, Nat.and_two_pow_sub_one_eq_mod]
  show IntKind.i64.wrap ((BitVec.ofInt 64 n &&& BitVec.ofInt 64 1).toNat : Nat) = n % 2
  rw [key, IntKind.wrap_i64]
  omega
theorem i64_and3 (n : Int) : bits .and .i64 n 3 = n % 4 := by
  have h1 : (BitVec.ofInt 64 3).toNat = 2 ^ 2 - 1 := by decide
  have key : (BitVec.ofInt 64 n &&& BitVec.ofInt 64 3).toNat = (n % ((2 ^ 64 : Nat) : Int)).toNat % 2 ^ 2 := by
    rw [BitVec.toNat_and, BitVec.toNat_ofInt, h1, Nat.and_two_pow_sub_one_eq_mod]
  show IntKind.i64.wrap ((BitVec.ofInt 64 n &&& BitVec.ofInt 64 3).toNat : Nat) = n % 4
  rw [key, IntKind.wrap_i64]
  omega
def bitN (x : Int) (a : Nat) : Bool := decide (x / 2 ^ a % 2 = 1)
/-- The locks below a that a need names. -/
def locksN (x : Int) (a : Nat) : List Nat := (List.range a).filter (bitN x)
theorem locksN_succ (x : Int) (a : Nat) : locksN x (a + 1) = if bitN x a then locksN x a ++ [a] else locksN x a := by
  unfold locksN
  rw [List.range_succ, List.filter_append]
  cases h : bitN x a <;> simp [h]
theorem locksN_len (x : Int) (a : Nat) : (locksN x a).length ≤ a := by
  have := List.length_filter_le (bitN x) (List.range a)
  rw [List.length_range] at this
  exact this
def numN (x : Int) : Int := (x.tmod 1000 + 1000).tmod 1000
theorem numN_bd (x : Int) : 0 ≤ numN x ∧ numN x ≤ 999 := by
  unfold numN
  have h1 : -1000 < x.tmod 1000 := Int.lt_tmod_of_pos x (by decide)
  have h2 : 0 ≤ x.tmod 1000 + 1000 := by omega
  rw [Int.tmod_eq_emod_of_nonneg h2]
  omega
def thN (x : InR) : Th := { ls := locksN x.1 4, c := (x.2.1 % 4).toNat, n := numN x.2.2 }
theorem thN_ok (x : InR) : (thN x).ok := by
  refine ⟨List.Pairwise.filter _ List.pairwise_lt_range, fun a ha => ?_, ?_⟩
  · have := (List.mem_filter.1 ha).1
    exact List.mem_range.1 this
  · show (x.2.1 % 4).toNat < 4
    omega
end Go.Proofs.Ytcamoigcfiemhaa
