/- Parts: TellsX, Ms1, Ms2, Ms3, Ms4, Block2, Block3, Block4, Words2, RefBlock, FewT, RefOnes, Pick, RefSum, HTail, PkX, RefTx, Ms5, BorderM, MrM, KeM, NfM, EqR, EqT. -/
import Derived.Test.YtmfhimeffmpgaaaGreatZi
import Derived.Deep.RegionHeld
import Derived.Laws.BitsAllLaws
import Derived.Laws.CopyOwn
import Derived.Lib.BufferWrite
import Derived.OpenShut
import Derived.OrdersHeld
import Derived.StillTail
namespace Go.Proofs.YtmfhimeffmpgaaaGreat
section
/- BitrowTells: the walk. -/
set_option linter.unusedVariables false
set_option linter.unusedSimpArgs false
open Go.RowKit
theorem plc_right (N : Nat) (us : List Nat) (h : rightB (N : Int) us = true) : plcN us (64 * us.length) = plcN us N := by
  have hl := h
  simp only [rightB, Bool.and_eq_true, beq_iff_eq, Int.toNat_natCast] at hl
  have h1 := hl.1.2
  have hlm := hl.1.1
  have hle : N ≤ 64 * us.length := by rw [h1]; unfold nw; omega
  obtain ⟨d, hd⟩ := Nat.le.dest hle
  unfold plcN
  rw [← hd, List.range_add, List.filter_append]
  have : ((List.range d).map fun x => N + x).filter (fun p => bitAt us p == 1) = [] := by
    rw [List.filter_eq_nil_iff]
    intro x hx
    obtain ⟨y, hy, rfl⟩ := List.mem_map.1 hx
    have hy : y < d := by simpa using hy
    intro hb
    have hb : bitAt us (N + y) = 1 := by simpa using hb
    have := not_right_of_bit N us.length (N + y) us hlm rfl h1 (by omega) (by omega) hb
    rw [this] at h; cases h
  rw [this, List.append_nil]
theorem get_any (n i : Int) (A : Option Addr) (len c : Nat) (us : List Nat) (w : World) (hW : Words w A len us) :
    Calls Tryz.prog 97 #[.agg #[.int .i64 n, .slice A len c], .int .i64 i] w fun e w' => e = .returned (.tuple #[.int .i64 (getV n us i), .int .i64 (getE n us i)]) ∧ Below w.heap.size w w' := by
  unfold getV getE
  cases hr : rightB n us with
  | false => simpa using get_bad n i A len c us w hr hW
  | true =>
    cases hi : (decide (0 ≤ i) && decide (i < n)) with
    | false => simpa using get_far n i A len c us w hr hi hW
    | true =>
      simp only [Bool.and_eq_true, decide_eq_true_eq] at hi
      obtain ⟨m, rfl⟩ := Int.eq_ofNat_of_zero_le hi.1
      obtain ⟨N, rfl⟩ := Int.eq_ofNat_of_zero_le (show 0 ≤ n by omega)
      simpa using get_yes N m A len c us w hr (by omega) hW
end
section
/- Contracts of layer 3: table.sum. -/
set_option linter.unusedVariables false
set_option linter.unusedSimpArgs false
open Go.RowKit
theorem OwnW.put2o {w : World} {A : Option Addr} {l c : Nat} {zs : List Nat} (h : OwnW w A l c zs) {g : Nat} {t : TypeId} {a b : Value} (hb : Box w g t #[a, b]) (hne : 44 ≠ t) (u v : Value) : OwnW ((w.setCell ⟨g, 0, none⟩ u).setCell ⟨g, 1, none⟩ v) A l c zs :=
  (h.far hb hne 0 u).far (hb.put 0 u) hne 1 v
theorem Ints.far2 {w : World} {A : Option Addr} {len : Nat} {zs : List Int} (h : Ints w A len zs) {g : Nat} (hne : ∀ b off, 0 < len → A = some ⟨b, off, none⟩ → b ≠ g) (u v : Value) : Ints ((w.setCell ⟨g, 0, none⟩ u).setCell ⟨g, 1, none⟩ v) A len zs := by
  refine ⟨h.1, h.2.1, fun hp => ?_⟩
  obtain ⟨b, off, rfl, hlt, hc⟩ := h.2.2 hp
  have hn := hne b off hp rfl
  refine ⟨b, off, rfl, by simpa [World.setCell] using hlt, fun j hj => ?_⟩
  rw [World.cell?_setCell_other _ _ _ _ (by intro e; injection e; omega), World.cell?_setCell_other _ _ _ _ (by intro e; injection e; omega)]
  exact hc j hj
end
section
/- Contracts of layer 3: rowsOf, Mul. -/
set_option linter.unusedVariables false
set_option linter.unusedSimpArgs false
open Go.RowKit
theorem Box.one {w : World} {g : Nat} {t : TypeId} {a : Value} (h : Box w g t #[a]) : w.cell? ⟨g, 0, none⟩ = some a := h.cell 0
end
section
/- Contracts of layer 3: Mul; the reference's bit. -/
set_option linter.unusedVariables false
set_option linter.unusedSimpArgs false
open Go.RowKit
theorem right_has64 {N : Nat} {us : List Nat} (h : rightB N us = true) : N ≤ 64 * us.length := by
  have := right_len_eq h
  rw [Int.toNat_natCast] at this
  unfold nw at this; omega
def mulB (N : Int) (ms : List (Int × List Nat)) (M : Int) (ks : List (Int × List Nat)) : Bool := rightM N ms && (rightM M ks && N == (ks.length : Int))
def mulN (N : Int) (ms : List (Int × List Nat)) (M : Int) (ks : List (Int × List Nat)) : Int := if mulB N ms M ks then M else 0
def mulL (N : Int) (ms : List (Int × List Nat)) (M : Int) (ks : List (Int × List Nat)) : List (Int × List Nat) := if mulB N ms M ks then mulM M.toNat ks ms else []
def mulE (N : Int) (ms : List (Int × List Nat)) (M : Int) (ks : List (Int × List Nat)) : Int := if rightM N ms && rightM M ks then if N == (ks.length : Int) then 0 else 2 else 1
end
section
/- Layer 3's reference: Mul. -/
set_option linter.unusedVariables false
set_option linter.unusedSimpArgs false
open Go.RowKit
end
section
/- Contracts of layer 2: block.allHave, block.put. -/
set_option linter.unusedVariables false
set_option linter.unusedSimpArgs false
open Go.RowKit
/-- Texts in memory: a slice of strings. -/
def Texts (w : World) (A : Option Addr) (len : Nat) (ss : List ByteArray) : Prop :=
  ss.length = len ∧ (∀ j, (ss.getD j ByteArray.empty).size ≤ maxLen) ∧
    (0 < len → ∃ b off, A = some ⟨b, off, none⟩ ∧ b < w.heap.size ∧ ∀ j, j < len → w.cell? ⟨b, off + j, none⟩ = some (.string (ss.getD j ByteArray.empty)))
theorem Texts.mono {w w' : World} {A : Option Addr} {len : Nat} {ss : List ByteArray} (h : Texts w A len ss) {B : Nat} (hB : w.heap.size ≤ B) (hb : Below B w w') : Texts w' A len ss := by
  refine ⟨h.1, h.2.1, fun hp => ?_⟩
  obtain ⟨b, off, rfl, hlt, hc⟩ := h.2.2 hp
  exact ⟨b, off, rfl, Nat.lt_of_lt_of_le hlt hb.size, fun j hj => (hb.cell (p := ⟨b, off + j, none⟩) (Nat.lt_of_lt_of_le hlt hB)).trans (hc j hj)⟩
theorem Texts.below {w w' : World} {A : Option Addr} {len : Nat} {ss : List ByteArray} (h : Texts w A len ss) (hb : Below w.heap.size w w') : Texts w' A len ss := h.mono (Nat.le_refl _) hb
theorem Texts.nil (w : World) (A : Option Addr) : Texts w A 0 [] := ⟨rfl, by simp [maxLen], fun h => by omega⟩
/-- Have all texts n bytes? -/
def allL (n : Int) (ss : List ByteArray) : Bool := ss.all fun s => (s.size : Int) == n
theorem allL_snoc (n : Int) (ss : List ByteArray) (j : Nat) (h : j < ss.length) : allL n (ss.take (j + 1)) = (allL n (ss.take j) && (((ss.getD j ByteArray.empty).size : Int) == n)) := by
  unfold allL
  rw [List.take_succ_eq_append_getElem h, List.all_append]
  simp [List.getD, h]
theorem allL_not (n : Int) (ss : List ByteArray) (j : Nat) (h : j < ss.length) (hz : ¬ ((ss.getD j ByteArray.empty).size : Int) = n) : allL n ss = false := by
  rw [Bool.eq_false_iff]
  intro ha
  have := List.all_eq_true.1 ha (ss[j]) (List.getElem_mem _)
  exact hz (by simpa [List.getD, h] using this)
def mixL (l t : List UInt8) (j : Nat) : List UInt8 := (List.range l.length).map fun i => if i < j then l.getD i 0 ^^^ t.getD i 0 else l.getD i 0
def bxL (l t : List UInt8) : List UInt8 := (List.range l.length).map fun i => l.getD i 0 ^^^ t.getD i 0
theorem mixL_length (l t : List UInt8) (j : Nat) : (mixL l t j).length = l.length := by simp [mixL]
theorem xorL_length (l t : List UInt8) : (bxL l t).length = l.length := by simp [bxL]
theorem mixL_zero (l t : List UInt8) : mixL l t 0 = l := by
  apply List.ext_getElem
  · simp [mixL]
  · intro i h1 h2; simp [mixL, List.getD, h2]
theorem mixL_full (l t : List UInt8) (n : Nat) (h : l.length = n) : mixL l t n = bxL l t := by
  subst h
  apply List.ext_getElem
  · simp [mixL, bxL]
  · intro i h1 h2
    have : i < l.length := by simpa [bxL] using h2
    simp [mixL, bxL, this]
theorem mixL_get (l t : List UInt8) (j : Nat) (h : j < l.length) : (mixL l t j).getD j 0 = l.getD j 0 := by
  simp [mixL, List.getD, h]
theorem mixL_set (l t : List UInt8) (j : Nat) (h : j < l.length) : (mixL l t j).set j (l.getD j 0 ^^^ t.getD j 0) = mixL l t (j + 1) := by
  apply List.ext_getElem
  · simp [mixL]
  · intro i h1 h2
    have hi : i < l.length := by simpa [mixL] using h2
    rw [List.getElem_set]
    by_cases e : j = i
    · subst e; simp [mixL, List.getD, h]
    · rw [if_neg e]
      have e2 : (i < j + 1) = (i < j) := by apply propext; omega
      simp [mixL, e2]
theorem xor_u8 (a b : UInt8) : bits BinOp.xor IntKind.u8 (a.toNat : Int) (b.toNat : Int) = ((a ^^^ b).toNat : Int) := by
  have ha := a.toNat_lt
  have hb := b.toNat_lt
  rw [u8_xor_nat _ _ (by omega) (by omega), UInt8.toNat_xor]
end
section
/- Contract of block.Sum. -/
set_option linter.unusedVariables false
set_option linter.unusedSimpArgs false
open Go.RowKit
/-- The xor of all texts, byte by byte, from n bytes 0 on. -/
def sumL (n : Nat) (ss : List ByteArray) : List UInt8 := ss.foldl (fun acc s => bxL acc s.data.toList) (List.replicate n 0)
theorem foldl_xorL_length (ss : List ByteArray) (l : List UInt8) : (ss.foldl (fun acc s => bxL acc s.data.toList) l).length = l.length := by
  induction ss generalizing l with
  | nil => rfl
  | cons s ss ih => rw [List.foldl_cons, ih, xorL_length]
theorem sumL_length (n : Nat) (ss : List ByteArray) : (sumL n ss).length = n := by simp [sumL, foldl_xorL_length]
theorem xorL_zero (n : Nat) (s : ByteArray) (h : s.size = n) : bxL (List.replicate n 0) s.data.toList = s.data.toList := by
  subst h
  apply List.ext_getElem
  · simp [bxL]
  · intro i h1 h2
    have : i < s.size := by simpa using h2
    simp [bxL, List.getD, this, List.getElem?_replicate]
theorem sumL_one (n : Nat) (ss : List ByteArray) (h : 0 < ss.length) (hs : (ss.getD 0 ByteArray.empty).size = n) : sumL n (ss.take 1) = (ss.getD 0 ByteArray.empty).data.toList := by
  cases ss with
  | nil => simp at h
  | cons s r => simp only [List.take_succ_cons, List.take_zero, sumL, List.foldl_cons, List.foldl_nil]; simp at hs; rw [xorL_zero n s hs]; simp
theorem sumL_snoc (n : Nat) (ss : List ByteArray) (j : Nat) (h : j < ss.length) : bxL (sumL n (ss.take j)) (ss.getD j ByteArray.empty).data.toList = sumL n (ss.take (j + 1)) := by
  unfold sumL
  rw [List.take_succ_eq_append_getElem h, List.foldl_append]
  simp [List.getD, h]
theorem allL_at {n : Int} {ss : List ByteArray} (h : allL n ss = true) (j : Nat) (hj : j < ss.length) : ((ss.getD j ByteArray.empty).size : Int) = n := by
  have := List.all_eq_true.1 h (ss[j]) (List.getElem_mem _)
  simpa [List.getD, hj] using this
end
section
/- Contracts of block.Sum (all cases), block.Xor, the law's alive. -/
set_option linter.unusedVariables false
set_option linter.unusedSimpArgs false
open Go.RowKit
/-- May texts be summed? -/
def okS (n : Int) (ss : List ByteArray) : Bool := smb n && allL n ss && decide (ss.length ≤ 64)
def sumS (n : Int) (ss : List ByteArray) : ByteArray := if okS n ss then ⟨(sumL n.toNat ss).toArray⟩ else ⟨#[]⟩
def sumE (n : Int) (ss : List ByteArray) : Int := if okS n ss then 0 else 2
theorem pair_texts (w : World) (t : TypeId) (a b : ByteArray) (ha : a.size ≤ maxLen) (hb : b.size ≤ maxLen) : Texts (w.alloc (.cells #[.string a, .string b] t)) (some ⟨w.heap.size, 0, none⟩) 2 [a, b] := by
  have bx := Box.new w t #[.string a, .string b]
  refine ⟨rfl, fun j => ?_, fun _ => ⟨w.heap.size, 0, rfl, by simp, fun j hj => ?_⟩⟩
  · match j with
    | 0 => exact ha
    | 1 => exact hb
    | j + 2 => simp [List.getD, maxLen]
  · rw [Nat.zero_add, bx.cell j]
    match j, hj with
    | 0, _ => rfl
    | 1, _ => rfl
theorem one_texts (w : World) (t : TypeId) (a : ByteArray) (ha : a.size ≤ maxLen) : Texts (w.alloc (.cells #[.string a] t)) (some ⟨w.heap.size, 0, none⟩) 1 [a] := by
  have bx := Box.new w t #[.string a]
  refine ⟨rfl, fun j => ?_, fun _ => ⟨w.heap.size, 0, rfl, by simp, fun j hj => ?_⟩⟩
  · match j with
    | 0 => exact ha
    | j + 1 => simp [List.getD, maxLen]
  · rw [Nat.zero_add, bx.cell j]
    match j, hj with
    | 0, _ => rfl
end
section
/- Two boxes of rows, stored anew one after the other. No program. -/
set_option linter.unusedVariables false
set_option linter.unusedSimpArgs false
open Go.RowKit
theorem two_rows {x : World} {g1 g2 : Nat} {t : TypeId} {i1 i2 j1 j2 : Int} {S1 S2 T1 T2 : Option Addr} {p1 q1 p2 q2 l1 c1 l2 c2 : Nat}
    (h1 : Box x g1 t #[.int .i64 i1, .slice S1 p1 q1]) (h2 : Box x g2 t #[.int .i64 i2, .slice S2 p2 q2]) (n12 : g1 ≠ g2)
    {w : World} (hb : Below w.heap.size w x) (b1 : w.heap.size ≤ g1) (b2 : w.heap.size ≤ g2)
    {xa bs : List Nat} (u1 : Words x T1 l1 xa) (u2 : Words x T2 l2 bs) :
    let y := (((x.setCell ⟨g1, 0, none⟩ (.int .i64 j1)).setCell ⟨g1, 1, none⟩ (.slice T1 l1 c1)).setCell ⟨g2, 0, none⟩ (.int .i64 j2)).setCell ⟨g2, 1, none⟩ (.slice T2 l2 c2)
    Box y g1 t #[.int .i64 j1, .slice T1 l1 c1] ∧ Box y g2 t #[.int .i64 j2, .slice T2 l2 c2] ∧ Words y T1 l1 xa ∧ Words y T2 l2 bs ∧ Below w.heap.size w y := by
  have k1 : Box ((x.setCell ⟨g1, 0, none⟩ (.int .i64 j1)).setCell ⟨g1, 1, none⟩ (.slice T1 l1 c1)) g1 t #[.int .i64 j1, .slice T1 l1 c1] := h1.put2
  have k2 := (h2.far (p := ⟨g1, 0, none⟩) n12.symm (.int .i64 j1)).far (p := ⟨g1, 1, none⟩) n12.symm (.slice T1 l1 c1)
  have v1 := u1.put2 h1 (.int .i64 j1) (.slice T1 l1 c1)
  have v2 := u2.put2 h1 (.int .i64 j1) (.slice T1 l1 c1)
  exact ⟨(k1.far (p := ⟨g2, 0, none⟩) n12 (.int .i64 j2)).far (p := ⟨g2, 1, none⟩) n12 (.slice T2 l2 c2), k2.put2, v1.put2 k2 _ _, v2.put2 k2 _ _,
    (((hb.setCell (p := ⟨g1, 0, none⟩) b1 _).setCell (p := ⟨g1, 1, none⟩) b1 _).setCell (p := ⟨g2, 0, none⟩) b2 _).setCell (p := ⟨g2, 1, none⟩) b2 _⟩
theorem Ints.drew {w : World} {A : Option Addr} {len : Nat} {zs : List Int} (h : Ints w A len zs) : Ints w.drew A len zs := h
theorem Ints.take {w : World} {A : Option Addr} {len : Nat} {zs : List Int} (h : Ints w A len zs) (k : Nat) (hk : k ≤ len) : Ints w A k (zs.take k) := by
  refine ⟨by simp [h.1]; omega, fun j => ?_, fun hp => ?_⟩
  · by_cases hj : j < k
    · have := h.2.1 j
      simpa [List.getD, List.getElem?_take, hj] using this
    · simp [List.getD, List.getElem?_take, hj]
  · obtain ⟨b, off, rfl, hlt, hc⟩ := h.2.2 (by omega)
    refine ⟨b, off, rfl, hlt, fun j hj => ?_⟩
    rw [hc j (by omega)]
    simp [List.getD, List.getElem?_take, hj]
/-- Ints of a block below keep off boxes above. -/
theorem Ints.put2r {w x : World} {A : Option Addr} {len : Nat} {zs : List Int} {g1 g2 : Nat} {a b c d : Value} (h : Ints x A len zs) (h1 : w.heap.size ≤ g1) (h2 : w.heap.size ≤ g2) (hlow : 0 < len → ∀ p o, A = some ⟨p, o, none⟩ → p < w.heap.size) :
    Ints ((((x.setCell ⟨g1, 0, none⟩ a).setCell ⟨g1, 1, none⟩ b).setCell ⟨g2, 0, none⟩ c).setCell ⟨g2, 1, none⟩ d) A len zs := by
  refine ⟨h.1, h.2.1, fun hp => ?_⟩
  obtain ⟨p, o, rfl, hlt, hc⟩ := h.2.2 hp
  have hl := hlow hp p o rfl
  refine ⟨p, o, rfl, by simpa [World.setCell] using hlt, fun j hj => ?_⟩
  rw [World.cell?_setCell_other _ _ _ _ (by intro e; injection e; omega), World.cell?_setCell_other _ _ _ _ (by intro e; injection e; omega), World.cell?_setCell_other _ _ _ _ (by intro e; injection e; omega), World.cell?_setCell_other _ _ _ _ (by intro e; injection e; omega)]
  exact hc j hj
theorem Ints.low {w : World} {A : Option Addr} {len : Nat} {zs : List Int} (h : Ints w A len zs) : 0 < len → ∀ p o, A = some ⟨p, o, none⟩ → p < w.heap.size := by
  intro hp p o hA
  obtain ⟨p', o', hA', hlt, _⟩ := h.2.2 hp
  rw [hA] at hA'
  injection hA' with hA'
  injection hA' with e1 e2
  omega
end
section
/- Contracts of layer 2's reference: Why, Ones. -/
set_option linter.unusedVariables false
set_option linter.unusedSimpArgs false
open Go.RowKit
def whyE (b : Bool) : Int := if b then 0 else 2
end
section
/- Contract of law 02's few: the first 66 texts, each cut. -/
set_option linter.unusedVariables false
set_option linter.unusedSimpArgs false
open Go.RowKit
theorem string_info : (Tryz.prog.info? 9).map (fun i => (i.zero, i.size, i.bytes)) = some (some (.string ⟨#[]⟩), 1, 16) := by kernel_rfl
theorem own_texts {w : World} {base e n : Nat} {v : Value} {ss : List ByteArray} (h : w.ownsRow base e 1 v n (ss.map Value.string)) (hz : ∀ j, (ss.getD j ByteArray.empty).size ≤ maxLen) : ∃ A c, v = .slice A n c ∧ n ≤ c ∧ c ≤ maxLen ∧ Texts w A n ss := by
  have hl : ss.length = n := by have := h.1; simpa using this
  rcases h.2 with ⟨rfl, h0⟩ | ⟨g, cap, cur, rfl, hb, hh, hn, hm, hs, hx⟩
  · subst h0
    obtain rfl : ss = [] := List.length_eq_zero_iff.1 hl
    exact ⟨none, 0, rfl, Nat.le_refl _, Nat.zero_le _, Texts.nil _ _⟩
  · refine ⟨_, _, rfl, hn, hm, hl, hz, fun hp => ?_⟩
    have hbx : Box w g e cur := hh
    refine ⟨g, 0, rfl, hbx.lt, fun j hj => ?_⟩
    rw [Nat.zero_add, hbx.cell j]
    have e1 : (cur.toList.take (n * 1))[j]? = (ss.map Value.string)[j]? := by rw [hx]
    rw [Nat.mul_one, List.getElem?_take, if_pos hj] at e1
    have hjz : j < ss.length := by omega
    simp only [List.getElem?_map, List.getElem?_eq_getElem hjz, Option.map_some] at e1
    rw [← Array.getElem?_toList, e1]
    simp [List.getD, hjz]
def cuts (ss : List ByteArray) (k : Nat) : List ByteArray := (ss.take k).map cutB
theorem cuts_succ (ss : List ByteArray) (k : Nat) (h : k < ss.length) : cuts ss (k + 1) = cuts ss k ++ [cutB (ss.getD k ByteArray.empty)] := by
  unfold cuts
  rw [List.take_succ_eq_append_getElem h, List.map_append]
  simp [List.getD, h]
theorem cuts_le (ss : List ByteArray) (k j : Nat) : ((cuts ss k).getD j ByteArray.empty).size ≤ maxLen := by
  unfold cuts
  simp only [List.getD, List.getElem?_map]
  cases (ss.take k)[j]? with
  | none => simp [maxLen]
  | some s => have := cutB_size s; simp [maxLen]; omega
/-- A slice of texts is returned. -/
def TextsOut (ss : List ByteArray) (w : World) (e : Ending) (w' : World) : Prop :=
  ∃ A c, e = .returned (.slice A ss.length c) ∧ ss.length ≤ c ∧ c ≤ maxLen ∧ Texts w' A ss.length ss ∧ Below w.heap.size w w'
theorem cuts_all (ss : List ByteArray) (k : Nat) (h : ss.length = k) (h2 : k ≤ 66) : cuts ss k = cuts ss 66 := by
  unfold cuts
  rw [List.take_of_length_le (by omega), List.take_of_length_le (by omega)]
end
section
/- Contract of layer 2's reference: Ones. -/
set_option linter.unusedVariables false
set_option linter.unusedSimpArgs false
open Go.RowKit
theorem int_infoB : (Tryz.prog.info? 3).map (fun i => (i.zero, i.size, i.bytes)) = some (some (.int .i64 0), 1, 8) := by kernel_rfl
def ones (k : Nat) : List Int := List.replicate k 1
theorem ones_succ (k : Nat) : ones (k + 1) = ones k ++ [1] := List.replicate_succ'
theorem ones_lt (k j : Nat) : -9223372036854775808 ≤ (ones k).getD j 0 ∧ (ones k).getD j 0 ≤ 9223372036854775807 := by
  simp only [ones, List.getD, List.getElem?_replicate]
  split <;> simp
/-- A slice of whole numbers is returned. -/
def IntsOut (n : Nat) (zs : List Int) (w : World) (e : Ending) (w' : World) : Prop := ∃ A c, e = .returned (.slice A n c) ∧ Ints w' A n zs ∧ Below w.heap.size w w'
end
section
/- block.Pick: the sum of those blocks that a row names; the reference's Bits. -/
set_option linter.unusedVariables false
set_option linter.unusedSimpArgs false
open Go.RowKit
/-- The texts at some places. -/
def picks (ss : List ByteArray) (ps : List Nat) : List ByteArray := ps.map fun p => ss.getD p ByteArray.empty
theorem picks_snoc (ss : List ByteArray) (ps : List Nat) (i : Nat) (h : i < ps.length) : picks ss (ps.take (i + 1)) = picks ss (ps.take i) ++ [ss.getD (ps.getD i 0) ByteArray.empty] := by
  unfold picks
  rw [List.take_succ_eq_append_getElem h, List.map_append]
  simp [List.getD, h]
theorem picks_le (ss : List ByteArray) (ps : List Nat) (hs : ∀ j, (ss.getD j ByteArray.empty).size ≤ maxLen) (j : Nat) : ((picks ss ps).getD j ByteArray.empty).size ≤ maxLen := by
  by_cases h : j < ps.length
  · have e : (picks ss ps).getD j ByteArray.empty = ss.getD ps[j] ByteArray.empty := by simp [picks, List.getD, h]
    rw [e]; exact hs _
  · have e : (picks ss ps).getD j ByteArray.empty = ByteArray.empty := by simp [picks, List.getD, List.getElem?_eq_none (Nat.le_of_not_lt h)]
    rw [e]; simp [maxLen]
theorem sumE_ok {n : Int} {ss : List ByteArray} (h : okS n ss = true) : sumE n ss = 0 := by simp [sumE, h]
theorem sumE_no {n : Int} {ss : List ByteArray} (h : okS n ss = false) : sumE n ss = 2 := by simp [sumE, h]
theorem okS_at {n : Int} {ss : List ByteArray} (h : okS n ss = true) (j : Nat) (hj : j < ss.length) : ((ss.getD j ByteArray.empty).size : Int) = n := by
  simp only [okS, Bool.and_eq_true] at h
  exact allL_at h.1.2 j hj
theorem okS_picks {n : Int} {ss : List ByteArray} (h : okS n ss = true) (us : List Nat) : okS n (picks ss (plcN us ss.length)) = true := by
  have h' := h
  simp only [okS, Bool.and_eq_true, decide_eq_true_eq] at h' ⊢
  refine ⟨⟨h'.1.1, ?_⟩, ?_⟩
  · unfold allL picks
    rw [List.all_map, List.all_eq_true]
    intro p hp
    have := okS_at h p (plcN_lt us _ hp)
    simpa using this
  · have := plcN_len us ss.length
    simp [picks]; omega
/-- What Pick tells. -/
def PickOut (s : ByteArray) (er : Int) (w : World) (e : Ending) (w' : World) : Prop := e = .returned (.tuple #[.string s, .int .i64 er]) ∧ Below w.heap.size w w'
/-- What Pick tells, whatever comes in. -/
def pickE (n : Int) (ss : List ByteArray) (N : Int) (us : List Nat) : Int := if okS n ss then if rightB N us && N == (ss.length : Int) then 0 else 1 else 2
def pickS (n : Int) (ss : List ByteArray) (N : Int) (us : List Nat) : ByteArray := if okS n ss && (rightB N us && N == (ss.length : Int)) then sumS n (picks ss (plcN us N.toNat)) else ⟨#[]⟩
/-- A row's bits as numbers. -/
def bitsL (us : List Nat) (m : Nat) : List Int := (List.range m).map fun p => ((bitAt us p : Nat) : Int)
theorem bitsL_succ (us : List Nat) (m : Nat) : bitsL us (m + 1) = bitsL us m ++ [((bitAt us m : Nat) : Int)] := by simp [bitsL, List.range_succ]
theorem bitsL_len (us : List Nat) (m : Nat) : (bitsL us m).length = m := by simp [bitsL]
theorem bitsL_get (us : List Nat) (m j : Nat) (h : j < m) : (bitsL us m).getD j 0 = ((bitAt us j : Nat) : Int) := by simp [bitsL, List.getD, h]
theorem bitsL_lt (us : List Nat) (m j : Nat) : -9223372036854775808 ≤ (bitsL us m).getD j 0 ∧ (bitsL us m).getD j 0 ≤ 9223372036854775807 := by
  by_cases h : j < m
  · rw [bitsL_get us m j h]
    rcases bitAt_le us j with e | e <;> rw [e] <;> simp
  · have : (bitsL us m).getD j 0 = 0 := by simp [List.getD, List.getElem?_eq_none (show (bitsL us m).length ≤ j by rw [bitsL_len]; omega)]
    rw [this]; simp
end
section
/- Contract of layer 2's reference: Sum. -/
set_option linter.unusedVariables false
set_option linter.unusedSimpArgs false
open Go.RowKit
/-- Byte i of the sum of those of the first k texts whose bit is 1. -/
def bsum (ss : List ByteArray) (zs : List Int) (i : Nat) : Nat → UInt8
  | 0 => 0
  | k + 1 => if zs.getD k 0 = 1 then bsum ss zs i k ^^^ (ss.getD k ByteArray.empty).data.toList.getD i 0 else bsum ss zs i k
def bsums (ss : List ByteArray) (zs : List Int) (l k : Nat) : List UInt8 := (List.range k).map fun i => bsum ss zs i l
theorem bsums_succ (ss : List ByteArray) (zs : List Int) (l k : Nat) : bsums ss zs l (k + 1) = bsums ss zs l k ++ [bsum ss zs k l] := by
  simp [bsums, List.range_succ]
theorem bsum_ones (n : Nat) (ss : List ByteArray) (l i k : Nat) (hi : i < n) (hk : k ≤ l) (hl : ss.length = l) : bsum ss (ones l) i k = (sumL n (ss.take k)).getD i 0 := by
  induction k with
  | zero => simp [bsum, sumL, List.getD, hi]
  | succ k ih =>
    have h1 : (ones l).getD k 0 = 1 := by simp [ones, List.getD, show k < l by omega]
    have hln : i < (sumL n (ss.take k)).length := by rw [sumL_length]; exact hi
    rw [bsum, if_pos h1, ih (by omega), ← sumL_snoc n ss k (by omega)]
    generalize sumL n (ss.take k) = x at *
    simp [bxL, List.getD, hln]
theorem bsums_ones (n : Nat) (ss : List ByteArray) (l : Nat) (hl : ss.length = l) : bsums ss (ones l) l n = sumL n ss := by
  apply List.ext_getElem
  · simp [bsums, sumL_length]
  · intro i h1 h2
    have hi : i < n := by simpa [bsums] using h1
    have := bsum_ones n ss l i l hi (Nat.le_refl _) hl
    rw [List.take_of_length_le (by omega)] at this
    simp only [bsums, List.getElem_map, List.getElem_range, this]
    simp [List.getD, h2]
theorem uint8_infoB : (Tryz.prog.info? 5).map (fun i => (i.zero, i.size, i.bytes)) = some (some (.int .u8 0), 1, 1) := by kernel_rfl
def byteV (b : UInt8) : Value := .int .u8 (b.toNat : Int)
end
section
/- A law of one's own for a region that draws its order: its first operations are taken while some cells are held (a call that makes memory among them), the last ones, which may write those very cells, come one after the other. No program. -/
set_option linter.unusedVariables false
set_option linter.unusedSimpArgs false
section
variable {P : Program} {ops : Array Oper} {Q : Exit → Act → World → Prop} {md : Region.Mode} {S : World → Prop}
/-- Whatever order the first m operations take, f of them are still to come; behind each S holds; L at the end. -/
def headH (P : Program) (md : Region.Mode) (ops : Array Oper) (Q : Exit → Act → World → Prop) (S : World → Prop) (m : Nat) (L : Array Bool → Act → World → Prop) : Nat → Array Bool → Act → World → Prop
  | 0, listed, a, w => L listed a w
  | f + 1, listed, a, w => Region.ready md ops listed ≠ [] ∧ ∀ i ∈ Region.ready md ops listed, i < m ∧ wpOp P ops Q i (fun a' w' => S w' ∧ headH P md ops Q S m L f (listed.setIfInBounds i true) a' w') a w
theorem any_of_headH {m g : Nat} {L : Array Bool → Act → World → Prop} (hL : ∀ listed a w, L listed a w → wpAny P md ops Q g listed a w) :
    ∀ (f : Nat) (listed : Array Bool) (a : Act) (w : World), headH P md ops Q S m L f listed a w → wpAny P md ops Q (f + g) listed a w
  | 0, listed, a, w, h => by rw [Nat.zero_add]; exact hL _ _ _ h
  | f + 1, listed, a, w, h => by
    rw [show f + 1 + g = (f + g) + 1 by omega]
    exact ⟨fun h0 => absurd h0 h.1, fun i hi => wpOp_mono (fun a' w' h' => any_of_headH hL f _ a' w' h'.2) (h.2 i hi).2⟩
theorem headH_first {m i : Nat} {oi : Oper} {v : Value} {L : Array Bool → Act → World → Prop} (hi : ops[i]? = some oi) (hsel : ∀ (j : Nat) (o : Oper) cs b, ops[j]? = some o → o.op ≠ .select cs b)
    (hw : ∀ listed, HeadInv md ops m listed → ∀ i, i < m → listed.getD i true = false → ∀ t, m ≤ t → t ∉ Region.ready md ops listed) (him : i < m)
    (hQ : ∀ c a w, Q (.panic c) (a.put oi.dst v) w → Q (.panic c) a w) (hdone : ∀ listed a w, L listed a w → ∀ j ∈ Region.ready md ops listed, m ≤ j) :
    ∀ (f : Nat) (listed : Array Bool) (a : Act) (w : World), HeadInv md ops m listed →
      (∀ j oj, ops[j]? = some oj → j ≠ i → listed.getD j true = false → (∀ e ∈ oj.after, Region.binds md e = true → e.on ≠ i) → oi.apart ops oj = true) →
      i ∈ Region.ready md ops listed → YieldsIf P ops S oi v a → S w →
      headH P md ops Q S m L f (listed.setIfInBounds i true) (a.put oi.dst v) w → headH P md ops Q S m L (f + 1) listed a w := by
  intro f
  induction f with
  | zero =>
    intro listed a w inv _ hr hy hS H
    have hun := (mem_ready.1 hr).1
    refine ⟨fun h => (by rw [h] at hr; cases hr), fun j hj => ?_⟩
    have hjm : j < m := by
      rcases Nat.lt_or_ge j m with h | h
      · exact h
      · exact absurd hj (hw listed inv i him hun j h)
    refine ⟨hjm, ?_⟩
    by_cases hji : j = i
    · subst hji; exact hy.wpOp hi hS ⟨hS, H⟩
    · have := hdone _ _ _ H j (ready_mono hj hji)
      omega
  | succ f ih =>
    intro listed a w inv hfree hr hy hS H
    have hun := (mem_ready.1 hr).1
    refine ⟨fun h => (by rw [h] at hr; cases hr), fun j hj => ?_⟩
    have hjm : j < m := by
      rcases Nat.lt_or_ge j m with h | h
      · exact h
      · exact absurd hj (hw listed inv i him hun j h)
    refine ⟨hjm, ?_⟩
    by_cases hji : j = i
    · subst hji; exact hy.wpOp hi hS ⟨hS, H⟩
    · have h1 := (H.2 j (ready_mono hj hji)).2
      obtain ⟨hjun, oj, hoj, hall⟩ := mem_ready.1 hj
      have hnot : ∀ e ∈ oj.after, Region.binds md e = true → e.on ≠ i := fun e he hb heq => by
        have h1 := hall e he hb
        rw [heq, getD_both hun] at h1
        cases h1
      have h2 := wpOp_putIf hoj (hfree j oj hoj hji hjun hnot) (fun cs b => hsel i oi cs b hi) (fun cs b => hsel j oj cs b hoj) hQ hy h1
      have hfree' : ∀ k ok, ops[k]? = some ok → k ≠ i → (listed.setIfInBounds j true).getD k true = false →
          (∀ e ∈ ok.after, Region.binds md e = true → e.on ≠ i) → oi.apart ops ok = true := fun k ok hk hki hun hno => by
        refine hfree k ok hk hki ?_ hno
        by_cases hjk : j = k
        · subst hjk; exact hjun
        · rw [getD_set_ne true hjk] at hun; exact hun
      refine wpOp_mono (fun a' w' h3 => ⟨h3.2.1, ih (listed.setIfInBounds j true) a' w' (inv.set hj hjm) hfree' (ready_mono hr (Ne.symm hji)) h3.1 h3.2.1 ?_⟩) h2
      rw [Array.setIfInBounds_comm _ _ hji]
      exact h3.2.2
/-- What is known of the list while the head goes on, as a Bool for the kernel. -/
def headB (md : Region.Mode) (ops : Array Oper) (m : Nat) (listed : Array Bool) : Bool :=
  (listed.size == ops.size) && ((List.range ops.size).all fun j => match ops[j]? with | some oj => !listed.getD j false || (oj.after.all fun e => !Region.binds md e || listed.getD e.on false) | none => true) && ((List.range ops.size).all fun t => decide (t < m) || !listed.getD t true)
theorem headB_inv {m : Nat} {listed : Array Bool} (h : headB md ops m listed = true) : HeadInv md ops m listed := by
  simp only [headB, Bool.and_eq_true, beq_iff_eq, List.all_eq_true, List.mem_range, Bool.or_eq_true, decide_eq_true_eq, Bool.not_eq_true'] at h
  obtain ⟨⟨h1, h2⟩, h3⟩ := h
  refine ⟨h1, fun j oj hj hl e he hb => ?_, fun t ht ht' => ?_⟩
  · have hlt : j < ops.size := (Array.getElem?_eq_some_iff.1 hj).1
    have := h2 j hlt
    simp only [hj, hl, Bool.not_true, Bool.false_or, Array.all_eq_true'] at this
    have := this e he
    simpa [hb] using this
  · rcases h3 t ht' with h | h
    · omega
    · exact h
/-- Take number i first. -/
theorem headH_take {m i : Nat} {oi : Oper} {v : Value} {f : Nat} {listed : Array Bool} {a : Act} {w : World} {L : Array Bool → Act → World → Prop} (hi : ops[i]? = some oi)
    (hall : (Region.noSelect ops && Region.sinkB md ops m && Region.chainB md ops m && decide (m < ops.size) && decide (i < m) && headB md ops m listed && Region.free md ops listed i && (Region.ready md ops listed).contains i) = true)
    (hQ : ∀ c a w, Q (.panic c) (a.put oi.dst v) w → Q (.panic c) a w) (hdone : ∀ listed a w, L listed a w → ∀ j ∈ Region.ready md ops listed, m ≤ j)
    (hy : YieldsIf P ops S oi v a) (hS : S w) (h : headH P md ops Q S m L f (listed.setIfInBounds i true) (a.put oi.dst v) w) : headH P md ops Q S m L (f + 1) listed a w := by
  simp only [Bool.and_eq_true, decide_eq_true_eq] at hall
  obtain ⟨⟨⟨⟨⟨⟨⟨h1, h2⟩, h3⟩, h4⟩, h5⟩, h6⟩, h7⟩, h8⟩ := hall
  exact headH_first hi (Region.noSelect_spec h1) (fun listed inv i him hun t ht => tail_waits h2 h3 h4 inv _ i rfl him hun t ht) h5 hQ hdone f listed a w (headB_inv h6) (Region.free_spec hi h7) (by simpa using h8) hy hS h
/-- All that come behind the first m wait for each of them. -/
def barB (md : Region.Mode) (ops : Array Oper) (m : Nat) : Bool := (List.range ops.size).all fun t => decide (t < m) || ((List.range m).all fun i => Region.waitsFor md ops t i)
theorem bar_waits {m : Nat} (h : barB md ops m = true) (listed : Array Bool) (i : Nat) (him : i < m) (hun : listed.getD i true = false) (t : Nat) (ht : m ≤ t) : t ∉ Region.ready md ops listed := by
  intro hr
  obtain ⟨_, ot, hot, hall⟩ := mem_ready.1 hr
  have htlt : t < ops.size := (Array.getElem?_eq_some_iff.1 hot).1
  simp only [barB, List.all_eq_true, List.mem_range, Bool.or_eq_true, decide_eq_true_eq] at h
  rcases h t htlt with h1 | h1
  · omega
  · obtain ⟨o', ho', e, he, hb, hon⟩ := Region.waitsFor_spec (h1 i him)
    have : o' = ot := Option.some.inj (ho'.symm.trans hot)
    subst this
    have h2 := hall e he hb
    rw [hon, getD_both hun] at h2
    cases h2
/-- Take number i first, ahead of a bar. -/
theorem headB_take {m i : Nat} {oi : Oper} {v : Value} {f : Nat} {listed : Array Bool} {a : Act} {w : World} {L : Array Bool → Act → World → Prop} (hi : ops[i]? = some oi)
    (hall : (Region.noSelect ops && barB md ops m && decide (i < m) && headB md ops m listed && Region.free md ops listed i && (Region.ready md ops listed).contains i) = true)
    (hQ : ∀ c a w, Q (.panic c) (a.put oi.dst v) w → Q (.panic c) a w) (hdone : ∀ listed a w, L listed a w → ∀ j ∈ Region.ready md ops listed, m ≤ j)
    (hy : YieldsIf P ops S oi v a) (hS : S w) (h : headH P md ops Q S m L f (listed.setIfInBounds i true) (a.put oi.dst v) w) : headH P md ops Q S m L (f + 1) listed a w := by
  simp only [Bool.and_eq_true, decide_eq_true_eq] at hall
  obtain ⟨⟨⟨⟨⟨h1, h2⟩, h5⟩, h6⟩, h7⟩, h8⟩ := hall
  exact headH_first hi (Region.noSelect_spec h1) (fun listed _ i him hun t ht => bar_waits h2 listed i him hun t ht) h5 hQ hdone f listed a w (headB_inv h6) (Region.free_spec hi h7) (by simpa using h8) hy hS h
/-- Have the first m come up? -/
def passedB (m : Nat) (listed : Array Bool) : Bool := (List.range m).all fun i => listed.getD i false
theorem passed_ready {m : Nat} {listed : Array Bool} (h : passedB m listed = true) : ∀ j ∈ Region.ready md ops listed, m ≤ j := by
  intro j hj
  obtain ⟨hun, oj, hoj, -⟩ := mem_ready.1 hj
  refine Nat.le_of_not_lt fun hlt => ?_
  have := List.all_eq_true.1 h j (List.mem_range.2 hlt)
  rw [getD_both hun] at this
  cases this
/-- THE BEGINNING, ahead of a bar: what comes behind it goes in whatever order. -/
theorem wp_held_bar {id : Nat} {a : Act} {w : World} {l : List Oper} (m : Nat) (hmx : P.follows .mixedOrders = true) (hm : m ≤ l.length)
    (h : headH P .any l.toArray Q S m (fun listed a w => passedB m listed = true ∧ wpAny P .any l.toArray Q (l.length - m) listed a w) m (Array.replicate l.toArray.size false) a w.drew) : (Code.region id l.toArray true).wp P Q a w := by
  refine wp_region_any hmx ?_
  have := any_of_headH (g := l.length - m) (fun listed a' w' hL => hL.2) _ _ _ _ h
  rw [show m + (l.length - m) = l.toArray.size by simp; omega] at this
  exact this
/-- Only number i may come up: behind it S is to be shown anew. -/
theorem headH_one {m i : Nat} {o : Oper} {f : Nat} {listed : Array Bool} {a : Act} {w : World} {L : Array Bool → Act → World → Prop} (hr : (Region.ready md ops listed == [i] && decide (i < m)) = true) (ho : ops[i]? = some o)
    (h : ∀ K' : Act → World → Prop, Shut (∀ a w, S w → (S w → headH P md ops Q S m L f (listed.setIfInBounds i true) a w) → K' a w) → if Region.wanted o (yielded ops a.tmps) = true then Oper.wp P o a w K' Q else K' (a.put o.dst undef) w) : headH P md ops Q S m L (f + 1) listed a w := by
  simp only [Bool.and_eq_true, beq_iff_eq, decide_eq_true_eq] at hr
  refine ⟨by rw [hr.1]; simp, fun j hj => ?_⟩
  rw [hr.1] at hj
  have hji : j = i := by simpa using hj
  subst hji
  exact ⟨hr.2, wpOp_step ho (fun K' hK => h K' (fun a w hS hW => hK a w ⟨hS, hW hS⟩))⟩
/-- THE BEGINNING: the first m operations so, the rest in their order. -/
theorem wp_held_tail {id : Nat} {a : Act} {w : World} {l : List Oper} (m : Nat) (hmx : P.follows .mixedOrders = true) (hm : m ≤ l.length)
    (h : headH P .any l.toArray Q S m (fun listed a w => Region.seqB .any l.toArray (l.length - m) m listed = true ∧ wpList P l.toArray Q (l.drop m) a w) m (Array.replicate l.toArray.size false) a w.drew) : (Code.region id l.toArray true).wp P Q a w := by
  refine wp_region_any hmx ?_
  have := any_of_headH (g := l.length - m) (fun listed a' w' hL => by
    have hdl : (l.drop m).length = l.length - m := by simp
    have := wpAny_of_seq (md := .any) (Q' := Q) (l.drop m) m listed a' w' (fun j => by simp [List.getElem?_drop]) (by rw [hdl]; exact hL.1) hL.2
    rwa [hdl] at this) _ _ _ _ h
  rw [show m + (l.length - m) = l.toArray.size by simp; omega] at this
  exact this
theorem seq_done {l : List Oper} {g m : Nat} {R : Array Bool → Act → World → Prop} (listed : Array Bool) (a : Act) (w : World) (h : Region.seqB md l.toArray g m listed = true ∧ R listed a w) : ∀ j ∈ Region.ready md l.toArray listed, m ≤ j := seqB_ready h.1
end
end
section
/- BlockPicks: the walk. -/
set_option linter.unusedVariables false
set_option linter.unusedSimpArgs false
open Go.RowKit
theorem sumL_snoc1 (n : Nat) (L : List ByteArray) (s : ByteArray) : sumL n (L ++ [s]) = bxL (sumL n L) s.data.toList := by simp [sumL]
theorem bxL_get (l t : List UInt8) (i : Nat) (h : i < l.length) : (bxL l t).getD i 0 = l.getD i 0 ^^^ t.getD i 0 := by simp [bxL, List.getD, h]
theorem bsum_bits (n : Nat) (ss : List ByteArray) (us : List Nat) (N i k : Nat) (hi : i < n) (hk : k ≤ N) : bsum ss (bitsL us N) i k = (sumL n (picks ss (plcN us k))).getD i 0 := by
  induction k with
  | zero => simp [bsum, plcN, picks, sumL, List.getD, hi]
  | succ k ih =>
    have ih := ih (by omega)
    have hb := bitsL_get us N k (by omega)
    rw [plcN_succ]
    simp only [bsum]
    rw [hb]
    rcases bitAt_le us k with h | h
    · rw [h, if_neg (by omega)]
      simpa using ih
    · rw [h, if_pos rfl, if_pos (by decide), show picks ss (plcN us k ++ [k]) = picks ss (plcN us k) ++ [ss.getD k ByteArray.empty] by simp [picks], sumL_snoc1, bxL_get _ _ _ (by rw [sumL_length]; exact hi), ih]
theorem bsums_bits (n : Nat) (ss : List ByteArray) (us : List Nat) (N : Nat) : bsums ss (bitsL us N) N n = sumL n (picks ss (plcN us N)) := by
  apply List.ext_getElem
  · simp [bsums, sumL_length]
  · intro i h1 h2
    have hi : i < n := by simpa [bsums] using h1
    have := bsum_bits n ss us N i N hi (Nat.le_refl _)
    simp only [bsums, List.getElem_map, List.getElem_range, this]
    simp [List.getD, h2]
theorem Texts.far {w : World} {A : Option Addr} {len : Nat} {ss : List ByteArray} {g : Nat} {t : TypeId} {x : Int} {S : Option Addr} {p q : Nat} (h : Texts w A len ss) (hb : Box w g t #[.int .i64 x, .slice S p q]) (i : Nat) (u : Value) : Texts (w.setCell ⟨g, i, none⟩ u) A len ss := by
  refine ⟨h.1, h.2.1, fun hp => ?_⟩
  obtain ⟨b, off, rfl, hlt, hc⟩ := h.2.2 hp
  have hne : b ≠ g := by
    intro e
    subst e
    have c := hc 0 hp
    rw [hb.cell] at c
    match off, c with
    | 0, c => simp at c
    | 1, c => simp at c
    | k + 2, c => simp at c
  refine ⟨b, off, rfl, by simpa [World.setCell] using hlt, fun j hj => ?_⟩
  rw [World.cell?_setCell_other _ _ _ _ (by intro e; injection e; omega)]
  exact hc j hj
theorem Texts.drewT {w : World} {A : Option Addr} {len : Nat} {ss : List ByteArray} (h : Texts w A len ss) : Texts w.drew A len ss := h
theorem strB_ne (l : List UInt8) (h : l ≠ []) : True := trivial
end
section
/- The reference's Texts: two rows of texts that are the same. -/
set_option linter.unusedVariables false
set_option linter.unusedSimpArgs false
open Go.RowKit
set_option maxHeartbeats 1000000 in
theorem refTexts_same (A B : Option Addr) (l c d : Nat) (ss : List ByteArray) (w : World) (hu : Texts w A l ss) (hv : Texts w B l ss) (hl : l ≤ 1000000) :
    Calls Tryz.prog 13 #[.slice A l c, .slice B l d] w fun e w' => e = .returned (.bool true) ∧ Below w.heap.size w w' := by
  have HU := Lib.hid hu
  have HV := Lib.hid hv
  clear hu hv
  have t2 : ((l : Int) != (l : Int)) = false := by simp
  go_enter Tryz.func13, Tryz.ntmps13
  go_wp2_with fail
  clear t2
  go_loopw [13] (fun i wr => ∃ j : Nat, j ≤ l ∧ i = .int .i64 j ∧ Below w.heap.size w wr) (fun i _ => l - (intOf i).toNat)
  case atStart => exact ⟨0, by omega, rfl, Below.refl _ _⟩
  case round =>
    obtain ⟨j, hj, rfl, hbel⟩ := hrel
    have HB := Lib.hid hbel
    clear hbel
    by_cases hlt : j < l
    · obtain ⟨p, o, rfl, lt1, hc1⟩ := HU.out.2.2 (by omega)
      obtain ⟨p2, o2, rfl, lt2, hc2⟩ := HV.out.2.2 (by omega)
      have cu := (HB.out.cell (p := ⟨p, o + j, none⟩) lt1).trans (hc1 j hlt)
      have cv := (HB.out.cell (p := ⟨p2, o2 + j, none⟩) lt2).trans (hc2 j hlt)
      generalize ss.getD j ByteArray.empty = s at *
      clear hc1 hc2
      have hlt' : (j : Int) < (l : Int) := by omega
      have hj0 : (0 : Int) ≤ (j : Int) := by omega
      go_wp2
      go_quiet (fail)
      go_wp2_with fail
      go_roundw
      case rel => exact ⟨j + 1, by omega, by go_num, bdN HB.out _⟩
      case measure => simp [intOf]; omega
    · obtain rfl : j = l := by omega
      go_wp2
      go_ret
      exact ⟨rfl, HB.out⟩
end
section
/- Contracts of layer 3: Apply, the reference's Apply; law 03's blocks; the reference's Texts. -/
set_option linter.unusedVariables false
set_option linter.unusedSimpArgs false
open Go.RowKit
theorem sumS_size (n : Int) (ss : List ByteArray) : (sumS n ss).size ≤ 64 := by
  unfold sumS
  split
  · rename_i h
    simp only [okS, Bool.and_eq_true] at h
    have := (smb_iff n).1 h.1.1
    show (sumL n.toNat ss).toArray.size ≤ 64
    rw [List.size_toArray, sumL_length]; omega
  · exact Nat.zero_le _
theorem pickS_size (n : Int) (ss : List ByteArray) (N : Int) (us : List Nat) : (pickS n ss N us).size ≤ 64 := by
  unfold pickS
  split
  · exact sumS_size _ _
  · exact Nat.zero_le _
/-- What Apply tells. -/
def appB (n N : Int) (ms : List (Int × List Nat)) (ss : List ByteArray) : Bool := rightM N ms && (okS n ss && (ss.length : Int) == N)
def appE (n N : Int) (ms : List (Int × List Nat)) (ss : List ByteArray) : Int := if rightM N ms then if okS n ss then if (ss.length : Int) == N then 0 else 2 else 2 else 1
def appF (n N : Int) (ms : List (Int × List Nat)) (ss : List ByteArray) (i : Nat) : ByteArray := pickS n ss N (ms.getD i (0, [])).2
def appR (n N : Int) (ms : List (Int × List Nat)) (ss : List ByteArray) : List ByteArray := (List.range ms.length).map (appF n N ms ss)
def appL (n N : Int) (ms : List (Int × List Nat)) (ss : List ByteArray) : List ByteArray := if appB n N ms ss then appR n N ms ss else []
theorem appR_len (n N : Int) (ms : List (Int × List Nat)) (ss : List ByteArray) : (appR n N ms ss).length = ms.length := by simp [appR]
theorem appR_at (n N : Int) (ms : List (Int × List Nat)) (ss : List ByteArray) (i : Nat) (h : i < ms.length) : (appR n N ms ss).getD i ByteArray.empty = appF n N ms ss i := by simp [appR, List.getD, h]
theorem appR_le (n N : Int) (ms : List (Int × List Nat)) (ss : List ByteArray) (i : Nat) : ((appR n N ms ss).getD i ByteArray.empty).size ≤ maxLen := by
  by_cases h : i < ms.length
  · rw [appR_at n N ms ss i h]
    have := pickS_size n ss N (ms.getD i (0, [])).2
    unfold appF maxLen; omega
  · have e : (appR n N ms ss)[i]? = none := List.getElem?_eq_none (by rw [appR_len]; omega)
    simp [List.getD, e, maxLen]
/-- Texts as cells. -/
def strCells (ss : List ByteArray) : Array Value := (ss.map Value.string).toArray
theorem strCells_get (ss : List ByteArray) (j : Nat) (h : j < ss.length) : (strCells ss)[j]? = some (.string (ss.getD j ByteArray.empty)) := by simp [strCells, List.getD, h]
theorem strCells_set (ss : List ByteArray) (k : Nat) (s : ByteArray) : (strCells ss).setIfInBounds k (.string s) = strCells (ss.set k s) := by simp [strCells, List.map_set]
theorem makeStr_any (n : Nat) (hn : n ≤ 1000000) (w : World) :
    (Instr.makeSlice 32 (.int .i64 (n : Int)) (.int .i64 (n : Int))).run Tryz.prog w = .ok (.slice (some ⟨w.heap.size, 0, none⟩) n n) (w.alloc (.cells (strCells (List.replicate n ⟨#[]⟩)) 9)) := by
  obtain ⟨i0, hi, hz0, hz1, hz2⟩ := info_parts string_info
  have hr := run_make (P := Tryz.prog) w _ _ i0 _ Tryz.underlying32 hi hz0 .i64 .i64 n n (by omega) (by omega) (by rw [hz2]; omega) (by omega)
  simp only [Int.toNat_natCast, hz1, Nat.mul_one] at hr
  rw [hr]
  have : madeCells (Value.string ⟨#[]⟩).cells n = strCells (List.replicate n ⟨#[]⟩) := by
    apply Array.toList_inj.1
    have := toList_madeCells_one (Value.string ⟨#[]⟩) n
    simpa [Value.cells, strCells] using this
  rw [this]
theorem Box.texts {w : World} {g : Nat} {t : TypeId} {ss : List ByteArray} (h : Box w g t (strCells ss)) (hz : ∀ j, (ss.getD j ByteArray.empty).size ≤ maxLen) : Texts w (some ⟨g, 0, none⟩) ss.length ss :=
  ⟨rfl, hz, fun _ => ⟨g, 0, rfl, h.lt, fun j hj => by rw [Nat.zero_add, h.cell j, strCells_get ss j hj]⟩⟩
/-- What Apply hands back. -/
def AppOut (ls : List ByteArray) (er : Int) (w : World) (e : Ending) (w' : World) : Prop :=
  ∃ A c, e = .returned (.tuple #[.slice A ls.length c, .int .i64 er]) ∧ ls.length ≤ c ∧ c ≤ maxLen ∧ Texts w' A ls.length ls ∧ Below w.heap.size w w'
end
section
/- Sums of blocks do not hang on order; what stands there twice is out of it; what two rows' Xor picks. No program. -/
set_option linter.unusedVariables false
set_option linter.unusedSimpArgs false
/-- Byte i of a sum. -/
def xorAt (i : Nat) : List ByteArray → UInt8
  | [] => 0
  | s :: L => s.data.toList.getD i 0 ^^^ xorAt i L
theorem xorAt_append (i : Nat) (A B : List ByteArray) : xorAt i (A ++ B) = xorAt i A ^^^ xorAt i B := by
  induction A with
  | nil => simp [xorAt]
  | cons a A ih => simp only [List.cons_append, xorAt, ih, UInt8.xor_assoc]
theorem foldl_at (n i : Nat) (L : List ByteArray) : ∀ acc : List UInt8, acc.length = n → i < n → (L.foldl (fun acc s => bxL acc s.data.toList) acc).getD i 0 = acc.getD i 0 ^^^ xorAt i L := by
  induction L with
  | nil => intro acc _ _; simp [xorAt]
  | cons s L ih =>
    intro acc hl hi
    rw [List.foldl_cons, ih _ (by rw [xorL_length, hl]) hi, bxL_get _ _ _ (by omega), xorAt, UInt8.xor_assoc]
theorem sumL_at (n i : Nat) (L : List ByteArray) (hi : i < n) : (sumL n L).getD i 0 = xorAt i L := by
  unfold sumL
  rw [foldl_at n i L _ (by simp) hi]
  simp [List.getD, hi]
theorem sumL_ext (n : Nat) (A B : List ByteArray) (h : ∀ i, i < n → xorAt i A = xorAt i B) : sumL n A = sumL n B := by
  apply List.ext_getElem (by rw [sumL_length, sumL_length])
  intro i h1 h2
  have hi : i < n := by rwa [sumL_length] at h1
  have e1 := sumL_at n i A hi
  have e2 := sumL_at n i B hi
  simp only [List.getD, List.getElem?_eq_getElem h1, List.getElem?_eq_getElem h2, Option.getD_some] at e1 e2
  rw [e1, e2, h i hi]
theorem sum_turned (n k : Nat) (L : List ByteArray) : sumL n (L.drop k ++ L.take k) = sumL n L := by
  refine sumL_ext n _ _ fun i _ => ?_
  rw [xorAt_append, UInt8.xor_comm, ← xorAt_append, List.take_append_drop]
theorem sum_twice (n : Nat) (s : ByteArray) (L : List ByteArray) : sumL n (s :: s :: L) = sumL n L := by
  refine sumL_ext n _ _ fun i _ => ?_
  simp only [xorAt]
  rw [← UInt8.xor_assoc, UInt8.xor_self, UInt8.zero_xor]
theorem xorAt_picks (i : Nat) (ss : List ByteArray) (us vs : List Nat) (hl : us.length = vs.length) (m : Nat) (hm : m ≤ 64 * us.length) :
    xorAt i (picks ss (plcN (xorL us vs) m)) = xorAt i (picks ss (plcN us m)) ^^^ xorAt i (picks ss (plcN vs m)) := by
  induction m with
  | zero => simp [plcN, picks, xorAt]
  | succ m ih =>
    have ih := ih (by omega)
    have hx : (bitAt (xorL us vs) m == 1) = _ := zip_bit (· ^^^ ·) us vs m (by omega) (by omega)
    rw [Nat.testBit_xor, ← bitAt_test, ← bitAt_test] at hx
    have hp : ∀ (ps : List Nat) (b : List Nat), picks ss (ps ++ b) = picks ss ps ++ picks ss b := fun ps b => by simp [picks]
    rw [plcN_succ, plcN_succ, plcN_succ, hp, hp, hp, xorAt_append, xorAt_append, xorAt_append, ih]
    generalize xorAt i (picks ss (plcN us m)) = x
    generalize xorAt i (picks ss (plcN vs m)) = y
    have e1 : xorAt i (picks ss [m]) = (ss.getD m ByteArray.empty).data.toList.getD i 0 := by simp [picks, xorAt]
    have e0 : xorAt i (picks ss []) = 0 := by simp [picks, xorAt]
    rcases bitAt_le us m with b1 | b1 <;> rcases bitAt_le vs m with b2 | b2 <;> rcases bitAt_le (xorL us vs) m with b3 | b3 <;> simp [b1, b2, b3] at hx
    · simp only [b1, b2, b3, e0, if_false, Nat.zero_ne_one, UInt8.xor_zero]
    · simp only [b1, b2, b3, e0, e1, if_false, if_true, Nat.zero_ne_one, UInt8.xor_zero, UInt8.xor_assoc]
    · simp only [b1, b2, b3, e0, e1, if_false, if_true, Nat.zero_ne_one, UInt8.xor_zero]
      generalize (ss.getD m ByteArray.empty).data.toList.getD i 0 = z
      rw [UInt8.xor_assoc, UInt8.xor_assoc, UInt8.xor_comm y z]
    · simp only [b1, b2, b3, e0, e1, if_false, if_true, Nat.zero_ne_one, UInt8.xor_zero]
      generalize (ss.getD m ByteArray.empty).data.toList.getD i 0 = z
      rw [UInt8.xor_assoc x z, ← UInt8.xor_assoc z y z, UInt8.xor_comm z y, UInt8.xor_assoc y z z, UInt8.xor_self, UInt8.xor_zero]
/-- The xor of two picks is the pick of the rows' Xor. -/
theorem sum_both (n : Nat) (ss : List ByteArray) (us vs : List Nat) (hl : us.length = vs.length) (m : Nat) (hm : m ≤ 64 * us.length) :
    sumL n [⟨(sumL n (picks ss (plcN us m))).toArray⟩, ⟨(sumL n (picks ss (plcN vs m))).toArray⟩] = sumL n (picks ss (plcN (xorL us vs) m)) := by
  refine sumL_ext n _ _ fun i hi => ?_
  rw [xorAt_picks i ss us vs hl m hm]
  simp only [xorAt]
  rw [UInt8.xor_zero]
  have e1 := sumL_at n i (picks ss (plcN us m)) hi
  have e2 := sumL_at n i (picks ss (plcN vs m)) hi
  rw [← e1, ← e2]
end
section
/- Mathematics of matrices turned, multiplied and applied. -/
set_option linter.unusedVariables false
set_option linter.unusedSimpArgs false
theorem ofBits_has (n : Nat) (l : List Nat) (p : Nat) (hp : p / 64 < nw n) : bitAt (ofBits n (castP l)) p = 1 ↔ p ∈ l := by
  have h : (bitAt (ofBits n (castP l)) p == 1) = (castP l).any fun q => q.toNat / 64 == p / 64 && q.toNat % 64 == p % 64 := by
    rw [bitAt_test, ofBits_test n _ _ _ hp]
  rw [← beq_iff_eq, h, List.any_eq_true]
  constructor
  · rintro ⟨q, hq, e⟩
    obtain ⟨r, hr, rfl⟩ := List.mem_map.1 hq
    simp only [Bool.and_eq_true, beq_iff_eq, Int.toNat_natCast] at e
    obtain rfl : r = p := by omega
    exact hr
  · intro hpl
    exact ⟨(p : Int), List.mem_map.2 ⟨p, hpl, rfl⟩, by simp⟩
theorem right_ofBits (n : Nat) (l : List Nat) (hl : ∀ p ∈ l, p < n) (hn : lmb (n : Int) = true) : rightB (n : Int) (ofBits n (castP l)) = true := by
  refine right_of_bits n _ _ hn rfl (ofBits_len n _) (ofBits_lt n _) fun i h1 h2 => ?_
  rw [ofBits_len] at h2
  rcases bitAt_le (ofBits n (castP l)) i with h | h
  · exact h
  · have := hl i ((ofBits_has n l i (by omega)).1 h)
    omega
theorem bit_iff {x y : Nat} (hx : x = 0 ∨ x = 1) (hy : y = 0 ∨ y = 1) (h : x = 1 ↔ y = 1) : x = y := by
  rcases hx with h1 | h1 <;> rcases hy with h2 | h2 <;> simp [h1, h2] at h ⊢
theorem colP_mem (ms : List (Int × List Nat)) (i k p : Nat) : p ∈ colP ms i k ↔ p < k ∧ mbit ms p i = 1 := by simp [colP]
theorem colW_bit (ms : List (Int × List Nat)) (i j : Nat) (hj : j < ms.length) : bitAt (colW ms i) j = mbit ms j i := by
  refine bit_iff (bitAt_le _ _) (mbit_le _ _ _) ?_
  unfold colW
  rw [ofBits_has _ _ _ (by unfold nw; omega), colP_mem]
  exact ⟨fun h => h.2, fun h => ⟨hj, h⟩⟩
theorem colW_right (ms : List (Int × List Nat)) (i : Nat) (h : ms.length ≤ 64) : rightB (ms.length : Int) (colW ms i) = true :=
  right_ofBits _ _ (fun _ hp => colP_lt hp) ((lmb_iff _).2 ⟨by omega, by omega⟩)
theorem turnM_lenM (n : Nat) (ms : List (Int × List Nat)) : (turnM n ms).length = n := by simp [turnM]
theorem turnM_at (n : Nat) (ms : List (Int × List Nat)) (i : Nat) (h : i < n) : (turnM n ms).getD i (0, []) = ((ms.length : Int), colW ms i) := by simp [turnM, List.getD, h]
theorem rightM_of {N : Nat} {ms : List (Int × List Nat)} (hN : N ≤ 64) (hl : ms.length ≤ 64) (h : ∀ i, i < ms.length → (ms.getD i (0, [])).1 = N ∧ rightB N (ms.getD i (0, [])).2 = true) : rightM N ms = true := by
  simp only [rightM, Bool.and_eq_true, decide_eq_true_eq]
  refine ⟨⟨(smb_iff N).2 ⟨by omega, by omega⟩, hl⟩, ?_⟩
  unfold rowsB
  rw [List.all_eq_true]
  intro r hr
  obtain ⟨i, hi, rfl⟩ := List.mem_iff_getElem.1 hr
  have := h i hi
  rw [show ms.getD i (0, []) = ms[i] by simp [List.getD, hi]] at this
  rw [this.1, this.2]; simp
theorem turnM_right (n : Nat) (ms : List (Int × List Nat)) (hn : n ≤ 64) (h : ms.length ≤ 64) : rightM ms.length (turnM n ms) = true := by
  refine rightM_of h (by rw [turnM_lenM]; exact hn) fun i hi => ?_
  rw [turnM_lenM] at hi
  rw [turnM_at n ms i hi]
  exact ⟨rfl, colW_right ms i h⟩
theorem mat_ext {ms ks : List (Int × List Nat)} (hl : ms.length = ks.length) (h : ∀ i, i < ms.length → ms.getD i (0, []) = ks.getD i (0, [])) : ms = ks := by
  apply List.ext_getElem hl
  intro i h1 h2
  have := h i h1
  simpa [List.getD, h1, h2] using this
theorem turnM_ltM (n : Nat) (ms : List (Int × List Nat)) (i j : Nat) : (((turnM n ms).getD i (0, [])).2).getD j 0 < 18446744073709551616 := by
  by_cases h : i < n
  · rw [turnM_at n ms i h]; exact ofBits_lt _ _ j
  · have e : (turnM n ms)[i]? = none := List.getElem?_eq_none (by rw [turnM_lenM]; omega)
    simp [List.getD, e]
theorem turn_turn {n : Nat} {ms : List (Int × List Nat)} (hr : rightM n ms = true) (hz : ∀ i j, ((ms.getD i (0, [])).2).getD j 0 < 18446744073709551616) : turnM ms.length (turnM n ms) = ms := by
  have hbd := rightM_bd hr
  refine mat_ext (turnM_lenM _ _) fun j hj => ?_
  rw [turnM_lenM] at hj
  rw [turnM_at _ _ j hj]
  obtain ⟨h1, h2⟩ := rightM_at hr j hj
  have hlen := turnM_lenM n ms
  have : colW (turnM n ms) j = (ms.getD j (0, [])).2 := by
    have hcr := colW_right (turnM n ms) j (by rw [hlen]; omega)
    rw [hlen] at hcr
    refine right_ext hcr h2 (fun i => ofBits_lt _ _ i) (hz j) fun i hi => ?_
    rw [colW_bit _ _ _ (by rw [hlen]; exact hi)]
    show bitAt ((turnM n ms).getD i (0, [])).2 j = _
    rw [turnM_at n ms i hi]
    exact colW_bit ms i j hj
  rw [this, hlen, ← h1]
theorem oneL_atM (n i : Nat) (h : i < n) : (oneL n).getD i (0, []) = ((n : Int), ofBits n [(i : Int)]) := by simp [oneL, List.getD, h]
theorem one_right (n : Nat) (hn : n ≤ 64) : rightM n (oneL n) = true := by
  refine rightM_of hn (by rw [oneL_len]; exact hn) fun i hi => ?_
  rw [oneL_len] at hi
  rw [oneL_atM n i hi]
  exact ⟨rfl, right_ofBits n [i] (by simp; exact hi) ((lmb_iff n).2 ⟨by omega, by omega⟩)⟩
theorem one_bit (n k i : Nat) (hk : k < n) (hi : i < n) : mbit (oneL n) k i = if k = i then 1 else 0 := by
  have e : mbit (oneL n) k i = bitAt (ofBits n (castP [k])) i := by
    unfold mbit; rw [oneL_atM n k hk]; rfl
  rw [e]
  refine bit_iff (bitAt_le _ _) (by split <;> simp) ?_
  rw [ofBits_has _ _ _ (by unfold nw; omega)]
  by_cases h : k = i
  · simp [h]
  · simp [h]; omega
theorem psum_one (n : Nat) (us : List Nat) (i : Nat) (hi : i < n) : ∀ k, k ≤ n → psum us (oneL n) i k = if i < k then bitAt us i else 0
  | 0, _ => by simp [psum]
  | k + 1, hk => by
    simp only [psum]
    rw [psum_one n us i hi k (by omega), one_bit n k i (by omega) hi]
    by_cases h : k = i
    · subst h
      simp
    · by_cases h2 : i < k
      · simp [h, h2, show i < k + 1 by omega]
      · simp [h, h2, show ¬ i < k + 1 by omega]
theorem mul_one {n : Nat} {ms : List (Int × List Nat)} (hr : rightM n ms = true) (hz : ∀ i j, ((ms.getD i (0, [])).2).getD j 0 < 18446744073709551616) : mulM n (oneL n) ms = ms := by
  have hbd := rightM_bd hr
  refine mat_ext (mulM_len _ _ _) fun j hj => ?_
  rw [mulM_len] at hj
  rw [mulM_at _ _ _ j hj]
  obtain ⟨h1, h2⟩ := rightM_at hr j hj
  have h1r := one_right n (by omega)
  have : mulW n (oneL n) (ms.getD j (0, [])).2 = (ms.getD j (0, [])).2 := by
    refine right_ext (mulW_right h1r _) h2 (mulW_lt n (oneL_lt n) _) (hz j) fun i hi => ?_
    rw [mulW_bit h1r _ i hi, oneL_len, psum_one n _ i hi n (Nat.le_refl _), if_pos hi]
    rcases bitAt_le (ms.getD j (0, [])).2 i with h | h <;> rw [h]
  rw [this, ← h1]
theorem mulM_right {m : Nat} {ks : List (Int × List Nat)} (hr : rightM m ks = true) (ms : List (Int × List Nat)) (hl : ms.length ≤ 64) : rightM m (mulM m ks ms) = true := by
  have hbd := rightM_bd hr
  refine rightM_of (by omega) (by rw [mulM_len]; exact hl) fun i hi => ?_
  rw [mulM_len] at hi
  rw [mulM_at _ _ _ i hi]
  exact ⟨rfl, mulW_right hr _⟩
theorem psum_swap (us vs : List Nat) (ms ks : List (Int × List Nat)) (i j : Nat) (K : Nat) (h : ∀ t, t < K → bitAt us t * mbit ks t j = bitAt vs t * mbit ms t i) : psum us ks j K = psum vs ms i K := by
  induction K with
  | zero => rfl
  | succ K ih =>
    simp only [psum]
    rw [ih fun t ht => h t (by omega), h K (by omega)]
theorem mul_turn {n m : Nat} {ms ks : List (Int × List Nat)} (hr : rightM n ms = true) (hr2 : rightM m ks = true) (hn : n = ks.length) (hz2 : ∀ i j, ((ks.getD i (0, [])).2).getD j 0 < 18446744073709551616) :
    turnM m (mulM m ks ms) = mulM ms.length (turnM n ms) (turnM m ks) := by
  have hbd := rightM_bd hr
  have hbd2 := rightM_bd hr2
  refine mat_ext (by rw [turnM_lenM, mulM_len, turnM_lenM]) fun j hj => ?_
  rw [turnM_lenM] at hj
  rw [turnM_at _ _ j hj, mulM_at _ _ _ j (by rw [turnM_lenM]; exact hj), turnM_at m ks j hj, mulM_len]
  have htr := turnM_right n ms (by omega) hbd.2.2
  have hml := mulM_len m ks ms
  congr 1
  have hcr := colW_right (mulM m ks ms) j (by rw [hml]; exact hbd.2.2)
  rw [hml] at hcr
  refine right_ext hcr (mulW_right htr _) (fun i => ofBits_lt _ _ i) (mulW_lt _ (turnM_ltM n ms) _) fun i hi => ?_
  rw [colW_bit _ _ _ (by rw [hml]; exact hi), mulW_bit htr _ i hi, turnM_lenM]
  show bitAt ((mulM m ks ms).getD i (0, [])).2 j = _
  rw [mulM_at _ _ _ i hi, mulW_bit hr2 _ j hj, ← hn]
  congr 1
  refine psum_swap _ _ _ _ _ _ _ fun t ht => ?_
  rw [colW_bit ks j t (by omega)]
  have : mbit (turnM n ms) t i = bitAt (ms.getD i (0, [])).2 t := by
    show bitAt ((turnM n ms).getD t (0, [])).2 i = _
    rw [turnM_at n ms t ht]
    exact colW_bit ms t i hi
  rw [this, Nat.mul_comm]
theorem plcN_zeros (n m : Nat) : plcN (List.replicate n 0) m = [] := by
  unfold plcN
  rw [List.filter_eq_nil_iff]
  intro p _
  rw [bitAt_zeros]; simp
theorem xorAt_rows {n m b : Nat} {ks : List (Int × List Nat)} {ss x : List ByteArray} (hr : rightM m ks = true) (hx : ∀ p, p < ks.length → (x.getD p ByteArray.empty).data.toList.getD b 0 = xorAt b (picks ss (plcN (ks.getD p (0, [])).2 m))) (ps : List Nat) (hp : ∀ p ∈ ps, p < ks.length) (acc : List Nat) (ha : rightB (m : Int) acc = true) :
    xorAt b (picks ss (plcN (xrowsF ks acc ps) m)) = xorAt b (picks ss (plcN acc m)) ^^^ xorAt b (picks x ps) := by
  induction ps generalizing acc with
  | nil => simp [xrowsF, picks, xorAt]
  | cons p ps ih =>
    have hp0 := (rightM_at hr p (hp p (List.mem_cons_self ..))).2
    have e : xrowsF ks acc (p :: ps) = xrowsF ks (xorL acc (ks.getD p (0, [])).2) ps := rfl
    have l1 := right_len_eq ha
    have l2 := right_len_eq hp0
    have hm : m ≤ 64 * acc.length := by
      rw [l1, Int.toNat_natCast]; unfold nw; omega
    rw [e, ih (fun q hq => hp q (List.mem_cons_of_mem _ hq)) _ (right_xor ha hp0), xorAt_picks b ss acc _ (by rw [l1, l2]) m hm]
    have e2 : picks x (p :: ps) = x.getD p ByteArray.empty :: picks x ps := rfl
    rw [e2, xorAt, hx p (hp p (List.mem_cons_self ..)), UInt8.xor_assoc]
theorem pickS_ok {n m : Nat} {ss : List ByteArray} {us : List Nat} (ho : okS n ss = true) (hl : ss.length = m) (hr : rightB (m : Int) us = true) : pickS n ss m us = ⟨(sumL n (picks ss (plcN us m))).toArray⟩ := by
  have e : ((m : Int) == (ss.length : Int)) = true := by simp [hl]
  have h2 := okS_picks ho us
  rw [hl] at h2
  unfold pickS
  rw [ho, hr, e]
  simp only [Bool.and_self, if_true, Int.toNat_natCast, sumS, h2]
theorem appR_ok {n m : Nat} {ks : List (Int × List Nat)} {ss : List ByteArray} (ho : okS n ss = true) (hl : ss.length = m) (hr : rightM m ks = true) : okS n (appR n m ks ss) = true := by
  have h := ho
  simp only [okS, Bool.and_eq_true, decide_eq_true_eq] at h ⊢
  refine ⟨⟨h.1.1, ?_⟩, by rw [appR_len]; exact (rightM_bd hr).2.2⟩
  unfold allL
  rw [List.all_eq_true]
  intro s hs
  obtain ⟨i, hi, rfl⟩ := List.mem_iff_getElem.1 hs
  have hi2 : i < ks.length := by rw [appR_len] at hi; exact hi
  have e : (appR n m ks ss)[i] = appF n m ks ss i := by
    have := appR_at n m ks ss i hi2
    simpa [List.getD, hi] using this
  rw [e, appF, pickS_ok ho hl (rightM_at hr i hi2).2]
  show (((sumL n _).toArray.size : Nat) : Int) == n
  rw [List.size_toArray, sumL_length]; simp
theorem apply_mul {n k m : Nat} {ms ks : List (Int × List Nat)} {ss : List ByteArray} (hr : rightM k ms = true) (hr2 : rightM m ks = true) (hk : ks.length = k) (ho : okS n ss = true) (hl : ss.length = m) :
    appR n m (mulM m ks ms) ss = appR n k ms (appR n m ks ss) := by
  have hbd := rightM_bd hr
  apply List.ext_getElem
  · rw [appR_len, appR_len, mulM_len]
  · intro i h1 h2
    have hi : i < ms.length := by rw [appR_len, mulM_len] at h1; exact h1
    have e1 := appR_at n m (mulM m ks ms) ss i (by rw [mulM_len]; exact hi)
    have e2 := appR_at n k ms (appR n m ks ss) i hi
    simp only [List.getD, List.getElem?_eq_getElem h1, List.getElem?_eq_getElem h2, Option.getD_some] at e1 e2
    rw [e1, e2, appF, appF, mulM_at _ _ _ i hi, pickS_ok ho hl (mulW_right hr2 _), pickS_ok (appR_ok ho hl hr2) (by rw [appR_len]; exact hk) (rightM_at hr i hi).2]
    congr 2
    refine sumL_ext n _ _ fun b hb => ?_
    unfold mulW xrows
    rw [xorAt_rows (n := n) (x := appR n m ks ss) hr2 (fun p hp => ?_) _ plc_lt _ (right_zeros m (rightM_lmb hr2)), plcN_zeros, hk]
    · simp [picks, xorAt]
    · rw [appR_at n m ks ss p hp, appF, pickS_ok ho hl (rightM_at hr2 p hp).2]
      exact sumL_at n b _ hb
end
section
/- The mathematics of ranks: as many rows as columns. No program. -/
set_option linter.unusedVariables false
set_option linter.unusedSimpArgs false
theorem rref_grow {M P : List Nat} (h : Rref M P) : ∀ C : List Nat, ∃ N Q, Rref N Q ∧ SameSp (M ++ C) N ∧ M.length ≤ N.length := by
  intro C
  induction C generalizing M P with
  | nil => exact ⟨M, P, h, by rw [List.append_nil]; exact SameSp.refl _, Nat.le_refl _⟩
  | cons c C ih =>
    obtain ⟨M1, P1, h1, h2, h3, h4⟩ := rref_more h c
    obtain ⟨N, Q, g1, g2, g3⟩ := ih h1
    refine ⟨N, Q, g1, SameSp.trans ?_ g2, ?_⟩
    · rw [show M ++ c :: C = (M ++ [c]) ++ C by simp]
      refine SameSp.of (fun x hx => ?_) (fun x hx => ?_)
      · rcases List.mem_append.1 hx with hx | hx
        · exact sp_sub (fun r hr => sp_mem (List.mem_append.2 (.inl hr))) ((h2 x).1 (sp_mem hx))
        · exact sp_mem (List.mem_append.2 (.inr hx))
      · rcases List.mem_append.1 hx with hx | hx
        · exact sp_sub (fun r hr => sp_mem (List.mem_append.2 (.inl hr))) ((h2 x).2 (sp_mem hx))
        · exact sp_mem (List.mem_append.2 (.inr hx))
    · by_cases hs : Sp M c
      · rw [h3 hs] at g3; exact g3
      · have := h4 hs; omega
theorem rank_sub {M P C : List Nat} (h : Rref M P) (hs : ∀ r ∈ M, Sp C r) : M.length ≤ C.length := by
  obtain ⟨N, Q, g1, g2, g3⟩ := rref_grow h C
  obtain ⟨L1, P1, k1, k2, k3⟩ := rref_exists C
  have hsame : SameSp (M ++ C) C := SameSp.of (fun x hx => by
    rcases List.mem_append.1 hx with hx | hx
    · exact hs x hx
    · exact sp_mem hx) (fun x hx => sp_mem (List.mem_append.2 (.inr hx)))
  have := (rref_uniq g1 k1 ((g2.symm.trans hsame).trans k2)).1
  rw [this] at g3
  omega
/-- Those of the first k of the columns at P whose row of M has a bit at i. -/
def cols (T M P : List Nat) (i : Nat) : Nat → Nat
  | 0 => 0
  | k + 1 => if (M.getD k 0).testBit i then cols T M P i k ^^^ T.getD (P.getD k 0) 0 else cols T M P i k
theorem cols_bit (T M P : List Nat) (v i j : Nat) : ∀ k, (∀ t, t < k → (T.getD (P.getD t 0) 0).testBit j = v.testBit (P.getD t 0)) → (comb M P v k).testBit i = (cols T M P i k).testBit j
  | 0, _ => by simp [comb, cols]
  | k + 1, h => by
    have ih := cols_bit T M P v i j k (fun t ht => h t (by omega))
    have h1 := h k (by omega)
    rw [comb, cols]
    generalize M.getD k 0 = a at *
    generalize P.getD k 0 = b at *
    generalize T.getD b 0 = c at *
    generalize comb M P v k = x at *
    generalize cols T M P i k = y at *
    clear h
    cases hv : v.testBit b <;> cases hm : a.testBit i <;> rw [hv] at h1 <;> simp [Nat.testBit_xor, ih, hm, h1]
theorem cols_span (T M P : List Nat) (i : Nat) : ∀ k, k ≤ P.length → Sp (P.map fun p => T.getD p 0) (cols T M P i k)
  | 0, _ => sp_zero _
  | k + 1, hk => by
    have ih := cols_span T M P i k (by omega)
    rw [cols]
    split
    · refine sp_xor ih (sp_mem (List.mem_map.2 ⟨P.getD k 0, getD_mem (by omega), rfl⟩))
    · exact ih
theorem cols_lt (T M P : List Nat) (i n : Nat) (h : ∀ j, T.getD j 0 < 2 ^ n) : ∀ k, cols T M P i k < 2 ^ n
  | 0 => Nat.two_pow_pos n
  | k + 1 => by
    rw [cols]
    split
    · exact Nat.xor_lt_two_pow (cols_lt T M P i n h k) (h _)
    · exact cols_lt T M P i n h k
theorem rank_cols {L T M P M' P' : List Nat} {n : Nat} (hL : ∀ r ∈ L, r < 2 ^ n) (hTl : T.length = n) (hT : ∀ i j, i < n → j < L.length → (T.getD i 0).testBit j = (L.getD j 0).testBit i) (hTlt : ∀ r ∈ T, r < 2 ^ L.length)
    (h : Rref M P) (hs : SameSp L M) (h' : Rref M' P') (hs' : SameSp T M') : M'.length ≤ M.length := by
  have hpl := h.len
  have hMlt := lt_all (same_lt hL hs)
  have key : ∀ i, i < n → T.getD i 0 = cols T M P i M.length := fun i hi => by
    apply Nat.eq_of_testBit_eq
    intro j
    by_cases hj : j < L.length
    · have e1 := h.comb ((hs _).1 (sp_mem (getD_mem hj)))
      rw [hT i j hi hj, ← cols_bit T M P (L.getD j 0) i j M.length (fun t ht => hT _ j (low_lt (hMlt t) (h.low t ht)) hj), ← e1]
    · have e1 : ∀ x, x < 2 ^ L.length → x.testBit j = false := fun x hx => Nat.testBit_lt_two_pow (Nat.lt_of_lt_of_le hx (Nat.pow_le_pow_right (by omega) (by omega)))
      rw [e1 _ (lt_all hTlt i), e1 _ (cols_lt T M P i _ (lt_all hTlt) _)]
  have := rank_sub (C := P.map fun p => T.getD p 0) h' (fun r hr => by
    refine sp_sub (fun r hr => ?_) ((hs' r).2 (sp_mem hr))
    obtain ⟨i, hi, rfl⟩ := mem_getD hr
    rw [hTl] at hi
    rw [key i hi]
    exact cols_span T M P i _ (by omega))
  rw [List.length_map] at this
  omega
theorem rank_turn {L T M P M' P' : List Nat} {n : Nat} (hL : ∀ r ∈ L, r < 2 ^ n) (hTl : T.length = n) (hT : ∀ i j, i < n → j < L.length → (T.getD i 0).testBit j = (L.getD j 0).testBit i) (hTlt : ∀ r ∈ T, r < 2 ^ L.length)
    (h : Rref M P) (hs : SameSp L M) (h' : Rref M' P') (hs' : SameSp T M') : M'.length = M.length :=
  Nat.le_antisymm (rank_cols hL hTl hT hTlt h hs h' hs') (rank_cols hTlt rfl (fun i j hi hj => (hT j i (by omega) hi).symm) (by rw [hTl]; exact hL) h' hs' h hs)
theorem rank_bound {L M P : List Nat} {n : Nat} (hL : ∀ r ∈ L, r < 2 ^ n) (h : Rref M P) (hs : SameSp L M) : M.length ≤ n := by
  have hMlt := lt_all (same_lt hL hs)
  have hp : ∀ k, k ≤ M.length → k = 0 ∨ k ≤ P.getD (k - 1) 0 + 1 := fun k => by
    induction k with
    | zero => intro _; exact .inl rfl
    | succ k ih =>
      intro hk
      rcases ih (by omega) with rfl | h1
      · right; omega
      · right
        have := h.rise (k - 1) k
        by_cases h0 : k = 0
        · omega
        · have := this (by omega) (by omega)
          rw [Nat.add_sub_cancel]; omega
  rcases hp M.length (Nat.le_refl _) with h0 | h0
  · omega
  · by_cases h1 : M.length = 0
    · omega
    · have := low_lt (hMlt (M.length - 1)) (h.low (M.length - 1) (by omega)); omega
/-- One row more. -/
theorem rank_more {L M P M' P' : List Nat} {r : Nat} (h : Rref M P) (hs : SameSp L M) (h' : Rref M' P') (hs' : SameSp (L ++ [r]) M') : (Sp L r → M'.length = M.length) ∧ (¬ Sp L r → M'.length = M.length + 1) := by
  obtain ⟨M1, P1, h1, h2, h3, h4⟩ := rref_more h r
  have hsame : SameSp (L ++ [r]) (M ++ [r]) := SameSp.of (fun x hx => by
    rcases List.mem_append.1 hx with hx | hx
    · exact sp_sub (fun r hr => sp_mem (List.mem_append.2 (.inl hr))) ((hs x).1 (sp_mem hx))
    · exact sp_mem (List.mem_append.2 (.inr hx))) (fun x hx => by
    rcases List.mem_append.1 hx with hx | hx
    · exact sp_sub (fun r hr => sp_mem (List.mem_append.2 (.inl hr))) ((hs x).2 (sp_mem hx))
    · exact sp_mem (List.mem_append.2 (.inr hx)))
  have e := (rref_uniq h' h1 ((hs'.symm.trans hsame).trans h2)).1
  rw [e]
  exact ⟨fun k => by rw [h3 ((hs r).1 k)], fun k => h4 (fun k2 => k ((hs r).2 k2))⟩
/-- A matrix turned, by numbers. -/
theorem turn_num {n : Nat} {L : List Nat} (hn : n ≤ 64) (hl : L.length ≤ 64) : ∃ T : List Nat, turnM n (mkM n L) = mkM L.length T ∧ T.length = n ∧ (∀ r ∈ T, r < 2 ^ L.length) ∧ ∀ i j, i < n → j < L.length → (T.getD i 0).testBit j = (L.getD j 0).testBit i := by
  have hr := turnM_right n (mkM n L) hn (by rw [mkM_len]; exact hl)
  rw [mkM_len] at hr
  obtain ⟨k, T, hk, -, -, hT, hlt⟩ := mat_num hr (fun i j => turnM_ltM n (mkM n L) i j)
  have hk : k = L.length := by omega
  subst hk
  have hTl : T.length = n := by have := congrArg List.length hT; rw [turnM_lenM, mkM_len] at this; exact this.symm
  refine ⟨T, hT, hTl, hlt, fun i j hi hj => ?_⟩
  have h1 := turnM_at n (mkM n L) i hi
  rw [hT, mkM_at _ T i (by omega), mkM_len] at h1
  have h2 : rowOf L.length (T.getD i 0) = colW (mkM n L) i := (Prod.mk.inj h1).2
  rw [← rowOf_bit L.length _ j hj, h2, colW_bit _ i j (by rw [mkM_len]; exact hj)]
  unfold mbit
  rw [mkM_at n L j hj]
  exact rowOf_bit n _ i hi
end
section
/- The places of a symbol's row are its blocks. -/
set_option linter.unusedVariables false
set_option linter.unusedSimpArgs false
theorem filter_wide (k m : Nat) (c : Nat → Bool) (h : k ≤ m) : ((List.range m).filter fun p => decide (p ∈ (List.range k).filter c)) = (List.range k).filter c := by
  obtain ⟨d, rfl⟩ := Nat.le.dest h
  rw [List.range_add, List.filter_append]
  have e1 : ((List.range k).filter fun p => decide (p ∈ (List.range k).filter c)) = (List.range k).filter c := by
    apply List.filter_congr
    intro x hx
    rw [Bool.eq_iff_iff]
    simp only [List.mem_filter, decide_eq_true_eq]
    exact ⟨fun h => h.2, fun h => ⟨hx, h⟩⟩
  have e2 : (((List.range d).map fun x => k + x).filter fun p => decide (p ∈ (List.range k).filter c)) = [] := by
    rw [List.filter_eq_nil_iff]
    intro x hx
    obtain ⟨y, -, rfl⟩ := List.mem_map.1 hx
    simp only [List.mem_filter, decide_eq_true_eq, List.mem_range]
    omega
  rw [e1, e2, List.append_nil]
theorem bitAt_small (us : List Nat) (p : Nat) (h : p < 64) : (bitAt us p == 1) = (us.getD 0 0).testBit p := by
  rw [Bool.eq_iff_iff, beq_iff_eq, ← bitAt_bit us 0 p h, Nat.mul_zero, Nat.zero_add]
theorem nb_lt (k id x : Nat) (h : x ∈ nbL k id) : x < k := by
  have := (List.mem_filter.1 h).1
  simpa using this
theorem nb_plc (k id : Nat) (h1 : 1 ≤ k) (h2 : k ≤ 64) : plcN (nbRow k id) 64 = nbL k id := by
  have e : plcN (nbRow k id) 64 = (List.range 64).filter fun p => decide (p ∈ nbL k id) := by
    unfold plcN
    apply List.filter_congr
    intro p hp
    have hp : p < 64 := by simpa using hp
    rw [bitAt_small _ p hp, nbRow, ofBits_test k _ 0 p (by unfold nw; omega), Bool.eq_iff_iff]
    simp only [List.any_eq_true, nbZ, castZ, List.mem_map, decide_eq_true_eq, Bool.and_eq_true, beq_iff_eq]
    constructor
    · rintro ⟨z, ⟨y, hy, rfl⟩, h3, h4⟩
      rw [Int.toNat_natCast] at h3 h4
      have : y = p := by omega
      rwa [← this]
    · intro hy
      refine ⟨(p : Int), ⟨p, hy, rfl⟩, ?_, ?_⟩
      · rw [Int.toNat_natCast]; omega
      · rw [Int.toNat_natCast]; omega
  rw [e]
  exact filter_wide k 64 _ h2
theorem nb_facts (k id : Nat) (j : Nat) (hj : j < (nbL k id).length) : (nbL k id).getD j 0 < k ∧ (0 < j → (nbL k id).getD (j - 1) 0 < (nbL k id).getD j 0) := by
  have e : (nbL k id).getD j 0 = (nbL k id)[j] := by simp [List.getD, hj]
  refine ⟨by rw [e]; exact nb_lt k id _ (List.getElem_mem hj), fun h0 => ?_⟩
  have e2 : (nbL k id).getD (j - 1) 0 = (nbL k id)[j - 1] := by simp [List.getD, show j - 1 < (nbL k id).length by omega]
  rw [e, e2]
  have hp : (nbL k id).Pairwise (· < ·) := (List.pairwise_lt_range (n := k)).sublist List.filter_sublist
  exact List.pairwise_iff_getElem.1 hp (j - 1) j (by omega) hj (by omega)
theorem nb_right (k id : Nat) (h1 : 1 ≤ k) (h2 : k ≤ 64) : rightB (k : Int) (nbRow k id) = true := by
  have hlen : (nbRow k id).length = 1 := by rw [nbRow, ofBits_len]; unfold nw; omega
  refine right_of_bits k 1 _ (lmb_k k h1 h2) hlen (by unfold nw; omega) (ofBits_lt k _) fun i h3 h4 => ?_
  have h : plcN (nbRow k id) 64 = nbL k id := nb_plc k id h1 h2
  rcases bitAt_le (nbRow k id) i with h0 | h0
  · exact h0
  · exfalso
    have : i ∈ plcN (nbRow k id) 64 := by
      unfold plcN
      exact List.mem_filter.2 ⟨by simp; omega, by simpa using h0⟩
    rw [h] at this
    have := nb_lt k id i this
    omega
end
section
/- Layer 12: the rank as a number; rows as numbers. -/
set_option linter.unusedVariables false
set_option linter.unusedSimpArgs false
open Go.RowKit
def RkIs (L : List Nat) (n : Nat) : Prop := ∃ M P, Rref M P ∧ SameSp L M ∧ n = M.length
theorem rk_fun {L : List Nat} {n m : Nat} (h : RkIs L n) (h' : RkIs L m) : n = m := by
  obtain ⟨M, P, a, b, rfl⟩ := h
  obtain ⟨M', P', a', b', rfl⟩ := h'
  rw [(rref_uniq a a' (b.symm.trans b')).1]
theorem rk_same {L K : List Nat} {n m : Nat} (hs : SameSp L K) (h : RkIs L n) (h' : RkIs K m) : n = m := by
  obtain ⟨M', P', a', b', e⟩ := h'
  exact rk_fun h ⟨M', P', a', hs.trans b', e⟩
theorem rk_more {L : List Nat} {r n m : Nat} (h : RkIs L n) (h' : RkIs (L ++ [r]) m) : m = n ∨ m = n + 1 := by
  obtain ⟨M, P, a, b, rfl⟩ := h
  obtain ⟨M', P', a', b', rfl⟩ := h'
  obtain ⟨h1, h2⟩ := rank_more a b a' b'
  by_cases hs : Sp L r
  · exact .inl (h1 hs)
  · exact .inr (h2 hs)
theorem rk_bound {L : List Nat} {N n : Nat} (hL : ∀ r ∈ L, r < 2 ^ N) (h : RkIs L n) : n ≤ N := by
  obtain ⟨M, P, a, b, rfl⟩ := h
  exact rank_bound hL a b
theorem rk_le {L : List Nat} {n : Nat} (h : RkIs L n) : n ≤ L.length := by
  obtain ⟨M, P, a, b, rfl⟩ := h
  obtain ⟨M', P', a', b', c⟩ := rref_exists L
  rw [(rref_uniq a a' (b.symm.trans b')).1]; exact c
theorem rk_swap {L : List Nat} {x y n m : Nat} (h : RkIs (L ++ [x] ++ [y]) n) (h' : RkIs (L ++ [y] ++ [x]) m) : n = m :=
  rk_same (SameSp.of (fun r hr => sp_mem (by simp at hr ⊢; rcases hr with h | h | h <;> simp [h])) (fun r hr => sp_mem (by simp at hr ⊢; rcases hr with h | h | h <;> simp [h]))) h h'
/-- A symbol's row as a number. -/
def numR (k id : Nat) : Nat := valW (nbRow k id)
theorem numR_row (k id : Nat) (h1 : 1 ≤ k) (h2 : k ≤ 64) : nbRow k id = rowOf k (numR k id) ∧ numR k id < 2 ^ k := row_of (nb_right k id h1 h2) (nbRow_lt k id)
def rowsN (k : Nat) (xs : List SymR) : List Nat := xs.map fun x => numR k x.1
theorem rowsN_len (k : Nat) (xs : List SymR) : (rowsN k xs).length = xs.length := by simp [rowsN]
theorem rowsN_lt (k : Nat) (xs : List SymR) (h1 : 1 ≤ k) (h2 : k ≤ 64) : ∀ r ∈ rowsN k xs, r < 2 ^ k := fun r hr => by
  obtain ⟨x, -, rfl⟩ := List.mem_map.1 hr
  exact (numR_row k x.1 h1 h2).2
theorem rowsN_snoc (k : Nat) (xs : List SymR) (x : SymR) : rowsN k (xs ++ [x]) = rowsN k xs ++ [numR k x.1] := by simp [rowsN]
theorem rowsN_mk (k : Nat) (xs : List SymR) (h1 : 1 ≤ k) (h2 : k ≤ 64) (j : Nat) (hj : j < xs.length) : (mkM k (rowsN k xs)).getD j (0, []) = ((k : Int), ((xs.map (·.1)).map (nbRow k)).getD j []) := by
  rw [mkM_at k _ j (by rw [rowsN_len]; exact hj)]
  have e : (rowsN k xs).getD j 0 = numR k (xs[j]).1 := by simp [rowsN, List.getD, hj]
  have e2 : ((xs.map (·.1)).map (nbRow k)).getD j [] = nbRow k (xs[j]).1 := by simp [List.getD, hj]
  rw [e, e2, (numR_row k (xs[j]).1 h1 h2).1]
  rfl
theorem MatW.mat {w : World} {base k : Nat} {v : Value} {xs : List SymR} (h1 : 1 ≤ k) (h2 : k ≤ 64) (h : MatW w base k v ((xs.map (·.1)).map (nbRow k))) : ∃ A c, v = .slice A (rowsN k xs).length c ∧ MatAt w base A (rowsN k xs).length (mkM k (rowsN k xs)) := by
  obtain ⟨rs, a, b, c⟩ := h
  rw [List.length_map, List.length_map] at a b c
  have e : flatR k rs = rowCells (rs.map fun r => ((k : Int), r)) := by simp [flatR, rowCells, List.flatMap_map]
  rw [e] at b
  obtain ⟨A, d, hv, -, hm⟩ := own_mat b (by simp [a]) (mkM k (rowsN k xs)) (by rw [mkM_len, rowsN_len]) (fun j hj => by
    have hr : (rs.map fun r => ((k : Int), r)).getD j (0, none, 0, 0) = ((k : Int), rs.getD j (none, 0, 0)) := by
      have : j < rs.length := by omega
      simp [List.getD, this]
    rw [hr, rowsN_mk k xs h1 h2 j hj]
    have := c j hj
    exact ⟨rfl, this.ok, this.words (fun i => rowsRows_lt k (xs.map (·.1)) j i)⟩)
  rw [← rowsN_len k xs] at hv hm
  exact ⟨A, d, hv, hm⟩
end
section
/- Contracts of layer 12: Rows, Rank, Bytes. -/
set_option linter.unusedVariables false
set_option linter.unusedSimpArgs false
open Go.RowKit
set_option maxRecDepth 100000
theorem u64_info12 : (Tryz.prog.info? 44).map (fun i => (i.zero, i.size, i.bytes)) = some (some (.int .u64 0), 1, 8) := by kernel_rfl
theorem storeB_bd {k s c : Int} {xs : List SymR} (h : storeB k s c xs = true) : (1 ≤ k ∧ k ≤ 64) ∧ (0 ≤ s ∧ s ≤ 64) ∧ (1 ≤ c ∧ c ≤ 64) ∧ (xs.length : Int) ≤ c := by
  unfold storeB kB at h
  simp only [Bool.and_eq_true, decide_eq_true_eq] at h
  exact ⟨h.1.1.1.1.1, h.1.1.1.1.2, h.1.1.1.2, h.1.1.2⟩
def idN (xs : List SymR) : List Nat := xs.map (·.1)
theorem idN_len (xs : List SymR) : (idN xs).length = xs.length := by simp [idN]
theorem idN_at (xs : List SymR) (h : ∀ j, (xs.getD j default).1 < 18446744073709551616) (j : Nat) : (idN xs).getD j 0 < 18446744073709551616 := by
  by_cases hj : j < xs.length
  · have e : (idN xs).getD j 0 = (xs.getD j default).1 := by simp [idN, List.getD, hj]
    rw [e]; exact h j
  · have e : (idN xs).getD j 0 = 0 := by simp [idN, List.getD, List.getElem?_eq_none (Nat.le_of_not_lt hj)]
    rw [e]; decide
theorem idN_snoc (xs : List SymR) (k : Nat) (h : k < xs.length) : (idN (xs.take (k + 1))).map (fun (x : Nat) => Value.int .u64 (x : Int)) = (idN (xs.take k)).map (fun (x : Nat) => Value.int .u64 (x : Int)) ++ [Value.int .u64 ((xs.getD k default).1 : Nat)] := by
  unfold idN
  rw [take_snocD xs k h]; simp
abbrev erW (k s c : Int) (A : Option Addr) (l d : Nat) (w : World) : World :=
  (w.alloc (.cells #[.int .i64 k, .int .i64 s, .int .i64 c, .slice A l d] 24)).alloc (.cells #[.int .i64 0, .slice none 0 0] 28)
theorem erW_two (k s c : Int) (A : Option Addr) (l d : Nat) (w : World) :
    Box (erW k s c A l d w) w.heap.size 24 #[.int .i64 k, .int .i64 s, .int .i64 c, .slice A l d] ∧ Box (erW k s c A l d w) (w.heap.size + 1) 28 #[.int .i64 0, .slice none 0 0] ∧ Below w.heap.size w (erW k s c A l d w) := by
  refine ⟨(Box.new w _ _).alloc _, ?_, ((Below.refl _ _).alloc (Nat.le_refl _) _).alloc (by simp) _⟩
  have q := Box.new (w.alloc (.cells #[.int .i64 k, .int .i64 s, .int .i64 c, .slice A l d] 24)) 28 #[.int .i64 0, .slice none 0 0]
  simpa only [World.size_alloc] using q
set_option maxHeartbeats 1000000 in
theorem erows_no (k s c : Int) (A : Option Addr) (l d : Nat) (xs : List SymR) (w : World) (hx : Syms w A l xs) (hl : l ≤ d) (hd : d ≤ maxLen) (hs : storeB k s c xs = false) :
    Calls Tryz.prog 5 #[.agg #[.int .i64 k, .int .i64 s, .int .i64 c, .slice A l d]] w fun e w' => e = .returned (.tuple #[.agg #[.int .i64 0, .slice none 0 0], .int .i64 1]) ∧ Below w.heap.size w w' := by
  obtain ⟨q0, q1, b1⟩ := erW_two k s c A l d w
  have Q1 := Lib.hid q1
  have HB := Lib.hid b1
  have HR := Lib.hid (eright_any k s c A l d xs _ (hx.below b1) hl hd)
  rw [hs] at HR
  obtain ⟨r0, r1, r2, r3, -, -, -, -⟩ := q0.four
  clear hx b1 q0 q1 hs
  go_enter Tryz.func5, Tryz.ntmps5
  go_wp2_with fail
  refine HR.out.mono ?_
  rintro e w1 ⟨rfl, hb⟩
  replace HB := Lib.hid (chain HB.out hb)
  replace Q1 := Lib.hid (Q1.out.keep hb)
  clear hb r0 r1 r2 r3
  obtain ⟨z0, z1, z2, z3⟩ := Q1.out.two
  go_wp2_with fail
  refine close_cell Tryz.results5 rfl rfl rfl Q1.out.put2 Tryz.underlying28 rfl (by kernel_rfl) ⟨rfl, ?_⟩
  exact (HB.out.setCell (p := ⟨w.heap.size + 1, 0, none⟩) (by show w.heap.size ≤ w.heap.size + 1; omega) _).setCell (p := ⟨w.heap.size + 1, 1, none⟩) (by show w.heap.size ≤ w.heap.size + 1; omega) _
/-- A matrix of the symbols' rows. -/
def RowsOut (k : Nat) (xs : List SymR) (w : World) (e : Ending) (w' : World) : Prop :=
  ∃ A c b0, e = .returned (.tuple #[.agg #[.int .i64 k, .slice A xs.length c], .int .i64 0]) ∧ MatW w' b0 k (.slice A xs.length c) ((idN xs).map (nbRow k)) ∧ Below w.heap.size w w'
set_option maxHeartbeats 4000000 in
theorem erows_yes (k : Nat) (s c : Int) (A : Option Addr) (l d : Nat) (xs : List SymR) (w : World) (hx : Syms w A l xs) (hl : l ≤ d) (hd : d ≤ maxLen) (hs : storeB k s c xs = true) (hid : ∀ j, (xs.getD j default).1 < 18446744073709551616) :
    Calls Tryz.prog 5 #[.agg #[.int .i64 k, .int .i64 s, .int .i64 c, .slice A l d]] w (RowsOut k xs w) := by
  obtain ⟨hk, -, hc, hlc⟩ := storeB_bd hs
  have k1 : 1 ≤ k := by omega
  have k2 : k ≤ 64 := by omega
  obtain ⟨i0, hi, hz0, hz1, hz2⟩ := info_parts u64_info12
  have HI := Lib.hid hi
  have HZ0 := Lib.hid hz0
  have HZ1 := Lib.hid hz1
  have HZ2 := Lib.hid hz2
  obtain ⟨q0, q1, b1⟩ := erW_two k s c A l d w
  have Q0 := Lib.hid q0
  have Q1 := Lib.hid q1
  have HB := Lib.hid b1
  have HXl := Lib.hid hx.1
  have hl64 : l ≤ 64 := by have := hx.1; omega
  have HX := Lib.hid (hx.below b1)
  have HID := Lib.hid (idN_at xs hid)
  have HR := Lib.hid (eright_any k s c A l d xs _ (hx.below b1) hl hd)
  rw [hs] at HR
  have HRW := Lib.hid (fun A' c' w' h => rows_yes k k1 k2 A' l c' (idN xs) w' h hl64)
  obtain ⟨r0, r1, r2, r3, -, -, -, -⟩ := q0.four
  clear hx b1 q0 q1 hs hi hz0 hz1 hz2 hid
  go_enter Tryz.func5, Tryz.ntmps5
  go_wp2_with fail
  refine HR.out.mono ?_
  rintro e w1 ⟨rfl, hb⟩
  replace HB := Lib.hid (chain HB.out hb)
  replace Q0 := Lib.hid (Q0.out.keep hb)
  replace Q1 := Lib.hid (Q1.out.keep hb)
  replace HX := Lib.hid (HX.out.below hb)
  clear hb r0 r1 r2 r3 HR
  obtain ⟨r0, r1, r2, r3, -, -, -, -⟩ := Q0.out.four
  go_wp2_with fail
  clear r0 r1 r2 r3
  go_loopw [4, 14] (fun v t wr => ∃ i : Nat, i ≤ l ∧ t = .int .i64 i ∧ wr.ownsRow w1.heap.size 44 1 v i ((idN (xs.take i)).map fun (x : Nat) => Value.int .u64 (x : Int)) ∧ Below w1.heap.size w1 wr) (fun _ t _ => l - (intOf t).toNat)
  case atStart => exact ⟨0, Nat.zero_le _, rfl, World.ownsRow_nil _ _ _ _, Below.refl _ _⟩
  case round =>
    obtain ⟨i, hi, rfl, hown, hbel⟩ := hrel
    have HO := Lib.hid hown
    have HC := Lib.hid hbel
    clear hown hbel
    by_cases hlt : i < l
    · have hlt' : (i : Int) < (l : Int) := Int.ofNat_lt.2 hlt
      obtain ⟨b, off, rfl, hb, x0, x1⟩ := Syms.two HX.out i hlt
      have x0 := (HC.out.cell (p := ⟨b, off + i * 2, none⟩) hb).trans x0
      have x1 := (HC.out.cell (p := ⟨b, off + i * 2 + 1, none⟩) hb).trans x1
      have HS := Lib.hid (idN_snoc xs i (by rw [HXl.out]; exact hlt))
      generalize xs.getD i default = p at *
      obtain ⟨p0, p1⟩ := p
      dsimp only at x0 x1 HS
      have G := Lib.hid (Box.new wr 46 #[.int .u64 (p0 : Nat), .string p1])
      have c1 := Lib.hid (show Below wr.heap.size wr (wr.alloc (.cells #[.int .u64 (p0 : Nat), .string p1] 46)) from (Below.refl _ _).alloc (Nat.le_refl _) _)
      have c2 := Lib.hid (show Below wr.heap.size wr ((wr.alloc (.cells #[.int .u64 (p0 : Nat), .string p1] 46)).alloc (.cells #[.int .u64 (p0 : Nat)] 44)) from c1.out.alloc c1.out.size _)
      have XO := Lib.hid (own_keep HO.out c2.out)
      have XB := Lib.hid (HC.out.trans (c2.out.mono HC.out.size))
      have N2 := Lib.hid (fun g hg => (HO.out.lt g hg).1)
      have NW := Lib.hid (show ∀ j u, ([Value.int .u64 (p0 : Nat)])[j]? = some u → ((wr.alloc (.cells #[.int .u64 (p0 : Nat), .string p1] 46)).alloc (.cells #[.int .u64 (p0 : Nat)] 44)).cell? ((⟨wr.heap.size + 1, 0, none⟩ : Addr).add j) = some u from by
        have := World.news_of_block (Box.new (wr.alloc (.cells #[.int .u64 (p0 : Nat), .string p1] 46)) 44 #[.int .u64 (p0 : Nat)])
        rw [World.size_alloc] at this
        exact this)
      obtain ⟨g0, g1, -, -⟩ := G.out.two
      clear G c1
      go_wp2_with (at_builtin; refine wpList_append_own _ rfl _ _ 47 rfl w1.heap.size 44 i0 (.int .u64 0) 1 8 Tryz.underlying47 HI.out HZ0.out HZ1.out HZ2.out rfl (by decide) _ _ _ rfl XO.out ⟨wr.heap.size + 1, 0, none⟩ 1 1 [.int .u64 (p0 : Nat)] rfl rfl NW.out (by simp [Value.oneCell']) (by simp [maxLen]; omega) (by omega) XB.out.size ?_; intro v' w2 hown' hgrow _; have HC2 := Lib.hid (XB.out.grown hgrow XB.out.size N2.out); have HO2 := Lib.hid hown'; clear hown' hgrow)
      go_roundw
      case rel =>
        refine ⟨i + 1, hlt, by go_num, ?_, HC2.out⟩
        rw [HS.out]
        exact HO2.out
      case measure => simp [intOf] <;> omega
    · obtain rfl : l = i := by omega
      have hlt' : ¬ (l : Int) < (l : Int) := Int.lt_irrefl _
      have HTK := Lib.hid (show xs.take l = xs from List.take_of_length_le (by rw [HXl.out]; exact Nat.le_refl _))
      rw [HTK.out] at HO
      obtain ⟨A7, c7, hv, -⟩ := own_form HO.out
      subst hv
      have HWd := Lib.hid (own_words HO.out HID.out)
      have Q0 := Lib.hid (Q0.out.keep HC.out)
      have Q1 := Lib.hid (Q1.out.keep HC.out)
      have BB := Lib.hid (chain HB.out HC.out)
      clear HO HTK HC
      obtain ⟨r0, r1, r2, r3, -, -, -, -⟩ := Q0.out.four
      go_wp2_with fail
      refine (HRW.out A7 c7 _ HWd.out).mono ?_
      rintro e w3 ⟨v3, rfl, hm, hb⟩
      obtain ⟨A3, c3, rfl⟩ := MatW.form hm (show ((idN xs).map (nbRow k)).length = l by rw [List.length_map, idN_len, HXl.out])
      have HM := Lib.hid hm
      replace BB := Lib.hid (chain BB.out hb)
      replace Q1 := Lib.hid (Q1.out.keep hb)
      clear hb hm r0 r1 r2 r3
      obtain ⟨z0, z1, z2, z3⟩ := Q1.out.two
      go_wp2_with fail
      refine close_cell Tryz.results5 rfl rfl rfl Q1.out.put2 Tryz.underlying28 rfl (by kernel_rfl) ⟨A3, c3, wr.heap.size, by rw [HXl.out]; rfl, ?_, ?_⟩
      · rw [HXl.out]
        exact (HM.out.far Q1.out (by decide) (by decide) 0 _).far (Q1.out.put 0 _) (by decide) (by decide) 1 _
      · exact (BB.out.setCell (p := ⟨w.heap.size + 1, 0, none⟩) (by show w.heap.size ≤ w.heap.size + 1; omega) _).setCell (p := ⟨w.heap.size + 1, 1, none⟩) (by show w.heap.size ≤ w.heap.size + 1; omega) _
theorem erank_no (k s c : Int) (A : Option Addr) (l d : Nat) (xs : List SymR) (w : World) (hx : Syms w A l xs) (hl : l ≤ d) (hd : d ≤ maxLen) (hs : storeB k s c xs = false) :
    Calls Tryz.prog 7 #[.agg #[.int .i64 k, .int .i64 s, .int .i64 c, .slice A l d]] w fun e w' => e = .returned (.tuple #[.int .i64 0, .int .i64 1]) ∧ Below w.heap.size w w' := by
  have b1 : Below w.heap.size w (w.alloc (.cells #[.int .i64 k, .int .i64 s, .int .i64 c, .slice A l d] 24)) := (Below.refl _ _).alloc (Nat.le_refl _) _
  have HR := Lib.hid (erows_no k s c A l d xs _ (hx.below b1) hl hd hs)
  have HB := Lib.hid b1
  obtain ⟨r0, r1, r2, r3, -, -, -, -⟩ := (Box.new w 24 #[.int .i64 k, .int .i64 s, .int .i64 c, .slice A l d]).four
  clear hx b1 hs
  go_enter Tryz.func7, Tryz.ntmps7
  go_wp2_with fail
  refine HR.out.mono ?_
  rintro e w1 ⟨rfl, hb⟩
  replace HB := Lib.hid (chain HB.out hb)
  clear hb r0 r1 r2 r3
  go_wp2_with fail
  go_ret2
  exact ⟨rfl, HB.out.alloc HB.out.size _⟩
theorem erank_yes (k : Nat) (s c : Int) (A : Option Addr) (l d : Nat) (xs : List SymR) (w : World) (hx : Syms w A l xs) (hl : l ≤ d) (hd : d ≤ maxLen) (hs : storeB k s c xs = true) (hid : ∀ j, (xs.getD j default).1 < 18446744073709551616) :
    Calls Tryz.prog 7 #[.agg #[.int .i64 k, .int .i64 s, .int .i64 c, .slice A l d]] w fun e w' => ∃ n : Nat, e = .returned (.tuple #[.int .i64 n, .int .i64 0]) ∧ RkIs (rowsN k xs) n ∧ Below w.heap.size w w' := by
  obtain ⟨hk, -, hc, hlc⟩ := storeB_bd hs
  have k1 : 1 ≤ k := by omega
  have k2 : k ≤ 64 := by omega
  have b1 : Below w.heap.size w (w.alloc (.cells #[.int .i64 k, .int .i64 s, .int .i64 c, .slice A l d] 24)) := (Below.refl _ _).alloc (Nat.le_refl _) _
  have HR := Lib.hid (erows_yes k s c A l d xs _ (hx.below b1) hl hd hs hid)
  have HB := Lib.hid b1
  have HK := Lib.hid (fun A c lo w hm => rank_yes k k2 (rowsN k xs) (rowsN_lt k xs k1 k2) (by rw [rowsN_len]; omega) A c lo w hm (right_mk k k2 (rowsN k xs) (by rw [rowsN_len]; omega) (rowsN_lt k xs k1 k2)))
  obtain ⟨r0, r1, r2, r3, -, -, -, -⟩ := (Box.new w 24 #[.int .i64 k, .int .i64 s, .int .i64 c, .slice A l d]).four
  clear hx b1 hs hid
  go_enter Tryz.func7, Tryz.ntmps7
  go_wp2_with fail
  refine HR.out.mono ?_
  rintro e w1 ⟨A3, c3, b0, rfl, hm, hb⟩
  obtain ⟨A4, c4, hv, hmat⟩ := MatW.mat k1 k2 hm
  rw [rowsN_len] at hv
  injection hv with e1 e2 e3
  subst e1 e3
  have Q := Lib.hid (Box.new w1 28 #[.int .i64 k, .slice A3 xs.length c3])
  have HM := Lib.hid (hmat.below ((Below.refl _ _).alloc (Nat.le_refl _) (.cells #[.int .i64 k, .slice A3 xs.length c3] 28)))
  replace HB := Lib.hid ((chain HB.out hb).alloc (chain HB.out hb).size (.cells #[.int .i64 k, .slice A3 xs.length c3] 28))
  clear hb r0 r1 r2 r3 hm hmat
  obtain ⟨z0, z1, -, -⟩ := Q.out.two
  have HKK := Lib.hid (HK.out A3 c3 _ _ HM.out)
  rw [rowsN_len] at HKK
  go_wp2_with fail
  refine HKK.out.mono ?_
  rintro e w2 ⟨M, P, g1, g2, rfl, hb⟩
  have HG := Lib.hid (show RkIs (rowsN k xs) M.length from ⟨M, P, g1, g2, rfl⟩)
  replace HB := Lib.hid (chain HB.out hb)
  clear hb g1 g2
  go_wp2_with fail
  go_ret2
  exact ⟨M.length, rfl, HG.out, HB.out⟩
theorem ebytes_no (k s c : Int) (A : Option Addr) (l d : Nat) (xs : List SymR) (w : World) (hx : Syms w A l xs) (hl : l ≤ d) (hd : d ≤ maxLen) (hs : storeB k s c xs = false) :
    Calls Tryz.prog 8 #[.agg #[.int .i64 k, .int .i64 s, .int .i64 c, .slice A l d]] w fun e w' => e = .returned (.tuple #[.int .i64 0, .int .i64 1]) ∧ Below w.heap.size w w' := by
  have b1 : Below w.heap.size w (w.alloc (.cells #[.int .i64 k, .int .i64 s, .int .i64 c, .slice A l d] 24)) := (Below.refl _ _).alloc (Nat.le_refl _) _
  have HR := Lib.hid (eright_any k s c A l d xs _ (hx.below b1) hl hd)
  rw [hs] at HR
  have HB := Lib.hid b1
  obtain ⟨r0, r1, r2, r3, -, -, -, -⟩ := (Box.new w 24 #[.int .i64 k, .int .i64 s, .int .i64 c, .slice A l d]).four
  clear hx b1 hs
  go_enter Tryz.func8, Tryz.ntmps8
  go_wp2_with fail
  refine HR.out.mono ?_
  rintro e w1 ⟨rfl, hb⟩
  replace HB := Lib.hid (chain HB.out hb)
  clear hb r0 r1 r2 r3
  go_wp2_with fail
  go_ret2
  exact ⟨rfl, HB.out⟩
def bytesI (l s k : Nat) : Nat := l * (s + (k + 7) / 8)
theorem bytes_wrap (l s k : Nat) (h1 : l ≤ 64) (h2 : s ≤ 64) (h3 : k ≤ 64) : wrap64 ((l : Int) * ((s : Int) + ((k : Int) + 7) / 8)) = ((bytesI l s k : Nat) : Int) := by
  have e : ((l : Int) * ((s : Int) + ((k : Int) + 7) / 8)) = ((bytesI l s k : Nat) : Int) := by unfold bytesI; push_cast; rfl
  have hp : bytesI l s k ≤ 64 * 72 := Nat.mul_le_mul h1 (by omega)
  rw [e]
  unfold wrap64
  omega
theorem ebytes_yes (k s : Nat) (c : Int) (A : Option Addr) (l d : Nat) (xs : List SymR) (w : World) (hx : Syms w A l xs) (hl : l ≤ d) (hd : d ≤ maxLen) (hs : storeB k s c xs = true) :
    Calls Tryz.prog 8 #[.agg #[.int .i64 k, .int .i64 s, .int .i64 c, .slice A l d]] w fun e w' => e = .returned (.tuple #[.int .i64 (bytesI l s k : Nat), .int .i64 0]) ∧ Below w.heap.size w w' := by
  obtain ⟨hk, hsz, hc, hlc⟩ := storeB_bd hs
  have hl64 : l ≤ 64 := by have := hx.1; omega
  have b1 : Below w.heap.size w (w.alloc (.cells #[.int .i64 k, .int .i64 s, .int .i64 c, .slice A l d] 24)) := (Below.refl _ _).alloc (Nat.le_refl _) _
  have HR := Lib.hid (eright_any k s c A l d xs _ (hx.below b1) hl hd)
  rw [hs] at HR
  have HB := Lib.hid b1
  have Q := Lib.hid (Box.new w 24 #[.int .i64 k, .int .i64 s, .int .i64 c, .slice A l d])
  obtain ⟨r0, r1, r2, r3, -, -, -, -⟩ := Q.out.four
  clear hx b1 hs
  go_enter Tryz.func8, Tryz.ntmps8
  go_wp2_with fail
  refine HR.out.mono ?_
  rintro e w1 ⟨rfl, hb⟩
  replace HB := Lib.hid (chain HB.out hb)
  replace Q := Lib.hid (Q.out.keep hb)
  clear hb r0 r1 r2 r3
  obtain ⟨r0, r1, r2, r3, -, -, -, -⟩ := Q.out.four
  have tw := Lib.hid (bytes_wrap l s k hl64 (by omega) (by omega))
  go_wp2_with fail
  go_ret2
  refine ⟨?_, HB.out⟩
  show Ending.returned (.tuple #[.int .i64 (wrap64 ((l : Int) * ((s : Int) + ((k : Int) + 7) / 8))), .int .i64 0]) = _
  rw [tw.out]
end
end Go.Proofs.YtmfhimeffmpgaaaGreat
