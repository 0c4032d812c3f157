/- Contract of layer 2's reference: Sum. -/
import Derived.Test.YtfeaollpeaphlaaDoorRefOnes
namespace Go.Proofs.YtfeaollpeaphlaaDoor
set_option linter.unusedVariables false
set_option linter.unusedSimpArgs false
open Go.RowKit
/-- Byte i of the sum of those of the first k texts whose bit is 1. -/
def bsum (ss : List ByteArray) (zs : List Int) (i : Nat) : Nat → UInt8
  | 0 => 0
  | k + 1 => if zs.getD k 0 = 1 then bsum ss zs i k ^^^ (ss.getD k ByteArray.empty).data.toList.getD i 0 else bsum ss zs i k
def bsums (ss : List ByteArray) (zs : List Int) (l k : Nat) : List UInt8 := (List.range k).map fun i => bsum ss zs i l
theorem bsums_succ (ss : List ByteArray) (zs : List Int) (l k : Nat) : bsums ss zs l (k + 1) = bsums ss zs l k ++ [bsum ss zs k l] := by
  simp [bsums, List.range_succ]
theorem bsum_ones (n : Nat) (ss : List ByteArray) (l i k : Nat) (hi : i < n) (hk : k ≤ l) (hl : ss.length = l) : bsum ss (ones l) i k = (sumL n (ss.take k)).getD i 0 := by
  induction k with
  | zero => simp [bsum, sumL, List.getD, hi]
  | succ k ih =>
    have h1 : (ones l).getD k 0 = 1 := by simp [ones, List.getD, show k < l by omega]
    have hln : i < (sumL n (ss.take k)).length := by rw [sumL_length]; exact hi
    rw [bsum, if_pos h1, ih (by omega), ← sumL_snoc n ss k (by omega)]
    generalize sumL n (ss.take k) = x at *
    simp [bxL, List.getD, hln]
theorem bsums_ones (n : Nat) (ss : List ByteArray) (l : Nat) (hl : ss.length = l) : bsums ss (ones l) l n = sumL n ss := by
  apply List.ext_getElem
  · simp [bsums, sumL_length]
  · intro i h1 h2
    have hi : i < n := by simpa [bsums] using h1
    have := bsum_ones n ss l i l hi (Nat.le_refl _) hl
    rw [List.take_of_length_le (by omega)] at this
    simp only [bsums, List.getElem_map, List.getElem_range, this]
    simp [List.getD, h2]
theorem uint8_infoB : (Tryd.prog.info? 5).map (fun i => (i.zero, i.size, i.bytes)) = some (some (.int .u8 0), 1, 1) := by kernel_rfl
def byteV (b : UInt8) : Value := .int .u8 (b.toNat : Int)
theorem own_bytes {w : World} {base e n : Nat} {v : Value} {l : List UInt8} (h : w.ownsRow base e 1 v n (l.map byteV)) (hne : v ≠ .slice none 0 0) :
    (convert 64 9 v).run Tryd.prog w = .ok (.string ⟨l.toArray⟩) w := by
  have hl : l.length = n := by have := h.1; simpa using this
  rcases h.2 with ⟨rfl, h0⟩ | ⟨g, cap, cur, rfl, hb, hh, hn, hm, hs, hx⟩
  · exact absurd rfl hne
  · subst hl
    refine run_convert_bytes_back (P := Tryd.prog) w 64 9 5 ⟨g, 0, none⟩ _ l Tryd.underlying64 Tryd.underlying5 Tryd.underlying9 ?_
    intro j hj
    have hadd : Addr.add { block := g, off := 0 } j = ⟨g, j, none⟩ := by
      by_cases h : j = 0 <;> simp [Addr.add, h]
    have hbx : Box w g e cur := hh
    rw [hadd, hbx.cell j]
    have e1 : (cur.toList.take (l.length * 1))[j]? = (l.map byteV)[j]? := by rw [hx]
    rw [Nat.mul_one, List.getElem?_take, if_pos hj] at e1
    simp only [List.getElem?_map, List.getElem?_eq_getElem hj, Option.map_some] at e1
    rw [← Array.getElem?_toList, e1]
    rfl
set_option maxHeartbeats 2000000 in
theorem refSum_any (n : Nat) (hn : n ≤ 64) (A B : Option Addr) (l c m d : Nat) (ss : List ByteArray) (zs : List Int) (w : World) (ht : Texts w A l ss) (hz : Ints w B m zs) (hl : l ≤ 1000) (hm : l ≤ m) (hmm : m ≤ 1000000) (hsz : ∀ j, j < l → (ss.getD j ByteArray.empty).size = n) :
    Calls Tryd.prog 26 #[.int .i64 n, .slice A l c, .slice B m d] w fun e w' => e = .returned (.string ⟨(bsums ss zs l n).toArray⟩) ∧ Below w.heap.size w w' := by
  obtain ⟨i0, hi, hz0, hz1, hz2⟩ := info_parts uint8_infoB
  have HT := Lib.hid ht
  have HZ := Lib.hid hz
  have HSZ := Lib.hid hsz
  clear ht hz hsz
  go_enter Tryd.func26, Tryd.ntmps26
  go_wp2
  have HOw := Lib.hid (own_empty w w.heap.size 5 (Nat.le_refl _))
  have HW := Lib.hid ((Below.refl w.heap.size w).alloc (Nat.le_refl _) (.cells #[] 5))
  have HI := Lib.hid hi
  have HZ0 := Lib.hid hz0
  have HZ1 := Lib.hid hz1
  have HZ2 := Lib.hid hz2
  clear hi hz0 hz1 hz2
  go_loopw [7, 8] (fun v t wr => ∃ i : Nat, i ≤ n ∧ t = .int .i64 i ∧ wr.ownsRow w.heap.size 5 1 v i ((bsums ss zs l i).map byteV) ∧ Hid (v ≠ .slice none 0 0) ∧ Below w.heap.size w wr)
    (fun _ t _ => n - (intOf t).toNat)
  case atStart => exact ⟨0, by omega, rfl, HOw.out, Lib.hid (by simp), HW.out⟩
  case round =>
    obtain ⟨i, hi, rfl, hown, HNE, hbel⟩ := hrel
    have HO := Lib.hid hown
    have HB := Lib.hid hbel
    clear hown hbel HW HOw
    by_cases hlt : i < n
    · have hlt' : (i : Int) < (n : Int) := by omega
      go_wp2_with fail
      go_loop [9, 20] (fun b t => ∃ k : Nat, k ≤ l ∧ t = .int .i64 k ∧ b = .int .u8 ((bsum ss zs i k).toNat : Int)) (fun _ t => l - (intOf t).toNat)
      case atStart => exact ⟨0, by omega, rfl, rfl⟩
      case round =>
        obtain ⟨k, hk, rfl, rfl⟩ := hrel
        by_cases hkl : k < l
        · have hkl' : (k : Int) < (l : Int) := by omega
          obtain ⟨b, off, hA, hb, hc⟩ := HT.out.2.2 (by omega)
          obtain ⟨b2, off2, hA2, hb2, hc2⟩ := HZ.out.2.2 (by omega)
          subst hA hA2
          have c1 : wr.cell? ⟨b, off + k, none⟩ = some (.string (ss.getD k ByteArray.empty)) := (HB.out.cell (p := ⟨b, off + k, none⟩) hb).trans (hc k hkl)
          have c2 : wr.cell? ⟨b2, off2 + k, none⟩ = some (.int .i64 (zs.getD k 0)) := (HB.out.cell (p := ⟨b2, off2 + k, none⟩) hb2).trans (hc2 k (by omega))
          have hs := HSZ.out k hkl
          have HE := Lib.hid (show bsum ss zs i (k + 1) = if zs.getD k 0 = 1 then bsum ss zs i k ^^^ (ss.getD k ByteArray.empty).data.toList.getD i 0 else bsum ss zs i k from rfl)
          clear hc hc2
          generalize ss.getD k ByteArray.empty = s at *
          generalize zs.getD k 0 = z at *
          generalize bsum ss zs i k = x at *
          have his : i < s.size := by omega
          have HS := Lib.hid hs
          clear hs
          have hkm : (k : Int) < (m : Int) := by omega
          have HG := Lib.hid (show s.data.toList.getD i 0 = s[i] by simp [List.getD, his]; rfl)
          by_cases h1 : z = 1
          · subst h1
            have t := xor_u8 x s[i]
            go_wp2
            go_round
            case rel => exact ⟨k + 1, by omega, by go_num, by rw [HE.out, if_pos rfl, HG.out, UInt8.toNat_xor]⟩
            case measure => simp [intOf] <;> omega
          · have t : (z == 1) = false := by simpa using h1
            go_wp2
            go_round
            case rel => exact ⟨k + 1, by omega, by go_num, by rw [HE.out, if_neg h1]⟩
            case measure => simp [intOf] <;> omega
        · obtain rfl : l = k := by omega
          have hkl' : ¬ (l : Int) < (l : Int) := by omega
          have HS := Lib.hid (bsums_succ ss zs l i)
          generalize bsum ss zs i l = x at *
          have hi' := HI.out
          have hz0' := HZ0.out
          have hz1' := HZ1.out
          have hz2' := HZ2.out
          have XO := Lib.hid (HO.out.alloc (.cells #[.int .u8 (x.toNat : Int)] 5))
          have XB := Lib.hid (HB.out.alloc HB.out.size (.cells #[.int .u8 (x.toNat : Int)] 5))
          have N2 := Lib.hid (fun k hk => (HO.out.lt k hk).1)
          go_wp2_with (at_builtin; refine wpList_append_own _ rfl _ _ 64 rfl w.heap.size 5 i0 (.int .u8 0) 1 1 Tryd.underlying64 hi' hz0' hz1' hz2' rfl (by decide) _ _ _ rfl XO.out ⟨wr.heap.size, 0, none⟩ 1 1 [.int .u8 (x.toNat : Int)] rfl rfl (cell_one_new _ _ _) (by simp [Value.oneCell']) (by simp [maxLen]; omega) (by omega) XB.out.size ?_; intro v' w1 hown' hgrow hnil; have HC := Lib.hid (XB.out.grown hgrow XB.out.size N2.out); have HO2 := Lib.hid hown'; have HNI := Lib.hid hnil; clear hown' hgrow hnil)
          go_roundw
          case rel =>
            refine ⟨i + 1, by omega, by go_num, ?_, Lib.hid (fun e => HNE.out (HNI.out.1 e).1), HC.out⟩
            rw [HS.out, List.map_append]
            exact HO2.out
          case measure => simp [intOf] <;> omega
    · obtain rfl : i = n := by omega
      have hlt' : ¬ (i : Int) < (i : Int) := by omega
      have cv := own_bytes HO.out HNE.out
      go_wp2
      go_ret
      exact ⟨rfl, HB.out⟩
end Go.Proofs.YtfeaollpeaphlaaDoor
