/- Contract of law 02's few: the first 66 texts, each cut. -/
import Derived.Test.YtfeaollpeaphlaaDoorRefBlock
import Derived.Test.YtfeaollpeaphlaaDoorFrom
import Derived.Test.YtfeaollpeaphlaaDoorFew
namespace Go.Proofs.YtfeaollpeaphlaaDoor
set_option linter.unusedVariables false
set_option linter.unusedSimpArgs false
open Go.RowKit
theorem string_info : (Tryd.prog.info? 9).map (fun i => (i.zero, i.size, i.bytes)) = some (some (.string ⟨#[]⟩), 1, 16) := by kernel_rfl
theorem own_texts {w : World} {base e n : Nat} {v : Value} {ss : List ByteArray} (h : w.ownsRow base e 1 v n (ss.map Value.string)) (hz : ∀ j, (ss.getD j ByteArray.empty).size ≤ maxLen) : ∃ A c, v = .slice A n c ∧ n ≤ c ∧ c ≤ maxLen ∧ Texts w A n ss := by
  have hl : ss.length = n := by have := h.1; simpa using this
  rcases h.2 with ⟨rfl, h0⟩ | ⟨g, cap, cur, rfl, hb, hh, hn, hm, hs, hx⟩
  · subst h0
    obtain rfl : ss = [] := List.length_eq_zero_iff.1 hl
    exact ⟨none, 0, rfl, Nat.le_refl _, Nat.zero_le _, Texts.nil _ _⟩
  · refine ⟨_, _, rfl, hn, hm, hl, hz, fun hp => ?_⟩
    have hbx : Box w g e cur := hh
    refine ⟨g, 0, rfl, hbx.lt, fun j hj => ?_⟩
    rw [Nat.zero_add, hbx.cell j]
    have e1 : (cur.toList.take (n * 1))[j]? = (ss.map Value.string)[j]? := by rw [hx]
    rw [Nat.mul_one, List.getElem?_take, if_pos hj] at e1
    have hjz : j < ss.length := by omega
    simp only [List.getElem?_map, List.getElem?_eq_getElem hjz, Option.map_some] at e1
    rw [← Array.getElem?_toList, e1]
    simp [List.getD, hjz]
def cuts (ss : List ByteArray) (k : Nat) : List ByteArray := (ss.take k).map cutB
theorem cuts_succ (ss : List ByteArray) (k : Nat) (h : k < ss.length) : cuts ss (k + 1) = cuts ss k ++ [cutB (ss.getD k ByteArray.empty)] := by
  unfold cuts
  rw [List.take_succ_eq_append_getElem h, List.map_append]
  simp [List.getD, h]
theorem cuts_le (ss : List ByteArray) (k j : Nat) : ((cuts ss k).getD j ByteArray.empty).size ≤ maxLen := by
  unfold cuts
  simp only [List.getD, List.getElem?_map]
  cases (ss.take k)[j]? with
  | none => simp [maxLen]
  | some s => have := cutB_size s; simp [maxLen]; omega
/-- A slice of texts is returned. -/
def TextsOut (ss : List ByteArray) (w : World) (e : Ending) (w' : World) : Prop :=
  ∃ A c, e = .returned (.slice A ss.length c) ∧ ss.length ≤ c ∧ c ≤ maxLen ∧ Texts w' A ss.length ss ∧ Below w.heap.size w w'
set_option maxHeartbeats 1000000 in
theorem fewT_none (ss : List ByteArray) (w : World) (ht : Texts w none 0 ss) : Calls Tryd.prog 22 #[.slice none 0 0] w (TextsOut (cuts ss 0) w) := by
  obtain ⟨i0, hi, hz0, hz1, hz2⟩ := info_parts string_info
  have hlen := Lib.hid ht.1
  have HT := Lib.hid ht
  clear ht
  have HI := Lib.hid hi
  have HZ0 := Lib.hid hz0
  have HZ1 := Lib.hid hz1
  have HZ2 := Lib.hid hz2
  clear hi hz0 hz1 hz2
  go_enter Tryd.func22, Tryd.ntmps22
  go_wp2_with fail
  go_loopw [3, 12] (fun v t wr => ∃ i : Nat, i ≤ 0 ∧ t = .int .i64 i ∧ wr.ownsRow w.heap.size 9 1 v i ((cuts ss i).map Value.string) ∧ Below w.heap.size w wr)
    (fun _ t _ => 0 - (intOf t).toNat)
  case atStart => exact ⟨0, by omega, rfl, ⟨by simp [cuts], .inl ⟨rfl, rfl⟩⟩, Below.refl _ _⟩
  case round =>
    obtain ⟨i, hi, rfl, hown, hbel⟩ := hrel
    have HO := Lib.hid hown
    have HB := Lib.hid hbel
    clear hown hbel
    · obtain rfl : i = 0 := by omega
      have hcl : (cuts ss 0).length = 0 := by simp [cuts]
      have HCL := Lib.hid hcl
      clear hcl
      obtain ⟨A', c', rfl, q1, q2, q3⟩ := own_texts HO.out (cuts_le ss _)
      go_wp2
      go_ret
      exact ⟨A', c', by rw [HCL.out]; rfl, by rw [HCL.out]; exact q1, q2, by rw [HCL.out]; exact q3, HB.out⟩
set_option maxHeartbeats 1000000 in
theorem fewT_few (ad : Addr) (l c : Nat) (ss : List ByteArray) (w : World) (ht : Texts w (some ad) l ss) (h : l ≤ 66) (hlc : l ≤ c) (hcm : c ≤ maxLen) : Calls Tryd.prog 22 #[.slice (some ad) l c] w (TextsOut (cuts ss l) w) := by
  obtain ⟨i0, hi, hz0, hz1, hz2⟩ := info_parts string_info
  have hlen := Lib.hid ht.1
  have HT := Lib.hid ht
  clear ht
  have HI := Lib.hid hi
  have HZ0 := Lib.hid hz0
  have HZ1 := Lib.hid hz1
  have HZ2 := Lib.hid hz2
  clear hi hz0 hz1 hz2
  unfold maxLen at hcm
  have g1 : (l : Int) ≤ 66 := by omega
  have g2 : ¬ (66 : Int) < l := by omega
  go_enter Tryd.func22, Tryd.ntmps22
  go_wp2_with fail
  go_loopw [3, 12] (fun v t wr => ∃ i : Nat, i ≤ l ∧ t = .int .i64 i ∧ wr.ownsRow w.heap.size 9 1 v i ((cuts ss i).map Value.string) ∧ Below w.heap.size w wr)
    (fun _ t _ => l - (intOf t).toNat)
  case atStart => exact ⟨0, by omega, rfl, ⟨by simp [cuts], .inl ⟨rfl, rfl⟩⟩, Below.refl _ _⟩
  case round =>
    obtain ⟨i, hi, rfl, hown, hbel⟩ := hrel
    have HO := Lib.hid hown
    have HB := Lib.hid hbel
    clear hown hbel
    by_cases hlt : i < l
    · have hlt' : (i : Int) < (l : Int) := by omega
      obtain ⟨b, off, hA, hb, hc⟩ := HT.out.2.2 (by omega)
      obtain rfl := Option.some.inj hA
      have c1 : wr.cell? ⟨b, off + i, none⟩ = some (.string (ss.getD i ByteArray.empty)) := (HB.out.cell (p := ⟨b, off + i, none⟩) hb).trans (hc i (by omega))
      have hm := HT.out.2.1 i
      have HS := Lib.hid (cuts_succ ss i (by rw [hlen.out]; omega))
      generalize ss.getD i ByteArray.empty = s at *
      have hi' := HI.out
      have hz0' := HZ0.out
      have hz1' := HZ1.out
      have hz2' := HZ2.out
      clear hc
      go_wp2_with fail
      refine (cut_any s hm _).mono ?_
      rintro e x1 ⟨rfl, rfl⟩
      have XO := Lib.hid (HO.out.alloc (.cells #[.string (cutB s)] 9))
      have XB := Lib.hid (HB.out.alloc HB.out.size (.cells #[.string (cutB s)] 9))
      have N2 := Lib.hid (fun k hk => (HO.out.lt k hk).1)
      go_wp2_with (at_builtin; refine wpList_append_own _ rfl _ _ 43 rfl w.heap.size 9 i0 (.string ⟨#[]⟩) 1 16 Tryd.underlying43 hi' hz0' hz1' hz2' rfl (by decide) _ _ _ rfl XO.out ⟨wr.heap.size, 0, none⟩ 1 1 [.string (cutB s)] rfl rfl (cell_one_new _ _ _) (by simp [Value.oneCell']) (by simp [maxLen]; omega) (by omega) XB.out.size ?_; intro v' w1 hown' hgrow _; have HC := Lib.hid (XB.out.grown hgrow XB.out.size N2.out); have HO2 := Lib.hid hown'; clear hown' hgrow)
      go_roundw
      case rel =>
        refine ⟨i + 1, by omega, by go_num, ?_, HC.out⟩
        rw [HS.out, List.map_append]
        exact HO2.out
      case measure => simp [intOf] <;> omega
    · obtain rfl : l = i := by omega
      have hcl : (cuts ss l).length = l := by simp [cuts, hlen.out]
      have HCL := Lib.hid hcl
      clear hcl
      obtain ⟨A', c', rfl, q1, q2, q3⟩ := own_texts HO.out (cuts_le ss _)
      go_wp2
      go_ret
      exact ⟨A', c', by rw [HCL.out]; rfl, by rw [HCL.out]; exact q1, q2, by rw [HCL.out]; exact q3, HB.out⟩
set_option maxHeartbeats 1000000 in
theorem fewT_many (ad : Addr) (l c : Nat) (ss : List ByteArray) (w : World) (ht : Texts w (some ad) l ss) (h : 66 < l) (hlc : l ≤ c) (hcm : c ≤ maxLen) : Calls Tryd.prog 22 #[.slice (some ad) l c] w (TextsOut (cuts ss 66) w) := by
  obtain ⟨i0, hi, hz0, hz1, hz2⟩ := info_parts string_info
  have hlen := Lib.hid ht.1
  have HT := Lib.hid ht
  clear ht
  have HI := Lib.hid hi
  have HZ0 := Lib.hid hz0
  have HZ1 := Lib.hid hz1
  have HZ2 := Lib.hid hz2
  clear hi hz0 hz1 hz2
  unfold maxLen at hcm
  have g1 : (66 : Int) < l := by omega
  have g3 : (66 : Int) ≤ c := by omega
  go_enter Tryd.func22, Tryd.ntmps22
  go_wp2_with fail
  go_loopw [3, 12] (fun v t wr => ∃ i : Nat, i ≤ 66 ∧ t = .int .i64 i ∧ wr.ownsRow w.heap.size 9 1 v i ((cuts ss i).map Value.string) ∧ Below w.heap.size w wr)
    (fun _ t _ => 66 - (intOf t).toNat)
  case atStart => exact ⟨0, by omega, rfl, ⟨by simp [cuts], .inl ⟨rfl, rfl⟩⟩, Below.refl _ _⟩
  case round =>
    obtain ⟨i, hi, rfl, hown, hbel⟩ := hrel
    have HO := Lib.hid hown
    have HB := Lib.hid hbel
    clear hown hbel
    by_cases hlt : i < 66
    · have hlt' : (i : Int) < (66 : Int) := by omega
      obtain ⟨b, off, hA, hb, hc⟩ := HT.out.2.2 (by omega)
      obtain rfl := Option.some.inj hA
      have c1 : wr.cell? ⟨b, off + i, none⟩ = some (.string (ss.getD i ByteArray.empty)) := (HB.out.cell (p := ⟨b, off + i, none⟩) hb).trans (hc i (by omega))
      have hm := HT.out.2.1 i
      have HS := Lib.hid (cuts_succ ss i (by rw [hlen.out]; omega))
      generalize ss.getD i ByteArray.empty = s at *
      have hi' := HI.out
      have hz0' := HZ0.out
      have hz1' := HZ1.out
      have hz2' := HZ2.out
      clear hc
      go_wp2_with fail
      refine (cut_any s hm _).mono ?_
      rintro e x1 ⟨rfl, rfl⟩
      have XO := Lib.hid (HO.out.alloc (.cells #[.string (cutB s)] 9))
      have XB := Lib.hid (HB.out.alloc HB.out.size (.cells #[.string (cutB s)] 9))
      have N2 := Lib.hid (fun k hk => (HO.out.lt k hk).1)
      go_wp2_with (at_builtin; refine wpList_append_own _ rfl _ _ 43 rfl w.heap.size 9 i0 (.string ⟨#[]⟩) 1 16 Tryd.underlying43 hi' hz0' hz1' hz2' rfl (by decide) _ _ _ rfl XO.out ⟨wr.heap.size, 0, none⟩ 1 1 [.string (cutB s)] rfl rfl (cell_one_new _ _ _) (by simp [Value.oneCell']) (by simp [maxLen]; omega) (by omega) XB.out.size ?_; intro v' w1 hown' hgrow _; have HC := Lib.hid (XB.out.grown hgrow XB.out.size N2.out); have HO2 := Lib.hid hown'; clear hown' hgrow)
      go_roundw
      case rel =>
        refine ⟨i + 1, by omega, by go_num, ?_, HC.out⟩
        rw [HS.out, List.map_append]
        exact HO2.out
      case measure => simp [intOf] <;> omega
    · obtain rfl : i = 66 := by omega
      have hcl : (cuts ss 66).length = 66 := by simp [cuts, hlen.out]; omega
      have HCL := Lib.hid hcl
      clear hcl
      obtain ⟨A', c', rfl, q1, q2, q3⟩ := own_texts HO.out (cuts_le ss _)
      go_wp2
      go_ret
      exact ⟨A', c', by rw [HCL.out]; rfl, by rw [HCL.out]; exact q1, q2, by rw [HCL.out]; exact q3, HB.out⟩
theorem cuts_all (ss : List ByteArray) (k : Nat) (h : ss.length = k) (h2 : k ≤ 66) : cuts ss k = cuts ss 66 := by
  unfold cuts
  rw [List.take_of_length_le (by omega), List.take_of_length_le (by omega)]
theorem fewT_any (A : Option Addr) (l c : Nat) (ss : List ByteArray) (w : World) (ht : Texts w A l ss) (hs : SliceOk A l c) : Calls Tryd.prog 22 #[.slice A l c] w (TextsOut (cuts ss 66) w) := by
  cases A with
  | none =>
    obtain ⟨rfl, rfl⟩ := hs.2.2 rfl
    rw [← cuts_all ss 0 ht.1 (by omega)]
    exact fewT_none ss w ht
  | some ad =>
    by_cases h : l ≤ 66
    · rw [← cuts_all ss l ht.1 h]
      exact fewT_few ad l c ss w ht h hs.1 hs.2.1
    · exact fewT_many ad l c ss w ht (by omega) hs.1 hs.2.1
end Go.Proofs.YtfeaollpeaphlaaDoor
