/- Contract of law 02's few: the first 66 texts, each cut. -/
import Derived.Test.YtcikoaeiopbbbaaRefBlock
import Derived.Test.YtcikoaeiopbbbaaFrom
import Derived.Test.YtcikoaeiopbbbaaFew
namespace Go.Proofs.Ytcikoaeiopbbbaa
set_option linter.unusedVariables false
set_option linter.unusedSimpArgs false
open Go.RowKit
theorem string_info : (Try.prog.info? 9).map (fun i => (i.zero, i.size, i.bytes)) = some (some (.string ⟨#[]⟩), 1, 16) := by kernel_rfl
theorem own_texts {w : World} {base e n : Nat} {v : Value} {ss : List ByteArray} (h : w.ownsRow base e 1 v n (ss.map Value.string)) (hz : ∀ j, (ss.getD j ByteArray.empty).size ≤ maxLen) : ∃ A c, v = .slice A n c ∧ n ≤ c ∧ c ≤ maxLen ∧ Texts w A n ss := by
  have hl : ss.length = n := by have := h.1; simpa using this
  rcases h.2 with ⟨rfl, h0⟩ | ⟨g, cap, cur, rfl, hb, hh, hn, hm, hs, hx⟩
  · subst h0
    obtain rfl : ss = [] := List.length_eq_zero_iff.1 hl
    exact ⟨none, 0, rfl, Nat.le_refl _, Nat.zero_le _, Texts.nil _ _⟩
  · refine ⟨_, _, rfl, hn, hm, hl, hz, fun hp => ?_⟩
    have hbx : Box w g e cur := hh
    refine ⟨g, 0, rfl, hbx.lt, fun j hj => ?_⟩
    rw [Nat.zero_add, hbx.cell j]
    have e1 : (cur.toList.take (n * 1))[j]? = (ss.map Value.string)[j]? := by rw [hx]
    rw [Nat.mul_one, List.getElem?_take, if_pos hj] at e1
    have hjz : j < ss.length := by omega
    simp only [List.getElem?_map, List.getElem?_eq_getElem hjz, Option.map_some] at e1
    rw [← Array.getElem?_toList, e1]
    simp [List.getD, hjz]
def cuts (ss : List ByteArray) (k : Nat) : List ByteArray := (ss.take k).map cutB
theorem cuts_succ (ss : List ByteArray) (k : Nat) (h : k < ss.length) : cuts ss (k + 1) = cuts ss k ++ [cutB (ss.getD k ByteArray.empty)] := by
  unfold cuts
  rw [List.take_succ_eq_append_getElem h, List.map_append]
  simp [List.getD, h]
theorem cuts_le (ss : List ByteArray) (k j : Nat) : ((cuts ss k).getD j ByteArray.empty).size ≤ maxLen := by
  unfold cuts
  simp only [List.getD, List.getElem?_map]
  cases (ss.take k)[j]? with
  | none => simp [maxLen]
  | some s => have := cutB_size s; simp [maxLen]; omega
/-- A slice of texts is returned. -/
def TextsOut (ss : List ByteArray) (w : World) (e : Ending) (w' : World) : Prop :=
  ∃ A c, e = .returned (.slice A ss.length c) ∧ ss.length ≤ c ∧ c ≤ maxLen ∧ Texts w' A ss.length ss ∧ Below w.heap.size w w'
theorem cuts_all (ss : List ByteArray) (k : Nat) (h : ss.length = k) (h2 : k ≤ 66) : cuts ss k = cuts ss 66 := by
  unfold cuts
  rw [List.take_of_length_le (by omega), List.take_of_length_le (by omega)]
end Go.Proofs.Ytcikoaeiopbbbaa
