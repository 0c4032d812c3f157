/- Layer 14: First; alive. -/
import Derived.Test.YtmfjbmojejplgaaRiE
namespace Go.Proofs.Ytmfjbmojejplgaa
set_option linter.unusedVariables false
set_option linter.unusedSimpArgs false
open Go.RowKit Go.Sort
set_option maxRecDepth 100000
/-- The first so many are returned. -/
def FirstOut (xs : List DrR) (k : Nat) (w : World) (e : Ending) (w' : World) : Prop := ∃ A, e = .returned (.tuple #[.slice A k k, .int .i64 0]) ∧ Drs w' A k ((srtD xs).take k) ∧ Below w.heap.size w w'
set_option maxHeartbeats 1000000 in
theorem first_ok (A : Option Addr) (l cp : Nat) (xs : List DrR) (k : Nat) (w : World) (hs : A = none → l = 0 ∧ cp = 0) (hH : Drs w A l xs) (hl : l ≤ 100000) (hk : k ≤ l) :
    Calls Try.prog 8 #[.slice A l cp, .int .i64 (k : Int)] w (FirstOut xs k w) := by
  have HS := Lib.hid (sorted_any A l cp xs w hs hH (by omega))
  have hn : (srtD xs).length = l := by rw [srtD_len, hH.1]
  have HN := Lib.hid hn
  have k1 : ¬ (k : Int) < 0 := by omega
  have k2 : ¬ (l : Int) < (k : Int) := by omega
  clear hH hs hn
  go_enter Try.func8, Try.ntmps8
  go_wp2_with fail
  refine HS.out.mono ?_
  rintro e w1 ⟨A1, c1, rfl, h1, h2, hb⟩
  rw [HN.out] at h1 h2
  rw [HN.out]
  obtain ⟨q1, q2, q3⟩ := h1
  have HX := Lib.hid (Recs.take h2 k hk)
  have HB := Lib.hid hb
  unfold maxLen at q2
  clear h2 hb HS
  cases A1 with
  | none =>
    obtain ⟨rfl, rfl⟩ := q3 rfl
    obtain rfl : k = 0 := by omega
    go_wp2_with fail
    go_ret2
    exact ⟨none, rfl, HX.out, HB.out⟩
  | some ad =>
    clear q3
    have k3 : (0 : Int) ≤ (k : Int) := by omega
    have k4 : (k : Int) ≤ (c1 : Int) := by omega
    have k5 : ¬ (c1 : Int) < (k : Int) := by omega
    go_wp2_with fail
    go_ret2
    exact ⟨some ad, rfl, HX.out, HB.out⟩
set_option maxHeartbeats 1000000 in
theorem first_bad (A : Option Addr) (l cp : Nat) (k : Int) (w : World) (hk : k < 0 ∨ (l : Int) < k) :
    Calls Try.prog 8 #[.slice A l cp, .int .i64 k] w fun e w' => e = .returned (.tuple #[.slice none 0 0, .int .i64 2]) ∧ w = w' := by
  by_cases h : k < 0
  · clear hk
    go_enter Try.func8, Try.ntmps8
    go_wp2_with fail
    go_ret2
    exact ⟨rfl, rfl⟩
  · have h2 : (l : Int) < k := by omega
    clear hk
    go_enter Try.func8, Try.ntmps8
    go_wp2_with fail
    go_ret2
    exact ⟨rfl, rfl⟩
def aliveD : List DrR := [(2, 5), (1, 9), (1, 7)]
theorem aliveD_srt : srtD aliveD = [(1, 7), (1, 9), (2, 5)] := (srtD_one (m := [(1, 7), (1, 9), (2, 5)]) (by decide) (by decide)).symm
theorem Box.drs {w : World} {g : Nat} {t : TypeId} {xs : List DrR} (h : Box w g t (xs.flatMap encD).toArray) : Drs w (some ⟨g, 0, none⟩) xs.length xs := by
  refine ⟨rfl, fun _ => ⟨g, 0, rfl, h.lt, fun j hj k v hv => ?_⟩⟩
  have hk : k < 2 := by have := (List.getElem?_eq_some_iff.1 hv).1; rwa [encD_len] at this
  rw [Nat.zero_add, h.cell, List.getElem?_toArray, flat_at encD_len xs j k hj hk, hv]
set_option maxHeartbeats 1000000 in
theorem alive14_any (w : World) : Calls Try.prog 14 #[] w fun e w' => e = .returned (.bool true) ∧ Below w.heap.size w w' := by
  have q : Drs (w.alloc (.cells #[.int .i64 2, .int .u64 5, .int .i64 1, .int .u64 9, .int .i64 1, .int .u64 7] 24)) (some ⟨w.heap.size, 0, none⟩) 3 aliveD := Box.drs (xs := aliveD) (Box.new w 24 _)
  have hb : Below w.heap.size w (w.alloc (.cells #[.int .i64 2, .int .u64 5, .int .i64 1, .int .u64 9, .int .i64 1, .int .u64 7] 24)) := (Below.refl _ _).alloc (Nat.le_refl _) _
  have HS := Lib.hid (sorted_any (some ⟨w.heap.size, 0, none⟩) 3 3 aliveD _ (fun e => by cases e) q (by decide))
  have HB := Lib.hid hb
  rw [aliveD_srt] at HS
  clear q hb
  go_enter Try.func14, Try.ntmps14
  go_wp2_with fail
  refine HS.out.mono ?_
  rintro e w1 ⟨A1, c1, rfl, h1, h2, hb⟩
  have HB := Lib.hid (chain HB.out hb)
  obtain ⟨b, off, rfl, hlb, -, d1⟩ := Drs.cells h2 (Below.refl _ _) 0 (by decide)
  obtain ⟨b', off', he, hlb', -, e1⟩ := Drs.cells h2 (Below.refl _ _) 2 (by decide)
  injection he with he
  injection he with he1 he2
  subst he1 he2
  simp [List.getD] at d1 e1
  clear hb HS h1 h2
  go_wp2_with fail
  go_ret
  exact ⟨rfl, HB.out⟩
end Go.Proofs.Ytmfjbmojejplgaa
