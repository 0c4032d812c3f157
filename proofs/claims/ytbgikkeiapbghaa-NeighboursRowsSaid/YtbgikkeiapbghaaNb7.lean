/- The reference's Same of two matrices. -/
import Derived.Test.YtbgikkeiapbghaaNb5
import Derived.Test.YtbgikkeiapbghaaSame
import Derived.OpenShut
import Derived.Deep.RegionWith
namespace Go.Proofs.Ytbgikkeiapbghaa
open Go.RowKit
theorem flatR_at (k : Int) (rs : List (Option Addr × Nat × Nat)) (j : Nat) (hj : j < rs.length) : (flatR k rs)[j * 2]? = some (.int .i64 k) ∧ (flatR k rs)[j * 2 + 1]? = some (.slice (rs.getD j (none, 0, 0)).1 (rs.getD j (none, 0, 0)).2.1 (rs.getD j (none, 0, 0)).2.2) := by
  induction rs generalizing j with
  | nil => cases hj
  | cons r rs ih =>
    have e : flatR k (r :: rs) = .int .i64 k :: .slice r.1 r.2.1 r.2.2 :: flatR k rs := rfl
    cases j with
    | zero => rw [e]; exact ⟨rfl, rfl⟩
    | succ j =>
      have h := ih j (by simpa using hj)
      rw [e, show (j + 1) * 2 = j * 2 + 1 + 1 by omega]
      exact h
theorem add_zero_off (g j : Nat) : (⟨g, 0, none⟩ : Addr).add j = ⟨g, j, none⟩ := by unfold Addr.add; split <;> simp_all
theorem MatW.at {w : World} {base : Nat} {k : Int} {A : Option Addr} {n c : Nat} {ls : List (List Nat)} (h : MatW w base k (.slice A n c) ls) (j : Nat) (hj : j < ls.length) :
    ∃ g B l d, A = some ⟨g, 0, none⟩ ∧ g < w.heap.size ∧ w.cell? ⟨g, j * 2, none⟩ = some (.int .i64 k) ∧ w.cell? ⟨g, j * 2 + 1, none⟩ = some (.slice B l d) ∧ OwnW w B l d (ls.getD j []) := by
  obtain ⟨rs, h1, h2, h3⟩ := h
  obtain ⟨f1, f2⟩ := flatR_at k rs j (by omega)
  have h3 := h3 j hj
  have hA := h2.2
  rcases hA with ⟨-, h0⟩ | ⟨g, cap, cur, hv, -⟩
  · omega
  · injection hv with hA _ _
    subst hA
    have hc := World.ownsRow.cells h2 (g := g) rfl
    have c1 := hc _ _ f1
    have c2 := hc _ _ f2
    rw [add_zero_off] at c1 c2
    exact ⟨g, _, _, _, rfl, (h2.lt g rfl).2, c1, c2, h3⟩
set_option maxRecDepth 100000 in
set_option maxHeartbeats 2000000 in
theorem same3_yes (k : Int) (b1 b2 n m1 m2 : Nat) (A1 A2 : Option Addr) (ls : List (List Nat)) (w : World) (h1 : MatW w b1 k (.slice A1 n m1) ls) (h2 : MatW w b2 k (.slice A2 n m2) ls) (hn : ls.length = n) (hw : ∀ j i, (ls.getD j []).getD i 0 < 18446744073709551616) (hr : ∀ j, (ls.getD j []).length ≤ 1000) (hl : n ≤ 1000) :
    Calls Try.prog 13 #[.agg #[.int .i64 k, .slice A1 n m1], .agg #[.int .i64 k, .slice A2 n m2]] w fun e w' => e = .returned (.bool true) ∧ Below w.heap.size w w' := by
  have q0 := (Box.new w 40 #[.int .i64 k, .slice A1 n m1]).alloc (.cells #[.int .i64 k, .slice A2 n m2] 40)
  have q1 := Box.new (w.alloc (.cells #[.int .i64 k, .slice A1 n m1] 40)) 40 #[.int .i64 k, .slice A2 n m2]
  have HW := Lib.hid (show Below w.heap.size w ((w.alloc (.cells #[.int .i64 k, .slice A1 n m1] 40)).alloc (.cells #[.int .i64 k, .slice A2 n m2] 40)) from ((Below.refl _ _).alloc (Nat.le_refl _) _).alloc (by simp) _)
  simp only [World.size_alloc] at q1
  have M1 := Lib.hid (h1.below HW.out)
  have M2 := Lib.hid (h2.below HW.out)
  have HU := Lib.hid hw
  have HR := Lib.hid hr
  have Q0 := Lib.hid q0
  have Q1 := Lib.hid q1
  clear h1 h2 hw hr q0 q1
  have t1 : (k != k) = false := by simp
  have t2 : (((n : Nat) : Int) != ((n : Nat) : Int)) = false := by simp
  have HN := Lib.hid hn
  clear hn
  go_enter Try.func13, Try.ntmps13
  go_wp2_with fail
  generalize (w.alloc (.cells #[.int .i64 k, .slice A1 n m1] 40)).alloc (.cells #[.int .i64 k, .slice A2 n m2] 40) = W at *
  obtain ⟨a0, a1, -, -⟩ := Q0.out.two
  obtain ⟨c0, c1, -, -⟩ := Q1.out.two
  have hz0 := Q0.out.lt
  have hz1 := Q1.out.lt
  try go_quiet (fail)
  go_wp2_with fail
  go_loopw [23] (fun t wr => ∃ i : Nat, i ≤ n ∧ t = .int .i64 i ∧ Hid (Below W.heap.size W wr)) (fun t _ => n - (intOf t).toNat)
  case atStart => exact ⟨0, by omega, rfl, Lib.hid (Below.refl _ _)⟩
  case round =>
    obtain ⟨i, hi, rfl, HB⟩ := hrel
    by_cases hlt : i < n
    · have hlt' : (i : Int) < (n : Int) := by omega
      obtain ⟨g1, B1, l1, d1, rfl, hg1, x1, y1, o1⟩ := (M1.out.below HB.out).at i (by rw [HN.out]; exact hlt)
      obtain ⟨g2, B2, l2, d2, rfl, hg2, x2, y2, o2⟩ := (M2.out.below HB.out).at i (by rw [HN.out]; exact hlt)
      have O1 := Lib.hid (o1.words (HU.out i))
      have O2 := Lib.hid (o2.words (HU.out i))
      clear o1 o2
      have R0 := Lib.hid (Q0.out.below HB.out hz0)
      have R1 := Lib.hid (Q1.out.below HB.out hz1)
      obtain ⟨e0, e1, -, -⟩ := R0.out.two
      obtain ⟨f0, f1, -, -⟩ := R1.out.two
      have LZ0 := Lib.hid R0.out.lt
      have LZ1 := Lib.hid R1.out.lt
      have LG1 := Lib.hid hg1
      have LG2 := Lib.hid hg2
      clear hg1 hg2
      have HSS := Lib.hid (show sameB k (ls.getD i []) k (ls.getD i []) = true by simp [sameB])
      go_wp2_with fail
      go_region_held3 (fun w' => w'.cell? ⟨w.heap.size, 1, none⟩ = some (.slice (some ⟨g1, 0, none⟩) n m1) ∧ w'.cell? ⟨w.heap.size + 1, 1, none⟩ = some (.slice (some ⟨g2, 0, none⟩) n m2) ∧ w'.cell? ⟨g1, i * 2, none⟩ = some (.int .i64 k) ∧ w'.cell? ⟨g1, i * 2 + 1, none⟩ = some (.slice B1 l1 d1) ∧ w'.cell? ⟨g2, i * 2, none⟩ = some (.int .i64 k) ∧ w'.cell? ⟨g2, i * 2 + 1, none⟩ = some (.slice B2 l2 d2)) (go_keep)
        (first
          | (go_at_call 8; refine (same_any k k B1 B2 l1 d1 l2 d2 _ _ _ O1.out.drew O2.out.drew (by have := O1.out.1; have := HR.out i; omega)).mono ?_; rintro ee ww ⟨rfl, hb⟩; rw [HSS.out]; have HB1 := Lib.hid (HB.out.drew.trans (hb.mono HB.out.size)); have e1' := (hb.cell (p := ⟨w.heap.size, 1, none⟩) LZ0.out).trans e1; have f1' := (hb.cell (p := ⟨w.heap.size + 1, 1, none⟩) LZ1.out).trans f1; have x1' := (hb.cell (p := ⟨g1, i * 2, none⟩) LG1.out).trans x1; have y1' := (hb.cell (p := ⟨g1, i * 2 + 1, none⟩) LG1.out).trans y1; have x2' := (hb.cell (p := ⟨g2, i * 2, none⟩) LG2.out).trans x2; have y2' := (hb.cell (p := ⟨g2, i * 2 + 1, none⟩) LG2.out).trans y2; clear hb))
      go_wp2_with fail
      go_roundw
      case rel => exact ⟨i + 1, by omega, by go_num, HB1⟩
      case measure => simp [intOf] <;> omega
    · obtain rfl : i = n := by omega
      have hlt' : ¬ (i : Int) < (i : Int) := by omega
      go_wp2
      go_ret
      exact ⟨rfl, HW.out.trans (HB.out.mono HW.out.size)⟩
end Go.Proofs.Ytbgikkeiapbghaa
