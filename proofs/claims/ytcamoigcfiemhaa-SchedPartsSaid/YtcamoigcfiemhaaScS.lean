/- Layer 20: the reference's instrs. -/
import Derived.Test.YtcamoigcfiemhaaScR
namespace Go.Proofs.Ytcamoigcfiemhaa
set_option linter.unusedVariables false
set_option linter.unusedSimpArgs false
open Go.RowKit Go.Lib
set_option maxRecDepth 100000
theorem take_eq_snoc {α : Type} [Inhabited α] (xs ys : List α) (k : Nat) (h1 : k < xs.length) (h2 : k < ys.length) (h : xs.take k = ys.take k) (he : xs.getD k default = ys.getD k default) : xs.take (k + 1) = ys.take (k + 1) := by
  rw [take_snocD xs k h1, take_snocD ys k h2, h, he]
set_option maxHeartbeats 4000000 in
theorem refInstrs_any (A : Option Addr) (l c : Nat) (xs : List InR) (B : Option Addr) (m d : Nat) (ys : List InR) (w : World) (hx : Inss w A l xs) (hy : Inss w B m ys) (hl : l ≤ maxLen) : Calls Try.prog 43 #[.slice A l c, .slice B m d] w fun e w' => e = .returned (.bool (decide (xs = ys))) ∧ Below w.heap.size w w' := by
  unfold maxLen at hl
  have HX := Lib.hid hx
  have HY := Lib.hid hy
  have HLx := Lib.hid hx.1
  have HLy := Lib.hid hy.1
  clear hx hy
  by_cases hlm : l = m
  · subst hlm
    have tl : ((l : Int) != (l : Int)) = false := by simp
    go_enter Try.func43, Try.ntmps43
    go_wp2_with fail
    go_loopw [13] (fun t wr => ∃ k : Nat, k ≤ l ∧ t = .int .i64 (k : Int) ∧ Hid (xs.take k = ys.take k) ∧ Hid (Below w.heap.size w wr)) (fun t _ => l - (Go.RowKit.intOf t).toNat)
    case atStart => exact ⟨0, Nat.zero_le _, rfl, Lib.hid rfl, Lib.hid (Below.refl _ _)⟩
    case round =>
      obtain ⟨k, hk, rfl, HT, HB⟩ := hrel
      by_cases hlt : k < l
      · have hlt' : (k : Int) < (l : Int) := by omega
        obtain ⟨b, o, rfl, -, x0, x1, x2⟩ := Inss.cells HX.out HB.out k hlt
        obtain ⟨b', o', rfl, -, y0, y1, y2⟩ := Inss.cells HY.out HB.out k hlt
        have HS := Lib.hid (fun he => take_eq_snoc xs ys k (by rw [HLx.out]; exact hlt) (by rw [HLy.out]; exact hlt) HT.out he)
        have HF := Lib.hid (show ¬ xs.getD k default = ys.getD k default → decide (xs = ys) = false from fun hne => decide_eq_false fun e => hne (by rw [e]))
        obtain ⟨⟨p0, p1, p2⟩, hp⟩ : ∃ x, x = xs.getD k default := ⟨_, rfl⟩
        obtain ⟨⟨q0, q1, q2⟩, hq⟩ : ∃ x, x = ys.getD k default := ⟨_, rfl⟩
        rw [← hp] at x0 x1 x2 HS HF
        rw [← hq] at y0 y1 y2 HS HF
        clear hp hq
        dsimp only at x0 x1 x2 y0 y1 y2
        go_upto_region 6 with (fail)
        go_cut [24] (fun v wx => v = .bool (decide (¬ (p0, p1, p2) = (q0, q1, q2))) ∧ Hid (Below w.heap.size w wx))
        case first =>
          by_cases e0 : p0 = q0
          · by_cases e1 : p1 = q1
            · by_cases e2 : p2 = q2
              · subst e0 e1 e2
                go_region
                all_goals
                  go_wp2_with fail
                  go_meet
                  exact ⟨by simp, Lib.hid HB.out.drew⟩
              · subst e0 e1
                go_region
                all_goals
                  go_wp2_with fail
                  go_meet
                  exact ⟨by simp [e2], Lib.hid HB.out.drew⟩
            · subst e0
              go_region
              all_goals
                go_wp2_with fail
                go_meet
                exact ⟨by simp [e1], Lib.hid HB.out.drew⟩
          · go_region
            all_goals
              go_wp2_with fail
              go_meet
              exact ⟨by simp [e0], Lib.hid HB.out.drew⟩
        case rest =>
          obtain ⟨rfl, HB1⟩ := hcut
          clear x0 x1 x2 y0 y1 y2
          by_cases q : (p0, p1, p2) = (q0, q1, q2)
          · have HSx := Lib.hid (HS.out q)
            have tq : decide (¬ (p0, p1, p2) = (q0, q1, q2)) = false := decide_eq_false (fun h => h q)
            rw [tq]
            clear q tq
            go_wp2_with fail
            go_roundw
            case rel => exact ⟨k + 1, by omega, by go_num, HSx, HB1⟩
            case measure => simp [Go.RowKit.intOf] <;> omega
          · have HFx := Lib.hid (HF.out q)
            have tq : decide (¬ (p0, p1, p2) = (q0, q1, q2)) = true := decide_eq_true q
            rw [tq]
            clear q tq
            go_wp2_with fail
            go_ret
            exact ⟨by rw [HFx.out]; rfl, HB1.out⟩
      · obtain rfl : k = l := by omega
        have hlt' : ¬ (k : Int) < (k : Int) := by omega
        have HE := Lib.hid (show decide (xs = ys) = true by
          have := HT.out
          rw [List.take_of_length_le (by rw [HLx.out]; exact Nat.le_refl _), List.take_of_length_le (by rw [HLy.out]; exact Nat.le_refl _)] at this
          exact decide_eq_true this)
        go_wp2_with fail
        go_ret
        exact ⟨by rw [HE.out]; rfl, HB.out⟩
  · have tl : ((l : Int) != (m : Int)) = true := by simp; omega
    have HE := Lib.hid (show decide (xs = ys) = false from decide_eq_false fun e => hlm (by rw [← HLx.out, ← HLy.out, e]))
    go_enter Try.func43, Try.ntmps43
    go_wp2_with fail
    go_ret
    exact ⟨by rw [HE.out]; rfl, Below.refl _ _⟩
end Go.Proofs.Ytcamoigcfiemhaa
