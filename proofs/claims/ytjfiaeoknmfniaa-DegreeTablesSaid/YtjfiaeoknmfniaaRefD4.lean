/- Contract of layer 7's reference: Same. -/
import Derived.Test.YtjfiaeoknmfniaaRefD3
namespace Go.Proofs.Ytjfiaeoknmfniaa
open Go.RowKit
set_option maxHeartbeats 2000000 in
theorem same7_any (A B : Option Addr) (l c k d : Nat) (us vs : List Nat) (w : World) (hu : Words w A l us) (hv : Words w B k vs) (hl : l ≤ 1000000) (hk : k ≤ 1000000) :
    Calls Try.prog 30 #[.slice A l c, .slice B k d] w fun e w' => e = .returned (.bool (us == vs)) ∧ Below w.heap.size w w' := by
  have HU := Lib.hid hu
  have HV := Lib.hid hv
  clear hu hv
  by_cases hlk : l = k
  · subst hlk
    have t2 : ((l : Int) != (l : Int)) = false := by simp
    go_enter Try.func30, Try.ntmps30
    go_wp2
    clear t2
    go_loopw [13] (fun i wr => ∃ j : Nat, j ≤ l ∧ i = .int .i64 j ∧ (∀ t, t < j → us.getD t 0 = vs.getD t 0) ∧ Below w.heap.size w wr) (fun i _ => l - (intOf i).toNat)
    case atStart => exact ⟨0, by omega, rfl, fun t h => by omega, Below.refl _ _⟩
    case round =>
      obtain ⟨j, hj, rfl, heq, hbel⟩ := hrel
      have HB := Lib.hid hbel
      have HE := Lib.hid heq
      clear hbel heq
      by_cases hlt : j < l
      · obtain ⟨p, o, rfl, lt1, hc1⟩ := HU.out.2.2 (by omega)
        obtain ⟨p2, o2, rfl, lt2, hc2⟩ := HV.out.2.2 (by omega)
        have cu := (HB.out.cell (p := ⟨p, o + j, none⟩) lt1).trans (hc1 j hlt)
        have cv := (HB.out.cell (p := ⟨p2, o2 + j, none⟩) lt2).trans (hc2 j hlt)
        obtain ⟨x, ex⟩ : ∃ x, x = us.getD j 0 := ⟨_, rfl⟩
        obtain ⟨y, ey⟩ : ∃ y, y = vs.getD j 0 := ⟨_, rfl⟩
        rw [← ex] at cu
        rw [← ey] at cv
        have hxy := Lib.hid (And.intro ex ey)
        clear ex ey hc1 hc2
        have hlt' : (j : Int) < (l : Int) := by omega
        have hj0 : (0 : Int) ≤ (j : Int) := by omega
        by_cases e : x = y
        · have t3 : ((x : Int) != (y : Int)) = false := by simp [e]
          have HXY := Lib.hid e
          clear e
          go_wp2
          go_quiet (fail)
          go_wp2
          go_roundw
          case rel =>
            refine ⟨j + 1, by omega, by go_num, fun t ht => ?_, bdN HB.out _⟩
            by_cases h : t = j
            · rw [h, ← hxy.out.1, ← hxy.out.2]; exact HXY.out
            · exact HE.out t (by omega)
          case measure => simp [intOf]; omega
        · have t3 : ((x : Int) != (y : Int)) = true := by rw [bne_iff_ne]; omega
          have HF : Hid ((us == vs) = false) := by
            show (us == vs) = false
            rw [beq_eq_false_iff_ne]
            intro h
            apply e
            rw [hxy.out.1, hxy.out.2, h]
          clear e
          go_wp2
          go_quiet (fail)
          go_wp2
          go_ret
          exact ⟨by rw [HF.out]; rfl, bdN HB.out _⟩
      · obtain rfl : j = l := by omega
        have HF : Hid ((us == vs) = true) := by
          show (us == vs) = true
          rw [beq_iff_eq]
          apply List.ext_getElem
          · rw [HU.out.1, HV.out.1]
          · intro i h1 h2
            have := HE.out i (by rw [HU.out.1] at h1; exact h1)
            simpa [List.getD, h1, h2] using this
        go_wp2
        go_ret
        exact ⟨by rw [HF.out]; rfl, HB.out⟩
  · have t2 : ((l : Int) != (k : Int)) = true := by rw [bne_iff_ne]; omega
    have HF : Hid ((us == vs) = false) := by
      show (us == vs) = false
      rw [beq_eq_false_iff_ne]
      intro h
      apply hlk
      rw [← HU.out.1, ← HV.out.1, h]
    go_enter Try.func30, Try.ntmps30
    go_wp2
    go_ret
    exact ⟨by rw [HF.out]; rfl, Below.refl _ _⟩
end Go.Proofs.Ytjfiaeoknmfniaa
