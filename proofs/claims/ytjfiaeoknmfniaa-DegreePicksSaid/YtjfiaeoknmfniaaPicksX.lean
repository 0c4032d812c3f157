/- DegreePicks: the walk. -/
import Derived.Test.YtjfiaeoknmfniaaDeg3
import Derived.Test.YtjfiaeoknmfniaaOpenW
namespace Go.Proofs.Ytjfiaeoknmfniaa
open Go.RowKit
set_option maxHeartbeats 2000000 in
theorem picks_walk (A : Option Addr) (l c : Nat) (ws : List Nat) (n : Nat) (w : World) (hn : n < 18446744073709551616) (hs : SliceOk A l c) (hw : Words w A l ws) :
    Calls Try.prog 8 #[.slice A l c, .int .u64 n] w fun e w' => e = .returned (.bool true) ∧ Below w.heap.size w w' := by
  obtain ⟨h1, h2, h3⟩ := hs
  unfold maxLen at h2
  cases A with
  | none =>
    obtain ⟨rfl, rfl⟩ := h3 rfl
    clear h3
    cases ht : tabB ws with
    | true =>
      have HP := Lib.hid (pick_yes none 0 0 ws n _ hw (by unfold maxLen; omega) (by omega) hn ht)
      have HT := Lib.hid ht
      have HW := Lib.hid hw
      clear ht hw
      go_enter Try.func8, Try.ntmps8
      go_wp2_with fail
      refine HP.out.mono ?_
      rintro e w1 ⟨rfl, hb⟩
      have B1 := Lib.hid hb
      have HW := Lib.hid (HW.out.below hb)
      clear hb HP
      go_wp2_with fail
      refine (refRight7_any none 0 0 ws _ HW.out (by unfold maxLen; omega) (by omega)).mono ?_
      rintro e w2 ⟨rfl, q, rfl⟩
      rw [HT.out]
      have B1 := Lib.hid (bdN B1.out q)
      have HW := Lib.hid (show Words (w1.drewN q) none 0 ws from HW.out)
      generalize w1.drewN q = w2 at *
      go_wp2_with fail
      refine (alive7_any _).mono ?_
      rintro e w3 ⟨rfl, hb⟩
      have B3 := Lib.hid (chain B1.out hb)
      have HW := Lib.hid (HW.out.below hb)
      clear hb
      go_wp2_with fail
      refine (refPick_any none 0 0 ws n _ HW.out (by unfold maxLen; omega) (by omega) hn HT.out).mono ?_
      rintro e w4 ⟨rfl, q2, rfl⟩
      go_wp2_with fail
      go_ret
      exact ⟨by simp, bdN B3.out q2⟩
    | false =>
      have HP := Lib.hid (pick_no none 0 0 ws n _ hw (by unfold maxLen; omega) ht)
      have HT := Lib.hid ht
      have HW := Lib.hid hw
      clear ht hw
      go_enter Try.func8, Try.ntmps8
      go_wp2_with fail
      refine HP.out.mono ?_
      rintro e w1 ⟨rfl, hb⟩
      have B1 := Lib.hid hb
      have HW := Lib.hid (HW.out.below hb)
      clear hb HP
      go_wp2_with fail
      refine (refRight7_any none 0 0 ws _ HW.out (by unfold maxLen; omega) (by omega)).mono ?_
      rintro e w2 ⟨rfl, q, rfl⟩
      rw [HT.out]
      have B1 := Lib.hid (bdN B1.out q)
      generalize w1.drewN q = w2 at *
      go_wp2_with fail
      refine (alive7_any _).mono ?_
      rintro e w3 ⟨rfl, hb⟩
      have B3 := Lib.hid (chain B1.out hb)
      clear hb
      go_wp2_with fail
      go_ret
      exact ⟨by simp, B3.out⟩
  | some ad =>
    clear h3
    by_cases h66 : l ≤ 66
    · have g1 : (l : Int) ≤ 66 := by omega
      have g2 : ¬ (66 : Int) < l := by omega
      cases ht : tabB ws with
      | true =>
        have HP := Lib.hid (pick_yes (some ad) l c ws n _ hw (by unfold maxLen; omega) (by omega) hn ht)
        have HT := Lib.hid ht
        have HW := Lib.hid hw
        clear ht hw
        go_enter Try.func8, Try.ntmps8
        go_wp2_with fail
        refine HP.out.mono ?_
        rintro e w1 ⟨rfl, hb⟩
        have B1 := Lib.hid hb
        have HW := Lib.hid (HW.out.below hb)
        clear hb HP
        go_wp2_with fail
        refine (refRight7_any (some ad) l c ws _ HW.out (by unfold maxLen; omega) (by omega)).mono ?_
        rintro e w2 ⟨rfl, q, rfl⟩
        rw [HT.out]
        have B1 := Lib.hid (bdN B1.out q)
        have HW := Lib.hid (show Words (w1.drewN q) (some ad) l ws from HW.out)
        generalize w1.drewN q = w2 at *
        go_wp2_with fail
        refine (alive7_any _).mono ?_
        rintro e w3 ⟨rfl, hb⟩
        have B3 := Lib.hid (chain B1.out hb)
        have HW := Lib.hid (HW.out.below hb)
        clear hb
        go_wp2_with fail
        refine (refPick_any (some ad) l c ws n _ HW.out (by unfold maxLen; omega) (by omega) hn HT.out).mono ?_
        rintro e w4 ⟨rfl, q2, rfl⟩
        go_wp2_with fail
        go_ret
        exact ⟨by simp, bdN B3.out q2⟩
      | false =>
        have HP := Lib.hid (pick_no (some ad) l c ws n _ hw (by unfold maxLen; omega) ht)
        have HT := Lib.hid ht
        have HW := Lib.hid hw
        clear ht hw
        go_enter Try.func8, Try.ntmps8
        go_wp2_with fail
        refine HP.out.mono ?_
        rintro e w1 ⟨rfl, hb⟩
        have B1 := Lib.hid hb
        have HW := Lib.hid (HW.out.below hb)
        clear hb HP
        go_wp2_with fail
        refine (refRight7_any (some ad) l c ws _ HW.out (by unfold maxLen; omega) (by omega)).mono ?_
        rintro e w2 ⟨rfl, q, rfl⟩
        rw [HT.out]
        have B1 := Lib.hid (bdN B1.out q)
        generalize w1.drewN q = w2 at *
        go_wp2_with fail
        refine (alive7_any _).mono ?_
        rintro e w3 ⟨rfl, hb⟩
        have B3 := Lib.hid (chain B1.out hb)
        clear hb
        go_wp2_with fail
        go_ret
        exact ⟨by simp, B3.out⟩
    · have g1 : (66 : Int) < l := by omega
      have g3 : (66 : Int) ≤ c := by omega
      have hw' := hw.take 66 (by omega)
      clear hw
      generalize ws.take 66 = us at *
      cases ht : tabB us with
      | true =>
        have HP := Lib.hid (pick_yes (some ad) 66 c us n _ hw' (by unfold maxLen; omega) (by omega) hn ht)
        have HT := Lib.hid ht
        have HW := Lib.hid hw'
        clear ht hw'
        go_enter Try.func8, Try.ntmps8
        go_wp2_with fail
        refine HP.out.mono ?_
        rintro e w1 ⟨rfl, hb⟩
        have B1 := Lib.hid hb
        have HW := Lib.hid (HW.out.below hb)
        clear hb HP
        go_wp2_with fail
        refine (refRight7_any (some ad) 66 c us _ HW.out (by unfold maxLen; omega) (by omega)).mono ?_
        rintro e w2 ⟨rfl, q, rfl⟩
        rw [HT.out]
        have B1 := Lib.hid (bdN B1.out q)
        have HW := Lib.hid (show Words (w1.drewN q) (some ad) 66 us from HW.out)
        generalize w1.drewN q = w2 at *
        go_wp2_with fail
        refine (alive7_any _).mono ?_
        rintro e w3 ⟨rfl, hb⟩
        have B3 := Lib.hid (chain B1.out hb)
        have HW := Lib.hid (HW.out.below hb)
        clear hb
        go_wp2_with fail
        refine (refPick_any (some ad) 66 c us n _ HW.out (by unfold maxLen; omega) (by omega) hn HT.out).mono ?_
        rintro e w4 ⟨rfl, q2, rfl⟩
        go_wp2_with fail
        go_ret
        exact ⟨by simp, bdN B3.out q2⟩
      | false =>
        have HP := Lib.hid (pick_no (some ad) 66 c us n _ hw' (by unfold maxLen; omega) ht)
        have HT := Lib.hid ht
        have HW := Lib.hid hw'
        clear ht hw'
        go_enter Try.func8, Try.ntmps8
        go_wp2_with fail
        refine HP.out.mono ?_
        rintro e w1 ⟨rfl, hb⟩
        have B1 := Lib.hid hb
        have HW := Lib.hid (HW.out.below hb)
        clear hb HP
        go_wp2_with fail
        refine (refRight7_any (some ad) 66 c us _ HW.out (by unfold maxLen; omega) (by omega)).mono ?_
        rintro e w2 ⟨rfl, q, rfl⟩
        rw [HT.out]
        have B1 := Lib.hid (bdN B1.out q)
        generalize w1.drewN q = w2 at *
        go_wp2_with fail
        refine (alive7_any _).mono ?_
        rintro e w3 ⟨rfl, hb⟩
        have B3 := Lib.hid (chain B1.out hb)
        clear hb
        go_wp2_with fail
        go_ret
        exact ⟨by simp, B3.out⟩
end Go.Proofs.Ytjfiaeoknmfniaa
