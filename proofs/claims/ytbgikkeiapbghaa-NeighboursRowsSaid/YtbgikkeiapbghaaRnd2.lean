/- Contract of layer 6's reference: Below. -/
import Derived.Test.YtbgikkeiapbghaaRnd1
import Derived.Deep.LoopGhost
namespace Go.Proofs.Ytbgikkeiapbghaa
open Go.RowKit
theorem step_wrap (s : Nat) : IntKind.u64.wrap ((s : Int) + 11400714819323198485) = ((nextS s : Nat) : Int) := by
  rw [IntKind.wrap_u64, nextS]; rfl
set_option maxHeartbeats 1000000 in
theorem refBelow_any (s n : Nat) (hs : s < 18446744073709551616) (h1 : 1 ≤ n) (h2 : n ≤ 512) (w : World) :
    Calls Try.prog 47 #[.int .u64 s, .int .i64 n] w fun e w' => e = .returned (.agg #[.int .u64 ((belowN n s).1 : Nat), .int .i64 ((belowN n s).2 : Nat)]) ∧ Below w.heap.size w w' := by
  have HT := Lib.hid (show belowN n s = belowN n s from rfl)
  generalize hb : belowN n s = b at HT ⊢
  have HB := Lib.hid hb
  clear hb HT
  have HR := Lib.hid (rest_any n h1 h2)
  have ho := over_lt n h1 h2
  have HG := Lib.hid (gw_all (18446744073709551616 % n) s ho hs)
  have HB2 := Lib.hid (show belowF n (18446744073709551616 % n) 512 s = b from HB.out)
  generalize 18446744073709551616 % n = over at *
  have g1 : (1 : Int) ≤ n := by omega
  have Z := Lib.hid (Box.new w 82 #[.int .u64 0, .int .i64 0])
  have B := Lib.hid ((Below.refl w.heap.size w).alloc (Nat.le_refl _) (.cells #[.int .u64 0, .int .i64 0] 82))
  obtain ⟨c0, c1, f0, f1⟩ := Z.out.two
  obtain ⟨T, hT⟩ : ∃ T : Nat, T + over = 18446744073709551615 := ⟨18446744073709551615 - over, by omega⟩
  have hT2 : IntKind.u64.wrap (18446744073709551615 - (over : Int)) = (T : Int) := by rw [IntWalk.u64_in _ (by omega)]; omega
  have HT := Lib.hid hT
  clear hT
  go_enter Try.func47, Try.ntmps47
  go_wp2_with fail
  refine (HR.out _).mono ?_
  rintro e w1 ⟨rfl, rfl⟩
  go_wp2_with fail
  clear hT2
  go_loopg [0, 6] 512 (fun k s0 s6 wr => ∃ t : Nat, t < 18446744073709551616 ∧ s0 = .int .u64 t ∧ Hid (gw over k t) ∧ Hid (belowF n over k t = b) ∧ wr = w.alloc (.cells #[.int .u64 0, .int .i64 0] 82))
  case atStart => exact ⟨s, hs, rfl, HG, HB2, rfl⟩
  case round =>
    obtain ⟨t, ht, rfl, hgw, hbf, rfl⟩ := hrel
    cases gk with
    | zero => exact hgw.out.elim
    | succ k =>
      have hst := step_wrap t
      have hlt := nextS_lt t
      have HGD := Lib.hid (show good over t ↔ mixN (nextS t) ≤ T from by
        have := HT.out
        unfold good
        constructor
        · intro h; omega
        · intro h; omega)
      have HBF := Lib.hid (show belowF n over (k + 1) t = if good over t then (nextS t, mixN (nextS t) % n) else belowF n over k (nextS t) from rfl)
      rw [hbf.out] at HBF
      have HGW := Lib.hid (show good over t ∨ gw over k (nextS t) from hgw.out)
      have HM := Lib.hid (refMixed_any (nextS t) hlt)
      have hxl := mixN_lt (nextS t)
      generalize nextS t = t' at *
      generalize mixN t' = x at *
      by_cases hg : x ≤ T
      · have hg' : (x : Int) ≤ (T : Int) := by omega
        have hg2 : good over t := HGD.out.2 hg
        rw [if_pos hg2] at HBF
        clear hgw hbf hg2
        go_wp2_with fail
        refine (HM.out _).mono ?_
        rintro e w1 ⟨rfl, rfl⟩
        go_wp2_with fail
        refine close_one Try.results47 rfl rfl (Box.new w _ _) Try.underlying82 rfl (by kernel_rfl) ?_
        have ew : wrap64 ((x : Int) % (n : Int)) = ((x % n : Nat) : Int) := by
          rw [← IntWalk.i64_left]
          have := Nat.mod_lt x h1
          exact IntWalk.i64_in _ (by omega)
        rw [ew, HBF.out]
        exact ⟨rfl, (Below.refl w.heap.size w).alloc (Nat.le_refl _) _⟩
      · have hg' : ¬ (x : Int) ≤ (T : Int) := by omega
        have hg2 : ¬ good over t := fun y => hg (HGD.out.1 y)
        rw [if_neg hg2] at HBF
        have HBF2 : Hid (belowF n over k t' = b) := Lib.hid (Eq.symm HBF.out)
        have hgw2 := Lib.hid (HGW.out.resolve_left hg2)
        clear hg2 hgw hbf
        go_wp2_with fail
        refine (HM.out _).mono ?_
        rintro e w1 ⟨rfl, rfl⟩
        go_wp2_with fail
        go_roundg k
        case rel => exact ⟨t', hlt, rfl, hgw2, HBF2, rfl⟩
        case measure => omega
end Go.Proofs.Ytbgikkeiapbghaa
