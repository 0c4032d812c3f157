/- Contracts of layer 7's reference: Weights, Table. -/
import Derived.Test.YtbgikkeiapbghaaRefD2
import Derived.Test.YtbgikkeiapbghaaDegS1
namespace Go.Proofs.Ytbgikkeiapbghaa
open Go.RowKit
/-- A slice of words is returned. -/
def WordsRet (zs : List Nat) (w : World) (e : Ending) (w' : World) : Prop := ∃ v, e = .returned v ∧ w'.ownsRow w.heap.size 22 1 v zs.length (zs.map u64V) ∧ Below w.heap.size w w'
set_option maxHeartbeats 2000000 in
theorem refWeights_any (k : Nat) (h1 : 1 ≤ k) (h2 : k ≤ 64) (w : World) : Calls Try.prog 29 #[.int .i64 k] w (WordsRet (wgts k k) w) := by
  obtain ⟨i0, hi, hz0, hz1, hz2⟩ := info_parts u64_infoW
  have HI := Lib.hid hi
  have HZ0 := Lib.hid hz0
  have HZ1 := Lib.hid hz1
  have HZ2 := Lib.hid hz2
  clear hi hz0 hz1 hz2
  go_enter Try.func29, Try.ntmps29
  go_wp2
  have HOw := Lib.hid (own_empty w w.heap.size 22 (Nat.le_refl _))
  have HW := Lib.hid ((Below.refl w.heap.size w).alloc (Nat.le_refl _) (.cells #[] 22))
  go_loopw [3, 4] (fun v t wr => ∃ d : Nat, 1 ≤ d ∧ d ≤ k + 1 ∧ t = .int .i64 d ∧ wr.ownsRow w.heap.size 22 1 v (d - 1) ((wgts k (d - 1)).map u64V) ∧ Below w.heap.size w wr)
    (fun _ t _ => k + 1 - (intOf t).toNat)
  case atStart => exact ⟨1, by omega, by omega, rfl, HOw.out, HW.out⟩
  case round =>
    obtain ⟨d, hd1, hd, rfl, hown, hbel⟩ := hrel
    have HO := Lib.hid hown
    have HB := Lib.hid hbel
    clear hown hbel HW HOw
    by_cases hlt : d ≤ k
    · have hlt' : (d : Int) ≤ (k : Int) := by omega
      have hi' := HI.out
      have hz0' := HZ0.out
      have hz1' := HZ1.out
      have hz2' := HZ2.out
      have HS := Lib.hid (show wgts k (d + 1 - 1) = wgts k (d - 1) ++ [wgt k d] by
        obtain ⟨c, rfl⟩ : ∃ c, d = c + 1 := ⟨d - 1, by omega⟩
        exact wgts_succ k c)
      have HWT := Lib.hid (refWeight_any k d h1 h2 hd1 (by omega))
      generalize wgt k d = x at *
      have XO := Lib.hid (HO.out.alloc (.cells #[.int .u64 (x : Int)] 22))
      have XB := Lib.hid (HB.out.alloc HB.out.size (.cells #[.int .u64 (x : Int)] 22))
      have N2 := Lib.hid (fun k hk => (HO.out.lt k hk).1)
      go_wp2_with fail
      refine (HWT.out _).mono ?_
      rintro e w9 ⟨rfl, rfl⟩
      go_wp2_with (at_builtin; refine wpList_append_own _ rfl _ _ 27 rfl w.heap.size 22 i0 (.int .u64 0) 1 8 Try.underlying27 hi' hz0' hz1' hz2' rfl (by decide) _ _ _ rfl XO.out ⟨wr.heap.size, 0, none⟩ 1 1 [.int .u64 (x : Int)] rfl rfl (cell_one_new _ _ _) (by simp [Value.oneCell']) (by simp [maxLen]; omega) (by omega) XB.out.size ?_; intro v' w1 hown' hgrow _; have HC := Lib.hid (XB.out.grown hgrow XB.out.size N2.out); have HO2 := Lib.hid hown'; clear hown' hgrow)
      go_roundw
      case rel =>
        refine ⟨d + 1, by omega, by omega, by go_num, ?_, HC.out⟩
        rw [HS.out, List.map_append, show d + 1 - 1 = d - 1 + 1 by omega]
        exact HO2.out
      case measure => simp [intOf] <;> omega
    · have he : d - 1 = k := by omega
      have hlt' : ¬ (d : Int) ≤ (k : Int) := by omega
      rw [he] at HO
      have HL := Lib.hid (wgts_len k k)
      clear he
      go_wp2
      go_ret
      exact ⟨_, rfl, by rw [HL.out]; exact HO.out, HB.out⟩
end Go.Proofs.Ytbgikkeiapbghaa
