/- Contract of layer 7's reference: Table. -/
import Derived.Test.YtbgikkeiapbghaaRefD4
import Derived.ArgAppend
namespace Go.Proofs.Ytbgikkeiapbghaa
open Go.RowKit
set_option maxHeartbeats 2000000 in
theorem refTable_any (k : Nat) (h1 : 1 ≤ k) (h2 : k ≤ 64) (w : World) : Calls Try.prog 20 #[.int .i64 k] w (WordsRet (tbl (wgts k k)) w) := by
  obtain ⟨i0, hi, hz0, hz1, hz2⟩ := info_parts u64_infoW
  have HI := Lib.hid hi
  have HZ0 := Lib.hid hz0
  have HZ1 := Lib.hid hz1
  have HZ2 := Lib.hid hz2
  clear hi hz0 hz1 hz2
  have HWN := Lib.hid (refWeights_any k h1 h2)
  have HWL := Lib.hid (wgts_len k k)
  have HWb := Lib.hid (wgts_lt k h1 h2)
  go_enter Try.func20, Try.ntmps20
  go_wp2_with fail
  refine (HWN.out _).mono ?_
  rintro e w1 ⟨v1, rfl, ho1, hb⟩
  rw [HWL.out] at ho1
  obtain ⟨A1, c1, rfl, q1, q1', hw1⟩ := own_slice ho1 HWb.out
  have W1 := Lib.hid hw1
  have B1 := Lib.hid (chain ((Below.refl w.heap.size w).alloc (Nat.le_refl _) (.cells #[] 22)) hb)
  clear ho1 hw1 hb HWN
  generalize wgts k k = ws at *
  go_wp2_with fail
  have n1 := B1.out.size
  go_loopw [3, 4, 11] (fun v s c wr => ∃ i : Nat, i ≤ k ∧ c = .int .i64 i ∧ s = .int .u64 (sumN (ws.take i) : Nat) ∧ Hid ((i = 0 ∧ v = .slice (some ⟨w.heap.size, 0, none⟩) 0 0) ∨ (1 ≤ i ∧ wr.ownsRow w1.heap.size 22 1 v i ((tbl (ws.take i)).map u64V))) ∧ Below w1.heap.size w1 wr) (fun _ _ c _ => k - (intOf c).toNat)
  case atStart => exact ⟨0, by omega, rfl, rfl, Lib.hid (.inl ⟨rfl, rfl⟩), Below.refl _ _⟩
  case round =>
    obtain ⟨i, hi, rfl, rfl, HV, hbel⟩ := hrel
    have HB := Lib.hid hbel
    clear hbel
    by_cases hlt : i < k
    · have hlt' : (i : Int) < k := by omega
      obtain ⟨b, off, rfl, hb, hc⟩ := W1.out.2.2 (by omega)
      have cA := (HB.out.cell (p := ⟨b, off + i, none⟩) hb).trans (hc i hlt)
      clear hc
      have hsu := sumN_take ws i (by rw [HWL.out]; exact hlt)
      have hwn := wrap_nat (sumN (ws.take i)) (ws.getD i 0)
      rw [← hsu] at hwn
      have HT := Lib.hid (show tbl (ws.take (i + 1)) = tbl (ws.take i) ++ [sumN (ws.take (i + 1))] by
        rw [List.take_succ_eq_append_getElem (by rw [HWL.out]; exact hlt)]; exact tbl_snoc _ _)
      have HT0 := Lib.hid (show i = 0 → tbl (ws.take i) = [] from fun e => by rw [e]; rfl)
      clear hsu
      generalize hs' : sumN (ws.take (i + 1)) = y at *
      have HY := Lib.hid hs'
      clear hs'
      generalize sumN (ws.take i) = s0 at *
      generalize ws.getD i 0 = x at *
      have hi' := HI.out
      have hz0' := HZ0.out
      have hz1' := HZ1.out
      have hz2' := HZ2.out
      have XB := Lib.hid (HB.out.alloc HB.out.size (.cells #[.int .u64 (y : Int)] 22))
      rcases HV.out with ⟨h0, hv⟩ | ⟨h1i, hrow⟩
      · subst hv
        have H0 := Lib.hid h0
        clear h0
        go_wp2_with (at_builtin; refine wpList_append_grows _ rfl _ _ 27 rfl 22 i0 (.int .u64 0) 1 8 Try.underlying27 hi' hz0' hz1' hz2' rfl (by decide) (some ⟨w.heap.size, 0, none⟩) 0 0 [] rfl (fun h => by cases h) rfl (fun _ _ j u hu => by simp at hu) ⟨wr.heap.size, 0, none⟩ 1 1 [.int .u64 (y : Int)] rfl rfl (cell_one_new _ _ _) (by simp [Value.oneCell']) (by omega) (by simp [maxLen]) (by omega) ?_; intro v' w2 hown' hgrow; have HC := Lib.hid (XB.out.grown hgrow XB.out.size (fun k hk => by cases hk)); have HO2 := Lib.hid (own_low hown' XB.out.size); clear hown' hgrow)
        go_roundw
        case rel =>
          refine ⟨i + 1, by omega, by go_num, by rw [HY.out], Lib.hid (.inr ⟨by omega, ?_⟩), HC.out⟩
          rw [HT.out, HT0.out H0.out, H0.out]
          exact HO2.out
        case measure => simp [intOf] <;> omega
      · have HO := Lib.hid hrow
        clear hrow
        have XO := Lib.hid (HO.out.alloc (.cells #[.int .u64 (y : Int)] 22))
        have N2 := Lib.hid (fun k hk => (HO.out.lt k hk).1)
        obtain ⟨A', c', rfl, _⟩ := own_form HO.out
        go_wp2_with (at_builtin; refine wpList_append_own _ rfl _ _ 27 rfl w1.heap.size 22 i0 (.int .u64 0) 1 8 Try.underlying27 hi' hz0' hz1' hz2' rfl (by decide) _ _ _ rfl XO.out ⟨wr.heap.size, 0, none⟩ 1 1 [.int .u64 (y : Int)] rfl rfl (cell_one_new _ _ _) (by simp [Value.oneCell']) (by simp [maxLen]; omega) (by omega) XB.out.size ?_; intro v' w2 hown' hgrow _; have HC := Lib.hid (XB.out.grown hgrow XB.out.size N2.out); have HO2 := Lib.hid hown'; clear hown' hgrow)
        go_roundw
        case rel =>
          refine ⟨i + 1, by omega, by go_num, by rw [HY.out], Lib.hid (.inr ⟨by omega, ?_⟩), HC.out⟩
          rw [HT.out, List.map_append]
          exact HO2.out
        case measure => simp [intOf] <;> omega
    · have he : i = k := by omega
      have HROW := Lib.hid (HV.out.resolve_left (by omega))
      rw [he, List.take_of_length_le (by rw [HWL.out]; omega)] at HROW
      have hlt' : ¬ (i : Int) < k := by omega
      have HL := Lib.hid ((tbl_len ws).trans HWL.out)
      clear he
      obtain ⟨A', c', rfl, _⟩ := own_form HROW.out.2
      go_wp2
      go_ret
      exact ⟨_, rfl, by rw [HL.out]; exact own_low HROW.out.2 n1, chain B1.out HB.out⟩
end Go.Proofs.Ytbgikkeiapbghaa
