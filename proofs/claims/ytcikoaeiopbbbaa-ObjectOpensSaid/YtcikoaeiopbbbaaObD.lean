/- Layer 18: the reference's Open; few; alive. -/
import Derived.Test.YtcikoaeiopbbbaaObC
namespace Go.Proofs.Ytcikoaeiopbbbaa
set_option linter.unusedVariables false
set_option linter.unusedSimpArgs false
open Go.RowKit Go.Lib
set_option maxRecDepth 100000
theorem dW_gen (a b : Array Value) (w : World) : Box ((w.alloc (.cells a 31)).alloc (.cells b 40)) w.heap.size 31 a ∧ Box ((w.alloc (.cells a 31)).alloc (.cells b 40)) (w.heap.size + 1) 40 b ∧ Below w.heap.size w ((w.alloc (.cells a 31)).alloc (.cells b 40)) := by
  refine ⟨(Box.new w _ _).alloc _, ?_, ((Below.refl _ _).alloc (Nat.le_refl _) _).alloc (by simp) _⟩
  have q := Box.new (w.alloc (.cells a 31)) 40 b
  simpa only [World.size_alloc] using q
abbrev dZ : Array Value := #[.int .u64 0, .int .i64 0, .int .i64 0, .int .i64 0, .slice none 0 0, .int .i64 0, .int .i64 0, .int .i64 0, .slice none 0 0]
abbrev dE (n : Int) : Array Value := #[.int .u64 0, .int .i64 0, .int .i64 0, .int .i64 0, .slice none 0 0, .int .i64 0, .int .i64 n, .int .i64 0, .slice none 0 0]
set_option maxHeartbeats 4000000 in
theorem ropen_no1 (what : Int) (ob : Nat) (k s cp : Int) (id : Nat) (dt : ByteArray) (h0 : ¬ what = 0) (w : World) : Calls Try.prog 6 #[callV (what, ob, k, s, cp, id, dt)] w (DOut obZ (1, 0, []) w) := by
  obtain ⟨q0, -, -⟩ := dW_gen (callL (what, ob, k, s, cp, id, dt)).toArray dZ w
  obtain ⟨-, p1, b4⟩ := dW_gen (callL (what, ob, k, s, cp, id, dt)).toArray (dE 1) w
  have Q0 := Lib.hid q0
  have P1 := Lib.hid p1
  have HB := Lib.hid b4
  obtain ⟨r0, r1, r2, r3, r4, r5, r6⟩ := Q0.out.sevenO
  clear q0 p1 b4
  have t9 : (what != 0) = true := by simpa using h0
  clear h0
  go_enter Try.func6, Try.ntmps6
  go_wp2_with fail
  refine close_one Try.results6 rfl rfl P1.out Try.underlying40 rfl (by kernel_rfl) ?_
  exact ⟨none, 0, none, 0, rfl, ⟨Nat.le_refl _, Nat.zero_le _, fun _ => ⟨rfl, rfl⟩⟩, Recs.nil _ _, Texts.nil _ _, Nat.le_refl _, Nat.zero_le _, HB.out⟩
set_option maxHeartbeats 4000000 in
theorem ropen_no2 (ob : Nat) (k s cp : Int) (id : Nat) (dt : ByteArray) (hz : sizesB k s cp = false) (w : World) : Calls Try.prog 6 #[callV (0, ob, k, s, cp, id, dt)] w (DOut obZ (2, 0, []) w) := by
  obtain ⟨q0, -, -⟩ := dW_gen (callL (0, ob, k, s, cp, id, dt)).toArray dZ w
  obtain ⟨-, p1, b4⟩ := dW_gen (callL (0, ob, k, s, cp, id, dt)).toArray (dE 2) w
  have Q0 := Lib.hid q0
  have P1 := Lib.hid p1
  have HB := Lib.hid b4
  have HS := Lib.hid (fun wy => refSizes_any k s cp wy)
  rw [hz] at HS
  obtain ⟨r0, r1, r2, r3, r4, r5, r6⟩ := Q0.out.sevenO
  clear q0 p1 b4 hz
  go_enter Try.func6, Try.ntmps6
  go_wp2_with fail
  refine (HS.out _).mono ?_
  rintro e w2 ⟨rfl, rfl⟩
  go_wp2_with fail
  refine close_one Try.results6 rfl rfl P1.out Try.underlying40 rfl (by kernel_rfl) ?_
  exact ⟨none, 0, none, 0, rfl, ⟨Nat.le_refl _, Nat.zero_le _, fun _ => ⟨rfl, rfl⟩⟩, Recs.nil _ _, Texts.nil _ _, Nat.le_refl _, Nat.zero_le _, HB.out⟩
set_option maxHeartbeats 4000000 in
theorem ropen_yes (ob : Nat) (k s cp : Int) (id : Nat) (dt : ByteArray) (hz : sizesB k s cp = true) (w : World) : Calls Try.prog 6 #[callV (0, ob, k, s, cp, id, dt)] w (DOut (ob, (k, s, cp, []), 0) (0, k, []) w) := by
  obtain ⟨q0, -, -⟩ := dW_gen (callL (0, ob, k, s, cp, id, dt)).toArray dZ w
  obtain ⟨-, q1, b4⟩ := dW_gen (callL (0, ob, k, s, cp, id, dt)).toArray #[.int .u64 (ob : Int), .int .i64 k, .int .i64 s, .int .i64 cp, .slice none 0 0, .int .i64 0, .int .i64 0, .int .i64 k, .slice none 0 0] w
  have Q0 := Lib.hid q0
  have Q1 := Lib.hid (q1.alloc (.cells #[.int .i64 k, .int .i64 s, .int .i64 cp, .slice none 0 0] 25))
  have HB := Lib.hid (b4.alloc b4.size (.cells #[.int .i64 k, .int .i64 s, .int .i64 cp, .slice none 0 0] 25))
  have HS := Lib.hid (fun wy => refSizes_any k s cp wy)
  rw [hz] at HS
  obtain ⟨r0, r1, r2, r3, r4, r5, r6⟩ := Q0.out.sevenO
  clear q0 q1 b4 hz
  go_enter Try.func6, Try.ntmps6
  go_wp2_with fail
  refine (HS.out _).mono ?_
  rintro e w2 ⟨rfl, rfl⟩
  go_wp2_with fail
  refine close_one Try.results6 rfl rfl Q1.out Try.underlying40 rfl (by kernel_rfl) ?_
  exact ⟨none, 0, none, 0, rfl, ⟨Nat.le_refl _, Nat.zero_le _, fun _ => ⟨rfl, rfl⟩⟩, Recs.nil _ _, Texts.nil _ _, Nat.le_refl _, Nat.zero_le _, HB.out⟩
theorem ropen_any (c : CallR) (w : World) : Calls Try.prog 6 #[callV c] w (DOut (openO c).1 (openO c).2 w) := by
  obtain ⟨what, ob, k, s, cp, id, dt⟩ := c
  by_cases h0 : what = 0
  · subst h0
    cases hz : sizesB k s cp with
    | false =>
      have HE : openO (0, ob, k, s, cp, id, dt) = (obZ, (2, 0, [])) := by unfold openO; rw [if_pos rfl, if_neg (by rw [hz]; decide)]
      rw [HE]; exact ropen_no2 ob k s cp id dt hz w
    | true =>
      have HE : openO (0, ob, k, s, cp, id, dt) = ((ob, (k, s, cp, []), 0), (0, k, [])) := by unfold openO; rw [if_pos rfl, if_pos hz]
      rw [HE]; exact ropen_yes ob k s cp id dt hz w
  · have HE : openO (what, ob, k, s, cp, id, dt) = (obZ, (1, 0, [])) := if_neg h0
    rw [HE]; exact ropen_no1 what ob k s cp id dt h0 w
def fewN (s : Int) (l : Nat) : Nat := if 24 < min l 66 ∧ 6 < s then 24 else min l 66
/-- A call's own cut: at most 66 symbols, of great ones 24. -/
def fewO (o : ObR) : ObR := (o.1, (o.2.1.1, o.2.1.2.1, o.2.1.2.2.1, o.2.1.2.2.2.take (fewN o.2.1.2.1 o.2.1.2.2.2.length)), o.2.2)
theorem fewN_le (s : Int) (l : Nat) : fewN s l ≤ l ∧ fewN s l ≤ 66 := by unfold fewN; split <;> omega
theorem oW_gen (a b : Array Value) (w : World) : Box ((w.alloc (.cells a 27)).alloc (.cells b 27)) w.heap.size 27 a ∧ Box ((w.alloc (.cells a 27)).alloc (.cells b 27)) (w.heap.size + 1) 27 b ∧ Below w.heap.size w ((w.alloc (.cells a 27)).alloc (.cells b 27)) := by
  refine ⟨(Box.new w _ _).alloc _, ?_, ((Below.refl _ _).alloc (Nat.le_refl _) _).alloc (by simp) _⟩
  have q := Box.new (w.alloc (.cells a 27)) 27 b
  simpa only [World.size_alloc] using q
abbrev oC (id : Nat) (k s c : Int) (A : Option Addr) (m d : Nat) (cl : Int) : Array Value := #[.int .u64 (id : Int), .int .i64 k, .int .i64 s, .int .i64 c, .slice A m d, .int .i64 cl]
abbrev oZ : Array Value := #[.int .u64 0, .int .i64 0, .int .i64 0, .int .i64 0, .slice none 0 0, .int .i64 0]
def FewOut (o : ObR) (w0 w : World) (e : Ending) (w' : World) : Prop := ∃ A d, e = .returned (.agg (obA o A d)) ∧ SliceOk A o.2.1.2.2.2.length d ∧ Syms w0 A o.2.1.2.2.2.length o.2.1.2.2.2 ∧ Below w.heap.size w w'
set_option maxHeartbeats 4000000 in
theorem few18_any (v : Value) (o : ObR) (w0 w : World) (h : ObAt w0 v o) : Calls Try.prog 4 #[v] w (FewOut (fewO o) w0 w) := by
  obtain ⟨A, d, rfl, hs, hx⟩ := h
  obtain ⟨id, ⟨k, s, c, xs⟩, cl⟩ := o
  dsimp only at hs hx
  have h1 := fewN_le s xs.length
  have hf : (xs.take (fewN s xs.length)).length = fewN s xs.length := by rw [List.length_take]; omega
  have HOut := Lib.hid (fun (m : Nat) (hm : m = fewN s xs.length) (w' : World) (hb : Below w.heap.size w w') => show FewOut (fewO (id, (k, s, c, xs), cl)) w0 w (.returned (.agg (oC id k s c A m d cl))) w' from by
    subst hm
    refine ⟨A, d, ?_, ⟨?_, hs.2.1, fun e => ⟨?_, (hs.2.2 e).2⟩⟩, ?_, hb⟩
    · show _ = Ending.returned (.agg (obA (id, (k, s, c, xs.take (fewN s xs.length)), cl) A d))
      show _ = Ending.returned (.agg #[.int .u64 (id : Int), .int .i64 k, .int .i64 s, .int .i64 c, .slice A (xs.take (fewN s xs.length)).length d, .int .i64 cl])
      rw [hf]
    · show (xs.take (fewN s xs.length)).length ≤ d
      rw [hf]; exact Nat.le_trans h1.1 hs.1
    · show (xs.take (fewN s xs.length)).length = 0
      have := (hs.2.2 e).1
      rw [hf]; omega
    · show Syms w0 A (xs.take (fewN s xs.length)).length (xs.take (fewN s xs.length))
      rw [hf]; exact hx.take _ h1.1)
  obtain ⟨m, hm⟩ : ∃ m, m = min xs.length 66 := ⟨_, rfl⟩
  have hdm : min (xs.length : Int) 66 = (m : Int) := by omega
  have hm0 : (0 : Int) ≤ (m : Int) := by omega
  have hmd : (m : Int) ≤ (d : Int) := by have := hs.1; omega
  have HF := Lib.hid (show fewN s xs.length = if 24 < m ∧ 6 < s then 24 else m by unfold fewN; rw [hm])
  obtain ⟨q0, -, b4⟩ := oW_gen (oC id k s c A xs.length d cl) oZ w
  have Q0 := Lib.hid q0
  have HL := Lib.hid (show ∃ l, l = xs.length from ⟨_, rfl⟩)
  clear hs hx h1 hf q0 b4 hm
  obtain ⟨l, hl⟩ := HL.out
  show Calls Try.prog 4 #[.agg (oC id k s c A xs.length d cl)] w (FewOut (fewO (id, (k, s, c, xs), cl)) w0 w)
  rw [← hl] at HOut hdm HF Q0 ⊢
  clear hl HL
  obtain ⟨r0, r1, r2, r3, r4, r5⟩ := Q0.out.sixO
  by_cases hl6 : (66 : Int) < (l : Int)
  · obtain rfl : m = 66 := by omega
    by_cases h2 : s > 6
    · have h24d : (24 : Int) ≤ (d : Int) := by omega
      have h66d : (66 : Int) ≤ (d : Int) := by omega
      have HO := Lib.hid (HOut.out 24 (by rw [HF.out]; rw [if_pos ⟨by omega, h2⟩]))
      obtain ⟨-, p1, b5⟩ := oW_gen (oC id k s c A 24 d cl) (oC id k s c A 24 d cl) w
      have P1 := Lib.hid p1
      have B5 := Lib.hid b5
      clear p1 b5 HOut HF
      go_enter Try.func4, Try.ntmps4
      go_wp2_with fail
      refine close_one Try.results4 rfl rfl P1.out Try.underlying27 rfl (by kernel_rfl) ?_
      exact HO.out _ B5.out
    · have h66d : (66 : Int) ≤ (d : Int) := by omega
      have HO := Lib.hid (HOut.out 66 (by rw [HF.out]; rw [if_neg (fun h => h2 h.2)]))
      obtain ⟨-, p1, b5⟩ := oW_gen (oC id k s c A 66 d cl) (oC id k s c A 66 d cl) w
      have P1 := Lib.hid p1
      have B5 := Lib.hid b5
      clear p1 b5 HOut HF
      go_enter Try.func4, Try.ntmps4
      go_wp2_with fail
      refine close_one Try.results4 rfl rfl P1.out Try.underlying27 rfl (by kernel_rfl) ?_
      exact HO.out _ B5.out
  · obtain rfl : m = l := by omega
    have hl7 : (m : Int) ≤ 66 := by omega
    by_cases h1 : (m : Int) > 24
    · have h24 : (24 : Int) ≤ (m : Int) := by omega
      by_cases h2 : s > 6
      · have h24d : (24 : Int) ≤ (d : Int) := by omega
        have HO := Lib.hid (HOut.out 24 (by rw [HF.out]; rw [if_pos ⟨by omega, h2⟩]))
        obtain ⟨-, p1, b5⟩ := oW_gen (oC id k s c A 24 d cl) (oC id k s c A 24 d cl) w
        have P1 := Lib.hid p1
        have B5 := Lib.hid b5
        clear p1 b5 HOut HF
        go_enter Try.func4, Try.ntmps4
        go_wp2_with fail
        refine close_one Try.results4 rfl rfl P1.out Try.underlying27 rfl (by kernel_rfl) ?_
        exact HO.out _ B5.out
      · have h24e : (24 : Int) ≤ (m : Int) := h24
        have HO := Lib.hid (HOut.out m (by rw [HF.out]; rw [if_neg (fun h => h2 h.2)]))
        obtain ⟨-, p1, b5⟩ := oW_gen (oC id k s c A m d cl) (oC id k s c A m d cl) w
        have P1 := Lib.hid p1
        have B5 := Lib.hid b5
        clear p1 b5 HOut HF
        go_enter Try.func4, Try.ntmps4
        go_wp2_with fail
        refine close_one Try.results4 rfl rfl P1.out Try.underlying27 rfl (by kernel_rfl) ?_
        exact HO.out _ B5.out
    · have h24 : ¬ (24 : Int) < (m : Int) := by omega
      have HO := Lib.hid (HOut.out m (by rw [HF.out]; rw [if_neg (fun h => h1 (by omega))]))
      obtain ⟨-, p1, b5⟩ := oW_gen (oC id k s c A m d cl) (oC id k s c A m d cl) w
      have P1 := Lib.hid p1
      have B5 := Lib.hid b5
      clear p1 b5 HOut HF
      go_enter Try.func4, Try.ntmps4
      go_wp2_with fail
      refine close_one Try.results4 rfl rfl P1.out Try.underlying27 rfl (by kernel_rfl) ?_
      exact HO.out _ B5.out
theorem alive_open : openO (0, 7, 2, 1, 3, 0, ⟨#[]⟩) = ((7, (2, 1, 3, []), 0), (0, 2, [])) := by decide +kernel
set_option maxHeartbeats 4000000 in
theorem alive18_any (w : World) : Calls Try.prog 7 #[] w fun e w' => e = .returned (.bool true) ∧ Below w.heap.size w w' := by
  have hO := oopen_any (0, 7, 2, 1, 3, 0, ⟨#[]⟩) w
  rw [alive_open] at hO
  have HO := Lib.hid hO
  clear hO
  go_enter Try.func7, Try.ntmps7
  go_wp2_with fail
  refine HO.out.mono ?_
  rintro e w2 ⟨A, d, B, c, rfl, -, -, -, -, -, hb⟩
  have b1 : Below w2.heap.size w2 (w2.alloc (.cells (obA (7, (2, 1, 3, []), 0) A d) 27)) := (Below.refl _ _).alloc (Nat.le_refl _) _
  have b2 := b1.alloc b1.size (.cells #[.int .i64 0, .int .i64 2, .slice B 0 c] 36)
  have HB := Lib.hid (chain hb b2)
  clear b1 b2 hb HO
  go_wp2_with fail
  go_ret
  exact ⟨rfl, HB.out⟩
end Go.Proofs.Ytcikoaeiopbbbaa
