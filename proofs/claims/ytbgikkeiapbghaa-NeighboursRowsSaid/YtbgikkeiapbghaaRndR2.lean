/- Contracts of layer 6's reference: in, Some. -/
import Derived.Test.YtbgikkeiapbghaaRndR1
import Derived.Test.YtbgikkeiapbghaaRndS
namespace Go.Proofs.Ytbgikkeiapbghaa
open Go.RowKit
theorem contains_take_succ (zs : List Nat) (i x : Nat) (hi : i < zs.length) : (zs.take (i + 1)).contains x = ((zs.take i).contains x || (zs.getD i 0 == x)) := by
  rw [List.take_succ_eq_append_getElem hi]
  have : zs.getD i 0 = zs[i] := by simp [List.getD, hi]
  rw [this, Bool.eq_iff_iff]
  simp only [List.contains_iff_mem, List.mem_append, List.mem_singleton, Bool.or_eq_true, beq_iff_eq]
  exact or_congr Iff.rfl eq_comm
/-- Is a number in a row? -/
def hasN (l : List Nat) (x : Nat) : Bool := l.contains x
set_option maxHeartbeats 1000000 in
theorem inN_any (g c k many x : Nat) (zs : List Nat) (w : World) (hz : zs.length = k) (hna : NatsAt w g zs) (hm : many ≤ k) (hc : k ≤ c) (hk : k ≤ 512) :
    Calls Try.prog 31 #[.slice (some ⟨g, 0, none⟩) k c, .int .i64 many, .int .i64 x] w fun e w' => e = .returned (.bool (hasN (zs.take many) x)) ∧ w = w' := by
  have HNA := Lib.hid hna
  have HZ := Lib.hid hz
  clear hna hz
  have hmc : (many : Int) ≤ c := by omega
  have hmk : (many : Int) ≤ k := by omega
  go_enter Try.func31, Try.ntmps31
  go_wp2_with fail
  go_loop [13] (fun i => ∃ j : Nat, j ≤ many ∧ i = .int .i64 j ∧ Hid (hasN (zs.take j) x = false)) (fun i => many - (intOf i).toNat)
  case atStart => exact ⟨0, by omega, rfl, Lib.hid rfl⟩
  case round =>
    obtain ⟨j, hj, rfl, HNO⟩ := hrel
    by_cases hjm : j < many
    · have hjm' : (j : Int) < many := by omega
      obtain ⟨c1, f1⟩ := HNA.out j (by rw [HZ.out]; omega)
      have HS := Lib.hid (show hasN (zs.take (j + 1)) x = (hasN (zs.take j) x || (zs.getD j 0 == x)) from contains_take_succ zs j x (by rw [HZ.out]; omega))
      rw [HNO.out] at HS
      have HT := Lib.hid (show zs.getD j 0 = x → hasN (zs.take many) x = true from fun e => by
        unfold hasN
        rw [List.contains_iff_mem, ← e]
        have hl : j < zs.length := by rw [HZ.out]; omega
        have : zs.getD j 0 = (zs.take many)[j]'(by simp; omega) := by simp [List.getD, hl]
        rw [this]
        exact List.getElem_mem _)
      generalize zs.getD j 0 = y at *
      by_cases hyx : y = x
      · have t1 : ((y : Int) == (x : Int)) = true := beq_iff_eq.2 (by omega)
        have HR := Lib.hid (HT.out hyx)
        clear hyx
        go_wp2
        go_ret
        exact ⟨by rw [HR.out]; rfl, rfl⟩
      · have t1 : ((y : Int) == (x : Int)) = false := beq_eq_false_iff_ne.2 (by omega)
        have HS2 := Lib.hid (show hasN (zs.take (j + 1)) x = false by rw [HS.out, beq_eq_false_iff_ne.2 hyx]; rfl)
        clear hyx
        go_wp2
        go_round
        case rel => exact ⟨j + 1, by omega, by go_num, HS2⟩
        case measure => simp [intOf] <;> omega
    · obtain rfl : j = many := by omega
      have hjm' : ¬ (j : Int) < j := by omega
      go_wp2
      go_ret
      exact ⟨by rw [HNO.out]; rfl, rfl⟩
theorem own_lower {w : World} {base base' e size n : Nat} {v : Value} {xs : List Value} (h : w.ownsRow base e size v n xs) (hb : base' ≤ base) : w.ownsRow base' e size v n xs := by
  refine ⟨h.1, ?_⟩
  rcases h.2 with h0 | ⟨g, cap, cur, rfl, h1, h2⟩
  · exact .inl h0
  · exact .inr ⟨g, cap, cur, rfl, Nat.le_trans hb h1, h2⟩
theorem range_filter_succ (p : Nat → Bool) (k : Nat) : (List.range (k + 1)).filter p = (List.range k).filter p ++ (if p k = true then [k] else []) := by
  rw [List.range_succ, List.filter_append, List.filter_cons, List.filter_nil]
/-- What the reference's Some hands back. -/
def RSomeOut (n many s : Nat) (w : World) (e : Ending) (w' : World) : Prop :=
  ∃ v, e = .returned (.agg #[.int .u64 ((shufN n s).1 : Nat), v]) ∧ w'.ownsRow w.heap.size 3 1 v (someN n many s).length ((someN n many s).map natV) ∧ Below w.heap.size w w'
set_option maxRecDepth 100000 in
set_option maxHeartbeats 2000000 in
theorem refSome_any (s n many : Nat) (hs : s < 18446744073709551616) (h1 : 1 ≤ n) (h2 : n ≤ 512) (hm : many ≤ n) (w : World) : Calls Try.prog 21 #[.int .u64 s, .int .i64 n, .int .i64 many] w (RSomeOut n many s w) := by
  obtain ⟨i0, hi, hz0, hz1, hz2⟩ := info_parts int_infoR
  have HI := Lib.hid hi
  have HZ0 := Lib.hid hz0
  have HZ1 := Lib.hid hz1
  have HZ2 := Lib.hid hz2
  clear hi hz0 hz1 hz2
  have hsl : (someN n many s) = (List.range n).filter (hasN ((shufN n s).2.take many)) := rfl
  have HSL := Lib.hid hsl
  clear hsl
  have Z0 := Lib.hid (Box.new w 53 #[.int .u64 0, .slice none 0 0])
  have B0 := Lib.hid ((Below.refl w.heap.size w).alloc (Nat.le_refl _) (.cells #[.int .u64 0, .slice none 0 0] 53))
  go_enter Try.func21, Try.ntmps21
  go_wp2_with fail
  refine (refShuffle_any s n hs h1 h2 _).mono ?_
  rintro e w1 ⟨g, c, rfl, hcap, hna, hzl, hg0, hg1, hb⟩
  have HR := Lib.hid (show ∀ e w', RSomeOut n many s w e w' ↔ (∃ v, e = .returned (.agg #[.int .u64 ((shufN n s).1 : Nat), v]) ∧ w'.ownsRow w.heap.size 3 1 v ((List.range n).filter (hasN ((shufN n s).2.take many))).length (((List.range n).filter (hasN ((shufN n s).2.take many))).map natV) ∧ Below w.heap.size w w') from fun e w' => by unfold RSomeOut; rw [HSL.out])
  clear HSL
  generalize (shufN n s).1 = st at *
  generalize (shufN n s).2 = T at *
  have Z1 := Lib.hid (((Z0.out.keep hb).alloc (.cells #[.int .u64 st, .slice (some ⟨g, 0, none⟩) n c] 53)).alloc (.cells #[.int .u64 st, .slice none 0 0] 53))
  have B1 := Lib.hid (chain B0.out hb)
  have B2 := Lib.hid ((B1.out.alloc B1.out.size (.cells #[.int .u64 st, .slice (some ⟨g, 0, none⟩) n c] 53)).alloc (by have := B1.out.size; simp; omega) (.cells #[.int .u64 st, .slice none 0 0] 53))
  have NA := Lib.hid (hna.keep (((Below.refl _ w1).alloc (Nat.le_refl _) (.cells #[.int .u64 st, .slice (some ⟨g, 0, none⟩) n c] 53)).alloc (by simp) (.cells #[.int .u64 st, .slice none 0 0] 53)) hg1)
  have SB := Lib.hid ((Box.new w1 53 #[.int .u64 st, .slice (some ⟨g, 0, none⟩) n c]).alloc (.cells #[.int .u64 st, .slice none 0 0] 53))
  have OB := Box.new (w1.alloc (.cells #[.int .u64 st, .slice (some ⟨g, 0, none⟩) n c] 53)) 53 #[.int .u64 st, .slice none 0 0]
  simp only [World.size_alloc] at OB
  have OB := Lib.hid OB
  have HZL := Lib.hid hzl
  have hw1 : w.heap.size + 1 ≤ w1.heap.size := by have := hb.size; simpa using this
  have hgw : w.heap.size + 1 ≤ g := by simpa using hg0
  have HSZ := Lib.hid (show ((w1.alloc (.cells #[.int .u64 st, .slice (some ⟨g, 0, none⟩) n c] 53)).alloc (.cells #[.int .u64 st, .slice none 0 0] 53)).heap.size = w1.heap.size + 2 by simp)
  clear hna hzl hg0 hb Z0 B0 B1
  go_wp2_with fail
  generalize (w1.alloc (.cells #[.int .u64 st, .slice (some ⟨g, 0, none⟩) n c] 53)).alloc (.cells #[.int .u64 st, .slice none 0 0] 53) = W0 at *
  generalize hbq : w1.heap.size = b at *
  clear hbq
  go_loopw [9] (fun i wr => ∃ (k : Nat) (v : Value), k ≤ n ∧ i = .int .i64 k ∧ Hid (Box wr (b + 1) 53 #[.int .u64 st, v]) ∧ Hid (wr.ownsRow (b + 2) 3 1 v ((List.range k).filter (hasN (T.take many))).length (((List.range k).filter (hasN (T.take many))).map natV)) ∧
    Hid (Box wr b 53 #[.int .u64 st, .slice (some ⟨g, 0, none⟩) n c]) ∧ Hid (NatsAt wr g T) ∧ Hid (Box wr w.heap.size 53 #[.int .u64 0, .slice none 0 0]) ∧ Hid (Below w.heap.size w wr) ∧ Hid (b + 2 ≤ wr.heap.size)) (fun i _ => n - (intOf i).toNat)
  case atStart => exact ⟨0, _, by omega, rfl, OB, Lib.hid (World.ownsRow_nil _ _ _ _), SB, NA, Z1, B2, Lib.hid (by rw [HSZ.out]; exact Nat.le_refl _)⟩
  case round =>
    clear OB SB NA Z1 B2
    obtain ⟨k, v, hk, rfl, OB, HO, SB, NA, Z1, B2, HS2⟩ := hrel
    by_cases hkn : k < n
    · have hkn' : (k : Int) < n := by omega
      obtain ⟨a0, a1, -, -⟩ := SB.out.two
      go_wp2_with fail
      refine (inN_any g c n many k T _ HZL.out NA.out hm hcap h2).mono ?_
      rintro e w2 ⟨rfl, rfl⟩
      have HFL := Lib.hid (range_filter_succ (hasN (T.take many)) k)
      generalize hL : (List.range k).filter (hasN (T.take many)) = L at *
      have hLn : L.length ≤ k := by rw [← hL]; exact Nat.le_trans (List.length_filter_le _ _) (by simp)
      have HLn := Lib.hid hL
      clear hL
      cases hh : hasN (T.take many) k with
      | true =>
        rw [hh] at HFL
        clear hh
        obtain ⟨A', c', rfl, _⟩ := own_form HO.out
        obtain ⟨e0, e1, -, -⟩ := OB.out.two
        have hi' := HI.out
        have hz0' := HZ0.out
        have hz1' := HZ1.out
        have hz2' := HZ2.out
        have XO := Lib.hid (HO.out.alloc (.cells #[.int .i64 (k : Int)] 3))
        have XK := Lib.hid ((Below.refl (b + 2) wr).alloc HS2.out (.cells #[.int .i64 (k : Int)] 3))
        have N2 := Lib.hid (fun q hq => (HO.out.lt q hq).1)
        have HBS := Lib.hid (show b + 2 ≤ (wr.alloc (.cells #[.int .i64 (k : Int)] 3)).heap.size by have := HS2.out; simp; omega)
        go_wp2_with (at_builtin; refine wpList_append_own _ rfl _ _ 23 rfl (b + 2) 3 i0 (.int .i64 0) 1 8 Try.underlying23 hi' hz0' hz1' hz2' rfl (by decide) _ _ _ rfl XO.out ⟨wr.heap.size, 0, none⟩ 1 1 [.int .i64 (k : Int)] rfl rfl (cell_one_new _ _ _) (by simp [Value.oneCell']) (by simp [maxLen]; omega) (by omega) HBS.out ?_; intro v' w2 hown' hgrow _; obtain ⟨g', cap', rfl⟩ := ownsRow_succ hown'; have XK2 := Lib.hid (XK.out.grown hgrow HBS.out N2.out); have HO2 := Lib.hid hown'; have OB2 := Lib.hid (OB.out.below XK2.out (by omega)); obtain ⟨m0, m1, q0, q1⟩ := OB2.out.two; clear hown' hgrow e0 e1)
        have hgb : g ≠ b + 1 := by omega
        have hbb : b ≠ b + 1 := by omega
        have hwb : w.heap.size ≠ b + 1 := by omega
        go_roundw
        case rel =>
          refine ⟨k + 1, _, by omega, by go_num, Lib.hid (OB2.out.put 1 _), ?_, Lib.hid ((SB.out.below XK2.out (by omega)).far (p := ⟨b + 1, 1, none⟩) hbb _), Lib.hid ((NA.out.keep XK2.out (by omega)).far (p := ⟨b + 1, 1, none⟩) hgb _), Lib.hid ((Z1.out.below XK2.out (by omega)).far (p := ⟨b + 1, 1, none⟩) hwb _), Lib.hid ((B2.out.trans (XK2.out.mono (by omega))).setCell (p := ⟨b + 1, 1, none⟩) (by show w.heap.size ≤ b + 1; omega) _), Lib.hid ?_⟩
          · rw [HFL.out, if_pos trivial, List.length_append, List.length_singleton, List.map_append]
            exact Lib.hid (own_far HO2.out OB2.out (by decide) 1 (.slice (some ⟨g', 0, none⟩) (L.length + 1) cap'))
          · have h1 := XK2.out.size
            have h2 := HS2.out
            have : (w2.setCell ⟨b + 1, 1, none⟩ (.slice (some ⟨g', 0, none⟩) (L.length + 1) cap')).heap.size = w2.heap.size := by simp [World.setCell]
            omega
        case measure => simp [intOf] <;> omega
      | false =>
        rw [hh] at HFL
        clear hh
        go_wp2_with fail
        go_roundw
        case rel =>
          refine ⟨k + 1, v, by omega, by go_num, OB, ?_, SB, NA, Z1, B2, HS2⟩
          rw [HFL.out]
          simpa using HO
        case measure => simp [intOf] <;> omega
    · obtain rfl : k = n := by omega
      have hkk : ¬ (k : Int) < k := by omega
      obtain ⟨A', c', rfl, _⟩ := own_form HO.out
      obtain ⟨e0, e1, -, -⟩ := OB.out.two
      obtain ⟨m0, m1, q0, q1⟩ := Z1.out.two
      go_wp2_with fail
      refine close_one Try.results21 rfl rfl Z1.out.put2 Try.underlying53 rfl (by kernel_rfl) ((HR.out _ _).2 ⟨_, rfl, ?_, (B2.out.setCell (p := ⟨w.heap.size, 0, none⟩) (Nat.le_refl _) _).setCell (p := ⟨w.heap.size, 1, none⟩) (Nat.le_refl _) _⟩)
      have h1 := own_far HO.out Z1.out (by decide) 0 (.int .u64 st)
      have h2 := own_far h1 (Z1.out.put 0 _) (by decide) 1 (.slice A' (List.filter (hasN (T.take many)) (List.range k)).length c')
      exact own_lower h2 (by omega)
end Go.Proofs.Ytbgikkeiapbghaa
