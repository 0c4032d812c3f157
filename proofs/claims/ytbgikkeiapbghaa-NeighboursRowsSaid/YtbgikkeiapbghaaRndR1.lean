/- Contract of layer 6's reference: Shuffle. -/
import Derived.Test.YtbgikkeiapbghaaRnd5
import Derived.Test.YtbgikkeiapbghaaRnd2
import Derived.Maps.AppendAt
import Derived.Deep.RegionWith
import Derived.Deep.DeepCutAuto
namespace Go.Proofs.Ytbgikkeiapbghaa
open Go.RowKit
def natV (x : Nat) : Value := .int .i64 (x : Int)
/-- A row of the call's own, of one number or more, as a row that may be written. -/
theorem own_nats {w : World} {base e n : Nat} {v : Value} {zs : List Nat} (h : w.ownsRow base e 1 v n (zs.map natV)) (hn : 0 < n) : ∃ g c, v = .slice (some ⟨g, 0, none⟩) n c ∧ n ≤ c ∧ base ≤ g ∧ g < w.heap.size ∧ NatsAt w g zs ∧ zs.length = n := by
  have hl : zs.length = n := by have := h.1; simpa using this
  rcases h.2 with ⟨_, h0⟩ | ⟨g, cap, cur, rfl, hb, hh, hcap, hm, hs, hx⟩
  · omega
  · have hbx : Box w g e cur := hh
    refine ⟨g, cap, rfl, hcap, hb, hbx.lt, fun j hj => ?_, hl⟩
    rw [hbx.cell j, hbx.free j]
    refine ⟨?_, rfl⟩
    have e1 : (cur.toList.take (n * 1))[j]? = (zs.map natV)[j]? := by rw [hx]
    rw [Nat.mul_one, List.getElem?_take, if_pos (by omega)] at e1
    simp only [List.getElem?_map, List.getElem?_eq_getElem hj, Option.map_some] at e1
    rw [← Array.getElem?_toList, e1]
    simp [List.getD, hj, natV]
theorem range_snoc (k : Nat) : (List.range (k + 1)).map natV = (List.range k).map natV ++ [natV k] := by simp [List.range_succ]
theorem NatsAt.far {w : World} {g : Nat} {zs : List Nat} (h : NatsAt w g zs) {p : Addr} (hp : g ≠ p.block) (u : Value) : NatsAt (w.setCell p u) g zs := fun j hj =>
  ⟨by rw [World.cell?_of_block (a := ⟨g, j, none⟩) (heap_setCell_other w p g u hp)]; exact (h j hj).1, by rw [World.frozen?_setCell]; exact (h j hj).2⟩
/-- What the reference's Shuffle hands back. -/
def RShufOut (n s : Nat) (w : World) (e : Ending) (w' : World) : Prop :=
  ∃ g c, e = .returned (.agg #[.int .u64 ((shufN n s).1 : Nat), .slice (some ⟨g, 0, none⟩) n c]) ∧ n ≤ c ∧ NatsAt w' g (shufN n s).2 ∧ (shufN n s).2.length = n ∧ w.heap.size ≤ g ∧ g < w'.heap.size ∧ Below w.heap.size w w'
set_option maxRecDepth 100000 in
set_option maxHeartbeats 2000000 in
theorem refShuffle_any (s n : Nat) (hs : s < 18446744073709551616) (h1 : 1 ≤ n) (h2 : n ≤ 512) (w : World) : Calls Try.prog 30 #[.int .u64 s, .int .i64 n] w (RShufOut n s w) := by
  obtain ⟨i0, hi, hz0, hz1, hz2⟩ := info_parts int_infoR
  have HI := Lib.hid hi
  have HZ0 := Lib.hid hz0
  have HZ1 := Lib.hid hz1
  have HZ2 := Lib.hid hz2
  clear hi hz0 hz1 hz2
  have HSH := Lib.hid (show shufF (n - 1) s (List.range n) = shufN n s from rfl)
  generalize hRR : shufN n s = R at HSH
  have HRR := Lib.hid hRR
  clear hRR
  go_enter Try.func30, Try.ntmps30
  go_wp2_with fail
  have HO := own_empty (w.alloc (.cells #[.int .u64 0, .slice none 0 0] 53)) (w.heap.size + 1) 3 (by simp)
  have HZ := ((Box.new w 53 #[.int .u64 0, .slice none 0 0]).alloc (.cells #[] 3))
  have HB := (((Below.refl w.heap.size w).alloc (Nat.le_refl _) (.cells #[.int .u64 0, .slice none 0 0] 53)).alloc (by simp) (.cells #[] 3))
  simp only [World.size_alloc] at HO
  have HS : ((w.alloc (.cells #[.int .u64 0, .slice none 0 0] 53)).alloc (.cells #[] 3)).heap.size = w.heap.size + 2 := by simp
  generalize (w.alloc (.cells #[.int .u64 0, .slice none 0 0] 53)).alloc (.cells #[] 3) = W0 at *
  have HO := Lib.hid HO
  have HZ := Lib.hid HZ
  have HB := Lib.hid HB
  have HS := Lib.hid HS
  go_loopw [5, 6] (fun v i wr => ∃ k : Nat, k ≤ n ∧ i = .int .i64 k ∧ Hid (wr.ownsRow (w.heap.size + 1) 3 1 v k ((List.range k).map natV)) ∧ Hid (Below (w.heap.size + 1) W0 wr)) (fun _ i _ => n - (intOf i).toNat)
  case atStart => exact ⟨0, by omega, rfl, HO, Lib.hid (Below.refl _ _)⟩
  case round =>
    obtain ⟨k, hk, rfl, hown, hbel⟩ := hrel
    by_cases hkn : k < n
    · have hkn' : (k : Int) < n := by omega
      obtain ⟨A', c', rfl, _⟩ := own_form hown.out
      have hi' := HI.out
      have hz0' := HZ0.out
      have hz1' := HZ1.out
      have hz2' := HZ2.out
      have hsz := Lib.hid (show w.heap.size + 1 ≤ wr.heap.size by have := hbel.out.size; have := HS.out; omega)
      have XO := Lib.hid (hown.out.alloc (.cells #[.int .i64 (k : Int)] 3))
      have XB := Lib.hid (hbel.out.alloc hsz.out (.cells #[.int .i64 (k : Int)] 3))
      have N2 := Lib.hid (fun q hq => (hown.out.lt q hq).1)
      have HBS := Lib.hid (show w.heap.size + 1 ≤ (wr.alloc (.cells #[.int .i64 (k : Int)] 3)).heap.size by have := hsz.out; simp; omega)
      have HSN := Lib.hid (range_snoc k)
      go_wp2_with (at_builtin; refine wpList_append_own _ rfl _ _ 23 rfl (w.heap.size + 1) 3 i0 (.int .i64 0) 1 8 Try.underlying23 hi' hz0' hz1' hz2' rfl (by decide) _ _ _ rfl XO.out ⟨wr.heap.size, 0, none⟩ 1 1 [.int .i64 (k : Int)] rfl rfl (cell_one_new _ _ _) (by simp [Value.oneCell']) (by simp [maxLen]; omega) (by omega) HBS.out ?_; intro v' w2 hown' hgrow _; have HC := Lib.hid (XB.out.grown hgrow HBS.out N2.out); have HO2 := Lib.hid hown'; clear hown' hgrow)
      go_roundw
      case rel =>
        refine ⟨k + 1, by omega, by go_num, Lib.hid ?_, HC⟩
        rw [HSN.out]
        exact HO2.out
      case measure => simp [intOf] <;> omega
    · obtain rfl : k = n := by omega
      obtain ⟨g, c, rfl, hcap, hg0, hg1, hna, hzl⟩ := own_nats hown.out (by omega)
      have Z2 := Lib.hid (HZ.out.below hbel.out (by omega))
      have B2 := Lib.hid (HB.out.trans (hbel.out.mono (by omega)))
      have HNA := Lib.hid hna
      have HG1 := Lib.hid hg1
      clear hna hown hbel hzl hg1
      have hn1 : IntKind.i64.wrap ((k : Int) - 1) = ((k - 1 : Nat) : Int) := by rw [IntWalk.i64_in _ (by omega)]; omega
      have hkc : (k : Int) ≤ c := by omega
      go_wp2_with fail
      go_loopw [0, 7] (fun st i wr2 => ∃ (d t : Nat) (zs : List Nat), d ≤ k - 1 ∧ i = .int .i64 d ∧ st = .int .u64 t ∧ t < 18446744073709551616 ∧ Hid (zs.length = k) ∧ Hid (NatsAt wr2 g zs) ∧ Hid (Box wr2 w.heap.size 53 #[.int .u64 0, .slice none 0 0]) ∧ Hid (Below w.heap.size w wr2) ∧ Hid (g < wr2.heap.size) ∧ Hid (shufF d t zs = R)) (fun _ i _ => (intOf i).toNat)
      case atStart => exact ⟨k - 1, s, List.range k, Nat.le_refl _, rfl, rfl, hs, Lib.hid (by simp), HNA, Z2, B2, HG1, HSH⟩
      case round =>
        clear hn1 HNA Z2 B2 HG1 HSH
        obtain ⟨d, t, zs, hd, rfl, rfl, ht, HZL, HNA, Z2, B2, HG1, HSF⟩ := hrel
        by_cases hd0 : 0 < d
        · have hd0' : (0 : Int) < d := by omega
          have HSF2 := Lib.hid (show shufF (d - 1) (belowN (d + 1) t).1 (swapN zs d (belowN (d + 1) t).2) = R by rw [← shufF_step d t zs hd0]; exact HSF.out)
          clear HSF
          go_wp2_with fail
          rw [show (d : Int) + 1 = ((d + 1 : Nat) : Int) from rfl]
          refine (refBelow_any t (d + 1) ht (by omega) (by omega) _).mono ?_
          rintro e w2 ⟨rfl, hb⟩
          have hbl := belowN_lt (d + 1) t (by omega) ht
          generalize belowN (d + 1) t = bb at *
          obtain ⟨t', j⟩ := bb
          simp only at hbl HSF2
          obtain ⟨ht', hj⟩ := hbl
          have hsz := Lib.hid (show wr.heap.size ≤ w2.heap.size from hb.size)
          have NA2 := Lib.hid (HNA.out.keep hb HG1.out)
          have Z3 := Lib.hid (Z2.out.keep hb)
          have B3 := Lib.hid (chain B2.out hb)
          have G3 := Lib.hid (Nat.lt_of_lt_of_le HG1.out hb.size)
          clear hb HNA Z2 B2 HG1
          go_upto_region 10 with (fail)
          have NA3 := Lib.hid (NA2.out.keep ((Below.refl _ w2).alloc (Nat.le_refl _) (.cells #[.int .u64 (t' : Int), .int .i64 (j : Int)] 82)) G3.out)
          have Z3 := Lib.hid (Z3.out.alloc (.cells #[.int .u64 (t' : Int), .int .i64 (j : Int)] 82))
          have B3 := Lib.hid (B3.out.alloc B3.out.size (.cells #[.int .u64 (t' : Int), .int .i64 (j : Int)] 82))
          have SB := Lib.hid (Box.new w2 82 #[.int .u64 (t' : Int), .int .i64 (j : Int)])
          have hne : g ≠ w2.heap.size := Nat.ne_of_lt G3.out
          have G3 := Lib.hid (show g < (w2.alloc (.cells #[.int .u64 (t' : Int), .int .i64 (j : Int)] 82)).heap.size by have := G3.out; simp; omega)
          clear NA2
          generalize hq : w2.heap.size = q at *
          clear hq
          generalize w2.alloc (.cells #[.int .u64 (t' : Int), .int .i64 (j : Int)] 82) = w3 at *
          have hdk : d < k := by omega
          have hjk : j < k := by omega
          have hdc : (d : Int) < k := by omega
          have hjc : (j : Int) < k := by omega
          obtain ⟨c1, f1⟩ := NA3.out d (by rw [HZL.out]; exact hdk)
          obtain ⟨c2, f2⟩ := NA3.out j (by rw [HZL.out]; exact hjk)
          obtain ⟨e1, e2, -, -⟩ := SB.out.two
          have P1 := Lib.hid (show NatsAt ((w3.setCell ⟨g, d, none⟩ (.int .i64 (zs.getD j 0 : Nat))).setCell ⟨g, j, none⟩ (.int .i64 (zs.getD d 0 : Nat))) g (swapN zs d j) from NA3.out.swap d j (by rw [HZL.out]; exact hdk) (by rw [HZL.out]; exact hjk))
          have P2 := Lib.hid ((B3.out.setCell (p := ⟨g, d, none⟩) (by show w.heap.size ≤ g; omega) (.int .i64 (zs.getD j 0 : Nat))).setCell (p := ⟨g, j, none⟩) (by show w.heap.size ≤ g; omega) (.int .i64 (zs.getD d 0 : Nat)))
          have P3 := Lib.hid (show (swapN zs d j).length = k by rw [swapN_len, HZL.out])
          have P5 := Lib.hid (show g < ((w3.setCell ⟨g, d, none⟩ (.int .i64 (zs.getD j 0 : Nat))).setCell ⟨g, j, none⟩ (.int .i64 (zs.getD d 0 : Nat))).heap.size by have := G3.out; simpa [World.setCell] using this)
          have P6 := Lib.hid ((Z3.out.far (p := ⟨g, d, none⟩) (by show w.heap.size ≠ g; omega) (.int .i64 (zs.getD j 0 : Nat))).far (p := ⟨g, j, none⟩) (by show w.heap.size ≠ g; omega) (.int .i64 (zs.getD d 0 : Nat)))
          have hd1 : IntKind.i64.wrap ((d : Int) - 1) = ((d - 1 : Nat) : Int) := by rw [IntWalk.i64_in _ (by omega)]; omega
          clear NA3 Z3 B3 SB G3 HZL
          generalize swapN zs d j = zs' at *
          generalize zs.getD d 0 = x at *
          generalize zs.getD j 0 = y at *
          generalize hd1e : d - 1 = d1 at *
          have hd1l : d1 ≤ k - 1 := by omega
          have hd1m : d1 < d := by omega
          clear hd1e
          by_cases hij : d = j
          · subst hij
            have hxy : y = x := by
              rw [c1] at c2
              injection c2 with c2
              injection c2 with _ c2
              omega
            subst hxy
            clear c2 f2
            go_wp2_with fail
            go_roundw
            case rel => exact ⟨d1, t', zs', hd1l, by go_num, rfl, ht', P3, P1, P6, P2, P5, HSF2⟩
            case measure => simp [intOf] <;> omega
          · have hji : j ≠ d := fun e => hij e.symm
            go_wp2_with fail
            go_roundw
            case rel => exact ⟨d1, t', zs', hd1l, by go_num, rfl, ht', P3, P1, P6, P2, P5, HSF2⟩
            case measure => simp [intOf] <;> omega
        · obtain rfl : d = 0 := by omega
          have hd0' : ¬ (0 : Int) < 0 := by omega
          have HR := Lib.hid (show R = (t, zs) from (Eq.symm HSF.out))
          obtain ⟨e1, e2, f1, f2⟩ := Z2.out.two
          go_wp2_with fail
          refine close_one Try.results30 rfl rfl Z2.out.put2 Try.underlying53 rfl (by kernel_rfl) ?_
          unfold RShufOut
          rw [HRR.out, HR.out]
          refine ⟨g, c, rfl, hcap, ?_, HZL.out, by omega, by have := HG1.out; simpa [World.setCell] using this, (B2.out.setCell (p := ⟨w.heap.size, 0, none⟩) (Nat.le_refl _) _).setCell (p := ⟨w.heap.size, 1, none⟩) (Nat.le_refl _) _⟩
          exact (HNA.out.far (p := ⟨w.heap.size, 0, none⟩) (by show g ≠ w.heap.size; omega) _).far (p := ⟨w.heap.size, 1, none⟩) (by show g ≠ w.heap.size; omega) _
end Go.Proofs.Ytbgikkeiapbghaa
