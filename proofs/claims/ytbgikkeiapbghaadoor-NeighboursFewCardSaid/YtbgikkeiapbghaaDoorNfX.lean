/- NeighboursFew: the walk. -/
import Derived.Test.YtbgikkeiapbghaaDoorNfM
import Derived.Test.YtbgikkeiapbghaaDoorNb5
import Derived.Test.YtbgikkeiapbghaaDoorNb7
import Derived.Test.YtbgikkeiapbghaaDoorRefNums
import Derived.OpenShut
import Derived.Deep.RegionWith
namespace Go.Proofs.YtbgikkeiapbghaaDoor
open Go.RowKit
theorem remN (a : Int) (n : Nat) (hn : 0 < n) : ∃ r : Int, a.tmod (n : Int) = r ∧ -(n : Int) < r ∧ r < n := by
  refine ⟨_, rfl, ?_, ?_⟩
  · have := Int.lt_tmod_of_pos a (b := (n : Int)) (by omega); omega
  · have := Int.tmod_lt_of_pos a (b := (n : Int)) (by omega); omega
theorem cell_keep {w w' : World} (hb : Below w.heap.size w w') {p : Addr} {v : Value} (h : w.cell? p = some v) : w'.cell? p = some v := (hb.cell (p := p) (block_lt_of_cell h)).trans h
theorem nbRow_lt' (k id j : Nat) : (nbRow k id).getD j 0 < 18446744073709551616 := ofBits_lt k _ j
theorem rowsF_yes (k : Nat) (h1 : 1 ≤ k) (h2 : k ≤ 64) (A : Option Addr) (l c : Nat) (zs : List Nat) (w : World) (hz : Words w A l zs) (hl : l ≤ 64) :
    Calls Tryd.prog 6 #[.int .i64 k, .slice A l c] w (MatOut k (nbRow k) zs w) := by
  have HM := srcMay_any k
  rw [kmb_yes (n := k) (by omega)] at HM
  exact rows_gen k (nbRow k) ⟨h1, h2⟩ HM (fun id hi w => srcRow_own k id h1 h2 hi w) A l c zs w hz hl
theorem aliveF_any (w : World) : Calls Tryd.prog 9 #[] w fun e w' => e = .returned (.bool true) ∧ Below w.heap.size w w' := by
  have HP := Lib.hid (places_yes 1 7 (by omega) (by omega) (by omega))
  have HR := Lib.hid (nbMany_range 1 7 (by omega) (by omega))
  have hM : nbMany 1 7 = 1 := by have := HR.out; omega
  have HL := Lib.hid (show nbL 1 7 = [0] from by
    have h1 := nb_len 1 7 (by omega) (by omega)
    rw [hM] at h1
    have h2 := nb_there 1 7
    match hz : nbL 1 7, h1 with
    | [x], _ =>
      simp [nbZ, hz, castZ, there] at h2
      simp; omega)
  rw [hM] at HP
  clear hM HR
  go_enter Tryd.func9, Tryd.ntmps9
  go_wp2_with fail
  refine (HP.out _).mono ?_
  rintro e w1 ⟨g, c, rfl, hc, hna, hl, hg0, hg1, hb⟩
  rw [HL.out] at hna
  have B := Lib.hid hb
  have c0 := (hna 0 (by simp)).1
  simp at c0
  clear hb
  go_wp2_with fail
  go_ret
  exact ⟨rfl, B.out⟩
set_option maxRecDepth 100000 in
set_option maxHeartbeats 4000000 in
theorem few_walk (k0 : Int) (id : Nat) (hi : id < 18446744073709551616) (w : World) (hT : TabAt w 0) :
    Calls Tryd.prog 3 #[.int .i64 k0, .int .u64 id] w fun e w' => e = .returned (.bool true) ∧ Below w.heap.size w w' := by
  obtain ⟨r, er, hr1, hr2⟩ := remN k0 64 (by omega)
  have er : k0.tmod 64 = r := er
  have hr1 : -64 < r := by omega
  have hr2 : r < 64 := by omega
  obtain ⟨k, ek, h1, h2⟩ : ∃ k : Nat, r % 64 + 1 = (k : Int) ∧ 1 ≤ k ∧ k ≤ 64 := ⟨(r % 64 + 1).toNat, by omega, by omega, by omega⟩
  obtain ⟨id2, eid, hid2⟩ : ∃ x : Nat, IntKind.u64.wrap ((id : Int) + 1) = (x : Int) ∧ x < 18446744073709551616 := ⟨(id + 1) % 18446744073709551616, by rw [IntKind.wrap_u64]; omega, by omega⟩
  have HP := Lib.hid (places_yes k id h1 h2 hi)
  have HRo := Lib.hid (row_yes k id h1 h2 hi)
  have HM := Lib.hid (nbMany_range k id h1 h2)
  have HPL := Lib.hid (nb_plc k id h1 h2)
  have HRT := Lib.hid (nb_right k id h1 h2)
  have HF := Lib.hid (nb_facts k id)
  have HSS := Lib.hid (show sameB k (nbRow k id) k (nbRow k id) = true by simp [sameB])
  have HLn := Lib.hid (show (nbRow k id).length = 1 by rw [nbRow, ofBits_len]; unfold nw; omega)
  have HTb := Lib.hid hT
  have HLL := Lib.hid (show (castZ (nbL k id)) = plcZ (nbL k id) from rfl)
  clear hT
  go_enter Tryd.func3, Tryd.ntmps3
  go_wp2_with fail
  clear ek er
  refine (HP.out _).mono ?_
  rintro e w1 ⟨g, c, rfl, hc, hna, hl, hg0, hg1, hb⟩
  have HI := Lib.hid (nats_ints hna hl hg1 (some_bound k _ _ (by omega)))
  have HLe := Lib.hid hl
  have B := Lib.hid hb
  have HTb := Lib.hid (HTb.out.below hb)
  clear hna hb hl HP
  go_wp2_with fail
  refine (HRo.out _).mono ?_
  rintro e w2 ⟨A, l, c2, rfl, hw, hb⟩
  obtain rfl : l = 1 := by have := hw.1; rw [HLn.out] at this; exact this.symm
  have hal : Below w2.heap.size w2 (w2.alloc (.cells #[.int .i64 k, .slice A 1 c2] 29)) := (Below.refl _ _).alloc (Nat.le_refl _) _
  have HI := Lib.hid ((HI.out.below hb).below hal)
  have B := Lib.hid (chain (chain B.out hb) hal)
  have HTb := Lib.hid ((HTb.out.below hb).below hal)
  have Q := Lib.hid (Box.new w2 29 #[.int .i64 k, .slice A 1 c2])
  have HW := Lib.hid (hw.below hal)
  clear hw hb hal HRo
  go_wp2_with fail
  generalize hW2 : w2.alloc (.cells #[.int .i64 k, .slice A 1 c2] 29) = W at *
  have hqs : W.heap.size = w2.heap.size + 1 := by rw [← hW2]; simp
  clear hW2
  have z := Box.new W 22 (numsA [id, id2, id])
  rw [hqs] at z
  generalize w2.heap.size = q at *
  have HZ := Lib.hid (z.words (fun j => by
    match j with
    | 0 => simpa using hi
    | 1 => simpa using hid2
    | 2 => simpa using hi
    | j + 3 => simp))
  have hal : Below W.heap.size W (W.alloc (.cells #[.int .u64 id, .int .u64 id2, .int .u64 id] 22)) := (Below.refl _ _).alloc (Nat.le_refl _) _
  have HI := Lib.hid (HI.out.below hal)
  have B := Lib.hid (chain B.out hal)
  have HTb := Lib.hid (HTb.out.below hal)
  have Q := Lib.hid (Q.out.keep hal)
  have HW := Lib.hid (HW.out.below hal)
  clear hal z hqs
  refine (rowsF_yes k h1 h2 _ 3 3 [id, id2, id] _ HZ.out (by omega)).mono ?_
  rintro e w3 ⟨v, rfl, hm, hb⟩
  obtain ⟨rs, hrs⟩ := hm
  obtain ⟨A3, c3, rfl, -⟩ := own_form hrs.2.1
  have hM3 : MatW w3 _ k (.slice A3 3 c3) ([id, id2, id].map (nbRow k)) := ⟨rs, hrs⟩
  clear hrs
  have hal : Below w3.heap.size w3 (w3.alloc (.cells #[.int .i64 k, .slice A3 3 c3] 34)) := (Below.refl _ _).alloc (Nat.le_refl _) _
  have HI := Lib.hid ((HI.out.below hb).below hal)
  have B := Lib.hid (chain (chain B.out hb) hal)
  have HTb := Lib.hid ((HTb.out.below hb).below hal)
  have Q := Lib.hid ((Q.out.keep hb).keep hal)
  have HW := Lib.hid ((HW.out.below hb).below hal)
  have HMt := Lib.hid (hM3.below hal)
  have QM := Lib.hid (Box.new w3 34 #[.int .i64 k, .slice A3 3 c3])
  clear hb hal hM3 HZ eid
  obtain ⟨r0, r1, -, -⟩ := Q.out.two
  go_wp2_with fail
  have HC := Lib.hid (plc_yes k A 1 c2 (nbRow k id) (w3.alloc (.cells #[.int .i64 k, .slice A3 3 c3] 34)) HRT.out HW.out HTb.out)
  rw [show 64 * 1 = 64 from rfl, HPL.out] at HC
  refine HC.out.mono ?_
  clear HC HTb r0 r1
  rintro e w4 ⟨v5, rfl, hown, hb⟩
  rw [HLe.out] at hown
  obtain ⟨A5, c5, rfl, -⟩ := own_form hown
  have HI := Lib.hid (HI.out.below hb)
  have B := Lib.hid (chain B.out hb)
  have Q := Lib.hid (Q.out.keep hb)
  have HW := Lib.hid (HW.out.below hb)
  have HMt := Lib.hid (HMt.out.below hb)
  have QM := Lib.hid (QM.out.keep hb)
  have HI5 := Lib.hid (own_plcInts hown (some_bound k _ _ (by omega)))
  have hm1 := HM.out.1
  have hm2 := HM.out.2
  have t1 : decide ((nbMany k id : Int) < 1) = false := by simp; omega
  have t2 : decide ((k : Int) < (nbMany k id : Int)) = false := by simp; omega
  clear hb hown
  generalize w3.heap.size = qm at *
  go_wp2_with fail
  refine (refNumbers_any (some ⟨g, 0, none⟩) A5 (nbMany k id) c (nbMany k id) c5 _ _ _ HI.out HI5.out (by omega) (by omega)).mono ?_
  rintro e w5 ⟨rfl, hb⟩
  rw [HLL.out, show sameZ (plcZ (nbL k id)) (plcZ (nbL k id)) = true from decide_eq_true rfl]
  have HI := Lib.hid (HI.out.below hb)
  have B := Lib.hid (chain B.out hb)
  have Q := Lib.hid (Q.out.keep hb)
  have HW := Lib.hid (HW.out.below hb)
  have HMt := Lib.hid (HMt.out.below hb)
  have QM := Lib.hid (QM.out.keep hb)
  clear hb HI5
  go_wp2_with fail
  refine (aliveF_any _).mono ?_
  rintro e w6 ⟨rfl, hb⟩
  have HI := Lib.hid (HI.out.below hb)
  have B := Lib.hid (chain B.out hb)
  have Q := Lib.hid (Q.out.keep hb)
  have HW := Lib.hid (HW.out.below hb)
  have HMt := Lib.hid (HMt.out.below hb)
  have QM := Lib.hid (QM.out.keep hb)
  clear hb
  go_wp2_with fail
  clear t1 t2
  go_loop [84] (fun i => ∃ j : Nat, j ≤ nbMany k id ∧ i = .int .i64 j) (fun i => nbMany k id - (intOf i).toNat)
  case atStart => exact ⟨0, by omega, rfl⟩
  case round =>
    obtain ⟨j, hj, rfl⟩ := hrel
    by_cases hlt : j < nbMany k id
    · obtain ⟨f1, f2⟩ := HF.out j (by rw [HLe.out]; exact hlt)
      obtain ⟨b, off, eA, -, hc⟩ := HI.out.2.2 (by omega)
      injection eA with eA
      injection eA with e1 e2
      subst e1 e2
      have c1 := hc j hlt
      rw [HLL.out, plcZ_getD, Nat.zero_add] at c1
      cases j with
      | zero =>
        clear hc f2
        generalize (nbL k id).getD 0 0 = x at *
        go_wp2
        go_round
        case rel => exact ⟨_, _, _, _, ⟨1, by omega, rfl⟩, rfl, rfl, rfl, rfl⟩
        case measure => simp [intOf]; omega
      | succ i =>
        have c0 := hc i (by omega)
        rw [HLL.out, plcZ_getD, Nat.zero_add] at c0
        have f2 := f2 (by omega)
        rw [Nat.add_sub_cancel] at f2
        clear hc
        generalize (nbL k id).getD (i + 1) 0 = x at *
        generalize (nbL k id).getD i 0 = y at *
        have f3 : ¬ (x : Int) ≤ (y : Int) := by omega
        go_wp2
        go_round
        case rel => exact ⟨_, _, _, _, ⟨i + 2, by omega, rfl⟩, rfl, rfl, rfl, by go_num⟩
        case measure => simp [intOf]; omega
    · obtain rfl : j = nbMany k id := by omega
      go_wp2_with fail
      have HWx := Lib.hid HW.out
      have Bx := Lib.hid B.out
      obtain ⟨r0, r1, -, -⟩ := Q.out.two
      obtain ⟨m0, m1, -, -⟩ := QM.out.two
      obtain ⟨g3, B0, l0, d0, eA, hlt3, x0, x1, ow0⟩ := HMt.out.at 0 (by simp)
      obtain ⟨g3', B2, l2, d2, eA2, -, y0, y1, ow2⟩ := HMt.out.at 2 (by simp)
      rw [eA] at eA2
      injection eA2 with eA2
      injection eA2 with eA2 _
      subst eA2
      subst eA
      simp only [List.map_cons, List.map_nil, List.getD_cons_zero, List.getD_cons_succ, Nat.zero_mul, Nat.zero_add] at x0 x1 y0 y1 ow0 ow2
      have W0 := Lib.hid (ow0.words (nbRow_lt' k id))
      have W2 := Lib.hid (ow2.words (nbRow_lt' k id))
      have hl0 : l0 = 1 := by have := W0.out.1; rw [HLn.out] at this; exact this.symm
      have hl2 : l2 = 1 := by have := W2.out.1; rw [HLn.out] at this; exact this.symm
      subst hl0 hl2
      clear ow0 ow2 HMt HI
      have tk : (((k : Nat) : Int) == ((k : Nat) : Int)) = true := by simp
      have hle1 : (1 : Nat) ≤ 1000000 := by omega
      have HS0 := Lib.hid (same_any k k B0 A 1 d0 1 c2 _ _ _ W0.out.drew HWx.out.drew hle1)
      rw [HSS.out] at HS0
      go_region_held3 (fun w' => w'.cell? ⟨q, 0, none⟩ = some (.int .i64 k) ∧ w'.cell? ⟨q, 1, none⟩ = some (.slice A 1 c2) ∧ w'.cell? ⟨qm, 0, none⟩ = some (.int .i64 k) ∧ w'.cell? ⟨qm, 1, none⟩ = some (.slice (some ⟨g3, 0, none⟩) 3 c3) ∧ w'.cell? ⟨g3, 0, none⟩ = some (.int .i64 k) ∧ w'.cell? ⟨g3, 1, none⟩ = some (.slice B0 1 d0) ∧ w'.cell? ⟨g3, 4, none⟩ = some (.int .i64 k) ∧ w'.cell? ⟨g3, 5, none⟩ = some (.slice B2 1 d2)) (go_keep)
        (first
          | (go_at_call 10; ((with_reducible refine HS0.out.mono ?_); rintro f1 z1 ⟨rfl, tok⟩; have u0 := cell_keep tok (show World.cell? (World.drew w6) _ = _ from r0); have u1 := cell_keep tok (show World.cell? (World.drew w6) _ = _ from r1); have u2 := cell_keep tok (show World.cell? (World.drew w6) _ = _ from m0); have u3 := cell_keep tok (show World.cell? (World.drew w6) _ = _ from m1); have u4 := cell_keep tok (show World.cell? (World.drew w6) _ = _ from x0); have u5 := cell_keep tok (show World.cell? (World.drew w6) _ = _ from x1); have u6 := cell_keep tok (show World.cell? (World.drew w6) _ = _ from y0); have u7 := cell_keep tok (show World.cell? (World.drew w6) _ = _ from y1); have B8 := Lib.hid (chain Bx.out.drew tok); have W8 := Lib.hid (W2.out.drew.below tok); have H8 := Lib.hid (HWx.out.drew.below tok); clear tok))
          | (go_at_call 10; refine (same_any k k B2 A 1 d2 1 c2 _ _ _ W8.out H8.out hle1).mono ?_; rintro f2 z2 ⟨rfl, hb⟩; rw [HSS.out]; have v0 := cell_keep hb u0; have v1 := cell_keep hb u1; have v2 := cell_keep hb u2; have v3 := cell_keep hb u3; have v4 := cell_keep hb u4; have v5 := cell_keep hb u5; have v6 := cell_keep hb u6; have v7 := cell_keep hb u7; have B9 := Lib.hid (chain B8.out hb); clear hb))
      go_wp2_with fail
      go_ret
      exact ⟨rfl, B9.out⟩
end Go.Proofs.YtbgikkeiapbghaaDoor
