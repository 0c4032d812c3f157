/- Parts: Bs5, Bs6, Bs7, Bf1, Bf2, Words2, RefBlock. -/
import Derived.Test.YtdfmogcgangdnaaZh
import Derived.Deep.AppendLies
namespace Go.Proofs.Ytdfmogcgangdnaa
section
/- backsub: reduced: its first loop. -/
set_option linter.unusedVariables false
set_option linter.unusedSimpArgs false
open Go.RowKit
set_option maxRecDepth 100000
/-- Rows and their blocks. -/
def pairs (X : List Nat) (ss : List ByteArray) : List PV := X.zip ss
theorem pairs_len (X : List Nat) (ss : List ByteArray) (m : Nat) (h1 : X.length = m) (h2 : ss.length = m) : (pairs X ss).length = m := by simp [pairs, h1, h2]
theorem pairs_at (X : List Nat) (ss : List ByteArray) (m i : Nat) (h1 : X.length = m) (h2 : ss.length = m) (hi : i < m) : (pairs X ss).getD i pv0 = (X.getD i 0, ss.getD i ByteArray.empty) := by
  have e : (pairs X ss)[i]? = some (X[i]'(by omega), ss[i]'(by omega)) := by
    rw [List.getElem?_eq_some_iff]
    exact ⟨by simp [pairs]; omega, by simp [pairs]⟩
  simp [List.getD, e, show i < X.length by omega, show i < ss.length by omega]
/-- What reduced hands back. -/
def RedOut (N n : Nat) (L0 : List PV) (X : List Nat) (w : World) (e : Ending) (w' : World) : Prop :=
  ∃ (M P : List Nat) (O F : List PV) (vO vF : Value), e = .returned (.tuple #[vO, vF]) ∧ Rref M P ∧ SameSp X M ∧ Elim (L0.map (zOf N)) P P.length (O.map (zOf N)) (F.map (zOf N)) ∧ (∀ p ∈ O, GoodP N n p) ∧ (∀ p ∈ F, GoodP N n p) ∧
    OwnersQ w w' (w.heap.size + 1) vO N O P ∧ PairsQ w w' (w.heap.size + 1) vF N F ∧ F.length ≤ L0.length ∧ Below w.heap.size w w'
set_option maxHeartbeats 4000000 in
theorem reduced_any (N n : Nat) (hN : N ≤ 64) (hn : n ≤ 64) (X : List Nat) (hX : ∀ r ∈ X, r < 2 ^ N) (m : Nat) (hXm : X.length = m) (hm64 : m ≤ 64) (ss : List ByteArray) (hss : ∀ s ∈ ss, s.size = n) (A S : Option Addr) (c d lo : Nat) (w : World) (hsl : SliceOk A m c) (hm : MatAt w lo A m (mkM N X)) (hr : rightM N (mkM N X) = true) (ht : Texts w S m ss) :
    Calls Try.prog 45 #[.agg #[.int .i64 (N : Int), .slice A m c], .slice S m d] w (RedOut N n (pairs X ss) X w) := by
  obtain ⟨i0, hinf, hz0, hz1, hz2⟩ := info_parts pair_info
  have hssm := ht.1
  have HI := Lib.hid hinf
  have HZ0 := Lib.hid hz0
  have HZ1 := Lib.hid hz1
  have HZ2 := Lib.hid hz2
  have b1 : Below w.heap.size w (w.alloc (.cells #[.int .i64 (N : Int), .slice A m c] 24)) := (Below.refl _ _).alloc (Nat.le_refl _) _
  have Q := Lib.hid (Box.new w 24 #[.int .i64 (N : Int), .slice A m c])
  have HB := Lib.hid b1
  have HM := Lib.hid hm
  have HT := Lib.hid ht
  have HXm := Lib.hid hXm
  have HSm := Lib.hid hssm
  have HX := Lib.hid hX
  have HS := Lib.hid hss
  have HR := Lib.hid hr
  have HSl := Lib.hid hsl
  have hcm : m ≤ c := hsl.1
  have HPl := Lib.hid (pairs_len X ss m hXm hssm)
  obtain ⟨L0, hL0⟩ : ∃ L0, L0 = pairs X ss := ⟨_, rfl⟩
  rw [← hL0] at HPl ⊢
  have HL0 := Lib.hid hL0
  obtain ⟨q0, q1, -, -⟩ := Q.out.two
  clear b1 hm ht hXm hssm hX hss hr hsl hL0 hinf hz0 hz1 hz2
  go_enter Try.func45, Try.ntmps45
  go_wp2_with fail
  clear q0 q1
  go_loopw [20, 6] (fun t v wr => ∃ (i : Nat) (rs : List RowV), i ≤ m ∧ t = .int .i64 (i : Int) ∧ Hid (rs.length = i) ∧ Hid (wr.ownsRow (w.heap.size + 1) 85 3 v i (prC rs (L0.take i))) ∧ Hid (∀ j, j < i → RowQ w wr N (rs.getD j (0, none, 0, 0)) (L0.getD j pv0).1) ∧ Hid (Box wr w.heap.size 24 #[.int .i64 (N : Int), .slice A m c]) ∧ Hid (Below w.heap.size w wr)) (fun t _ _ => m - (intOf t).toNat)
  case atStart => exact ⟨0, [], Nat.zero_le _, rfl, Lib.hid rfl, Lib.hid (World.ownsRow_nil _ _ _ _), Lib.hid (fun j h => by omega), Q, HB⟩
  case round =>
    obtain ⟨i, rs, hi, rfl, HRl, HO, HRS, HQ, HBr⟩ := hrel
    by_cases hlt : i < m
    · have hlt' : (i : Int) < (m : Int) := by omega
      obtain ⟨b, off, B, l, k, hA, hbw, x0, x1, hs, hw⟩ := HM.out.at i hlt
      subst hA
      have hx : (mkM N X).getD i (0, []) = mkR N (X.getD i 0) := mkM_at N X i (by rw [HXm.out]; exact hlt)
      rw [hx] at x0 hw
      clear hx
      obtain ⟨b2, off2, hS, hb2, hc2⟩ := HT.out.2.2 (by omega)
      subst hS
      have y0 := hc2 i hlt
      obtain ⟨x, hxe⟩ : ∃ x, x = X.getD i 0 := ⟨_, rfl⟩
      obtain ⟨s, hse⟩ : ∃ s, s = ss.getD i ByteArray.empty := ⟨_, rfl⟩
      rw [← hxe] at x0 hw
      have x0 : w.cell? ⟨b, off + i * 2, none⟩ = some (.int .i64 (N : Int)) := x0
      have hw : Words w B l (rowOf N x) := hw
      rw [← hse] at y0
      have HP := Lib.hid (show L0.getD i pv0 = (x, s) by rw [HL0.out, pairs_at X ss m i HXm.out HSm.out hlt, hxe, hse])
      have HTk := Lib.hid (show L0.take (i + 1) = L0.take i ++ [(x, s)] by rw [List.take_succ_eq_append_getElem (by rw [HPl.out]; exact hlt), ← HP.out]; simp [List.getD, HPl.out, hlt])
      have x0 := (HBr.out.cell (p := ⟨b, off + i * 2, none⟩) hbw).trans x0
      have x1 := (HBr.out.cell (p := ⟨b, off + i * 2 + 1, none⟩) hbw).trans x1
      have y0 := (HBr.out.cell (p := ⟨b2, off2 + i, none⟩) hb2).trans y0
      have HQw := Lib.hid (show RowQ w wr N ((N : Int), B, l, k) x from ⟨rfl, hs, .inl hw⟩)
      have hws := HBr.out.size
      have hqs : w.heap.size < wr.heap.size := HQ.out.lt
      have hbr : b < wr.heap.size := by omega
      have hb2r : b2 < wr.heap.size := by omega
      clear hs hw hc2 hxe hse
      have al : Below wr.heap.size wr (wr.alloc (.cells #[.int .i64 (N : Int), .slice B l k] 40)) := (Below.refl _ _).alloc (Nat.le_refl _) _
      have E := Lib.hid (Box.new wr 40 #[.int .i64 (N : Int), .slice B l k])
      have AL1 := Lib.hid al
      have Q1 := Lib.hid (HQ.out.keep al)
      have O1 := Lib.hid (own_keep HO.out al)
      have RS1 := Lib.hid (fun j hj => (HRS.out j hj).below al)
      have HB1 := Lib.hid (chain HBr.out al)
      have QW1 := Lib.hid (HQw.out.below al)
      have y1 := (al.cell (p := ⟨b2, off2 + i, none⟩) hb2r).trans y0
      have HSZ := Lib.hid (show (wr.alloc (.cells #[.int .i64 (N : Int), .slice B l k] 40)).heap.size = wr.heap.size + 1 by simp)
      clear al
      go_wp2_with fail
      generalize hW3 : wr.alloc (.cells #[.int .i64 (N : Int), .slice B l k] 40) = w3 at *
      clear hW3 x0 x1 y0 HQw HO HRS HQ HBr AL1
      obtain ⟨e0, e1, -, -⟩ := E.out.two
      have hn0 := O1.out.lt
      have hes := E.out.lt
      have XO := Lib.hid (own_drewM (World.ownsRow.alloc O1.out (.cells #[.int .i64 (N : Int), .slice B l k, .string s] 85)))
      have XN := Lib.hid (show ∀ j u, ([.int .i64 (N : Int), .slice B l k, .string s] : List Value)[j]? = some u → (w3.alloc (.cells #[.int .i64 (N : Int), .slice B l k, .string s] 85)).drew.cell? ((⟨w3.heap.size, 0, none⟩ : Addr).add j) = some u from World.news_of_block (Box.new w3 85 #[.int .i64 (N : Int), .slice B l k, .string s]))
      have ki := HI.out
      have kz0 := HZ0.out
      have kz1 := HZ1.out
      have kz2 := HZ2.out
      have a1 : i + 1 ≤ maxLen := by unfold maxLen; omega
      have a2 : (i + 1) * 48 ≤ 140737488355328 := by omega
      have XL := Lib.hid (show w.heap.size + 1 ≤ (w3.alloc (.cells #[.int .i64 (N : Int), .slice B l k, .string s] 85)).drew.heap.size by show _ ≤ (w3.alloc (.cells #[.int .i64 (N : Int), .slice B l k, .string s] 85)).heap.size; simp; omega)
      have x1c := Lib.hid (show ∀ u ∈ ([.int .i64 (N : Int), .slice B l k, .string s] : List Value), u.oneCell' = true by simp [Value.oneCell'])
      go_region_law (refine step_append_lies _ rfl (.tmp 25) (.tmp 32) 80 rfl (w.heap.size + 1) 85 i0 (.agg #[.int .i64 0, .slice none 0 0, .string ⟨#[]⟩]) 3 48 Try.underlying80 ki kz0 kz1 kz2 rfl (by decide) u6 i (prC rs (L0.take i)) ?_ XO.out ⟨w3.heap.size, 0, none⟩ 1 1 [.int .i64 (N : Int), .slice B l k, .string s] ?_ rfl XN.out x1c.out (by omega) a1 a2 XL.out _ rfl ?_; simp [Act.eval, Act.put]; simp [Act.eval, Act.put]; intro g cap w4 hown hgrow _ _; have HO2 := Lib.hid hown; have HG := Lib.hid hgrow; clear hown hgrow)
      all_goals
        have GX := Lib.hid (Box.grown (show Box (w3.alloc (.cells #[.int .i64 (N : Int), .slice B l k, .string s] 85)).drew w.heap.size 24 #[.int .i64 (N : Int), .slice (some ⟨b, off, none⟩) m c] from Q1.out.alloc (.cells #[.int .i64 (N : Int), .slice B l k, .string s] 85)) HG.out (own_ne O1.out Q1.out (by decide)))
        have GB := Lib.hid (Below.grown ((HB1.out.alloc HB1.out.size (.cells #[.int .i64 (N : Int), .slice B l k, .string s] 85)).drew) HG.out (Nat.le_of_succ_le XL.out) (fun k hk => by have := (XO.out.lt k hk).1; omega))
        have gr : ∀ {r : RowV} {x : Nat}, RowQ w w3 N r x → RowQ w w4 N r x := fun q => ⟨q.1, q.2.1, q.2.2.imp id (fun o => OwnW.grown ((o.alloc (.cells #[.int .i64 (N : Int), .slice B l k, .string s] 85)).drew) XO.out (by decide) HG.out)⟩
        have GR := Lib.hid (fun j (hj : j < i + 1) => show RowQ w w4 N ((rs ++ [((N : Int), B, l, k)]).getD j (0, none, 0, 0)) (L0.getD j pv0).1 by
          by_cases e : j < i
          · have e1 : (rs ++ [((N : Int), B, l, k)]).getD j (0, none, 0, 0) = rs.getD j (0, none, 0, 0) := by simp only [List.getD]; rw [List.getElem?_append_left (by rw [HRl.out]; exact e)]
            rw [e1]; exact gr (RS1.out j e)
          · obtain rfl : j = i := by omega
            have e1 : (rs ++ [((N : Int), B, l, k)]).getD j (0, none, 0, 0) = ((N : Int), B, l, k) := by rw [← HRl.out]; simp [List.getD]
            rw [e1, HP.out]; exact gr QW1.out)
        have GO := Lib.hid (show w4.ownsRow (w.heap.size + 1) 85 3 (.slice (some ⟨g, 0, none⟩) (i + 1) cap) (i + 1) (prC (rs ++ [((N : Int), B, l, k)]) (L0.take (i + 1))) by
          rw [HTk.out, prC_snoc rs (L0.take i) (by rw [HRl.out, List.length_take, HPl.out]; omega)]
          exact HO2.out)
        have GL := Lib.hid (show (rs ++ [((N : Int), B, l, k)]).length = i + 1 by rw [List.length_append, HRl.out]; rfl)
        clear HG HO2 XO XN XL O1 Q1 HB1 RS1 QW1 e0 e1
        go_wp2_with fail
        go_roundw
        case rel => exact ⟨i + 1, _, by omega, by go_num, GL, GO, GR, GX, GB⟩
        case measure => simp [intOf]; omega
    · obtain rfl : i = m := by omega
      have hlt' : ¬ (i : Int) < (i : Int) := by omega
      have HF0 := Lib.hid (show PairsQ w wr (w.heap.size + 1) u6 N L0 from ⟨rs, by rw [HRl.out, HPl.out], by have := CellsRow.of HO.out; rw [List.take_of_length_le (by rw [HPl.out]; exact Nat.le_refl _)] at this; rw [HPl.out]; exact this, fun j hj => HRS.out j (by rw [← HPl.out]; exact hj)⟩)
      have HE := Lib.hid (fun W (hb : Below w.heap.size w W) => ech_two N hN X HX.out (by rw [HXm.out]; exact hm64) A c lo W (by rw [HXm.out]; exact HM.out.below hb) HR.out)
      rw [HXm.out] at HE
      obtain ⟨q0, q1, -, -⟩ := HQ.out.two
      clear HO HRS
      go_wp2_with fail
      refine (HE.out _ HBr.out).mono ?_
      rintro e w2 ⟨M, P, A2, Bc, kc, rfl, hM, hMs, -, -, hkc, ⟨bs, hcol⟩, hb⟩
      have HMr := Lib.hid hM
      have HSp := Lib.hid (show SameSp ((L0.map (zOf N)).map (lowN N)) M by rw [HL0.out, pairs, pairs_low HX.out HS.out (by rw [HXm.out, HSm.out])]; exact hMs)
      have HGd := Lib.hid (show ∀ p ∈ L0, GoodP N n p by rw [HL0.out]; exact pairs_good HX.out HS.out)
      have HMs := Lib.hid hMs
      have HB2 := Lib.hid (chain HBr.out hb)
      have HF2 := Lib.hid (HF0.out.keep hb)
      have HCol := Lib.hid hcol
      have HPM := Lib.hid hM.len
      have HPc := Lib.hid (show ∀ j, j < P.length → P.getD j 0 < N from fun j hj => place_lt (rows_lt HSp.out) HMr.out j hj)
      have HM64 := Lib.hid (show M.length ≤ 64 by have := rref_len HMr.out (rows_lt HSp.out); omega)
      have al : Below w2.heap.size w2 (w2.alloc (.cells #[.int .i64 (N : Int), .slice A2 M.length M.length] 24)) := (Below.refl _ _).alloc (Nat.le_refl _) _
      have AL2 := Lib.hid al
      clear hM hMs hb hcol al q0 q1 HF0 HBr HE
      obtain ⟨w1, rfl⟩ : ∃ w1 : World, w1 = wr := ⟨_, rfl⟩
      go_wp2_with fail
      go_loopw [43, 6, 9] (fun t vf vo wr => ∃ (k : Nat) (O F : List PV), k ≤ M.length ∧ t = .int .i64 (k : Int) ∧ Hid (Elim (L0.map (zOf N)) P k (O.map (zOf N)) (F.map (zOf N))) ∧ Hid (∀ p ∈ O, GoodP N n p) ∧ Hid (∀ p ∈ F, GoodP N n p) ∧ Hid (F.length ≤ i) ∧ Hid (OwnersQ w wr (w.heap.size + 1) vo N O (P.take k)) ∧ Hid (PairsQ w wr (w.heap.size + 1) vf N F) ∧ Hid (wr.ownsRow bs 3 1 (.slice Bc M.length kc) M.length (P.map numV)) ∧ Hid (Below w.heap.size w wr)) (fun t _ _ _ => M.length - (intOf t).toNat)
      case atStart => exact ⟨0, [], L0, Nat.zero_le _, rfl, Lib.hid (elim_start _ _), Lib.hid (fun p h => by cases h), HGd, Lib.hid (by rw [HPl.out]; exact Nat.le_refl _), Lib.hid ⟨[], rfl, rfl, World.ownsRow_nil _ _ _ _, fun j h => by cases h⟩, Lib.hid (HF2.out.keep AL2.out), Lib.hid (own_keep HCol.out AL2.out), Lib.hid (chain HB2.out AL2.out)⟩
      case round =>
        obtain ⟨k, O, F, hk, rfl, HEl, HGO, HGF, HFl, HOw, HFr, HCo, HBx⟩ := hrel
        by_cases hlt : k < M.length
        · have hlt' : (k : Int) < (M.length : Int) := by omega
          have hk64 : k < 64 := by have := HM64.out; omega
          have hin := own_ints (zs := P.map fun x : Nat => (x : Int)) (by rw [List.map_map]; exact HCo.out) (num_bdP P (fun j hj => by have := HPc.out j hj; omega))
          obtain ⟨b, off, hBc, hbl, x0⟩ := ints_cell hin k hlt
          subst hBc
          obtain ⟨q, hq⟩ : ∃ q, q = P.getD k 0 := ⟨_, rfl⟩
          rw [← hq] at x0
          have HQe := Lib.hid hq
          have HqN := Lib.hid (show q < N by rw [hq]; exact HPc.out k (by rw [← HPM.out]; exact hlt))
          clear hin hq
          have al : Below wr.heap.size wr (wr.alloc (.cells #[.int .i64 0, .slice none 0 0, .string ⟨#[]⟩, .int .i64 0] 87)) := (Below.refl _ _).alloc (Nat.le_refl _) _
          have AL3 := Lib.hid al
          have T0 := Lib.hid (Box.new wr 87 #[.int .i64 0, .slice none 0 0, .string ⟨#[]⟩, .int .i64 0])
          have hwr := HBx.out.size
          have HC := Lib.hid (chosen_any N n (by omega) F HGF.out (by have := HFl.out; omega) q HqN.out (by rw [HQe.out]; exact has_next HEl.out HMr.out HSp.out (by rw [← HPM.out]; exact hlt) HGF.out) w (w.heap.size + 1) u6 _ (by simp; omega) (chainN HBx.out hwr al) (by simp; omega) (HFr.out.keep al))
          clear al
          go_wp2_with fail
          refine HC.out.mono ?_
          rintro e w3 ⟨i1, A3, l3, d3, v3, hi1, hb1, rfl, hrow, hpr, hb⟩
          have gf := HGF.out _ (getD_memP hi1)
          have HI1 := Lib.hid hi1
          have HBit := Lib.hid hb1
          obtain ⟨f, hf⟩ : ∃ f, f = F.getD i1 pv0 := ⟨_, rfl⟩
          rw [← hf] at gf hrow ⊢
          have HFe := Lib.hid hf
          obtain ⟨Fe, hFe⟩ : ∃ Fe, Fe = F.eraseIdx i1 := ⟨_, rfl⟩
          rw [← hFe] at hpr
          have HGFe := Lib.hid (show ∀ p ∈ Fe, GoodP N n p by rw [hFe]; exact fun p hp => HGF.out p (List.mem_of_mem_eraseIdx hp))
          have HLe := Lib.hid (show Fe.length ≤ i by have := HFl.out; rw [hFe, List.length_eraseIdx]; split <;> omega)
          have HFer := Lib.hid hFe
          have GF := Lib.hid gf
          have HT1 := Lib.hid (T0.out.keep hb)
          have HOw1 := HOw.out.keep (chain AL3.out hb)
          have HB3 := Lib.hid (chain HBx.out (chain AL3.out hb))
          have HCo1 := own_keep HCo.out (chain AL3.out hb)
          have hlt1 := HOw.out.lt
          have HT2 := Lib.hid (ownW_box (N := N) (A := A3) (l := l3) (d := d3) (s := f.2) (c := q) HT1.out)
          have HOw2 := Lib.hid (OwnersQ.ownW (N' := N) (A := A3) (l := l3) (d := d3) (s := f.2) (c := q) HT1.out HOw1 (fun g c hv => by have := hlt1 g c hv; omega))
          have HP2 := Lib.hid (PairsQ.owned (N' := N) (A := A3) (l := l3) (d := d3) (s := f.2) (c := q) HT1.out hpr)
          have HR2 := Lib.hid (ownW_row (N := N) (A := A3) (l := l3) (d := d3) (s := f.2) (c := q) HT1.out hrow)
          have HCo2 := Lib.hid (own_ownW (N' := N) (A := A3) (l := l3) (d := d3) (s := f.2) (c := q) HT1.out HCo1 (by decide))
          have HB4 := Lib.hid (ownW_below (N := N) (A := A3) (l := l3) (d := d3) (s := f.2) (c := q) HB3.out hwr)
          obtain ⟨z0, z1, z2, z3, zf0, zf1, zf2, zf3⟩ := HT1.out.quad
          have HLt := Lib.hid hlt1
          clear hb hf hFe hpr hrow gf HOw1 HCo1 hlt1 hi1 hb1 HC HFr HOw HCo T0 AL3 x0
          obtain ⟨r, hr1, hr2⟩ := HP2.out.at_row
          have hs4 : w.heap.size ≤ (ownW w3 wr.heap.size N A3 l3 d3 f.2 q).heap.size := HB4.out.size
          have HK := Lib.hid (pclear_any N n (by omega) hn f GF.out Fe HGFe.out (by have := HLe.out; omega) q HqN.out w (w.heap.size + 1) v3 (ownW w3 wr.heap.size N A3 l3 d3 f.2 q) hs4 HB4.out (by omega) A3 l3 d3 HR2.out HP2.out r (fun g c h1 h2 => hr1 g c h1 h2) (fun g e => by have := (hr2 g e).1; omega))
          have HR1 := Lib.hid (fun g e => (hr2 g e).2)
          have HR0 := Lib.hid (fun g e => (hr2 g e).1)
          clear hr1 hr2
          go_wp2_with fail
          refine HK.out.mono ?_
          rintro e w5 ⟨⟨uu, rfl⟩, hp5, hg5⟩
          have hpc : PC (ownW w3 wr.heap.size N A3 l3 d3 f.2 q) w5 85 := ⟨r, hg5, HR1.out⟩
          have HT5 := Lib.hid (hpc.box HT2.out (by decide))
          have HOw5 := Lib.hid (hpc.owners HOw2.out (by decide) (by decide))
          have HP5 := Lib.hid hp5
          have HR5 := Lib.hid (hpc.row HR2.out (by decide))
          have HCo5 := Lib.hid (hpc.own HCo2.out (by decide))
          have HB5 := Lib.hid (gr_low HB4.out hs4 hg5 (fun g e => by have := HR0.out g e; omega))
          obtain ⟨Ao, co, rfl, hoc, hocm⟩ := HOw5.out.form0
          unfold maxLen at hocm
          have hlO : O.length ≤ 64 := by
            have := HEl.out.len
            rw [List.length_map] at this
            have := HM64.out
            omega
          clear hpc hp5 hg5 HK HR1 HR0 HT1 HT2 HOw2 HP2 HR2 HCo2 HB4 HB3 hs4 z0 z1 z2 z3 zf0 zf1 zf2 zf3
          obtain ⟨wA, rfl⟩ : ∃ wA : World, wA = wr := ⟨_, rfl⟩
          go_wp2_with fail
          go_loopw [58] (fun t wr => ∃ j : Nat, j ≤ O.length ∧ t = .int .i64 (j : Int) ∧ Hid (OwnersQ w wr (w.heap.size + 1) (.slice Ao O.length co) N (clrU q f O j) (P.take k)) ∧ Hid (PairsQ w wr (w.heap.size + 1) v3 N (clrP q f Fe)) ∧ Hid (Box wr wA.heap.size 87 #[.int .i64 (N : Int), .slice A3 l3 d3, .string f.2, .int .i64 (q : Int)]) ∧ Hid (RowQ w wr N ((N : Int), A3, l3, d3) f.1) ∧ Hid (wr.ownsRow bs 3 1 (.slice (some ⟨b, off, none⟩) M.length kc) M.length (P.map numV)) ∧ Hid (Below w.heap.size w wr)) (fun t _ => O.length - (intOf t).toNat)
          case atStart => exact ⟨0, Nat.zero_le _, rfl, Lib.hid (by rw [clrU_zero]; exact HOw5.out), HP5, HT5, HR5, HCo5, HB5⟩
          case round =>
            obtain ⟨j, hj, rfl, IO, IP, IT, IR, IC, IB⟩ := hrel
            clear HOw5 HP5 HT5 HR5 HCo5 HB5
            by_cases hjl : j < O.length
            · have hjl' : (j : Int) < (O.length : Int) := by omega
              have HCL := Lib.hid (clrU_len q f O j hj)
              have io := IO.out
              obtain ⟨g, c2, hv, hgb, hgw, -, -, cur, hcur⟩ := io.form (by rw [HCL.out]; omega)
              injection hv with hv h2 h3
              subst hv
              clear h2 h3
              have hga : g < wA.heap.size := (HLt.out g co rfl).2
              rw [show O.length = (clrU q f O j).length from HCL.out.symm] at io
              obtain ⟨A1, l1, d1, x0, x1, x2, x3, rq, xf0, xf1, xf2, xf3⟩ := io.at j (by rw [HCL.out]; exact hjl)
              have gp := clrU_good GF.out HGO.out j _ (getD_memP (L := clrU q f O j) (i := j) (by rw [HCL.out]; exact hjl))
              rw [clrU_here q f O j hjl] at x2 rq gp
              obtain ⟨p, hp⟩ : ∃ p, p = O.getD j pv0 := ⟨_, rfl⟩
              rw [← hp] at x2 rq gp
              have GP := Lib.hid gp
              have HPI := Lib.hid hp
              have RQ := Lib.hid rq
              have HW := Lib.hid (rq.words (Nat.le_refl _) IB.out)
              have HH := Lib.hid (pairHas_any N p.1 (by omega) GP.out.1 A1 l1 d1 q p.2 HqN.out _ HW.out)
              have n1 : ¬ wA.heap.size = g := by omega
              have n2 : ¬ g = wA.heap.size := by omega
              clear hp gp io rq hcur
              cases hbit : p.1.testBit q with
              | false =>
                rw [hbit] at HH
                have HNo := Lib.hid (clrU_no q f O j hjl (by rw [← HPI.out]; exact hbit))
                clear hbit
                go_wp2_with fail
                refine HH.out.mono ?_
                rintro e w6 ⟨rfl, hb⟩
                have HC := Lib.hid hb
                clear hb
                go_wp2_with fail
                go_roundw
                case rel => exact ⟨j + 1, by omega, by go_num, Lib.hid (by rw [HNo.out]; exact IO.out.keep HC.out), Lib.hid (IP.out.keep HC.out), Lib.hid (IT.out.keep HC.out), Lib.hid (IR.out.below HC.out), Lib.hid (own_keep IC.out HC.out), Lib.hid (chain IB.out HC.out)⟩
                case measure => simp [intOf]; omega
              | true =>
                rw [hbit] at HH
                have HYes := Lib.hid (clrU_yes q f O j hjl (by rw [← HPI.out]; exact hbit))
                clear hbit
                go_wp2_with fail
                refine HH.out.mono ?_
                rintro e w6 ⟨rfl, hb⟩
                have HC := Lib.hid hb
                have io6 := IO.out.keep hb
                have IP6 := Lib.hid (IP.out.keep hb)
                have IT6 := Lib.hid (IT.out.keep hb)
                have IR6 := Lib.hid (IR.out.below hb)
                have IC6 := Lib.hid (own_keep IC.out hb)
                have IB6 := Lib.hid (chain IB.out hb)
                have RQ6 := Lib.hid (RQ.out.below hb)
                rw [show O.length = (clrU q f O j).length from HCL.out.symm] at io6
                have IO6 := Lib.hid io6
                obtain ⟨A7, l7, d7, y0, y1, y2, y3, -, -, -, -, -⟩ := io6.at j (by rw [HCL.out]; exact hjl)
                have RP6 := Lib.hid (RQ.out.below hb)
                have gw6 : g < w6.heap.size := Nat.lt_of_lt_of_le hgw hb.size
                have aw6 : wA.heap.size < w6.heap.size := IT6.out.lt
                have HX := Lib.hid (fun W (h0 : Below w6.heap.size w6 W) => plus_any N n (by omega) hn p f GP.out GF.out A1 A3 l1 d1 l3 d3 W ((RP6.out.below h0).words (Nat.le_refl _) (chain IB6.out h0)) ((IR6.out.below h0).words (Nat.le_refl _) (chain IB6.out h0)))
                have x0 := (hb.cell (p := ⟨g, j * 4, none⟩) hgw).trans x0
                have x1 := (hb.cell (p := ⟨g, j * 4 + 1, none⟩) hgw).trans x1
                have x2 := (hb.cell (p := ⟨g, j * 4 + 2, none⟩) hgw).trans x2
                obtain ⟨t0, t1, t2, t3, -, -, -, -⟩ := IT6.out.quad
                clear y0 y1 y2 y3 hb io6 IO IP IT IR IC IB RQ HW HH x3 xf0 xf1 xf2 xf3
                go_wp2_with fail
                have IO6d := Lib.hid (show OwnersQ w w6.drew (w.heap.size + 1) (.slice (some ⟨g, 0, none⟩) (clrU q f O j).length co) N (clrU q f O j) (P.take k) from IO6.out)
                have gd : ∀ {y : World}, Below w6.drew.heap.size w6.drew y → Below w6.heap.size w6 y := fun h => ⟨h.os, h.tape, h.output, h.size, h.block⟩
                have m1 : ¬ wA.heap.size = g := by omega
                go_region_with (go_at_call 64; refine (HX.out _ ((Below.refl _ _).drew)).mono ?_; rintro e1 w8 ⟨A8, l8, d8, rfl, ow, hb⟩; have HB8 := Lib.hid (gd hb); have IO8 := Lib.hid (IO6d.out.keep hb); have OW8 := Lib.hid ow; obtain ⟨A9, l9, d9, y0, y1, y2, y3, -, yf0, yf1, yf2, yf3⟩ := IO8.out.at j (by rw [HCL.out]; exact hjl); clear ow hb)
                all_goals
                  have hput := IO8.out.put j (by rw [HCL.out]; exact hjl) (plusP p f) (A := A8) (l := l8) (d := d8) ⟨rfl, OW8.out.ok, .inr OW8.out⟩
                  have hpc := IO8.out.pc (by rw [HCL.out]; omega) (j * 4) (.int .i64 (N : Int)) (.slice A8 l8 d8) (.string (plusP p f).2)
                  rw [HCL.out, HPI.out, ← HYes.out] at hput
                  rw [← HPI.out] at hput
                  have RO := Lib.hid hput
                  have RP := Lib.hid (hpc.pairs (IP6.out.keep HB8.out) (by decide) (by decide))
                  have RT := Lib.hid ((((IT6.out.keep HB8.out).far (p := ⟨g, j * 4, none⟩) n1 (.int .i64 (N : Int))).far (p := ⟨g, j * 4 + 1, none⟩) n1 (.slice A8 l8 d8)).far (p := ⟨g, j * 4 + 2, none⟩) n1 (.string (plusP p f).2))
                  have RR := Lib.hid (hpc.row (IR6.out.below HB8.out) (by decide))
                  have RC := Lib.hid (hpc.own (own_keep IC6.out HB8.out) (by decide))
                  have RB := Lib.hid ((((chain IB6.out HB8.out).setCell (p := ⟨g, j * 4, none⟩) (by show w.heap.size ≤ g; omega) (.int .i64 (N : Int))).setCell (p := ⟨g, j * 4 + 1, none⟩) (by show w.heap.size ≤ g; omega) (.slice A8 l8 d8)).setCell (p := ⟨g, j * 4 + 2, none⟩) (by show w.heap.size ≤ g; omega) (.string (plusP p f).2))
                  clear hput hpc IO8 OW8 IO6d y0 y1 y2 y3 yf0 yf1 yf2 yf3 IP6 IT6 IR6 IC6 IB6 IO6 HB8 t0 t1 t2 t3 x0 x1 x2 HX
                  go_wp2_with fail
                  go_roundw
                  case rel => exact ⟨j + 1, by omega, by go_num, RO, RP, RT, RR, RC, RB⟩
                  case measure => simp [intOf]; omega
            · obtain rfl : j = O.length := by omega
              have hjl' : ¬ (O.length : Int) < (O.length : Int) := by omega
              have io := IO.out
              rw [clrU_all] at io
              obtain ⟨rs, k1, k2, k3, k4⟩ := io
              rw [clrP_len] at k1 k2 k3 k4
              obtain ⟨j0, hinf, hz0, hz1, hz2⟩ := info_parts owner_info
              have al : Below wr.heap.size wr (wr.alloc (.cells #[.int .i64 (N : Int), .slice A3 l3 d3, .string f.2, .int .i64 (q : Int)] 87)) := (Below.refl _ _).alloc (Nat.le_refl _) _
              have AL6 := Lib.hid al
              have XO := Lib.hid (own_keep k3 al)
              have XN := Lib.hid (show ∀ j u, ([.int .i64 (N : Int), .slice A3 l3 d3, .string f.2, .int .i64 (q : Int)] : List Value)[j]? = some u → (wr.alloc (.cells #[.int .i64 (N : Int), .slice A3 l3 d3, .string f.2, .int .i64 (q : Int)] 87)).cell? ((⟨wr.heap.size, 0, none⟩ : Addr).add j) = some u from World.news_of_block (Box.new wr 87 #[.int .i64 (N : Int), .slice A3 l3 d3, .string f.2, .int .i64 (q : Int)]))
              have XB := Lib.hid (show w.heap.size + 1 ≤ (wr.alloc (.cells #[.int .i64 (N : Int), .slice A3 l3 d3, .string f.2, .int .i64 (q : Int)] 87)).heap.size by have := IB.out.size; simp; omega)
              have K1 := Lib.hid k1
              have K2 := Lib.hid k2
              have K4 := Lib.hid k4
              obtain ⟨z0, z1, z2, z3, -, -, -, -⟩ := IT.out.quad
              clear al k1 k2 k3 k4
              go_wp2_with (at_builtin; refine wpList_append_own _ rfl _ _ 79 rfl (w.heap.size + 1) 87 j0 (.agg #[.int .i64 0, .slice none 0 0, .string ⟨#[]⟩, .int .i64 0]) 4 56 Try.underlying79 hinf hz0 hz1 hz2 rfl (by decide) _ _ _ rfl XO.out ⟨wr.heap.size, 0, none⟩ 1 1 [.int .i64 (N : Int), .slice A3 l3 d3, .string f.2, .int .i64 (q : Int)] rfl rfl XN.out (by simp [Value.oneCell']) (by simp [maxLen]; omega) (by omega) XB.out ?_; intro v' w7 hown' hgrow _; have HO2 := Lib.hid hown'; have HG2 := Lib.hid hgrow; clear hown' hgrow)
              have XP := Lib.hid (IP.out.keep AL6.out)
              have XR := Lib.hid (IR.out.below AL6.out)
              have XC := Lib.hid (own_keep IC.out AL6.out)
              have XBl := Lib.hid (chain IB.out AL6.out)
              have hpc : PC _ w7 87 := ⟨_, HG2.out, fun g e => (own_blk XO.out g e).2⟩
              have RP := Lib.hid (hpc.pairs XP.out (by decide) (by decide))
              have RR := Lib.hid (hpc.row XR.out (by decide))
              have RC := Lib.hid (hpc.own XC.out (by decide))
              have RB := Lib.hid (gr_low XBl.out (by have := XB.out; omega) HG2.out (fun g e => by have := (own_blk XO.out g e).1; omega))
              have RS := Lib.hid (show OwnersQ w w7 (w.heap.size + 1) v' N (clrP q f O ++ [f]) (P.take (k + 1)) by
                rw [List.take_succ_eq_append_getElem (by rw [← HPM.out]; exact hlt), show P[k]'(by rw [← HPM.out]; exact hlt) = q by rw [HQe.out]; simp [List.getD, show k < P.length by rw [← HPM.out]; exact hlt]]
                refine OwnersQ.snoc (rs := rs) (by rw [clrP_len]; exact K1.out) (by rw [clrP_len]; exact K2.out) (fun j hj => hpc.row ((K4.out j (by rw [clrP_len] at hj; exact hj)).below AL6.out) (by decide)) RR.out ?_
                have := HO2.out
                rw [show O.length = (clrP q f O).length from (clrP_len _ _ _).symm] at this
                exact this)
              have REl := Lib.hid (show Elim (L0.map (zOf N)) P (k + 1) ((clrP q f O ++ [f]).map (zOf N)) ((clrP q f Fe).map (zOf N)) by
                have := elim_next HEl.out HMr.out HSp.out (by rw [← HPM.out]; exact hlt) HGO.out HGF.out i1 HI1.out (by rw [← HQe.out]; exact HBit.out)
                rw [← HQe.out, ← HFe.out, ← HFer.out] at this
                exact this)
              have RGO := Lib.hid (show ∀ p ∈ clrP q f O ++ [f], GoodP N n p from fun p hp => by
                rcases List.mem_append.1 hp with h | h
                · exact clrP_good GF.out HGO.out p h
                · simp only [List.mem_singleton] at h; subst h; exact GF.out)
              have RGF := Lib.hid (clrP_good (c := q) GF.out HGFe.out)
              have RFl := Lib.hid (show (clrP q f Fe).length ≤ i by rw [clrP_len]; exact HLe.out)
              clear hpc XP XR XC XBl HO2 HG2 XO XN XB K1 K2 K4 IO IP IT IR IC IB AL6
              go_roundw
              case rel => exact ⟨k + 1, _, _, by omega, by go_num, REl, RGO, RGF, RFl, RS, RP, RC, RB⟩
              case measure => simp [intOf]; omega
        · obtain rfl : k = M.length := by omega
          have hlt' : ¬ (M.length : Int) < (M.length : Int) := by omega
          have HE2 := HEl.out
          have HOw2 := HOw.out
          rw [HPM.out] at HE2 HOw2
          rw [List.take_length] at HOw2
          go_wp2_with fail
          go_ret2
          exact ⟨M, P, O, F, u9, u6, rfl, HMr.out, HMs.out, HE2, HGO.out, HGF.out, HOw2, HFr.out, by rw [HPl.out]; exact HFl.out, HBx.out⟩
end
section
/- backsub: fault, Fits. -/
set_option linter.unusedVariables false
set_option linter.unusedSimpArgs false
open Go.RowKit
set_option maxRecDepth 100000
/-- Why equations may not be. -/
def bkE (N : Int) (ms : List (Int × List Nat)) (n : Int) (ss : List ByteArray) : Int := if rightM N ms then if okS n ss && ss.length == ms.length then 0 else 2 else 1
theorem fault_any (N n : Int) (A S : Option Addr) (lm c lo k d : Nat) (ms : List (Int × List Nat)) (ss : List ByteArray) (w : World) (hm : MatAt w lo A lm ms) (hl : lm ≤ maxLen) (ht : Texts w S k ss) (hkd : k ≤ d) (hd : d ≤ maxLen) :
    Calls Try.prog 44 #[.agg #[.int .i64 N, .slice A lm c], .int .i64 n, .slice S k d] w fun e w' => e = .returned (.int .i64 (bkE N ms n ss)) ∧ Below w.heap.size w w' := by
  have b1 : Below w.heap.size w (w.alloc (.cells #[.int .i64 N, .slice A lm c] 24)) := (Below.refl _ _).alloc (Nat.le_refl _) _
  have Q0 := Lib.hid (Box.new w 24 #[.int .i64 N, .slice A lm c])
  have HB := Lib.hid b1
  have HR := Lib.hid (mright_any N A lm c lo ms _ (hm.below b1) hl)
  have HT := Lib.hid ht
  have e1 := hm.1
  have e2 := ht.1
  obtain ⟨q0, q1, -, -⟩ := Q0.out.two
  unfold maxLen at hl hd
  cases hr : rightM N ms with
  | false =>
    rw [hr] at HR
    have HE := Lib.hid (show bkE N ms n ss = 1 by rw [bkE, hr]; rfl)
    clear b1 hm ht e1 e2 hr
    go_enter Try.func44, Try.ntmps44
    go_wp2_with fail
    refine HR.out.mono ?_
    rintro e x1 ⟨rfl, hb⟩
    have HB2 := Lib.hid (chain HB.out hb)
    clear hb
    go_wp2_with fail
    go_ret
    exact ⟨by rw [HE.out]; rfl, HB2.out⟩
  | true =>
    rw [hr] at HR
    cases ho : okS n ss with
    | false =>
      have HS := Lib.hid (fun W (h : Texts W S k ss) => sum_any n S k d ss W h hkd (by unfold maxLen; omega))
      have he : sumE n ss = 2 := by rw [sumE, ho]; rfl
      rw [he] at HS
      have HE := Lib.hid (show bkE N ms n ss = 2 by rw [bkE, hr, ho]; rfl)
      clear b1 hm ht e1 e2 hr ho he
      go_enter Try.func44, Try.ntmps44
      go_wp2_with fail
      refine HR.out.mono ?_
      rintro e x1 ⟨rfl, hb⟩
      have HB2 := Lib.hid (chain HB.out hb)
      clear hb
      go_wp2_with fail
      refine (HS.out _ (HT.out.below HB2.out)).mono ?_
      rintro e x2 ⟨rfl, hb⟩
      have HB3 := Lib.hid (chain HB2.out hb)
      clear hb
      go_wp2_with fail
      go_ret
      exact ⟨by rw [HE.out]; rfl, HB3.out⟩
    | true =>
      have HS := Lib.hid (fun W (h : Texts W S k ss) => sum_any n S k d ss W h hkd (by unfold maxLen; omega))
      have he : sumE n ss = 0 := by rw [sumE, ho]; rfl
      rw [he] at HS
      by_cases hk : k = lm
      · have HE := Lib.hid (show bkE N ms n ss = 0 by rw [bkE, hr, ho, e1, e2, hk]; simp)
        have t : ((k : Int) != (lm : Int)) = false := by simp [hk]
        clear b1 hm ht e1 e2 hr ho he hk
        go_enter Try.func44, Try.ntmps44
        go_wp2_with fail
        refine HR.out.mono ?_
        rintro e x1 ⟨rfl, hb⟩
        have HB2 := Lib.hid (chain HB.out hb)
        have Q1 := Lib.hid (Q0.out.keep hb)
        clear hb
        go_wp2_with fail
        refine (HS.out _ (HT.out.below HB2.out)).mono ?_
        rintro e x2 ⟨rfl, hb⟩
        have HB3 := Lib.hid (chain HB2.out hb)
        have Q2 := Lib.hid (Q1.out.keep hb)
        clear hb q0 q1
        obtain ⟨q0, q1, -, -⟩ := Q2.out.two
        go_wp2_with fail
        go_ret
        exact ⟨by rw [HE.out]; rfl, HB3.out⟩
      · have HE := Lib.hid (show bkE N ms n ss = 2 by rw [bkE, hr, ho, e1, e2]; simp [hk])
        have t : ((k : Int) != (lm : Int)) = true := by simp; omega
        clear b1 hm ht e1 e2 hr ho he
        go_enter Try.func44, Try.ntmps44
        go_wp2_with fail
        refine HR.out.mono ?_
        rintro e x1 ⟨rfl, hb⟩
        have HB2 := Lib.hid (chain HB.out hb)
        have Q1 := Lib.hid (Q0.out.keep hb)
        clear hb
        go_wp2_with fail
        refine (HS.out _ (HT.out.below HB2.out)).mono ?_
        rintro e x2 ⟨rfl, hb⟩
        have HB3 := Lib.hid (chain HB2.out hb)
        have Q2 := Lib.hid (Q1.out.keep hb)
        clear hb q0 q1
        obtain ⟨q0, q1, -, -⟩ := Q2.out.two
        go_wp2_with fail
        go_ret
        exact ⟨by rw [HE.out]; rfl, HB3.out⟩
/-- Equations that may be, in memory. -/
structure BkIn (w : World) (N n : Nat) (X : List Nat) (ss : List ByteArray) (A S : Option Addr) (m c d : Nat) : Prop where
  hN : N ≤ 64
  hn : n ≤ 64
  hX : ∀ r ∈ X, r < 2 ^ N
  hXm : X.length = m
  hm64 : m ≤ 64
  hss : ∀ s ∈ ss, s.size = n
  hsl : SliceOk A m c
  hm : MatAt w 0 A m (mkM N X)
  hr : rightM N (mkM N X) = true
  ht : Texts w S m ss
  hmd : m ≤ d
  hd : d ≤ maxLen
theorem BkIn.below {w w' : World} {N n : Nat} {X : List Nat} {ss : List ByteArray} {A S : Option Addr} {m c d : Nat} (h : BkIn w N n X ss A S m c d) (hb : Below w.heap.size w w') : BkIn w' N n X ss A S m c d :=
  ⟨h.hN, h.hn, h.hX, h.hXm, h.hm64, h.hss, h.hsl, h.hm.below hb, h.hr, h.ht.below hb, h.hmd, h.hd⟩
/-- Equations as numbers. -/
def zs (N : Nat) (X : List Nat) (ss : List ByteArray) : List Nat := (pairs X ss).map (zOf N)
theorem BkIn.low {w : World} {N n : Nat} {X : List Nat} {ss : List ByteArray} {A S : Option Addr} {m c d : Nat} (h : BkIn w N n X ss A S m c d) : (zs N X ss).map (lowN N) = X :=
  pairs_low h.hX h.hss (by rw [h.hXm, h.ht.1])
theorem BkIn.ok {w : World} {N n : Nat} {X : List Nat} {ss : List ByteArray} {A S : Option Addr} {m c d : Nat} (h : BkIn w N n X ss A S m c d) : bkE N (mkM N X) n ss = 0 := by
  rw [bkE, if_pos h.hr, okS_of n ss h.hn h.hss (by rw [h.ht.1]; exact h.hm64), mkM_len, h.hXm, h.ht.1]; simp
theorem BkIn.fault {w : World} {N n : Nat} {X : List Nat} {ss : List ByteArray} {A S : Option Addr} {m c d : Nat} (h : BkIn w N n X ss A S m c d) : Calls Try.prog 44 #[.agg #[.int .i64 (N : Int), .slice A m c], .int .i64 (n : Int), .slice S m d] w fun e w' => e = .returned (.int .i64 0) ∧ Below w.heap.size w w' := by
  have := fault_any N n A S m c 0 m d (mkM N X) ss w h.hm (by have := h.hm64; unfold maxLen; omega) h.ht h.hmd h.hd
  rwa [h.ok] at this
theorem BkIn.reduced {w : World} {N n : Nat} {X : List Nat} {ss : List ByteArray} {A S : Option Addr} {m c d : Nat} (h : BkIn w N n X ss A S m c d) : Calls Try.prog 45 #[.agg #[.int .i64 (N : Int), .slice A m c], .slice S m d] w (RedOut N n (pairs X ss) X w) :=
  reduced_any N n h.hN h.hn X h.hX m h.hXm h.hm64 ss h.hss A S c d 0 w h.hsl h.hm h.hr h.ht
/-- Fits of equations that may be. -/
def FitOut (N : Nat) (Z : List Nat) (w : World) (e : Ending) (w' : World) : Prop := ∃ b : Bool, (b = true ↔ FitsP N Z) ∧ e = .returned (.tuple #[.bool b, .int .i64 0]) ∧ Below w.heap.size w w'
theorem fits_yes {N n : Nat} {X : List Nat} {ss : List ByteArray} {A S : Option Addr} {m c d : Nat} (w : World) (h : BkIn w N n X ss A S m c d) :
    Calls Try.prog 23 #[.agg #[.int .i64 (N : Int), .slice A m c], .int .i64 (n : Int), .slice S m d] w (FitOut N (zs N X ss) w) := by
  have b1 : Below w.heap.size w (w.alloc (.cells #[.int .i64 (N : Int), .slice A m c] 24)) := (Below.refl _ _).alloc (Nat.le_refl _) _
  have Q0 := Lib.hid (Box.new w 24 #[.int .i64 (N : Int), .slice A m c])
  have HB := Lib.hid b1
  have HI := Lib.hid (h.below b1)
  have HF := Lib.hid HI.out.fault
  have HLow := Lib.hid h.low
  obtain ⟨q0, q1, -, -⟩ := Q0.out.two
  clear b1 h
  go_enter Try.func23, Try.ntmps23
  go_wp2_with fail
  refine HF.out.mono ?_
  rintro e x1 ⟨rfl, hb⟩
  have HB2 := Lib.hid (chain HB.out hb)
  have Q1 := Lib.hid (Q0.out.keep hb)
  have HI1 := Lib.hid (HI.out.below hb)
  clear hb q0 q1 HF HB HI Q0
  obtain ⟨q0, q1, -, -⟩ := Q1.out.two
  go_wp2_with fail
  refine HI1.out.reduced.mono ?_
  rintro e x2 ⟨M, P, O, F, vO, vF, rfl, h1, h2, h3, h4, h5, h6, h7, h8, hb⟩
  have HB3 := Lib.hid (chain HB2.out hb)
  have HFit := Lib.hid (elim_fits HLow.out h3 h1 h2 h5)
  have HA := Lib.hid (fun W (hp : PairsQ x1 W (x1.heap.size + 1) vF N F) => allNought_any N F (fun p hp => by have := (h5 p hp).2; have := HI1.out.hn; omega) (by rw [pairs_len X ss m HI1.out.hXm HI1.out.ht.1] at h8; have := HI1.out.hm64; omega) x1 (x1.heap.size + 1) vF W hp)
  have HP := Lib.hid h7
  clear h1 h2 h3 h4 h5 h6 h7 h8 hb q0 q1
  go_wp2_with fail
  refine (HA.out _ HP.out).mono ?_
  rintro e x3 ⟨rfl, hb⟩
  have HB4 := Lib.hid (chain HB3.out hb)
  clear hb HA
  go_wp2_with fail
  go_ret2
  exact ⟨noughtP F, HFit.out, rfl, HB4.out⟩
theorem fits_no (N n : Int) (A S : Option Addr) (lm c lo k d : Nat) (ms : List (Int × List Nat)) (ss : List ByteArray) (w : World) (hm : MatAt w lo A lm ms) (hl : lm ≤ maxLen) (ht : Texts w S k ss) (hkd : k ≤ d) (hd : d ≤ maxLen) (hE : bkE N ms n ss ≠ 0) :
    Calls Try.prog 23 #[.agg #[.int .i64 N, .slice A lm c], .int .i64 n, .slice S k d] w fun e w' => e = .returned (.tuple #[.bool false, .int .i64 (bkE N ms n ss)]) ∧ Below w.heap.size w w' := by
  have b1 : Below w.heap.size w (w.alloc (.cells #[.int .i64 N, .slice A lm c] 24)) := (Below.refl _ _).alloc (Nat.le_refl _) _
  have Q0 := Lib.hid (Box.new w 24 #[.int .i64 N, .slice A lm c])
  have HB := Lib.hid b1
  have HF := Lib.hid (fault_any N n A S lm c lo k d ms ss _ (hm.below b1) hl (ht.below b1) hkd hd)
  obtain ⟨q0, q1, -, -⟩ := Q0.out.two
  obtain ⟨E, hEe⟩ : ∃ E, E = bkE N ms n ss := ⟨_, rfl⟩
  rw [← hEe] at HF hE ⊢
  have t : (E != 0) = true := by simpa using hE
  clear b1 hm ht hEe
  go_enter Try.func23, Try.ntmps23
  go_wp2_with fail
  refine HF.out.mono ?_
  rintro e x1 ⟨rfl, hb⟩
  have HB2 := Lib.hid (chain HB.out hb)
  clear hb
  go_wp2_with fail
  go_ret2
  exact ⟨rfl, HB2.out⟩
end
section
/- backsub: Known, Solve. -/
set_option linter.unusedVariables false
set_option linter.unusedSimpArgs false
open Go.RowKit
set_option maxRecDepth 100000
def numI (x : Nat) : Value := .int .i64 (x : Int)
/-- What Known tells. -/
def KnRes (N n : Nat) (X Z : List Nat) (E : Int) (cols : List Nat) (blks : List ByteArray) : Prop :=
  (E = 0 ∧ FitsP N Z ∧ KnownP N n X Z cols blks) ∨ (E = 10 ∧ ¬ FitsP N Z ∧ cols = [] ∧ blks = [])
def KnOut (N n : Nat) (X Z : List Nat) (w : World) (e : Ending) (w' : World) : Prop :=
  ∃ (E : Int) (cols : List Nat) (blks : List ByteArray) (B1 B2 : Option Addr) (c1 c2 : Nat), e = .returned (.tuple #[.slice B1 cols.length c1, .slice B2 blks.length c2, .int .i64 E]) ∧ Ints w' B1 cols.length (cols.map fun x : Nat => (x : Int)) ∧ Texts w' B2 blks.length blks ∧ cols.length ≤ 64 ∧ blks.length ≤ 64 ∧ blks.length ≤ c2 ∧ c2 ≤ maxLen ∧ KnRes N n X Z E cols blks ∧ Below w.heap.size w w'
theorem int_info5 : (Try.prog.info? 3).map (fun i => (i.zero, i.size, i.bytes)) = some (some (.int .i64 0), 1, 8) := by kernel_rfl
theorem str_info5 : (Try.prog.info? 9).map (fun i => (i.zero, i.size, i.bytes)) = some (some (.string ⟨#[]⟩), 1, 16) := by kernel_rfl
theorem own_texts5 {w : World} {base : Nat} {A : Option Addr} {c : Nat} {ss : List ByteArray} (h : w.ownsRow base 9 1 (.slice A ss.length c) ss.length (ss.map Value.string)) (hz : ∀ s ∈ ss, s.size ≤ maxLen) : Texts w A ss.length ss := by
  refine ⟨rfl, fun j => ?_, fun hp => ?_⟩
  · by_cases hj : j < ss.length
    · have : ss.getD j ByteArray.empty = ss[j] := by simp [List.getD, hj]
      rw [this]; exact hz _ (List.getElem_mem hj)
    · have : ss[j]? = none := List.getElem?_eq_none (by omega)
      simp only [List.getD, this, Option.getD_none]; unfold maxLen; decide
  · rcases h.2 with ⟨hv, hz⟩ | ⟨g, cap, cur, hv, hb, hh, hc, hm, -⟩
    · omega
    · injection hv with hv
      subst hv
      refine ⟨g, 0, rfl, (show Box w g _ cur from hh).lt, fun j hj => ?_⟩
      have := World.ownsRow.cells h (g := g) rfl j (.string (ss.getD j ByteArray.empty)) (by simp [List.getD, hj])
      rwa [add_zero0, show (⟨g, j, none⟩ : Addr) = ⟨g, 0 + j, none⟩ by rw [Nat.zero_add]] at this
theorem own_cap5 {w : World} {base e size : Nat} {A : Option Addr} {n c : Nat} {xs : List Value} (h : w.ownsRow base e size (.slice A n c) n xs) : n ≤ c ∧ c ≤ maxLen := by
  rcases h.2 with ⟨hv, hz⟩ | ⟨g, cap, cur, hv, hb, hh, hc, hm, -⟩
  · injection hv with _ _ hv; subst hv; exact ⟨by omega, by simp [maxLen]⟩
  · injection hv with _ _ hv; subst hv; exact ⟨hc, hm⟩
set_option maxHeartbeats 4000000 in
theorem known_yes {N n : Nat} {X : List Nat} {ss : List ByteArray} {A S : Option Addr} {m c d : Nat} (w : World) (h : BkIn w N n X ss A S m c d) :
    Calls Try.prog 22 #[.agg #[.int .i64 (N : Int), .slice A m c], .int .i64 (n : Int), .slice S m d] w (KnOut N n X (zs N X ss) w) := by
  have b1 : Below w.heap.size w (w.alloc (.cells #[.int .i64 (N : Int), .slice A m c] 24)) := (Below.refl _ _).alloc (Nat.le_refl _) _
  have Q0 := Lib.hid (Box.new w 24 #[.int .i64 (N : Int), .slice A m c])
  have HB := Lib.hid b1
  have HI := Lib.hid (h.below b1)
  have HF := Lib.hid HI.out.fault
  have HLow := Lib.hid h.low
  have hN := h.hN
  have hn := h.hn
  obtain ⟨q0, q1, -, -⟩ := Q0.out.two
  clear b1 h
  go_enter Try.func22, Try.ntmps22
  go_wp2_with fail
  refine HF.out.mono ?_
  rintro e x1 ⟨rfl, hb⟩
  have HB2 := Lib.hid (chain HB.out hb)
  have Q1 := Lib.hid (Q0.out.keep hb)
  have HI1 := Lib.hid (HI.out.below hb)
  clear hb q0 q1 HF HB HI Q0
  obtain ⟨q0, q1, -, -⟩ := Q1.out.two
  go_wp2_with fail
  refine HI1.out.reduced.mono ?_
  rintro e x2 ⟨M, P, O, F, vO, vF, rfl, h1, h2, h3, h4, h5, h6, h7, h8, hb⟩
  have HB3 := Lib.hid (chain HB2.out hb)
  have HFit := Lib.hid (elim_fits HLow.out h3 h1 h2 h5)
  have HKn := Lib.hid (elim_known HLow.out h3 h1 h2 h4)
  have HA := Lib.hid (fun W (hp : PairsQ x1 W (x1.heap.size + 1) vF N F) => allNought_any N F (fun p hp => by have := (h5 p hp).2; omega) (by rw [pairs_len X ss m HI1.out.hXm HI1.out.ht.1] at h8; have := HI1.out.hm64; omega) x1 (x1.heap.size + 1) vF W hp)
  have HP := Lib.hid h7
  have HO := Lib.hid h6
  have HGO := Lib.hid h4
  have HX12 := Lib.hid hb
  have HPl := Lib.hid (show P.length = O.length by have := h3.len; rw [List.length_map] at this; exact this.symm)
  have HPc := Lib.hid (show ∀ j, j < P.length → P.getD j 0 < N from fun j hj => place_lt (rows_lt (show SameSp (((pairs X ss).map (zOf N)).map (lowN N)) M by have := HLow.out; unfold zs at this; rw [this]; exact h2)) h1 j hj)
  have hO64 : O.length ≤ 64 := by
    have := rref_len h1 (rows_lt (show SameSp (((pairs X ss).map (zOf N)).map (lowN N)) M by have := HLow.out; unfold zs at this; rw [this]; exact h2))
    have e := h1.len
    rw [HPl.out] at e
    omega
  obtain ⟨Ao, co, rfl, hoc, hocm⟩ := h6.form0
  unfold maxLen at hocm
  clear h1 h2 h3 h4 h5 h6 h7 h8 hb q0 q1
  cases hno : noughtP F with
  | false =>
    rw [hno] at HA
    have HNF := Lib.hid (show ¬ FitsP N (zs N X ss) from fun hf => by have := HFit.out.2 hf; rw [hno] at this; cases this)
    clear hno
    go_wp2_with fail
    refine (HA.out _ HP.out).mono ?_
    rintro e x3 ⟨rfl, hb⟩
    have HB4 := Lib.hid (chain HB3.out hb)
    clear hb HA
    go_wp2_with fail
    go_ret3
    exact ⟨10, [], [], none, none, 0, 0, rfl, Ints.nil _ _, Texts.nil _ _, by simp, by simp, by simp, by simp [maxLen], .inr ⟨rfl, HNF.out, rfl, rfl⟩, HB4.out⟩
  | true =>
    rw [hno] at HA
    have HNF := Lib.hid (HFit.out.1 hno)
    clear hno
    go_wp2_with fail
    refine (HA.out _ HP.out).mono ?_
    rintro e x3 ⟨rfl, hb⟩
    have HB4 := Lib.hid (chain HB3.out hb)
    have HO3 := Lib.hid (HO.out.keep hb)
    have HX13 := Lib.hid (chain HX12.out hb)
    clear hb HA HP HO HX12
    go_wp2_with fail
    go_loopw [34, 12, 13] (fun t v1 v2 wr => ∃ i : Nat, i ≤ O.length ∧ t = .int .i64 (i : Int) ∧ Hid (wr.ownsRow x1.heap.size 3 1 v1 (alnC N O P i).length ((alnC N O P i).map numI)) ∧ Hid (wr.ownsRow x1.heap.size 9 1 v2 (alnB N O i).length ((alnB N O i).map Value.string)) ∧ Hid (OwnersQ x1 wr (x1.heap.size + 1) (.slice Ao O.length co) N O P) ∧ Hid (Below x1.heap.size x1 wr) ∧ Hid (Below w.heap.size w wr)) (fun t _ _ _ => O.length - (intOf t).toNat)
    case atStart => exact ⟨0, Nat.zero_le _, rfl, Lib.hid (World.ownsRow_nil _ _ _ _), Lib.hid (World.ownsRow_nil _ _ _ _), HO3, HX13, HB4⟩
    case round =>
      obtain ⟨i, hi, rfl, H1, H2, HOr, HXr, HBr⟩ := hrel
      by_cases hlt : i < O.length
      · have hlt' : (i : Int) < (O.length : Int) := by omega
        have io := HOr.out
        obtain ⟨g, c2, hv, hgb, hgw, -, -, cur, hcur⟩ := io.form (by omega)
        injection hv with hv h2 h3
        subst hv
        clear h2 h3 hcur
        obtain ⟨A1, l1, d1, x0, x1c, x2c, x3c, rq, -, -, -, -⟩ := io.at i hlt
        have gp := HGO.out _ (getD_memP hlt)
        obtain ⟨p, hp⟩ : ∃ p, p = O.getD i pv0 := ⟨_, rfl⟩
        obtain ⟨q, hq⟩ : ∃ q, q = P.getD i 0 := ⟨_, rfl⟩
        rw [← hp] at x2c rq gp
        rw [← hq] at x3c
        have HPI := Lib.hid hp
        have HQI := Lib.hid hq
        have GP := Lib.hid gp
        have HqN := Lib.hid (show q < N by rw [hq]; exact HPc.out i (by rw [HPl.out]; exact hlt))
        have al : Below wr.heap.size wr (wr.alloc (.cells #[.int .i64 (N : Int), .slice A1 l1 d1, .string p.2, .int .i64 (q : Int)] 87)) := (Below.refl _ _).alloc (Nat.le_refl _) _
        have T := Lib.hid (Box.new wr 87 #[.int .i64 (N : Int), .slice A1 l1 d1, .string p.2, .int .i64 (q : Int)])
        have AL1 := Lib.hid al
        have HW := Lib.hid ((rq.below al).words (Nat.le_refl _) (chain HXr.out al))
        have HH := Lib.hid (isAlone_any N p.1 (by omega) GP.out.1 A1 l1 d1 p.2 _ HW.out)
        obtain ⟨t0, t1, t2, t3, -, -, -, -⟩ := T.out.quad
        clear al gp hp hq io rq HW
        by_cases hal : popN N p.1 = 1
        · have ha : decide (popN N p.1 = 1) = true := by simpa using hal
          rw [ha] at HH
          have HY := Lib.hid (aln_yes N O i (by rw [← HPI.out]; exact hal))
          clear ha hal
          go_wp2_with fail
          refine HH.out.mono ?_
          rintro e w5 ⟨rfl, hb⟩
          have HC := Lib.hid (chain AL1.out hb)
          have T5 := Lib.hid (T.out.keep hb)
          have O5 := Lib.hid (HOr.out.keep HC.out)
          have X5 := Lib.hid (chain HXr.out HC.out)
          have B5 := Lib.hid (chain HBr.out HC.out)
          have O1 := Lib.hid (own_keep H1.out HC.out)
          have O2 := Lib.hid (own_keep H2.out HC.out)
          clear hb HH T HOr HXr HBr H1 H2 AL1 HC t0 t1 t2 t3 x0 x1c x2c x3c
          obtain ⟨i0, ki, kz0, kz1, kz2⟩ := info_parts int_info5
          obtain ⟨j0, ji, jz0, jz1, jz2⟩ := info_parts str_info5
          have hal5 : Below w5.heap.size w5 (w5.alloc (.cells #[.int .i64 (q : Int)] 3)) := (Below.refl _ _).alloc (Nat.le_refl _) _
          have XO := Lib.hid (own_keep O1.out hal5)
          have X2 := Lib.hid (own_keep O2.out hal5)
          have XT := Lib.hid (T5.out.keep hal5)
          have XQ := Lib.hid (O5.out.keep hal5)
          have XX := Lib.hid (chain X5.out hal5)
          have XB := Lib.hid (chain B5.out hal5)
          have hb5 := B5.out.size
          have hx5 := X5.out.size
          have hq0 : w.heap.size < w5.heap.size := by have := Q1.out.lt; omega
          have XS := Lib.hid (show x1.heap.size ≤ (w5.alloc (.cells #[.int .i64 (q : Int)] 3)).heap.size by simp; omega)
          have hl1 := aln_len N O i
          have hl2 : (alnC N O P i).length ≤ i := by rw [alnC, List.length_map]; exact hl1
          have hl3 : (alnB N O i).length ≤ i := by rw [alnB, List.length_map]; exact hl1
          obtain ⟨t0, t1, t2, t3, -, -, -, -⟩ := T5.out.quad
          clear hal5 O1 O2 hl1
          go_wp2_with (first
            | (at_builtin; refine wpList_append_own _ rfl _ _ 26 rfl x1.heap.size 3 i0 (.int .i64 0) 1 8 Try.underlying26 ki kz0 kz1 kz2 rfl (by decide) _ _ _ rfl XO.out ⟨w5.heap.size, 0, none⟩ 1 1 [.int .i64 (q : Int)] rfl rfl (cell_one_new _ _ _) (by simp [Value.oneCell']) (by simp [maxLen]; omega) (by omega) XS.out ?_; intro v1 w6 hown hgrow _; have HO1 := Lib.hid hown; have HG1 := Lib.hid hgrow; clear hown hgrow t0 t1 t2 t3; have hp6 : PC _ w6 3 := ⟨_, HG1.out, fun g e => (own_blk XO.out g e).2⟩; have Y2 := Lib.hid (hp6.own X2.out (by decide)); have YT := Lib.hid (hp6.box XT.out (by decide)); have YQ := Lib.hid (hp6.owners XQ.out (by decide) (by decide)); have h6b : Below x1.heap.size (w5.alloc (.cells #[.int .i64 (q : Int)] 3)) w6 := gr_low (Below.refl _ _) XS.out HG1.out (fun g e => (own_blk XO.out g e).1); have Z2 := Lib.hid (own_keep Y2.out ((Below.refl w6.heap.size w6).alloc (Nat.le_refl _) (.cells #[.string p.2] 9))); have ZS := Lib.hid (show x1.heap.size ≤ (w6.alloc (.cells #[.string p.2] 9)).heap.size from by have := XS.out; have := HG1.out.size; simp; omega); clear hp6 h6b; obtain ⟨t0, t1, t2, t3, -, -, -, -⟩ := YT.out.quad)
            | (at_builtin; refine wpList_append_own _ rfl _ _ 48 rfl x1.heap.size 9 j0 (.string ⟨#[]⟩) 1 16 Try.underlying48 ji jz0 jz1 jz2 rfl (by decide) _ _ _ rfl Z2.out ⟨w6.heap.size, 0, none⟩ 1 1 [.string p.2] rfl rfl (cell_one_new _ _ _) (by simp [Value.oneCell']) (by simp [maxLen]; omega) (by omega) ZS.out ?_; intro v2 w7 hown hgrow _; have HO2 := Lib.hid hown; have HG2 := Lib.hid hgrow; clear hown hgrow))
          have hw1 : w.heap.size < x1.heap.size := Q1.out.lt
          have al6 : Below w6.heap.size w6 (w6.alloc (.cells #[.string p.2] 9)) := (Below.refl _ _).alloc (Nat.le_refl _) _
          have hp7 : PC _ w7 9 := ⟨_, HG2.out, fun g e => (own_blk Z2.out g e).2⟩
          have R1 := Lib.hid (show w7.ownsRow x1.heap.size 3 1 v1 (alnC N O P (i + 1)).length ((alnC N O P (i + 1)).map numI) by
            have e : alnC N O P (i + 1) = alnC N O P i ++ [q] := by unfold alnC; rw [HY.out, List.map_append, HQI.out]; rfl
            rw [e, List.map_append, List.length_append]
            exact hp7.own (own_keep HO1.out al6) (by decide))
          have R2 := Lib.hid (show w7.ownsRow x1.heap.size 9 1 v2 (alnB N O (i + 1)).length ((alnB N O (i + 1)).map Value.string) by
            have e : alnB N O (i + 1) = alnB N O i ++ [p.2] := by unfold alnB; rw [HY.out, List.map_append, HPI.out]; rfl
            rw [e, List.map_append, List.length_append]
            exact HO2.out)
          have RQ := Lib.hid (hp7.owners (YQ.out.keep al6) (by decide) (by decide))
          have hX6 := gr_low XX.out XS.out HG1.out (fun g e => (own_blk XO.out g e).1)
          have hX7 := gr_low (chainN hX6 hX6.size al6) ZS.out HG2.out (fun g e => (own_blk Z2.out g e).1)
          have hB6 := gr_low XB.out XB.out.size HG1.out (fun g e => by have := (own_blk XO.out g e).1; omega)
          have hB7 := gr_low (chainN hB6 hB6.size al6) (chainN hB6 hB6.size al6).size HG2.out (fun g e => by have := (own_blk Z2.out g e).1; omega)
          have RX := Lib.hid hX7
          have RB := Lib.hid hB7
          clear hX6 hX7 hB6 hB7 hp7 al6 HO1 HO2 HG1 HG2 XO X2 XT XQ XX XB XS Y2 YT YQ Z2 ZS T5 O5 X5 B5
          go_roundw
          case rel => exact ⟨i + 1, by omega, by go_num, R1, R2, RQ, RX, RB⟩
          case measure => simp [intOf]; omega
        · have ha : decide (popN N p.1 = 1) = false := by simpa using hal
          rw [ha] at HH
          have HY := Lib.hid (aln_no N O i (by rw [← HPI.out]; exact hal))
          clear ha hal
          go_wp2_with fail
          refine HH.out.mono ?_
          rintro e w5 ⟨rfl, hb⟩
          have HC := Lib.hid (chain AL1.out hb)
          clear hb
          go_wp2_with fail
          go_roundw
          case rel => exact ⟨i + 1, by omega, by go_num, Lib.hid (by rw [alnC, HY.out]; exact own_keep H1.out HC.out), Lib.hid (by rw [alnB, HY.out]; exact own_keep H2.out HC.out), Lib.hid (HOr.out.keep HC.out), Lib.hid (chain HXr.out HC.out), Lib.hid (chain HBr.out HC.out)⟩
          case measure => simp [intOf]; omega
      · obtain rfl : i = O.length := by omega
        have hlt' : ¬ (O.length : Int) < (O.length : Int) := by omega
        have hk := HKn.out
        rw [HPl.out] at hk
        have hl1 := aln_len N O O.length
        have hl2 : (alnC N O P O.length).length ≤ O.length := by rw [alnC, List.length_map]; exact hl1
        have hl3 : (alnB N O O.length).length ≤ O.length := by rw [alnB, List.length_map]; exact hl1
        obtain ⟨B1, c1, hv1, -⟩ := own_form H1.out
        obtain ⟨B2, c2, hv2, -⟩ := own_form H2.out
        subst hv1 hv2
        have hc2 := own_cap5 H2.out
        have hi1 := own_ints (zs := (alnC N O P O.length).map fun x : Nat => (x : Int)) (by rw [List.map_map]; exact H1.out) (num_bdP _ (fun j hj => by
          have hm : (alnC N O P O.length).getD j 0 ∈ alnC N O P O.length := getD_mem hj
          have := (hk.2.1 _).1 hm
          omega))
        have hi2 := own_texts5 H2.out (fun s hs => by
          obtain ⟨j, hj, rfl⟩ := List.getElem_of_mem hs
          have := (hk.2.2.2 j (by rw [← hk.2.2.1]; exact hj)).1
          have e : (alnB N O O.length).getD j ByteArray.empty = (alnB N O O.length)[j] := by simp [List.getD, hj]
          rw [e] at this
          rw [this]; unfold maxLen; omega)
        have HK := Lib.hid hk
        have HI1' := Lib.hid hi1
        have HI2' := Lib.hid hi2
        have HC2 := Lib.hid hc2
        have HL2 := Lib.hid (show (alnC N O P O.length).length ≤ 64 by omega)
        have HL3 := Lib.hid (show (alnB N O O.length).length ≤ 64 by omega)
        clear hk hi1 hi2 hc2 hl1 hl2 hl3
        go_wp2_with fail
        go_ret3
        exact ⟨0, alnC N O P O.length, alnB N O O.length, B1, B2, c1, c2, rfl, HI1'.out, HI2'.out, HL2.out, HL3.out, HC2.out.1, HC2.out.2, .inl ⟨rfl, HNF.out, HK.out⟩, HBr.out⟩
end
section
/- The reference of layer 5: Bits that may be appended to, bit. -/
set_option linter.unusedVariables false
set_option linter.unusedSimpArgs false
open Go.RowKit
set_option maxRecDepth 100000
/-- Ints of the call's own. -/
def IntsOwn (zs : List Int) (w : World) (e : Ending) (w' : World) : Prop := ∃ v, e = .returned v ∧ w'.ownsRow w.heap.size 3 1 v zs.length (zs.map (Value.int .i64)) ∧ Below w.heap.size w w'
set_option maxHeartbeats 1000000 in
theorem bits_own (N x : Nat) (hN : N ≤ 512) (A : Option Addr) (len c : Nat) (w : World) (hu : Words w A len (rowOf N x)) :
    Calls Try.prog 66 #[.agg #[.int .i64 N, .slice A len c]] w (IntsOwn (bitsI x N) w) := by
  have hll : len = nw N := by rw [← rowOf_len N x]; exact hu.1.symm
  have hN2 : N ≤ 64 * len := by rw [hll]; exact nw_le N
  have hl : len ≤ 1000 := by rw [hll]; unfold nw; omega
  obtain ⟨i0, hi, hz0, hz1, hz2⟩ := info_parts int_info5
  have hB := Below.refl w.heap.size w
  have HI := Lib.hid hi
  have HZ0 := Lib.hid hz0
  have HZ1 := Lib.hid hz1
  have HZ2 := Lib.hid hz2
  have Q0 := Lib.hid ((Box.new w 40 #[.int .i64 N, .slice A len c]).alloc (.cells #[] 3))
  have HW := Lib.hid ((hB.alloc (Nat.le_refl _) (.cells #[.int .i64 N, .slice A len c] 40)).alloc (by simp) (.cells #[] 3))
  have ho := own_empty (w.alloc (.cells #[.int .i64 N, .slice A len c] 40)) w.heap.size 3 (by simp)
  rw [World.size_alloc] at ho
  have HOw := Lib.hid ho
  have HU := Lib.hid hu
  clear hi hz0 hz1 hz2 hu ho hB hll
  go_enter Try.func66, Try.ntmps66
  go_wp2
  go_loopw [3, 4] (fun v t wr => ∃ i : Nat, i ≤ N ∧ t = .int .i64 i ∧ wr.ownsRow w.heap.size 3 1 v i ((bitsI x i).map (Value.int .i64)) ∧ Box wr w.heap.size 40 #[.int .i64 N, .slice A len c] ∧ Below w.heap.size w wr)
    (fun _ t _ => N - (intOf t).toNat)
  case atStart => exact ⟨0, by omega, rfl, HOw.out, Q0.out, HW.out⟩
  case round =>
    obtain ⟨i, hi, rfl, hown, hbox, hbel⟩ := hrel
    have HO := Lib.hid hown
    have HB := Lib.hid hbel
    have Q := Lib.hid hbox
    clear hown hbel hbox HW HOw Q0
    obtain ⟨r0, r1, -, -⟩ := Q.out.two
    have HS := Lib.hid (bitsI_succ x i)
    by_cases hlt : i < N
    · have hlt' : (i : Int) < (N : Int) := by omega
      have HBt := Lib.hid (rbit_any N x i hN A len c hlt wr (HU.out.below HB.out))
      obtain ⟨b, hb⟩ : ∃ b : Int, b = if x.testBit i then 1 else 0 := ⟨_, rfl⟩
      rw [← hb] at HBt HS
      have hb1 : 0 ≤ b ∧ b ≤ 1 := by rw [hb]; split <;> omega
      clear hb
      go_wp2_with fail
      refine HBt.out.mono ?_
      rintro e w1 ⟨rfl, hb⟩
      have Q := Lib.hid (Q.out.keep hb)
      have HB := Lib.hid (chain HB.out hb)
      have HO := Lib.hid (own_keep HO.out hb)
      clear hb r0 r1
      have hi' := HI.out
      have hz0' := HZ0.out
      have hz1' := HZ1.out
      have hz2' := HZ2.out
      have XO := Lib.hid (HO.out.alloc (.cells #[.int .i64 b] 3))
      have XQ := Lib.hid (Q.out.alloc (.cells #[.int .i64 b] 3))
      have XB := Lib.hid (HB.out.alloc HB.out.size (.cells #[.int .i64 b] 3))
      have N2 := Lib.hid (fun k hk => (HO.out.lt k hk).1)
      have N1 := Lib.hid (own_ne XO.out XQ.out (by decide))
      go_wp2_with (at_builtin; refine wpList_append_own _ rfl _ _ 26 rfl w.heap.size 3 i0 (.int .i64 0) 1 8 Try.underlying26 hi' hz0' hz1' hz2' rfl (by decide) _ _ _ rfl XO.out ⟨w1.heap.size, 0, none⟩ 1 1 [.int .i64 b] rfl rfl (cell_one_new _ _ _) (by simp [Value.oneCell']) (by simp [maxLen]; omega) (by omega) XB.out.size ?_; intro v' w2 hown' hgrow _; have HC := Lib.hid (XB.out.grown hgrow XB.out.size N2.out); have S1 := Lib.hid (XQ.out.grown hgrow N1.out); have HO2 := Lib.hid hown'; clear hown' hgrow)
      go_roundw
      case rel =>
        refine ⟨i + 1, by omega, by go_num, ?_, S1.out, HC.out⟩
        rw [HS.out, List.map_append]
        exact HO2.out
      case measure => simp [intOf] <;> omega
    · obtain rfl : i = N := by omega
      have hlt' : ¬ (i : Int) < (i : Int) := by omega
      obtain ⟨A', c', rfl, hA'⟩ := own_form HO.out
      go_wp2
      go_ret
      exact ⟨_, rfl, by rw [bitsI_len]; exact HO.out, HB.out⟩
/-- A byte's bit. -/
def bitB (s : ByteArray) (i : Nat) : Int := if (s.data.toList.getD (i / 8) 0).toNat.testBit (i % 8) then 1 else 0
theorem halves (v k : Nat) : (v / 2 ^ k) % 2 = if v.testBit k then 1 else 0 := by
  have := Nat.testBit_eq_decide_div_mod_eq (x := v) (i := k)
  rw [this]
  rcases Nat.mod_two_eq_zero_or_one (v / 2 ^ k) with h | h <;> rw [h] <;> rfl
theorem bit5_any (s : ByteArray) (i : Nat) (hs : s.size ≤ 64) (hi : i / 8 < s.size) (w : World) : Calls Try.prog 67 #[.string s, .int .i64 (i : Int)] w fun e w' => e = .returned (.int .i64 (bitB s i)) ∧ w = w' := by
  obtain ⟨q, hq⟩ : ∃ q, q = i / 8 := ⟨_, rfl⟩
  obtain ⟨r, hr⟩ : ∃ r, r = i % 8 := ⟨_, rfl⟩
  have hr8 : r < 8 := by rw [hr]; exact Nat.mod_lt _ (by omega)
  rw [← hq] at hi
  have HQ := Lib.hid hq
  have HR := Lib.hid hr
  have i64 : i < 1000 := by omega
  have d1 : (i : Int).tdiv 8 = (q : Int) := by rw [hq, Int.tdiv_eq_ediv_of_nonneg (by omega)]; omega
  have d2 : (i : Int).tmod 8 = (r : Int) := by rw [hr, Int.tmod_eq_emod_of_nonneg (by omega)]; omega
  obtain ⟨v, hv⟩ : ∃ v : Nat, v = s[q].toNat := ⟨_, rfl⟩
  have hv8 : v < 256 := by rw [hv]; exact UInt8.toNat_lt _
  have HV := Lib.hid hv
  have hv' : (s[q].toNat : Int) = (v : Int) := by omega
  have HE := Lib.hid (show bitB s i = ((v / 2 ^ r % 2 : Nat) : Int) by
    unfold bitB
    have : s.data.toList.getD (i / 8) 0 = s[q] := by rw [← hq]; simp [List.getD, hi]; rfl
    rw [this, ← hv, ← hr, halves]; split <;> rfl)
  clear hq hr hv
  go_enter Try.func67, Try.ntmps67
  go_wp2_with fail
  go_loop [6, 5] (fun t u => ∃ k : Nat, k ≤ r ∧ t = .int .i64 (k : Int) ∧ u = .int .i64 ((v / 2 ^ k : Nat) : Int)) (fun t _ => r - (intOf t).toNat)
  case atStart => exact ⟨0, by omega, rfl, by simp⟩
  case round =>
    obtain ⟨k, hk, rfl, rfl⟩ := hrel
    have hle : v / 2 ^ k ≤ v := Nat.div_le_self _ _
    have HP := Lib.hid (show v / 2 ^ (k + 1) = v / 2 ^ k / 2 by rw [Nat.pow_succ, Nat.div_div_eq_div_mul])
    obtain ⟨y, hy⟩ : ∃ y, y = v / 2 ^ k := ⟨_, rfl⟩
    rw [← hy] at hle HP ⊢
    have HY := Lib.hid hy
    clear hy
    by_cases hlt : k < r
    · have hlt' : (k : Int) < (r : Int) := by omega
      have d3 : (y : Int).tdiv 2 = ((y / 2 : Nat) : Int) := by rw [Int.tdiv_eq_ediv_of_nonneg (by omega)]; omega
      go_wp2_with fail
      go_round
      case rel => exact ⟨k + 1, by omega, by go_num, by rw [HP.out, Int.natCast_ediv]; rfl⟩
      case measure => simp [intOf]; omega
    · obtain rfl : k = r := by omega
      have hlt' : ¬ (k : Int) < (k : Int) := by omega
      have d3 : (y : Int).tmod 2 = ((y % 2 : Nat) : Int) := by rw [Int.tmod_eq_emod_of_nonneg (by omega)]; omega
      go_wp2_with fail
      go_ret
      exact ⟨by rw [HE.out, ← HY.out, Int.natCast_emod]; rfl, rfl⟩
end
section
/- The reference of layer 5: part. -/
set_option linter.unusedVariables false
set_option linter.unusedSimpArgs false
open Go.RowKit
set_option maxRecDepth 100000
theorem row_info5 : (Try.prog.info? 40).map (fun i => (i.zero, i.size, i.bytes)) = some (some (.agg #[.int .i64 0, .slice none 0 0]), 2, 32) := by kernel_rfl
theorem PC.rows {w w1 : World} {t : TypeId} (h : PC w w1 t) {base : Nat} {v : Value} {N : Nat} {L : List Nat} (q : RowsN w base v N L) (hne : 68 ≠ t) (hne2 : 40 ≠ t) : RowsN w1 base v N L := by
  obtain ⟨rs, h1, h2, h3⟩ := q
  exact ⟨rs, h1, h.own h2 hne2, fun j hj => ⟨(h3 j hj).1, h.own (h3 j hj).2 hne⟩⟩
theorem own_empty2 (W : World) (base e : Nat) (hb : base ≤ W.heap.size) : (W.alloc (.cells #[] e)).ownsRow base e 2 (.slice (some ⟨W.heap.size, 0, none⟩) 0 0) 0 [] :=
  ⟨by simp, .inr ⟨W.heap.size, 0, #[], rfl, hb, heap_alloc_new W _, Nat.le_refl _, Nat.zero_le _, by simp, by simp⟩⟩
/-- The bits of a row and one byte. -/
theorem part_bits {N n : Nat} {p : PV} (h : GoodP N n p) (a k : Nat) (hk : k < 8) : (prat N a (zOf N p)).testBit (N + k) = (p.2.data.toList.getD a 0).toNat.testBit k := by
  have hd : decide (N + k < N + 8) = true := by simp; omega
  rw [prat_bit, if_neg (by omega), hd, Bool.true_and, z_bit h, if_neg (by omega), show N + k + 8 * a - N = 8 * a + k by omega, bn_byte _ _ _ hk]
theorem part_row {N n : Nat} {p : PV} (h : GoodP N n p) (a : Nat) : bitsI p.1 N = bitsI (prat N a (zOf N p)) N := bitsI_eq fun j hj => by rw [prat_bit, if_pos hj, z_bit h, if_pos hj]
/-- The numbers of part's rows. -/
def Yat (N a : Nat) (Z : List Nat) : List Nat := Z.map (prat N a)
set_option maxHeartbeats 8000000 in
theorem part_any {N n : Nat} {X : List Nat} {ss : List ByteArray} {A S : Option Addr} {m c d : Nat} (w : World) (h : BkIn w N n X ss A S m c d) (a : Nat) (ha : a < n) :
    Calls Try.prog 49 #[.agg #[.int .i64 (N : Int), .slice A m c], .slice S m d, .int .i64 (a : Int)] w (RefEch (N + 8) (Yat N a (zs N X ss)) w) := by
  obtain ⟨i0, ki, kz0, kz1, kz2⟩ := info_parts int_info5
  obtain ⟨j0, ji, jz0, jz1, jz2⟩ := info_parts row_info5
  have b1 : Below w.heap.size w (w.alloc (.cells #[.int .i64 (N : Int), .slice A m c] 24)) := (Below.refl _ _).alloc (Nat.le_refl _) _
  have b2 : Below w.heap.size w ((w.alloc (.cells #[.int .i64 (N : Int), .slice A m c] 24)).alloc (.cells #[] 40)) := b1.alloc (by simp) _
  have Q0 := Lib.hid ((Box.new w 24 #[.int .i64 (N : Int), .slice A m c]).alloc (.cells #[] 40))
  have HB := Lib.hid b2
  have HIn := Lib.hid h
  have ho := own_empty2 (w.alloc (.cells #[.int .i64 (N : Int), .slice A m c] 24)) (w.heap.size + 1) 40 (by simp)
  rw [World.size_alloc] at ho
  have HO0 := Lib.hid ho
  have hN := h.hN
  have hn := h.hn
  have hm64 := h.hm64
  have hmc : m ≤ c := h.hsl.1
  have HPl := Lib.hid (pairs_len X ss m h.hXm h.ht.1)
  have HGd := Lib.hid (pairs_good h.hX h.hss)
  obtain ⟨L0, hL0⟩ : ∃ L0, L0 = pairs X ss := ⟨_, rfl⟩
  have hZ : zs N X ss = L0.map (zOf N) := by rw [hL0]; rfl
  have HGd2 := Lib.hid (show ∀ p ∈ L0, GoodP N n p by rw [hL0]; exact HGd.out)
  rw [← hL0] at HPl
  have HZ := Lib.hid hZ
  have HL0 := Lib.hid hL0
  obtain ⟨Z, hZe⟩ : ∃ Z, Z = zs N X ss := ⟨_, rfl⟩
  rw [← hZe] at HZ ⊢
  have HZl := Lib.hid (show Z.length = m by rw [HZ.out, List.length_map, HPl.out])
  obtain ⟨q0, q1, -, -⟩ := Q0.out.two
  clear b1 b2 h ho hL0 hZ HGd hZe
  go_enter Try.func49, Try.ntmps49
  go_wp2_with fail
  clear q0 q1
  go_loopw [16, 7] (fun t v wr => ∃ i : Nat, i ≤ m ∧ t = .int .i64 (i : Int) ∧ Hid (RowsN wr (w.heap.size + 1) v (N + 8) (Yat N a (Z.take i))) ∧ Hid (Box wr w.heap.size 24 #[.int .i64 (N : Int), .slice A m c]) ∧ Hid (Below w.heap.size w wr)) (fun t _ _ => m - (intOf t).toNat)
  case atStart => exact ⟨0, Nat.zero_le _, rfl, Lib.hid ⟨[], rfl, HO0.out, fun j hj => absurd hj (by simp [Yat, mkM])⟩, Q0, HB⟩
  case round =>
    obtain ⟨i, hi, rfl, HR, HQ, HBr⟩ := hrel
    have HYl := Lib.hid (show (Yat N a (Z.take i)).length = i by rw [Yat, List.length_map, List.length_take, HZl.out]; omega)
    by_cases hlt : i < m
    · have hlt' : (i : Int) < (m : Int) := by omega
      obtain ⟨b, off, B, l, k, hA, hbw, x0, x1, hs, hw⟩ := HIn.out.hm.at i hlt
      have hx : (mkM N X).getD i (0, []) = mkR N (X.getD i 0) := mkM_at N X i (by rw [HIn.out.hXm]; exact hlt)
      rw [hx] at x0 hw
      obtain ⟨b2, off2, hS, hb2, hc2⟩ := HIn.out.ht.2.2 (by omega)
      subst hA hS
      clear hx
      have y0 := hc2 i hlt
      obtain ⟨x, hxe⟩ : ∃ x, x = X.getD i 0 := ⟨_, rfl⟩
      obtain ⟨s, hse⟩ : ∃ s, s = ss.getD i ByteArray.empty := ⟨_, rfl⟩
      rw [← hxe] at x0 hw
      rw [← hse] at y0
      have HP := Lib.hid (show L0.getD i pv0 = (x, s) by rw [HL0.out, pairs_at X ss m i HIn.out.hXm HIn.out.ht.1 hlt, hxe, hse])
      have HG := Lib.hid (show GoodP N n (x, s) by rw [← HP.out]; exact HGd2.out _ (getD_memP (by rw [HPl.out]; exact hlt)))
      obtain ⟨y, hy⟩ : ∃ y, y = prat N a (zOf N (x, s)) := ⟨_, rfl⟩
      have HYs := Lib.hid (show Yat N a (Z.take (i + 1)) = Yat N a (Z.take i) ++ [y] by
        have e : Z[i]'(by rw [HZl.out]; exact hlt) = zOf N (x, s) := by
          have := mapz_at N L0 i (by rw [HPl.out]; exact hlt)
          rw [← HZ.out, HP.out] at this
          simpa [List.getD, HZl.out, hlt] using this
        rw [List.take_succ_eq_append_getElem (by rw [HZl.out]; exact hlt), e, hy]; simp [Yat])
      have HBs := Lib.hid (show bitsI x N = bitsI y N by rw [hy]; exact part_row HG.out a)
      have HBb := Lib.hid (fun (k : Nat) (hk : k < 8) => show (if y.testBit (N + k) then (1 : Int) else 0) = bitB s (8 * a + k) by
        rw [hy, part_bits HG.out a k hk, bitB, show (8 * a + k) / 8 = a by omega, show (8 * a + k) % 8 = k by omega])
      have HYlt := Lib.hid (show y < 2 ^ (N + 8) by rw [hy]; exact prat_lt N a _)
      have hsz : s.size = n := HG.out.2
      have HSz := Lib.hid hsz
      have x0 : w.cell? ⟨b, off + i * 2, none⟩ = some (.int .i64 (N : Int)) := x0
      have hw : Words w B l (rowOf N x) := hw
      have HWd := Lib.hid hw
      have HY0 := Lib.hid y0
      have x0 := (HBr.out.cell (p := ⟨b, off + i * 2, none⟩) hbw).trans x0
      have x1 := (HBr.out.cell (p := ⟨b, off + i * 2 + 1, none⟩) hbw).trans x1
      have y1 := (HBr.out.cell (p := ⟨b2, off2 + i, none⟩) hb2).trans y0
      have hws := HBr.out.size
      have hqs : w.heap.size < wr.heap.size := HQ.out.lt
      have hbr : b < wr.heap.size := by omega
      have hb2r : b2 < wr.heap.size := by omega
      clear hs hw hc2 hxe hse y0 hy hsz
      have al : Below wr.heap.size wr (wr.alloc (.cells #[.int .i64 (N : Int), .slice B l k] 40)) := (Below.refl _ _).alloc (Nat.le_refl _) _
      have E := Lib.hid (Box.new wr 40 #[.int .i64 (N : Int), .slice B l k])
      have AL1 := Lib.hid al
      have HBi := Lib.hid (bits_own N x (by omega) B l k _ (HWd.out.below (chain HBr.out al)))
      rw [HBs.out] at HBi
      obtain ⟨e0, e1, -, -⟩ := E.out.two
      clear al
      go_wp2_with fail
      refine HBi.out.mono ?_
      rintro e w3 ⟨vb, rfl, hob, hb⟩
      rw [bitsI_len] at hob
      have HC := Lib.hid (chain AL1.out hb)
      have R3 := Lib.hid (HR.out.below HC.out)
      have Q3 := Lib.hid (HQ.out.keep HC.out)
      have B3 := Lib.hid (chain HBr.out HC.out)
      have O3 := Lib.hid hob
      have hz3 : w.heap.size + 1 ≤ (wr.alloc (.cells #[.int .i64 (N : Int), .slice B l k] 40)).heap.size := by simp; omega
      have HZ3 := Lib.hid hz3
      obtain ⟨B0, hB0⟩ : ∃ B0, B0 = (wr.alloc (.cells #[.int .i64 (N : Int), .slice B l k] 40)).heap.size := ⟨_, rfl⟩
      rw [← hB0] at O3 HZ3
      have HB03 := Lib.hid (show B0 ≤ w3.heap.size by rw [hB0]; exact hb.size)
      clear hb hob HBi AL1 E e0 e1 x0 x1 y1 hB0 hz3 HC HR HQ HBr HBs
      obtain ⟨wA, rfl⟩ : ∃ wA : World, wA = wr := ⟨_, rfl⟩
      go_wp2_with fail
      go_loopw [11, 10] (fun u vv wr => ∃ j : Nat, j ≤ 8 ∧ u = .int .i64 (j : Int) ∧ Hid (wr.ownsRow B0 3 1 vv (N + j) ((bitsI y (N + j)).map (Value.int .i64))) ∧ Hid (RowsN wr (w.heap.size + 1) u7 (N + 8) (Yat N a (Z.take i))) ∧ Hid (Box wr w.heap.size 24 #[.int .i64 (N : Int), .slice (some ⟨b, off, none⟩) m c]) ∧ Hid (Below w.heap.size w wr) ∧ Hid (B0 ≤ wr.heap.size)) (fun u _ _ => 8 - (intOf u).toNat)
      case atStart => exact ⟨0, by omega, rfl, O3, R3, Q3, B3, HB03⟩
      case round =>
        obtain ⟨j, hj, rfl, IO, IR, IQ, IB, IS⟩ := hrel
        clear O3 R3 Q3 B3 HB03
        by_cases hjl : j < 8
        · have hjl' : (j : Int) < 8 := by omega
          have y0 := (IB.out.cell (p := ⟨b2, off2 + i, none⟩) hb2).trans HY0.out
          have HBt := bit5_any s (8 * a + j) (by have := HSz.out; omega) (by have := HSz.out; omega) wr
          rw [← HBb.out j hjl] at HBt
          have HSc := Lib.hid (bitsI_succ y (N + j))
          obtain ⟨bv, hbv⟩ : ∃ bv : Int, bv = if y.testBit (N + j) then 1 else 0 := ⟨_, rfl⟩
          rw [← hbv] at HBt HSc
          rw [show ((8 * a + j : Nat) : Int) = 8 * (a : Int) + (j : Int) by omega] at HBt
          have HBt2 := Lib.hid HBt
          have XO := Lib.hid (IO.out.alloc (.cells #[.int .i64 bv] 3))
          have al : Below wr.heap.size wr (wr.alloc (.cells #[.int .i64 bv] 3)) := (Below.refl _ _).alloc (Nat.le_refl _) _
          have ALx := Lib.hid al
          have hks := IS.out
          have XS := Lib.hid (show B0 ≤ (wr.alloc (.cells #[.int .i64 bv] 3)).heap.size by simp; omega)
          clear HBt hbv al hks
          go_wp2_with fail
          refine HBt2.out.mono ?_
          rintro e w5 ⟨rfl, rfl⟩
          go_wp2_with (at_builtin; refine wpList_append_own _ rfl _ _ 26 rfl B0 3 i0 (.int .i64 0) 1 8 Try.underlying26 ki kz0 kz1 kz2 rfl (by decide) _ _ _ rfl XO.out ⟨wr.heap.size, 0, none⟩ 1 1 [.int .i64 bv] rfl rfl (cell_one_new _ _ _) (by simp [Value.oneCell']) (by simp [maxLen]; omega) (by omega) XS.out ?_; intro v' w6 hown' hgrow _; have HG2 := Lib.hid hgrow; have HO2 := Lib.hid hown'; clear hown' hgrow)
          have hpc : PC _ w6 3 := ⟨_, HG2.out, fun g e => (own_blk XO.out g e).2⟩
          have RR := Lib.hid (hpc.rows (IR.out.below ALx.out) (by decide) (by decide))
          have RQ := Lib.hid (hpc.box (IQ.out.keep ALx.out) (by decide))
          have RB := Lib.hid (gr_low (chain IB.out ALx.out) (chain IB.out ALx.out).size HG2.out (fun g e => by have := (own_blk XO.out g e).1; have := HZ3.out; omega))
          have RS := Lib.hid (Nat.le_trans XS.out HG2.out.size)
          have RO := Lib.hid (show w6.ownsRow B0 3 1 v' (N + (j + 1)) ((bitsI y (N + (j + 1))).map (Value.int .i64)) by
            rw [show N + (j + 1) = N + j + 1 by omega, HSc.out, List.map_append]; exact HO2.out)
          clear hpc HG2 HO2 XO ALx XS IO IR IQ IB IS
          go_roundw
          case rel => exact ⟨j + 1, by omega, by go_num, RO, RR, RQ, RB, RS⟩
          case measure => simp [intOf]; omega
        · obtain rfl : j = 8 := by omega
          obtain ⟨A5, c5, hv5, -⟩ := own_form IO.out
          subst hv5
          have hin := own_ints IO.out (bitsI_lt y (N + 8))
          have HFr := from_own A5 (N + 8) c5 (bitsI y (N + 8)) wr hin (by omega)
          rw [from_num y (N + 8) HYlt.out] at HFr
          have HFr2 := Lib.hid HFr
          clear hin HFr
          go_wp2_with fail
          refine HFr2.out.mono ?_
          rintro e w5 ⟨A6, l6, c6, rfl, ow, hb⟩
          have R5 := Lib.hid (IR.out.below hb)
          have Q5 := Lib.hid (IQ.out.keep hb)
          have B5 := Lib.hid (chain IB.out hb)
          have OW5 := Lib.hid ow
          obtain ⟨rs, hr1, hr2, hr3⟩ := R5.out
          rw [mkM_len, HYl.out] at hr1 hr2 hr3
          have HR3 := Lib.hid hr3
          have HR1 := Lib.hid hr1
          have al : Below w5.heap.size w5 (w5.alloc (.cells #[.int .i64 ((N + 8 : Nat) : Int), .slice A6 l6 c6] 40)) := (Below.refl _ _).alloc (Nat.le_refl _) _
          have XO := Lib.hid (own_keep hr2 al)
          have ALx := Lib.hid al
          have XN := Lib.hid (show ∀ j u, ([.int .i64 ((N + 8 : Nat) : Int), .slice A6 l6 c6] : List Value)[j]? = some u → (w5.alloc (.cells #[.int .i64 ((N + 8 : Nat) : Int), .slice A6 l6 c6] 40)).cell? ((⟨w5.heap.size, 0, none⟩ : Addr).add j) = some u from World.news_of_block (Box.new w5 40 #[.int .i64 ((N + 8 : Nat) : Int), .slice A6 l6 c6]))
          have XS := Lib.hid (show w.heap.size + 1 ≤ (w5.alloc (.cells #[.int .i64 ((N + 8 : Nat) : Int), .slice A6 l6 c6] 40)).heap.size by have := Q5.out.lt; simp; omega)
          clear hr1 hr2 hr3 al hb ow IO IR IQ IB IS HFr2
          go_wp2_with (at_builtin; refine wpList_append_own _ rfl _ _ 22 rfl (w.heap.size + 1) 40 j0 (.agg #[.int .i64 0, .slice none 0 0]) 2 32 Try.underlying22 ji jz0 jz1 jz2 rfl (by decide) _ _ _ rfl XO.out ⟨w5.heap.size, 0, none⟩ 1 1 [.int .i64 ((N + 8 : Nat) : Int), .slice A6 l6 c6] rfl rfl XN.out (by simp [Value.oneCell']) (by simp [maxLen]; omega) (by omega) XS.out ?_; intro v' w6 hown' hgrow _; have HG2 := Lib.hid hgrow; have HO2 := Lib.hid hown'; clear hown' hgrow)
          have RR := Lib.hid (show RowsN w6 (w.heap.size + 1) v' (N + 8) (Yat N a (Z.take (i + 1))) by
            have hh := RowsW.snoc (N := ((N + 8 : Nat) : Int)) (A := A6) (l := l6) (c := c6) (z := rowOf (N + 8) y) (ms := mkM (N + 8) (Yat N a (Z.take i))) (by rw [mkM_len, HYl.out]) HR1.out HO2.out (fun j hj => ⟨(HR3.out j hj).1, OwnW.grown ((HR3.out j hj).2.below ALx.out) XO.out (by decide) HG2.out⟩) (OwnW.grown (OW5.out.below ALx.out) XO.out (by decide) HG2.out)
            rw [HYs.out]
            unfold RowsN
            rw [show mkM (N + 8) (Yat N a (Z.take i) ++ [y]) = mkM (N + 8) (Yat N a (Z.take i)) ++ [(((N + 8 : Nat) : Int), rowOf (N + 8) y)] by simp [mkM, mkR]]
            exact hh)
          have RQ := Lib.hid (Box.grown (Q5.out.keep ALx.out) HG2.out (own_ne XO.out (Q5.out.keep ALx.out) (by decide)))
          have RB := Lib.hid (gr_low (chain B5.out ALx.out) (chain B5.out ALx.out).size HG2.out (fun g e => by have := (own_blk XO.out g e).1; omega))
          clear HG2 HO2 XO ALx XS XN HR1 HR3 OW5 R5 Q5 B5
          go_roundw
          case rel => exact ⟨i + 1, by omega, by go_num, RR, RQ, RB⟩
          case measure => simp [intOf]; omega
    · obtain rfl : i = m := by omega
      have hlt' : ¬ (i : Int) < (i : Int) := by omega
      have hR := HR.out
      rw [List.take_of_length_le (by rw [HZl.out]; exact Nat.le_refl _)] at hR HYl
      obtain ⟨A8, c8, hv8, -, hmat⟩ := RowsW.mat hR (mkM_lt (N + 8) _)
      rw [mkM_len] at hv8 hmat
      rw [HYl.out] at hv8
      subst hv8
      have HE := refEch_any (N + 8) (by omega) (Yat N a Z) (fun r hr => by obtain ⟨z, -, rfl⟩ := List.mem_map.1 hr; exact prat_lt N a z) (by rw [HYl.out]; omega) A8 c8 (w.heap.size + 1) wr hmat
      rw [HYl.out, show ((N + 8 : Nat) : Int) = (N : Int) + 8 by omega] at HE
      have HE2 := Lib.hid HE
      obtain ⟨q0, q1, -, -⟩ := HQ.out.two
      clear hR hmat HE HR
      go_wp2_with fail
      refine HE2.out.mono ?_
      rintro e w5 ⟨M, P, A9, c9, rfl, h1, h2, h3, hb⟩
      have H1 := Lib.hid h1
      have H2 := Lib.hid h2
      have H3 := Lib.hid h3
      have HB5 := Lib.hid (chain HBr.out hb)
      clear h1 h2 h3 hb q0 q1
      go_wp2_with fail
      go_ret
      exact ⟨M, P, A9, c9, rfl, H1.out, H2.out, H3.out, HB5.out⟩
end
section
/- Two boxes of rows, stored anew one after the other. No program. -/
set_option linter.unusedVariables false
set_option linter.unusedSimpArgs false
open Go.RowKit
theorem two_rows {x : World} {g1 g2 : Nat} {t : TypeId} {i1 i2 j1 j2 : Int} {S1 S2 T1 T2 : Option Addr} {p1 q1 p2 q2 l1 c1 l2 c2 : Nat}
    (h1 : Box x g1 t #[.int .i64 i1, .slice S1 p1 q1]) (h2 : Box x g2 t #[.int .i64 i2, .slice S2 p2 q2]) (n12 : g1 ≠ g2)
    {w : World} (hb : Below w.heap.size w x) (b1 : w.heap.size ≤ g1) (b2 : w.heap.size ≤ g2)
    {xa bs : List Nat} (u1 : Words x T1 l1 xa) (u2 : Words x T2 l2 bs) :
    let y := (((x.setCell ⟨g1, 0, none⟩ (.int .i64 j1)).setCell ⟨g1, 1, none⟩ (.slice T1 l1 c1)).setCell ⟨g2, 0, none⟩ (.int .i64 j2)).setCell ⟨g2, 1, none⟩ (.slice T2 l2 c2)
    Box y g1 t #[.int .i64 j1, .slice T1 l1 c1] ∧ Box y g2 t #[.int .i64 j2, .slice T2 l2 c2] ∧ Words y T1 l1 xa ∧ Words y T2 l2 bs ∧ Below w.heap.size w y := by
  have k1 : Box ((x.setCell ⟨g1, 0, none⟩ (.int .i64 j1)).setCell ⟨g1, 1, none⟩ (.slice T1 l1 c1)) g1 t #[.int .i64 j1, .slice T1 l1 c1] := h1.put2
  have k2 := (h2.far (p := ⟨g1, 0, none⟩) n12.symm (.int .i64 j1)).far (p := ⟨g1, 1, none⟩) n12.symm (.slice T1 l1 c1)
  have v1 := u1.put2 h1 (.int .i64 j1) (.slice T1 l1 c1)
  have v2 := u2.put2 h1 (.int .i64 j1) (.slice T1 l1 c1)
  exact ⟨(k1.far (p := ⟨g2, 0, none⟩) n12 (.int .i64 j2)).far (p := ⟨g2, 1, none⟩) n12 (.slice T2 l2 c2), k2.put2, v1.put2 k2 _ _, v2.put2 k2 _ _,
    (((hb.setCell (p := ⟨g1, 0, none⟩) b1 _).setCell (p := ⟨g1, 1, none⟩) b1 _).setCell (p := ⟨g2, 0, none⟩) b2 _).setCell (p := ⟨g2, 1, none⟩) b2 _⟩
theorem Ints.drew {w : World} {A : Option Addr} {len : Nat} {zs : List Int} (h : Ints w A len zs) : Ints w.drew A len zs := h
theorem Ints.take {w : World} {A : Option Addr} {len : Nat} {zs : List Int} (h : Ints w A len zs) (k : Nat) (hk : k ≤ len) : Ints w A k (zs.take k) := by
  refine ⟨by simp [h.1]; omega, fun j => ?_, fun hp => ?_⟩
  · by_cases hj : j < k
    · have := h.2.1 j
      simpa [List.getD, List.getElem?_take, hj] using this
    · simp [List.getD, List.getElem?_take, hj]
  · obtain ⟨b, off, rfl, hlt, hc⟩ := h.2.2 (by omega)
    refine ⟨b, off, rfl, hlt, fun j hj => ?_⟩
    rw [hc j (by omega)]
    simp [List.getD, List.getElem?_take, hj]
/-- Ints of a block below keep off boxes above. -/
theorem Ints.put2r {w x : World} {A : Option Addr} {len : Nat} {zs : List Int} {g1 g2 : Nat} {a b c d : Value} (h : Ints x A len zs) (h1 : w.heap.size ≤ g1) (h2 : w.heap.size ≤ g2) (hlow : 0 < len → ∀ p o, A = some ⟨p, o, none⟩ → p < w.heap.size) :
    Ints ((((x.setCell ⟨g1, 0, none⟩ a).setCell ⟨g1, 1, none⟩ b).setCell ⟨g2, 0, none⟩ c).setCell ⟨g2, 1, none⟩ d) A len zs := by
  refine ⟨h.1, h.2.1, fun hp => ?_⟩
  obtain ⟨p, o, rfl, hlt, hc⟩ := h.2.2 hp
  have hl := hlow hp p o rfl
  refine ⟨p, o, rfl, by simpa [World.setCell] using hlt, fun j hj => ?_⟩
  rw [World.cell?_setCell_other _ _ _ _ (by intro e; injection e; omega), World.cell?_setCell_other _ _ _ _ (by intro e; injection e; omega), World.cell?_setCell_other _ _ _ _ (by intro e; injection e; omega), World.cell?_setCell_other _ _ _ _ (by intro e; injection e; omega)]
  exact hc j hj
theorem Ints.low {w : World} {A : Option Addr} {len : Nat} {zs : List Int} (h : Ints w A len zs) : 0 < len → ∀ p o, A = some ⟨p, o, none⟩ → p < w.heap.size := by
  intro hp p o hA
  obtain ⟨p', o', hA', hlt, _⟩ := h.2.2 hp
  rw [hA] at hA'
  injection hA' with hA'
  injection hA' with e1 e2
  omega
end
section
/- Contracts of layer 2's reference: Why, Ones. -/
set_option linter.unusedVariables false
set_option linter.unusedSimpArgs false
open Go.RowKit
def whyE (b : Bool) : Int := if b then 0 else 2
theorem why_neg (n : Int) (A : Option Addr) (l c : Nat) (h : n < 0) (w : World) : Calls Try.prog 48 #[.int .i64 n, .slice A l c] w fun e w' => e = .returned (.int .i64 2) ∧ w = w' := by
  have t : decide (n < 0) = true := by simpa using h
  go_enter Try.func48, Try.ntmps48
  go_wp2
  go_ret
  exact ⟨rfl, rfl⟩
theorem why_big (n : Int) (A : Option Addr) (l c : Nat) (h0 : ¬ n < 0) (h : 64 < n) (w : World) : Calls Try.prog 48 #[.int .i64 n, .slice A l c] w fun e w' => e = .returned (.int .i64 2) ∧ w = w' := by
  have t0 : decide (n < 0) = false := by simpa using h0
  have t : decide (64 < n) = true := by simpa using h
  go_enter Try.func48, Try.ntmps48
  go_wp2
  go_ret
  exact ⟨rfl, rfl⟩
theorem why_many (n : Int) (A : Option Addr) (l c : Nat) (h0 : ¬ n < 0) (h : ¬ 64 < n) (hl : 64 < l) (hl2 : l ≤ maxLen) (w : World) : Calls Try.prog 48 #[.int .i64 n, .slice A l c] w fun e w' => e = .returned (.int .i64 2) ∧ w = w' := by
  unfold maxLen at hl2
  have t0 : decide (n < 0) = false := by simpa using h0
  have t : decide (64 < n) = false := by simpa using h
  have t2 : (64 : Int) < l := by omega
  go_enter Try.func48, Try.ntmps48
  go_wp2
  go_ret
  exact ⟨rfl, rfl⟩
theorem why_loop (n : Int) (A : Option Addr) (l c : Nat) (ss : List ByteArray) (w : World) (ht : Texts w A l ss) (h0 : ¬ n < 0) (h : ¬ 64 < n) (hl : l ≤ 64) :
    Calls Try.prog 48 #[.int .i64 n, .slice A l c] w fun e w' => e = .returned (.int .i64 (whyE (allL n ss))) ∧ w = w' := by
  have t0 : decide (n < 0) = false := by simpa using h0
  have t : decide (64 < n) = false := by simpa using h
  have t2 : ¬ (64 : Int) < l := by omega
  have hlen := Lib.hid ht.1
  have HT := Lib.hid ht
  clear ht
  go_enter Try.func48, Try.ntmps48
  go_wp2_with fail
  go_loop [20] (fun i => ∃ k : Nat, k ≤ l ∧ i = .int .i64 k ∧ Hid (allL n (ss.take k) = true)) (fun i => l - (intOf i).toNat)
  case atStart => exact ⟨0, by omega, rfl, Lib.hid (by simp [allL])⟩
  case round =>
    obtain ⟨k, hk, rfl, HN⟩ := hrel
    by_cases hlt : k < l
    · obtain ⟨b, off, rfl, hb, hc⟩ := HT.out.2.2 (by omega)
      have c1 := hc k hlt
      have hm := HT.out.2.1 k
      have HS := Lib.hid (allL_snoc n ss k (by rw [hlen.out]; exact hlt))
      have HNO := Lib.hid (allL_not n ss k (by rw [hlen.out]; exact hlt))
      generalize ss.getD k ByteArray.empty = s at *
      unfold maxLen at hm
      clear hc
      by_cases hz : (s.size : Int) = n
      · have t : ((s.size : Int) != n) = false := by simpa using hz
        have HZ := Lib.hid hz
        clear hz
        go_wp2
        go_round
        case rel => exact ⟨k + 1, by omega, by go_num, Lib.hid (by rw [HS.out, HN.out, HZ.out]; simp)⟩
        case measure => simp [intOf]; omega
      · have t : ((s.size : Int) != n) = true := by simpa using hz
        go_wp2
        go_ret
        exact ⟨by rw [HNO.out hz]; rfl, rfl⟩
    · obtain rfl : k = l := by omega
      have HE := Lib.hid (show allL n ss = true by have := HN.out; rwa [List.take_of_length_le (by rw [hlen.out]; omega)] at this)
      go_wp2
      go_ret
      exact ⟨by rw [HE.out]; rfl, rfl⟩
theorem why_any (n : Int) (A : Option Addr) (l c : Nat) (ss : List ByteArray) (w : World) (ht : Texts w A l ss) (hl : l ≤ maxLen) :
    Calls Try.prog 48 #[.int .i64 n, .slice A l c] w fun e w' => e = .returned (.int .i64 (sumE n ss)) ∧ w = w' := by
  have hlen := ht.1
  by_cases h0 : n < 0
  · have e : okS n ss = false := by simp [okS, smb]; omega
    rw [sumE, e]; exact why_neg n A l c h0 w
  · by_cases h : 64 < n
    · have e : okS n ss = false := by simp [okS, smb]; omega
      rw [sumE, e]; exact why_big n A l c h0 h w
    · by_cases h2 : l ≤ 64
      · have e : okS n ss = allL n ss := by
          have : smb n = true := (smb_iff n).2 ⟨by omega, by omega⟩
          simp [okS, this, hlen, h2]
        rw [sumE, e]; exact why_loop n A l c ss w ht h0 h h2
      · have e : okS n ss = false := by simp [okS, hlen, h2]
        rw [sumE, e]; exact why_many n A l c h0 h (by omega) hl w
end
end Go.Proofs.Ytdfmogcgangdnaa
