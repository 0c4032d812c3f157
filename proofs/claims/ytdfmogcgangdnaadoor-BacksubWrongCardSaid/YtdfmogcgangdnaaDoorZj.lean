/- Parts: BtX, BwM, ApF, AppO, AppN, Re5, Rs1. -/
import Derived.Test.YtdfmogcgangdnaaDoorZi
import Derived.ArgAppend
import Derived.BigQuiet
import Derived.Deep.AppendLies
import Derived.Deep.QuietTactic
import Derived.Deep.RegionLaw
import Derived.Deep.RegionWith
import Derived.Laws.BitsAllLaws
import Derived.Laws.IdiomStrings
namespace Go.Proofs.YtdfmogcgangdnaaDoor
section
/- BacksubTold: the walk. -/
set_option linter.unusedVariables false
set_option linter.unusedSimpArgs false
open Go.RowKit
set_option maxRecDepth 100000
theorem Texts.take {w : World} {A : Option Addr} {l : Nat} {ss : List ByteArray} (h : Texts w A l ss) (k : Nat) (hk : k ≤ l) : Texts w A k (ss.take k) := by
  refine ⟨by rw [List.length_take, h.1]; omega, fun j => ?_, fun hp => ?_⟩
  · by_cases hj : j < k
    · have : (ss.take k).getD j ByteArray.empty = ss.getD j ByteArray.empty := by simp [List.getD, List.getElem?_take, hj]
      rw [this]; exact h.2.1 j
    · have : (ss.take k)[j]? = none := List.getElem?_eq_none (by rw [List.length_take, h.1]; omega)
      simp only [List.getD, this, Option.getD_none]; unfold maxLen; decide
  · obtain ⟨b, o, hA, hlt, hc⟩ := h.2.2 (by omega)
    refine ⟨b, o, hA, hlt, fun j hj => ?_⟩
    have : (ss.take k).getD j ByteArray.empty = ss.getD j ByteArray.empty := by simp [List.getD, List.getElem?_take, hj]
    rw [this]; exact hc j (by omega)
/-- What equations that blocks make are. -/
structure Made (N n : Nat) (X : List Nat) (ts ls : List ByteArray) : Prop where
  size : ∀ s ∈ ls, s.size = n
  lin : Lin N (fun j => bn (ts.getD j ByteArray.empty).data.toList) (zs N X ls)
theorem made_app {N n : Nat} {X : List Nat} {ts : List ByteArray} (hX : ∀ r ∈ X, r < 2 ^ N) (hr : rightM N (mkM N X) = true) (ho : okS n ts = true) (hk : ts.length = N) : Made N n X ts (appR n N (mkM N X) ts) := by
  have hsz : ∀ j, j < N → (ts.getD j ByteArray.empty).size = n := fun j hj => by
    have h := ho
    simp only [okS, Bool.and_eq_true] at h
    have := allL_at h.1.2 j (by omega)
    omega
  have hz : ∀ i, i < X.length → ∀ j, j < N → (bitsL ((mkM N X).getD i (0, [])).2 N).getD j 0 = if (X.getD i 0).testBit j then 1 else 0 := fun i hi j hj => by
    rw [bitsL_get _ _ _ hj, mkM_at N X i hi]
    show ((bitAt (rowOf N (X.getD i 0)) j : Nat) : Int) = _
    rw [rowOf_bitN N _ j hj]; split <;> rfl
  have hat : ∀ i, i < X.length → (appR n N (mkM N X) ts).getD i ByteArray.empty = ⟨(bsums ts (bitsL ((mkM N X).getD i (0, [])).2 N) N n).toArray⟩ := fun i hi => by
    rw [appR_at n N (mkM N X) ts i (by rw [mkM_len]; exact hi), appF_sum5 hr ho hk i (by rw [mkM_len]; exact hi)]
  have hlen : (appR n N (mkM N X) ts).length = X.length := by rw [appR_len, mkM_len]
  refine ⟨fun s hs => ?_, fun z hz' => ?_⟩
  · obtain ⟨i, hi, rfl⟩ := List.getElem_of_mem hs
    have e : (appR n N (mkM N X) ts).getD i ByteArray.empty = (appR n N (mkM N X) ts)[i] := by simp [List.getD, hi]
    rw [← e, hat i (by omega)]
    simp [ByteArray.size, bsums]
  · obtain ⟨p, hp, rfl⟩ := List.mem_map.1 hz'
    obtain ⟨i, hi, rfl⟩ := List.getElem_of_mem hp
    have hi' : i < X.length := by simp [pairs, hlen] at hi; exact hi
    have e : (pairs X (appR n N (mkM N X) ts))[i] = (X.getD i 0, (appR n N (mkM N X) ts).getD i ByteArray.empty) := by
      have := pairs_at X (appR n N (mkM N X) ts) X.length i rfl hlen hi'
      rw [← this]; simp [List.getD, hi]
    rw [e, hat i hi']
    have g : GoodP N n (X.getD i 0, (⟨(bsums ts (bitsL ((mkM N X).getD i (0, [])).2 N) N n).toArray⟩ : ByteArray)) := ⟨lt_all hX i, by simp [ByteArray.size, bsums]⟩
    rw [z_high g, z_low g]
    exact bn_bsums hsz (hz i hi')
theorem Made.take {N n : Nat} {X : List Nat} {ts ls : List ByteArray} (h : Made N n X ts ls) (k : Nat) : Made N n (X.take k) ts (ls.take k) :=
  ⟨fun s hs => h.size s (List.mem_of_mem_take hs), fun z hz => by
    refine h.lin z ?_
    unfold zs pairs at hz ⊢
    rw [List.zip, ← List.take_zipWith] at hz
    obtain ⟨p, hp, rfl⟩ := List.mem_map.1 hz
    exact List.mem_map_of_mem (List.mem_of_mem_take hp)⟩
/-- Told blocks are those of the columns. -/
theorem Made.told {N n : Nat} {X cols : List Nat} {ts ls blks : List ByteArray} (h : Made N n X ts ls) (ho : okS n ts = true) (hk : ts.length = N) (hkn : KnownP N n X (zs N X ls) cols blks) (j : Nat) (hj : j < cols.length) : cols.getD j 0 < N ∧ blks.getD j ByteArray.empty = ts.getD (cols.getD j 0) ByteArray.empty := by
  obtain ⟨h1, h2⟩ := h.lin.known hkn j hj
  refine ⟨h1, ?_⟩
  have hs1 := (hkn.2.2.2 j hj).1
  have hs2 : (ts.getD (cols.getD j 0) ByteArray.empty).size = n := by
    have h := ho
    simp only [okS, Bool.and_eq_true] at h
    have := allL_at h.1.2 _ (show cols.getD j 0 < ts.length by omega)
    omega
  have e := bn_inj _ _ (by rw [size_list, size_list, hs1, hs2]) h2
  rw [← back_list (blks.getD j ByteArray.empty), ← back_list (ts.getD (cols.getD j 0) ByteArray.empty), e]
theorem Made.full {N n : Nat} {X cols : List Nat} {ts ls blks : List ByteArray} (h : Made N n X ts ls) (ho : okS n ts = true) (hk : ts.length = N) (hkn : KnownP N n X (zs N X ls) cols blks) (hl : ¬ cols.length < N) : blks = ts := by
  have hc := rising_full hkn.1 (fun x hx => ((hkn.2.1 x).1 hx).1) (by omega)
  have hcl : cols.length = N := by rw [hc, List.length_range]
  refine List.ext_getElem (by rw [hkn.2.2.1, hcl, hk]) fun j h1 h2 => ?_
  have := (h.told ho hk hkn j (by rw [← hkn.2.2.1]; exact h1)).2
  have hcj : cols.getD j 0 = j := by rw [hc]; simp [List.getD, show j < N by omega]
  rw [hcj] at this
  simpa [List.getD, h1, h2] using this
theorem rising_at {L : List Nat} (h : L.Pairwise (· < ·)) (j : Nat) (hj : j + 1 < L.length) : L.getD j 0 < L.getD (j + 1) 0 := by
  have := List.pairwise_iff_getElem.1 h j (j + 1) (by omega) hj (by omega)
  simpa [List.getD, hj, show j < L.length by omega] using this
theorem knres_ok {N n : Nat} {X Z cols : List Nat} {E : Int} {blks : List ByteArray} (hf : FitsP N Z) (h : KnRes N n X Z E cols blks) : E = 0 ∧ KnownP N n X Z cols blks := by
  rcases h with ⟨h1, -, h3⟩ | ⟨-, h, -⟩
  · exact ⟨h1, h3⟩
  · exact absurd hf h
theorem mkM_tk (N : Nat) (X : List Nat) (k : Nat) : (mkM N X).take k = mkM N (X.take k) := by simp [mkM, List.map_take]
theorem cols64 {N n k : Nat} {X Z cols : List Nat} {blks : List ByteArray} (h : KnownP N n X Z cols blks) (hk : k < cols.length) : cols.getD k 0 < N := ((h.2.1 _).1 (getD_mem hk)).1
set_option maxHeartbeats 8000000 in
theorem told_walk (N : Int) (A : Option Addr) (l c : Nat) (ms : List (Int × List Nat)) (n : Int) (S : Option Addr) (k d : Nat) (ss : List ByteArray) (many : Int) (W : World) (s0 : SliceOk A l c) (h0 : MatAt W 0 A l ms) (hn1 : -9223372036854775808 ≤ n) (hn2 : n ≤ 9223372036854775807) (s1 : SliceOk S k d) (h1 : Texts W S k ss) (hy1 : -9223372036854775808 ≤ many) (hy2 : many ≤ 9223372036854775807) (hT : TabAt W 0) :
    Calls Tryd.prog 4 #[.agg #[.int .i64 N, .slice A l c], .int .i64 n, .slice S k d, .int .i64 many] W fun e w' => e = .returned (.bool true) ∧ Below W.heap.size W w' := by
  have b1 : Below W.heap.size W (W.alloc (.cells #[.int .i64 N, .slice A l c] 24)) := (Below.refl _ _).alloc (Nat.le_refl _) _
  have Q := Lib.hid (Box.new W 24 #[.int .i64 N, .slice A l c])
  have HB := Lib.hid b1
  have HTb := Lib.hid hT
  have HF := Lib.hid (few5_any N A S l c k d ms ss _ s0 (h0.below b1) s1 (h1.below b1))
  have hl66 : (fewM ms).length ≤ 66 := by have := fewM_len ms; omega
  have ht66 : (fewT ss (min k 66)).length ≤ 66 := by rw [fewT_len ss _ (by rw [h1.1]; omega)]; omega
  generalize fewM ms = fs at *
  generalize fewT ss (min k 66) = ts at *
  obtain ⟨r0, r1, f0, f1⟩ := Q.out.two
  clear b1 h0 s0 h1 s1 hT
  go_enter Tryd.func4, Tryd.ntmps4
  go_wp2_with fail
  refine HF.out.mono ?_
  rintro e x1 ⟨A1, S1, c1, d1, rfl, q1, q2, hm, ht, hlo, hb⟩
  have Q1 := Lib.hid (Q.out.keep hb)
  have HB1 := Lib.hid (chain HB.out hb)
  have P1 := Lib.hid (Q1.out.put2 (u := .int .i64 N) (v := .slice A1 fs.length c1))
  have M1 := Lib.hid ((hm.put2 (y := N) Q1.out (by simp) (.slice A1 fs.length c1)).low (Nat.zero_le _))
  have T1 := Lib.hid (texts_put ht Q1.out (fun b o hA h0 => by have := hlo b o hA h0; simp at this; omega) (.int .i64 N) (.slice A1 fs.length c1))
  have B1 := Lib.hid ((HB1.out.setCell (p := ⟨W.heap.size, 0, none⟩) (Nat.le_refl _) (.int .i64 N)).setCell (p := ⟨W.heap.size, 1, none⟩) (Nat.le_refl _) (.slice A1 fs.length c1))
  obtain ⟨r0', r1', f0', f1'⟩ := Q1.out.two
  have hc1 := q1.2.1
  have hd1 := q2.2.1
  have hcl := q1.1
  have hdl := q2.1
  have SL1 := Lib.hid q1
  unfold maxLen at hc1 hd1
  clear r0 r1 f0 f1 hb HF Q HB hm ht hlo q1 q2
  go_upto_region 2 with (fail)
  generalize hX2 : (x1.setCell ⟨W.heap.size, 0, none⟩ (.int .i64 N)).setCell ⟨W.heap.size, 1, none⟩ (.slice A1 fs.length c1) = x2 at *
  clear hX2 Q1 HB1 r0' r1' f0' f1' x1
  obtain ⟨r0, r1, f0, f1⟩ := P1.out.two
  have hT2 : TabAt x2 0 := HTb.out.below B1.out
  have HAp := apply_any n N A1 fs.length c1 0 fs S1 ts.length d1 ts x2 M1.out (by unfold maxLen; omega) T1.out hdl (by unfold maxLen; omega) hT2
  clear hT2 HTb
  by_cases hE : appB n N fs ts = true
  · have he : appE n N fs ts = 0 := by
      have h := hE
      simp only [appB, Bool.and_eq_true] at h
      rw [appE, if_pos h.1, if_pos h.2.1, if_pos h.2.2]
    have hLs : appL n N fs ts = appR n N fs ts := by rw [appL, if_pos hE]
    rw [he, hLs] at HAp
    simp only [appB, Bool.and_eq_true, beq_iff_eq] at hE
    obtain ⟨hr, ho, htl⟩ := hE
    have ho' := ho
    simp only [okS, Bool.and_eq_true, decide_eq_true_eq] at ho'
    obtain ⟨nn, rfl⟩ := Int.eq_ofNat_of_zero_le ((smb_iff n).1 ho'.1.1).1
    have hn64 : nn ≤ 64 := by have := ((smb_iff nn).1 ho'.1.1).2; omega
    obtain ⟨N', X, rfl, hN64, hX64, rfl, hXl⟩ := mat_num hr (fun i j => M1.out.lt i j)
    have htl' : ts.length = N' := by omega
    have HMd := Lib.hid (made_app hXl hr ho htl')
    have hlen : (appR nn N' (mkM N' X) ts).length = X.length := by rw [appR_len, mkM_len]
    generalize appR nn N' (mkM N' X) ts = ls at *
    rw [mkM_len] at *
    have HAp := Lib.hid HAp
    have HO := Lib.hid ho
    have HTl := Lib.hid htl'
    have HXl := Lib.hid hXl
    have HR := Lib.hid hr
    have HLn := Lib.hid hlen
    clear he hLs hr ho ho' htl htl' hlen hXl
    go_wp2_with fail
    refine HAp.out.mono ?_
    rintro e x3 ⟨A3, c3, rfl, hc3, hm3, ht3, hb⟩
    have hXlen : ls.length = X.length := HLn.out
    rw [hXlen] at ht3 hc3
    rw [hXlen]
    have hm3' := hm3
    unfold maxLen at hm3'
    have C2 := Lib.hid (chainN B1.out B1.out.size hb)
    have HIn := Lib.hid (show BkIn x3 N' nn X ls A1 A3 X.length c1 c3 from ⟨hN64, hn64, HXl.out, rfl, hX64, HMd.out.size, SL1.out, M1.out.below hb, HR.out, ht3, hc3, hm3⟩)
    have TX := Lib.hid (T1.out.below hb)
    have Q := Lib.hid (P1.out.keep hb)
    clear hb hc3 hm3 ht3 hXlen r0 r1 f0 f1 HAp P1 M1 T1 SL1 B1
    obtain ⟨r0, r1, f0, f1⟩ := Q.out.two
    obtain ⟨Z, hZ⟩ : ∃ Z, Z = zs N' X ls := ⟨_, rfl⟩
    have HRa := Lib.hid (fun w (hb : Below x3.heap.size x3 w) => rank_yes N' hN64 X HXl.out hX64 A1 c1 0 w (HIn.out.hm.below hb) HR.out)
    have HSv := Lib.hid (fun w (hb : Below x3.heap.size x3 w) => solve_yes w (HIn.out.below hb))
    have HKn := Lib.hid (fun w (hb : Below x3.heap.size x3 w) => known_yes w (HIn.out.below hb))
    have HFi := Lib.hid (fun w (hb : Below x3.heap.size x3 w) => fits_yes w (HIn.out.below hb))
    rw [← hZ] at HSv HKn HFi
    have HF := Lib.hid (show FitsP N' Z from hZ ▸ HMd.out.lin.fits)
    have HZ := Lib.hid hZ
    clear hZ
    go_wp2_with fail
    refine (HRa.out _ (Below.refl _ _)).mono ?_
    rintro e x4 ⟨M, P, hR1, hR2, rfl, hb⟩
    have RK := Lib.hid (And.intro hR1 hR2)
    have HMl := Lib.hid (rref_len hR1 (fun r hr' => sp_lt HXl.out ((hR2 r).2 (sp_mem hr'))))
    have Q := Lib.hid (Q.out.keep hb)
    have C4 := Lib.hid hb
    clear hb r0 r1 f0 f1 hR1 hR2 HRa
    obtain ⟨r0, r1, f0, f1⟩ := Q.out.two
    go_wp2_with fail
    refine (HSv.out _ C4.out).mono ?_
    rintro e x5 ⟨E1, blks1, B1, e1, rfl, ht1, hl1, hk1, hq1, hres1, hb⟩
    have Q := Lib.hid (Q.out.keep hb)
    have C5 := Lib.hid (chain C4.out hb)
    have T1 := Lib.hid ht1
    have HR1 := Lib.hid hres1
    clear ht1 hres1 HSv C4 hb r0 r1 f0 f1
    obtain ⟨r0, r1, f0, f1⟩ := Q.out.two
    go_wp2_with fail
    refine (HKn.out _ C5.out).mono ?_
    rintro e x6 ⟨E2, cols, blks, B2, B3, e2, e3, rfl, hi2, ht2, hl2, hl3, hk3, hq3, hres2, hb⟩
    obtain ⟨rfl, hkn⟩ : E2 = 0 ∧ KnownP N' nn X Z cols blks := by
      rcases hres2 with ⟨h1, -, h3⟩ | ⟨-, h, -⟩
      · exact ⟨h1, h3⟩
      · exact absurd HF.out h
    have hbl := hkn.2.2.1
    rw [hbl] at ht2 hl3 hk3
    rw [hbl]
    have Q := Lib.hid (Q.out.keep hb)
    have C6 := Lib.hid (chain C5.out hb)
    have I2 := Lib.hid hi2
    have T2 := Lib.hid ht2
    have KN := Lib.hid hkn
    have T1 := Lib.hid (T1.out.below hb)
    unfold maxLen at hq1 hq3
    clear hi2 ht2 hres2 hkn hbl hl3 C5 hb r0 r1 f0 f1
    obtain ⟨r0, r1, f0, f1⟩ := Q.out.two
    go_wp2_with fail
    refine (HFi.out _ C6.out).mono ?_
    rintro e x7 ⟨b3, hb3, rfl, hb⟩
    obtain rfl : b3 = true := hb3.2 HF.out
    have Q := Lib.hid (Q.out.keep hb)
    have C7 := Lib.hid (chain C6.out hb)
    have T1 := Lib.hid (T1.out.below hb)
    have I2 := Lib.hid (I2.out.below hb)
    have T2 := Lib.hid (T2.out.below hb)
    clear HFi hb3 C6 hb r0 r1 f0 f1
    obtain ⟨r0, r1, f0, f1⟩ := Q.out.two
    go_wp2_with fail
    refine (alive5_any _).mono ?_
    rintro e x8 ⟨rfl, hb⟩
    have Q := Lib.hid (Q.out.keep hb)
    have C8 := Lib.hid (chain C7.out hb)
    have T1 := Lib.hid (T1.out.below hb)
    have I2 := Lib.hid (I2.out.below hb)
    have T2 := Lib.hid (T2.out.below hb)
    clear C7 hb r0 r1 f0 f1
    obtain ⟨r0, r1, f0, f1⟩ := Q.out.two
    have HFull := Lib.hid (rank_known HXl.out KN.out RK.out.1 RK.out.2)
    have TX := Lib.hid (TX.out.below C8.out)
    obtain ⟨fb, hfb⟩ : ∃ b : Bool, ((M.length : Int) == (N' : Int)) = b := ⟨_, rfl⟩
    have HFb := Lib.hid hfb
    have TXo := Lib.hid (fun (_ : Unit) => TX.out)
    go_upto_region 12 with (fail)
    go_cut [128] (fun v wx => v = .bool false ∧ Hid (Below x8.heap.size x8 wx))
    case first =>
      cases fb with
      | false =>
        have hlt : cols.length < N' := by
          have h1 := HFb.out
          simp only [beq_eq_false_iff_ne, ne_eq, Int.natCast_inj] at h1
          exact Classical.byContradiction fun h => h1 (HFull.out.2 h)
        obtain ⟨rfl, rfl⟩ : E1 = 9 ∧ blks1 = [] := by
          rcases HR1.out with ⟨-, h, -⟩ | ⟨h1, -, h2, cols', bl, h3, h4⟩ | ⟨h1, -, cols', h3, h4⟩
          · exact absurd HF.out h
          · exact ⟨h1, h2⟩
          · rw [(known_uniq HF.out h3 KN.out).1] at h4; exact absurd hlt h4
        go_wp2_with fail
        go_meet
        exact ⟨rfl, Lib.hid (Below.refl _ _)⟩
      | true =>
        have hlt : ¬ cols.length < N' := by
          have h1 := HFb.out
          simp only [beq_iff_eq, Int.natCast_inj] at h1
          exact HFull.out.1 h1
        obtain ⟨rfl, rfl⟩ : E1 = 0 ∧ blks1 = ts := by
          rcases HR1.out with ⟨-, h, -⟩ | ⟨h1, -, h2, cols', bl, h3, h4⟩ | ⟨h1, -, cols', h3, h4⟩
          · exact absurd HF.out h
          · rw [(known_uniq HF.out h3 KN.out).1] at h4; exact absurd h4 hlt
          · refine ⟨h1, ?_⟩
            rw [(known_uniq HF.out h3 KN.out).2]
            exact HMd.out.full HO.out HTl.out (HZ.out ▸ KN.out) hlt
        have HTs := Lib.hid (refTexts_same B1 S1 blks1.length e1 d1 blks1 _ T1.out TX.out (by omega))
        go_wp2_with fail
        refine HTs.out.mono ?_
        rintro e x9 ⟨rfl, hb⟩
        have HBx := Lib.hid hb
        clear hb
        go_wp2_with fail
        go_meet
        exact ⟨rfl, HBx⟩
    case rest =>
      obtain ⟨rfl, HBx⟩ := hcut
      obtain ⟨x9, hx9⟩ : ∃ x : World, x = wc := ⟨_, rfl⟩
      subst hx9
      have Q := Lib.hid (Q.out.keep HBx.out)
      have C9 := Lib.hid (chain C8.out HBx.out)
      have I2 := Lib.hid (I2.out.below HBx.out)
      have T2 := Lib.hid (T2.out.below HBx.out)
      have TX := Lib.hid (TX.out.below HBx.out)
      clear HBx C8 T1 HR1 HFull HFb hfb r0 r1 f0 f1 TXo
      go_wp2_with fail
      go_loopw [131] (fun t wr => ∃ k : Nat, k ≤ cols.length ∧ t = .int .i64 (k : Int) ∧ Hid (Below x9.heap.size x9 wr)) (fun t _ => cols.length - (intOf t).toNat)
      case atStart => exact ⟨0, Nat.zero_le _, rfl, Lib.hid (Below.refl _ _)⟩
      case round =>
        obtain ⟨k, hk, rfl, HBk⟩ := hrel
        obtain ⟨x10, hx10⟩ : ∃ x : World, x = wr := ⟨_, rfl⟩
        subst hx10
        by_cases hlt : k < cols.length
        · have hlt' : (k : Int) < (cols.length : Int) := by omega
          obtain ⟨b, o, hB2, hbl, hci⟩ := (I2.out.below HBk.out).2.2 (by omega)
          obtain ⟨b', o', hB3, hbl', hct⟩ := (T2.out.below HBk.out).2.2 (by omega)
          subst hB2 hB3
          obtain ⟨hcN, hce⟩ := HMd.out.told HO.out HTl.out (HZ.out ▸ KN.out) k hlt
          have hcl : cols.getD k 0 < ts.length := by rw [HTl.out]; exact hcN
          obtain ⟨b'', o'', hS1, hbl'', hcx⟩ := (TX.out.below HBk.out).2.2 (by omega)
          subst hS1
          have g1 := hci k hlt
          have g2 := hct k hlt
          have g3 := hcx _ hcl
          rw [hce] at g2
          have hcg : (cols.map fun x : Nat => (x : Int)).getD k 0 = ((cols.getD k 0 : Nat) : Int) := by simp [List.getD, hlt]
          rw [hcg] at g1
          have hprev : 0 < k → ∃ c0 k1 : Nat, (k : Int) - 1 = (k1 : Int) ∧ x10.cell? ⟨b, o + k1, none⟩ = some (.int .i64 (c0 : Int)) ∧ c0 < cols.getD k 0 ∧ k1 < cols.length := fun h0 => by
            refine ⟨cols.getD (k - 1) 0, k - 1, by omega, ?_, ?_, by omega⟩
            · have := hci (k - 1) (by omega)
              rw [this]; simp [List.getD, show k - 1 < cols.length by omega]
            · have := rising_at KN.out.1 (k - 1) (by omega)
              rwa [show k - 1 + 1 = k by omega] at this
          have HPr := Lib.hid hprev
          have hcb := cols64 KN.out hlt
          generalize cols.getD k 0 = cv at *
          generalize ts.getD cv ByteArray.empty = tv at *
          have hcl2 : (cv : Int) < (ts.length : Int) := by omega
          clear hci hct hcx hprev hcg hce hcN
          go_wp2_with fail
          go_cut [167] (fun v wx => v = .bool false ∧ Hid (Below x10.heap.size x10 wx))
          case first =>
            by_cases h0 : 0 < k
            · have h0' : (0 : Int) < (k : Int) := by omega
              obtain ⟨c0, k1, hk1, g4, hc0c, hk1l⟩ := HPr.out h0
              have hc0' : ¬ (cv : Int) ≤ (c0 : Int) := by omega
              have hk1l' : (k1 : Int) < (cols.length : Int) := by omega
              have hc0 : ¬ (cv : Int) < 0 := by omega
              have hcl' : ¬ (ts.length : Int) ≤ (cv : Int) := by omega
              go_quiet (fail)
              go_wp2_with fail
              go_meet
              exact ⟨rfl, Lib.hid ⟨rfl, rfl, rfl, Nat.le_refl _, fun _ _ => rfl⟩⟩
            · have h0' : ¬ (0 : Int) < (k : Int) := by omega
              have hc0 : ¬ (cv : Int) < 0 := by omega
              have hcl' : ¬ (ts.length : Int) ≤ (cv : Int) := by omega
              go_quiet (fail)
              go_wp2_with fail
              go_meet
              exact ⟨rfl, Lib.hid ⟨rfl, rfl, rfl, Nat.le_refl _, fun _ _ => rfl⟩⟩
          case rest =>
            obtain ⟨rfl, HBx⟩ := hcut
            go_wp2_with fail
            go_roundw
            case rel => exact ⟨k + 1, by omega, by go_num, Lib.hid (HBk.out.trans (HBx.out.mono HBk.out.size))⟩
            case measure => simp [intOf] <;> omega
        · have hlt' : ¬ (k : Int) < (cols.length : Int) := by omega
          have Q := Lib.hid (Q.out.keep HBk.out)
          have C9 := Lib.hid (chain C9.out HBk.out)
          have TX := Lib.hid (TX.out.below HBk.out)
          go_upto_region 20 with (fail)
          go_cut [3] (fun v wx => ∃ kk : Nat, kk ≤ X.length ∧ v = .int .i64 (kk : Int) ∧ Hid (Below x10.heap.size x10 wx))
          case first =>
            have k0 : (0 : Int) < (X.length : Int) + 1 := by omega
            have k1 : ¬ (X.length : Int) + 1 = 0 := by omega
            have k2 : (X.length : Int) + 1 ≤ 65 := by omega
            have g1 : -((X.length : Int) + 1) < many.tmod ((X.length : Int) + 1) := Int.lt_tmod_of_pos many k0
            have g2 : many.tmod ((X.length : Int) + 1) < (X.length : Int) + 1 := Int.tmod_lt_of_pos many k0
            go_wp2_with fail
            go_meet
            have p1 := Int.emod_nonneg (many.tmod ((X.length : Int) + 1) + (X.length : Int) + 1) k1
            have p2 := Int.emod_lt_of_pos (many.tmod ((X.length : Int) + 1) + (X.length : Int) + 1) k0
            exact ⟨((many.tmod ((X.length : Int) + 1) + (X.length : Int) + 1) % ((X.length : Int) + 1)).toNat, by omega, by rw [Int.toNat_of_nonneg p1], Lib.hid (Below.refl _ _)⟩
          case rest =>
            obtain ⟨kk, hkk, rfl, HBx⟩ := hcut
            obtain ⟨x11, hx11⟩ : ∃ x : World, x = wc := ⟨_, rfl⟩
            subst hx11
            have Q := Lib.hid (Q.out.keep HBx.out)
            have C9 := Lib.hid (chain C9.out HBx.out)
            have TX := Lib.hid (TX.out.below HBx.out)
            clear HBx HBk I2 T2
            clear hy1 hy2
            obtain ⟨r0, r1, -, -⟩ := Q.out.two
            have hc1k : kk ≤ c1 := by omega
            have hc3k : kk ≤ c3 := by have := HIn.out.hmd; omega
            have hc1k' : (kk : Int) ≤ (c1 : Int) := by omega
            have hc3k' : (kk : Int) ≤ (c3 : Int) := by omega
            have hXk : (X.take kk).length = kk := by rw [List.length_take]; omega
            have HPre := Lib.hid (fun w (hb : Below x11.heap.size x11 w) => (show BkIn w N' nn (X.take kk) (ls.take kk) A1 A3 kk c1 c3 from ⟨hN64, hn64, fun r hr => HXl.out r (List.mem_of_mem_take hr), hXk, by omega, (HMd.out.take kk).size, ⟨hc1k, HIn.out.hsl.2.1, fun h => by have := HIn.out.hsl.2.2 h; omega⟩, mkM_tk N' X kk ▸ (HIn.out.hm.below (chain C9.out hb)).take kk hkk, right_mk N' hN64 _ (by omega) fun r hr => HXl.out r (List.mem_of_mem_take hr), (HIn.out.ht.below (chain C9.out hb)).take kk hkk, hc3k, HIn.out.hd⟩))
            have HKp := Lib.hid (fun w (hb : Below x11.heap.size x11 w) => known_yes w (HPre.out w hb))
            have HFp := Lib.hid ((HMd.out.take kk).lin.fits)
            obtain ⟨Z2, hZ2⟩ : ∃ Z2, Z2 = zs N' (X.take kk) (ls.take kk) := ⟨_, rfl⟩
            rw [← hZ2] at HKp HFp
            have HZ2 := Lib.hid hZ2
            have HDr := Lib.hid (show Below x11.heap.size x11 x11.drew from ⟨rfl, rfl, rfl, Nat.le_refl _, fun _ _ => rfl⟩)
            clear hZ2 hXk
            go_upto_region 21 with (fail)
            go_cut [23, 24, 25] (fun a b e wx => ∃ (cols3 : List Nat) (blks3 : List ByteArray) (D1 D2 : Option Addr) (d3 d4 : Nat), a = .slice D1 cols3.length d3 ∧ b = .slice D2 cols3.length d4 ∧ e = .int .i64 0 ∧ Hid (Ints wx D1 cols3.length (cols3.map fun x : Nat => (x : Int))) ∧ Hid (Texts wx D2 cols3.length blks3) ∧ cols3.length ≤ 64 ∧ Hid (KnownP N' nn (X.take kk) Z2 cols3 blks3) ∧ Hid (Below x11.heap.size x11 wx))
            case first =>
              have QD := Lib.hid (Q.out.keep HDr.out)
              go_region_held3 (fun w' => w'.cell? ⟨W.heap.size, 0, none⟩ = some (.int .i64 (N' : Int)) ∧ w'.cell? ⟨W.heap.size, 1, none⟩ = some (.slice A1 X.length c1)) (go_keep) (first | (go_at_call 19; refine (HKp.out _ HDr.out).mono ?_; rintro e y ⟨E3, cols3, blks3, D1, D2, d3, d4, rfl, hi3, ht3, hl4, hl5, hk4, hq4, hres3, hb⟩; obtain ⟨rfl, hkn3⟩ := knres_ok HFp.out hres3; have hbl3 := hkn3.2.2.1; rw [hbl3] at ht3 hl5 hk4; rw [hbl3]; have I3 := Lib.hid hi3; have T3 := Lib.hid ht3; have K3 := Lib.hid hkn3; have HBy := Lib.hid (HDr.out.trans (hb.mono HDr.out.size)); have Q5 := Lib.hid (QD.out.keep hb); clear hi3 ht3 hres3 hkn3 hbl3 hb; obtain ⟨g0, g1, -, -⟩ := Q5.out.two))
              all_goals
                go_wp2_with fail
                go_meet
                exact ⟨cols3, blks3, D1, D2, d3, d4, rfl, rfl, rfl, I3, T3, hl4, K3, HBy⟩
            case rest =>
              obtain ⟨cols3, blks3, D1, D2, d3, d4, rfl, rfl, rfl, I3, T3, hl4, K3, HBx⟩ := hcut
              obtain ⟨x12, hx12⟩ : ∃ x : World, x = wc := ⟨_, rfl⟩
              subst hx12
              have hless : ¬ (cols.length : Int) < (cols3.length : Int) := by have := known_less KN.out K3.out; omega
              have C9 := Lib.hid (chain C9.out HBx.out)
              have TX := Lib.hid (TX.out.below HBx.out)
              clear HBx HKp HPre HDr r0 r1 Q
              go_wp2_with fail
              go_loopw [209] (fun t wr => ∃ k : Nat, k ≤ cols3.length ∧ t = .int .i64 (k : Int) ∧ Hid (Below x12.heap.size x12 wr)) (fun t _ => cols3.length - (intOf t).toNat)
              case atStart => exact ⟨0, Nat.zero_le _, rfl, Lib.hid (Below.refl _ _)⟩
              case round =>
                obtain ⟨k, hk, rfl, HBk⟩ := hrel
                obtain ⟨x13, hx13⟩ : ∃ x : World, x = wr := ⟨_, rfl⟩
                subst hx13
                by_cases hlt : k < cols3.length
                · have hlt' : (k : Int) < (cols3.length : Int) := by omega
                  obtain ⟨b, o, hB2, hbl, hci⟩ := (I3.out.below HBk.out).2.2 (by omega)
                  obtain ⟨b', o', hB3, hbl', hct⟩ := (T3.out.below HBk.out).2.2 (by omega)
                  subst hB2 hB3
                  obtain ⟨hcN, hce⟩ := (HMd.out.take kk).told HO.out HTl.out (HZ2.out ▸ K3.out) k hlt
                  have hcl : cols3.getD k 0 < ts.length := by rw [HTl.out]; exact hcN
                  obtain ⟨b'', o'', hS1, hbl'', hcx⟩ := (TX.out.below HBk.out).2.2 (by omega)
                  subst hS1
                  have g1 := hci k hlt
                  have g2 := hct k hlt
                  have g3 := hcx _ hcl
                  rw [hce] at g2
                  have hcg : (cols3.map fun x : Nat => (x : Int)).getD k 0 = ((cols3.getD k 0 : Nat) : Int) := by simp [List.getD, hlt]
                  rw [hcg] at g1
                  have hcb := cols64 K3.out hlt
                  generalize cols3.getD k 0 = cv at *
                  generalize ts.getD cv ByteArray.empty = tv at *
                  have hcl2 : (cv : Int) < (ts.length : Int) := by omega
                  clear hci hct hcx hcg hce hcN
                  go_wp2_with fail
                  go_cut [232] (fun v wx => v = .bool false ∧ Hid (Below x13.heap.size x13 wx))
                  case first =>
                    have hc0 : ¬ (cv : Int) < 0 := by omega
                    have hcl' : ¬ (ts.length : Int) ≤ (cv : Int) := by omega
                    go_quiet (fail)
                    go_wp2_with fail
                    go_meet
                    exact ⟨rfl, Lib.hid ⟨rfl, rfl, rfl, Nat.le_refl _, fun _ _ => rfl⟩⟩
                  case rest =>
                    obtain ⟨rfl, HBx⟩ := hcut
                    go_wp2_with fail
                    go_roundw
                    case rel => exact ⟨k + 1, by omega, by go_num, Lib.hid (HBk.out.trans (HBx.out.mono HBk.out.size))⟩
                    case measure => simp [intOf] <;> omega
                · have hlt' : ¬ (k : Int) < (cols3.length : Int) := by omega
                  have C9 := Lib.hid (chain C9.out HBk.out)
                  have HFin := Lib.hid (chain C2.out C9.out)
                  go_wp2_with fail
                  go_ret
                  exact ⟨rfl, HFin.out⟩
  · have he : ¬ appE n N fs ts = 0 := by
      intro h
      apply hE
      rw [appE] at h
      split at h
      · split at h
        · split at h
          · simp [appB, *]
          · cases h
        · cases h
      · cases h
    have hLs : appL n N fs ts = [] := by rw [appL, if_neg hE]
    rw [hLs] at HAp
    obtain ⟨E, hEe⟩ : ∃ E, E = appE n N fs ts := ⟨_, rfl⟩
    rw [← hEe] at HAp he
    have tE : (E != 0) = true := by simpa using he
    have HAp := Lib.hid HAp
    clear hE he hLs hEe
    go_wp2_with fail
    refine HAp.out.mono ?_
    rintro e x3 ⟨A3, c3, rfl, -, -, -, hb⟩
    have C3 := Lib.hid (chainN B1.out B1.out.size hb)
    clear hb
    go_wp2_with fail
    refine (alive5_any _).mono ?_
    rintro e x4 ⟨rfl, hb⟩
    have HBf := Lib.hid (chain C3.out hb)
    clear hb
    go_wp2_with fail
    go_ret
    exact ⟨by simp, HBf.out⟩
end
section
/- One of the equations that blocks make has another block: they can be so just if its row is not spanned by the others. No program. -/
set_option linter.unusedVariables false
set_option linter.unusedSimpArgs false
open Go.RowKit Go.Lib
theorem zs_len {N : Nat} {X : List Nat} {ls : List ByteArray} (h : ls.length = X.length) : (zs N X ls).length = X.length := by simp [zs, pairs, h]
theorem zs_at {N : Nat} {X : List Nat} {ls : List ByteArray} (h : ls.length = X.length) (i : Nat) (hi : i < (zs N X ls).length) : (zs N X ls)[i] = zOf N (X.getD i 0, ls.getD i ByteArray.empty) := by
  have h1 : i < X.length := by rw [zs_len h] at hi; exact hi
  simp [zs, pairs, List.getD, h1, show i < ls.length by omega]
theorem wrong_fits {N n a : Nat} {X : List Nat} {ts ls : List ByteArray} {s : ByteArray} (hX : ∀ r ∈ X, r < 2 ^ N) (h : Made N n X ts ls) (hl : ls.length = X.length) (ha : a < X.length) (hs : s.size = n) (hne : s ≠ ls.getD a ByteArray.empty) :
    FitsP N (zs N X (ls.set a s)) ↔ ¬ Sp (X.eraseIdx a) (X.getD a 0) := by
  have hl' : (ls.set a s).length = X.length := by simp [hl]
  have good : ∀ i, i < X.length → GoodP N n (X.getD i 0, ls.getD i ByteArray.empty) := fun i hi => ⟨lt_all hX i, h.size _ (by simp [List.getD, show i < ls.length by omega])⟩
  have good' : GoodP N n (X.getD a 0, s) := ⟨lt_all hX a, hs⟩
  obtain ⟨ZO, hZO⟩ : ∃ Z, Z = (zs N X ls).eraseIdx a := ⟨_, rfl⟩
  have at_other : ∀ i, i < X.length → i ≠ a → zOf N (X.getD i 0, ls.getD i ByteArray.empty) ∈ zs N X (ls.set a s) := fun i hi hia => by
    have e := zs_at hl' i (by rw [zs_len hl']; exact hi) (N := N)
    have e2 : (ls.set a s).getD i ByteArray.empty = ls.getD i ByteArray.empty := by simp [List.getD, List.getElem?_set, Ne.symm hia]
    rw [e2] at e
    rw [← e]; exact List.getElem_mem _
  have own : zOf N (X.getD a 0, s) ∈ zs N X (ls.set a s) := by
    have e := zs_at hl' a (by rw [zs_len hl']; exact ha) (N := N)
    have e2 : (ls.set a s).getD a ByteArray.empty = s := by simp [List.getD, List.getElem?_set, show a < ls.length by omega]
    rw [e2] at e
    rw [← e]; exact List.getElem_mem _
  have memO : ∀ z, z ∈ ZO ↔ ∃ i, i < X.length ∧ i ≠ a ∧ z = zOf N (X.getD i 0, ls.getD i ByteArray.empty) := fun z => by
    rw [hZO, List.mem_eraseIdx_iff_getElem]
    constructor
    · rintro ⟨i, hi, hia, rfl⟩
      exact ⟨i, by rw [zs_len hl] at hi; exact hi, hia, zs_at hl i hi⟩
    · rintro ⟨i, hi, hia, rfl⟩
      exact ⟨i, by rw [zs_len hl]; exact hi, hia, zs_at hl i _⟩
  have memX : ∀ x, x ∈ X.eraseIdx a ↔ ∃ i, i < X.length ∧ i ≠ a ∧ x = X.getD i 0 := fun x => by
    rw [List.mem_eraseIdx_iff_getElem]
    constructor
    · rintro ⟨i, hi, hia, rfl⟩; exact ⟨i, hi, hia, by simp [List.getD, hi]⟩
    · rintro ⟨i, hi, hia, rfl⟩; exact ⟨i, hi, hia, by simp [List.getD, hi]⟩
  have linO : Lin N (fun j => bn (ts.getD j ByteArray.empty).data.toList) ZO := fun z hz => h.lin z (by rw [hZO] at hz; exact List.mem_of_mem_eraseIdx hz)
  have down : ∀ v, Sp ZO v → Sp (X.eraseIdx a) (lowN N v) := fun v hv => by
    refine sp_ind (P := fun v => Sp (X.eraseIdx a) (lowN N v)) (by rw [lowN_zero]; exact sp_zero _) ?_ hv
    intro r u hr hu
    obtain ⟨i, hi, hia, rfl⟩ := (memO r).1 hr
    rw [lowN_xor, z_low (good i hi)]
    exact sp_xor (sp_mem ((memX _).2 ⟨i, hi, hia, rfl⟩)) hu
  have up : ∀ x, Sp (X.eraseIdx a) x → ∃ v, Sp ZO v ∧ lowN N v = x := fun x hx => by
    refine sp_ind (P := fun x => ∃ v, Sp ZO v ∧ lowN N v = x) ⟨0, sp_zero _, lowN_zero _⟩ ?_ hx
    rintro r u hr ⟨v, hv, rfl⟩
    obtain ⟨i, hi, hia, rfl⟩ := (memX r).1 hr
    exact ⟨_, sp_xor (sp_mem ((memO _).2 ⟨i, hi, hia, rfl⟩)) hv, by rw [lowN_xor, z_low (good i hi)]⟩
  have into : ∀ v, Sp ZO v → Sp (zs N X (ls.set a s)) v := fun v hv => sp_sub (fun r hr => by
    obtain ⟨i, hi, hia, rfl⟩ := (memO r).1 hr
    exact sp_mem (at_other i hi hia)) hv
  constructor
  · intro hf hsp
    obtain ⟨v, hv, hlow⟩ := up _ hsp
    have e0 := hf _ (sp_xor (into v hv) (sp_mem own)) (by rw [lowN_xor, hlow, z_low good', Nat.xor_self])
    have e1 : v = zOf N (X.getD a 0, s) := by
      have := congrArg (fun t => t ^^^ zOf N (X.getD a 0, s)) e0
      simp only [xor_back, Nat.zero_xor] at this
      exact this
    have e2 := linO.sp hv
    have e3 := h.lin (zOf N (X.getD a 0, ls.getD a ByteArray.empty)) (by
      have := zs_at hl a (by rw [zs_len hl]; exact ha) (N := N)
      rw [← this]; exact List.getElem_mem _)
    rw [z_low (good a ha), z_high (good a ha)] at e3
    rw [hlow] at e2
    rw [← e3, e1, z_high good'] at e2
    refine hne ?_
    have := bn_inj _ _ (by rw [size_list, size_list, hs, (good a ha).2]) e2
    rw [← back_list s, ← back_list (ls.getD a ByteArray.empty), this]
  · intro hsp v hv hlow
    have hv' : Sp (ZO ++ [zOf N (X.getD a 0, s)]) v := sp_sub (fun r hr => by
      obtain ⟨i, hi, rfl⟩ := List.getElem_of_mem hr
      rw [zs_at hl' i hi]
      rw [zs_len hl'] at hi
      by_cases hia : i = a
      · subst hia
        have e2 : (ls.set i s).getD i ByteArray.empty = s := by simp [List.getD, List.getElem?_set, show i < ls.length by omega]
        rw [e2]
        exact sp_right (sp_mem (by simp))
      · have e2 : (ls.set a s).getD i ByteArray.empty = ls.getD i ByteArray.empty := by simp [List.getD, List.getElem?_set, Ne.symm hia]
        rw [e2]
        exact sp_left (sp_mem ((memO _).2 ⟨i, hi, hia, rfl⟩))) hv
    obtain ⟨p, u, hp, hu, rfl⟩ := sp_app hv'
    have hu' : u = 0 ∨ u = zOf N (X.getD a 0, s) := sp_ind (P := fun u => u = 0 ∨ u = zOf N (X.getD a 0, s)) (.inl rfl) (fun r t hr ht => by
      obtain rfl := List.mem_singleton.1 hr
      rcases ht with rfl | rfl
      · right; simp
      · left; simp) hu
    rcases hu' with rfl | rfl
    · rw [Nat.xor_zero] at hlow ⊢
      exact linO.fits _ hp hlow
    · refine absurd ?_ hsp
      rw [lowN_xor, z_low good'] at hlow
      have : lowN N p = X.getD a 0 := by
        have := congrArg (fun t => t ^^^ X.getD a 0) hlow
        simp only [xor_back, Nat.zero_xor] at this
        exact this
      rw [← this]; exact down p hp
/-- A text whose last byte is another one. -/
def lastL (s : ByteArray) (b : Nat) : List UInt8 := s.data.toList.set (s.size - 1) (UInt8.ofNat ((s.data.toList.getD (s.size - 1) 0).toNat ^^^ (b ||| 1)))
def lastX (s : ByteArray) (b : Nat) : ByteArray := ⟨(lastL s b).toArray⟩
theorem lastL_len (s : ByteArray) (b : Nat) : (lastL s b).length = s.size := by simp [lastL]
theorem lastX_size (s : ByteArray) (b : Nat) : (lastX s b).size = s.size := by
  show (lastL s b).toArray.size = _
  rw [List.size_toArray, lastL_len]
theorem xor_or_lt {v b : Nat} (hv : v < 256) (hb : b < 256) : v ^^^ (b ||| 1) < 256 := Nat.xor_lt_two_pow (n := 8) hv (Nat.or_lt_two_pow (n := 8) hb (by decide))
theorem lastX_ne {s : ByteArray} {b : Nat} (hs : 0 < s.size) (hb : b < 256) : lastX s b ≠ s := by
  intro h
  have hl : s.data.toList.length = s.size := size_list s
  have h2 : lastL s b = s.data.toList := by
    have := congrArg (fun t : ByteArray => t.data.toList) h
    simpa [lastX] using this
  have h3 := congrArg (fun L => L.getD (s.size - 1) 0) h2
  have hlt : s.size - 1 < s.data.toList.length := by omega
  have h4 : (lastL s b).getD (s.size - 1) 0 = UInt8.ofNat ((s.data.toList.getD (s.size - 1) 0).toNat ^^^ (b ||| 1)) := by
    simp only [lastL, List.getD]
    rw [List.getElem?_set_self hlt]; rfl
  replace h3 : (lastL s b).getD (s.size - 1) 0 = s.data.toList.getD (s.size - 1) 0 := h3
  rw [h4] at h3
  generalize s.data.toList.getD (s.size - 1) 0 = v at h3
  have h5 := congrArg UInt8.toNat h3
  have hv := v.toNat_lt
  rw [UInt8.toNat_ofNat_of_lt' (by exact xor_or_lt hv hb)] at h5
  have h6 : b ||| 1 = 0 := by
    have := congrArg (fun t => v.toNat ^^^ t) h5
    simp only [← Nat.xor_assoc, Nat.xor_self, Nat.zero_xor] at this
    exact this
  have h7 := congrArg (fun t => t.testBit 0) h6
  simp at h7
/-- Bytes in memory. -/
def BytesIn (w : World) (g : Nat) (l : List UInt8) : Prop := ∀ j, j < l.length → w.cell? ⟨g, j, none⟩ = some (.int .u8 ((l.getD j 0).toNat : Int)) ∧ w.frozen? ⟨g, j, none⟩ = false
theorem bytesIn_new (w : World) (s : ByteArray) (e : TypeId) (cap : Nat) : BytesIn (w.drew.alloc (.cells (bytesRow s cap) e ((bytesRow s cap).size, (bytesRow s cap).size + 1))) w.heap.size s.data.toList := by
  intro j hj
  have hj' : j < s.data.size := by simpa using hj
  refine ⟨?_, ?_⟩
  · show (World.alloc w.drew _).cell? ⟨w.drew.heap.size, j, none⟩ = _
    rw [World.cell?_alloc_mark, bytesRow_at s cap j hj']
    simp [List.getD, hj', Array.getElem?_eq_getElem hj']
  · show (World.alloc w.drew _).frozen? ⟨w.drew.heap.size, j, none⟩ = _
    rw [World.frozen?_alloc_mark]
    have : (bytesRow s cap).size ≥ s.data.size := by simp [bytesRow]
    have h2 : ¬ (bytesRow s cap).size ≤ j := by omega
    simp [h2]
theorem bytesIn_set {w : World} {g : Nat} {l : List UInt8} (h : BytesIn w g l) (i : Nat) (hi : i < l.length) (u : UInt8) : BytesIn (w.setCell ⟨g, i, none⟩ (.int .u8 (u.toNat : Int))) g (l.set i u) := by
  intro j hj
  have hj' : j < l.length := by simpa using hj
  obtain ⟨h1, h2⟩ := h j hj'
  refine ⟨?_, ?_⟩
  · by_cases e : i = j
    · subst e
      rw [World.cell?_setCell_same' _ _ _ (by rw [h1]; rfl)]
      simp [List.getD, hi]
    · rw [World.cell?_setCell_other _ _ _ _ (by intro h; injection h; omega), h1]
      simp [List.getD, List.getElem?_set, e]
  · rw [World.frozen?_setCell]; exact h2
theorem flip_last (v : UInt8) (b : Nat) (hb : b < 256) : bits BinOp.xor IntKind.u8 (v.toNat : Int) (bits BinOp.or IntKind.u8 (b : Int) 1) = ((UInt8.ofNat (v.toNat ^^^ (b ||| 1))).toNat : Int) := by
  have hv := v.toNat_lt
  have e : bits BinOp.or IntKind.u8 (b : Int) 1 = ((b ||| 1 : Nat) : Int) := u8_or_nat b 1 hb (by decide)
  rw [e, u8_xor_nat _ _ (by omega) (Nat.or_lt_two_pow (n := 8) hb (by decide)), UInt8.toNat_ofNat_of_lt' (by exact xor_or_lt hv hb)]
theorem bytes_back {w : World} {g n c : Nat} {l : List UInt8} (h : BytesIn w g l) (hn : l.length = n) :
    (convert 54 9 (.slice (some ⟨g, 0, none⟩) n c)).run Tryd.prog w = .ok (.string ⟨l.toArray⟩) w := by
  subst hn
  refine run_convert_bytes_back (P := Tryd.prog) w 54 9 5 ⟨g, 0, none⟩ _ l Tryd.underlying54 Tryd.underlying5 Tryd.underlying9 ?_
  intro j hj
  have hadd : Addr.add { block := g, off := 0 } j = ⟨g, j, none⟩ := by
    by_cases h : j = 0 <;> simp [Addr.add, h]
  rw [hadd, (h j hj).1]
  simp [List.getD, hj]
theorem addr_addW (b o j : Nat) : (⟨b, o, none⟩ : Addr).add j = ⟨b, o + j, none⟩ := by unfold Addr.add; split <;> simp_all
theorem rowCells_app (a b : List RowV) : rowCells (a ++ b) = rowCells a ++ rowCells b := by simp [rowCells]
theorem rowCells_tk (rs : List RowV) (k j : Nat) (u : Value) (h : (rowCells (rs.take k))[j]? = some u) : (rowCells rs)[j]? = some u := by
  have e : rowCells rs = rowCells (rs.take k) ++ rowCells (rs.drop k) := by rw [← rowCells_app, List.take_append_drop]
  have hlt : j < (rowCells (rs.take k)).length := (List.getElem?_eq_some_iff.1 h).1
  rw [e, List.getElem?_append_left hlt, h]
theorem rowCells_dp (rs : List RowV) (k j : Nat) (u : Value) (hk : k ≤ rs.length) (h : (rowCells (rs.drop k))[j]? = some u) : (rowCells rs)[k * 2 + j]? = some u := by
  have e : rowCells rs = rowCells (rs.take k) ++ rowCells (rs.drop k) := by rw [← rowCells_app, List.take_append_drop]
  have hl : (rowCells (rs.take k)).length = k * 2 := by rw [rowCells_len, List.length_take]; omega
  rw [e, List.getElem?_append_right (by omega), hl, show k * 2 + j - k * 2 = j by omega, h]
/-- The rows but one, appended onto a row of the call's own. -/
theorem own_erase {w : World} {base N aa : Nat} {v : Value} {X : List Nat} {rs : List RowV} (h : w.ownsRow base 27 2 v (0 + aa + (X.length - (aa + 1))) (([] ++ rowCells (rs.take aa)) ++ rowCells (rs.drop (aa + 1)))) (hrs : rs.length = X.length) (haa : aa < X.length)
    (hf : ∀ j, j < X.length → (rs.getD j (0, none, 0, 0)).1 = ((mkM N X).getD j (0, [])).1 ∧ SliceOk (rs.getD j (0, none, 0, 0)).2.1 (rs.getD j (0, none, 0, 0)).2.2.1 (rs.getD j (0, none, 0, 0)).2.2.2 ∧ Words w (rs.getD j (0, none, 0, 0)).2.1 (rs.getD j (0, none, 0, 0)).2.2.1 ((mkM N X).getD j (0, [])).2) :
    ∃ A c, v = .slice A (X.eraseIdx aa).length c ∧ MatAt w 0 A (X.eraseIdx aa).length (mkM N (X.eraseIdx aa)) := by
  have hl : (X.eraseIdx aa).length = X.length - 1 := by rw [List.length_eraseIdx, if_pos haa]
  have e : ([] ++ rowCells (rs.take aa)) ++ rowCells (rs.drop (aa + 1)) = rowCells (rs.eraseIdx aa) := by
    rw [List.nil_append, ← rowCells_app, ← List.eraseIdx_eq_take_drop_succ]
  rw [e, show 0 + aa + (X.length - (aa + 1)) = X.length - 1 by omega] at h
  have hr : (rs.eraseIdx aa).length = X.length - 1 := by rw [List.length_eraseIdx, if_pos (by omega), hrs]
  obtain ⟨A, c, hv, -, hm⟩ := own_mat h hr (mkM N (X.eraseIdx aa)) (by rw [mkM_len, hl]) fun j hj => by
    have e1 : (rs.eraseIdx aa).getD j (0, none, 0, 0) = rs.getD (if j < aa then j else j + 1) (0, none, 0, 0) := by
      simp only [List.getD, List.getElem?_eraseIdx]
      split <;> rfl
    have e2 : (mkM N (X.eraseIdx aa)).getD j (0, []) = (mkM N X).getD (if j < aa then j else j + 1) (0, []) := by
      rw [mkM_at _ _ _ (by omega), mkM_at _ _ _ (by split <;> omega)]
      congr 1
      simp only [List.getD, List.getElem?_eraseIdx]
      split <;> rfl
    rw [e1, e2]
    exact hf _ (by split <;> omega)
  exact ⟨A, c, by rw [hv, hl], by rw [hl]; exact hm.low (Nat.zero_le _)⟩
end
section
/- Apply, whose blocks are a row of the call's own. -/

set_option linter.unusedVariables false
set_option linter.unusedSimpArgs false
open Go.RowKit
set_option maxRecDepth 100000
/-- What Apply hands back, and where it lies. -/
def AppBox (ls : List ByteArray) (er : Int) (w : World) (e : Ending) (w' : World) : Prop :=
  ∃ A c, e = .returned (.tuple #[.slice A ls.length c, .int .i64 er]) ∧ ls.length ≤ c ∧ c ≤ maxLen ∧ Texts w' A ls.length ls ∧ Below w.heap.size w w' ∧ (er = 0 → ∃ g, A = some ⟨g, 0, none⟩ ∧ c = ls.length ∧ w.heap.size ≤ g ∧ Box w' g 9 (strCells ls))
set_option maxHeartbeats 4000000 in
theorem apply_box (n N : Int) (A : Option Addr) (l c lo : Nat) (ms : List (Int × List Nat)) (L : Option Addr) (k d : Nat) (ss : List ByteArray) (w : World) (hm : MatAt w lo A l ms) (hl : l ≤ maxLen) (ht : Texts w L k ss) (hkd : k ≤ d) (hd : d ≤ maxLen) (hT : TabAt w 0) :
    Calls Tryd.prog 16 #[.agg #[.int .i64 N, .slice A l c], .int .i64 n, .slice L k d] w (AppBox (appL n N ms ss) (appE n N ms ss) w) := by
  have Q0 := Lib.hid (Box.new w 24 #[.int .i64 N, .slice A l c])
  have HW := Lib.hid (show Below w.heap.size w (w.alloc (.cells #[.int .i64 N, .slice A l c] 24)) from (Below.refl _ _).alloc (Nat.le_refl _) _)
  have HM := Lib.hid hm
  have HTx := Lib.hid ht
  have HT := Lib.hid hT
  have HL := Lib.hid hm.1
  have HK := Lib.hid ht.1
  have HR := Lib.hid (mright_any N A l c lo ms _ (hm.below HW.out) hl)
  clear hm ht hT
  obtain ⟨r0, r1, -, -⟩ := Q0.out.two
  cases h : rightM N ms with
  | false =>
    have e2 : appL n N ms ss = [] := by simp [appL, appB, h]
    have e3 : appE n N ms ss = 1 := by simp [appE, h]
    rw [e2, e3]
    rw [h] at HR
    clear e2 e3 h
    go_enter Tryd.func16, Tryd.ntmps16
    go_wp2_with fail
    refine HR.out.mono ?_
    rintro e w1 ⟨rfl, hb⟩
    have B := Lib.hid (chainN HW.out HW.out.size hb)
    clear hb r0 r1
    go_wp2
    go_ret2
    exact ⟨none, 0, rfl, Nat.le_refl _, Nat.zero_le _, Texts.nil _ _, B.out, fun h => absurd h (by decide)⟩
  | true =>
    have HR1 := Lib.hid h
    rw [h] at HR
    have HSum := Lib.hid (fun W (hW : Below w.heap.size w W) => sum_any n L k d ss W (HTx.out.mono (Nat.le_refl _) hW) hkd hd)
    cases h2 : okS n ss with
    | false =>
      have e2 : appL n N ms ss = [] := by simp [appL, appB, h2]
      have e3 : appE n N ms ss = 2 := by simp [appE, h, h2]
      have e4 := Lib.hid (sumE_no h2)
      rw [e2, e3]
      clear e2 e3 h h2
      go_enter Tryd.func16, Tryd.ntmps16
      go_wp2_with fail
      refine HR.out.mono ?_
      rintro e w1 ⟨rfl, hb⟩
      have B := Lib.hid (chainN HW.out HW.out.size hb)
      clear hb r0 r1
      go_wp2_with fail
      refine (HSum.out _ B.out).mono ?_
      rw [e4.out]
      rintro e w2 ⟨rfl, hb⟩
      have B := Lib.hid (chainN B.out B.out.size hb)
      clear hb
      go_wp2
      go_ret2
      exact ⟨none, 0, rfl, Nat.le_refl _, Nat.zero_le _, Texts.nil _ _, B.out, fun h => absurd h (by decide)⟩
    | true =>
      have e4 := Lib.hid (sumE_ok h2)
      have hbd := rightM_bd h
      have hl64 := hbd.2.2
      rw [HL.out] at hl64
      unfold maxLen at hd
      by_cases hN : (k : Int) = N
      · have e1 : appB n N ms ss = true := by simp [appB, h, h2, HK.out, hN]
        have e2 : appL n N ms ss = appR n N ms ss := by simp [appL, e1]
        have e3 : appE n N ms ss = 0 := by simp [appE, h, h2, HK.out, hN]
        rw [e2, e3]
        have t1 : ((k : Int) != N) = false := by simpa using hN
        have HRL := Lib.hid (show (appR n N ms ss).length = l by rw [appR_len, HL.out])
        clear e1 e2 e3 h h2 hbd hN
        go_enter Tryd.func16, Tryd.ntmps16
        go_wp2_with fail
        refine HR.out.mono ?_
        rintro e w1 ⟨rfl, hb⟩
        have P := Lib.hid (Q0.out.keep hb)
        have B := Lib.hid (chainN HW.out HW.out.size hb)
        clear hb r0 r1
        go_wp2_with fail
        refine (HSum.out _ B.out).mono ?_
        rw [e4.out]
        rintro e w2 ⟨rfl, hb⟩
        have P := Lib.hid (P.out.keep hb)
        have B := Lib.hid (chainN B.out B.out.size hb)
        clear hb
        obtain ⟨r0, r1, -, -⟩ := P.out.two
        have mk := makeStr_any l (by omega) w2
        have BX := Lib.hid (Box.new w2 9 (strCells (List.replicate l ⟨#[]⟩)))
        have P2 := Lib.hid (P.out.alloc (.cells (strCells (List.replicate l ⟨#[]⟩)) 9))
        have B2 := Lib.hid (B.out.alloc B.out.size (.cells (strCells (List.replicate l ⟨#[]⟩)) 9))
        have hws : w.heap.size < w2.heap.size := P.out.lt
        have HLe := Lib.hid (Nat.le_of_lt hws)
        obtain ⟨u0, u1, -, -⟩ := P2.out.two
        go_wp2_with fail
        generalize w2.alloc (.cells (strCells (List.replicate l ⟨#[]⟩)) 9) = W at *
        clear mk r0 r1 u0 u1
        go_loopw [37] (fun t wr => ∃ (i : Nat) (ts : List ByteArray), i ≤ l ∧ t = .int .i64 i ∧ ts.length = l ∧ Box wr w2.heap.size 9 (strCells ts) ∧ Hid (∀ j, j < i → ts.getD j ByteArray.empty = appF n N ms ss j) ∧ Below w.heap.size w wr) (fun t _ => l - (intOf t).toNat)
        case atStart => exact ⟨0, _, by omega, rfl, by simp, BX.out, Lib.hid (fun j hj => absurd hj (Nat.not_lt_zero _)), B2.out⟩
        case round =>
          obtain ⟨i, ts, hi, rfl, hts, hbx, HF, hbel⟩ := hrel
          have R := Lib.hid hbx
          have HB := Lib.hid hbel
          have HTL := Lib.hid hts
          clear hbx hbel hts BX P2 B2
          by_cases hlt : i < l
          · have hlt' : (i : Int) < (l : Int) := by omega
            obtain ⟨g1, o1, B1, k1, e1, rfl, hg1, x1, y1, s1, u1⟩ := (HM.out.mono (Nat.le_refl _) HB.out).at i hlt
            obtain ⟨hN, hrr⟩ := rightM_at HR1.out i (by rw [HL.out]; exact hlt)
            rw [hN] at x1
            have HFI := Lib.hid (show appF n N ms ss i = pickS n ss N (ms.getD i (0, [])).2 from rfl)
            have R1 := Lib.hid (R.out.alloc (.cells #[.int .i64 N, .slice B1 k1 e1] 27))
            have HB1 := Lib.hid (HB.out.alloc HB.out.size (.cells #[.int .i64 N, .slice B1 k1 e1] 27))
            have HP := Lib.hid (pick_any n L k d ss N B1 k1 e1 (ms.getD i (0, [])).2 _ (HTx.out.mono (Nat.le_refl _) HB1.out) hkd (by unfold maxLen; exact hd) (u1.alloc (.cells #[.int .i64 N, .slice B1 k1 e1] 27)) (HT.out.below HB1.out))
            obtain ⟨p0, p1, -, -⟩ := (Box.new wr 27 #[.int .i64 N, .slice B1 k1 e1]).two
            clear hN hrr s1 u1
            generalize pickS n ss N (ms.getD i (0, [])).2 = s at *
            generalize pickE n ss N (ms.getD i (0, [])).2 = er at *
            go_wp2_with fail
            refine HP.out.mono ?_
            rintro e x2 ⟨rfl, hb⟩
            have R2 := Lib.hid (R1.out.keep hb)
            have HB2 := Lib.hid (chainN HB1.out HB1.out.size hb)
            clear hb p0 p1
            have c0 : x2.cell? ⟨w2.heap.size, i, none⟩ = some (.string (ts.getD i ByteArray.empty)) := by rw [R2.out.cell, strCells_get ts i (by rw [HTL.out]; exact hlt)]
            have f0 := R2.out.free i
            go_wp2_with fail
            go_roundw
            case rel =>
              refine ⟨i + 1, ts.set i s, by omega, by go_num, by simp [HTL.out], ?_, Lib.hid (fun j hj => ?_), HB2.out.setCell (p := ⟨w2.heap.size, i, none⟩) (by simp; omega) _⟩
              · rw [← strCells_set]; exact R2.out.put i _
              · by_cases hji : j = i
                · subst hji
                  rw [HFI.out]; simp [List.getD, HTL.out, hlt]
                · have := HF.out j (by omega)
                  simp only [List.getD] at this ⊢
                  rw [List.getElem?_set_ne (by omega)]; exact this
            case measure => simp [intOf] <;> omega
          · obtain rfl : l = i := by omega
            have hlt' : ¬ (l : Int) < (l : Int) := by omega
            have HE := Lib.hid (show ts = appR n N ms ss by
              apply List.ext_getElem
              · rw [HTL.out, HRL.out]
              · intro j h1 h2
                have h1' : j < l := by rw [HTL.out] at h1; exact h1
                have := HF.out j h1'
                rw [← appR_at n N ms ss j (by rw [HL.out]; exact h1')] at this
                simpa [List.getD, h1, h2] using this)
            have HX := Lib.hid (R.out.texts (by rw [HE.out]; exact appR_le n N ms ss))
            rw [HTL.out, HE.out] at HX
            go_wp2
            go_ret2
            exact ⟨some ⟨w2.heap.size, 0, none⟩, l, by rw [HRL.out]; rfl, by rw [HRL.out]; exact Nat.le_refl _, by unfold maxLen; omega, by rw [HRL.out]; exact HX.out, HB.out, fun _ => ⟨w2.heap.size, rfl, HRL.out.symm, HLe.out, by rw [← HE.out]; exact R.out⟩⟩
      · have e2 : appL n N ms ss = [] := by simp [appL, appB, HK.out, hN]
        have e3 : appE n N ms ss = 2 := by simp [appE, h, h2, HK.out, hN]
        rw [e2, e3]
        have t1 : ((k : Int) != N) = true := by simpa using hN
        clear e2 e3 h h2 hbd hN
        go_enter Tryd.func16, Tryd.ntmps16
        go_wp2_with fail
        refine HR.out.mono ?_
        rintro e w1 ⟨rfl, hb⟩
        have P := Lib.hid (Q0.out.keep hb)
        have B := Lib.hid (chainN HW.out HW.out.size hb)
        clear hb r0 r1
        go_wp2_with fail
        refine (HSum.out _ B.out).mono ?_
        rw [e4.out]
        rintro e w2 ⟨rfl, hb⟩
        have P := Lib.hid (P.out.keep hb)
        have B := Lib.hid (chainN B.out B.out.size hb)
        clear hb
        obtain ⟨r0, r1, -, -⟩ := P.out.two
        go_wp2
        go_ret2
        exact ⟨none, 0, rfl, Nat.le_refl _, Nat.zero_le _, Texts.nil _ _, B.out, fun h => absurd h (by decide)⟩
end
section
/- An append onto a row that is a call's own, of a slice that may be nil, or of no elements: in a region that draws (step_opt), in one that does not (wpList_opt). No program. -/
set_option linter.unusedVariables false
set_option linter.unusedSimpArgs false
open Go.RowKit
theorem run_append_nilsrc {P : Program} (w : World) (base : Nat) (t ty e : TypeId) (i : TypeInfo) (size : Nat) (ht : P.underlying t = some (.slice e)) (hi : P.info? e = some i)
    (v : Value) (n : Nat) (xs : List Value) (hown : w.ownsRow base e size v n xs) (c : Nat) : (Builtin.append_ #[t, t] ty #[v, .slice none 0 c]).run P w = .ok v w := by
  obtain ⟨A, k, rfl, hA⟩ := own_form hown
  have hnk : n ≤ k := by
    rcases hown.2 with ⟨hv, h0⟩ | ⟨g, cap, cur, hv, _, _, hc, _⟩
    · omega
    · injection hv with _ _ e3; omega
  cases A with
  | none => obtain ⟨rfl, rfl⟩ := hA rfl; simp [Builtin.append_, run_underlying ht, sizeOf, typeInfo, hi, Builtin.lenOf, Builtin.firstCells]
  | some ad => simp [Builtin.append_, run_underlying ht, sizeOf, typeInfo, hi, Builtin.lenOf, Builtin.firstCells, hnk, storeCells]
theorem run_append_opt {P : Program} (w : World) (base : Nat) (t ty e : TypeId) (i : TypeInfo) (z : Value) (size bytes : Nat) (ht : P.underlying t = some (.slice e)) (hi : P.info? e = some i) (hz : i.zero = some z)
    (hsize : i.size = size) (hby : i.bytes = bytes) (hzs : z.cells.size = size) (hsz : 0 < size) (v : Value) (n : Nat) (xs : List Value) (hown : w.ownsRow base e size v n xs)
    (A : Option Addr) (m c : Nat) (news : List Value) (hl : news.length = m * size) (hnil : A = none → m = 0) (hnews : ∀ ad, A = some ad → ∀ j u, news[j]? = some u → w.cell? (ad.add j) = some u) (h1 : ∀ u ∈ news, u.oneCell' = true)
    (h63 : n + m ≤ maxLen) (hbytes : (n + m) * bytes ≤ 140737488355328) (hbase : base ≤ w.heap.size) :
    ∃ v' w', (Builtin.append_ #[t, t] ty #[v, .slice A m c]).run P w = .ok v' w' ∧ w'.ownsRow base e size v' (n + m) (xs ++ news) ∧ w.grownBy w' v.ownBlock := by
  cases A with
  | some ad =>
    obtain ⟨v', w', hr, h2, h3, -⟩ := run_append_own_at (P := P) w base t ty e i z size bytes ht hi hz hsize hby hzs hsz v n xs hown ad m c news hl (hnews ad rfl) h1 h63 hbytes hbase
    exact ⟨v', w', hr, h2, h3⟩
  | none =>
    obtain rfl := hnil rfl
    obtain rfl : news = [] := List.length_eq_zero_iff.1 (by simpa using hl)
    exact ⟨v, w, run_append_nilsrc w base t ty e i size ht hi v n xs hown c, by simpa using hown, World.grownBy.refl w _⟩
section
variable {P : Program} {w : World} {ops : Array Oper} {o : Oper} {a : Act} {K : Act → World → Prop} {Q : Exit → Act → World → Prop} {E : Prop}
theorem wp_append_opt (s x : Operand) (t : TypeId)
    (ho : o.op = .call { callee := .builtin .append, args := #[s, x], argTypes := #[t, t] })
    (base : Nat) (e : TypeId) (i : TypeInfo) (z : Value) (size bytes : Nat) (ht : P.underlying t = some (.slice e)) (hi : P.info? e = some i) (hz : i.zero = some z)
    (hsize : i.size = size) (hby : i.bytes = bytes) (hzs : z.cells.size = size) (hsz : 0 < size)
    (v : Value) (n : Nat) (xs : List Value) (hs : a.eval s = v) (hown : w.ownsRow base e size v n xs)
    (A : Option Addr) (m c : Nat) (news : List Value) (hx : a.eval x = .slice A m c) (hl : news.length = m * size) (hnil : A = none → m = 0) (hnews : ∀ ad, A = some ad → ∀ j u, news[j]? = some u → w.cell? (ad.add j) = some u) (h1 : ∀ u ∈ news, u.oneCell' = true)
    (h63 : n + m ≤ maxLen) (hbytes : (n + m) * bytes ≤ 140737488355328) (hbase : base ≤ w.heap.size)
    (h : ∀ v' w', w'.ownsRow base e size v' (n + m) (xs ++ news) → w.grownBy w' v.ownBlock → K (a.put o.dst v') w') : o.wp P a w K Q := by
  obtain ⟨v', w', hr, h2, h3⟩ := run_append_opt (P := P) w base t o.type e i z size bytes ht hi hz hsize hby hzs hsz v n xs hown A m c news hl hnil hnews h1 h63 hbytes hbase
  unfold Oper.wp execOp
  simp only [ho, resolve, invoke, builtin, Sem.run_bind, Sem.run_pure, Result.andThen_ok, List.map_toArray, List.map_cons, List.map_nil, hs, hx, hr]
  exact h v' w' h2 h3
theorem step_opt (hgd : o.guard = none) (s x : Operand) (t : TypeId)
    (ho : o.op = .call { callee := .builtin .append, args := #[s, x], argTypes := #[t, t] })
    (base : Nat) (e : TypeId) (i : TypeInfo) (z : Value) (size bytes : Nat) (ht : P.underlying t = some (.slice e)) (hi : P.info? e = some i) (hz : i.zero = some z)
    (hsize : i.size = size) (hby : i.bytes = bytes) (hzs : z.cells.size = size) (hsz : 0 < size)
    (v : Value) (n : Nat) (xs : List Value) (hs : a.eval s = v) (hown : w.ownsRow base e size v n xs)
    (A : Option Addr) (m c : Nat) (news : List Value) (hx : a.eval x = .slice A m c) (hl : news.length = m * size) (hnil : A = none → m = 0) (hnews : ∀ ad, A = some ad → ∀ j u, news[j]? = some u → w.cell? (ad.add j) = some u) (h1 : ∀ u ∈ news, u.oneCell' = true)
    (h63 : n + m ≤ maxLen) (hbytes : (n + m) * bytes ≤ 140737488355328) (hbase : base ≤ w.heap.size)
    (h : ∀ v' w', w'.ownsRow base e size v' (n + m) (xs ++ news) → w.grownBy w' v.ownBlock → K (a.put o.dst v') w') :
    if Region.wanted o (yielded ops a.tmps) = true then Oper.wp P o a w K Q else E := by
  have hw : Region.wanted o (yielded ops a.tmps) = true := by simp [Region.wanted, hgd]
  rw [if_pos hw]
  exact wp_append_opt s x t ho base e i z size bytes ht hi hz hsize hby hzs hsz v n xs hs hown A m c news hx hl hnil hnews h1 h63 hbytes hbase h
theorem wpList_opt {rest : List Oper} (hgd : o.guard = none) (s x : Operand) (t : TypeId)
    (ho : o.op = .call { callee := .builtin .append, args := #[s, x], argTypes := #[t, t] })
    (base : Nat) (e : TypeId) (i : TypeInfo) (z : Value) (size bytes : Nat) (ht : P.underlying t = some (.slice e)) (hi : P.info? e = some i) (hz : i.zero = some z)
    (hsize : i.size = size) (hby : i.bytes = bytes) (hzs : z.cells.size = size) (hsz : 0 < size)
    (v : Value) (n : Nat) (xs : List Value) (hs : a.eval s = v) (hown : w.ownsRow base e size v n xs)
    (A : Option Addr) (m c : Nat) (news : List Value) (hx : a.eval x = .slice A m c) (hl : news.length = m * size) (hnil : A = none → m = 0) (hnews : ∀ ad, A = some ad → ∀ j u, news[j]? = some u → w.cell? (ad.add j) = some u) (h1 : ∀ u ∈ news, u.oneCell' = true)
    (h63 : n + m ≤ maxLen) (hbytes : (n + m) * bytes ≤ 140737488355328) (hbase : base ≤ w.heap.size)
    (h : ∀ v' w', w'.ownsRow base e size v' (n + m) (xs ++ news) → w.grownBy w' v.ownBlock → wpList P ops Q rest (a.put o.dst v') w') : wpList P ops Q (o :: rest) a w :=
  wpList_plain hgd fun _ hK => wp_append_opt s x t ho base e i z size bytes ht hi hz hsize hby hzs hsz v n xs hs hown A m c news hx hl hnil hnews h1 h63 hbytes hbase fun v' w' h2 h3 => hK _ _ (h v' w' h2 h3)
end
theorem own_of_box0 {w : World} {g base size : Nat} {e : TypeId} (h : Box w g e #[]) (hb : base ≤ g) : w.ownsRow base e size (.slice (some ⟨g, 0, none⟩) 0 0) 0 [] :=
  ⟨by simp, .inr ⟨g, 0, #[], rfl, hb, h, Nat.le_refl _, Nat.zero_le _, by simp, by simp⟩⟩
end
section
/- Steps of a region that draws: an append onto a row that is a call's own, of a slice that may be nil; a matrix's rows as cells. -/
set_option linter.unusedVariables false
set_option linter.unusedSimpArgs false
open Go.RowKit
/-- A matrix's rows: their slices. -/
theorem MatAt.rs {w : World} {lo : Nat} {A : Option Addr} {len : Nat} {ms : List (Int × List Nat)} (h : MatAt w lo A len ms) :
    ∃ rs : List RowV, rs.length = len ∧ (∀ j, j < len → (rs.getD j (0, none, 0, 0)).1 = (ms.getD j (0, [])).1 ∧ SliceOk (rs.getD j (0, none, 0, 0)).2.1 (rs.getD j (0, none, 0, 0)).2.2.1 (rs.getD j (0, none, 0, 0)).2.2.2 ∧ Words w (rs.getD j (0, none, 0, 0)).2.1 (rs.getD j (0, none, 0, 0)).2.2.1 (ms.getD j (0, [])).2) ∧
      (∀ w', Below w.heap.size w w' → ∀ ad, A = some ad → ∀ j u, (rowCells rs)[j]? = some u → w'.cell? (ad.add j) = some u) := by
  have key : ∀ k, k ≤ len → ∃ rs : List RowV, rs.length = k ∧ (∀ j, j < k → (rs.getD j (0, none, 0, 0)).1 = (ms.getD j (0, [])).1 ∧ SliceOk (rs.getD j (0, none, 0, 0)).2.1 (rs.getD j (0, none, 0, 0)).2.2.1 (rs.getD j (0, none, 0, 0)).2.2.2 ∧ Words w (rs.getD j (0, none, 0, 0)).2.1 (rs.getD j (0, none, 0, 0)).2.2.1 (ms.getD j (0, [])).2 ∧
      ∃ b off, A = some ⟨b, off, none⟩ ∧ b < w.heap.size ∧ w.cell? ⟨b, off + j * 2, none⟩ = some (.int .i64 (rs.getD j (0, none, 0, 0)).1) ∧ w.cell? ⟨b, off + j * 2 + 1, none⟩ = some (.slice (rs.getD j (0, none, 0, 0)).2.1 (rs.getD j (0, none, 0, 0)).2.2.1 (rs.getD j (0, none, 0, 0)).2.2.2)) := by
    intro k
    induction k with
    | zero => exact fun _ => ⟨[], rfl, fun j hj => absurd hj (Nat.not_lt_zero _)⟩
    | succ k ih =>
      intro hk
      obtain ⟨rs, h1, h2⟩ := ih (by omega)
      obtain ⟨b, off, B, l, c, hA, hb, c0, c1, hs, hw⟩ := h.at k (by omega)
      refine ⟨rs ++ [((ms.getD k (0, [])).1, B, l, c)], by simp [h1], fun j hj => ?_⟩
      by_cases hjk : j < k
      · have e1 : (rs ++ [((ms.getD k (0, [])).1, B, l, c)]).getD j (0, none, 0, 0) = rs.getD j (0, none, 0, 0) := by simp only [List.getD]; rw [List.getElem?_append_left (by rw [h1]; exact hjk)]
        rw [e1]; exact h2 j hjk
      · obtain rfl : j = k := by omega
        have e1 : (rs ++ [((ms.getD j (0, [])).1, B, l, c)]).getD j (0, none, 0, 0) = ((ms.getD j (0, [])).1, B, l, c) := by rw [← h1]; simp [List.getD]
        rw [e1]; exact ⟨rfl, hs, hw, b, off, hA, hb, c0, c1⟩
  obtain ⟨rs, h1, h2⟩ := key len (Nat.le_refl _)
  refine ⟨rs, h1, fun j hj => ⟨(h2 j hj).1, (h2 j hj).2.1, (h2 j hj).2.2.1⟩, fun w' hbel ad hA j u hu => ?_⟩
  have hlt : j < (rowCells rs).length := (List.getElem?_eq_some_iff.1 hu).1
  rw [rowCells_len, h1] at hlt
  obtain ⟨b, off, hA2, hb, c0, c1⟩ := (h2 (j / 2) (by omega)).2.2.2
  obtain ⟨r0, r1⟩ := rowCells_at rs (j / 2) (by omega)
  rw [hA] at hA2
  injection hA2 with hA2
  subst hA2
  have hadd : ∀ j, (⟨b, off, none⟩ : Addr).add j = ⟨b, off + j, none⟩ := fun j => by unfold Addr.add; split <;> simp_all
  rw [hadd, hbel.cell (p := ⟨b, off + j, none⟩) hb]
  rcases Nat.mod_two_eq_zero_or_one j with hm | hm
  · have ej : j / 2 * 2 = j := by omega
    rw [ej] at r0 c0
    rw [r0] at hu
    rw [← hu]; exact c0
  · have ej : j / 2 * 2 + 1 = j := by omega
    rw [ej] at r1
    rw [Nat.add_assoc, ej] at c1
    rw [r1] at hu
    rw [← hu]; exact c1
theorem rowCells_one (rs : List RowV) : ∀ u ∈ rowCells rs, u.oneCell' = true := by
  intro u hu
  unfold rowCells at hu
  obtain ⟨r, -, hr⟩ := List.mem_flatMap.1 hu
  simp at hr
  rcases hr with rfl | rfl <;> rfl
end
section
/- The reference's Echelon. -/
set_option linter.unusedVariables false
set_option linter.unusedSimpArgs false
open Go.RowKit
set_option maxRecDepth 100000
theorem same_lt {n : Nat} {L M : List Nat} (h : ∀ r ∈ L, r < 2 ^ n) (hs : SameSp L M) : ∀ r ∈ M, r < 2 ^ n := fun r hr => sp_lt h ((hs r).2 (sp_mem hr))
theorem take_lt' {n : Nat} {L : List Nat} (h : ∀ r ∈ L, r < 2 ^ n) (k : Nat) : ∀ r ∈ L.take k, r < 2 ^ n := fun r hr => h r (List.mem_of_mem_take hr)
theorem left_same {L P : List Nat} (h : Rref L P) (r : Nat) (h0 : leftN L P r L.length = 0) : SameSp (L ++ [r]) L := by
  have hs := (left_zero h r).1 h0
  refine SameSp.of (fun x hx => ?_) (fun x hx => sp_mem (List.mem_append.2 (.inl hx)))
  rcases List.mem_append.1 hx with hx | hx
  · exact sp_mem hx
  · simp at hx; subst hx; exact hs
theorem put_more {L P : List Nat} (h : Rref L P) (r a : Nat) (ha : IsLow (leftN L P r L.length) a) :
    ∃ m, m ≤ L.length ∧ (∀ i, i < m → P.getD i 0 < a) ∧ (∀ i, m ≤ i → i < L.length → a < P.getD i 0) ∧ Rref (putW L (leftN L P r L.length) a m) (putP P a m) ∧ SameSp (L ++ [r]) (putW L (leftN L P r L.length) a m) := by
  have hsp := leftN_span L P r L.length (Nat.le_refl _)
  have hz : ∀ j, j < L.length → (leftN L P r L.length).testBit (P.getD j 0) = false := fun j hj => by rw [leftN_bits h r _ (Nat.le_refl _) j hj, if_pos hj]
  generalize leftN L P r L.length = x at *
  have hn : a ∉ P := fun hp => by
    obtain ⟨j, hj, rfl⟩ := mem_getD hp
    have := hz j (by rw [h.len]; exact hj)
    rw [ha.1] at this; cases this
  obtain ⟨m, hm, h1, h2⟩ := cut_place h a hn
  refine ⟨m, hm, h1, h2, put_rref h x a m ha hz hm h1 h2, SameSp.trans ?_ (put_span x a m hm)⟩
  have liftL : ∀ y, ∀ v, Sp L v → Sp (L ++ [y]) v := fun y v hv => sp_sub (fun r hr => sp_mem (List.mem_append.2 (.inl hr))) hv
  refine SameSp.of (fun y hy => ?_) (fun y hy => ?_)
  · rcases List.mem_append.1 hy with hy | hy
    · exact sp_mem (List.mem_append.2 (.inl hy))
    · simp at hy; subst hy
      have := sp_xor (liftL x _ hsp) (sp_mem (show x ∈ L ++ [x] by simp))
      rw [xor_back] at this; exact this
  · rcases List.mem_append.1 hy with hy | hy
    · exact sp_mem (List.mem_append.2 (.inl hy))
    · simp at hy; subst hy
      have := sp_xor (sp_mem (show r ∈ L ++ [r] by simp)) (liftL r _ hsp)
      rw [← Nat.xor_assoc, Nat.xor_self, Nat.zero_xor] at this; exact this
theorem span_step {ms L M : List Nat} {k : Nat} (hk : k < ms.length) (hs : SameSp (ms.take k) L) (gs : SameSp (L ++ [ms.getD k 0]) M) : SameSp (ms.take (k + 1)) M := by
  refine SameSp.trans ?_ gs
  have e : ms.take (k + 1) = ms.take k ++ [ms.getD k 0] := by
    rw [List.take_succ_eq_append_getElem (by omega)]; simp [List.getD, hk]
  rw [e]
  refine SameSp.of (fun y hy => ?_) (fun y hy => ?_)
  · rcases List.mem_append.1 hy with hy | hy
    · exact sp_sub (fun r hr => sp_mem (List.mem_append.2 (.inl hr))) ((hs _).1 (sp_mem hy))
    · simp at hy; subst hy; exact sp_mem (by simp)
  · rcases List.mem_append.1 hy with hy | hy
    · exact sp_sub (fun r hr => sp_mem (List.mem_append.2 (.inl hr))) ((hs _).2 (sp_mem hy))
    · simp at hy; subst hy; exact sp_mem (by simp)
theorem rref_nil : Rref [] [] := ⟨rfl, fun _ h => absurd h (Nat.not_lt_zero _), fun _ _ h => absurd h (Nat.not_lt_zero _), fun _ _ _ h => absurd h (Nat.not_lt_zero _)⟩
/-- What the reference's Echelon hands back. -/
def RefEch (N : Nat) (orig : List Nat) (w : World) (e : Ending) (w' : World) : Prop :=
  ∃ (M P : List Nat) (A : Option Addr) (c : Nat), e = .returned (.slice A M.length c) ∧ Rref M P ∧ SameSp orig M ∧ MatAt w' 0 A M.length (mkM N M) ∧ Below w.heap.size w w'
end
section
/- reduce.Spans. -/
set_option linter.unusedVariables false
set_option linter.unusedSimpArgs false
open Go.RowKit
set_option maxRecDepth 100000
theorem plc_zero (N z : Nat) (hz : z < 2 ^ N) : (plcN (rowOf N z) (64 * nw N)).length = 0 ↔ z = 0 := by
  constructor
  · intro h
    apply Nat.eq_of_testBit_eq
    intro p
    rw [Nat.zero_testBit]
    by_cases hp : p < N
    · rw [← rowOf_bit N z p hp, Bool.eq_false_iff]
      intro hb
      have hm : p ∈ plcN (rowOf N z) (64 * nw N) := List.mem_filter.2 ⟨by simp only [List.mem_range]; unfold nw; omega, hb⟩
      rw [List.length_eq_zero_iff.1 h] at hm
      cases hm
    · exact Nat.testBit_lt_two_pow (Nat.lt_of_lt_of_le hz (Nat.pow_le_pow_right (by omega) (by omega)))
  · rintro rfl
    rw [List.length_eq_zero_iff]
    unfold plcN
    rw [List.filter_eq_nil_iff]
    intro p _
    rw [rowOf_zero]
    unfold bitAt
    have : (List.replicate (nw N) 0).getD (p / 64) 0 = 0 := by
      simp only [List.getD, List.getElem?_replicate]; split <;> rfl
    rw [this]; simp
theorem Ints.drewJ {w : World} {A : Option Addr} {len : Nat} {zs : List Int} (h : Ints w A len zs) : Ints w.drew A len zs := h
theorem Ints.far1 {w : World} {A : Option Addr} {len : Nat} {zs : List Int} (h : Ints w A len zs) {g : Nat} (hne : ∀ b off, 0 < len → A = some ⟨b, off, none⟩ → b ≠ g) (i : Nat) (u : Value) : Ints (w.setCell ⟨g, i, none⟩ u) A len zs := by
  refine ⟨h.1, h.2.1, fun hp => ?_⟩
  obtain ⟨b, off, rfl, hlt, hc⟩ := h.2.2 hp
  have hn := hne b off hp rfl
  refine ⟨b, off, rfl, by simpa [World.setCell] using hlt, fun j hj => ?_⟩
  rw [World.cell?_setCell_other _ _ _ _ (by intro e; injection e; omega)]
  exact hc j hj
/-- What Spans tells. -/
def SpansOut (L : List Nat) (x : Nat) (w : World) (e : Ending) (w' : World) : Prop := ∃ b : Bool, (b = true ↔ Sp L x) ∧ e = .returned (.tuple #[.bool b, .int .i64 0]) ∧ Below w.heap.size w w'
set_option maxHeartbeats 4000000 in
theorem spans_argM (N n : Int) (A B : Option Addr) (l c k d lo : Nat) (ms : List (Int × List Nat)) (w : World) (hm : MatAt w lo A l ms) (hl : l ≤ maxLen) (hr : rightM N ms = false) :
    Calls Tryd.prog 13 #[.agg #[.int .i64 N, .slice A l c], .agg #[.int .i64 n, .slice B k d]] w fun e w' => e = .returned (.tuple #[.bool false, .int .i64 1]) ∧ Below w.heap.size w w' := by
  have b1 : Below w.heap.size w ((w.alloc (.cells #[.int .i64 N, .slice A l c] 24)).alloc (.cells #[.int .i64 n, .slice B k d] 27)) := ((Below.refl _ _).alloc (Nat.le_refl _) _).alloc (by simp) _
  have Q0 := Lib.hid ((Box.new w 24 #[.int .i64 N, .slice A l c]).alloc (.cells #[.int .i64 n, .slice B k d] 27))
  have HB := Lib.hid b1
  have HE := Lib.hid (ech_no N A l c lo ms _ (hm.below b1) hl hr)
  clear b1 hm hr
  obtain ⟨r0, r1, -, -⟩ := Q0.out.two
  go_enter Tryd.func13, Tryd.ntmps13
  go_wp2_with fail
  refine HE.out.mono ?_
  rintro e x1 ⟨rfl, hb⟩
  have HB := Lib.hid (chain HB.out hb)
  clear hb r0 r1
  go_wp2_with fail
  go_ret2
  exact ⟨rfl, HB.out.alloc HB.out.size _⟩
set_option maxHeartbeats 4000000 in
theorem spans_argR (N : Nat) (hN : N ≤ 64) (L : List Nat) (hL : ∀ r ∈ L, r < 2 ^ N) (hlen : L.length ≤ 64) (A : Option Addr) (c lo : Nat) (n : Int) (B : Option Addr) (k d : Nat) (us : List Nat) (w : World) (hm : MatAt w lo A L.length (mkM N L)) (hr : rightM N (mkM N L) = true) (hu : Words w B k us) (hru : rightB n us = false) :
    Calls Tryd.prog 13 #[.agg #[.int .i64 (N : Int), .slice A L.length c], .agg #[.int .i64 n, .slice B k d]] w fun e w' => e = .returned (.tuple #[.bool false, .int .i64 1]) ∧ Below w.heap.size w w' := by
  have b1 : Below w.heap.size w ((w.alloc (.cells #[.int .i64 (N : Int), .slice A L.length c] 24)).alloc (.cells #[.int .i64 n, .slice B k d] 27)) := ((Below.refl _ _).alloc (Nat.le_refl _) _).alloc (by simp) _
  have Q0 := Lib.hid ((Box.new w 24 #[.int .i64 (N : Int), .slice A L.length c]).alloc (.cells #[.int .i64 n, .slice B k d] 27))
  have q1 := Box.new (w.alloc (.cells #[.int .i64 (N : Int), .slice A L.length c] 24)) 27 #[.int .i64 n, .slice B k d]
  simp only [World.size_alloc] at q1
  have Q1 := Lib.hid q1
  have HB := Lib.hid b1
  have HU := Lib.hid (hu.below b1)
  have HE := Lib.hid (ech_yes N hN L hL hlen A c lo _ (hm.below b1) hr)
  have HR := Lib.hid (fun w' (h : Words w' B k us) => right_any n B k d us w' h)
  rw [hru] at HR
  clear b1 hm hr q1 hu hru
  obtain ⟨r0, r1, -, -⟩ := Q0.out.two
  go_enter Tryd.func13, Tryd.ntmps13
  go_wp2_with fail
  refine HE.out.mono ?_
  rintro e x1 ⟨M, P, A1, B1, kc, rfl, h1, h2, h3, h4, h5, hb⟩
  have hal : Below x1.heap.size x1 (x1.alloc (.cells #[.int .i64 (N : Int), .slice A1 M.length M.length] 24)) := (Below.refl _ _).alloc (Nat.le_refl _) _
  have HB := Lib.hid (chain (chain HB.out hb) hal)
  have Q1 := Lib.hid ((Q1.out.keep hb).keep hal)
  have HU := Lib.hid ((HU.out.below hb).below hal)
  clear h1 h2 h3 h4 h5 hb hal r0 r1 Q0 HE
  obtain ⟨r0, r1, -, -⟩ := Q1.out.two
  go_wp2_with fail
  refine (HR.out _ HU.out).mono ?_
  rintro e x2 ⟨rfl, hb⟩
  have HB := Lib.hid (chain HB.out hb)
  clear hb r0 r1
  go_wp2_with fail
  go_ret2
  exact ⟨rfl, HB.out⟩
set_option maxHeartbeats 4000000 in
theorem spans_size (N : Nat) (hN : N ≤ 64) (L : List Nat) (hL : ∀ r ∈ L, r < 2 ^ N) (hlen : L.length ≤ 64) (A : Option Addr) (c lo : Nat) (n : Int) (B : Option Addr) (k d : Nat) (us : List Nat) (w : World) (hm : MatAt w lo A L.length (mkM N L)) (hr : rightM N (mkM N L) = true) (hu : Words w B k us) (hru : rightB n us = true) (hne : (n == (N : Int)) = false) :
    Calls Tryd.prog 13 #[.agg #[.int .i64 (N : Int), .slice A L.length c], .agg #[.int .i64 n, .slice B k d]] w fun e w' => e = .returned (.tuple #[.bool false, .int .i64 2]) ∧ Below w.heap.size w w' := by
  have b1 : Below w.heap.size w ((w.alloc (.cells #[.int .i64 (N : Int), .slice A L.length c] 24)).alloc (.cells #[.int .i64 n, .slice B k d] 27)) := ((Below.refl _ _).alloc (Nat.le_refl _) _).alloc (by simp) _
  have Q0 := Lib.hid ((Box.new w 24 #[.int .i64 (N : Int), .slice A L.length c]).alloc (.cells #[.int .i64 n, .slice B k d] 27))
  have q1 := Box.new (w.alloc (.cells #[.int .i64 (N : Int), .slice A L.length c] 24)) 27 #[.int .i64 n, .slice B k d]
  simp only [World.size_alloc] at q1
  have Q1 := Lib.hid q1
  have HB := Lib.hid b1
  have HU := Lib.hid (hu.below b1)
  have HE := Lib.hid (ech_yes N hN L hL hlen A c lo _ (hm.below b1) hr)
  have HR := Lib.hid (fun w' (h : Words w' B k us) => right_any n B k d us w' h)
  have HN1 := Lib.hid hne
  have HN2 := Lib.hid (show (n != (N : Int)) = true by simp [bne, hne])
  rw [hru] at HR
  clear b1 hm hr q1 hu hru hne
  obtain ⟨r0, r1, -, -⟩ := Q0.out.two
  go_enter Tryd.func13, Tryd.ntmps13
  go_wp2_with fail
  refine HE.out.mono ?_
  rintro e x1 ⟨M, P, A1, B1, kc, rfl, h1, h2, h3, h4, h5, hb⟩
  have hal : Below x1.heap.size x1 (x1.alloc (.cells #[.int .i64 (N : Int), .slice A1 M.length M.length] 24)) := (Below.refl _ _).alloc (Nat.le_refl _) _
  have HB := Lib.hid (chain (chain HB.out hb) hal)
  have Q0 := Lib.hid ((Q0.out.keep hb).keep hal)
  have Q1 := Lib.hid ((Q1.out.keep hb).keep hal)
  have HU := Lib.hid ((HU.out.below hb).below hal)
  clear h1 h2 h3 h4 h5 hb hal r0 r1 HE
  obtain ⟨r0, r1, -, -⟩ := Q1.out.two
  go_wp2_with fail
  refine (HR.out _ HU.out).mono ?_
  rintro e x2 ⟨rfl, hb⟩
  have HB := Lib.hid (chain HB.out hb)
  have Q0 := Lib.hid (Q0.out.keep hb)
  have Q1 := Lib.hid (Q1.out.keep hb)
  clear hb r0 r1
  obtain ⟨r0, r1, -, -⟩ := Q0.out.two
  obtain ⟨s0, s1, -, -⟩ := Q1.out.two
  have hn1 := HN1.out
  have hn2 := HN2.out
  go_wp2_with fail
  go_ret2
  exact ⟨rfl, HB.out⟩
set_option maxHeartbeats 8000000 in
theorem spans_yes (N : Nat) (hN : N ≤ 64) (L : List Nat) (hL : ∀ r ∈ L, r < 2 ^ N) (hlen : L.length ≤ 64) (A : Option Addr) (c lo x : Nat) (hx : x < 2 ^ N) (B : Option Addr) (k d : Nat) (w : World) (hm : MatAt w lo A L.length (mkM N L)) (hr : rightM N (mkM N L) = true) (hu : Words w B k (rowOf N x)) (hs : SliceOk B k d) :
    Calls Tryd.prog 13 #[.agg #[.int .i64 (N : Int), .slice A L.length c], .agg #[.int .i64 (N : Int), .slice B k d]] w (SpansOut L x w) := by
  have b1 : Below w.heap.size w ((w.alloc (.cells #[.int .i64 (N : Int), .slice A L.length c] 24)).alloc (.cells #[.int .i64 (N : Int), .slice B k d] 27)) := ((Below.refl _ _).alloc (Nat.le_refl _) _).alloc (by simp) _
  have Q0 := Lib.hid ((Box.new w 24 #[.int .i64 (N : Int), .slice A L.length c]).alloc (.cells #[.int .i64 (N : Int), .slice B k d] 27))
  have q1 := Box.new (w.alloc (.cells #[.int .i64 (N : Int), .slice A L.length c] 24)) 27 #[.int .i64 (N : Int), .slice B k d]
  simp only [World.size_alloc] at q1
  have Q1 := Lib.hid q1
  have HB := Lib.hid b1
  have HU := Lib.hid (hu.below b1)
  have HE := Lib.hid (ech_two N hN L hL hlen A c lo _ (hm.below b1) hr)
  have HR := Lib.hid (fun w' (h : Words w' B k (rowOf N x)) => right_any (N : Int) B k d (rowOf N x) w' h)
  have hrx := rowOf_right N x (by omega) hx
  rw [hrx] at HR
  have HX := Lib.hid hx
  have HLs := Lib.hid hL
  have HS := Lib.hid hs
  clear b1 hm hr q1 hu hrx hx hL hs
  obtain ⟨r0, r1, -, -⟩ := Q0.out.two
  go_enter Tryd.func13, Tryd.ntmps13
  go_wp2_with fail
  refine HE.out.mono ?_
  rintro e x1 ⟨M, P, A1, B1, kc, rfl, h1, h2, h3, h4, h5, h6, hb⟩
  have hsz := hb.size
  simp only [World.size_alloc] at hsz h3
  have H1 := Lib.hid h1
  have H2 := Lib.hid h2
  have HMl := Lib.hid (lt_all (same_lt HLs.out h2))
  have hml : M.length ≤ 64 := Nat.le_trans (rank_le h1 h2) hlen
  have hal : Below x1.heap.size x1 (x1.alloc (.cells #[.int .i64 (N : Int), .slice A1 M.length M.length] 24)) := (Below.refl _ _).alloc (Nat.le_refl _) _
  have HB := Lib.hid (chain (chain HB.out hb) hal)
  have Q0 := Lib.hid ((Q0.out.keep hb).keep hal)
  have Q1 := Lib.hid ((Q1.out.keep hb).keep hal)
  have QR := Lib.hid (Box.new x1 24 #[.int .i64 (N : Int), .slice A1 M.length M.length])
  have HU := Lib.hid ((HU.out.below hb).below hal)
  have HM := Lib.hid (h3.below hal)
  have HI := Lib.hid (h4.below hal)
  have HLo := Lib.hid (show ∀ b o, 0 < M.length → B1 = some ⟨b, o, none⟩ → b ≠ w.heap.size + 1 from fun b o h0 hh => by
    obtain ⟨bs, h6⟩ := h6
    have hne := own_ne (World.ownsRow.alloc h6 _) Q1.out (by decide)
    subst hh
    simpa [Value.ownBlock] using hne)
  clear h1 h2 h3 h4 h5 h6 hb hal r0 r1 HE
  obtain ⟨r0, r1, -, -⟩ := Q1.out.two
  go_wp2_with fail
  refine (HR.out _ HU.out).mono ?_
  rintro e x2 ⟨rfl, hb⟩
  have HB := Lib.hid (chain HB.out hb)
  have Q0 := Lib.hid (Q0.out.keep hb)
  have Q1 := Lib.hid (Q1.out.keep hb)
  have QR := Lib.hid (QR.out.keep hb)
  have HU := Lib.hid (HU.out.below hb)
  have HM := Lib.hid (HM.out.below hb)
  have HI := Lib.hid (HI.out.below hb)
  clear hb r0 r1
  obtain ⟨r0, r1, -, -⟩ := Q0.out.two
  obtain ⟨s0, s1, -, -⟩ := Q1.out.two
  have n1 : ¬ x1.heap.size = w.heap.size + 1 := by omega
  have n2 : ¬ w.heap.size + 1 = x1.heap.size := by omega
  go_wp2_with fail
  clear r0 r1 s0 s1
  go_loopw [33] (fun t wr => ∃ (i : Nat) (B' : Option Addr) (l' d' : Nat), i ≤ M.length ∧ t = .int .i64 (i : Int) ∧ Hid (Box wr (w.heap.size + 1) 27 #[.int .i64 (N : Int), .slice B' l' d']) ∧ Hid (Box wr x1.heap.size 24 #[.int .i64 (N : Int), .slice A1 M.length M.length]) ∧ Hid (SliceOk B' l' d') ∧ Hid (Words wr B' l' (rowOf N (leftN M P x i))) ∧ Hid (MatAt wr (w.heap.size + 2) A1 M.length (mkM N M)) ∧ Hid (Ints wr B1 M.length (P.map fun x : Nat => (x : Int))) ∧ Hid (Below w.heap.size w wr)) (fun t _ => M.length - (intOf t).toNat)
  case atStart => exact ⟨0, B, k, d, Nat.zero_le _, rfl, Q1, QR, HS, HU, HM, HI, HB⟩
  case round =>
    obtain ⟨i, B', l', d', hi, rfl, R1, RR, HS', HWr, HMr, HIr, HBr⟩ := hrel
    clear Q0 Q1 QR HU HM HI HB HS HR
    by_cases hlt : i < M.length
    · have hlt' : (i : Int) < (M.length : Int) := by omega
      obtain ⟨bi, oi, rfl, hbi, hci⟩ := HIr.out.2.2 (by omega)
      have ci := hci i hlt
      rw [show (P.map fun x : Nat => (x : Int)).getD i 0 = ((P.getD i 0 : Nat) : Int) by simp [List.getD, show i < P.length by have := H1.out.len; omega]] at ci
      have HLv := Lib.hid (leftN_lt (P := P) HMl.out x HX.out i)
      have hp : P.getD i 0 < N := low_lt (HMl.out i) (H1.out.low i hlt)
      have hp0 : (0 : Int) ≤ ((P.getD i 0 : Nat) : Int) := by omega
      have HHas := Lib.hid (has_any N (leftN M P x i) (by omega) HLv.out B' l' d' (P.getD i 0) hp wr HWr.out)
      obtain ⟨r0, r1, rf0, rf1⟩ := R1.out.two
      clear hci
      cases hb : (leftN M P x i).testBit (P.getD i 0) with
      | true =>
        rw [hb] at HHas
        have HN := Lib.hid (show leftN M P x (i + 1) = leftN M P x i ^^^ M.getD i 0 by rw [leftN, if_pos hb])
        clear hb
        generalize P.getD i 0 = p at *
        go_wp2_with fail
        refine HHas.out.mono ?_
        rintro e y1 ⟨rfl, hb⟩
        have R1 := Lib.hid (R1.out.keep hb)
        have RR := Lib.hid (RR.out.keep hb)
        have HBr := Lib.hid (chain HBr.out hb)
        have HWr := Lib.hid (HWr.out.below hb)
        have HMr := Lib.hid (HMr.out.below hb)
        have HIr := Lib.hid (HIr.out.below hb)
        clear hb r0 r1 rf0 rf1 ci hbi HHas
        obtain ⟨r0, r1, rf0, rf1⟩ := R1.out.two
        obtain ⟨s0, s1, -, -⟩ := RR.out.two
        obtain ⟨b, off, B2, l2, c2, rfl, hbl, x0, x1', hs2, hw2⟩ := HMr.out.at i hlt
        rw [mkM_at N M i hlt] at x0 hw2
        simp only [mkR] at x0 hw2
        have HS2 := Lib.hid hs2
        have HW2 := Lib.hid hw2
        have HXor := Lib.hid (fun w' (h1 : Words w' B' l' (rowOf N (leftN M P x i))) (h2 : Words w' B2 l2 (rowOf N (M.getD i 0))) => xor_num N _ _ (by omega) HLv.out (HMl.out i) B' B2 l' d' l2 c2 w' h1 h2)
        rw [← HN.out] at HXor
        clear hs2 hw2
        go_wp2_with fail
        go_region_with (go_at_call 31; refine (HXor.out _ HWr.out.drew HW2.out.drew).mono ?_; rintro f1 y2 ⟨A3, l3, c3, rfl, ow, hb⟩; have R1a := Lib.hid (R1.out.drew.keep hb); have RRa := Lib.hid (RR.out.drew.keep hb); have HBa := Lib.hid (chainN HBr.out.drew HBr.out.size hb); have HMa := Lib.hid (HMr.out.drew.below hb); have HIa := Lib.hid (HIr.out.drewJ.below hb); have OW := Lib.hid ow; clear hb ow; obtain ⟨t0, t1, tf0, tf1⟩ := R1a.out.two)
        all_goals
          go_wp2_with fail
          go_roundw
          case rel => exact ⟨i + 1, A3, l3, c3, by omega, by go_num, Lib.hid R1a.out.put2, Lib.hid ((RRa.out.far (p := ⟨w.heap.size + 1, 0, none⟩) n1 _).far (p := ⟨w.heap.size + 1, 1, none⟩) n1 _), Lib.hid OW.out.ok, Lib.hid ((OW.out.words (rowOf_lt N _)).put2 R1a.out _ _), Lib.hid (HMa.out.put2 R1a.out (by omega) _), Lib.hid ((HIa.out.far1 HLo.out 0 _).far1 HLo.out 1 _), Lib.hid ((HBa.out.setCell (p := ⟨w.heap.size + 1, 0, none⟩) (by simp) _).setCell (p := ⟨w.heap.size + 1, 1, none⟩) (by simp) _)⟩
          case measure => simp [intOf] <;> omega
      | false =>
        rw [hb] at HHas
        have HN := Lib.hid (show leftN M P x (i + 1) = leftN M P x i by rw [leftN, hb]; rfl)
        clear hb
        generalize P.getD i 0 = p at *
        go_wp2_with fail
        refine HHas.out.mono ?_
        rintro e y1 ⟨rfl, hb⟩
        have R1 := Lib.hid (R1.out.keep hb)
        have RR := Lib.hid (RR.out.keep hb)
        have HBr := Lib.hid (chain HBr.out hb)
        have HWr := Lib.hid (HWr.out.below hb)
        have HMr := Lib.hid (HMr.out.below hb)
        have HIr := Lib.hid (HIr.out.below hb)
        clear hb r0 r1 rf0 rf1 ci hbi HHas
        go_wp2_with fail
        go_roundw
        case rel => exact ⟨i + 1, B', l', d', by omega, by go_num, R1, RR, HS', by rw [HN.out]; exact HWr, HMr, HIr, HBr⟩
        case measure => simp [intOf] <;> omega
    · obtain rfl : i = M.length := by omega
      have hlt' : ¬ (M.length : Int) < (M.length : Int) := by omega
      have hzl := leftN_lt (P := P) HMl.out x HX.out M.length
      have HZ := Lib.hid (plc_zero N _ hzl)
      have HC := Lib.hid (count_yes (N : Int) B' l' d' _ wr (rowOf_right N _ (by omega) hzl) HWr.out)
      have HLen := Lib.hid (show l' = nw N by have := HWr.out.1; rw [rowOf_len] at this; omega)
      have HLz := Lib.hid (left_zero H1.out x)
      clear hzl
      obtain ⟨r0, r1, -, -⟩ := R1.out.two
      generalize leftN M P x M.length = z at *
      go_wp2_with fail
      refine HC.out.mono ?_
      rw [HLen.out]
      rintro e y1 ⟨rfl, hb⟩
      have HB := Lib.hid (chain HBr.out hb)
      clear hb r0 r1 HC
      by_cases hz : (plcN (rowOf N z) (64 * nw N)).length = 0
      · have HT := Lib.hid ((H2.out x).2 (HLz.out.1 (HZ.out.1 hz)))
        rw [hz]
        clear hz
        go_wp2_with fail
        go_ret2
        exact ⟨true, by simp [HT.out], rfl, HB.out⟩
      · have HT := Lib.hid (fun h => hz (HZ.out.2 (HLz.out.2 ((H2.out x).1 h))))
        have HD : ((((plcN (rowOf N z) (64 * nw N)).length : Nat) : Int) == 0) = false := by simp only [beq_eq_false_iff_ne]; omega
        clear hz
        generalize (plcN (rowOf N z) (64 * nw N)).length = q at *
        go_wp2_with fail
        go_ret2
        exact ⟨false, ⟨fun h => (by cases h), fun h => (HT.out h).elim⟩, rfl, HB.out⟩
end
end Go.Proofs.YtdfmogcgangdnaaDoor
