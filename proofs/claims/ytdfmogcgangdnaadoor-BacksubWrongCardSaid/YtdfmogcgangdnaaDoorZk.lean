/- Parts: BwX, Open, OpenT. -/
import Derived.Test.YtdfmogcgangdnaaDoorZj
import Derived.Deep.RegionHeld3
import Derived.Lib.SmallJoins
import Derived.Lib.Strings
import Derived.OpenShut
import Derived.ProofKit
import Derived.SliceStrings
namespace Go.Proofs.YtdfmogcgangdnaaDoor
section
/- BacksubWrong: the walk. -/
set_option linter.unusedVariables false
set_option linter.unusedSimpArgs false
open Go.RowKit
set_option maxRecDepth 100000
set_option maxHeartbeats 8000000 in
theorem wrong_walk (N : Int) (A : Option Addr) (l c : Nat) (ms : List (Int × List Nat)) (n : Int) (S : Option Addr) (k d : Nat) (ss : List ByteArray) (at0 : Int) (bx : Nat) (W : World) (s0 : SliceOk A l c) (h0 : MatAt W 0 A l ms) (hn1 : -9223372036854775808 ≤ n) (hn2 : n ≤ 9223372036854775807) (s1 : SliceOk S k d) (h1 : Texts W S k ss) (hy1 : -9223372036854775808 ≤ at0) (hy2 : at0 ≤ 9223372036854775807) (hbx : bx < 256) (hT : TabAt W 0) :
    Calls Tryd.prog 5 #[.agg #[.int .i64 N, .slice A l c], .int .i64 n, .slice S k d, .int .i64 at0, .int .u8 (bx : Int)] W fun e w' => e = .returned (.bool true) ∧ Below W.heap.size W w' := by
  have b1 : Below W.heap.size W (W.alloc (.cells #[.int .i64 N, .slice A l c] 24)) := (Below.refl _ _).alloc (Nat.le_refl _) _
  have Q := Lib.hid (Box.new W 24 #[.int .i64 N, .slice A l c])
  have HB := Lib.hid b1
  have HTb := Lib.hid hT
  have HF := Lib.hid (few5_any N A S l c k d ms ss _ s0 (h0.below b1) s1 (h1.below b1))
  have hl66 : (fewM ms).length ≤ 66 := by have := fewM_len ms; omega
  have ht66 : (fewT ss (min k 66)).length ≤ 66 := by rw [fewT_len ss _ (by rw [h1.1]; omega)]; omega
  generalize fewM ms = fs at *
  generalize fewT ss (min k 66) = ts at *
  obtain ⟨r0, r1, f0, f1⟩ := Q.out.two
  clear b1 h0 s0 h1 s1 hT
  go_enter Tryd.func5, Tryd.ntmps5
  go_wp2_with fail
  refine HF.out.mono ?_
  rintro e x1 ⟨A1, S1, c1, d1, rfl, q1, q2, hm, ht, hlo, hb⟩
  have Q1 := Lib.hid (Q.out.keep hb)
  have HB1 := Lib.hid (chain HB.out hb)
  have P1 := Lib.hid (Q1.out.put2 (u := .int .i64 N) (v := .slice A1 fs.length c1))
  have M1 := Lib.hid ((hm.put2 (y := N) Q1.out (by simp) (.slice A1 fs.length c1)).low (Nat.zero_le _))
  have T1 := Lib.hid (texts_put ht Q1.out (fun b o hA h0 => by have := hlo b o hA h0; simp at this; omega) (.int .i64 N) (.slice A1 fs.length c1))
  have B1 := Lib.hid ((HB1.out.setCell (p := ⟨W.heap.size, 0, none⟩) (Nat.le_refl _) (.int .i64 N)).setCell (p := ⟨W.heap.size, 1, none⟩) (Nat.le_refl _) (.slice A1 fs.length c1))
  obtain ⟨r0', r1', f0', f1'⟩ := Q1.out.two
  have hc1 := q1.2.1
  have hd1 := q2.2.1
  have hcl := q1.1
  have hdl := q2.1
  have SL1 := Lib.hid q1
  unfold maxLen at hc1 hd1
  clear r0 r1 f0 f1 hb HF Q HB hm ht hlo q1 q2
  go_upto_region 2 with (fail)
  generalize hX2 : (x1.setCell ⟨W.heap.size, 0, none⟩ (.int .i64 N)).setCell ⟨W.heap.size, 1, none⟩ (.slice A1 fs.length c1) = x2 at *
  clear hX2 Q1 HB1 r0' r1' f0' f1' x1
  obtain ⟨r0, r1, f0, f1⟩ := P1.out.two
  have hT2 : TabAt x2 0 := HTb.out.below B1.out
  have HAp := apply_box n N A1 fs.length c1 0 fs S1 ts.length d1 ts x2 M1.out (by unfold maxLen; omega) T1.out hdl (by unfold maxLen; omega) hT2
  clear hT2 HTb
  by_cases hE : appB n N fs ts = true
  · have he : appE n N fs ts = 0 := by
      have h := hE
      simp only [appB, Bool.and_eq_true] at h
      rw [appE, if_pos h.1, if_pos h.2.1, if_pos h.2.2]
    have hLs : appL n N fs ts = appR n N fs ts := by rw [appL, if_pos hE]
    rw [he, hLs] at HAp
    simp only [appB, Bool.and_eq_true, beq_iff_eq] at hE
    obtain ⟨hr, ho, htl⟩ := hE
    have ho' := ho
    simp only [okS, Bool.and_eq_true, decide_eq_true_eq] at ho'
    obtain ⟨nn, rfl⟩ := Int.eq_ofNat_of_zero_le ((smb_iff n).1 ho'.1.1).1
    have hn64 : nn ≤ 64 := by have := ((smb_iff nn).1 ho'.1.1).2; omega
    obtain ⟨N', X, rfl, hN64, hX64, rfl, hXl⟩ := mat_num hr (fun i j => M1.out.lt i j)
    have htl' : ts.length = N' := by omega
    have HMd := Lib.hid (made_app hXl hr ho htl')
    have hlen : (appR nn N' (mkM N' X) ts).length = X.length := by rw [appR_len, mkM_len]
    generalize appR nn N' (mkM N' X) ts = ls at *
    rw [mkM_len] at *
    have HAp := Lib.hid HAp
    have HO := Lib.hid ho
    have HTl := Lib.hid htl'
    have HXl := Lib.hid hXl
    have HR := Lib.hid hr
    have HLn := Lib.hid hlen
    clear he hLs hr ho ho' htl htl' hlen hXl
    go_wp2_with fail
    refine HAp.out.mono ?_
    rintro e x3 ⟨A3, c3, rfl, hc3, hm3, ht3, hb, hbox⟩
    obtain ⟨G, rfl, rfl, hG, hBG⟩ := hbox rfl
    have hXlen : ls.length = X.length := HLn.out
    rw [hXlen] at ht3 hc3 hm3
    rw [hXlen]
    have hm3' := hm3
    unfold maxLen at hm3'
    have C2 := Lib.hid (chainN B1.out B1.out.size hb)
    have HIn := Lib.hid (show BkIn x3 N' nn X ls A1 (some ⟨G, 0, none⟩) X.length c1 X.length from ⟨hN64, hn64, HXl.out, rfl, hX64, HMd.out.size, SL1.out, M1.out.below hb, HR.out, ht3, hc3, hm3⟩)
    have TX := Lib.hid (T1.out.below hb)
    have Q := Lib.hid (P1.out.keep hb)
    have BG := Lib.hid hBG
    have HGl := Lib.hid hG
    have HM2 := Lib.hid M1.out
    have C3 := Lib.hid hb
    have HW2 := Lib.hid P1.out.lt
    have HB2 := Lib.hid B1.out
    clear hBG hG hb hc3 hm3 ht3 hXlen r0 r1 f0 f1 HAp P1 M1 T1 B1 TX hbox
    obtain ⟨r0, r1, f0, f1⟩ := Q.out.two
    by_cases hz : X.length = 0
    · have hz' : (X.length : Int) = 0 := by omega
      go_wp2_with fail
      refine (alive5_any _).mono ?_
      rintro e x4 ⟨rfl, hb⟩
      have HBf := Lib.hid (chain C2.out hb)
      clear hb
      go_wp2_with fail
      go_ret
      exact ⟨by simp, HBf.out⟩
    by_cases hn : nn = 0
    · have hn' : (nn : Int) = 0 := by omega
      have z1 : ((X.length : Int) == 0) = false := by simpa using hz
      go_wp2_with fail
      refine (alive5_any _).mono ?_
      rintro e x4 ⟨rfl, hb⟩
      have HBf := Lib.hid (chain C2.out hb)
      clear hb
      go_wp2_with fail
      go_ret
      exact ⟨by simp, HBf.out⟩
    have hz' : ¬ (X.length : Int) = 0 := by omega
    have hn' : ¬ (nn : Int) = 0 := by omega
    have z1 : ((X.length : Int) == 0) = false := by simpa using hz'
    have z2 : ((nn : Int) == 0) = false := by simpa using hn'
    go_upto_region 5 with (fail)
    clear z1 z2
    go_cut [3] (fun v wx => ∃ aa : Nat, aa < X.length ∧ v = .int .i64 (aa : Int) ∧ Hid (Below x3.heap.size x3 wx))
    case first =>
      have k0 : (0 : Int) < (X.length : Int) := by omega
      have k2 : (X.length : Int) ≤ 65 := by omega
      have g1 : -(X.length : Int) < at0.tmod (X.length : Int) := Int.lt_tmod_of_pos at0 k0
      have g2 : at0.tmod (X.length : Int) < (X.length : Int) := Int.tmod_lt_of_pos at0 k0
      go_wp2_with fail
      go_meet
      have p1 := Int.emod_nonneg (at0.tmod (X.length : Int) + (X.length : Int)) hz'
      have p2 := Int.emod_lt_of_pos (at0.tmod (X.length : Int) + (X.length : Int)) k0
      refine ⟨((at0.tmod (X.length : Int) + (X.length : Int)) % (X.length : Int)).toNat, by omega, by rw [Int.toNat_of_nonneg p1], Lib.hid (Below.refl _ _)⟩
    case rest =>
      obtain ⟨aa, haa, rfl, HBx⟩ := hcut
      obtain ⟨x4, hx4⟩ : ∃ x : World, x = wc := ⟨_, rfl⟩
      subst hx4
      have Q := Lib.hid (Q.out.keep HBx.out)
      have BG := Lib.hid (BG.out.keep HBx.out)
      have C4 := Lib.hid (chainN C3.out C3.out.size HBx.out)
      have haa' : (aa : Int) < (X.length : Int) := by omega
      have haL : aa < ls.length := by rw [HLn.out]; exact haa
      have gg := BG.out.cell aa
      rw [strCells_get ls aa haL] at gg
      have gf := BG.out.free aa
      obtain ⟨s, hs⟩ : ∃ s, s = ls.getD aa ByteArray.empty := ⟨_, rfl⟩
      rw [← hs] at gg
      have hsn : s.size = nn := HMd.out.size s (by rw [hs]; simp [List.getD, haL])
      have HS := Lib.hid hs
      have HSn := Lib.hid hsn
      have hcv := run_bytes_of_string (P := Tryd.prog) x4 9 54 5 s Tryd.underlying9 Tryd.underlying54 Tryd.underlying5
      clear hs hsn hy1 hy2 HBx C3 r0 r1 f0 f1
      obtain ⟨r0, r1, -, -⟩ := Q.out.two
      go_upto_region 7 with (fail)
      clear hcv gg gf r0 r1
      generalize hcp : grownCap x4 s.size 0 5 = cp at *
      clear hcp
      have HBy := Lib.hid (show BytesIn (x4.alloc (.cells (bytesRow s cp) 5 ((bytesRow s cp).size, (bytesRow s cp).size + 1))).drew x4.heap.size s.data.toList from bytesIn_new x4 s 5 cp)
      have HBa := Lib.hid (show Below x4.heap.size x4 (x4.alloc (.cells (bytesRow s cp) 5 ((bytesRow s cp).size, (bytesRow s cp).size + 1))).drew from ((Below.refl _ _).alloc (Nat.le_refl _) _).drew)
      generalize (x4.alloc (.cells (bytesRow s cp) 5 ((bytesRow s cp).size, (bytesRow s cp).size + 1))).drew = x5 at *
      obtain ⟨p, hp⟩ : ∃ p : Nat, p = s.size - 1 := ⟨_, rfl⟩
      have hp1 : (s.size : Int) - 1 = (p : Int) := by have := HSn.out; omega
      have hp2 : p < s.size := by have := HSn.out; omega
      have hp3 : (p : Int) < (s.size : Int) := by omega
      have hp4 : (s.size : Int) ≤ 64 := by have := HSn.out; omega
      have hlx := size_list s
      obtain ⟨hc, hf⟩ := HBy.out p (by omega)
      obtain ⟨v, hv⟩ : ∃ v, v = s.data.toList.getD p 0 := ⟨_, rfl⟩
      rw [← hv] at hc
      have HFl := Lib.hid (flip_last v bx hbx)
      have HLL := Lib.hid (show lastL s bx = s.data.toList.set p (UInt8.ofNat (v.toNat ^^^ (bx ||| 1))) from by unfold lastL; rw [← hp, ← hv])
      have P1 := Lib.hid (bytesIn_set HBy.out p (by omega) (UInt8.ofNat (v.toNat ^^^ (bx ||| 1))))
      have HBb := Lib.hid (HBa.out.setCell (p := ⟨x4.heap.size, p, none⟩) (Nat.le_refl _) (.int .u8 ((UInt8.ofNat (v.toNat ^^^ (bx ||| 1))).toNat : Int)))
      rw [← HLL.out] at P1
      clear hlx hv hp HBy HLL
      go_upto_region 8 with (fail)
      rw [HFl.out]
      have HG4 := Lib.hid (show G < x4.heap.size from BG.out.lt)
      have BG := Lib.hid (BG.out.keep HBb.out)
      have Q := Lib.hid (Q.out.keep HBb.out)
      have C6 := Lib.hid (chainN C4.out C4.out.size HBb.out)
      have hcv := bytes_back (c := cp) P1.out (lastL_len s bx)
      clear HFl hc hf hp1 hp2 hp3 C4 HBb HBa
      generalize x5.setCell ⟨x4.heap.size, p, none⟩ (.int .u8 ((UInt8.ofNat (v.toNat ^^^ (bx ||| 1))).toNat : Int)) = x6 at *
      have gg := BG.out.cell aa
      rw [strCells_get ls aa haL] at gg
      have gf := BG.out.free aa
      go_upto_region 9 with (fail)
      clear hcv gg gf P1
      have hXe : (⟨(lastL s bx).toArray⟩ : ByteArray) = lastX s bx := rfl
      rw [hXe]
      have HNe := Lib.hid (show lastX s bx ≠ ls.getD aa ByteArray.empty from fun h => lastX_ne (s := s) (b := bx) (by have := HSn.out; omega) hbx (h.trans HS.out.symm))
      have HSz := Lib.hid ((lastX_size s bx).trans HSn.out)
      generalize lastX s bx = s' at *
      have hb7 := BG.out.put aa (.string s')
      rw [strCells_set] at hb7
      have HB7 := Lib.hid hb7
      have Q7 := Lib.hid (Q.out.far (p := ⟨G, aa, none⟩) (by show W.heap.size ≠ G; have h1 := HGl.out; have h2 := HW2.out; omega) (.string s'))
      have C7 := Lib.hid (C6.out.setCell (p := ⟨G, aa, none⟩) (by show x2.heap.size ≤ G; exact HGl.out) (.string s'))
      clear hb7 Q BG C6 hXe
      generalize x6.setCell ⟨G, aa, none⟩ (.string s') = x7 at *
      have HM7 := Lib.hid (HM2.out.below C7.out)
      have hl2 : (ls.set aa s').length = X.length := by rw [List.length_set]; exact HLn.out
      have HSs := Lib.hid (show ∀ t ∈ ls.set aa s', t.size = nn from fun t ht => by
        rcases List.mem_or_eq_of_mem_set ht with h | h
        · exact HMd.out.size t h
        · rw [h]; exact HSz.out)
      have hfit := wrong_fits HXl.out HMd.out HLn.out haa HSz.out HNe.out
      have HI7 := Lib.hid (show BkIn x7 N' nn X (ls.set aa s') A1 (some ⟨G, 0, none⟩) X.length c1 X.length from ⟨hN64, hn64, HXl.out, rfl, hX64, HSs.out, SL1.out, HM7.out, HR.out, by
        have := HB7.out.texts (fun j => by
          by_cases hj : j < (ls.set aa s').length
          · have e1 : (ls.set aa s').getD j ByteArray.empty = (ls.set aa s')[j] := by rw [List.getD, List.getElem?_eq_getElem hj]; rfl
            rw [e1, HSs.out _ (List.getElem_mem _)]; unfold maxLen; omega
          · have e1 : (ls.set aa s')[j]? = none := List.getElem?_eq_none (by omega)
            simp only [List.getD, e1, Option.getD_none]; unfold maxLen; decide)
        rwa [hl2] at this, Nat.le_refl _, by unfold maxLen; omega⟩)
      generalize ls.set aa s' = lw at *
      have HFt := Lib.hid hfit
      have HSp := Lib.hid (fun w (hb : Below x7.heap.size x7 w) (A9 : Option Addr) (c9 : Nat) (hm9 : MatAt w 0 A9 (X.eraseIdx aa).length (mkM N' (X.eraseIdx aa))) (B : Option Addr) (k d : Nat) (hu : Words w B k (rowOf N' (X.getD aa 0))) (hs : SliceOk B k d) => spans_yes N' hN64 (X.eraseIdx aa) (fun r hr => HXl.out r (List.mem_of_mem_eraseIdx hr)) (by rw [List.length_eraseIdx]; split <;> omega) A9 c9 0 (X.getD aa 0) (lt_all HXl.out aa) B k d w hm9 (right_mk N' hN64 _ (by rw [List.length_eraseIdx]; split <;> omega) fun r hr => HXl.out r (List.mem_of_mem_eraseIdx hr)) hu hs)
      obtain ⟨rs, hrs, hrp, hnw⟩ := HM7.out.rs
      obtain ⟨b1, o1, hA1⟩ : ∃ b o, A1 = some ⟨b, o, none⟩ := by
        obtain ⟨b, o, -, -, -, h, -⟩ := HM7.out.at aa haa
        exact ⟨b, o, h⟩
      subst hA1
      have HRs := Lib.hid hrs
      have HRp := Lib.hid hrp
      have HNw := Lib.hid hnw
      obtain ⟨i0, hi, hz0, hz1, hz2⟩ := info_parts row_infoM
      have HIi := Lib.hid hi
      have HZ0 := Lib.hid hz0
      have HZ1 := Lib.hid hz1
      have HZ2 := Lib.hid hz2
      have B1 := Lib.hid (show Below x7.heap.size x7 (x7.alloc (.cells #[] 27)).drew from ((Below.refl _ _).alloc (Nat.le_refl _) _).drew)
      have O1 := Lib.hid (own_of_box0 (size := 2) (Box.new x7 27 #[]).drew (Nat.le_refl x7.heap.size))
      have s1 := Lib.hid B1.out.size
      have v1 : 0 + aa ≤ maxLen := by unfold maxLen; omega
      have v2 : (0 + aa) * 32 ≤ 140737488355328 := by omega
      have v3 : 0 + aa + (X.length - (aa + 1)) ≤ maxLen := by unfold maxLen; omega
      have v4 : (0 + aa + (X.length - (aa + 1))) * 32 ≤ 140737488355328 := by omega
      have HCl1 := Lib.hid (show (rowCells (rs.take aa)).length = aa * 2 by rw [rowCells_len, List.length_take]; omega)
      have HCl2 := Lib.hid (show (rowCells (rs.drop (aa + 1))).length = (X.length - (aa + 1)) * 2 by rw [rowCells_len, List.length_drop]; omega)
      clear hi hz0 hz1 hz2 hrs hrp hnw
      obtain ⟨r0, r1, -, -⟩ := Q7.out.two
      obtain ⟨k0, k1, -, -⟩ := (Q7.out.alloc (.cells #[] 27)).two
      have hax : ¬ (aa : Int) < 0 := by omega
      have hac : (aa : Int) ≤ (c1 : Int) := by omega
      have ha1 : (aa : Int) + 1 ≤ (X.length : Int) := by omega
      have ha2 : (0 : Int) ≤ (aa : Int) + 1 := by omega
      have ha3 : IntKind.i64.wrap ((aa : Int) + 1) = (aa : Int) + 1 := IntWalk.i64_in _ (by omega)
      have ha4 : (0 : Int) ≤ (aa : Int) := by omega
      have ha5 : (aa : Int) ≤ (X.length : Int) := by omega
      have ha6 : (aa : Int) + 1 ≤ (c1 : Int) := by omega
      have hcx : (X.length : Int) ≤ (c1 : Int) := by omega
      have hc9 : (c1 : Int) ≤ 9223372036854775807 := by omega
      go_cut [14] (fun v wx => ∃ Ao co, v = .slice Ao (X.eraseIdx aa).length co ∧ Hid (MatAt wx 0 Ao (X.eraseIdx aa).length (mkM N' (X.eraseIdx aa))) ∧ Hid (Below x7.heap.size x7 wx))
      case first =>
        have HNl1 := Lib.hid (show ∀ (k : Nat), (some ⟨b1, o1, none⟩ : Option Addr) = none → k = 0 from fun k h => by cases h)
        have HN1 := Lib.hid (show ∀ w', Below x7.heap.size x7 w' → ∀ ad, (some ⟨b1, o1, none⟩ : Option Addr) = some ad → ∀ j u, (rowCells (rs.take aa))[j]? = some u → w'.cell? (ad.add j) = some u from fun w' hb ad he j u hu => HNw.out w' hb ad he j u (rowCells_tk rs aa j u hu))
        have HOn1 := Lib.hid (rowCells_one (rs.take aa))
        have HOn2 := Lib.hid (rowCells_one (rs.drop (aa + 1)))
        by_cases hcy : c1 = aa + 1
        · have HCy := Lib.hid hcy
          clear hcy
          have HNl2 := Lib.hid (show ∀ (k : Nat), (some ⟨b1, o1, none⟩ : Option Addr) = none → k = 0 from fun k h => by cases h)
          have HN2 := Lib.hid (show ∀ w', Below x7.heap.size x7 w' → ∀ ad, (some ⟨b1, o1, none⟩ : Option Addr) = some ad → ∀ j u, (rowCells (rs.drop (aa + 1)))[j]? = some u → w'.cell? (ad.add j) = some u from fun w' hb ad he j u hu => by
            have hlt := (List.getElem?_eq_some_iff.1 hu).1
            rw [HCl2.out] at hlt
            have := HCy.out
            omega)
          go_wp2_with fail
          go_region_held3 (fun w' => w'.cell? ⟨W.heap.size, 1, none⟩ = some (.slice (some ⟨b1, o1, none⟩) X.length c1)) (go_keep) (first
            | (refine step_opt rfl (.tmp 89) (.tmp 93) 22 rfl x7.heap.size 27 i0 (.agg #[.int .i64 0, .slice none 0 0]) 2 32 Tryd.underlying22 HIi.out HZ0.out HZ1.out HZ2.out rfl (by decide) _ 0 [] ?_ O1.out (some ⟨b1, o1, none⟩) aa c1 (rowCells (rs.take aa)) ?_ HCl1.out (HNl1.out _) (HN1.out _ B1.out) HOn1.out v1 v2 s1.out ?_; simp [Act.eval, Act.put]; simp [Act.eval, Act.put]; intro v5 w5 hown hgrow; have hb5 := Below.grown B1.out hgrow B1.out.size (fun k hk => (O1.out.lt k hk).1); obtain ⟨-, kb, -, -⟩ := (Q7.out.keep hb5).two; have O6 := Lib.hid hown; have B6 := Lib.hid hb5; clear hown hgrow hb5)
            | (refine step_opt rfl (.tmp 94) (.tmp 99) 22 rfl x7.heap.size 27 i0 (.agg #[.int .i64 0, .slice none 0 0]) 2 32 Tryd.underlying22 HIi.out HZ0.out HZ1.out HZ2.out rfl (by decide) v5 (0 + aa) _ ?_ O6.out (some ⟨b1, o1, none⟩) (X.length - (aa + 1)) (c1 - (aa + 1)) (rowCells (rs.drop (aa + 1))) ?_ HCl2.out (HNl2.out _) (HN2.out _ B6.out) HOn2.out v3 v4 B6.out.size ?_; simp [Act.eval, Act.put]; simp [Act.eval, Act.put, HCy.out]; intro v7 w7 hown hgrow; have B7 := Lib.hid (Below.grown B6.out hgrow B6.out.size (fun k hk => (O6.out.lt k hk).1)); obtain ⟨A7, c7, rfl, hm7⟩ := own_erase hown HRs.out haa (fun j hj => ⟨(HRp.out j hj).1, (HRp.out j hj).2.1, (HRp.out j hj).2.2.below B7.out⟩); have HM9 := Lib.hid hm7; obtain ⟨-, kd, -, -⟩ := (Q7.out.keep B7.out).two; clear hown hgrow hm7))
          all_goals
            go_wp2_with fail
            go_meet
            exact ⟨A7, c7, rfl, HM9, B7⟩
        · have HCy := Lib.hid hcy
          clear hcy
          have HNl2 := Lib.hid (show ∀ (k : Nat), (some ⟨b1, o1 + (aa + 1) * 2, none⟩ : Option Addr) = none → k = 0 from fun k h => by cases h)
          have HN2 := Lib.hid (show ∀ w', Below x7.heap.size x7 w' → ∀ ad, (some ⟨b1, o1 + (aa + 1) * 2, none⟩ : Option Addr) = some ad → ∀ j u, (rowCells (rs.drop (aa + 1)))[j]? = some u → w'.cell? (ad.add j) = some u from fun w' hb ad he j u hu => by
            have h1 := HNw.out w' hb _ rfl _ u (rowCells_dp rs (aa + 1) j u (by have := HRs.out; omega) hu)
            injection he with he
            subst he
            rw [addr_addW] at h1 ⊢
            rwa [Nat.add_assoc])
          go_wp2_with fail
          go_region_held3 (fun w' => w'.cell? ⟨W.heap.size, 1, none⟩ = some (.slice (some ⟨b1, o1, none⟩) X.length c1)) (go_keep) (first
            | (refine step_opt rfl (.tmp 89) (.tmp 93) 22 rfl x7.heap.size 27 i0 (.agg #[.int .i64 0, .slice none 0 0]) 2 32 Tryd.underlying22 HIi.out HZ0.out HZ1.out HZ2.out rfl (by decide) _ 0 [] ?_ O1.out (some ⟨b1, o1, none⟩) aa c1 (rowCells (rs.take aa)) ?_ HCl1.out (HNl1.out _) (HN1.out _ B1.out) HOn1.out v1 v2 s1.out ?_; simp [Act.eval, Act.put]; simp [Act.eval, Act.put]; intro v5 w5 hown hgrow; have hb5 := Below.grown B1.out hgrow B1.out.size (fun k hk => (O1.out.lt k hk).1); obtain ⟨-, kb, -, -⟩ := (Q7.out.keep hb5).two; have O6 := Lib.hid hown; have B6 := Lib.hid hb5; clear hown hgrow hb5)
            | (refine step_opt rfl (.tmp 94) (.tmp 99) 22 rfl x7.heap.size 27 i0 (.agg #[.int .i64 0, .slice none 0 0]) 2 32 Tryd.underlying22 HIi.out HZ0.out HZ1.out HZ2.out rfl (by decide) v5 (0 + aa) _ ?_ O6.out (some ⟨b1, o1 + (aa + 1) * 2, none⟩) (X.length - (aa + 1)) (c1 - (aa + 1)) (rowCells (rs.drop (aa + 1))) ?_ HCl2.out (HNl2.out _) (HN2.out _ B6.out) HOn2.out v3 v4 B6.out.size ?_; simp [Act.eval, Act.put]; simp [Act.eval, Act.put, HCy.out]; intro v7 w7 hown hgrow; have B7 := Lib.hid (Below.grown B6.out hgrow B6.out.size (fun k hk => (O6.out.lt k hk).1)); obtain ⟨A7, c7, rfl, hm7⟩ := own_erase hown HRs.out haa (fun j hj => ⟨(HRp.out j hj).1, (HRp.out j hj).2.1, (HRp.out j hj).2.2.below B7.out⟩); have HM9 := Lib.hid hm7; obtain ⟨-, kd, -, -⟩ := (Q7.out.keep B7.out).two; clear hown hgrow hm7))
          all_goals
            go_wp2_with fail
            go_meet
            exact ⟨A7, c7, rfl, HM9, B7⟩
      case rest =>
        obtain ⟨Ao, co, rfl, HM9, HB9⟩ := hcut
        obtain ⟨x8, hx8⟩ : ∃ x : World, x = wc := ⟨_, rfl⟩
        subst hx8
        have Q8 := Lib.hid (Q7.out.keep HB9.out)
        have HM8 := Lib.hid (HM7.out.below HB9.out)
        have C8 := Lib.hid (chain C7.out HB9.out)
        obtain ⟨b2, o2, B, lb, cb, hA2, hb2, c0, c1', hsl, hwd⟩ := HM8.out.at aa haa
        obtain ⟨rfl, rfl⟩ : b1 = b2 ∧ o1 = o2 := by simpa using hA2
        rw [mkM_at N' X aa haa] at c0 hwd
        have HWd := Lib.hid (show Words x8 B lb (rowOf N' (X.getD aa 0)) from hwd)
        have HSl := Lib.hid hsl
        have HLb := Lib.hid hb2
        have cN : x8.cell? ⟨b1, o1 + aa * 2, none⟩ = some (.int .i64 (N' : Int)) := c0
        clear c0
        have HFi := Lib.hid (fun w (hb : Below x7.heap.size x7 w) => fits_yes w (HI7.out.below hb))
        have HSv := Lib.hid (fun w (hb : Below x7.heap.size x7 w) => solve_yes w (HI7.out.below hb))
        have DR := Lib.hid (show Below x8.heap.size x8 x8.drew from ⟨rfl, rfl, rfl, Nat.le_refl _, fun _ _ => rfl⟩)
        have QD := Lib.hid (Q8.out.keep DR.out)
        have B8d := Lib.hid (chain HB9.out DR.out)
        have HM9d := Lib.hid (HM9.out.below DR.out)
        have HWdd := Lib.hid (HWd.out.below DR.out)
        clear hwd hsl hA2 hb2 r0 r1 k0 k1 v1 v2 v3 v4 HRs HRp HNw HZ0 HZ1 HZ2 B1 O1 s1 HCl1 HCl2
        obtain ⟨r0, r1, -, -⟩ := Q8.out.two
        generalize zs N' X lw = Z at *
        generalize (X.eraseIdx aa) = XE at *
        generalize (X.getD aa 0) = xa at *
        go_upto_region 10 with (fail)
        go_cut [15, 16] (fun a e wx => ∃ b : Bool, a = .bool b ∧ e = .int .i64 0 ∧ Hid (b = true ↔ Sp XE xa) ∧ Hid (Below x8.heap.size x8 wx))
        case first =>
          go_wp2_with fail
          go_region_held3 (fun w' => w'.cell? ⟨W.heap.size, 0, none⟩ = some (.int .i64 (N' : Int)) ∧ w'.cell? ⟨W.heap.size, 1, none⟩ = some (.slice (some ⟨b1, o1, none⟩) X.length c1) ∧ w'.cell? ⟨b1, o1 + aa * 2, none⟩ = some (.int .i64 (N' : Int)) ∧ w'.cell? ⟨b1, o1 + aa * 2 + 1, none⟩ = some (.slice B lb cb)) (go_keep) (first
            | (go_at_call 13; refine (HSp.out _ B8d.out Ao co HM9d.out B lb cb HWdd.out HSl.out).mono ?_; rintro e y ⟨sb, hsb, rfl, hb⟩; have HSb := Lib.hid hsb; have HBy := Lib.hid (DR.out.trans (hb.mono DR.out.size)); obtain ⟨g0, g1, -, -⟩ := (QD.out.keep hb).two; have g2 := (HBy.out.cell (p := ⟨b1, o1 + aa * 2, none⟩) HLb.out).trans cN; have g2 : y.cell? ⟨b1, o1 + aa * 2, none⟩ = some (.int .i64 (N' : Int)) := g2; have g3 := (HBy.out.cell (p := ⟨b1, o1 + aa * 2 + 1, none⟩) HLb.out).trans c1'; clear hsb hb))
          all_goals
            go_wp2_with fail
            go_meet
            exact ⟨sb, rfl, rfl, HSb, HBy⟩
        case rest =>
          obtain ⟨sb, rfl, rfl, HSb, HBx⟩ := hcut
          obtain ⟨x9, hx9⟩ : ∃ x : World, x = wc := ⟨_, rfl⟩
          subst hx9
          have Q9 := Lib.hid (Q8.out.keep HBx.out)
          have D9 := Lib.hid (chain HB9.out HBx.out)
          clear r0 r1 cN c1' HBx QD B8d HM9d HWdd DR
          obtain ⟨r0, r1, -, -⟩ := Q9.out.two
          go_wp2_with fail
          refine (HFi.out _ D9.out).mono ?_
          rintro e xa1 ⟨bf, hbf, rfl, hb⟩
          have HBf := Lib.hid hbf
          have Q9 := Lib.hid (Q9.out.keep hb)
          have D9 := Lib.hid (chain D9.out hb)
          clear hbf hb r0 r1
          obtain ⟨r0, r1, -, -⟩ := Q9.out.two
          go_wp2_with fail
          refine (HSv.out _ D9.out).mono ?_
          rintro e xa2 ⟨E1, blks1, B1, e1, rfl, ht1, hl1, hk1, hq1, hres1, hb⟩
          have D9 := Lib.hid (chain D9.out hb)
          have HRs1 := Lib.hid hres1
          have hFB : bf = !sb := by
            have h1 := HBf.out
            have h2 := HSb.out
            have h3 := HFt.out
            cases sb with
            | true => cases bf with
              | true => exact absurd (h2.1 rfl) (h3.1 (h1.1 rfl))
              | false => rfl
            | false => cases bf with
              | true => rfl
              | false => exact absurd (h1.2 (h3.2 fun h => by have := h2.2 h; cases this)) (by decide)
          subst hFB
          have hE1 : (E1 == 10) = sb := by
            have h1 := HBf.out
            rcases HRs1.out with ⟨h2, h3, -⟩ | ⟨h2, h3, -⟩ | ⟨h2, h3, -⟩
            · subst h2
              cases sb with
              | true => rfl
              | false => exact absurd (h1.1 rfl) h3
            · subst h2
              cases sb with
              | true => have := h1.2 h3; cases this
              | false => rfl
            · subst h2
              cases sb with
              | true => have := h1.2 h3; cases this
              | false => rfl
          clear ht1 hres1 hb r0 r1 hl1 hk1 hq1
          go_wp2_with fail
          refine (alive5_any _).mono ?_
          rintro e xa3 ⟨rfl, hb⟩
          have HFin := Lib.hid (chain HB2.out (chain C7.out (chain D9.out hb)))
          clear hb
          go_wp2_with fail
          go_ret
          exact ⟨by cases sb <;> simp [hE1], HFin.out⟩
  · have he : ¬ appE n N fs ts = 0 := by
      intro h
      apply hE
      rw [appE] at h
      split at h
      · split at h
        · split at h
          · simp [appB, *]
          · cases h
        · cases h
      · cases h
    have hLs : appL n N fs ts = [] := by rw [appL, if_neg hE]
    rw [hLs] at HAp
    obtain ⟨E, hEe⟩ : ∃ E, E = appE n N fs ts := ⟨_, rfl⟩
    rw [← hEe] at HAp he
    have tE : (E != 0) = true := by simpa using he
    have HAp := Lib.hid HAp
    clear hE he hLs hEe
    go_wp2_with fail
    refine HAp.out.mono ?_
    rintro e x3 ⟨A3, c3, rfl, -, -, -, hb, -⟩
    have C3 := Lib.hid (chainN B1.out B1.out.size hb)
    clear hb
    go_wp2_with fail
    refine (alive5_any _).mono ?_
    rintro e x4 ⟨rfl, hb⟩
    have HBf := Lib.hid (chain C3.out hb)
    clear hb
    go_wp2_with fail
    go_ret
    exact ⟨by simp, HBf.out⟩
end
section
/- How a row (a struct with a slice of words) and a slice of ints that came in are opened. -/
set_option linter.unusedVariables false
set_option linter.unusedSimpArgs false
open Go.RowKit Go.Joins Go.ChangeShapes Go.WideShapes
theorem cellsRow : Tryd.prog.cellsOf 27 = 2 := by kernel_rfl
set_option maxRecDepth 100000 in
theorem open_row {H : Type} {enc : TypeId × Value → H} {W : World} {r : Reach} {b0 : Nat} {v : Value} {d : DataW H} {p : List MemPlace}
    (hv : Value.okWide Tryd.prog W r b0 27 v) (h : DataW.Trod enc Tryd.prog W 0 (fun _ => true) true 27 v d p) :
    ∃ n A l c us, v = .agg #[.int .i64 n, .slice A l c] ∧ (Lit.int .i64 n).wf = true ∧ SliceOk A l c ∧ Words W A l us := by
  obtain ⟨c0, c1, y0, y1, m, rfl, rfl, rfl, hy0, hy1⟩ := open_agg2 Tryd.underlying27 (by kernel_rfl) cellsRow hv h
  obtain ⟨a, e0, -, wa⟩ := DataW.trod_int Tryd.underlying3 hy0
  obtain ⟨A, l, c, us, e1, hs, hw⟩ := open_words hy1
  simp at e0 e1
  subst e0 e1
  exact ⟨a, A, l, c, us, rfl, wa, hs, hw⟩
end
section
/- How a slice of texts that came in is opened. -/
set_option linter.unusedVariables false
set_option linter.unusedSimpArgs false
open Go.RowKit Go.Joins Go.ChangeShapes Go.WideShapes
theorem cellsStr : Tryd.prog.cellsOf 9 = 1 := by kernel_rfl
theorem open_texts {H : Type} {enc : TypeId × Value → H} {W : World} {fuel : Nat} {cs : List Value} {x : DataW H × List MemPlace}
    (h : DataW.trod enc Tryd.prog W 0 (fun _ => true) true fuel 44 cs = some x) : ∃ A l c ss, cs = [.slice A l c] ∧ SliceOk A l c ∧ Texts W A l ss := by
  rcases open_strings Tryd.underlying44 Tryd.underlying9 cellsStr h with ⟨hcs, _⟩ | ⟨a, len, cap, ss, hcs, _, hl, hm, hz, _, hcell, hwz⟩
  · exact ⟨none, 0, 0, [], hcs, ⟨Nat.le_refl _, Nat.zero_le _, fun _ => ⟨rfl, rfl⟩⟩, Texts.nil _ _⟩
  · have hz' : ss.length = cap := by simpa using hz
    refine ⟨some a, len, cap, ss.take len, hcs, ⟨hl, hm, fun h => by cases h⟩, ?_⟩
    have hget : ∀ j, j < len → (ss.take len).getD j ByteArray.empty = ss.getD j ByteArray.empty := fun j hj => by
      simp [List.getD, hj]
    refine ⟨by simp; omega, fun j => ?_, fun hp => ?_⟩
    · by_cases hj : j < len
      · rw [hget j hj]
        have hjs : j < ss.length := by omega
        have := hwz (ss[j]) (List.getElem_mem _)
        simpa [List.getD, hjs] using this
      · have hn : (ss.take len)[j]? = none := List.getElem?_eq_none (by simp; omega)
        simp [List.getD, hn, maxLen]
    · obtain ⟨b, o, rfl⟩ := addr_at (hcell 0 (by omega))
      have hadd : ∀ j, Addr.add { block := b, off := o } j = ⟨b, o + j, none⟩ := fun j => by
        by_cases h : j = 0 <;> simp [Addr.add, h]
      refine ⟨b, o, rfl, ?_, fun j hj => ?_⟩
      · have := block_lt_of_cell (hcell 0 (by omega))
        rw [hadd] at this
        exact this
      · have := hcell j (by omega)
        rw [hadd] at this
        rw [this, hget j hj]
end
end Go.Proofs.YtdfmogcgangdnaaDoor
