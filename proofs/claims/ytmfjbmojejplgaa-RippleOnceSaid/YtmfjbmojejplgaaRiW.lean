/- Layer 14: RippleOnce: the walk. -/
import Derived.Test.YtmfjbmojejplgaaRiV
namespace Go.Proofs.Ytmfjbmojejplgaa
set_option linter.unusedVariables false
set_option linter.unusedSimpArgs false
open Go.RowKit Go.Sort
set_option maxRecDepth 100000
theorem deed_info : (Try.prog.info? 42).map (fun i => (i.zero, i.size, i.bytes)) = some (some (.agg #[.bool false, .int .i64 0, .int .u64 0]), 3, 24) := by kernel_rfl
theorem encG_one (x : DeR) : ∀ u ∈ encG x, u.oneCell' = true := by
  intro u hu
  simp [encG] at hu
  rcases hu with rfl | rfl | rfl <;> rfl
theorem all_drs {w : World} {base a b m : Nat} {v : Value} {xs ys : List DrR} (h : w.ownsRow base 24 2 v (0 + a + b) (([] ++ xs.flatMap encD) ++ ys.flatMap encD)) (hx : xs.length = a) (hy : ys.length = b) (hm : a + b = m) : ∃ A c, v = .slice A m c ∧ SliceOk A m c ∧ Drs w A m (xs ++ ys) := by
  rw [List.nil_append, ← List.flatMap_append, Nat.zero_add, hm] at h
  obtain ⟨A, c, rfl, -⟩ := own_form h
  exact ⟨A, c, rfl, own_okD h, own_recs encD_len h (by decide)⟩
set_option maxHeartbeats 32000000 in
theorem ronce_any (A : Option Addr) (l cp : Nat) (ds : List DeR) (hs : SliceOk A l cp) (w : World) (hH : Des w A l ds) :
    Calls Try.prog 5 #[.slice A l cp] w fun e w' => e = .returned (.bool true) ∧ Below w.heap.size w w' := by
  obtain ⟨i0, hi, hz0, hz1, hz2⟩ := info_parts drop_info
  have HI := Lib.hid hi
  have HZ0 := Lib.hid hz0
  have HZ1 := Lib.hid hz1
  have HZ2 := Lib.hid hz2
  clear hi hz0 hz1 hz2
  obtain ⟨i1, hi, hz0, hz1, hz2⟩ := info_parts deed_info
  have GI := Lib.hid hi
  have GZ0 := Lib.hid hz0
  have GZ1 := Lib.hid hz1
  have GZ2 := Lib.hid hz2
  clear hi hz0 hz1 hz2
  have hD := Recs.take hH (min l 80) (by omega)
  have hn80 : min l 80 ≤ 80 := by omega
  clear hH
  go_enter Try.func5, Try.ntmps5
  go_upto_region 1 with (fail)
  go_cut [0] (fun v wx => v = .slice A (min l 80) cp ∧ wx = w)
  case first =>
    obtain ⟨hl, hc, hn⟩ := hs
    unfold maxLen at hc
    cases A with
    | none =>
      obtain ⟨rfl, rfl⟩ := hn rfl
      clear hn hl hc hD HI HZ0 HZ1 HZ2 GI GZ0 GZ1 GZ2
      go_wp2_with fail
      go_meet
      exact ⟨rfl, rfl⟩
    | some ad =>
      clear hn
      by_cases h : l ≤ 80
      · have g1 : (l : Int) ≤ 80 := by omega
        have g2 : ¬ (80 : Int) < l := by omega
        have g3 : (l : Int) ≤ cp := by omega
        have HE := Lib.hid (show min l 80 = l by omega)
        clear hl hc h hD hn80 HI HZ0 HZ1 HZ2 GI GZ0 GZ1 GZ2
        go_wp2_with fail
        rw [show (min (l : Int) 80).toNat = l by omega]
        go_meet
        exact ⟨by rw [HE.out], rfl⟩
      · have g1 : (80 : Int) < l := by omega
        have g2 : (80 : Int) ≤ cp := by omega
        have HE := Lib.hid (show min l 80 = 80 by omega)
        clear hl hc h hD hn80 HI HZ0 HZ1 HZ2 GI GZ0 GZ1 GZ2
        go_wp2_with fail
        rw [show (min (l : Int) 80).toNat = 80 by omega]
        go_meet
        exact ⟨by rw [HE.out], rfl⟩
  case rest =>
    obtain ⟨rfl, rfl⟩ := hcut
    clear hs
    generalize ds.take (min l 80) = es at *
    generalize min l 80 = n at *
    have HD := Lib.hid hD
    have HLn := Lib.hid hD.1
    have HRun := Lib.hid (fun (w' : World) (hw : Des w' A n es) => run14_any A n cp es w' hw (by omega))
    obtain ⟨b1, b2, b3, -⟩ := runL_le es
    have q1 : (runL es).tk.length ≤ 80 := by have := hD.1; omega
    have q2 : (runL es).lf.length ≤ 80 := by have := hD.1; omega
    have q3 : (runL es).vn ≤ 80 := by have := hD.1; omega
    have HAll := Lib.hid (runL_all es)
    have HCnt := Lib.hid (runL_count es)
    have HTake := Lib.hid (runL_perm es).2
    have HNx := Lib.hid (taken_next es)
    have HL1 := Lib.hid (show (runL es).tk.length = (runL es).tk.length from rfl)
    have HL2 := Lib.hid (show (runL es).lf.length = (runL es).lf.length from rfl)
    clear hD b1 b2 b3
    obtain ⟨st, hst⟩ : ∃ st, runL es = st := ⟨_, rfl⟩
    rw [hst] at HRun q1 q2 q3 HAll HCnt HTake HNx HL1 HL2
    clear hst
    go_wp2_with fail
    refine (HRun.out _ HD.out).mono ?_
    rintro e w1 ⟨A1, c1, A2, c2, rfl, s1, s2, h1, h2, hb⟩
    have Nil1 := Lib.hid (show A1 = none → st.tk.length = 0 from fun e => (s1.2.2 e).1)
    have Nil2 := Lib.hid (show A2 = none → st.lf.length = 0 from fun e => (s2.2.2 e).1)
    have X1 := Lib.hid h1
    have X2 := Lib.hid h2
    have HB := Lib.hid hb
    have HD1 := Lib.hid (Recs.below HD.out hb)
    clear s1 s2 h1 h2 hb HRun HD
    go_wp2_with fail
    go_loopw [6, 7, 35] (fun V s t wr => ∃ i : Nat, i ≤ n ∧ t = .int .i64 (i : Int) ∧ s = .int .i64 (takeL (es.take i) : Int) ∧ Hid (wr.ownsRow w1.heap.size 24 2 V (pushL (es.take i)).length ((pushL (es.take i)).flatMap encD)) ∧ Hid (Below w1.heap.size w1 wr)) (fun _ _ t _ => n - (intOf t).toNat)
    case atStart => exact ⟨0, Nat.zero_le _, rfl, rfl, Lib.hid (World.ownsRow_nil _ _ _ _), Lib.hid (Below.refl _ _)⟩
    case round =>
      obtain ⟨i, hi, rfl, rfl, HO, HC⟩ := hrel
      have hpl : (pushL (es.take i)).length ≤ 80 := by
        have := pushL_le (es.take i)
        rw [List.length_take] at this
        omega
      have htl : (takeL (es.take i) : Int) ≤ 80 := by
        have := takeL_le (es.take i)
        rw [List.length_take] at this
        omega
      by_cases hlt : i < n
      · have hlt' : (i : Int) < (n : Int) := Int.ofNat_lt.2 hlt
        have hi5 : (i : Int) < 1000000 := by omega
        obtain ⟨b, off, rfl, hlb, d0, d1, d2⟩ := Des.cells HD1.out HC.out i hlt
        obtain ⟨w5, rfl⟩ : ∃ w5 : World, w5 = wr := ⟨_, rfl⟩
        have HPn := Lib.hid (pushL_snoc es i (by rw [HLn.out]; exact hlt))
        have HTn := Lib.hid (takeL_snoc es i (by rw [HLn.out]; exact hlt))
        have G := Lib.hid (Box.new w5 42 (deA (deAt es i)))
        have c1 : Below w5.heap.size w5 (w5.alloc (.cells (deA (deAt es i)) 42)) := (Below.refl _ _).alloc (Nat.le_refl _) _
        have HO1 := Lib.hid (own_keep HO.out c1)
        have HC1 := Lib.hid (chain HC.out c1)
        generalize deAt es i = de at *
        obtain ⟨tkb, d⟩ := de
        generalize pushL (es.take i) = ps at *
        generalize takeL (es.take i) = tn at *
        have g0 := G.out.cell 0
        have g1 := G.out.cell 1
        have g2 := G.out.cell 2
        simp only [List.getElem?_toArray, List.getElem?_cons_zero, List.getElem?_cons_succ] at g0 g1 g2
        clear HO HC c1 HAll HCnt HTake HNx HL1 HL2 Nil1 Nil2 X1 X2 HB HD1 GI GZ0 GZ1 GZ2
        cases tkb with
        | true =>
          have hp2 : pushL (es.take (i + 1)) = ps := by rw [HPn.out, if_pos rfl]
          have ht2 : takeL (es.take (i + 1)) = tn + 1 := by rw [HTn.out, if_pos rfl]
          have HP2 := Lib.hid hp2
          have HT2 := Lib.hid ht2
          clear hp2 ht2 HPn HTn
          go_wp2_with fail
          go_roundw
          case rel =>
            refine ⟨i + 1, hlt, by go_num, ?_, ?_, HC1⟩
            · rw [HT2.out]; go_num
            · rw [HP2.out]; exact HO1
          case measure => simp [intOf] <;> omega
        | false =>
          have hp2 : pushL (es.take (i + 1)) = ps ++ [d] := by rw [HPn.out, if_neg (by simp)]
          have ht2 : takeL (es.take (i + 1)) = tn := by rw [HTn.out, if_neg (by simp)]
          have HP2 := Lib.hid hp2
          have HT2 := Lib.hid ht2
          clear hp2 ht2 HPn HTn
          have c2 : Below (w5.alloc (.cells (deA (false, d)) 42)).heap.size (w5.alloc (.cells (deA (false, d)) 42)) ((w5.alloc (.cells (deA (false, d)) 42)).alloc (.cells (drA d) 24)) := (Below.refl _ _).alloc (Nat.le_refl _) _
          have ZO := Lib.hid (own_keep HO1.out c2)
          have ZB := Lib.hid (chain HC1.out c2)
          have bx := Box.new (w5.alloc (.cells (deA (false, d)) 42)) 24 (drA d)
          simp only [World.size_alloc] at bx
          have NW := Lib.hid (fun j u hu => news_boxR (cs := encD d) (show Box _ _ _ (encD d).toArray from bx) ⟨w5.heap.size + 1, 0, none⟩ rfl j u hu)
          have N2 := Lib.hid (fun g hg => (ZO.out.lt g hg).1)
          clear c2 bx HO1 HC1
          go_wp2_with (at_builtin; refine wpList_append_own _ rfl _ _ 25 rfl w1.heap.size 24 i0 _ 2 16 Try.underlying25 HI.out HZ0.out HZ1.out HZ2.out rfl (by decide) _ _ _ rfl ZO.out ⟨w5.heap.size + 1, 0, none⟩ 1 1 (encD d) rfl rfl NW.out (encD_one d) (by simp [maxLen]; omega) (by omega) ZB.out.size ?_; intro v' w2 hown' hgrow _; have HC2 := Lib.hid (ZB.out.grown hgrow ZB.out.size N2.out); have HO2 := Lib.hid hown'; clear hown' hgrow)
          go_roundw
          case rel =>
            refine ⟨i + 1, hlt, by go_num, by rw [HT2.out], ?_, HC2⟩
            rw [HP2.out, List.length_append, flat_snoc]
            exact HO2
          case measure => simp [intOf] <;> omega
      · obtain rfl : n = i := by omega
        have hlt' : ¬ (n : Int) < (n : Int) := Int.lt_irrefl _
        have hT : es.take n = es := List.take_of_length_le (by rw [HLn.out]; exact Nat.le_refl _)
        rw [hT] at HO hpl htl
        rw [hT, ← HTake.out]
        clear hT htl HTake
        generalize pushL es = ps at *
        obtain ⟨A4, c4, rfl, -⟩ := own_form HO.out
        have XP := Lib.hid (own_recs encD_len HO.out (by decide))
        have SP := Lib.hid (own_okD HO.out)
        have X1 := Lib.hid (Recs.below X1.out HC.out)
        have X2 := Lib.hid (Recs.below X2.out HC.out)
        have HD1 := Lib.hid (Recs.below HD1.out HC.out)
        have HB := Lib.hid (chain HB.out HC.out)
        clear HO HC
        have u1 : Below wr.heap.size wr (wr.alloc (.cells #[] 24)) := (Below.refl _ _).alloc (Nat.le_refl _) _
        have B1 := Lib.hid u1
        have O1 := Lib.hid (own_of_box0 (size := 2) (Box.new wr 24 #[]) (Nat.le_refl wr.heap.size))
        have N1 := Lib.hid (Recs.news (Recs.below X1.out u1) encD_len (by decide))
        have HNews2 := Lib.hid (fun (w' : World) (hb : Below wr.heap.size wr w') => Recs.news (Recs.below X2.out hb) encD_len (by decide))
        have CL1 := Lib.hid (show (st.tk.flatMap encD).length = st.tk.length * 2 by rw [flat_len encD_len])
        have CL2 := Lib.hid (show (st.lf.flatMap encD).length = st.lf.length * 2 by rw [flat_len encD_len])
        have One1 := Lib.hid (flat_one (xs := st.tk) encD_one)
        have One2 := Lib.hid (flat_one (xs := st.lf) encD_one)
        have v1 : 0 + st.tk.length ≤ maxLen := by unfold maxLen; omega
        have v2 : (0 + st.tk.length) * 16 ≤ 140737488355328 := by omega
        have v3 : 0 + st.tk.length + st.lf.length ≤ maxLen := by unfold maxLen; omega
        have v4 : (0 + st.tk.length + st.lf.length) * 16 ≤ 140737488355328 := by omega
        have s1 := Lib.hid B1.out.size
        clear u1
        go_wp2_with (first
          | (refine wpList_opt rfl (.tmp 49) (.tmp 50) 25 rfl wr.heap.size 24 i0 (.agg #[.int .i64 0, .int .u64 0]) 2 16 Try.underlying25 HI.out HZ0.out HZ1.out HZ2.out rfl (by decide) _ 0 [] (by rfl) O1.out A1 st.tk.length c1 (st.tk.flatMap encD) (by rfl) CL1.out Nil1.out N1.out One1.out v1 v2 s1.out ?_; intro v5 w5 hown hgrow; have B5 := Lib.hid (Below.grown B1.out hgrow B1.out.size (fun k hk => (O1.out.lt k hk).1)); have O5 := Lib.hid hown; have N2 := Lib.hid (HNews2.out _ B5.out); clear hown hgrow)
          | (refine wpList_opt rfl (.tmp 51) (.tmp 52) 25 rfl wr.heap.size 24 i0 (.agg #[.int .i64 0, .int .u64 0]) 2 16 Try.underlying25 HI.out HZ0.out HZ1.out HZ2.out rfl (by decide) _ (0 + st.tk.length) _ (by rfl) O5.out A2 st.lf.length c2 (st.lf.flatMap encD) (by rfl) CL2.out Nil2.out N2.out One2.out v3 v4 B5.out.size ?_; intro v7 w7 hown hgrow; have B7 := Lib.hid (Below.grown B5.out hgrow B5.out.size (fun k hk => (O5.out.lt k hk).1)); obtain ⟨A7, c7, rfl, hs7, hm7⟩ := all_drs hown rfl rfl HCnt.out; have HM7 := Lib.hid hm7; have HS7 := Lib.hid hs7; clear hown hgrow hm7 hs7))
        have X1 := Lib.hid (Recs.below X1.out B7.out)
        have XP := Lib.hid (Recs.below XP.out B7.out)
        have HD1 := Lib.hid (Recs.below HD1.out B7.out)
        have HB := Lib.hid (chain HB.out B7.out)
        clear X2 HNews2 CL1 CL2 One1 One2 v1 v2 v3 v4 s1 O1 N1 B1 O5 B5 N2 B7 HI HZ0 HZ1 HZ2 Nil1 Nil2 HCnt
        have HSA := Lib.hid (fun (w' : World) (hw : Drs w' A7 ps.length (st.tk ++ st.lf)) => sorted_any A7 ps.length c7 (st.tk ++ st.lf) w' HS7.out.2.2 hw (by omega))
        have HSP := Lib.hid (fun (w' : World) (hw : Drs w' A4 ps.length ps) => sorted_any A4 ps.length c4 ps w' SP.out.2.2 hw (by omega))
        have HPL := Lib.hid (srtD_len ps)
        refine (HSA.out _ HM7.out).mono ?_
        rintro e w2 ⟨A8, c8, rfl, -, h8, hb⟩
        rw [HAll.out] at h8
        rw [HAll.out]
        have X8 := Lib.hid h8
        have X1 := Lib.hid (Recs.below X1.out hb)
        have XP := Lib.hid (Recs.below XP.out hb)
        have HD1 := Lib.hid (Recs.below HD1.out hb)
        have HB := Lib.hid (chain HB.out hb)
        clear h8 hb HSA HM7 HAll
        go_wp2_with fail
        refine (HSP.out _ XP.out).mono ?_
        rintro e w3 ⟨A9, c9, rfl, -, h9, hb⟩
        have X9 := Lib.hid h9
        have X8 := Lib.hid (Recs.below X8.out hb)
        have X1 := Lib.hid (Recs.below X1.out hb)
        have XP := Lib.hid (Recs.below XP.out hb)
        have HD1 := Lib.hid (Recs.below HD1.out hb)
        have HB := Lib.hid (chain HB.out hb)
        clear h9 hb
        go_wp2_with fail
        refine (refSame14_same A8 A9 _ c8 c9 (srtD ps) _ X8.out X9.out (by rw [HPL.out]; omega)).mono ?_
        rintro e w4 ⟨rfl, hb⟩
        have X1 := Lib.hid (Recs.below X1.out hb)
        have XP := Lib.hid (Recs.below XP.out hb)
        have HD1 := Lib.hid (Recs.below HD1.out hb)
        have HB := Lib.hid (chain HB.out hb)
        clear hb X8 X9
        go_wp2_with fail
        refine (alive14_any _).mono ?_
        rintro e w5 ⟨rfl, hb⟩
        have X1 := Lib.hid (Recs.below X1.out hb)
        have XP := Lib.hid (Recs.below XP.out hb)
        have HD1 := Lib.hid (Recs.below HD1.out hb)
        have HB := Lib.hid (chain HB.out hb)
        clear hb
        go_wp2_with fail
        go_loopw [11, 12, 13, 81] (fun a b c t wr => ∃ (i : Nat) (last : Int), i ≤ n ∧ t = .int .i64 (i : Int) ∧ a = .int .i64 ((runL (es.take i)).lf.length : Int) ∧ b = .int .i64 ((runL (es.take i)).tk.length : Int) ∧ c = .int .i64 last ∧ Hid (LastI (runL (es.take i)) last) ∧ Hid (Below w5.heap.size w5 wr)) (fun _ _ _ t _ => n - (intOf t).toNat)
        case atStart => exact ⟨0, -1, Nat.zero_le _, rfl, rfl, rfl, rfl, Lib.hid (.inl rfl), Lib.hid (Below.refl _ _)⟩
        case round =>
          obtain ⟨i, last, hi, rfl, rfl, rfl, rfl, HLa, HC⟩ := hrel
          by_cases hlt : i < n
          · have hlt' : (i : Int) < (n : Int) := Int.ofNat_lt.2 hlt
            have hi5 : (i : Int) < 1000000 := by omega
            obtain ⟨b1, b2, b3, b4⟩ := runL_le (es.take i)
            have hlt0 : (es.take i).length ≤ 80 := by rw [List.length_take]; omega
            have hk1 : (runL (es.take i)).tk.length ≤ 80 := by omega
            have hk2 : (runL (es.take i)).lf.length ≤ 80 := by omega
            have HOr := Lib.hid b4
            clear b1 b2 b3 b4 hlt0
            obtain ⟨b, off, rfl, hlb, d0, d1, d2⟩ := Des.cells HD1.out HC.out i hlt
            obtain ⟨w6, rfl⟩ : ∃ w6 : World, w6 = wr := ⟨_, rfl⟩
            have HSn := Lib.hid (runL_snoc es i (by rw [HLn.out]; exact hlt))
            have HNi := Lib.hid (HNx.out i (by rw [HLn.out]; exact hlt))
            have G := Lib.hid (Box.new w6 42 (deA (deAt es i)))
            have c1 : Below w6.heap.size w6 (w6.alloc (.cells (deA (deAt es i)) 42)) := (Below.refl _ _).alloc (Nat.le_refl _) _
            have HC1 := Lib.hid (chain HC.out c1)
            generalize deAt es i = de at *
            obtain ⟨tkb, d⟩ := de
            generalize runL (es.take i) = S at *
            have g0 := G.out.cell 0
            have g1 := G.out.cell 1
            have g2 := G.out.cell 2
            simp only [List.getElem?_toArray, List.getElem?_cons_zero, List.getElem?_cons_succ] at g0 g1 g2
            clear HC c1 HSP HB HD1 GI GZ0 GZ1 GZ2 SP XP HNx
            cases tkb with
            | false =>
              have hs2 : runL (es.take (i + 1)) = ⟨S.tk, withD S.lf d, S.vn⟩ := HSn.out
              have HS2 := Lib.hid hs2
              have HWl := Lib.hid (withD_len S.lf d)
              clear hs2 HSn HNi HLa HOr X1
              go_wp2_with fail
              go_roundw
              case rel =>
                refine ⟨i + 1, -1, hlt, by go_num, ?_, ?_, rfl, Lib.hid (.inl rfl), HC1⟩
                · rw [HS2.out]; show _ = Value.int .i64 ((withD S.lf d).length : Int); rw [HWl.out]; go_num
                · rw [HS2.out]
              case measure => simp [intOf] <;> omega
            | true =>
              cases hlf : S.lf with
              | nil =>
                have hs2 : runL (es.take (i + 1)) = ⟨S.tk, [], S.vn + 1⟩ := by rw [HSn.out]; unfold stepR; rw [if_pos rfl, hlf]
                have HS2 := Lib.hid hs2
                have HLa2 := Lib.hid (last_vain (s' := ⟨S.tk, [], S.vn + 1⟩) HLa.out rfl rfl)
                clear hs2 hlf HSn HNi HLa HOr X1
                rw [show (([] : List DrR).length : Int) = 0 from rfl]
                go_wp2_with fail
                go_roundw
                case rel =>
                  refine ⟨i + 1, last, hlt, by go_num, ?_, ?_, rfl, ?_, HC1⟩
                  · rw [HS2.out]; rfl
                  · rw [HS2.out]
                  · rw [HS2.out]; exact HLa2
                case measure => simp [intOf] <;> omega
              | cons y r =>
                obtain ⟨m1, m2, m3, m4⟩ := HNi.out d y r rfl hlf
                have HS2 := Lib.hid m3
                have HLa2 := Lib.hid (last_take (s := S) (s' := ⟨S.tk ++ [y], r, S.vn⟩) (y := y) (r := r) (by have := HOr.out; rwa [hlf] at this) rfl rfl)
                have HM4 := Lib.hid m4
                have HM2 := Lib.hid m2
                have hne : (((S.tk.length : Nat) : Int) == ((st.tk.length : Nat) : Int)) = false := by
                  rw [beq_eq_false_iff_ne]; omega
                have hlt2 : (S.tk.length : Int) < (st.tk.length : Int) := by omega
                have hz : ((((y :: r).length : Nat) : Int)) = (r.length : Int) + 1 := by rw [List.length_cons]; omega
                have hrl : r.length < 80 := by have := hk2; rw [hlf, List.length_cons] at this; omega
                have hz2 : ((r.length : Int) + 1 == 0) = false := by rw [beq_eq_false_iff_ne]; omega
                rw [hz]
                obtain ⟨bb, oo, rfl, lt1, e0, e1⟩ := Drs.cells X1.out HC1.out S.tk.length m1
                rw [m2] at e0 e1
                have hkp : (0 : Int) ≤ (S.tk.length : Int) := Int.natCast_nonneg _
                have hrp : (0 : Int) ≤ (r.length : Int) := Int.natCast_nonneg _
                have HTk := Lib.hid (show (S.tk ++ [y]).length = S.tk.length + 1 by simp)
                rcases HLa.out with hla | ⟨m, hla, hm, hall⟩
                · subst hla
                  clear m1 m2 m3 m4 hz HSn HNi HLa HOr X1 hlf HM4 HM2
                  go_upto_region 25 with (fail)
                  go_quiet (fail)
                  go_wp2_with fail
                  go_roundw
                  case rel =>
                    refine ⟨i + 1, (S.tk.length : Int), hlt, by go_num, ?_, ?_, rfl, ?_, ?_⟩
                    · rw [HS2.out]
                    · rw [HS2.out]; show _ = Value.int .i64 ((S.tk ++ [y]).length : Int); rw [HTk.out]; go_num
                    · rw [HS2.out]; exact HLa2
                    · exact Lib.hid (bdN HC1.out _)
                  case measure => simp [intOf] <;> omega
                · subst hla
                  have hbf := m4 m hm hall
                  obtain ⟨b2, o2, he, lt2, f0, f1⟩ := Drs.cells X1.out HC1.out m (by omega)
                  injection he with he
                  injection he with he1 he2
                  subst he1 he2
                  have HON := Lib.hid hbf
                  have hm1 : (m : Int) < (st.tk.length : Int) := by omega
                  have hm2 : (0 : Int) ≤ (m : Int) := Int.natCast_nonneg _
                  have hm3 : (m : Int) < 1000000 := by omega
                  have hd1 : decide ((0 : Int) ≤ (m : Int)) = true := decide_eq_true hm2
                  have HMm := Lib.hid hm
                  clear hall m1 m2 m3 m4 hz HSn HNi HLa HOr hlf HM4 HM2 hbf
                  generalize drAt st.tk m = z at *
                  have HXk := Lib.hid (show ∀ x1, Below (w6.alloc (.cells (deA (true, d)) 42)).drew.heap.size (w6.alloc (.cells (deA (true, d)) 42)).drew x1 → x1.cell? ⟨bb, oo + S.tk.length * 2, none⟩ = some (.int .i64 y.1) ∧ x1.cell? ⟨bb, oo + S.tk.length * 2 + 1, none⟩ = some (.int .u64 (y.2 : Int)) ∧ x1.cell? ⟨bb, oo + m * 2, none⟩ = some (.int .i64 z.1) ∧ x1.cell? ⟨bb, oo + m * 2 + 1, none⟩ = some (.int .u64 (z.2 : Int)) from fun x1 hb => by
                    have lt1' : bb < (w6.alloc (.cells (deA (true, d)) 42)).drew.heap.size := Nat.lt_of_lt_of_le lt1 HC1.out.size
                    exact ⟨(hb.cell (p := ⟨bb, oo + S.tk.length * 2, none⟩) lt1').trans e0, (hb.cell (p := ⟨bb, oo + S.tk.length * 2 + 1, none⟩) lt1').trans e1, (hb.cell (p := ⟨bb, oo + m * 2, none⟩) lt1').trans f0, (hb.cell (p := ⟨bb, oo + m * 2 + 1, none⟩) lt1').trans f1⟩)
                  clear hm
                  generalize S.tk.length = sl at *
                  go_upto_region 25 with (fail)
                  go_region_held3 (fun (w' : World) => w'.cell? ⟨bb, oo + sl * 2, none⟩ = some (.int .i64 y.1) ∧ w'.cell? ⟨bb, oo + sl * 2 + 1, none⟩ = some (.int .u64 (y.2 : Int)) ∧ w'.cell? ⟨bb, oo + m * 2, none⟩ = some (.int .i64 z.1) ∧ w'.cell? ⟨bb, oo + m * 2 + 1, none⟩ = some (.int .u64 (z.2 : Int))) (go_keep) (first
                    | (go_at_call 10; refine (before_any y z _).mono ?_; rintro e1 x1 ⟨rfl, hb⟩; rw [HON.out]; have HC2 := Lib.hid (chain HC1.out.drew hb); have c1 := HXk.out x1 hb; obtain ⟨h0, h1, h2, h3⟩ := c1; clear hb))
                  go_wp2_with fail
                  go_roundw
                  case rel =>
                    refine ⟨i + 1, (sl : Int), hlt, by go_num, ?_, ?_, rfl, ?_, HC2⟩
                    · rw [HS2.out]
                    · rw [HS2.out]; show _ = Value.int .i64 ((S.tk ++ [y]).length : Int); rw [HTk.out]; go_num
                    · rw [HS2.out]; exact HLa2
                  case measure => simp [intOf] <;> omega
          · obtain rfl : n = i := by omega
            have hlt' : ¬ (n : Int) < (n : Int) := Int.lt_irrefl _
            have XP := Lib.hid (Recs.below XP.out HC.out)
            have HB := Lib.hid (chain HB.out HC.out)
            clear HC HLa X1 HD1 HNx
            go_wp2_with fail
            clear HD1 HLn
            obtain ⟨x3, rfl⟩ : ∃ x3 : World, x3 = wr := ⟨_, rfl⟩
            go_loopw [16, 117] (fun V t wr => ∃ i : Nat, i ≤ ps.length ∧ t = .int .i64 (i : Int) ∧ Hid (wr.ownsRow x3.heap.size 42 3 V (ptL (ps.take i) 0).length ((ptL (ps.take i) 0).flatMap encG)) ∧ Hid (Below x3.heap.size x3 wr)) (fun _ t _ => ps.length - (intOf t).toNat)
            case atStart => exact ⟨0, Nat.zero_le _, rfl, Lib.hid (World.ownsRow_nil _ _ _ _), Lib.hid (Below.refl _ _)⟩
            case round =>
              obtain ⟨i, hi, rfl, HO, HC⟩ := hrel
              have hql : (ptL (ps.take i) 0).length ≤ 80 := by rw [ptL_len, List.length_take]; omega
              by_cases hlt : i < ps.length
              · have hlt' : (i : Int) < (ps.length : Int) := Int.ofNat_lt.2 hlt
                have hi5 : (i : Int) < 1000000 := by omega
                obtain ⟨b, off, rfl, hlb, d0, d1⟩ := Drs.cells XP.out HC.out i hlt
                obtain ⟨w5, rfl⟩ : ∃ w5 : World, w5 = wr := ⟨_, rfl⟩
                have HPn := Lib.hid (ptL_push ps i hlt)
                generalize drAt ps i = d at *
                generalize ptL (ps.take i) 0 = qs at *
                have G := Lib.hid (Box.new w5 24 (drA d))
                have c1 : Below w5.heap.size w5 (w5.alloc (.cells (drA d) 24)) := (Below.refl _ _).alloc (Nat.le_refl _) _
                have c2 : Below w5.heap.size w5 ((w5.alloc (.cells (drA d) 24)).alloc (.cells (deA (false, d)) 42)) := c1.alloc (by simp) _
                have ZO := Lib.hid (own_keep HO.out c2)
                have ZB := Lib.hid (chain HC.out c2)
                have bx := Box.new (w5.alloc (.cells (drA d) 24)) 42 (deA (false, d))
                simp only [World.size_alloc] at bx
                have NW := Lib.hid (fun j u hu => news_boxR (cs := encG (false, d)) (show Box _ _ _ (encG (false, d)).toArray from bx) ⟨w5.heap.size + 1, 0, none⟩ rfl j u hu)
                have N2 := Lib.hid (fun g hg => (ZO.out.lt g hg).1)
                have g0 := G.out.cell 0
                have g1 := G.out.cell 1
                simp only [List.getElem?_toArray, List.getElem?_cons_zero, List.getElem?_cons_succ] at g0 g1
                clear c1 c2 bx HO HC HB
                go_wp2_with (at_builtin; refine wpList_append_own _ rfl _ _ 34 rfl x3.heap.size 42 i1 _ 3 24 Try.underlying34 GI.out GZ0.out GZ1.out GZ2.out rfl (by decide) _ _ _ rfl ZO.out ⟨w5.heap.size + 1, 0, none⟩ 1 1 (encG (false, d)) rfl rfl NW.out (encG_one (false, d)) (by simp [maxLen]; omega) (by omega) ZB.out.size ?_; intro v' w2 hown' hgrow _; have HC2 := Lib.hid (ZB.out.grown hgrow ZB.out.size N2.out); have HO2 := Lib.hid hown'; clear hown' hgrow)
                go_roundw
                case rel =>
                  refine ⟨i + 1, hlt, by go_num, ?_, HC2⟩
                  rw [HPn.out, List.length_append, flat_snoc]
                  exact HO2
                case measure => simp [intOf] <;> omega
              · obtain rfl : i = ps.length := by omega
                have hlt' : ¬ (ps.length : Int) < (ps.length : Int) := Int.lt_irrefl _
                have hT : ps.take ps.length = ps := List.take_of_length_le (Nat.le_refl _)
                rw [hT] at HO hql
                have HO0 := Lib.hid HO.out
                clear hT HO
                go_wp2_with fail
                go_loopw [16, 129] (fun V t wr => ∃ i : Nat, i ≤ ps.length ∧ t = .int .i64 (i : Int) ∧ Hid (wr.ownsRow x3.heap.size 42 3 V (ptL ps i).length ((ptL ps i).flatMap encG)) ∧ Hid (Below x3.heap.size x3 wr)) (fun _ t _ => ps.length - (intOf t).toNat)
                case atStart => exact ⟨0, Nat.zero_le _, rfl, HO0, HC⟩
                case round =>
                  clear HO0 HC hql
                  obtain ⟨i, hi, rfl, HO, HC⟩ := hrel
                  have hql : (ptL ps i).length ≤ 160 := by rw [ptL_len]; omega
                  by_cases hlt : i < ps.length
                  · have hlt' : (i : Int) < (ps.length : Int) := Int.ofNat_lt.2 hlt
                    have hi5 : (i : Int) < 1000000 := by omega
                    obtain ⟨w5, rfl⟩ : ∃ w5 : World, w5 = wr := ⟨_, rfl⟩
                    have HPn := Lib.hid (ptL_snoc ps i)
                    generalize ptL ps i = qs at *
                    have c1 : Below w5.heap.size w5 (w5.alloc (.cells (deA (true, (0, 0))) 42)) := (Below.refl _ _).alloc (Nat.le_refl _) _
                    have ZO := Lib.hid (own_keep HO.out c1)
                    have ZB := Lib.hid (chain HC.out c1)
                    have NW := Lib.hid (fun j u hu => news_boxR (cs := encG (true, (0, 0))) (show Box _ _ _ (encG (true, (0, 0))).toArray from Box.new w5 42 (deA (true, (0, 0)))) ⟨w5.heap.size, 0, none⟩ rfl j u hu)
                    have N2 := Lib.hid (fun g hg => (ZO.out.lt g hg).1)
                    clear c1 HO HC HB
                    go_wp2_with (at_builtin; refine wpList_append_own _ rfl _ _ 34 rfl x3.heap.size 42 i1 _ 3 24 Try.underlying34 GI.out GZ0.out GZ1.out GZ2.out rfl (by decide) _ _ _ rfl ZO.out ⟨w5.heap.size, 0, none⟩ 1 1 (encG (true, (0, 0))) rfl rfl NW.out (encG_one (true, (0, 0))) (by simp [maxLen]; omega) (by omega) ZB.out.size ?_; intro v' w2 hown' hgrow _; have HC2 := Lib.hid (ZB.out.grown hgrow ZB.out.size N2.out); have HO2 := Lib.hid hown'; clear hown' hgrow)
                    go_roundw
                    case rel =>
                      refine ⟨i + 1, hlt, by go_num, ?_, HC2⟩
                      rw [HPn.out, List.length_append, flat_snoc]
                      exact HO2
                    case measure => simp [intOf] <;> omega
                  · obtain rfl : i = ps.length := by omega
                    have hlt' : ¬ (ps.length : Int) < (ps.length : Int) := Int.lt_irrefl _
                    have XP := Lib.hid (Recs.below XP.out HC.out)
                    have HB := Lib.hid (chain HB.out HC.out)
                    obtain ⟨A5, c5, rfl, -⟩ := own_form HO.out
                    have XQ := Lib.hid (own_recs encG_len HO.out (by decide))
                    have HRu := Lib.hid (run14_any A5 (ptL ps ps.length).length c5 (ptL ps ps.length) wr XQ.out (by omega))
                    rw [runL_ptL ps] at HRu
                    generalize ptL ps ps.length = qs at *
                    clear HO HC XQ GI GZ0 GZ1 GZ2
                    go_wp2_with fail
                    refine HRu.out.mono ?_
                    rintro e w5 ⟨A6, c6, A7, c7, rfl, -, s2, h1, -, hb⟩
                    have X6 := Lib.hid h1
                    have XP := Lib.hid (Recs.below XP.out hb)
                    have HB := Lib.hid (chain HB.out hb)
                    clear h1 hb HRu s2
                    go_wp2_with fail
                    refine (HSP.out _ XP.out).mono ?_
                    rintro e w6 ⟨A9, c9, rfl, -, h9, hb⟩
                    have X9 := Lib.hid h9
                    have X6 := Lib.hid (Recs.below X6.out hb)
                    have HB := Lib.hid (chain HB.out hb)
                    clear h9 hb
                    go_wp2_with fail
                    refine (refSame14_same A6 A9 _ c6 c9 (srtD ps) _ X6.out X9.out (by rw [HPL.out]; omega)).mono ?_
                    rintro e w7 ⟨rfl, hb⟩
                    have HB := Lib.hid (chain HB.out hb)
                    clear hb X6 X9
                    go_wp2_with fail
                    go_ret
                    exact ⟨rfl, HB.out⟩
end Go.Proofs.Ytmfjbmojejplgaa
