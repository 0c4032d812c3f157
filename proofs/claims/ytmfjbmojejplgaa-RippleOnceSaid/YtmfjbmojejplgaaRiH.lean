/- Layer 14: RippleFirst: the walk. -/
import Derived.Test.YtmfjbmojejplgaaRiG
import Derived.Deep.CutRange
import Derived.Deep.DeepCutAuto
import Derived.IntWalk
namespace Go.Proofs.Ytmfjbmojejplgaa
set_option linter.unusedVariables false
set_option linter.unusedSimpArgs false
open Go.RowKit Go.Sort
set_option maxRecDepth 100000
theorem more_drs {w : World} {base n : Nat} {v : Value} {xs : List DrR} {d : DrR} (h : w.ownsRow base 24 2 v (0 + n + 1) (([] ++ xs.flatMap encD) ++ encD d)) (hn : xs.length = n) : ∃ A c, v = .slice A (n + 1) c ∧ SliceOk A (n + 1) c ∧ Drs w A (n + 1) (xs ++ [d]) := by
  rw [List.nil_append, ← flat_snoc, Nat.zero_add] at h
  obtain ⟨A, c, rfl, -⟩ := own_form h
  exact ⟨A, c, rfl, own_okD h, own_recs encD_len h (by decide)⟩
theorem news_boxR {w : World} {g : Nat} {t : TypeId} {cs : List Value} (h : Box w g t cs.toArray) : ∀ ad, some (⟨g, 0, none⟩ : Addr) = some ad → ∀ j u, cs[j]? = some u → w.cell? (ad.add j) = some u := by
  intro ad he j u hu
  injection he with he
  subst he
  have hadd : (⟨g, 0, none⟩ : Addr).add j = ⟨g, j, none⟩ := by unfold Addr.add; split <;> simp_all
  rw [hadd, h.cell j]
  simpa using hu
theorem ord_next {ys : List DrR} (h : OrdD ys) (j : Nat) (hj : j + 1 < ys.length) : befD (drAt ys (j + 1)) (drAt ys j) = false := by
  have := List.pairwise_iff_getElem.1 h j (j + 1) (by omega) hj (by omega)
  have e1 : drAt ys j = ys[j] := by simp [List.getD, show j < ys.length by omega]
  have e2 : drAt ys (j + 1) = ys[j + 1] := by simp [List.getD, hj]
  rw [e1, e2]
  unfold leD at this
  simpa using this
set_option maxHeartbeats 8000000 in
theorem rfirst_any (A : Option Addr) (l cp : Nat) (xs : List DrR) (d : DrR) (many : Int) (hs : SliceOk A l cp) (w : World) (hH : Drs w A l xs) :
    Calls Try.prog 6 #[.slice A l cp, .agg (drA d), .int .i64 many] w fun e w' => e = .returned (.bool true) ∧ Below w.heap.size w w' := by
  obtain ⟨i0, hi, hz0, hz1, hz2⟩ := info_parts drop_info
  have HI := Lib.hid hi
  have HZ0 := Lib.hid hz0
  have HZ1 := Lib.hid hz1
  have HZ2 := Lib.hid hz2
  clear hi hz0 hz1 hz2
  have HF := Lib.hid (fun w' => few14_any A l cp hs w')
  have hnone : A = none → min l 60 = 0 ∧ cp = 0 := fun e => by have := hs.2.2 e; omega
  have hn60 : min l 60 ≤ 60 := by omega
  have hH := Recs.take hH (min l 60) (by omega)
  generalize xs.take (min l 60) = xs at *
  generalize min l 60 = n at *
  clear hs
  obtain ⟨r, hr⟩ : ∃ r, many.tmod ((n : Int) + 1) = r := ⟨_, rfl⟩
  have hr1 : -(n : Int) ≤ r ∧ r ≤ n := by
    rw [← hr]
    have h1 := Int.tmod_lt_of_pos many (show (0 : Int) < (n : Int) + 1 by omega)
    have h2 := Int.lt_tmod_of_pos many (show (0 : Int) < (n : Int) + 1 by omega)
    omega
  obtain ⟨k, hm⟩ : ∃ k : Nat, (r + ((n : Int) + 1)).tmod ((n : Int) + 1) = (k : Int) := ⟨((r + ((n : Int) + 1)) % ((n : Int) + 1)).toNat, by
    rw [Int.tmod_eq_emod_of_nonneg (by omega), Int.toNat_of_nonneg (Int.emod_nonneg _ (by omega))]⟩
  have hkn : k ≤ n := by
    have := Int.tmod_lt_of_pos (r + ((n : Int) + 1)) (show (0 : Int) < (n : Int) + 1 by omega)
    omega
  have hnz : ¬ ((n : Int) + 1 = 0) := by omega
  have HT := Lib.hid (fun (w' : World) (hb : Below w.heap.size w w') => Recs.below hH hb)
  have HFi := Lib.hid (fun (k : Nat) (hk : k ≤ n) (w' : World) (hw : Drs w' A n xs) => first_ok A n cp xs k w' hnone hw (by omega) hk)
  have HNN := Lib.hid (show (srtD (xs ++ [d])).length = n + 1 by rw [srtD_len, List.length_append, hH.1]; rfl)
  have HOrd := Lib.hid (srtD_ord (xs ++ [d]))
  have HXL := Lib.hid hH.1
  have HNil := Lib.hid (show A = none → n = 0 from fun e => (hnone e).1)
  have HCl := Lib.hid (show (xs.flatMap encD).length = n * 2 by rw [flat_len encD_len, hH.1])
  have HOne := Lib.hid (flat_one (xs := xs) encD_one)
  have HDD := Lib.hid (show befD d d = false by rw [befD_no]; omega)
  have hb1 : Below w.heap.size w (w.alloc (.cells (drA d) 24)) := (Below.refl _ _).alloc (Nat.le_refl _) _
  have Q := Lib.hid (Box.new w 24 (drA d))
  have HB := Lib.hid hb1
  have hn60' : (n : Int) ≤ 60 := by omega
  clear hH hnone hb1
  go_enter Try.func6, Try.ntmps6
  go_wp2_with fail
  refine (HF.out _).mono ?_
  rintro e u1 ⟨rfl, rfl⟩
  clear HF
  go_wp2_with fail
  refine (HFi.out k hkn _ (HT.out _ HB.out)).mono ?_
  rintro e x9 ⟨A1, rfl, h1, hb⟩
  have F := Lib.hid h1
  have Q := Lib.hid (Q.out.keep hb)
  have HB := Lib.hid (chain HB.out hb)
  clear hb h1 hr hm hr1 hnz
  go_upto_region 5 with (fail)
  go_cut [10] (fun v wx => ∃ A8 c8, v = .slice A8 (n + 1) c8 ∧ Drs wx A8 (n + 1) (srtD (xs ++ [d])) ∧ Below x9.heap.size x9 wx)
  case first =>
    have HNews := Lib.hid (fun (w' : World) (hb : Below x9.heap.size x9 w') => Recs.news (Recs.below (HT.out _ HB.out) hb) encD_len (by decide))
    have u1 : Below x9.heap.size x9 (x9.alloc (.cells #[] 24)) := (Below.refl _ _).alloc (Nat.le_refl _) _
    have u2 : Below x9.heap.size x9 ((x9.alloc (.cells #[] 24)).alloc (.cells (drA d) 24)) := u1.alloc (by simp) _
    have u3 : Below x9.heap.size x9 ((x9.alloc (.cells (drA d) 24)).alloc (.cells #[] 24)) := ((Below.refl _ _).alloc (Nat.le_refl _) _).alloc (by simp) _
    have B1 := Lib.hid u1.drew
    have B2 := Lib.hid u2.drew
    have B3 := Lib.hid u3.drew
    have e1 := Box.new x9 24 #[]
    have e2 := e1.alloc (.cells (drA d) 24)
    have e3 := Box.new (x9.alloc (.cells (drA d) 24)) 24 #[]
    have f2 := Box.new (x9.alloc (.cells #[] 24)) 24 (drA d)
    have f3 := (Box.new x9 24 (drA d)).alloc (.cells #[] 24)
    simp only [World.size_alloc] at e3 f2
    have O1 := Lib.hid (own_of_box0 (size := 2) e1.drew (Nat.le_refl x9.heap.size))
    have O2 := Lib.hid (own_of_box0 (size := 2) e2.drew (Nat.le_refl x9.heap.size))
    have O3 := Lib.hid (own_of_box0 (size := 2) e3.drew (Nat.le_succ x9.heap.size))
    have F2 := Lib.hid f2.drew
    have F3 := Lib.hid f3.drew
    clear u1 u2 u3 e1 e2 e3 f2 f3
    have v1 : 0 + n ≤ maxLen := by unfold maxLen; omega
    have v2 : (0 + n) * 16 ≤ 140737488355328 := by omega
    have v3 : 0 + n + 1 ≤ maxLen := by unfold maxLen; omega
    have v4 : (0 + n + 1) * 16 ≤ 140737488355328 := by omega
    have NE2 := Lib.hid (show (Value.slice (some ⟨x9.heap.size, 0, none⟩) 0 0).ownBlock ≠ some (x9.heap.size + 1) from fun h => by simp [Value.ownBlock] at h)
    have NE3 := Lib.hid (show (Value.slice (some ⟨x9.heap.size + 1, 0, none⟩) 0 0).ownBlock ≠ some x9.heap.size from fun h => by simp [Value.ownBlock] at h)
    have NNil := Lib.hid (show ∀ (ad : Addr), some ad = none → (1 : Nat) = 0 from fun ad h => by cases h)
    have s1 := Lib.hid B1.out.size
    have s2 := Lib.hid B2.out.size
    have s3 := Lib.hid B3.out.size
    have kq0 := Q.out.cell 0
    have kq1 := Q.out.cell 1
    have m00 := (Q.out.alloc (.cells #[] 24)).cell 0
    have m01 := (Q.out.alloc (.cells #[] 24)).cell 1
    have m10 := ((Q.out.alloc (.cells #[] 24)).alloc (.cells (drA d) 24)).cell 0
    have m11 := ((Q.out.alloc (.cells #[] 24)).alloc (.cells (drA d) 24)).cell 1
    have m20 := (Q.out.alloc (.cells (drA d) 24)).cell 0
    have m21 := (Q.out.alloc (.cells (drA d) 24)).cell 1
    have m30 := ((Q.out.alloc (.cells (drA d) 24)).alloc (.cells #[] 24)).cell 0
    have m31 := ((Q.out.alloc (.cells (drA d) 24)).alloc (.cells #[] 24)).cell 1
    simp only [List.getElem?_toArray, List.getElem?_cons_zero, List.getElem?_cons_succ] at kq0 kq1 m00 m01 m10 m11 m20 m21 m30 m31
    have l0 := Q.out.lt
    have a0 : ¬ w.heap.size = x9.heap.size := by omega
    have a2 : ¬ w.heap.size = x9.heap.size + 1 := by omega
    clear l0
    go_region_held3 (fun (w' : World) => w'.cell? ⟨w.heap.size, 0, none⟩ = some (.int .i64 d.1) ∧ w'.cell? ⟨w.heap.size, 1, none⟩ = some (.int .u64 (d.2 : Int))) (go_keep) (first
      | (refine step_opt rfl (.tmp 32) (.tmp 33) 25 rfl x9.heap.size 24 i0 (.agg #[.int .i64 0, .int .u64 0]) 2 16 Try.underlying25 HI.out HZ0.out HZ1.out HZ2.out rfl (by decide) _ 0 [] ?_ O1.out A n cp (xs.flatMap encD) ?_ HCl.out HNil.out (HNews.out _ B1.out) HOne.out v1 v2 s1.out ?_; simp [Act.eval, Act.put]; simp [Act.eval, Act.put]; intro v5 w5 hown hgrow; have hb5 := Below.grown B1.out hgrow B1.out.size (fun k hk => (O1.out.lt k hk).1); have Q5 := Lib.hid (Q.out.keep hb5); have k50 := Q5.out.cell 0; have k51 := Q5.out.cell 1; simp only [List.getElem?_toArray, List.getElem?_cons_zero, List.getElem?_cons_succ] at k50 k51; have O6 := Lib.hid (own_keep hown (show Below w5.heap.size w5 (w5.alloc (.cells (drA d) 24)) from (Below.refl _ _).alloc (Nat.le_refl _) _)); have B6 := Lib.hid (hb5.alloc hb5.size (.cells (drA d) 24)); have N6 := Lib.hid (news_boxR (cs := encD d) (Box.new w5 24 (drA d))); have Q6 := Lib.hid (Q5.out.alloc (.cells (drA d) 24)); have k60 := Q6.out.cell 0; have k61 := Q6.out.cell 1; simp only [List.getElem?_toArray, List.getElem?_cons_zero, List.getElem?_cons_succ] at k60 k61; clear hown hgrow hb5)
      | (refine step_opt rfl (.tmp 32) (.tmp 33) 25 rfl x9.heap.size 24 i0 (.agg #[.int .i64 0, .int .u64 0]) 2 16 Try.underlying25 HI.out HZ0.out HZ1.out HZ2.out rfl (by decide) _ 0 [] ?_ O2.out A n cp (xs.flatMap encD) ?_ HCl.out HNil.out (HNews.out _ B2.out) HOne.out v1 v2 s2.out ?_; simp [Act.eval, Act.put]; simp [Act.eval, Act.put]; intro v5 w5 hown hgrow; have hb5 := Below.grown B2.out hgrow B2.out.size (fun k hk => (O2.out.lt k hk).1); have Q5 := Lib.hid (Q.out.keep hb5); have k50 := Q5.out.cell 0; have k51 := Q5.out.cell 1; simp only [List.getElem?_toArray, List.getElem?_cons_zero, List.getElem?_cons_succ] at k50 k51; have O6 := Lib.hid hown; have B6 := Lib.hid hb5; have N6 := Lib.hid (news_boxR (cs := encD d) (F2.out.grown hgrow NE2.out)); have Q6 := Lib.hid Q5.out; clear hown hgrow hb5)
      | (refine step_opt rfl (.tmp 32) (.tmp 33) 25 rfl x9.heap.size 24 i0 (.agg #[.int .i64 0, .int .u64 0]) 2 16 Try.underlying25 HI.out HZ0.out HZ1.out HZ2.out rfl (by decide) _ 0 [] ?_ O3.out A n cp (xs.flatMap encD) ?_ HCl.out HNil.out (HNews.out _ B3.out) HOne.out v1 v2 s3.out ?_; simp [Act.eval, Act.put]; simp [Act.eval, Act.put]; intro v5 w5 hown hgrow; have hb5 := Below.grown B3.out hgrow B3.out.size (fun k hk => (O3.out.lt k hk).1); have Q5 := Lib.hid (Q.out.keep hb5); have k50 := Q5.out.cell 0; have k51 := Q5.out.cell 1; simp only [List.getElem?_toArray, List.getElem?_cons_zero, List.getElem?_cons_succ] at k50 k51; have O6 := Lib.hid hown; have B6 := Lib.hid hb5; have N6 := Lib.hid (news_boxR (cs := encD d) (F3.out.grown hgrow NE3.out)); have Q6 := Lib.hid Q5.out; clear hown hgrow hb5)
      | (refine step_opt rfl (.tmp 34) (.tmp 36) 25 rfl x9.heap.size 24 i0 (.agg #[.int .i64 0, .int .u64 0]) 2 16 Try.underlying25 HI.out HZ0.out HZ1.out HZ2.out rfl (by decide) v5 (0 + n) _ ?_ O6.out _ 1 1 (encD d) ?_ rfl (NNil.out _) N6.out (encD_one d) v3 v4 B6.out.size ?_; simp [Act.eval, Act.put]; simp [Act.eval, Act.put]; intro v7 w7 hown hgrow; have B7 := Lib.hid (Below.grown B6.out hgrow B6.out.size (fun k hk => (O6.out.lt k hk).1)); obtain ⟨A7, c7, rfl, hs7, hm7⟩ := more_drs hown HXL.out; have HM7 := Lib.hid hm7; have HS7 := Lib.hid hs7; have Q7 := Lib.hid (Q.out.keep B7.out); have k70 := Q7.out.cell 0; have k71 := Q7.out.cell 1; simp only [List.getElem?_toArray, List.getElem?_cons_zero, List.getElem?_cons_succ] at k70 k71; clear hown hgrow hm7 hs7)
      | (go_simp; go_at_call 13; refine (sorted_any A7 (n + 1) c7 (xs ++ [d]) _ HS7.out.2.2 HM7.out (by omega)).mono ?_; rintro e1 y9 ⟨A8, c8, rfl, s8, h8, hb⟩; rw [HNN.out] at h8; rw [HNN.out]; have B8 := Lib.hid (chain B7.out hb); have HA8 := Lib.hid h8; clear hb h8 s8; have Q8 := Lib.hid (Q.out.keep B8.out); have k80 := Q8.out.cell 0; have k81 := Q8.out.cell 1; simp only [List.getElem?_toArray, List.getElem?_cons_zero, List.getElem?_cons_succ] at k80 k81))
    all_goals
      go_wp2_with fail
      go_meet
      exact ⟨A8, c8, rfl, HA8.out, B8.out⟩
  case rest =>
    obtain ⟨A8, c8, rfl, hx, hb⟩ := hcut
    have HX := Lib.hid hx
    have Q := Lib.hid (Q.out.keep hb)
    have F := Lib.hid (Recs.below F.out hb)
    have HB := Lib.hid (chain HB.out hb)
    clear hx hb HI HZ0 HZ1 HZ2 HNil HCl HOne HXL
    generalize srtD (xs ++ [d]) = ys at *
    go_wp2_with fail
    refine (alive14_any _).mono ?_
    rintro e w2 ⟨rfl, hb⟩
    have HX := Lib.hid (Recs.below HX.out hb)
    have Q := Lib.hid (Q.out.keep hb)
    have F := Lib.hid (Recs.below F.out hb)
    have HB := Lib.hid (chain HB.out hb)
    clear hb
    by_cases hk2 : k < n
    · have k1 : (k : Int) < (n : Int) := Int.ofNat_lt.2 hk2
      have k3 : (0 : Int) ≤ (k : Int) := Int.natCast_nonneg _
      have k6 : (k : Int) ≤ (k : Int) + 1 := by omega
      have k7 : ¬ (k : Int) + 1 < (k : Int) := by omega
      have k8 : (k : Int) < 1000000 := by omega
      have HF1 := Lib.hid (show ∀ w', Drs w' A n xs → Calls Try.prog 8 #[.slice A n cp, .int .i64 ((k : Int) + 1)] w' (FirstOut xs (k + 1) w') from fun w' hw => HFi.out (k + 1) hk2 w' hw)
      go_wp2_with fail
      refine (HF1.out _ (HT.out _ HB.out)).mono ?_
      rintro e w3 ⟨A3, rfl, h3, hb⟩
      have HX := Lib.hid (Recs.below HX.out hb)
      have Q := Lib.hid (Q.out.keep hb)
      have F := Lib.hid (Recs.below F.out hb)
      have HB := Lib.hid (chain HB.out hb)
      have F3 := Lib.hid (show Drs w3 A3 k ((srtD xs).take k) by have := Recs.take h3 k (Nat.le_succ k); rwa [List.take_take, Nat.min_eq_left (Nat.le_succ k)] at this)
      have HNo := Lib.hid (show A3 = none → False from fun e => by subst e; have := (Recs.none_ h3).1; omega)
      clear hb h3 HF1 HFi
      cases A3 with
      | none => exact (HNo.out rfl).elim
      | some a3 =>
        clear HNo
        go_wp2_with fail
        refine (refSame14_same (some a3) A1 k (k + 1) k _ _ F3.out F.out (by omega)).mono ?_
        rintro e w4 ⟨rfl, hb⟩
        have HX := Lib.hid (Recs.below HX.out hb)
        have Q := Lib.hid (Q.out.keep hb)
        have HB := Lib.hid (chain HB.out hb)
        clear hb F F3
        go_wp2_with fail
        obtain ⟨wo, rfl⟩ : ∃ wo, wo = w4 := ⟨_, rfl⟩
        go_loopw [87] (fun t wr => ∃ j : Nat, j ≤ n + 1 ∧ t = .int .i64 (j : Int) ∧ Hid (Below wo.heap.size wo wr)) (fun t _ => n + 1 - (intOf t).toNat)
        case atStart => exact ⟨0, Nat.zero_le _, rfl, Lib.hid (Below.refl _ _)⟩
        case round =>
          obtain ⟨j, hj, rfl, HC⟩ := hrel
          by_cases hlt : j < n + 1
          · have hlt' : (j : Int) < (n : Int) + 1 := by omega
            have hj5 : (j : Int) < 1000000 := by omega
            rcases Nat.eq_zero_or_pos j with h0 | h0
            · subst h0
              go_upto_region 15 with (fail)
              go_quiet (fail)
              go_wp2_with fail
              go_roundw
              case rel => exact ⟨1, by omega, by go_num, Lib.hid (bdN HC.out _)⟩
              case measure => simp [intOf] <;> omega
            · obtain ⟨i, hij⟩ : ∃ i, j = i + 1 := ⟨j - 1, by omega⟩
              have HIJ := Lib.hid hij
              have hji : (j : Int) - 1 = (i : Int) := by omega
              have hil : i < n + 1 := by omega
              obtain ⟨b1, o1, rfl, lt1, d0, d1⟩ := Drs.cells HX.out HC.out j hlt
              obtain ⟨b2, o2, he, lt2, e0, e1⟩ := Drs.cells HX.out HC.out i hil
              injection he with he
              injection he with he1 he2
              subst he1 he2
              have HON := Lib.hid (show befD (drAt ys j) (drAt ys i) = false by have := ord_next HOrd.out i (by rw [HNN.out, ← HIJ.out]; exact hlt); rwa [← HIJ.out] at this)
              have hi1 : (0 : Int) ≤ (i : Int) := Int.natCast_nonneg _
              have hi2 : (0 : Int) < (j : Int) := by omega
              have hi7 : (0 : Int) ≤ (j : Int) := by omega
              have hi8 : (i : Int) < (n : Int) + 1 := by omega
              have hi3 : (i : Int) < (n : Int) + 1 := by omega
              have hi4 : -1000000 < (i : Int) := by omega
              have hi5 : (i : Int) < 1000000 := by omega
              have HXk := Lib.hid (show ∀ x1, Below wr.drew.heap.size wr.drew x1 → x1.cell? ⟨b1, o1 + j * 2, none⟩ = some (.int .i64 (drAt ys j).1) ∧ x1.cell? ⟨b1, o1 + j * 2 + 1, none⟩ = some (.int .u64 ((drAt ys j).2 : Int)) ∧ x1.cell? ⟨b1, o1 + i * 2, none⟩ = some (.int .i64 (drAt ys i).1) ∧ x1.cell? ⟨b1, o1 + i * 2 + 1, none⟩ = some (.int .u64 ((drAt ys i).2 : Int)) from fun x1 hb => by
                have lt1' : b1 < wr.drew.heap.size := Nat.lt_of_lt_of_le lt1 HC.out.size
                exact ⟨(hb.cell (p := ⟨b1, o1 + j * 2, none⟩) lt1').trans d0, (hb.cell (p := ⟨b1, o1 + j * 2 + 1, none⟩) lt1').trans d1, (hb.cell (p := ⟨b1, o1 + i * 2, none⟩) lt1').trans e0, (hb.cell (p := ⟨b1, o1 + i * 2 + 1, none⟩) lt1').trans e1⟩)
              clear hij
              have hd2 : decide (0 < j) = true := decide_eq_true h0
              have hd1 : decide ((0 : Int) < (j : Int)) = true := decide_eq_true hi2
              have hwr : IntKind.i64.wrap ((j : Int) - 1) = (i : Int) := by rw [IntWalk.i64_in _ (by omega)]; exact hji
              have hwi : IntKind.i64.wrap (i : Int) = (i : Int) := IntWalk.i64_in _ (by omega)
              clear hji
              generalize drAt ys j = y1 at *
              generalize drAt ys i = y0 at *
              go_upto_region 15 with (fail)
              go_region_held3 (fun (w' : World) => w'.cell? ⟨b1, o1 + j * 2, none⟩ = some (.int .i64 y1.1) ∧ w'.cell? ⟨b1, o1 + j * 2 + 1, none⟩ = some (.int .u64 (y1.2 : Int)) ∧ w'.cell? ⟨b1, o1 + i * 2, none⟩ = some (.int .i64 y0.1) ∧ w'.cell? ⟨b1, o1 + i * 2 + 1, none⟩ = some (.int .u64 (y0.2 : Int))) (go_keep) (first
                | (go_at_call 10; refine (before_any y1 y0 _).mono ?_; rintro e1 x1 ⟨rfl, hb⟩; rw [HON.out]; have HC1 := Lib.hid (chain HC.out.drew hb); have c1 := HXk.out x1 hb; obtain ⟨f0, f1, f2, f3⟩ := c1; clear hb))
              go_wp2_with fail
              go_roundw
              case rel => exact ⟨j + 1, hlt, by go_num, HC1⟩
              case measure => simp [intOf] <;> omega
          · obtain rfl : j = n + 1 := by omega
            have Qe := Lib.hid (Q.out.keep HC.out)
            have z0 := Qe.out.cell 0
            have z1 := Qe.out.cell 1
            simp only [List.getElem?_toArray, List.getElem?_cons_zero, List.getElem?_cons_succ] at z0 z1
            go_wp2_with fail
            refine (before_any d d _).mono ?_
            rintro e x1 ⟨rfl, hb⟩
            rw [HDD.out]
            have HE := Lib.hid (chain (chain HB.out HC.out) hb)
            clear hb
            go_wp2_with fail
            go_ret
            exact ⟨rfl, HE.out⟩
    · have k1 : ¬ (k : Int) < (n : Int) := by omega
      clear F HFi
      go_wp2_with fail
      obtain ⟨wo, rfl⟩ : ∃ wo, wo = w2 := ⟨_, rfl⟩
      go_loopw [87] (fun t wr => ∃ j : Nat, j ≤ n + 1 ∧ t = .int .i64 (j : Int) ∧ Hid (Below wo.heap.size wo wr)) (fun t _ => n + 1 - (intOf t).toNat)
      case atStart => exact ⟨0, Nat.zero_le _, rfl, Lib.hid (Below.refl _ _)⟩
      case round =>
        obtain ⟨j, hj, rfl, HC⟩ := hrel
        by_cases hlt : j < n + 1
        · have hlt' : (j : Int) < (n : Int) + 1 := by omega
          have hj5 : (j : Int) < 1000000 := by omega
          rcases Nat.eq_zero_or_pos j with h0 | h0
          · subst h0
            go_upto_region 15 with (fail)
            go_quiet (fail)
            go_wp2_with fail
            go_roundw
            case rel => exact ⟨1, by omega, by go_num, Lib.hid (bdN HC.out _)⟩
            case measure => simp [intOf] <;> omega
          · obtain ⟨i, hij⟩ : ∃ i, j = i + 1 := ⟨j - 1, by omega⟩
            have HIJ := Lib.hid hij
            have hji : (j : Int) - 1 = (i : Int) := by omega
            have hil : i < n + 1 := by omega
            obtain ⟨b1, o1, rfl, lt1, d0, d1⟩ := Drs.cells HX.out HC.out j hlt
            obtain ⟨b2, o2, he, lt2, e0, e1⟩ := Drs.cells HX.out HC.out i hil
            injection he with he
            injection he with he1 he2
            subst he1 he2
            have HON := Lib.hid (show befD (drAt ys j) (drAt ys i) = false by have := ord_next HOrd.out i (by rw [HNN.out, ← HIJ.out]; exact hlt); rwa [← HIJ.out] at this)
            have hi1 : (0 : Int) ≤ (i : Int) := Int.natCast_nonneg _
            have hi2 : (0 : Int) < (j : Int) := by omega
            have hi7 : (0 : Int) ≤ (j : Int) := by omega
            have hi8 : (i : Int) < (n : Int) + 1 := by omega
            have hi3 : (i : Int) < (n : Int) + 1 := by omega
            have hi4 : -1000000 < (i : Int) := by omega
            have hi5 : (i : Int) < 1000000 := by omega
            have HXk := Lib.hid (show ∀ x1, Below wr.drew.heap.size wr.drew x1 → x1.cell? ⟨b1, o1 + j * 2, none⟩ = some (.int .i64 (drAt ys j).1) ∧ x1.cell? ⟨b1, o1 + j * 2 + 1, none⟩ = some (.int .u64 ((drAt ys j).2 : Int)) ∧ x1.cell? ⟨b1, o1 + i * 2, none⟩ = some (.int .i64 (drAt ys i).1) ∧ x1.cell? ⟨b1, o1 + i * 2 + 1, none⟩ = some (.int .u64 ((drAt ys i).2 : Int)) from fun x1 hb => by
              have lt1' : b1 < wr.drew.heap.size := Nat.lt_of_lt_of_le lt1 HC.out.size
              exact ⟨(hb.cell (p := ⟨b1, o1 + j * 2, none⟩) lt1').trans d0, (hb.cell (p := ⟨b1, o1 + j * 2 + 1, none⟩) lt1').trans d1, (hb.cell (p := ⟨b1, o1 + i * 2, none⟩) lt1').trans e0, (hb.cell (p := ⟨b1, o1 + i * 2 + 1, none⟩) lt1').trans e1⟩)
            clear hij
            have hd2 : decide (0 < j) = true := decide_eq_true h0
            have hd1 : decide ((0 : Int) < (j : Int)) = true := decide_eq_true hi2
            have hwr : IntKind.i64.wrap ((j : Int) - 1) = (i : Int) := by rw [IntWalk.i64_in _ (by omega)]; exact hji
            have hwi : IntKind.i64.wrap (i : Int) = (i : Int) := IntWalk.i64_in _ (by omega)
            clear hji
            generalize drAt ys j = y1 at *
            generalize drAt ys i = y0 at *
            go_upto_region 15 with (fail)
            go_region_held3 (fun (w' : World) => w'.cell? ⟨b1, o1 + j * 2, none⟩ = some (.int .i64 y1.1) ∧ w'.cell? ⟨b1, o1 + j * 2 + 1, none⟩ = some (.int .u64 (y1.2 : Int)) ∧ w'.cell? ⟨b1, o1 + i * 2, none⟩ = some (.int .i64 y0.1) ∧ w'.cell? ⟨b1, o1 + i * 2 + 1, none⟩ = some (.int .u64 (y0.2 : Int))) (go_keep) (first
              | (go_at_call 10; refine (before_any y1 y0 _).mono ?_; rintro e1 x1 ⟨rfl, hb⟩; rw [HON.out]; have HC1 := Lib.hid (chain HC.out.drew hb); have c1 := HXk.out x1 hb; obtain ⟨f0, f1, f2, f3⟩ := c1; clear hb))
            go_wp2_with fail
            go_roundw
            case rel => exact ⟨j + 1, hlt, by go_num, HC1⟩
            case measure => simp [intOf] <;> omega
        · obtain rfl : j = n + 1 := by omega
          have Qe := Lib.hid (Q.out.keep HC.out)
          have z0 := Qe.out.cell 0
          have z1 := Qe.out.cell 1
          simp only [List.getElem?_toArray, List.getElem?_cons_zero, List.getElem?_cons_succ] at z0 z1
          go_wp2_with fail
          refine (before_any d d _).mono ?_
          rintro e x1 ⟨rfl, hb⟩
          rw [HDD.out]
          have HE := Lib.hid (chain (chain HB.out HC.out) hb)
          clear hb
          go_wp2_with fail
          go_ret
          exact ⟨rfl, HE.out⟩
end Go.Proofs.Ytmfjbmojejplgaa
