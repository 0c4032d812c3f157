/- Layer 14: RippleRuns: the walk; deeds that came in. -/
import Derived.Test.YtmfjbmojejplgaaRiT
namespace Go.Proofs.Ytmfjbmojejplgaa
set_option linter.unusedVariables false
set_option linter.unusedSimpArgs false
open Go.RowKit Go.Sort Go.Joins Go.ChangeShapes Go.WideShapes
set_option maxRecDepth 100000
theorem cellsDeO : Try.prog.cellsOf 42 = 3 := by kernel_rfl
section
variable {H : Type} {enc : TypeId × Value → H} {W : World} {fuel : Nat} {cs : List Value} {x : DataW H × List MemPlace}
theorem open_deedL (hl : cs.length = 3) (h : DataW.trod enc Try.prog W 0 (fun _ => true) true fuel 42 cs = some x) : ∃ c : DeR, cs = encG c := by
  match cs, hl with
  | [v0, v1, v2], _ =>
  obtain ⟨z0, z1, n', -, -, k0, k1⟩ := trod_struct2 Try.underlying42 h
  have ei : Try.prog.cellsOf 4 = 1 := by kernel_rfl
  have eu : Try.prog.cellsOf 24 = 2 := by kernel_rfl
  simp [ei, eu] at k0 k1
  obtain ⟨a0, e0, -⟩ := DataW.trod_bool Try.underlying4 k0
  obtain ⟨d, e1⟩ := open_dropL rfl k1
  simp at e0
  subst e0
  refine ⟨(a0, d), ?_⟩
  show _ = .bool a0 :: encD d
  rw [← e1]
/-- A slice of deeds that came in. -/
theorem open_deeds (h : DataW.trod enc Try.prog W 0 (fun _ => true) true fuel 34 cs = some x) : ∃ A l c xs, cs = [.slice A l c] ∧ SliceOk A l c ∧ Des W A l xs := by
  rcases Go.Deep.open_slice Try.underlying34 h with ⟨hcs, _⟩ | ⟨a, len, cap, m, n, D, Pl, hcs, _, hl, hm, hmm, _, hx⟩
  · exact ⟨none, 0, 0, [], hcs, ⟨Nat.le_refl _, Nat.zero_le _, fun _ => ⟨rfl, rfl⟩⟩, Recs.nil _ _⟩
  · have hmm' : m = cap := by simpa using hmm
    have each : ∀ i, i < len → ∃ e : DeR, ∀ k v, (encG e)[k]? = some v → W.cell? ((a.add (i * 3)).add k) = some v := fun i hi => by
      obtain ⟨cs', h1, h2⟩ := hx i (by omega)
      rw [cellsDeO] at h1
      obtain ⟨-, hlen, hcell⟩ := World.cells?_some h1
      obtain ⟨e, rfl⟩ := open_deedL hlen h2
      refine ⟨e, fun k v hv => ?_⟩
      have hk : k < 3 := by have := (List.getElem?_eq_some_iff.1 hv).1; rwa [encG_len] at this
      rw [hcell k hk, hv]
    obtain ⟨q, hq⟩ := Go.Deep.choose_lt each
    have hg : ∀ j, j < len → ((List.range len).map q).getD j default = q j := fun j hj => by simp [List.getD, hj]
    refine ⟨some a, len, cap, (List.range len).map q, hcs, ⟨hl, hm, fun h => by cases h⟩, ⟨by simp, fun hp => ?_⟩⟩
    have h00 := hq 0 hp 0 _ rfl
    have haa : ∀ i k, (a.add i).add k = a.add (i + k) := fun i k => Go.Deep.add_add a i k
    rw [haa] at h00
    obtain ⟨b, o, ha⟩ : ∃ b o, a = ⟨b, o, none⟩ := addr_at (by simpa using h00)
    subst ha
    refine ⟨b, o, rfl, ?_, fun j hj k v hv => ?_⟩
    · have := block_lt_of_cell h00
      rw [addP] at this
      exact this
    · rw [hg j hj] at hv
      have := hq j hj k v hv
      rw [haa, addP] at this
      rwa [Nat.add_assoc]
end
set_option maxHeartbeats 8000000 in
theorem rruns_any (A : Option Addr) (l cp : Nat) (ds : List DeR) (hs : SliceOk A l cp) (w : World) (hH : Des w A l ds) :
    Calls Try.prog 4 #[.slice A l cp] w fun e w' => e = .returned (.bool true) ∧ Below w.heap.size w w' := by
  have hD := Recs.take hH (min l 80) (by omega)
  have hn80 : min l 80 ≤ 80 := by omega
  obtain ⟨b1, b2, b3, -⟩ := runL_le (ds.take (min l 80))
  have hle : (ds.take (min l 80)).length ≤ 80 := by rw [List.length_take]; omega
  have q1 : (runL (ds.take (min l 80))).tk.length ≤ 80 := by omega
  have q2 : (runL (ds.take (min l 80))).lf.length ≤ 80 := by omega
  have q3 : (runL (ds.take (min l 80))).vn ≤ 80 := by omega
  have HRun := Lib.hid (fun (w' : World) (hw : Des w' A (min l 80) (ds.take (min l 80))) => run14_any A (min l 80) cp (ds.take (min l 80)) w' hw (by omega))
  have HRef := Lib.hid (fun (w' : World) (hw : Des w' A (min l 80) (ds.take (min l 80))) => refRun14_any A (min l 80) cp (ds.take (min l 80)) w' hw (by omega))
  have HD := Lib.hid hD
  generalize runL (ds.take (min l 80)) = st at *
  generalize ds.take (min l 80) = es at *
  clear hH hD b1 b2 b3 hle hn80
  have tv : (((st.vn : Nat) : Int) == ((st.vn : Nat) : Int)) = true := by simp
  obtain ⟨hl, hc, hn⟩ := hs
  unfold maxLen at hc
  cases A with
  | none =>
    obtain ⟨rfl, rfl⟩ := hn rfl
    rw [show min 0 80 = 0 from rfl] at HRun HRef HD
    clear hn hl hc
    go_enter Try.func4, Try.ntmps4
    go_wp2_with fail
    refine (HRun.out _ HD.out).mono ?_
    rintro e w1 ⟨A1, c1, A2, c2, rfl, s1, s2, h1, h2, hb⟩
    have X1 := Lib.hid h1
    have X2 := Lib.hid h2
    have HB := Lib.hid hb
    have HD1 := Lib.hid (Recs.below HD.out hb)
    clear s1 s2 h1 h2 hb HRun
    go_wp2_with fail
    refine (HRef.out _ HD1.out).mono ?_
    rintro e w2 ⟨A3, c3, A4, c4, rfl, h3, h4, hb⟩
    have b2 : Below w2.heap.size w2 (w2.alloc (.cells (rcA A3 A4 st.tk.length c3 st.lf.length c4 st.vn) 38)) := (Below.refl _ _).alloc (Nat.le_refl _) _
    have X1 := Lib.hid (Recs.below (Recs.below X1.out hb) b2)
    have X2 := Lib.hid (Recs.below (Recs.below X2.out hb) b2)
    have X3 := Lib.hid (Recs.below h3 b2)
    have X4 := Lib.hid (Recs.below h4 b2)
    have HB := Lib.hid (chain (chain HB.out hb) b2)
    have GR := Lib.hid (Box.new w2 38 (rcA A3 A4 st.tk.length c3 st.lf.length c4 st.vn))
    clear h3 h4 hb b2 HRef HD1
    go_wp2_with fail
    refine (alive14_any _).mono ?_
    rintro e w3 ⟨rfl, hb⟩
    have X1 := Lib.hid (Recs.below X1.out hb)
    have X2 := Lib.hid (Recs.below X2.out hb)
    have X3 := Lib.hid (Recs.below X3.out hb)
    have X4 := Lib.hid (Recs.below X4.out hb)
    have HB := Lib.hid (chain HB.out hb)
    have GR := Lib.hid (GR.out.keep hb)
    clear hb
    have g0 := GR.out.cell 0
    have g1 := GR.out.cell 1
    have g2 := GR.out.cell 2
    simp only [List.getElem?_toArray, List.getElem?_cons_zero, List.getElem?_cons_succ] at g0 g1 g2
    go_wp2_with fail
    refine (refSame14_same A1 A3 _ c1 c3 st.tk _ X1.out X3.out (by omega)).mono ?_
    rintro e w4 ⟨rfl, hb⟩
    have X2 := Lib.hid (Recs.below X2.out hb)
    have X4 := Lib.hid (Recs.below X4.out hb)
    have HB := Lib.hid (chain HB.out hb)
    have GR := Lib.hid (GR.out.keep hb)
    clear hb g0 g1 g2
    have g0 := GR.out.cell 0
    have g1 := GR.out.cell 1
    have g2 := GR.out.cell 2
    simp only [List.getElem?_toArray, List.getElem?_cons_zero, List.getElem?_cons_succ] at g0 g1 g2
    go_wp2_with fail
    refine (refSame14_same A2 A4 _ c2 c4 st.lf _ X2.out X4.out (by omega)).mono ?_
    rintro e w5 ⟨rfl, hb⟩
    have HB := Lib.hid (chain HB.out hb)
    have GR := Lib.hid (GR.out.keep hb)
    clear hb g0 g1 g2
    have g0 := GR.out.cell 0
    have g1 := GR.out.cell 1
    have g2 := GR.out.cell 2
    simp only [List.getElem?_toArray, List.getElem?_cons_zero, List.getElem?_cons_succ] at g0 g1 g2
    go_wp2_with fail
    go_ret
    exact ⟨rfl, HB.out⟩
  | some ad =>
    clear hn
    by_cases h : l ≤ 80
    · have g1 : (l : Int) ≤ 80 := by omega
      have g2 : ¬ (80 : Int) < l := by omega
      have g3 : (l : Int) ≤ cp := by omega
      have HE : min l 80 = l := by omega
      rw [HE] at HRun HRef HD
      clear HE hl hc h
      go_enter Try.func4, Try.ntmps4
      go_wp2_with fail
      rw [show (min (l : Int) 80).toNat = l by omega]
      refine (HRun.out _ HD.out).mono ?_
      rintro e w1 ⟨A1, c1, A2, c2, rfl, s1, s2, h1, h2, hb⟩
      have X1 := Lib.hid h1
      have X2 := Lib.hid h2
      have HB := Lib.hid hb
      have HD1 := Lib.hid (Recs.below HD.out hb)
      clear s1 s2 h1 h2 hb HRun
      go_wp2_with fail
      refine (HRef.out _ HD1.out).mono ?_
      rintro e w2 ⟨A3, c3, A4, c4, rfl, h3, h4, hb⟩
      have b2 : Below w2.heap.size w2 (w2.alloc (.cells (rcA A3 A4 st.tk.length c3 st.lf.length c4 st.vn) 38)) := (Below.refl _ _).alloc (Nat.le_refl _) _
      have X1 := Lib.hid (Recs.below (Recs.below X1.out hb) b2)
      have X2 := Lib.hid (Recs.below (Recs.below X2.out hb) b2)
      have X3 := Lib.hid (Recs.below h3 b2)
      have X4 := Lib.hid (Recs.below h4 b2)
      have HB := Lib.hid (chain (chain HB.out hb) b2)
      have GR := Lib.hid (Box.new w2 38 (rcA A3 A4 st.tk.length c3 st.lf.length c4 st.vn))
      clear h3 h4 hb b2 HRef HD1
      go_wp2_with fail
      refine (alive14_any _).mono ?_
      rintro e w3 ⟨rfl, hb⟩
      have X1 := Lib.hid (Recs.below X1.out hb)
      have X2 := Lib.hid (Recs.below X2.out hb)
      have X3 := Lib.hid (Recs.below X3.out hb)
      have X4 := Lib.hid (Recs.below X4.out hb)
      have HB := Lib.hid (chain HB.out hb)
      have GR := Lib.hid (GR.out.keep hb)
      clear hb
      have g0 := GR.out.cell 0
      have g1 := GR.out.cell 1
      have g2 := GR.out.cell 2
      simp only [List.getElem?_toArray, List.getElem?_cons_zero, List.getElem?_cons_succ] at g0 g1 g2
      go_wp2_with fail
      refine (refSame14_same A1 A3 _ c1 c3 st.tk _ X1.out X3.out (by omega)).mono ?_
      rintro e w4 ⟨rfl, hb⟩
      have X2 := Lib.hid (Recs.below X2.out hb)
      have X4 := Lib.hid (Recs.below X4.out hb)
      have HB := Lib.hid (chain HB.out hb)
      have GR := Lib.hid (GR.out.keep hb)
      clear hb g0 g1 g2
      have g0 := GR.out.cell 0
      have g1 := GR.out.cell 1
      have g2 := GR.out.cell 2
      simp only [List.getElem?_toArray, List.getElem?_cons_zero, List.getElem?_cons_succ] at g0 g1 g2
      go_wp2_with fail
      refine (refSame14_same A2 A4 _ c2 c4 st.lf _ X2.out X4.out (by omega)).mono ?_
      rintro e w5 ⟨rfl, hb⟩
      have HB := Lib.hid (chain HB.out hb)
      have GR := Lib.hid (GR.out.keep hb)
      clear hb g0 g1 g2
      have g0 := GR.out.cell 0
      have g1 := GR.out.cell 1
      have g2 := GR.out.cell 2
      simp only [List.getElem?_toArray, List.getElem?_cons_zero, List.getElem?_cons_succ] at g0 g1 g2
      go_wp2_with fail
      go_ret
      exact ⟨rfl, HB.out⟩
    · have g1 : (80 : Int) < l := by omega
      have g2 : (80 : Int) ≤ cp := by omega
      have HE : min l 80 = 80 := by omega
      rw [HE] at HRun HRef HD
      clear HE hl hc h
      go_enter Try.func4, Try.ntmps4
      go_wp2_with fail
      rw [show (min (l : Int) 80).toNat = 80 by omega]
      refine (HRun.out _ HD.out).mono ?_
      rintro e w1 ⟨A1, c1, A2, c2, rfl, s1, s2, h1, h2, hb⟩
      have X1 := Lib.hid h1
      have X2 := Lib.hid h2
      have HB := Lib.hid hb
      have HD1 := Lib.hid (Recs.below HD.out hb)
      clear s1 s2 h1 h2 hb HRun
      go_wp2_with fail
      refine (HRef.out _ HD1.out).mono ?_
      rintro e w2 ⟨A3, c3, A4, c4, rfl, h3, h4, hb⟩
      have b2 : Below w2.heap.size w2 (w2.alloc (.cells (rcA A3 A4 st.tk.length c3 st.lf.length c4 st.vn) 38)) := (Below.refl _ _).alloc (Nat.le_refl _) _
      have X1 := Lib.hid (Recs.below (Recs.below X1.out hb) b2)
      have X2 := Lib.hid (Recs.below (Recs.below X2.out hb) b2)
      have X3 := Lib.hid (Recs.below h3 b2)
      have X4 := Lib.hid (Recs.below h4 b2)
      have HB := Lib.hid (chain (chain HB.out hb) b2)
      have GR := Lib.hid (Box.new w2 38 (rcA A3 A4 st.tk.length c3 st.lf.length c4 st.vn))
      clear h3 h4 hb b2 HRef HD1
      go_wp2_with fail
      refine (alive14_any _).mono ?_
      rintro e w3 ⟨rfl, hb⟩
      have X1 := Lib.hid (Recs.below X1.out hb)
      have X2 := Lib.hid (Recs.below X2.out hb)
      have X3 := Lib.hid (Recs.below X3.out hb)
      have X4 := Lib.hid (Recs.below X4.out hb)
      have HB := Lib.hid (chain HB.out hb)
      have GR := Lib.hid (GR.out.keep hb)
      clear hb
      have g0 := GR.out.cell 0
      have g1 := GR.out.cell 1
      have g2 := GR.out.cell 2
      simp only [List.getElem?_toArray, List.getElem?_cons_zero, List.getElem?_cons_succ] at g0 g1 g2
      go_wp2_with fail
      refine (refSame14_same A1 A3 _ c1 c3 st.tk _ X1.out X3.out (by omega)).mono ?_
      rintro e w4 ⟨rfl, hb⟩
      have X2 := Lib.hid (Recs.below X2.out hb)
      have X4 := Lib.hid (Recs.below X4.out hb)
      have HB := Lib.hid (chain HB.out hb)
      have GR := Lib.hid (GR.out.keep hb)
      clear hb g0 g1 g2
      have g0 := GR.out.cell 0
      have g1 := GR.out.cell 1
      have g2 := GR.out.cell 2
      simp only [List.getElem?_toArray, List.getElem?_cons_zero, List.getElem?_cons_succ] at g0 g1 g2
      go_wp2_with fail
      refine (refSame14_same A2 A4 _ c2 c4 st.lf _ X2.out X4.out (by omega)).mono ?_
      rintro e w5 ⟨rfl, hb⟩
      have HB := Lib.hid (chain HB.out hb)
      have GR := Lib.hid (GR.out.keep hb)
      clear hb g0 g1 g2
      have g0 := GR.out.cell 0
      have g1 := GR.out.cell 1
      have g2 := GR.out.cell 2
      simp only [List.getElem?_toArray, List.getElem?_cons_zero, List.getElem?_cons_succ] at g0 g1 g2
      go_wp2_with fail
      go_ret
      exact ⟨rfl, HB.out⟩
end Go.Proofs.Ytmfjbmojejplgaa
