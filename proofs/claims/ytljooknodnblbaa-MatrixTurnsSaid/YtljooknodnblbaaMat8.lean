/- Layer 3's reference: One. -/
import Derived.Test.YtljooknodnblbaaMat7
import Derived.Test.YtljooknodnblbaaOwnF
import Derived.Deep.RegionLaw
namespace Go.Proofs.Ytljooknodnblbaa
set_option linter.unusedVariables false
set_option linter.unusedSimpArgs false
open Go.RowKit
theorem own_drewM {w : World} {base e size n : Nat} {v : Value} {xs : List Value} (h : w.ownsRow base e size v n xs) : w.drew.ownsRow base e size v n xs := h
theorem one_ints (w : World) (t : TypeId) (i : Nat) (hi : i ≤ 1000000) : Ints (w.alloc (.cells #[.int .i64 i] t)) (some ⟨w.heap.size, 0, none⟩) 1 [(i : Int)] := by
  have bx := Box.new w t #[.int .i64 (i : Int)]
  refine ⟨rfl, fun j => ?_, fun _ => ⟨w.heap.size, 0, rfl, bx.lt, fun j hj => ?_⟩⟩
  · match j with
    | 0 => simp; omega
    | k + 1 => simp
  · rw [Nat.zero_add, bx.cell]
    match j, hj with
    | 0, _ => rfl
/-- A row of rows of the call's own, each with a row of words of the call's own. -/
def RowsW (w : World) (base : Nat) (v : Value) (ms : List (Int × List Nat)) : Prop :=
  ∃ rs : List RowV, rs.length = ms.length ∧ w.ownsRow base 37 2 v ms.length (rowCells rs) ∧ ∀ j, j < ms.length → (rs.getD j (0, none, 0, 0)).1 = (ms.getD j (0, [])).1 ∧ OwnW w (rs.getD j (0, none, 0, 0)).2.1 (rs.getD j (0, none, 0, 0)).2.2.1 (rs.getD j (0, none, 0, 0)).2.2.2 (ms.getD j (0, [])).2
theorem RowsW.nil (w : World) (base : Nat) : RowsW w base (.slice none 0 0) [] := ⟨[], rfl, World.ownsRow_nil _ _ _ _, fun j hj => by cases hj⟩
theorem RowsW.below {w w' : World} {base : Nat} {v : Value} {ms : List (Int × List Nat)} (h : RowsW w base v ms) (hb : Below w.heap.size w w') : RowsW w' base v ms := by
  obtain ⟨rs, h1, h2, h3⟩ := h
  exact ⟨rs, h1, own_keep h2 hb, fun j hj => ⟨(h3 j hj).1, (h3 j hj).2.below hb⟩⟩
theorem RowsW.far {w : World} {base : Nat} {v : Value} {ms : List (Int × List Nat)} (h : RowsW w base v ms) {g : Nat} {t : TypeId} {cs : Array Value} (hb : Box w g t cs) (hne : 55 ≠ t) (hne2 : 37 ≠ t) (i : Nat) (u : Value) : RowsW (w.setCell ⟨g, i, none⟩ u) base v ms := by
  obtain ⟨rs, h1, h2, h3⟩ := h
  exact ⟨rs, h1, own_far h2 hb hne2 i u, fun j hj => ⟨(h3 j hj).1, (h3 j hj).2.far hb hne i u⟩⟩
theorem RowsW.snoc {w : World} {base n : Nat} {v : Value} {rs : List RowV} {ms : List (Int × List Nat)} {N : Int} {A : Option Addr} {l c : Nat} {z : List Nat} (hn : ms.length = n) (h1 : rs.length = n) (h2 : w.ownsRow base 37 2 v (n + 1) (rowCells rs ++ [.int .i64 N, .slice A l c]))
    (h3 : ∀ j, j < n → (rs.getD j (0, none, 0, 0)).1 = (ms.getD j (0, [])).1 ∧ OwnW w (rs.getD j (0, none, 0, 0)).2.1 (rs.getD j (0, none, 0, 0)).2.2.1 (rs.getD j (0, none, 0, 0)).2.2.2 (ms.getD j (0, [])).2) (h4 : OwnW w A l c z) : RowsW w base v (ms ++ [(N, z)]) := by
  subst hn
  refine ⟨rs ++ [(N, A, l, c)], by simp [h1], ?_, fun j hj => ?_⟩
  · rw [rowCells_snoc, List.length_append]; exact h2
  · rw [List.length_append] at hj
    simp only [List.length_cons, List.length_nil] at hj
    by_cases h : j < ms.length
    · have := h3 j h
      simp only [List.getD, List.getElem?_append_left h, List.getElem?_append_left (h1 ▸ h)] at this ⊢
      exact this
    · obtain rfl : j = ms.length := by omega
      have e1 : (rs ++ [(N, A, l, c)]).getD ms.length (0, none, 0, 0) = (N, A, l, c) := by rw [← h1]; simp [List.getD]
      have e2 : (ms ++ [(N, z)]).getD ms.length (0, []) = (N, z) := by simp [List.getD]
      rw [e1, e2]; exact ⟨rfl, h4⟩
theorem RowsW.mat {w : World} {base : Nat} {v : Value} {ms : List (Int × List Nat)} (h : RowsW w base v ms) (hz : ∀ i j, ((ms.getD i (0, [])).2).getD j 0 < 18446744073709551616) : ∃ A c, v = .slice A ms.length c ∧ ms.length ≤ c ∧ MatAt w base A ms.length ms := by
  obtain ⟨rs, h1, h2, h3⟩ := h
  exact own_mat h2 h1 ms rfl (fun j hj => ⟨(h3 j hj).1, (h3 j hj).2.ok, (h3 j hj).2.words (hz j)⟩)
theorem oneL_take (n i : Nat) (h : i < n) : (oneL n).take (i + 1) = (oneL n).take i ++ [((n : Int), ofBits n [(i : Int)])] := by
  rw [take_one (oneL n) i (0, []) (by rw [oneL_len]; exact h)]
  simp [oneL, List.getD, h]
theorem oneL_lt (n i j : Nat) : (((oneL n).getD i (0, [])).2).getD j 0 < 18446744073709551616 := by
  by_cases h : i < n
  · have e : (oneL n).getD i (0, []) = ((n : Int), ofBits n [(i : Int)]) := by simp [oneL, List.getD, h]
    rw [e]; exact ofBits_lt n _ j
  · have e : (oneL n)[i]? = none := List.getElem?_eq_none (by rw [oneL_len]; omega)
    simp [List.getD, e]
set_option maxRecDepth 100000 in
set_option maxHeartbeats 4000000 in
theorem refOne_any (n : Nat) (hn : n ≤ 64) (w : World) : Calls Try.prog 12 #[.int .i64 n] w (MatOne n (oneL n) w) := by
  obtain ⟨i0, hi, hz0, hz1, hz2⟩ := info_parts row_infoM
  have HI := Lib.hid hi
  have HZ0 := Lib.hid hz0
  have HZ1 := Lib.hid hz1
  have HZ2 := Lib.hid hz2
  clear hi hz0 hz1 hz2
  have Q0 := Lib.hid ((Box.new w 24 #[.int .i64 0, .slice none 0 0]).alloc (.cells #[.int .i64 n, .slice none 0 0] 24))
  have q1 := Box.new (w.alloc (.cells #[.int .i64 0, .slice none 0 0] 24)) 24 #[.int .i64 n, .slice none 0 0]
  have HW := Lib.hid (show Below w.heap.size w ((w.alloc (.cells #[.int .i64 0, .slice none 0 0] 24)).alloc (.cells #[.int .i64 n, .slice none 0 0] 24)) from ((Below.refl _ _).alloc (Nat.le_refl _) _).alloc (by simp) _)
  simp only [World.size_alloc] at q1
  have Q1 := Lib.hid q1
  clear q1
  go_enter Try.func12, Try.ntmps12
  go_wp2_with fail
  go_loopw [4] (fun t wr => ∃ (i : Nat) (v : Value), i ≤ n ∧ t = .int .i64 i ∧ Box wr (w.heap.size + 1) 24 #[.int .i64 n, v] ∧ RowsW wr w.heap.size v ((oneL n).take i) ∧ Box wr w.heap.size 24 #[.int .i64 0, .slice none 0 0] ∧ Below w.heap.size w wr) (fun t _ => n - (intOf t).toNat)
  case atStart => exact ⟨0, _, by omega, rfl, Q1.out, RowsW.nil _ _, Q0.out, HW.out⟩
  case round =>
    obtain ⟨i, v, hi, rfl, B1, hmat, B0, hbel⟩ := hrel
    have R1 := Lib.hid B1
    have R0 := Lib.hid B0
    have HMa := Lib.hid hmat
    have HB := Lib.hid hbel
    clear B1 B0 hmat hbel Q0 Q1 HW
    by_cases hlt : i < n
    · have hlt' : (i : Int) < (n : Int) := by omega
      have HTK := Lib.hid (oneL_take n i hlt)
      have HTL := Lib.hid (show ((oneL n).take i).length = i by rw [List.length_take, oneL_len]; omega)
      obtain ⟨a0, a1, f0, f1⟩ := R1.out.two
      obtain ⟨rs, hr1, hr2, hr3⟩ := HMa.out
      rw [HTL.out] at hr1 hr2 hr3
      have HOW := Lib.hid hr2
      have HRS := Lib.hid hr3
      clear hr2 hr3
      have HIN := Lib.hid (show Ints (wr.alloc (.cells #[.int .i64 i] 3)).drew (some ⟨wr.heap.size, 0, none⟩) 1 [(i : Int)] from one_ints wr 3 i (by omega))
      have HBN := Lib.hid (show Below wr.heap.size wr (wr.alloc (.cells #[.int .i64 i] 3)).drew from ((Below.refl wr.heap.size wr).alloc (Nat.le_refl _) _).drew)
      have HTH := Lib.hid (show there n [(i : Int)] = true by simp [there]; omega)
      obtain ⟨y0, y1, yf0, yf1⟩ := (R1.out.alloc (.cells #[.int .i64 i] 3)).two
      go_wp2_with fail
      go_region_law (first
        | (go_simp; go_at_call 23; refine (refOf_own n _ 1 1 [(i : Int)] _ HIN.out (by omega) (by omega) HTH.out).mono ?_; rintro e1 x1 ⟨A1, l1, c1, rfl, hw, hb⟩; have S1 := Lib.hid ((R1.out.keep HBN.out).keep hb); have S0 := Lib.hid ((R0.out.keep HBN.out).keep hb); have SO := Lib.hid (own_keep (own_keep HOW.out HBN.out) hb); have SR := Lib.hid (fun j hj => And.intro (HRS.out j hj).1 (((HRS.out j hj).2.below HBN.out).below hb)); have SB := Lib.hid (chainN (HB.out.trans (HBN.out.mono HB.out.size)) (HB.out.trans (HBN.out.mono HB.out.size)).size hb); have SW := Lib.hid hw; clear hb hw; have T1 := Lib.hid (S1.out.alloc (.cells #[.int .i64 n, .slice A1 l1 c1] 37)); obtain ⟨s0, s1, sf0, sf1⟩ := S1.out.two; obtain ⟨t0, t1, tf0, tf1⟩ := T1.out.two; have hb0 := SB.out.size; have hn0 := SO.out.lt)
        | (refine step_append_lies _ rfl (.tmp 13) (.tmp 18) 22 rfl w.heap.size 37 i0 (.agg #[.int .i64 0, .slice none 0 0]) 2 32 Try.underlying22 HI.out HZ0.out HZ1.out HZ2.out rfl (by decide) v i (rowCells rs) (by simp [Act.eval, Act.put]) (World.ownsRow.alloc SO.out (.cells #[.int .i64 n, .slice A1 l1 c1] 37)) ⟨x1.heap.size, 0, none⟩ 1 1 [.int .i64 n, .slice A1 l1 c1] (by simp [Act.eval, Act.put]) rfl (World.news_of_block (Box.new x1 37 #[.int .i64 n, .slice A1 l1 c1])) (by simp [Value.oneCell']) (by omega) (by simp [maxLen]; omega) (by omega) (by simp; omega) _ rfl ?_; intro g cap w1 hown hgrow _ _; have V1 := Lib.hid (T1.out.grown hgrow (own_ne SO.out S1.out (by decide))); have HO2 := Lib.hid hown; have HG := Lib.hid hgrow; clear hown hgrow; obtain ⟨v0, v1, vf0, vf1⟩ := V1.out.two))
      all_goals
        have W0 := Lib.hid ((S0.out.alloc (.cells #[.int .i64 n, .slice A1 l1 c1] 37)).grown HG.out (own_ne SO.out S0.out (by decide)))
        have WB := Lib.hid ((SB.out.alloc SB.out.size (.cells #[.int .i64 n, .slice A1 l1 c1] 37)).grown HG.out (SB.out.alloc SB.out.size (.cells #[.int .i64 n, .slice A1 l1 c1] 37)).size (fun k hk => (SO.out.lt k hk).1))
        have WR := Lib.hid (fun j hj => And.intro (SR.out j hj).1 (OwnW.grown ((SR.out j hj).2.alloc (.cells #[.int .i64 n, .slice A1 l1 c1] 37)) (World.ownsRow.alloc SO.out (.cells #[.int .i64 n, .slice A1 l1 c1] 37)) (by decide) HG.out))
        have WW := Lib.hid (OwnW.grown (SW.out.alloc (.cells #[.int .i64 n, .slice A1 l1 c1] 37)) (World.ownsRow.alloc SO.out (.cells #[.int .i64 n, .slice A1 l1 c1] 37)) (by decide) HG.out)
        have WM := Lib.hid (RowsW.snoc HTL.out hr1 HO2.out WR.out WW.out)
        clear HG SO SR SB SW S0 S1 T1 HOW HRS HO2 WR WW HMa R1 R0 HB
        go_wp2_with fail
        go_roundw
        case rel => exact ⟨i + 1, _, by omega, by go_num, V1.out.put 1 _, by rw [HTK.out]; exact WM.out.far V1.out (by decide) (by decide) 1 _, W0.out.far (p := ⟨w.heap.size + 1, 1, none⟩) (by simp) _, WB.out.setCell (p := ⟨w.heap.size + 1, 1, none⟩) (by simp) _⟩
        case measure => simp [intOf] <;> omega
    · obtain rfl : n = i := by omega
      have hlt' : ¬ (n : Int) < (n : Int) := by omega
      have HTK := Lib.hid (show (oneL n).take n = oneL n from List.take_of_length_le (by rw [oneL_len]; omega))
      have HOL := Lib.hid (oneL_len n)
      rw [HTK.out] at HMa
      have hm := HMa.out.far R0.out (by decide) (by decide) 0 (.int .i64 n)
      obtain ⟨A', c', rfl, hcc, -⟩ := HMa.out.mat (oneL_lt n)
      have HX := Lib.hid ((hm.far (R0.out.put 0 (.int .i64 n)) (by decide) (by decide) 1 (.slice A' (oneL n).length c')).mat (oneL_lt n))
      clear hm
      obtain ⟨a0, a1, -, -⟩ := R1.out.two
      obtain ⟨b0, b1, f0, f1⟩ := R0.out.two
      go_wp2
      obtain ⟨A2, c2, hv, -, hx⟩ := HX.out
      injection hv with e1 e2 e3
      subst e1 e3
      refine close_one Try.results12 rfl rfl R0.out.put2 Try.underlying24 rfl (by kernel_rfl) ⟨A', c', rfl, hx, ?_⟩
      exact (HB.out.setCell (p := ⟨w.heap.size, 0, none⟩) (Nat.le_refl _) _).setCell (p := ⟨w.heap.size, 1, none⟩) (Nat.le_refl _) _
end Go.Proofs.Ytljooknodnblbaa
