/- Parts: Rd7, Rd8, Few4, RuM, RuX, Re1, Re2, Re3, Re4, BsP, PopM, BitT, Plc. -/
import Derived.Test.YtdfmogcgangdnaaDoorZe
import Derived.ArgAppend
import Derived.BigQuiet
import Derived.Deep.DeepCutAuto
import Derived.Deep.QuietTactic
import Derived.Deep.RegionHeld3
import Derived.Deep.RegionWith
import Derived.IntWalk
namespace Go.Proofs.YtdfmogcgangdnaaDoor
section
/- Layer 4: Echelon, Rank, whole. -/
set_option linter.unusedVariables false
set_option linter.unusedSimpArgs false
open Go.RowKit
set_option maxRecDepth 100000
theorem ech_yes (N : Nat) (hN : N ≤ 64) (L : List Nat) (hL : ∀ r ∈ L, r < 2 ^ N) (hlen : L.length ≤ 64) (A : Option Addr) (c lo : Nat) (w : World) (hm : MatAt w lo A L.length (mkM N L)) (hr : rightM N (mkM N L) = true) :
    Calls Tryd.prog 7 #[.agg #[.int .i64 (N : Int), .slice A L.length c]] w (EchOut N L w) := (callsIn_wide.1 (echelon_in N hN L hL hlen A c lo w hm hr)).mono fun _ _ h => h.one
theorem ech_two (N : Nat) (hN : N ≤ 64) (L : List Nat) (hL : ∀ r ∈ L, r < 2 ^ N) (hlen : L.length ≤ 64) (A : Option Addr) (c lo : Nat) (w : World) (hm : MatAt w lo A L.length (mkM N L)) (hr : rightM N (mkM N L) = true) :
    Calls Tryd.prog 7 #[.agg #[.int .i64 (N : Int), .slice A L.length c]] w (EchOut2 N L w) := callsIn_wide.1 (echelon_in N hN L hL hlen A c lo w hm hr)
theorem close_cell2 {P : Program} {fn : Func} {R : Ending → World → Prop} {a : Act} {W : World} {p q r : Tmp} {T : TypeId} {g : Nat} {cs : Array Value} {d : TypeDesc} {v u : Value} (hr : fn.results = #[.cell p T, .tmp q, .tmp r])
    (hp : a.tmps.getD p undef = .pointer (some ⟨g, 0, none⟩)) (hq : a.tmps.getD q undef = v) (hq2 : a.tmps.getD r undef = u) (hd : a.defers = []) (hbox : Box W g T cs) (hu : P.underlying T = some d)
    (hk : (match d with | .struct _ | .array _ _ => true | _ => false) = true) (hi : (P.info? T).map (·.size) = some cs.size)
    (hR : R (.returned (.tuple #[.agg cs, v, u])) W) : bodyPost P fn R .ret a W := bodyPost_ret (results_cell2 hr hp hq hq2 hbox hu hk hi) hd hR
/-- A refusal. -/
def EchNo (w : World) (e : Ending) (w' : World) : Prop := e = .returned (.tuple #[.agg #[.int .i64 0, .slice none 0 0], .slice none 0 0, .int .i64 1]) ∧ Below w.heap.size w w'
theorem ech_no (N : Int) (A : Option Addr) (l c lo : Nat) (ms : List (Int × List Nat)) (w : World) (hm : MatAt w lo A l ms) (hl : l ≤ maxLen) (hr : rightM N ms = false) :
    Calls Tryd.prog 7 #[.agg #[.int .i64 N, .slice A l c]] w (EchNo w) := by
  have b1 : Below w.heap.size w ((w.alloc (.cells #[.int .i64 N, .slice A l c] 24)).alloc (.cells #[.int .i64 0, .slice none 0 0] 24)) := ((Below.refl _ _).alloc (Nat.le_refl _) _).alloc (by simp) _
  have Q0 := Lib.hid ((Box.new w 24 #[.int .i64 N, .slice A l c]).alloc (.cells #[.int .i64 0, .slice none 0 0] 24))
  have q1 := Box.new (w.alloc (.cells #[.int .i64 N, .slice A l c] 24)) 24 #[.int .i64 0, .slice none 0 0]
  simp only [World.size_alloc] at q1
  have Q1 := Lib.hid q1
  have HB := Lib.hid b1
  have HR := Lib.hid (mright_any N A l c lo ms _ (hm.below b1) hl)
  rw [hr] at HR
  clear q1 b1 hm hr
  go_enter Tryd.func7, Tryd.ntmps7
  go_wp2_with fail
  refine HR.out.mono ?_
  rintro e x1 ⟨rfl, hb⟩
  have Q1 := Lib.hid (Q1.out.keep hb)
  have HB := Lib.hid (chain HB.out hb)
  clear hb HR Q0
  obtain ⟨r0, r1, f0, f1⟩ := Q1.out.two
  go_wp2_with fail
  refine close_cell2 Tryd.results7 rfl rfl rfl rfl Q1.out.put2 Tryd.underlying24 rfl (by kernel_rfl) ⟨rfl, ?_⟩
  exact (HB.out.setCell (p := ⟨w.heap.size + 1, 0, none⟩) (by simp) _).setCell (p := ⟨w.heap.size + 1, 1, none⟩) (by simp) _
/-- How many rows a matrix reduced has. -/
def RankOut (L : List Nat) (w : World) (e : Ending) (w' : World) : Prop := ∃ M P, Rref M P ∧ SameSp L M ∧ e = .returned (.tuple #[.int .i64 (M.length : Nat), .int .i64 0]) ∧ Below w.heap.size w w'
theorem rank_yes (N : Nat) (hN : N ≤ 64) (L : List Nat) (hL : ∀ r ∈ L, r < 2 ^ N) (hlen : L.length ≤ 64) (A : Option Addr) (c lo : Nat) (w : World) (hm : MatAt w lo A L.length (mkM N L)) (hr : rightM N (mkM N L) = true) :
    Calls Tryd.prog 10 #[.agg #[.int .i64 (N : Int), .slice A L.length c]] w (RankOut L w) := by
  have b1 : Below w.heap.size w (w.alloc (.cells #[.int .i64 (N : Int), .slice A L.length c] 24)) := (Below.refl _ _).alloc (Nat.le_refl _) _
  have Q0 := Lib.hid (Box.new w 24 #[.int .i64 (N : Int), .slice A L.length c])
  have HB := Lib.hid b1
  have HE := Lib.hid (ech_yes N hN L hL hlen A c lo _ (hm.below b1) hr)
  clear b1 hm hr
  obtain ⟨r0, r1, -, -⟩ := Q0.out.two
  go_enter Tryd.func10, Tryd.ntmps10
  go_wp2_with fail
  refine HE.out.mono ?_
  rintro e x1 ⟨M, P, A1, B1, k, rfl, h1, h2, h3, h4, h5, hb⟩
  have H1 := Lib.hid h1
  have H2 := Lib.hid h2
  have HB := Lib.hid (chain HB.out hb)
  clear h1 h2 h3 h4 h5 hb r0 r1
  go_wp2_with fail
  go_ret2
  exact ⟨M, P, H1.out, H2.out, rfl, HB.out.alloc HB.out.size _⟩
theorem rank_no (N : Int) (A : Option Addr) (l c lo : Nat) (ms : List (Int × List Nat)) (w : World) (hm : MatAt w lo A l ms) (hl : l ≤ maxLen) (hr : rightM N ms = false) :
    Calls Tryd.prog 10 #[.agg #[.int .i64 N, .slice A l c]] w fun e w' => e = .returned (.tuple #[.int .i64 0, .int .i64 1]) ∧ Below w.heap.size w w' := by
  have b1 : Below w.heap.size w (w.alloc (.cells #[.int .i64 N, .slice A l c] 24)) := (Below.refl _ _).alloc (Nat.le_refl _) _
  have Q0 := Lib.hid (Box.new w 24 #[.int .i64 N, .slice A l c])
  have HB := Lib.hid b1
  have HE := Lib.hid (ech_no N A l c lo ms _ (hm.below b1) hl hr)
  clear b1 hm hr
  obtain ⟨r0, r1, -, -⟩ := Q0.out.two
  go_enter Tryd.func10, Tryd.ntmps10
  go_wp2_with fail
  refine HE.out.mono ?_
  rintro e x1 ⟨rfl, hb⟩
  have HB := Lib.hid (chain HB.out hb)
  clear hb r0 r1
  go_wp2_with fail
  go_ret2
  exact ⟨rfl, HB.out.alloc HB.out.size _⟩
end
section
/- Law 04's alive. -/
set_option linter.unusedVariables false
set_option linter.unusedSimpArgs false
open Go.RowKit
set_option maxRecDepth 100000
theorem rref_three : Rref [3] [0] := by
  refine ⟨rfl, fun i hi => ?_, fun i j hi hj => ?_, fun i j hij hj => ?_⟩
  · obtain rfl : i = 0 := by simp at hi; omega
    exact ⟨by decide, fun q hq => absurd hq (Nat.not_lt_zero _)⟩
  · obtain rfl : i = 0 := by simp at hi; omega
    obtain rfl : j = 0 := by simp at hj; omega
    decide
  · simp at hj; omega
theorem rank_three {M P : List Nat} (h : Rref M P) (hs : SameSp [3, 3] M) : M.length = 1 := by
  have h3 : SameSp [3, 3] [3] := SameSp.of (fun r hr => by simp at hr; subst hr; exact sp_mem (by simp)) (fun r hr => by simp at hr; subst hr; exact sp_mem (by simp))
  obtain ⟨e, -⟩ := rref_uniq h rref_three (hs.symm.trans h3)
  rw [e]; rfl
theorem rowOf_three : rowOf 2 3 = [3] := by decide
/-- The world of alive's matrix. -/
def alW (w : World) : World := ((w.alloc (.cells #[.int .u64 3] 63)).alloc (.cells #[.int .u64 3] 63)).alloc (.cells #[.int .i64 2, .slice (some ⟨w.heap.size, 0, none⟩) 1 1, .int .i64 2, .slice (some ⟨w.heap.size + 1, 0, none⟩) 1 1] 27)
theorem alW_below (w : World) : Below w.heap.size w (alW w) := (((Below.refl _ _).alloc (Nat.le_refl _) _).alloc (by simp) _).alloc (by simp; omega) _
theorem alive_mat (w : World) : MatAt (alW w) 0 (some ⟨w.heap.size + 1 + 1, 0, none⟩) 2 (mkM 2 [3, 3]) := by
  have q0 : Box (alW w) w.heap.size 63 (numsA [3]) := ((Box.new w 63 #[.int .u64 3]).alloc _).alloc _
  have q1 : Box (alW w) (w.heap.size + 1) 63 (numsA [3]) := by
    have := (Box.new (w.alloc (.cells #[.int .u64 3] 63)) 63 #[.int .u64 3]).alloc (.cells #[.int .i64 2, .slice (some ⟨w.heap.size, 0, none⟩) 1 1, .int .i64 2, .slice (some ⟨w.heap.size + 1, 0, none⟩) 1 1] 27)
    simp only [World.size_alloc] at this
    exact this
  have q2 : Box (alW w) (w.heap.size + 1 + 1) 27 #[.int .i64 2, .slice (some ⟨w.heap.size, 0, none⟩) 1 1, .int .i64 2, .slice (some ⟨w.heap.size + 1, 0, none⟩) 1 1] := by
    have := Box.new ((w.alloc (.cells #[.int .u64 3] 63)).alloc (.cells #[.int .u64 3] 63)) 27 #[.int .i64 2, .slice (some ⟨w.heap.size, 0, none⟩) 1 1, .int .i64 2, .slice (some ⟨w.heap.size + 1, 0, none⟩) 1 1]
    simp only [World.size_alloc] at this
    exact this
  have hz : ∀ j, ([3] : List Nat).getD j 0 < 18446744073709551616 := fun j => by match j with | 0 => decide | j + 1 => simp
  have w0 : Words (alW w) (some ⟨w.heap.size, 0, none⟩) 1 (rowOf 2 3) := by rw [rowOf_three]; exact q0.words hz
  have w1 : Words (alW w) (some ⟨w.heap.size + 1, 0, none⟩) 1 (rowOf 2 3) := by rw [rowOf_three]; exact q1.words hz
  refine ⟨rfl, fun _ => ⟨_, 0, rfl, Nat.zero_le _, q2.lt, fun j hj => ?_⟩⟩
  match j, hj with
  | 0, _ => exact ⟨_, 1, 1, q2.cell 0, q2.cell 1, ⟨Nat.le_refl _, by decide, fun h => by cases h⟩, w0⟩
  | 1, _ => exact ⟨_, 1, 1, q2.cell 2, q2.cell 3, ⟨Nat.le_refl _, by decide, fun h => by cases h⟩, w1⟩
theorem alive4_any (w : World) : Calls Tryd.prog 8 #[] w fun e w' => e = .returned (.bool true) ∧ Below w.heap.size w w' := by
  have HB := Lib.hid (alW_below w)
  have HR := Lib.hid (rank_yes 2 (by omega) [3, 3] (fun r hr => by simp at hr; subst hr; decide) (by decide) (some ⟨w.heap.size + 1 + 1, 0, none⟩) 2 0 (alW w) (alive_mat w) (by decide +kernel))
  unfold alW at HR HB
  go_enter Tryd.func8, Tryd.ntmps8
  go_wp2_with fail
  refine HR.out.mono ?_
  rintro e x1 ⟨M, P, h1, h2, rfl, hb⟩
  have hM := rank_three h1 h2
  have HB := Lib.hid (HB.out.trans (hb.mono HB.out.size))
  clear hb HR h1 h2
  rw [hM]
  clear hM
  go_wp2_with fail
  go_ret
  exact ⟨by simp, HB.out⟩
end
section
/- Contract of law 04's few: a matrix of at most 66 rows, of three words each. -/
set_option linter.unusedVariables false
set_option linter.unusedSimpArgs false
open Go.RowKit
set_option maxRecDepth 100000 in
set_option maxHeartbeats 4000000 in
theorem few4_any (N : Int) (A : Option Addr) (l c : Nat) (ms : List (Int × List Nat)) (w : World) (hs : SliceOk A l c) (hm : MatAt w 0 A l ms) :
    Calls Tryd.prog 6 #[.agg #[.int .i64 N, .slice A l c]] w (MatOne N (fewM ms) w) := by
  obtain ⟨i0, hi, hz0, hz1, hz2⟩ := info_parts row_infoM
  have HI := Lib.hid hi
  have HZ0 := Lib.hid hz0
  have HZ1 := Lib.hid hz1
  have HZ2 := Lib.hid hz2
  clear hi hz0 hz1 hz2
  have HM := Lib.hid hm
  have HL := Lib.hid hm.1
  have Q0 := Lib.hid ((Box.new w 24 #[.int .i64 N, .slice A l c]).alloc (.cells #[.int .i64 0, .slice none 0 0] 24))
  have q1 := Box.new (w.alloc (.cells #[.int .i64 N, .slice A l c] 24)) 24 #[.int .i64 0, .slice none 0 0]
  have HW := Lib.hid (show Below w.heap.size w ((w.alloc (.cells #[.int .i64 N, .slice A l c] 24)).alloc (.cells #[.int .i64 0, .slice none 0 0] 24)) from ((Below.refl _ _).alloc (Nat.le_refl _) _).alloc (by simp) _)
  simp only [World.size_alloc] at q1
  have Q1 := Lib.hid q1
  have n1 := Lib.hid (show (27 : TypeId) ≠ 24 by decide)
  clear hm q1
  obtain ⟨r0, r1, -, -⟩ := Q0.out.two
  obtain ⟨hs1, hs2, hs3⟩ := hs
  unfold maxLen at hs2
  have hfl := fewM_len ms
  rw [HL.out] at hfl
  have HFL := Lib.hid hfl
  clear hfl
  cases A with
  | none =>
    obtain ⟨rfl, rfl⟩ := hs3 rfl
    have HM0 := Lib.hid (show ms = [] from List.length_eq_zero_iff.1 HL.out)
    go_enter Tryd.func6, Tryd.ntmps6
    go_wp2_with fail
    clear r0 r1
    go_loopw [3, 14] (fun v t wr => ∃ (i : Nat) (rs : List RowV), i ≤ 0 ∧ t = .int .i64 i ∧ Hid (rs.length = i) ∧ wr.ownsRow w.heap.size 27 2 v i (rowCells rs) ∧ Hid (∀ j, j < i → (rs.getD j (0, none, 0, 0)).1 = (ms.getD j (0, [])).1 ∧ SliceOk (rs.getD j (0, none, 0, 0)).2.1 (rs.getD j (0, none, 0, 0)).2.2.1 (rs.getD j (0, none, 0, 0)).2.2.2 ∧ Words w (rs.getD j (0, none, 0, 0)).2.1 (rs.getD j (0, none, 0, 0)).2.2.1 ((ms.getD j (0, [])).2.take 3)) ∧ Box wr w.heap.size 24 #[.int .i64 N, .slice none 0 0] ∧ Box wr (w.heap.size + 1) 24 #[.int .i64 0, .slice none 0 0] ∧ Below w.heap.size w wr) (fun _ t _ => 0 - (intOf t).toNat)
    case atStart => exact ⟨0, [], by omega, rfl, Lib.hid rfl, World.ownsRow_nil _ _ _ _, Lib.hid (fun j hj => absurd hj (Nat.not_lt_zero _)), Q0.out, Q1.out, HW.out⟩
    case round =>
      obtain ⟨i, rs, hi, rfl, HRL, hown, HR, hb0, hb1, hbel⟩ := hrel
      have HO := Lib.hid hown
      have R0 := Lib.hid hb0
      have R1 := Lib.hid hb1
      have HB := Lib.hid hbel
      clear hown hb0 hb1 hbel Q0 Q1 HW
      obtain rfl : 0 = i := by omega
      have HFL2 := Lib.hid (show (fewM ms).length = 0 by rw [HFL.out]; omega)
      obtain ⟨A', c', rfl, hc', hmat⟩ := own_mat HO.out HRL.out (fewM ms) HFL2.out (fun j hj => by
        obtain ⟨a1, a2, a3⟩ := HR.out j hj
        rw [fewM_at ms j (by rw [HL.out]; omega) (by omega)]
        exact ⟨a1, a2, a3.below HB.out⟩)
      have HMat := Lib.hid hmat
      clear hmat
      obtain ⟨s0, s1, s2, s3⟩ := R0.out.two
      obtain ⟨t0, t1, t2, t3⟩ := R1.out.two
      have P0 := Lib.hid (R0.out.put 1 (.slice A' 0 c'))
      have P1 := Lib.hid (R1.out.far (p := ⟨w.heap.size, 1, none⟩) (by simp) (.slice A' 0 c'))
      have hlo : ∀ b o, A' = some ⟨b, o, none⟩ → 0 < 0 → b ≠ w.heap.size ∧ b ≠ w.heap.size + 1 := fun b o hA h0 => by
        have e1 := own_ne HO.out R0.out n1.out
        have e2 := own_ne HO.out R1.out n1.out
        subst hA
        exact ⟨fun e => e1 (by rw [e]; rfl), fun e => e2 (by rw [e]; rfl)⟩
      have HLo := Lib.hid hlo
      clear hlo
      have hx1 := HMat.out.farB (B := w.heap.size) (fun b o hA h0 => (HLo.out b o hA h0).1) R0.out 1 (.slice A' 0 c')
      have hx2 := hx1.farB (B := w.heap.size + 1) (fun b o hA h0 => (HLo.out b o hA h0).2) P1.out 0 (.int .i64 N)
      have HX3 := Lib.hid (hx2.farB (B := w.heap.size + 1) (fun b o hA h0 => (HLo.out b o hA h0).2) (P1.out.put 0 (.int .i64 N)) 1 (.slice A' 0 c'))
      clear hx1 hx2
      go_wp2_with fail
      refine close_one Tryd.results6 rfl rfl P1.out.put2 Tryd.underlying24 rfl (by kernel_rfl) ⟨A', c', by first | (rw [HFL2.out]; done) | (rw [HFL2.out]; rfl), by rw [HFL2.out]; exact HX3.out, ?_⟩
      exact ((HB.out.setCell (p := ⟨w.heap.size, 1, none⟩) (Nat.le_refl _) _).setCell (p := ⟨w.heap.size + 1, 0, none⟩) (by simp) _).setCell (p := ⟨w.heap.size + 1, 1, none⟩) (by simp) _
  | some ad =>
    obtain ⟨kk, ekk⟩ : ∃ k, k = min l 66 := ⟨_, rfl⟩
    have hkk1 : kk ≤ l := by omega
    have hkk2 : kk ≤ 66 := by omega
    have hkk3 : kk ≤ c := by omega
    have hkk4 : min l 66 = kk := ekk.symm
    have mkk : (if (66 : Int) < (l : Int) then 66 else (l : Int)) = (kk : Int) := by split <;> omega
    have HFL := Lib.hid (show (fewM ms).length = kk by rw [HFL.out, hkk4])
    clear ekk hkk4 hs3
    go_enter Tryd.func6, Tryd.ntmps6
    go_wp2_with fail
    clear r0 r1
    go_loopw [3, 14] (fun v t wr => ∃ (i : Nat) (rs : List RowV), i ≤ kk ∧ t = .int .i64 i ∧ Hid (rs.length = i) ∧ wr.ownsRow w.heap.size 27 2 v i (rowCells rs) ∧ Hid (∀ j, j < i → (rs.getD j (0, none, 0, 0)).1 = (ms.getD j (0, [])).1 ∧ SliceOk (rs.getD j (0, none, 0, 0)).2.1 (rs.getD j (0, none, 0, 0)).2.2.1 (rs.getD j (0, none, 0, 0)).2.2.2 ∧ Words w (rs.getD j (0, none, 0, 0)).2.1 (rs.getD j (0, none, 0, 0)).2.2.1 ((ms.getD j (0, [])).2.take 3)) ∧ Box wr w.heap.size 24 #[.int .i64 N, .slice (some ad) l c] ∧ Box wr (w.heap.size + 1) 24 #[.int .i64 0, .slice none 0 0] ∧ Below w.heap.size w wr) (fun _ t _ => kk - (intOf t).toNat)
    case atStart => exact ⟨0, [], by omega, rfl, Lib.hid rfl, World.ownsRow_nil _ _ _ _, Lib.hid (fun j hj => absurd hj (Nat.not_lt_zero _)), Q0.out, Q1.out, HW.out⟩
    case round =>
      obtain ⟨i, rs, hi, rfl, HRL, hown, HR, hb0, hb1, hbel⟩ := hrel
      have HO := Lib.hid hown
      have R0 := Lib.hid hb0
      have R1 := Lib.hid hb1
      have HB := Lib.hid hbel
      clear hown hb0 hb1 hbel Q0 Q1 HW
      by_cases hlt : i < kk
      · have hlt' : (i : Int) < (kk : Int) := by omega
        have h1 := (HM.out.below HB.out)
        obtain ⟨g1, o1, B1, l1, c1, hA, hg1, x1, y1, s1, u1⟩ := HM.out.at i (by omega)
        obtain rfl := Option.some.inj hA
        have x1 := (HB.out.cell (p := ⟨g1, o1 + i * 2, none⟩) hg1).trans x1
        have y1 := (HB.out.cell (p := ⟨g1, o1 + i * 2 + 1, none⟩) hg1).trans y1
        have HP := Lib.hid (show ms.getD i (0, []) = ((ms.getD i (0, [])).1, (ms.getD i (0, [])).2) from rfl)
        generalize (ms.getD i (0, [])).1 = n at *
        generalize (ms.getD i (0, [])).2 = us at *
        have HU := Lib.hid u1
        clear h1 u1
        have hi' := HI.out
        have hz0' := HZ0.out
        have hz1' := HZ1.out
        have hz2' := HZ2.out
        obtain ⟨ha, hb, hc⟩ := s1
        unfold maxLen at hb
        cases B1 with
        | none =>
          obtain ⟨rfl, rfl⟩ := hc rfl
          have HUN := Lib.hid (show us = [] from List.length_eq_zero_iff.1 HU.out.1)
          have HX := Lib.hid (show Below wr.heap.size wr (wr.alloc (.cells #[.int .i64 n, .slice none 0 0] 27)) from (Below.refl _ _).alloc (Nat.le_refl _) _)
          have X0 := Lib.hid (R0.out.keep HX.out)
          have X1 := Lib.hid (R1.out.keep HX.out)
          have XO := Lib.hid (own_keep HO.out HX.out)
          have XB := Lib.hid (HB.out.trans (HX.out.mono HB.out.size))
          have HWd := Lib.hid (show (n : Int) = n ∧ SliceOk none 0 0 ∧ Words w none 0 (us.take 3) from ⟨rfl, ⟨Nat.le_refl _, Nat.zero_le _, fun _ => ⟨rfl, rfl⟩⟩, by rw [HUN.out]; exact Words.nil _ _⟩)
          have Y0 := Lib.hid (X0.out.alloc (.cells #[.int .i64 n, .slice none 0 0] 27))
          have Y1 := Lib.hid (X1.out.alloc (.cells #[.int .i64 n, .slice none 0 0] 27))
          have YO := Lib.hid (XO.out.alloc (.cells #[.int .i64 n, .slice none 0 0] 27))
          have YB := Lib.hid (XB.out.alloc XB.out.size (.cells #[.int .i64 n, .slice none 0 0] 27))
          have N0 := Lib.hid (own_ne YO.out Y0.out n1.out)
          have N1 := Lib.hid (own_ne YO.out Y1.out n1.out)
          have N2 := Lib.hid (fun k hk => (XO.out.lt k hk).1)
          have BN := Box.new (wr.alloc (.cells #[.int .i64 n, .slice none 0 0] 27)) 27 #[.int .i64 n, .slice none 0 0]
          simp only [World.size_alloc] at BN
          have HNW := Lib.hid (World.news_of_block BN)
          clear BN
          have PB := Lib.hid (Box.new wr 27 #[.int .i64 n, .slice none 0 0])
          obtain ⟨p0, p1, p2, p3⟩ := (Box.new wr 27 #[.int .i64 n, .slice none 0 0]).two
          obtain ⟨z0, z1, -, -⟩ := PB.out.two
          go_wp2_with (at_builtin; refine wpList_append_own _ rfl _ _ 22 rfl w.heap.size 27 i0 (.agg #[.int .i64 0, .slice none 0 0]) 2 32 Tryd.underlying22 hi' hz0' hz1' hz2' rfl (by decide) _ _ _ rfl YO.out ⟨wr.heap.size + 1, 0, none⟩ 1 1 [.int .i64 n, .slice none 0 0] rfl rfl HNW.out (by simp [Value.oneCell']) (by simp [maxLen]; omega) (by omega) YB.out.size ?_; intro v' w1 hown' hgrow _; have Z0 := Lib.hid (Y0.out.grown hgrow N0.out); have Z1 := Lib.hid (Y1.out.grown hgrow N1.out); have ZB := Lib.hid (YB.out.grown hgrow YB.out.size N2.out); have HO2 := Lib.hid hown'; clear hown' hgrow)
          go_roundw
          case rel =>
            refine ⟨i + 1, rs ++ [(n, none, 0, 0)], by omega, by go_num, Lib.hid (by simp [HRL.out]), by rw [rowCells_snoc]; exact HO2.out, Lib.hid (fun j hj => ?_), Z0.out, Z1.out, ZB.out⟩
            by_cases hji : j < i
            · have := HR.out j hji
              have e1 : (rs ++ [(n, none, 0, 0)]).getD j (0, none, 0, 0) = rs.getD j (0, none, 0, 0) := by simp only [List.getD]; rw [List.getElem?_append_left (by rw [HRL.out]; exact hji)]
              rw [e1]; exact this
            · obtain rfl : j = i := by omega
              have e1 : (rs ++ [(n, none, 0, 0)]).getD j (0, none, 0, 0) = (n, none, 0, 0) := by rw [← HRL.out]; simp [List.getD]
              rw [e1, HP.out]
              exact HWd.out
          case measure => simp [intOf] <;> omega
        | some a1 =>
          obtain ⟨k1, ek⟩ : ∃ k, k = min l1 3 := ⟨_, rfl⟩
          have hk1 : k1 ≤ l1 := by omega
          have hk2 : k1 ≤ 3 := by omega
          have hk3 : k1 ≤ c1 := by omega
          have mk : (if (3 : Int) < (l1 : Int) then 3 else (l1 : Int)) = (k1 : Int) := by split <;> omega
          have HK := Lib.hid (show us.take k1 = us.take 3 by
            rw [ek]
            by_cases h : l1 ≤ 3
            · rw [Nat.min_eq_left h, List.take_of_length_le (by rw [HU.out.1]; omega), List.take_of_length_le (by rw [HU.out.1]; omega)]
            · rw [Nat.min_eq_right (by omega)])
          clear ek hc
          have HX := Lib.hid (show Below wr.heap.size wr (wr.alloc (.cells #[.int .i64 n, .slice (some a1) k1 c1] 27)) from (Below.refl _ _).alloc (Nat.le_refl _) _)
          have X0 := Lib.hid (R0.out.keep HX.out)
          have X1 := Lib.hid (R1.out.keep HX.out)
          have XO := Lib.hid (own_keep HO.out HX.out)
          have XB := Lib.hid (HB.out.trans (HX.out.mono HB.out.size))
          have HWd := Lib.hid (show (n : Int) = n ∧ SliceOk (some a1) k1 c1 ∧ Words w (some a1) k1 (us.take 3) from ⟨rfl, ⟨hk3, by unfold maxLen; omega, fun h => by cases h⟩, by rw [← HK.out]; exact HU.out.take k1 hk1⟩)
          have Y0 := Lib.hid (X0.out.alloc (.cells #[.int .i64 n, .slice (some a1) k1 c1] 27))
          have Y1 := Lib.hid (X1.out.alloc (.cells #[.int .i64 n, .slice (some a1) k1 c1] 27))
          have YO := Lib.hid (XO.out.alloc (.cells #[.int .i64 n, .slice (some a1) k1 c1] 27))
          have YB := Lib.hid (XB.out.alloc XB.out.size (.cells #[.int .i64 n, .slice (some a1) k1 c1] 27))
          have N0 := Lib.hid (own_ne YO.out Y0.out n1.out)
          have N1 := Lib.hid (own_ne YO.out Y1.out n1.out)
          have N2 := Lib.hid (fun k hk => (XO.out.lt k hk).1)
          have BN := Box.new (wr.alloc (.cells #[.int .i64 n, .slice (some a1) k1 c1] 27)) 27 #[.int .i64 n, .slice (some a1) k1 c1]
          simp only [World.size_alloc] at BN
          have HNW := Lib.hid (World.news_of_block BN)
          clear BN
          have PB := Lib.hid (Box.new wr 27 #[.int .i64 n, .slice (some a1) k1 c1])
          obtain ⟨p0, p1, p2, p3⟩ := (Box.new wr 27 #[.int .i64 n, .slice (some a1) l1 c1]).two
          obtain ⟨z0, z1, -, -⟩ := PB.out.two
          go_wp2_with (at_builtin; refine wpList_append_own _ rfl _ _ 22 rfl w.heap.size 27 i0 (.agg #[.int .i64 0, .slice none 0 0]) 2 32 Tryd.underlying22 hi' hz0' hz1' hz2' rfl (by decide) _ _ _ rfl YO.out ⟨wr.heap.size + 1, 0, none⟩ 1 1 [.int .i64 n, .slice (some a1) k1 c1] rfl rfl HNW.out (by simp [Value.oneCell']) (by simp [maxLen]; omega) (by omega) YB.out.size ?_; intro v' w1 hown' hgrow _; have Z0 := Lib.hid (Y0.out.grown hgrow N0.out); have Z1 := Lib.hid (Y1.out.grown hgrow N1.out); have ZB := Lib.hid (YB.out.grown hgrow YB.out.size N2.out); have HO2 := Lib.hid hown'; clear hown' hgrow)
          go_roundw
          case rel =>
            refine ⟨i + 1, rs ++ [(n, some a1, k1, c1)], by omega, by go_num, Lib.hid (by simp [HRL.out]), by rw [rowCells_snoc]; exact HO2.out, Lib.hid (fun j hj => ?_), Z0.out, Z1.out, ZB.out⟩
            by_cases hji : j < i
            · have := HR.out j hji
              have e1 : (rs ++ [(n, some a1, k1, c1)]).getD j (0, none, 0, 0) = rs.getD j (0, none, 0, 0) := by simp only [List.getD]; rw [List.getElem?_append_left (by rw [HRL.out]; exact hji)]
              rw [e1]; exact this
            · obtain rfl : j = i := by omega
              have e1 : (rs ++ [(n, some a1, k1, c1)]).getD j (0, none, 0, 0) = (n, some a1, k1, c1) := by rw [← HRL.out]; simp [List.getD]
              rw [e1, HP.out]
              exact HWd.out
          case measure => simp [intOf] <;> omega
      · have hlt' : ¬ (i : Int) < (kk : Int) := by omega
        obtain rfl : kk = i := by omega
        have HFL2 := Lib.hid (show (fewM ms).length = kk by exact HFL.out)
        obtain ⟨A', c', rfl, hc', hmat⟩ := own_mat HO.out HRL.out (fewM ms) HFL2.out (fun j hj => by
          obtain ⟨a1, a2, a3⟩ := HR.out j hj
          rw [fewM_at ms j (by rw [HL.out]; omega) (by omega)]
          exact ⟨a1, a2, a3.below HB.out⟩)
        have HMat := Lib.hid hmat
        clear hmat
        obtain ⟨s0, s1, s2, s3⟩ := R0.out.two
        obtain ⟨t0, t1, t2, t3⟩ := R1.out.two
        have P0 := Lib.hid (R0.out.put 1 (.slice A' kk c'))
        have P1 := Lib.hid (R1.out.far (p := ⟨w.heap.size, 1, none⟩) (by simp) (.slice A' kk c'))
        have hlo : ∀ b o, A' = some ⟨b, o, none⟩ → 0 < kk → b ≠ w.heap.size ∧ b ≠ w.heap.size + 1 := fun b o hA h0 => by
          have e1 := own_ne HO.out R0.out n1.out
          have e2 := own_ne HO.out R1.out n1.out
          subst hA
          exact ⟨fun e => e1 (by rw [e]; rfl), fun e => e2 (by rw [e]; rfl)⟩
        have HLo := Lib.hid hlo
        clear hlo
        have hx1 := HMat.out.farB (B := w.heap.size) (fun b o hA h0 => (HLo.out b o hA h0).1) R0.out 1 (.slice A' kk c')
        have hx2 := hx1.farB (B := w.heap.size + 1) (fun b o hA h0 => (HLo.out b o hA h0).2) P1.out 0 (.int .i64 N)
        have HX3 := Lib.hid (hx2.farB (B := w.heap.size + 1) (fun b o hA h0 => (HLo.out b o hA h0).2) (P1.out.put 0 (.int .i64 N)) 1 (.slice A' kk c'))
        clear hx1 hx2
        go_wp2_with fail
        refine close_one Tryd.results6 rfl rfl P1.out.put2 Tryd.underlying24 rfl (by kernel_rfl) ⟨A', c', by first | (rw [HFL2.out]; done) | (rw [HFL2.out]; rfl), by rw [HFL2.out]; exact HX3.out, ?_⟩
        exact ((HB.out.setCell (p := ⟨w.heap.size, 1, none⟩) (Nat.le_refl _) _).setCell (p := ⟨w.heap.size + 1, 0, none⟩) (by simp) _).setCell (p := ⟨w.heap.size + 1, 1, none⟩) (by simp) _
end
section
/- Rows in another order, with the xor of two of them more, span the same. -/
set_option linter.unusedVariables false
set_option linter.unusedSimpArgs false
open Go.RowKit
def turnI (a k j : Nat) : Nat := if j ≤ a then a - j else a + k - j
theorem turnI_lt (a k j : Nat) (ha : a < k) (hj : j < k) : turnI a k j < k := by unfold turnI; split <;> omega
theorem turnI_mod (a k j : Nat) (ha : a < k) (hj : j < k) : ((a : Int) + (k : Int) - (j : Int)) % (k : Int) = ((turnI a k j : Nat) : Int) := by
  unfold turnI
  by_cases h : j ≤ a
  · rw [if_pos h, show (a : Int) + (k : Int) - (j : Int) = ((a - j : Nat) : Int) + (k : Int) by omega, Int.add_emod_right]
    exact Int.emod_eq_of_lt (by omega) (by omega)
  · rw [if_neg h, show (a : Int) + (k : Int) - (j : Int) = ((a + k - j : Nat) : Int) by omega]
    exact Int.emod_eq_of_lt (by omega) (by omega)
def turnK (L : List Nat) (x a i : Nat) : List Nat := x :: (List.range i).map fun j => L.getD (turnI a L.length j) 0
theorem turnK_len (L : List Nat) (x a i : Nat) : (turnK L x a i).length = i + 1 := by simp [turnK]
theorem turnK_succ (L : List Nat) (x a i : Nat) : turnK L x a (i + 1) = turnK L x a i ++ [L.getD (turnI a L.length i) 0] := by simp [turnK, List.range_succ]
theorem turn_span (L : List Nat) (a b : Nat) (ha : a < L.length) (hb : b < L.length) : SameSp L (turnK L (L.getD a 0 ^^^ L.getD b 0) a L.length) := by
  refine SameSp.of (fun r hr => ?_) (fun r hr => ?_)
  · obtain ⟨p, hp, rfl⟩ := mem_getD hr
    refine sp_mem ?_
    unfold turnK
    refine List.mem_cons_of_mem _ (List.mem_map.2 ⟨if p ≤ a then a - p else a + L.length - p, List.mem_range.2 (by split <;> omega), ?_⟩)
    congr 1
    unfold turnI
    split <;> split <;> omega
  · unfold turnK at hr
    rcases List.mem_cons.1 hr with rfl | hr
    · exact sp_xor (sp_mem (getD_mem ha)) (sp_mem (getD_mem hb))
    · obtain ⟨j, hj, rfl⟩ := List.mem_map.1 hr
      exact sp_mem (getD_mem (turnI_lt _ _ _ ha (List.mem_range.1 hj)))
theorem turn_lt {n : Nat} {L : List Nat} (h : ∀ r ∈ L, r < 2 ^ n) (a b i : Nat) : ∀ r ∈ turnK L (L.getD a 0 ^^^ L.getD b 0) a i, r < 2 ^ n := fun r hr => by
  unfold turnK at hr
  rcases List.mem_cons.1 hr with rfl | hr
  · exact Nat.xor_lt_two_pow (lt_all h a) (lt_all h b)
  · obtain ⟨j, hj, rfl⟩ := List.mem_map.1 hr
    exact lt_all h _
theorem right_mk (n : Nat) (hn : n ≤ 64) (L : List Nat) (hl : L.length ≤ 64) (h : ∀ r ∈ L, r < 2 ^ n) : rightM n (mkM n L) = true := by
  have h1 : smb (n : Int) = true := (smb_iff _).2 ⟨by omega, by omega⟩
  have h2 : rowsB (n : Int) (mkM n L) = true := List.all_eq_true.2 fun r hr => by
    obtain ⟨x, hx, rfl⟩ := List.mem_map.1 hr
    simp [mkR, rowOf_right n x (by omega) (h x hx)]
  simp [rightM, h1, h2, mkM_len, hl]
/-- Rows that may be anywhere. -/
theorem turn_same {L M P M2 P2 : List Nat} {a b : Nat} (ha : a < L.length) (hb : b < L.length) (h1 : Rref M P) (h2 : SameSp L M) (h3 : Rref M2 P2) (h4 : SameSp (turnK L (L.getD a 0 ^^^ L.getD b 0) a L.length) M2) : M2 = M :=
  (rref_uniq h3 h1 ((h4.symm.trans (turn_span L a b ha hb).symm).trans h2)).1
end
section
/- ReduceUnique: the walk. -/
set_option linter.unusedVariables false
set_option linter.unusedSimpArgs false
open Go.RowKit
theorem own_new2 (W : World) (base e : Nat) (cs : Array Value) (hb : base ≤ W.heap.size) (hn : cs.size = 2) : (W.alloc (.cells cs e)).ownsRow base e 2 (.slice (some ⟨W.heap.size, 0, none⟩) 1 1) 1 cs.toList := by
  refine ⟨by simp [hn], .inr ⟨W.heap.size, 1, cs, rfl, hb, heap_alloc_new W _, Nat.le_refl _, ?_, ?_, ?_⟩⟩
  · simp [maxLen]
  · simp [hn]
  · rw [List.take_of_length_le (by simp [hn])]
theorem rank_le {L M P : List Nat} (h1 : Rref M P) (h2 : SameSp L M) : M.length ≤ L.length := by
  obtain ⟨M', P', a, b, c⟩ := rref_exists L
  rw [(rref_uniq h1 a (h2.symm.trans b)).1]; exact c
def RowP (w : World) (n : Nat) (r : RowV) (x : Nat) : Prop := r.1 = (n : Int) ∧ SliceOk r.2.1 r.2.2.1 r.2.2.2 ∧ Words w r.2.1 r.2.2.1 (rowOf n x)
theorem rowsP_snoc {w : World} {n m : Nat} {rs : List RowV} {K : List Nat} {r : RowV} {x : Nat} (h1 : rs.length = m) (h2 : K.length = m) (h : ∀ j, j < m → RowP w n (rs.getD j (0, none, 0, 0)) (K.getD j 0)) (hr : RowP w n r x) : ∀ j, j < m + 1 → RowP w n ((rs ++ [r]).getD j (0, none, 0, 0)) ((K ++ [x]).getD j 0) := fun j hj => by
  by_cases hm : j < m
  · have e1 : (rs ++ [r]).getD j (0, none, 0, 0) = rs.getD j (0, none, 0, 0) := by simp only [List.getD]; rw [List.getElem?_append_left (by omega)]
    have e2 : (K ++ [x]).getD j 0 = K.getD j 0 := by simp only [List.getD]; rw [List.getElem?_append_left (by omega)]
    rw [e1, e2]; exact h j hm
  · obtain rfl : j = m := by omega
    have e1 : (rs ++ [r]).getD j (0, none, 0, 0) = r := by rw [← h1]; simp [List.getD]
    have e2 : (K ++ [x]).getD j 0 = x := by rw [← h2]; simp [List.getD]
    rw [e1, e2]; exact hr
theorem mk_short (n : Nat) (hn : n ≤ 64) (M : List Nat) (j : Nat) : ((mkM n M).getD j (0, [])).2.length ≤ 1000000 := by
  by_cases h : j < M.length
  · rw [mkM_at n M j h]
    simp only [mkR, rowOf_len]
    unfold nw; omega
  · have : (mkM n M)[j]? = none := List.getElem?_eq_none (by rw [mkM_len]; omega)
    simp [List.getD, this]
set_option maxRecDepth 100000
end
section
/- Contracts of layer 4's reference: First. -/
set_option linter.unusedVariables false
set_option linter.unusedSimpArgs false
open Go.RowKit
set_option maxRecDepth 100000
end
section
/- The reference's Xor: rows of the call's own. -/
set_option linter.unusedVariables false
set_option linter.unusedSimpArgs false
open Go.RowKit
set_option maxRecDepth 100000
end
section
/- The reference's Left. -/
set_option linter.unusedVariables false
set_option linter.unusedSimpArgs false
open Go.RowKit
set_option maxRecDepth 100000
theorem low_lt {N x p : Nat} (hx : x < 2 ^ N) (hp : IsLow x p) : p < N := by
  apply Classical.byContradiction
  intro h
  have := Nat.testBit_lt_two_pow (Nat.lt_of_lt_of_le hx (Nat.pow_le_pow_right (by omega) (show N ≤ p by omega)))
  rw [hp.1] at this; cases this
theorem leftN_lt {N : Nat} {L P : List Nat} (hL : ∀ i, L.getD i 0 < 2 ^ N) (x : Nat) (hx : x < 2 ^ N) : ∀ k, leftN L P x k < 2 ^ N
  | 0 => hx
  | k + 1 => by
    unfold leftN
    split
    · exact Nat.xor_lt_two_pow (leftN_lt hL x hx k) (hL k)
    · exact leftN_lt hL x hx k
/-- What Left leaves: a row, its words anywhere. -/
def LeftOut (N z : Nat) (w : World) (e : Ending) (w' : World) : Prop :=
  ∃ A l c, e = .returned (.agg #[.int .i64 (N : Int), .slice A l c]) ∧ SliceOk A l c ∧ Words w' A l (rowOf N z) ∧ Below w.heap.size w w'
end
section
/- The reference's with. -/
set_option linter.unusedVariables false
set_option linter.unusedSimpArgs false
open Go.RowKit
set_option maxRecDepth 100000
/-- A row of the reference's: its words are the argument's (at the world w0) or its own. -/
def RowQ (w0 w : World) (N : Nat) (r : RowV) (x : Nat) : Prop := r.1 = (N : Int) ∧ SliceOk r.2.1 r.2.2.1 r.2.2.2 ∧ (Words w0 r.2.1 r.2.2.1 (rowOf N x) ∨ OwnW w r.2.1 r.2.2.1 r.2.2.2 (rowOf N x))
def RowsQ (w0 w : World) (base : Nat) (v : Value) (N : Nat) (K : List Nat) : Prop :=
  ∃ rs : List RowV, rs.length = K.length ∧ w.ownsRow base 27 2 v K.length (rowCells rs) ∧ ∀ j, j < K.length → RowQ w0 w N (rs.getD j (0, none, 0, 0)) (K.getD j 0)
theorem RowQ.below {w0 w w' : World} {N : Nat} {r : RowV} {x : Nat} (h : RowQ w0 w N r x) (hb : Below w.heap.size w w') : RowQ w0 w' N r x := ⟨h.1, h.2.1, h.2.2.imp id (fun o => o.below hb)⟩
theorem RowsQ.below {w0 w w' : World} {base : Nat} {v : Value} {N : Nat} {K : List Nat} (h : RowsQ w0 w base v N K) (hb : Below w.heap.size w w') : RowsQ w0 w' base v N K := by
  obtain ⟨rs, h1, h2, h3⟩ := h
  exact ⟨rs, h1, own_keep h2 hb, fun j hj => (h3 j hj).below hb⟩
theorem RowsQ.appended {w0 w : World} {base : Nat} {v : Value} {N : Nat} {K : List Nat} {B : Option Addr} {l d y : Nat} (h : RowsQ w0 w base v N K) (hn : RowQ w0 w N ((N : Int), B, l, d) y) :
    ∃ rs : List RowV, (w.alloc (.cells #[.int .i64 (N : Int), .slice B l d] 27)).ownsRow base 27 2 v K.length (rowCells rs) ∧ ∀ v' w1, w1.ownsRow base 27 2 v' (K.length + 1) (rowCells rs ++ [.int .i64 (N : Int), .slice B l d]) → (w.alloc (.cells #[.int .i64 (N : Int), .slice B l d] 27)).grownBy w1 v.ownBlock → RowsQ w0 w1 base v' N (K ++ [y]) := by
  obtain ⟨rs, h1, h2, h3⟩ := h
  have h2' := World.ownsRow.alloc h2 (.cells #[.int .i64 (N : Int), .slice B l d] 27)
  have al : Below w.heap.size w (w.alloc (.cells #[.int .i64 (N : Int), .slice B l d] 27)) := (Below.refl _ _).alloc (Nat.le_refl _) _
  refine ⟨rs, h2', fun v' w1 ho hg => ⟨rs ++ [((N : Int), B, l, d)], by simp [h1], by rw [rowCells_snoc, List.length_append]; exact ho, fun j hj => ?_⟩⟩
  have gr : ∀ {r : RowV} {x : Nat}, RowQ w0 w N r x → RowQ w0 w1 N r x := fun q => ⟨q.1, q.2.1, q.2.2.imp id (fun o => (o.below al).grown h2' (by decide) hg)⟩
  rw [List.length_append] at hj
  by_cases hm : j < K.length
  · have e1 : (rs ++ [((N : Int), B, l, d)]).getD j (0, none, 0, 0) = rs.getD j (0, none, 0, 0) := by simp only [List.getD]; rw [List.getElem?_append_left (by omega)]
    have e2 : (K ++ [y]).getD j 0 = K.getD j 0 := by simp only [List.getD]; rw [List.getElem?_append_left (by omega)]
    rw [e1, e2]; exact gr (h3 j hm)
  · obtain rfl : j = K.length := by simp at hj; omega
    have e1 : (rs ++ [((N : Int), B, l, d)]).getD K.length (0, none, 0, 0) = ((N : Int), B, l, d) := by rw [← h1]; simp [List.getD]
    have e2 : (K ++ [y]).getD K.length 0 = y := by simp [List.getD]
    rw [e1, e2]; exact gr hn
theorem RowsQ.mat {w0 w : World} {base : Nat} {v : Value} {N : Nat} {K : List Nat} (h : RowsQ w0 w base v N K) {B : Nat} (hB : w0.heap.size ≤ B) (hb : Below B w0 w) : ∃ A c, v = .slice A K.length c ∧ K.length ≤ c ∧ MatAt w 0 A K.length (mkM N K) := by
  obtain ⟨rs, h1, h2, h3⟩ := h
  obtain ⟨A, c, e, hc, hm⟩ := own_mat h2 h1 (mkM N K) (mkM_len N K) (fun j hj => by
    obtain ⟨a1, a2, a3⟩ := h3 j hj
    rw [mkM_at N K j hj]
    exact ⟨a1, a2, by rcases a3 with a3 | a3; exact a3.mono hB hb; exact a3.words (rowOf_lt N _)⟩)
  exact ⟨A, c, e, hc, hm.low (Nat.zero_le _)⟩
/-- The rows ahead of the new one, i of the old ones looked at. -/
def withP (L : List Nat) (z a m i : Nat) : List Nat := (L.take (min i m)).map (fun x => if x.testBit a then x ^^^ z else x)
theorem withP_lt (L : List Nat) (z a m i : Nat) (hi : i < m) (hl : i < L.length) : withP L z a m (i + 1) = withP L z a m i ++ [if (L.getD i 0).testBit a then L.getD i 0 ^^^ z else L.getD i 0] := by
  unfold withP
  rw [Nat.min_eq_left (by omega), Nat.min_eq_left (by omega), List.take_succ_eq_append_getElem hl, List.map_append]
  simp [List.getD, hl]
theorem withP_ge (L : List Nat) (z a m i : Nat) (hi : m ≤ i) : withP L z a m (i + 1) = withP L z a m i := by
  unfold withP
  rw [Nat.min_eq_right (by omega), Nat.min_eq_right (by omega)]
theorem withP_len (L : List Nat) (z a m i : Nat) : (withP L z a m i).length ≤ L.length := by
  unfold withP; rw [List.length_map, List.length_take]; omega
/-- The rows behind it. -/
def withD (L : List Nat) (m i : Nat) : List Nat := (L.drop m).take (i - m)
theorem withD_lt (L : List Nat) (m i : Nat) (hi : i < m) : withD L m (i + 1) = withD L m i := by
  unfold withD; rw [show i + 1 - m = 0 by omega, show i - m = 0 by omega]
theorem withD_ge (L : List Nat) (m i : Nat) (hi : m ≤ i) (hl : i < L.length) : withD L m (i + 1) = withD L m i ++ [L.getD i 0] := by
  unfold withD
  rw [show i + 1 - m = (i - m) + 1 by omega, List.take_succ_eq_append_getElem (by rw [List.length_drop]; omega)]
  simp [List.getD, hl, show m + (i - m) = i by omega]
theorem withD_len (L : List Nat) (m i : Nat) : (withD L m i).length ≤ L.length := by
  unfold withD; rw [List.length_take, List.length_drop]; omega
theorem with_all (L : List Nat) (z a m : Nat) (hm : m ≤ L.length) : (withP L z a m L.length ++ [z]) ++ withD L m L.length = putW L z a m := by
  unfold withP withD putW
  have e : (L.drop m).take (L.length - m) = L.drop m := List.take_of_length_le (by rw [List.length_drop]; omega)
  rw [Nat.min_eq_right hm, e]
  simp
theorem own_empty4 (W : World) (base e : Nat) (hb : base ≤ W.heap.size) : (W.alloc (.cells #[] e)).ownsRow base e 2 (.slice (some ⟨W.heap.size, 0, none⟩) 0 0) 0 [] :=
  ⟨by simp, .inr ⟨W.heap.size, 0, #[], rfl, hb, heap_alloc_new W _, Nat.le_refl _, Nat.zero_le _, by simp, by simp⟩⟩
/-- What with hands back. -/
def WithOut (N : Nat) (K : List Nat) (w : World) (e : Ending) (w' : World) : Prop :=
  ∃ A c, e = .returned (.slice A K.length c) ∧ MatAt w' 0 A K.length (mkM N K) ∧ Below w.heap.size w w'
end
section
/- Rows with their blocks in memory: pairs and owners. -/
set_option linter.unusedVariables false
set_option linter.unusedSimpArgs false
open Go.RowKit
set_option maxRecDepth 100000
/-- A column put out of the first i. -/
def clrU (c : Nat) (f : PV) (L : List PV) (i : Nat) : List PV := (clrP c f L).take i ++ L.drop i
theorem clrU_len (c : Nat) (f : PV) (L : List PV) (i : Nat) (hi : i ≤ L.length) : (clrU c f L i).length = L.length := by
  simp [clrU, clrP_len]; omega
theorem clrU_zero (c : Nat) (f : PV) (L : List PV) : clrU c f L 0 = L := by simp [clrU]
theorem clrU_all (c : Nat) (f : PV) (L : List PV) : clrU c f L L.length = clrP c f L := by
  unfold clrU
  rw [List.take_of_length_le (by rw [clrP_len]; exact Nat.le_refl _), List.drop_length, List.append_nil]
theorem clrP_get (c : Nat) (f : PV) (L : List PV) (i : Nat) (h : i < L.length) : (clrP c f L)[i]'(by rw [clrP_len]; exact h) = if (L.getD i pv0).1.testBit c then plusP (L.getD i pv0) f else L.getD i pv0 := by
  simp [clrP, List.getD, h]
theorem clrU_here (c : Nat) (f : PV) (L : List PV) (i : Nat) (h : i < L.length) : (clrU c f L i).getD i pv0 = L.getD i pv0 := by
  have e : ((clrP c f L).take i).length = i := by rw [List.length_take, clrP_len]; omega
  simp only [List.getD, clrU]
  rw [List.getElem?_append_right (by omega), e, Nat.sub_self, List.getElem?_drop]; simp
theorem clrU_no (c : Nat) (f : PV) (L : List PV) (i : Nat) (h : i < L.length) (hb : (L.getD i pv0).1.testBit c = false) : clrU c f L (i + 1) = clrU c f L i := by
  unfold clrU
  have hi : i < (clrP c f L).length := by rw [clrP_len]; exact h
  rw [List.take_succ_eq_append_getElem hi, clrP_get c f L i h, hb, List.drop_eq_getElem_cons h]
  simp [List.getD, h]
theorem clrU_yes (c : Nat) (f : PV) (L : List PV) (i : Nat) (h : i < L.length) (hb : (L.getD i pv0).1.testBit c = true) : clrU c f L (i + 1) = (clrU c f L i).set i (plusP (L.getD i pv0) f) := by
  unfold clrU
  have hi : i < (clrP c f L).length := by rw [clrP_len]; exact h
  have e : ((clrP c f L).take i).length = i := by rw [List.length_take, clrP_len]; omega
  rw [List.take_succ_eq_append_getElem hi, clrP_get c f L i h, if_pos hb, List.set_append, if_neg (by omega), e, Nat.sub_self, List.drop_eq_getElem_cons h, List.set_cons_zero, List.append_assoc]
  rfl
theorem clrU_good {N n c : Nat} {f : PV} {L : List PV} (hf : GoodP N n f) (hL : ∀ p ∈ L, GoodP N n p) (i : Nat) : ∀ p ∈ clrU c f L i, GoodP N n p := fun p hp => by
  rcases List.mem_append.1 hp with h | h
  · exact clrP_good hf hL p (List.mem_of_mem_take h)
  · exact hL p (List.mem_of_mem_drop h)
theorem set_getD (L : List PV) (i j : Nat) (p : PV) (h : j < L.length) : (L.set i p).getD j pv0 = if i = j then p else L.getD j pv0 := by
  simp only [List.getD, List.getElem?_set]
  by_cases e : i = j
  · subst e; simp [h]
  · simp [e]
/-- A row of cells at the head of a block of the call's own. -/
def CellsRow (w : World) (base : Nat) (t : TypeId) (v : Value) (n : Nat) (xs : List Value) : Prop :=
  ∃ A c, v = .slice A n c ∧ n ≤ c ∧ c ≤ maxLen ∧ (0 < n → ∃ g cur, A = some ⟨g, 0, none⟩ ∧ base ≤ g ∧ Box w g t cur ∧ cur.toList.take xs.length = xs)
section
variable {w w' : World} {base n : Nat} {t : TypeId} {v : Value} {xs : List Value}
theorem CellsRow.of {sz : Nat} (h : w.ownsRow base t sz v n xs) : CellsRow w base t v n xs := by
  rcases h.2 with ⟨hv, hz⟩ | ⟨g, cap, cur, hv, hb, hh, hc, hm, h1, h2⟩
  · exact ⟨none, 0, by rw [hv, hz], by omega, by simp [maxLen], fun h => by omega⟩
  · exact ⟨some ⟨g, 0, none⟩, cap, hv, hc, hm, fun _ => ⟨g, cur, rfl, hb, hh, by rw [h.1]; exact h2⟩⟩
theorem CellsRow.keep (h : CellsRow w base t v n xs) (hb : Below w.heap.size w w') : CellsRow w' base t v n xs := by
  obtain ⟨A, c, h1, h2, h3, h4⟩ := h
  exact ⟨A, c, h1, h2, h3, fun hn => by obtain ⟨g, cur, a, b, d, e⟩ := h4 hn; exact ⟨g, cur, a, b, d.keep hb, e⟩⟩
theorem CellsRow.far (h : CellsRow w base t v n xs) {g : Nat} {t' : TypeId} {cs : Array Value} (hb : Box w g t' cs) (hne : t ≠ t') (i : Nat) (u : Value) : CellsRow (w.setCell ⟨g, i, none⟩ u) base t v n xs := by
  obtain ⟨A, c, h1, h2, h3, h4⟩ := h
  refine ⟨A, c, h1, h2, h3, fun hn => ?_⟩
  obtain ⟨g', cur, a, b, d, e⟩ := h4 hn
  have : g' ≠ g := fun e => by
    subst e
    unfold Box at hb d
    rw [hb] at d
    injection d with d
    injection d with _ d
    exact hne d.symm
  exact ⟨g', cur, a, b, d.far this u, e⟩
theorem CellsRow.put {g c : Nat} (h : CellsRow w base t (.slice (some ⟨g, 0, none⟩) n c) n xs) (hn : 0 < n) (i : Nat) (u : Value) : CellsRow (w.setCell ⟨g, i, none⟩ u) base t (.slice (some ⟨g, 0, none⟩) n c) n (xs.set i u) := by
  obtain ⟨A, c', h1, h2, h3, h4⟩ := h
  obtain ⟨g', cur, a, b, d, e⟩ := h4 hn
  injection h1 with h1 _ h1'
  rw [← h1] at a
  injection a with a
  injection a with a
  subst a
  subst h1'
  refine ⟨_, c, rfl, h2, h3, fun _ => ⟨g, _, rfl, b, d.put i u, ?_⟩⟩
  rw [Array.toList_setIfInBounds, List.length_set, List.take_set, e]
  
theorem CellsRow.take (h : CellsRow w base t v n xs) {A : Option Addr} {c : Nat} (hv : v = .slice A n c) (m : Nat) (hm : m ≤ n) (c' : Nat) (h1 : m ≤ c') (h2 : c' ≤ c) (k : Nat) : CellsRow w base t (.slice A m c') m (xs.take k) := by
  subst hv
  obtain ⟨A', c'', h3, h4, h5, h6⟩ := h
  injection h3 with h3 _ h3'
  subst h3 h3'
  refine ⟨A, c', rfl, h1, by omega, fun hp => ?_⟩
  obtain ⟨g, cur, a, b, d, e⟩ := h6 (by omega)
  refine ⟨g, cur, a, b, d, ?_⟩
  have : (xs.take k).length = min k xs.length := List.length_take
  rw [this, ← List.take_take, e]
theorem CellsRow.cell {g c : Nat} (h : CellsRow w base t (.slice (some ⟨g, 0, none⟩) n c) n xs) (hn : 0 < n) (i : Nat) (u : Value) (hi : xs[i]? = some u) : w.cell? ⟨g, i, none⟩ = some u ∧ w.frozen? ⟨g, i, none⟩ = false := by
  obtain ⟨A, c', h1, h2, h3, h4⟩ := h
  obtain ⟨g', cur, a, b, d, e⟩ := h4 hn
  injection h1 with h1 _ h1'
  rw [← h1] at a
  injection a with a
  injection a with a
  subst a
  refine ⟨?_, d.free i⟩
  rw [d.cell i]
  rw [← e] at hi
  obtain ⟨hl, -⟩ := List.getElem?_eq_some_iff.1 hi
  rw [List.getElem?_take_of_lt (by rw [List.length_take] at hl; omega)] at hi
  simpa using hi
theorem CellsRow.form (h : CellsRow w base t v n xs) (hn : 0 < n) : ∃ g c, v = .slice (some ⟨g, 0, none⟩) n c ∧ base ≤ g ∧ n ≤ c ∧ c ≤ maxLen ∧ ∃ cur, Box w g t cur := by
  obtain ⟨A, c, h1, h2, h3, h4⟩ := h
  obtain ⟨g, cur, a, b, d, e⟩ := h4 hn
  subst a
  exact ⟨g, c, h1, b, h2, h3, cur, d⟩
theorem CellsRow.form0 (h : CellsRow w base t v n xs) : ∃ A c, v = .slice A n c ∧ n ≤ c ∧ c ≤ maxLen := by
  obtain ⟨A, c, h1, h2, h3, h4⟩ := h
  exact ⟨A, c, h1, h2, h3⟩
end
/-- The cells of a pair. -/
def prV (r : RowV) (s : ByteArray) : List Value := [.int .i64 r.1, .slice r.2.1 r.2.2.1 r.2.2.2, .string s]
def prC : List RowV → List PV → List Value
  | r :: rs, p :: L => .int .i64 r.1 :: .slice r.2.1 r.2.2.1 r.2.2.2 :: .string p.2 :: prC rs L
  | _, _ => []
theorem prC_len : ∀ (rs : List RowV) (L : List PV), rs.length = L.length → (prC rs L).length = L.length * 3
  | [], [], _ => rfl
  | r :: rs, p :: L, h => by simp only [prC, List.length_cons, prC_len rs L (by simpa using h)]; omega
theorem prC_at : ∀ (rs : List RowV) (L : List PV), rs.length = L.length → ∀ i, i < L.length → (prC rs L)[i * 3]? = some (.int .i64 (rs.getD i (0, none, 0, 0)).1) ∧ (prC rs L)[i * 3 + 1]? = some (.slice (rs.getD i (0, none, 0, 0)).2.1 (rs.getD i (0, none, 0, 0)).2.2.1 (rs.getD i (0, none, 0, 0)).2.2.2) ∧ (prC rs L)[i * 3 + 2]? = some (.string (L.getD i pv0).2)
  | [], [], _, i, h => by cases h
  | r :: rs, p :: L, _, 0, _ => ⟨rfl, rfl, rfl⟩
  | r :: rs, p :: L, h, i + 1, hi => by
    have ih := prC_at rs L (by simpa using h) i (by simpa using hi)
    rw [show (i + 1) * 3 = i * 3 + 3 by omega]
    simp only [prC]
    exact ⟨ih.1, ih.2.1, ih.2.2⟩
theorem prC_set : ∀ (rs : List RowV) (L : List PV), rs.length = L.length → ∀ i, i < L.length → ∀ (r : RowV) (p : PV), (((prC rs L).set (i * 3) (.int .i64 r.1)).set (i * 3 + 1) (.slice r.2.1 r.2.2.1 r.2.2.2)).set (i * 3 + 2) (.string p.2) = prC (rs.set i r) (L.set i p)
  | [], [], _, i, h, _, _ => by cases h
  | r0 :: rs, p0 :: L, _, 0, _, r, p => rfl
  | r0 :: rs, p0 :: L, h, i + 1, hi, r, p => by
    have ih := prC_set rs L (by simpa using h) i (by simpa using hi) r p
    rw [show (i + 1) * 3 = i * 3 + 3 by omega, show i * 3 + 3 + 1 = i * 3 + 1 + 3 by omega, show i * 3 + 3 + 2 = i * 3 + 2 + 3 by omega]
    simp only [prC, List.set_cons_succ]
    rw [ih]
theorem prC_snoc : ∀ (rs : List RowV) (L : List PV), rs.length = L.length → ∀ (r : RowV) (p : PV), prC (rs ++ [r]) (L ++ [p]) = prC rs L ++ prV r p.2
  | [], [], _, r, p => rfl
  | r0 :: rs, p0 :: L, h, r, p => by simp only [List.cons_append, prC, prC_snoc rs L (by simpa using h) r p]
theorem prC_take : ∀ (rs : List RowV) (L : List PV), rs.length = L.length → ∀ i, (prC rs L).take (i * 3) = prC (rs.take i) (L.take i)
  | [], [], _, i => by simp [prC]
  | r0 :: rs, p0 :: L, _, 0 => by simp [prC]
  | r0 :: rs, p0 :: L, h, i + 1 => by
    rw [show (i + 1) * 3 = i * 3 + 3 by omega]
    simp only [prC, List.take_succ_cons]
    rw [prC_take rs L (by simpa using h) i]
theorem prC_drop : ∀ (rs : List RowV) (L : List PV), rs.length = L.length → ∀ i, (prC rs L).drop (i * 3) = prC (rs.drop i) (L.drop i)
  | [], [], _, i => by simp [prC]
  | r0 :: rs, p0 :: L, _, 0 => by simp [prC]
  | r0 :: rs, p0 :: L, h, i + 1 => by
    rw [show (i + 1) * 3 = i * 3 + 3 by omega]
    simp only [prC, List.drop_succ_cons]
    rw [prC_drop rs L (by simpa using h) i]
theorem prC_app : ∀ (rs : List RowV) (L : List PV), rs.length = L.length → ∀ (ss : List RowV) (M : List PV), prC (rs ++ ss) (L ++ M) = prC rs L ++ prC ss M
  | [], [], _, ss, M => rfl
  | r0 :: rs, p0 :: L, h, ss, M => by simp only [List.cons_append, prC, prC_app rs L (by simpa using h) ss M]
/-- A row of pairs: its words are the argument's (at the world w0) or the call's own. -/
def PairsQ (w0 w : World) (base : Nat) (v : Value) (N : Nat) (L : List PV) : Prop :=
  ∃ rs : List RowV, rs.length = L.length ∧ CellsRow w base 84 v L.length (prC rs L) ∧ ∀ j, j < L.length → RowQ w0 w N (rs.getD j (0, none, 0, 0)) (L.getD j pv0).1
theorem RowQ.words {w0 w : World} {N : Nat} {r : RowV} {x : Nat} (h : RowQ w0 w N r x) {B : Nat} (hB : w0.heap.size ≤ B) (hb : Below B w0 w) : Words w r.2.1 r.2.2.1 (rowOf N x) := by
  rcases h.2.2 with a | a
  · exact a.mono hB hb
  · exact a.words (rowOf_lt N _)
theorem RowQ.far {w0 w : World} {N : Nat} {r : RowV} {x : Nat} (h : RowQ w0 w N r x) {g : Nat} {t : TypeId} {cs : Array Value} (hb : Box w g t cs) (hne : 63 ≠ t) (i : Nat) (u : Value) : RowQ w0 (w.setCell ⟨g, i, none⟩ u) N r x := ⟨h.1, h.2.1, h.2.2.imp id (fun o => o.far hb hne i u)⟩
section
variable {w0 w w' : World} {base : Nat} {v : Value} {N : Nat} {L : List PV}
theorem PairsQ.keep (h : PairsQ w0 w base v N L) (hb : Below w.heap.size w w') : PairsQ w0 w' base v N L := by
  obtain ⟨rs, h1, h2, h3⟩ := h
  exact ⟨rs, h1, h2.keep hb, fun j hj => (h3 j hj).below hb⟩
theorem PairsQ.far (h : PairsQ w0 w base v N L) {g : Nat} {t : TypeId} {cs : Array Value} (hb : Box w g t cs) (hne : 63 ≠ t) (hne2 : 84 ≠ t) (i : Nat) (u : Value) : PairsQ w0 (w.setCell ⟨g, i, none⟩ u) base v N L := by
  obtain ⟨rs, h1, h2, h3⟩ := h
  exact ⟨rs, h1, h2.far hb hne2 i u, fun j hj => (h3 j hj).far hb hne i u⟩
theorem PairsQ.form (h : PairsQ w0 w base v N L) (hn : 0 < L.length) : ∃ g c, v = .slice (some ⟨g, 0, none⟩) L.length c ∧ base ≤ g ∧ g < w.heap.size ∧ L.length ≤ c ∧ c ≤ maxLen := by
  obtain ⟨rs, h1, h2, h3⟩ := h
  obtain ⟨g, c, a, b, d, e, cur, f⟩ := h2.form hn
  exact ⟨g, c, a, b, f.lt, d, e⟩
theorem PairsQ.form0 (h : PairsQ w0 w base v N L) : ∃ A c, v = .slice A L.length c ∧ L.length ≤ c ∧ c ≤ maxLen := by
  obtain ⟨rs, h1, h2, h3⟩ := h
  exact h2.form0
theorem PairsQ.at {g c : Nat} (h : PairsQ w0 w base (.slice (some ⟨g, 0, none⟩) L.length c) N L) (i : Nat) (hi : i < L.length) :
    ∃ A l d, w.cell? ⟨g, i * 3, none⟩ = some (.int .i64 N) ∧ w.cell? ⟨g, i * 3 + 1, none⟩ = some (.slice A l d) ∧ w.cell? ⟨g, i * 3 + 2, none⟩ = some (.string (L.getD i pv0).2) ∧ RowQ w0 w N ((N : Int), A, l, d) (L.getD i pv0).1 ∧ w.frozen? ⟨g, i * 3, none⟩ = false ∧ w.frozen? ⟨g, i * 3 + 1, none⟩ = false ∧ w.frozen? ⟨g, i * 3 + 2, none⟩ = false := by
  obtain ⟨rs, h1, h2, h3⟩ := h
  obtain ⟨a1, a2, a3⟩ := prC_at rs L h1 i hi
  have q := h3 i hi
  have hn : 0 < L.length := by omega
  have c1 := h2.cell hn _ _ a1
  have c2 := h2.cell hn _ _ a2
  have c3 := h2.cell hn _ _ a3
  rw [q.1] at c1
  refine ⟨_, _, _, c1.1, c2.1, c3.1, ⟨rfl, q.2.1, q.2.2⟩, c1.2, c2.2, c3.2⟩
/-- A pair is put in place of another one. -/
theorem PairsQ.put {g c : Nat} (h : PairsQ w0 w base (.slice (some ⟨g, 0, none⟩) L.length c) N L) (i : Nat) (hi : i < L.length) (p : PV) {A : Option Addr} {l d : Nat} (hw : RowQ w0 w N ((N : Int), A, l, d) p.1) :
    PairsQ w0 (((w.setCell ⟨g, i * 3, none⟩ (.int .i64 N)).setCell ⟨g, i * 3 + 1, none⟩ (.slice A l d)).setCell ⟨g, i * 3 + 2, none⟩ (.string p.2)) base (.slice (some ⟨g, 0, none⟩) L.length c) N (L.set i p) := by
  obtain ⟨rs, h1, h2, h3⟩ := h
  have hn : 0 < L.length := by omega
  obtain ⟨g', c', hv, -, -, -, cur, hbx⟩ := h2.form hn
  injection hv with hv
  injection hv with hv
  injection hv with hv
  subst hv
  have s := ((h2.put hn (i * 3) (.int .i64 N)).put hn (i * 3 + 1) (.slice A l d)).put hn (i * 3 + 2) (.string p.2)
  rw [show (((prC rs L).set (i * 3) (.int .i64 (N : Int))).set (i * 3 + 1) (.slice A l d)).set (i * 3 + 2) (.string p.2) = prC (rs.set i ((N : Int), A, l, d)) (L.set i p) from prC_set rs L h1 i hi ((N : Int), A, l, d) p] at s
  have far : ∀ {r : RowV} {x : Nat}, RowQ w0 w N r x → RowQ w0 (((w.setCell ⟨g, i * 3, none⟩ (.int .i64 N)).setCell ⟨g, i * 3 + 1, none⟩ (.slice A l d)).setCell ⟨g, i * 3 + 2, none⟩ (.string p.2)) N r x := fun q => ((q.far hbx (by decide) _ _).far (hbx.put _ _) (by decide) _ _).far ((hbx.put _ _).put _ _) (by decide) _ _
  refine ⟨rs.set i ((N : Int), A, l, d), by simp [h1], by rw [List.length_set]; exact s, fun j hj => ?_⟩
  rw [List.length_set] at hj
  rw [set_getD L i j p hj]
  by_cases e : i = j
  · subst e
    have e1 : (rs.set i ((N : Int), A, l, d)).getD i (0, none, 0, 0) = ((N : Int), A, l, d) := by simp [List.getD, h1, hi]
    rw [e1, if_pos rfl]
    exact far hw
  · have e1 : (rs.set i ((N : Int), A, l, d)).getD j (0, none, 0, 0) = rs.getD j (0, none, 0, 0) := by simp only [List.getD]; rw [List.getElem?_set_ne e]
    rw [e1, if_neg e]
    exact far (h3 j hj)
end
end
section
/- How many bits of a word are 1, byte by byte, and folded. No program. -/
set_option linter.unusedVariables false
set_option linter.unusedSimpArgs false
/-- A number by its bytes, the lowest first. -/
def valB : List Nat → Nat
  | [] => 0
  | c :: cs => c + 256 * valB cs
theorem valB_and (m : Nat) (hm : m < 256) : ∀ cs : List Nat, (∀ c ∈ cs, c < 256) → valB cs &&& valB (List.replicate cs.length m) = valB (cs.map (· &&& m))
  | [], _ => by simp [valB]
  | c :: cs, h => by
    have hc : c < 256 := h c (by simp)
    have ih := valB_and m hm cs (fun x hx => h x (by simp [hx]))
    have e1 : (valB (c :: cs) &&& valB (List.replicate (c :: cs).length m)) / 2 ^ 8 = valB (c :: cs) / 2 ^ 8 &&& valB (List.replicate (c :: cs).length m) / 2 ^ 8 := Nat.and_div_two_pow
    have e2 : (valB (c :: cs) &&& valB (List.replicate (c :: cs).length m)) % 2 ^ 8 = (valB (c :: cs) % 2 ^ 8) &&& (valB (List.replicate (c :: cs).length m) % 2 ^ 8) := Nat.and_mod_two_pow
    simp only [List.length_cons, List.replicate_succ, valB] at *
    rw [show (c + 256 * valB cs) / 2 ^ 8 = valB cs by omega, show (m + 256 * valB (List.replicate cs.length m)) / 2 ^ 8 = valB (List.replicate cs.length m) by omega, ih] at e1
    rw [show (c + 256 * valB cs) % 2 ^ 8 = c by omega, show (m + 256 * valB (List.replicate cs.length m)) % 2 ^ 8 = m by omega] at e2
    have := Nat.div_add_mod ((c + 256 * valB cs) &&& (m + 256 * valB (List.replicate cs.length m))) (2 ^ 8)
    rw [e1, e2] at this
    simp only [List.map_cons, valB]
    omega
/-- Bytes shifted down by k bits. -/
def shrB (p q : Nat) : List Nat → List Nat
  | [] => []
  | [c] => [c / p]
  | c :: d :: r => (c / p + d % p * q) :: shrB p q (d :: r)
theorem div_cut (c p q y : Nat) (hp : 0 < p) (e : p * q = 256) : (c + 256 * y) / p = c / p + q * y := by
  rw [← e, Nat.mul_assoc, Nat.add_mul_div_left _ _ hp]
theorem shrB_val (p q : Nat) (hp : 0 < p) (e : p * q = 256) : ∀ cs : List Nat, valB (shrB p q cs) = valB cs / p
  | [] => by simp [shrB, valB]
  | [c] => by simp [shrB, valB]
  | c :: d :: r => by
    have ih := shrB_val p q hp e (d :: r)
    show c / p + d % p * q + 256 * valB (shrB p q (d :: r)) = (c + 256 * valB (d :: r)) / p
    rw [ih, div_cut c p q _ hp e, ← e]
    have h1 := Nat.div_add_mod (valB (d :: r)) p
    have h2 : valB (d :: r) % p = d % p := by
      simp only [valB]
      rw [← e, Nat.mul_assoc, Nat.add_mul_mod_self_left]
    rw [h2] at h1
    have h3 : q * valB (d :: r) = q * (p * (valB (d :: r) / p) + d % p) := by rw [h1]
    rw [h3, Nat.mul_add, Nat.mul_comm (d % p) q, ← Nat.mul_assoc q p, Nat.mul_comm q p]
    omega
theorem shrB_len (p q : Nat) : ∀ cs : List Nat, (shrB p q cs).length = cs.length
  | [] => rfl
  | [c] => rfl
  | c :: d :: r => by simp only [shrB, List.length_cons]; rw [shrB_len p q (d :: r)]; rfl
theorem shrB_lt (p q : Nat) (hp : 0 < p) (e : p * q = 256) : ∀ cs : List Nat, (∀ c ∈ cs, c < 256) → ∀ c ∈ shrB p q cs, c < 256
  | [], _ => by simp [shrB]
  | [c], h => by
    intro x hx
    have : x = c / p := by simpa [shrB] using hx
    have := h c (by simp)
    have := Nat.div_le_self c p
    omega
  | c :: d :: r, h => by
    intro x hx
    rcases List.mem_cons.1 (show x ∈ (c / p + d % p * q) :: shrB p q (d :: r) from hx) with rfl | hx
    · have h1 := h c (by simp)
      have h2 : c / p < q := by rw [Nat.div_lt_iff_lt_mul hp, Nat.mul_comm, e]; exact h1
      have h3 : d % p < p := Nat.mod_lt _ hp
      have h4 : (d % p + 1) * q ≤ p * q := Nat.mul_le_mul_right _ h3
      rw [Nat.add_mul, Nat.one_mul, e] at h4
      omega
    · exact shrB_lt p q hp e (d :: r) (fun y hy => h y (by simp [hy])) x hx
theorem valB_add : ∀ xa bs : List Nat, xa.length = bs.length → valB xa + valB bs = valB (List.zipWith (· + ·) xa bs)
  | [], [], _ => rfl
  | a :: xa, b :: bs, h => by
    have ih := valB_add xa bs (by simpa using h)
    simp only [valB, List.zipWith_cons_cons]
    omega
  | [], _ :: _, h => by simp at h
  | _ :: _, [], h => by simp at h
/-- Two masked halves put together, byte by byte. -/
theorem half_map (p q m : Nat) (f : Nat → Nat) (hf : ∀ c, c < 256 → ∀ z, z < p → ((c / p + z * q) &&& m) + (c &&& m) = f c) (hf0 : ∀ c, c < 256 → ((c / p) &&& m) + (c &&& m) = f c) (hp : 0 < p) :
    ∀ cs : List Nat, (∀ c ∈ cs, c < 256) → List.zipWith (· + ·) ((shrB p q cs).map (· &&& m)) (cs.map (· &&& m)) = cs.map f
  | [], _ => rfl
  | [c], h => by simp [shrB, hf0 c (h c (by simp))]
  | c :: d :: r, h => by
    have ih := half_map p q m f hf hf0 hp (d :: r) (fun y hy => h y (by simp [hy]))
    simp only [shrB, List.map_cons, List.zipWith_cons_cons] at *
    rw [ih, hf c (h c (by simp)) (d % p) (Nat.mod_lt _ hp)]
/-- Two halves put together, and masked, byte by byte. -/
theorem both_map : ∀ cs : List Nat, (List.zipWith (· + ·) (shrB 16 16 cs) cs).map (· &&& 15) = cs.map fun c => (c / 16 + c) % 16
  | [] => rfl
  | [c] => by
    simp only [shrB, List.zipWith_cons_cons, List.zipWith_nil_left, List.map_cons, List.map_nil]
    exact congrArg (fun y => [y]) (Nat.and_two_pow_sub_one_eq_mod (c / 16 + c) 4)
  | c :: d :: r => by
    have ih := both_map (d :: r)
    simp only [shrB, List.map_cons, List.zipWith_cons_cons] at *
    rw [ih, show (c / 16 + d % 16 * 16 + c) &&& 15 = (c / 16 + d % 16 * 16 + c) % 2 ^ 4 from Nat.and_two_pow_sub_one_eq_mod _ 4, show (c / 16 + d % 16 * 16 + c) % 2 ^ 4 = (c / 16 + c) % 16 by omega]
theorem both_lt : ∀ cs : List Nat, (∀ c ∈ cs, c / 16 ≤ 4 ∧ c % 16 ≤ 4) → ∀ x ∈ List.zipWith (· + ·) (shrB 16 16 cs) cs, x < 256
  | [], _ => by simp [shrB]
  | [c], h => by
    intro x hx
    have := h c (by simp)
    have : x = c / 16 + c := by simpa [shrB] using hx
    omega
  | c :: d :: r, h => by
    intro x hx
    simp only [shrB, List.zipWith_cons_cons] at hx
    rcases List.mem_cons.1 hx with rfl | hx
    · have h1 := h c (by simp)
      have h2 := h d (by simp)
      omega
    · exact both_lt (d :: r) (fun y hy => h y (by simp [hy])) x hx
def f1 (c : Nat) : Nat := ((c / 2) &&& 85) + (c &&& 85)
def f2 (c : Nat) : Nat := ((c / 4) &&& 51) + (c &&& 51)
/-- How many bits of a byte are 1. -/
def pop8 (c : Nat) : Nat := ((List.range 8).filter c.testBit).length
theorem f1_ok : ∀ c : Fin 256, ∀ z : Fin 2, ((c.val / 2 + z.val * 128) &&& 85) + (c.val &&& 85) = f1 c.val := by decide +kernel
theorem f1_lt : ∀ c : Fin 256, f1 c.val < 171 := by decide +kernel
theorem f2_ok : ∀ c : Fin 256, ∀ z : Fin 4, ((c.val / 4 + z.val * 64) &&& 51) + (c.val &&& 51) = f2 c.val := by decide +kernel
theorem f2_lt : ∀ c : Fin 256, f2 (f1 c.val) / 16 ≤ 4 ∧ f2 (f1 c.val) % 16 ≤ 4 := by decide +kernel
theorem pop_ok : ∀ c : Fin 256, (f2 (f1 c.val) / 16 + f2 (f1 c.val)) % 16 = pop8 c.val := by decide +kernel
theorem pop_le : ∀ c : Fin 256, pop8 c.val ≤ 8 := by decide +kernel
/-- The three steps that count within bytes. -/
def stepA (x : Nat) : Nat := ((x / 2) &&& 6148914691236517205) + (x &&& 6148914691236517205)
def stepB (x : Nat) : Nat := ((x / 4) &&& 3689348814741910323) + (x &&& 3689348814741910323)
def stepC (x : Nat) : Nat := (x / 16 + x) &&& 1085102592571150095
theorem step_half (p q m : Nat) (f : Nat → Nat) (M : Nat) (hm : m < 256) (hp : 0 < p) (e : p * q = 256) (hf : ∀ c : Fin 256, ∀ z : Fin p, ((c.val / p + z.val * q) &&& m) + (c.val &&& m) = f c.val) (cs : List Nat) (h : ∀ c ∈ cs, c < 256) (hM : M = valB (List.replicate cs.length m)) :
    ((valB cs / p) &&& M) + (valB cs &&& M) = valB (cs.map f) := by
  have l1 := shrB_len p q cs
  have e1 := valB_and m hm (shrB p q cs) (shrB_lt p q hp e cs h)
  have e2 := valB_and m hm cs h
  rw [l1, shrB_val p q hp e] at e1
  rw [hM, e1, e2, valB_add _ _ (by simp [l1]), half_map p q m f (fun c hc z hz => hf ⟨c, hc⟩ ⟨z, hz⟩) (fun c hc => by have := hf ⟨c, hc⟩ ⟨0, hp⟩; simpa using this) hp cs h]
theorem steps (cs : List Nat) (h : ∀ c ∈ cs, c < 256) (h8 : cs.length = 8) : stepC (stepB (stepA (valB cs))) = valB (cs.map pop8) ∧ stepA (valB cs) = valB (cs.map f1) ∧ stepB (stepA (valB cs)) = valB (cs.map fun c => f2 (f1 c)) := by
  have a1 : stepA (valB cs) = valB (cs.map f1) := step_half 2 128 85 f1 _ (by decide) (by decide) rfl f1_ok cs h (by rw [h8]; decide)
  have hb : ∀ c ∈ cs.map f1, c < 256 := by
    intro x hx
    obtain ⟨c, hc, rfl⟩ := List.mem_map.1 hx
    have := f1_lt ⟨c, h c hc⟩
    simp only at this
    omega
  have a2 : stepB (valB (cs.map f1)) = valB ((cs.map f1).map f2) := step_half 4 64 51 f2 _ (by decide) (by decide) rfl f2_ok _ hb (by rw [List.length_map, h8]; decide)
  rw [List.map_map] at a2
  refine ⟨?_, a1, by rw [a1, a2]; rfl⟩
  rw [a1, a2]
  unfold stepC
  have hc : ∀ x ∈ cs.map (f2 ∘ f1), x / 16 ≤ 4 ∧ x % 16 ≤ 4 := by
    intro x hx
    obtain ⟨c, hc, rfl⟩ := List.mem_map.1 hx
    exact f2_lt ⟨c, h c hc⟩
  rw [← shrB_val 16 16 (by decide) rfl, valB_add _ _ (by rw [shrB_len])]
  have e3 := valB_and 15 (by decide) _ (both_lt _ hc)
  have hl : (List.zipWith (· + ·) (shrB 16 16 (cs.map (f2 ∘ f1))) (cs.map (f2 ∘ f1))).length = 8 := by simp [shrB_len, h8]
  rw [hl, both_map, List.map_map] at e3
  rw [show (1085102592571150095 : Nat) = valB (List.replicate 8 15) by decide, e3]
  congr 1
  apply List.map_congr_left
  intro c hc
  exact pop_ok ⟨c, h c hc⟩
/-- The bytes of a word. -/
def bytesW (x : Nat) : List Nat := (List.range 8).map fun i => x / 256 ^ i % 256
theorem bytesW_eq (x : Nat) : bytesW x = [x % 256, x / 256 % 256, x / 65536 % 256, x / 16777216 % 256, x / 4294967296 % 256, x / 1099511627776 % 256, x / 281474976710656 % 256, x / 72057594037927936 % 256] := by simp [bytesW, List.range_succ]
theorem bytesW_val (x : Nat) (h : x < 18446744073709551616) : valB (bytesW x) = x := by
  rw [bytesW_eq]
  simp only [valB]
  omega
/-- The sums of bytes, folded. -/
theorem fold_sum (a b c d e f g i : Nat) (h : a ≤ 8 ∧ b ≤ 8 ∧ c ≤ 8 ∧ d ≤ 8 ∧ e ≤ 8 ∧ f ≤ 8 ∧ g ≤ 8 ∧ i ≤ 8) (z t u v : Nat) (hz : z = valB [a, b, c, d, e, f, g, i]) (ht : t = z + z / 256) (hu : u = t + t / 65536) (hv : v = u + u / 4294967296) :
    v % 128 = a + b + c + d + e + f + g + i ∧ v < 18446744073709551616 := by
  simp only [valB] at hz
  have t1 : t = (a + b) + 256 * ((b + c) + 256 * ((c + d) + 256 * ((d + e) + 256 * ((e + f) + 256 * ((f + g) + 256 * ((g + i) + 256 * i)))))) := by omega
  clear ht hz
  have u1 : u = (a + b + c + d) + 256 * ((b + c + d + e) + 256 * ((c + d + e + f) + 256 * ((d + e + f + g) + 256 * ((e + f + g + i) + 256 * ((f + g + i) + 256 * ((g + i) + 256 * i)))))) := by omega
  clear hu t1
  have v1 : u / 4294967296 = (e + f + g + i) + 256 * ((f + g + i) + 256 * ((g + i) + 256 * i)) := by omega
  rw [v1, u1] at hv
  omega
/-- How many of the first m bits are 1. -/
def popW (x m : Nat) : Nat := ((List.range m).filter x.testBit).length
theorem popW_step (x m : Nat) : popW x (m + 8) = popW x m + pop8 (x / 2 ^ m % 256) := by
  unfold popW pop8
  rw [List.range_add, List.filter_append, List.length_append, List.filter_map, List.length_map]
  congr 2
  apply List.filter_congr
  intro j hj
  have hj : j < 8 := by simpa using hj
  show x.testBit (m + j) = _
  rw [show (256 : Nat) = 2 ^ 8 from rfl, Nat.testBit_mod_two_pow, Nat.testBit_div_two_pow, Nat.add_comm]
  simp [hj]
theorem popW_bytes (x : Nat) : popW x 64 = pop8 (x % 256) + pop8 (x / 256 % 256) + pop8 (x / 65536 % 256) + pop8 (x / 16777216 % 256) + pop8 (x / 4294967296 % 256) + pop8 (x / 1099511627776 % 256) + pop8 (x / 281474976710656 % 256) + pop8 (x / 72057594037927936 % 256) := by
  have s0 := popW_step x 0
  have s1 := popW_step x 8
  have s2 := popW_step x 16
  have s3 := popW_step x 24
  have s4 := popW_step x 32
  have s5 := popW_step x 40
  have s6 := popW_step x 48
  have s7 := popW_step x 56
  have z : popW x 0 = 0 := rfl
  simp only [Nat.reduceAdd, Nat.reducePow, Nat.div_one] at s0 s1 s2 s3 s4 s5 s6 s7
  omega
/-- The library's count of a word's bits, step by step. -/
theorem count_word (x : Nat) (hx : x < 18446744073709551616) (z t u v : Nat) (hz : z = stepC (stepB (stepA x))) (ht : t = z + z / 256) (hu : u = t + t / 65536) (hv : v = u + u / 4294967296) : v % 128 = popW x 64 ∧ v < 18446744073709551616 := by
  have hb : ∀ c ∈ bytesW x, c < 256 := by
    intro c hc
    rw [bytesW] at hc
    obtain ⟨i, -, rfl⟩ := List.mem_map.1 hc
    exact Nat.mod_lt _ (by omega)
  have h1 := (steps (bytesW x) hb (by simp [bytesW])).1
  rw [bytesW_val x hx] at h1
  rw [h1, bytesW_eq] at hz
  rw [popW_bytes]
  have hp : ∀ y : Nat, pop8 (y % 256) ≤ 8 := fun y => pop_le ⟨y % 256, Nat.mod_lt _ (by omega)⟩
  exact fold_sum _ _ _ _ _ _ _ _ ⟨hp x, hp _, hp _, hp _, hp _, hp _, hp _, hp _⟩ z t u v hz ht hu hv
theorem steps_small (x : Nat) : stepA x < 18446744073709551616 ∧ stepB (stepA x) < 18446744073709551616 ∧ stepA x = ((x / 2) &&& 6148914691236517205) + (x &&& 6148914691236517205) := by
  have h1 : (x / 2) &&& 6148914691236517205 ≤ 6148914691236517205 := Nat.and_le_right
  have h2 : x &&& 6148914691236517205 ≤ 6148914691236517205 := Nat.and_le_right
  have h3 : (stepA x / 4) &&& 3689348814741910323 ≤ 3689348814741910323 := Nat.and_le_right
  have h4 : stepA x &&& 3689348814741910323 ≤ 3689348814741910323 := Nat.and_le_right
  refine ⟨?_, ?_, rfl⟩
  · unfold stepA; omega
  · show (stepA x / 4 &&& 3689348814741910323) + (stepA x &&& 3689348814741910323) < _; omega
end
section
/- The lowest bit of a word: how a word is cut at it. No program. -/
set_option linter.unusedVariables false
set_option linter.unusedSimpArgs false
theorem odd_form (x : Nat) (h : 0 < x) : ∃ i m, x = 2 ^ i * (2 * m + 1) := by
  induction x using Nat.strongRecOn with
  | ind x ih =>
    by_cases hp : x % 2 = 1
    · exact ⟨0, x / 2, by simp; omega⟩
    · obtain ⟨i, m, e⟩ := ih (x / 2) (by omega) (by omega)
      refine ⟨i + 1, m, ?_⟩
      have h2 : x = 2 * (x / 2) := by omega
      rw [h2, e, Nat.pow_succ, Nat.mul_comm (2 ^ i) 2, Nat.mul_assoc]
theorem odd_bit (i m j : Nat) : (2 ^ i * (2 * m + 1)).testBit j = if j < i then false else if j = i then true else m.testBit (j - i - 1) := by
  rw [Nat.testBit_two_pow_mul]
  by_cases h : j < i
  · simp [h, Nat.not_le.2 h]
  · by_cases e : j = i
    · subst e; simp
    · obtain ⟨d, rfl⟩ : ∃ d, j = i + (d + 1) := ⟨j - i - 1, by omega⟩
      have h1 : i + (d + 1) - i = d + 1 := by omega
      have h2 : d + 1 - 1 = d := by omega
      rw [h1, h2]
      simp [Nat.testBit_succ, show (2 * m + 1) / 2 = m by omega]
theorem odd_bit1 (i m j : Nat) : (2 ^ i * (2 * m + 1) - 1).testBit j = if j < i then true else if j = i then false else m.testBit (j - i - 1) := by
  have hp : 0 < 2 ^ i := Nat.two_pow_pos i
  have e : 2 ^ i * (2 * m + 1) - 1 = 2 ^ i * (2 * m) + (2 ^ i - 1) := by
    rw [Nat.mul_add, Nat.mul_one]; omega
  rw [e, Nat.testBit_two_pow_mul_add _ (by omega)]
  by_cases h : j < i
  · simp [h, Nat.testBit_two_pow_sub_one]
  · by_cases e : j = i
    · subst e; simp [Nat.testBit_zero]
    · obtain ⟨d, rfl⟩ : ∃ d, j = i + (d + 1) := ⟨j - i - 1, by omega⟩
      have h1 : i + (d + 1) - i = d + 1 := by omega
      have h2 : d + 1 - 1 = d := by omega
      rw [h1, h2]
      simp [Nat.testBit_succ, show 2 * m / 2 = m by omega]
/-- The lowest bit struck off. -/
theorem strike_low (i m : Nat) : (2 ^ i * (2 * m + 1)) &&& (2 ^ i * (2 * m + 1) - 1) = 2 ^ i * (2 * m) := by
  apply Nat.eq_of_testBit_eq
  intro j
  rw [Nat.testBit_and, odd_bit, odd_bit1, Nat.testBit_two_pow_mul]
  by_cases h : j < i
  · simp [h, Nat.not_le.2 h]
  · by_cases e : j = i
    · subst e; simp [Nat.testBit_zero]
    · obtain ⟨d, rfl⟩ : ∃ d, j = i + (d + 1) := ⟨j - i - 1, by omega⟩
      have h1 : i + (d + 1) - i = d + 1 := by omega
      have h2 : d + 1 - 1 = d := by omega
      rw [h1, h2]
      have h3 : ¬ i + (d + 1) < i := h
      simp only [h3, Bool.true_and, if_false, Bool.and_self, Nat.testBit_succ, e, show 2 * m / 2 = m by omega, show i + (d + 1) ≥ i by omega, decide_true]
/-- The lowest bit alone. -/
theorem only_low (i m : Nat) (hx : 2 ^ i * (2 * m + 1) < 18446744073709551616) : (2 ^ i * (2 * m + 1)) &&& (18446744073709551616 - 2 ^ i * (2 * m + 1)) = 2 ^ i := by
  have hp : 0 < 2 ^ i * (2 * m + 1) := Nat.mul_pos (Nat.two_pow_pos i) (by omega)
  have hi : i < 64 := by
    refine Nat.lt_of_not_le fun h => ?_
    have h1 : 2 ^ 64 ≤ 2 ^ i := Nat.pow_le_pow_right (by omega) h
    have h2 : 2 ^ i * 1 ≤ 2 ^ i * (2 * m + 1) := Nat.mul_le_mul_left _ (by omega)
    omega
  apply Nat.eq_of_testBit_eq
  intro j
  have e : 18446744073709551616 - 2 ^ i * (2 * m + 1) = 2 ^ 64 - (2 ^ i * (2 * m + 1) - 1 + 1) := by
    rw [show 2 ^ i * (2 * m + 1) - 1 + 1 = 2 ^ i * (2 * m + 1) by omega]
  rw [e, Nat.testBit_and, Nat.testBit_two_pow_sub_succ (by omega), odd_bit, odd_bit1, Nat.testBit_two_pow]
  by_cases h : j < i
  · simp [h]; omega
  · by_cases e : j = i
    · subst e; simp [hi]
    · have : ¬ i = j := fun h => e h.symm
      simp [h, e, this]
      intro h1 _
      exact h1
/-- The table of places by a de Bruijn word, as the library has it. -/
def dbTab : List Nat := [0, 1, 56, 2, 57, 49, 28, 3, 61, 58, 42, 50, 38, 29, 17, 4, 62, 47, 59, 36, 45, 43, 51, 22, 53, 39, 33, 30, 24, 18, 12, 5, 63, 55, 48, 27, 60, 41, 37, 16, 46, 35, 44, 21, 52, 32, 23, 11, 54, 26, 40, 15, 34, 20, 31, 10, 25, 14, 19, 9, 13, 8, 7, 6]
theorem db_at : ∀ i : Fin 64, dbTab.getD (2 ^ i.val * 285870213051353865 % 18446744073709551616 / 288230376151711744) 99 = i.val := by decide
end
section
/- The places of the bits 1 of words, and how they are found word by word, lowest bit first. No program. -/
set_option linter.unusedVariables false
set_option linter.unusedSimpArgs false
/-- Where bits are 1, of the first m. -/
def plcN (us : List Nat) (m : Nat) : List Nat := (List.range m).filter fun p => bitAt us p == 1
theorem plcN_succ (us : List Nat) (m : Nat) : plcN us (m + 1) = plcN us m ++ if bitAt us m = 1 then [m] else [] := by
  unfold plcN
  rw [List.range_succ, List.filter_append]
  by_cases h : bitAt us m = 1 <;> simp [h]
/-- A word without its low bits. -/
def hiW (x t : Nat) : Nat := 2 ^ t * (x / 2 ^ t)
theorem hiW_bit (x t j : Nat) : (hiW x t).testBit j = (decide (t ≤ j) && x.testBit j) := by
  unfold hiW
  rw [Nat.testBit_two_pow_mul, Nat.testBit_div_two_pow]
  by_cases h : t ≤ j
  · simp [h, Nat.sub_add_cancel h]
  · simp [h]
theorem bitAt_bit (us : List Nat) (i j : Nat) (h : j < 64) : (bitAt us (64 * i + j) = 1) = ((us.getD i 0).testBit j = true) := by
  unfold bitAt
  rw [show (64 * i + j) / 64 = i by omega, show (64 * i + j) % 64 = j by omega, Nat.testBit_eq_decide_div_mod_eq]
  simp
theorem plcN_skip (us : List Nat) (i t s : Nat) (hs : t + s ≤ 64) (h : ∀ j, t ≤ j → j < t + s → (us.getD i 0).testBit j = false) : plcN us (64 * i + (t + s)) = plcN us (64 * i + t) := by
  induction s with
  | zero => rfl
  | succ s ih =>
    rw [show 64 * i + (t + (s + 1)) = (64 * i + (t + s)) + 1 by omega, plcN_succ, ih (by omega) (fun j h1 h2 => h j h1 (by omega))]
    have : ¬ bitAt us (64 * i + (t + s)) = 1 := by
      rw [bitAt_bit us i (t + s) (by omega), h (t + s) (by omega) (by omega)]; simp
    rw [if_neg this, List.append_nil]
theorem hi_done (us : List Nat) (i t : Nat) (ht : t ≤ 64) (h : hiW (us.getD i 0) t = 0) : plcN us (64 * i + t) = plcN us (64 * (i + 1)) := by
  have := plcN_skip us i t (64 - t) (by omega) (fun j h1 h2 => by
    have := hiW_bit (us.getD i 0) t j
    rw [h] at this
    simpa [h1] using this.symm)
  rw [show t + (64 - t) = 64 by omega] at this
  rw [← this, show 64 * (i + 1) = 64 * i + 64 by omega]
theorem hi_step (us : List Nat) (i t : Nat) (hx : us.getD i 0 < 18446744073709551616) (h : hiW (us.getD i 0) t ≠ 0) :
    ∃ s m, t ≤ s ∧ s < 64 ∧ hiW (us.getD i 0) t = 2 ^ s * (2 * m + 1) ∧ hiW (us.getD i 0) (s + 1) = 2 ^ s * (2 * m) ∧ plcN us (64 * i + (s + 1)) = plcN us (64 * i + t) ++ [64 * i + s] := by
  obtain ⟨s, m, e⟩ := odd_form (hiW (us.getD i 0) t) (by omega)
  have hb : ∀ j, (decide (t ≤ j) && (us.getD i 0).testBit j) = if j < s then false else if j = s then true else m.testBit (j - s - 1) := fun j => by
    rw [← hiW_bit, e, odd_bit]
  have h0 := hb s
  simp only [Nat.lt_irrefl, if_false, if_true, Bool.and_eq_true, decide_eq_true_eq] at h0
  have hs : s < 64 := by
    refine Nat.lt_of_not_le fun h6 => ?_
    have := Nat.testBit_lt_two_pow (i := s) (Nat.lt_of_lt_of_le hx (show 2 ^ 64 ≤ 2 ^ s from Nat.pow_le_pow_right (by omega) h6))
    rw [this] at h0; exact absurd h0.2 (by decide)
  refine ⟨s, m, h0.1, hs, e, ?_, ?_⟩
  · apply Nat.eq_of_testBit_eq
    intro j
    rw [hiW_bit, Nat.testBit_two_pow_mul]
    have := hb j
    by_cases h1 : s + 1 ≤ j
    · have h2 : t ≤ j := by omega
      have h3 : ¬ j < s := by omega
      have h4 : ¬ j = s := by omega
      simp only [h2, h3, h4, decide_true, Bool.true_and, if_false] at this
      have h5 : s ≤ j := by omega
      obtain ⟨d, rfl⟩ : ∃ d, j = s + (d + 1) := ⟨j - s - 1, by omega⟩
      simp only [h1, h5, decide_true, Bool.true_and, this]
      rw [show s + (d + 1) - s = d + 1 by omega, show d + 1 - 1 = d by omega, Nat.testBit_succ, show 2 * m / 2 = m by omega]
    · have h6 : (decide (s + 1 ≤ j)) = false := by simpa using h1
      rw [h6, Bool.false_and]
      by_cases h7 : s ≤ j
      · obtain rfl : j = s := by omega
        simp [Nat.testBit_zero]
      · simp [h7]
  · rw [show 64 * i + (s + 1) = (64 * i + s) + 1 by omega, plcN_succ]
    have e1 : plcN us (64 * i + s) = plcN us (64 * i + t) := by
      have := plcN_skip us i t (s - t) (by omega) (fun j h1 h2 => by
        have := hb j
        have h3 : j < s := by omega
        simpa [h1, h3] using this)
      rwa [show t + (s - t) = s by omega] at this
    have e2 : bitAt us (64 * i + s) = 1 := by rw [bitAt_bit us i s hs]; exact h0.2
    rw [e1, if_pos e2]
theorem hiW_zero (x : Nat) : hiW x 0 = x := by simp [hiW]
theorem hiW_lt (x t : Nat) (hx : x < 18446744073709551616) : hiW x t < 18446744073709551616 := Nat.lt_of_le_of_lt (Nat.mul_div_le x (2 ^ t)) hx
end
end Go.Proofs.YtdfmogcgangdnaaDoor
