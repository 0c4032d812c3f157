/- Parts: Ms2, Ms3, Ms4, Block2, Block3, Block4, Words2. -/
import Derived.Test.YtljooknodnblbaaDoorZe
import Derived.Laws.BitsAllLaws
import Derived.Laws.CopyOwn
import Derived.Lib.BufferWrite
namespace Go.Proofs.YtljooknodnblbaaDoor
section
/- Contracts of layer 3: rowsOf, Mul. -/
set_option linter.unusedVariables false
set_option linter.unusedSimpArgs false
open Go.RowKit
theorem Box.one {w : World} {g : Nat} {t : TypeId} {a : Value} (h : Box w g t #[a]) : w.cell? ⟨g, 0, none⟩ = some a := h.cell 0
set_option maxRecDepth 100000 in
set_option maxHeartbeats 4000000 in
theorem rowsOf1_any (bf bt bl : Nat) (tf tt tl : TypeId) (N : Nat) (A : Option Addr) (l c lo : Nat) (ms : List (Int × List Nat)) (A2 : Option Addr) (l2 c2 lo2 : Nat) (rs : List (Int × List Nat)) (i : Nat) (w : World)
    (hf : Box w bf tf #[.func (.func 20) #[] #[]]) (ht : Box w bt tt #[.int .i64 N, .slice A l c]) (hl : Box w bl tl #[.slice A2 l2 c2]) (hm : MatAt w lo A l ms) (hr : rightM N ms = true) (hm2 : MatAt w lo2 A2 l2 rs) (hr2 : rightM l rs = true) (hT : TabAt w 0) (hi : i < l2) :
    Calls Tryd.prog 34 #[.int .i64 i, .pointer (some ⟨bf, 0, none⟩), .pointer (some ⟨bt, 0, none⟩), .pointer (some ⟨bl, 0, none⟩)] w (OneOwn N (mulW N ms (rs.getD i (0, [])).2) w) := by
  obtain ⟨g1, o1, B1, k1, e1, rfl, hg1, x1, y1, s1, u1⟩ := hm2.at i hi
  obtain ⟨hN, hrr⟩ := rightM_at hr2 i (by rw [hm2.1]; exact hi)
  rw [hN] at x1
  have hW : Below w.heap.size w (w.alloc (.cells #[.int .i64 0, .slice none 0 0] 45)) := (Below.refl _ _).alloc (Nat.le_refl _) _
  have QR := Lib.hid (Box.new w 45 #[.int .i64 0, .slice none 0 0])
  have HF := Lib.hid (hf.keep hW)
  have HTb := Lib.hid (ht.keep hW)
  have HLb := Lib.hid (hl.keep hW)
  have HC := Lib.hid (tsum_any N A l c lo ms B1 k1 e1 _ _ ((hm.below hW).drew) hr ((u1.below hW).drew) hrr (show TabAt (w.alloc (.cells #[.int .i64 0, .slice none 0 0] 45)).drew 0 from hT.below hW.drew))
  have HW := Lib.hid hW
  have x1' := (hW.cell (p := ⟨g1, o1 + i * 2, none⟩) hg1).trans x1
  have y1' := (hW.cell (p := ⟨g1, o1 + i * 2 + 1, none⟩) hg1).trans y1
  have c0 := HF.out.one
  obtain ⟨d0, d1, -, -⟩ := HTb.out.two
  have e0 := HLb.out.one
  obtain ⟨q0, q1, q2, q3⟩ := QR.out.two
  have hlt' : (i : Int) < (l2 : Int) := by omega
  have eg : ∀ args w, (callFunc 20 args).run Tryd.prog w = .ok (.enter 20 args) w := enters_of Tryd.func20 (by kernel_rfl) rfl
  have HG := Lib.hid hg1
  have LF := Lib.hid HF.out.lt
  have LT := Lib.hid HTb.out.lt
  have LL := Lib.hid HLb.out.lt
  have n1 : ¬ w.heap.size = bf := by have := hf.lt; omega
  have n2 : ¬ w.heap.size = bt := by have := ht.lt; omega
  have n3 : ¬ w.heap.size = bl := by have := hl.lt; omega
  have n4 : ¬ w.heap.size = g1 := by omega
  clear hf ht hl hm hr hm2 hr2 hT u1 hrr hN s1 hW x1 y1 hg1
  generalize mulW N ms (rs.getD i (0, [])).2 = zs at *
  go_enter Tryd.func34, Tryd.ntmps34
  go_wp2_with fail
  go_region_held3 (fun w' => w'.cell? ⟨bf, 0, none⟩ = some (.func (.func 20) #[] #[]) ∧ w'.cell? ⟨bt, 0, none⟩ = some (.int .i64 N) ∧ w'.cell? ⟨bt, 1, none⟩ = some (.slice A l c) ∧ w'.cell? ⟨bl, 0, none⟩ = some (.slice (some ⟨g1, o1, none⟩) l2 c2) ∧ w'.cell? ⟨g1, o1 + i * 2, none⟩ = some (.int .i64 l) ∧ w'.cell? ⟨g1, o1 + i * 2 + 1, none⟩ = some (.slice B1 k1 e1)) (go_keep)
    (first
      | (go_at_call 20; refine HC.out.mono ?_; rintro e5 y5 ⟨A5, l5, c5, rfl, hw, hb⟩; have P2 := Lib.hid (QR.out.drew.keep hb); have B2 := Lib.hid (chainN HW.out.drew HW.out.size hb); have SW := Lib.hid hw; have c0' := (HF.out.drew.keep hb).one; obtain ⟨d0', d1', -, -⟩ := (HTb.out.drew.keep hb).two; have e0' := (HLb.out.drew.keep hb).one; have x2' := (hb.cell (p := ⟨g1, o1 + i * 2, none⟩) (by have := HG.out; have : w.heap.size < (w.alloc (.cells #[.int .i64 0, .slice none 0 0] 45)).drew.heap.size := QR.out.lt; show g1 < _; omega)).trans x1'; have y2' := (hb.cell (p := ⟨g1, o1 + i * 2 + 1, none⟩) (by have := HG.out; have : w.heap.size < (w.alloc (.cells #[.int .i64 0, .slice none 0 0] 45)).drew.heap.size := QR.out.lt; show g1 < _; omega)).trans y1'; clear hb hw; obtain ⟨t0, t1, t2, t3⟩ := P2.out.two))
  go_wp2_with fail
  refine close_one Tryd.results34 rfl rfl P2.out.put2 Tryd.underlying45 rfl (by kernel_rfl) ⟨_, _, _, rfl, SW.out.put2 P2.out _ _, (B2.out.setCell (p := ⟨w.heap.size, 0, none⟩) (Nat.le_refl _) _).setCell (p := ⟨w.heap.size, 1, none⟩) (Nat.le_refl _) _⟩
set_option maxHeartbeats 2000000 in
theorem rowsOf_any (N : Nat) (A : Option Addr) (l c lo : Nat) (ms : List (Int × List Nat)) (A2 : Option Addr) (l2 c2 lo2 : Nat) (rs : List (Int × List Nat)) (w : World)
    (hm : MatAt w lo A l ms) (hr : rightM N ms = true) (hm2 : MatAt w lo2 A2 l2 rs) (hr2 : rightM l rs = true) (hT : TabAt w 0) :
    Calls Tryd.prog 19 #[.agg #[.int .i64 N, .slice A l c], .slice A2 l2 c2, .func (.func 20) #[] #[]] w (MatsOut N (fun i => mulW N ms (rs.getD i (0, [])).2) l2 w) := by
  have hl2 := (rightM_bd hr2).2.2
  rw [hm2.1] at hl2
  obtain ⟨W3, hW3⟩ : ∃ W3, W3 = ((w.alloc (.cells #[.int .i64 N, .slice A l c] 47)).alloc (.cells #[.slice A2 l2 c2] 22)).alloc (.cells #[.func (.func 20) #[] #[]] 48) := ⟨_, rfl⟩
  have hB : Below w.heap.size w W3 := by rw [hW3]; exact (((Below.refl _ _).alloc (Nat.le_refl _) _).alloc (by simp) _).alloc (by simp; omega) _
  have b0 : Box W3 w.heap.size 47 #[.int .i64 N, .slice A l c] := by rw [hW3]; exact ((Box.new w 47 #[.int .i64 N, .slice A l c]).alloc _).alloc _
  have b1 : Box W3 (w.heap.size + 1) 22 #[.slice A2 l2 c2] := by
    rw [hW3]
    have := (Box.new (w.alloc (.cells #[.int .i64 N, .slice A l c] 47)) 22 #[.slice A2 l2 c2]).alloc (.cells #[.func (.func 20) #[] #[]] 48)
    simpa only [World.size_alloc] using this
  have b2 : Box W3 (w.heap.size + 1 + 1) 48 #[.func (.func 20) #[] #[]] := by
    rw [hW3]
    have := Box.new ((w.alloc (.cells #[.int .i64 N, .slice A l c] 47)).alloc (.cells #[.slice A2 l2 c2] 22)) 48 #[.func (.func 20) #[] #[]]
    simpa only [World.size_alloc] using this
  have HBY := Lib.hid (rowsBy_any 34 #[] #[.pointer (some ⟨w.heap.size + 1 + 1, 0, none⟩), .pointer (some ⟨w.heap.size, 0, none⟩), .pointer (some ⟨w.heap.size + 1, 0, none⟩)] l2 N (fun i => mulW N ms (rs.getD i (0, [])).2) W3 (enters_of Tryd.func34 (by kernel_rfl) rfl) hl2
    (fun W i hi hb => rowsOf1_any (w.heap.size + 1 + 1) w.heap.size (w.heap.size + 1) _ _ _ N A l c lo ms A2 l2 c2 lo2 rs i W (b2.keep hb) (b0.keep hb) (b1.keep hb) ((hm.below hB).below hb) hr ((hm2.below hB).below hb) hr2 ((hT.below hB).below hb) hi)
    (fun i j => mulW_lt N (fun i j => hm.lt i j) _ j))
  have HW3 := Lib.hid hW3
  have HB := Lib.hid hB
  have c1 : World.cell? (((w.alloc (.cells #[.int .i64 N, .slice A l c] 47)).alloc (.cells #[.slice A2 l2 c2] 22)).alloc (.cells #[.func (.func 20) #[] #[]] 48)) ⟨w.heap.size + 1, 0, none⟩ = some (.slice A2 l2 c2) := by rw [← hW3]; exact b1.one
  generalize (fun i => mulW N ms (rs.getD i (0, [])).2) = f at *
  clear hm hr hm2 hr2 hT b0 b1 b2 hB hW3
  go_enter Tryd.func19, Tryd.ntmps19
  go_wp2_with fail
  rw [← HW3.out]
  refine HBY.out.mono ?_
  rintro e x1 ⟨g, rfl, hg, hma, hb⟩
  have HM := Lib.hid hma
  have B2 := Lib.hid (chainN HB.out HB.out.size hb)
  have hsz := HB.out.size
  clear hma hb c1
  go_wp2_with fail
  go_ret
  exact ⟨g, rfl, by omega, HM.out.low hsz, B2.out⟩
end
section
/- Contracts of layer 3: Mul; the reference's bit. -/
set_option linter.unusedVariables false
set_option linter.unusedSimpArgs false
open Go.RowKit
theorem right_has64 {N : Nat} {us : List Nat} (h : rightB N us = true) : N ≤ 64 * us.length := by
  have := right_len_eq h
  rw [Int.toNat_natCast] at this
  unfold nw at this; omega
def mulB (N : Int) (ms : List (Int × List Nat)) (M : Int) (ks : List (Int × List Nat)) : Bool := rightM N ms && (rightM M ks && N == (ks.length : Int))
def mulN (N : Int) (ms : List (Int × List Nat)) (M : Int) (ks : List (Int × List Nat)) : Int := if mulB N ms M ks then M else 0
def mulL (N : Int) (ms : List (Int × List Nat)) (M : Int) (ks : List (Int × List Nat)) : List (Int × List Nat) := if mulB N ms M ks then mulM M.toNat ks ms else []
def mulE (N : Int) (ms : List (Int × List Nat)) (M : Int) (ks : List (Int × List Nat)) : Int := if rightM N ms && rightM M ks then if N == (ks.length : Int) then 0 else 2 else 1
set_option maxHeartbeats 4000000 in
theorem mul_any (N M : Int) (A : Option Addr) (l c lo : Nat) (ms : List (Int × List Nat)) (B : Option Addr) (k d lo2 : Nat) (ks : List (Int × List Nat)) (w : World) (hm : MatAt w lo A l ms) (hl : l ≤ maxLen) (hm2 : MatAt w lo2 B k ks) (hk : k ≤ maxLen) (hT : TabAt w 0) :
    Calls Tryd.prog 7 #[.agg #[.int .i64 N, .slice A l c], .agg #[.int .i64 M, .slice B k d]] w (MatRes (mulN N ms M ks) (mulL N ms M ks) (mulE N ms M ks) w) := by
  have Q0 := Lib.hid (((Box.new w 24 #[.int .i64 N, .slice A l c]).alloc (.cells #[.int .i64 M, .slice B k d] 24)).alloc (.cells #[.int .i64 0, .slice none 0 0] 24))
  have q1 := (Box.new (w.alloc (.cells #[.int .i64 N, .slice A l c] 24)) 24 #[.int .i64 M, .slice B k d]).alloc (.cells #[.int .i64 0, .slice none 0 0] 24)
  have q2 := Box.new ((w.alloc (.cells #[.int .i64 N, .slice A l c] 24)).alloc (.cells #[.int .i64 M, .slice B k d] 24)) 24 #[.int .i64 0, .slice none 0 0]
  have HW := Lib.hid (show Below w.heap.size w (((w.alloc (.cells #[.int .i64 N, .slice A l c] 24)).alloc (.cells #[.int .i64 M, .slice B k d] 24)).alloc (.cells #[.int .i64 0, .slice none 0 0] 24)) from (((Below.refl _ _).alloc (Nat.le_refl _) _).alloc (by simp) _).alloc (by simp; omega) _)
  simp only [World.size_alloc] at q1 q2
  have Q1 := Lib.hid q1
  have Q2 := Lib.hid q2
  have HM := Lib.hid (hm.below HW.out)
  have HM2 := Lib.hid (hm2.below HW.out)
  have HT := Lib.hid (hT.below HW.out)
  have HL := Lib.hid hm.1
  have HL2 := Lib.hid hm2.1
  have HR := Lib.hid (mright_any N A l c lo ms _ HM.out hl)
  clear q1 q2 hm hm2 hT
  obtain ⟨r0, r1, -, -⟩ := Q0.out.two
  cases h : rightM N ms with
  | false =>
    have e1 : mulN N ms M ks = 0 := by simp [mulN, mulB, h]
    have e2 : mulL N ms M ks = [] := by simp [mulL, mulB, h]
    have e3 : mulE N ms M ks = 1 := by simp [mulE, h]
    rw [e1, e2, e3]
    rw [h] at HR
    clear e1 e2 e3 h
    go_enter Tryd.func7, Tryd.ntmps7
    go_wp2_with fail
    refine HR.out.mono ?_
    rintro e w1 ⟨rfl, hb⟩
    have P := Lib.hid (Q2.out.keep hb)
    have B := Lib.hid (chainN HW.out HW.out.size hb)
    clear hb r0 r1
    obtain ⟨s0, s1, s2, s3⟩ := P.out.two
    go_wp2
    refine close_cell Tryd.results7 rfl rfl rfl P.out.put2 Tryd.underlying24 rfl (by kernel_rfl) ⟨_, _, rfl, MatAt.nil _ _ _, ?_⟩
    exact (B.out.setCell (p := ⟨w.heap.size + 1 + 1, 0, none⟩) (by simp; omega) _).setCell (p := ⟨w.heap.size + 1 + 1, 1, none⟩) (by simp; omega) _
  | true =>
    rw [h] at HR
    cases h2 : rightM M ks with
    | false =>
      have e1 : mulN N ms M ks = 0 := by simp [mulN, mulB, h2]
      have e2 : mulL N ms M ks = [] := by simp [mulL, mulB, h2]
      have e3 : mulE N ms M ks = 1 := by simp [mulE, h2]
      rw [e1, e2, e3]
      have HR2 := Lib.hid h2
      clear e1 e2 e3 h h2
      go_enter Tryd.func7, Tryd.ntmps7
      go_wp2_with fail
      refine HR.out.mono ?_
      rintro e w1 ⟨rfl, hb⟩
      have P0 := Lib.hid (Q1.out.keep hb)
      have P := Lib.hid (Q2.out.keep hb)
      have B0 := Lib.hid (chainN HW.out HW.out.size hb)
      have HX := Lib.hid (mright_any M B k d lo2 ks _ (HM2.out.below hb) hk)
      rw [HR2.out] at HX
      clear hb r0 r1
      obtain ⟨s0, s1, -, -⟩ := P0.out.two
      go_wp2_with fail
      refine HX.out.mono ?_
      rintro e w2 ⟨rfl, hb⟩
      have P := Lib.hid (P.out.keep hb)
      have B0 := Lib.hid (chainN B0.out B0.out.size hb)
      clear hb s0 s1
      obtain ⟨s0, s1, s2, s3⟩ := P.out.two
      go_wp2
      refine close_cell Tryd.results7 rfl rfl rfl P.out.put2 Tryd.underlying24 rfl (by kernel_rfl) ⟨_, _, rfl, MatAt.nil _ _ _, ?_⟩
      exact (B0.out.setCell (p := ⟨w.heap.size + 1 + 1, 0, none⟩) (by simp; omega) _).setCell (p := ⟨w.heap.size + 1 + 1, 1, none⟩) (by simp; omega) _
    | true =>
      have HR1 := Lib.hid h
      have HR2 := Lib.hid h2
      by_cases hN : N = k
      · subst hN
        have e0 : mulB k ms M ks = true := by simp [mulB, h, h2, HL2.out]
        have e1 : mulN k ms M ks = M := by simp [mulN, e0]
        have e2 : mulL k ms M ks = mulM M.toNat ks ms := by simp [mulL, e0]
        have e3 : mulE k ms M ks = 0 := by simp [mulE, h, h2, HL2.out]
        rw [e1, e2, e3]
        obtain ⟨m, rfl⟩ := Int.eq_ofNat_of_zero_le (rightM_bd h2).1
        rw [Int.toNat_natCast]
        have hl64 := (rightM_bd h).2.2
        rw [HL.out] at hl64
        have HTL := Lib.hid (show (mulM m ks ms).length = l by rw [mulM_len, HL.out])
        clear e0 e1 e2 e3 h h2
        have t1 : (((k : Nat) : Int) != ((k : Nat) : Int)) = false := by simp
        go_enter Tryd.func7, Tryd.ntmps7
        go_wp2_with fail
        refine HR.out.mono ?_
        rintro e w1 ⟨rfl, hb⟩
        have P0 := Lib.hid (Q0.out.keep hb)
        have P1 := Lib.hid (Q1.out.keep hb)
        have P := Lib.hid (Q2.out.keep hb)
        have B0 := Lib.hid (chainN HW.out HW.out.size hb)
        have HM := Lib.hid (HM.out.below hb)
        have HM2 := Lib.hid (HM2.out.below hb)
        have HT := Lib.hid (HT.out.below hb)
        have HX := Lib.hid (mright_any m B k d lo2 ks _ HM2.out hk)
        rw [HR2.out] at HX
        clear hb r0 r1 HR
        obtain ⟨s0, s1, -, -⟩ := P1.out.two
        go_wp2_with fail
        refine HX.out.mono ?_
        rintro e w2 ⟨rfl, hb⟩
        have P0 := Lib.hid (P0.out.keep hb)
        have P1 := Lib.hid (P1.out.keep hb)
        have P := Lib.hid (P.out.keep hb)
        have B0 := Lib.hid (chainN B0.out B0.out.size hb)
        have HM := Lib.hid (HM.out.below hb)
        have HM2 := Lib.hid (HM2.out.below hb)
        have HT := Lib.hid (HT.out.below hb)
        clear hb s0 s1 HX Q0 Q1 Q2 HW
        obtain ⟨s0, s1, -, -⟩ := P0.out.two
        obtain ⟨u0, u1, -, -⟩ := P1.out.two
        have HC := Lib.hid (rowsOf_any m B k d lo2 ks A l c lo ms w2.drew HM2.out.drew HR2.out HM.out.drew HR1.out (show TabAt w2.drew 0 from HT.out))
        have n1 : ¬ w.heap.size + 1 + 1 = w.heap.size := by omega
        have n2 : ¬ w.heap.size + 1 + 1 = w.heap.size + 1 := by omega
        go_wp2_with fail
        go_region_held3 (fun w' => w'.cell? ⟨w.heap.size, 1, none⟩ = some (.slice A l c) ∧ w'.cell? ⟨w.heap.size + 1, 0, none⟩ = some (.int .i64 m) ∧ w'.cell? ⟨w.heap.size + 1, 1, none⟩ = some (.slice B k d)) (go_keep)
          (first
            | (go_at_call 19; refine HC.out.mono ?_; rintro e2 x1 ⟨g, rfl, hg, hma, hb⟩; have P2 := Lib.hid (P.out.drew.keep hb); have B2 := Lib.hid (chainN B0.out.drew B0.out.size hb); have HM3 := Lib.hid hma; obtain ⟨t0, t1', -, -⟩ := (P0.out.drew.keep hb).two; obtain ⟨v0, v1, -, -⟩ := (P1.out.drew.keep hb).two; clear hb hma; obtain ⟨z0, z1, z2, z3⟩ := P2.out.two))
        have hz : w.heap.size + 1 + 1 < w2.heap.size := P.out.lt
        go_wp2_with fail
        refine close_cell Tryd.results7 rfl rfl rfl P2.out.put2 Tryd.underlying24 rfl (by kernel_rfl) ⟨some ⟨g, 0, none⟩, l, by rw [HTL.out]; rfl, ?_, (B2.out.setCell (p := ⟨w.heap.size + 1 + 1, 0, none⟩) (by simp; omega) _).setCell (p := ⟨w.heap.size + 1 + 1, 1, none⟩) (by simp; omega) _⟩
        rw [HTL.out]
        have h := (HM3.out.put2 (y := (m : Int)) P2.out (show w.heap.size + 1 + 1 < w2.drew.heap.size from hz) (.slice (some ⟨g, 0, none⟩) l l)).low (l2 := w.heap.size) (show w.heap.size ≤ w2.heap.size by omega)
        unfold mulM; rw [HL.out]
        exact h
      · have e1 : mulN N ms M ks = 0 := by simp [mulN, mulB, HL2.out, hN]
        have e2 : mulL N ms M ks = [] := by simp [mulL, mulB, HL2.out, hN]
        have e3 : mulE N ms M ks = 2 := by simp [mulE, h, h2, HL2.out, hN]
        rw [e1, e2, e3]
        have t1 : (N != (k : Int)) = true := by simpa using hN
        clear e1 e2 e3 h h2 hN
        go_enter Tryd.func7, Tryd.ntmps7
        go_wp2_with fail
        refine HR.out.mono ?_
        rintro e w1 ⟨rfl, hb⟩
        have P0 := Lib.hid (Q0.out.keep hb)
        have P1 := Lib.hid (Q1.out.keep hb)
        have P := Lib.hid (Q2.out.keep hb)
        have B0 := Lib.hid (chainN HW.out HW.out.size hb)
        have HX := Lib.hid (mright_any M B k d lo2 ks _ (HM2.out.below hb) hk)
        rw [HR2.out] at HX
        clear hb r0 r1 HR
        obtain ⟨s0, s1, -, -⟩ := P1.out.two
        go_wp2_with fail
        refine HX.out.mono ?_
        rintro e w2 ⟨rfl, hb⟩
        have P0 := Lib.hid (P0.out.keep hb)
        have P1 := Lib.hid (P1.out.keep hb)
        have P := Lib.hid (P.out.keep hb)
        have B0 := Lib.hid (chainN B0.out B0.out.size hb)
        clear hb s0 s1
        obtain ⟨s0, s1, s2, s3⟩ := P.out.two
        obtain ⟨u0, u1, -, -⟩ := P0.out.two
        obtain ⟨v0, v1, -, -⟩ := P1.out.two
        go_wp2
        refine close_cell Tryd.results7 rfl rfl rfl P.out.put2 Tryd.underlying24 rfl (by kernel_rfl) ⟨_, _, rfl, MatAt.nil _ _ _, ?_⟩
        exact (B0.out.setCell (p := ⟨w.heap.size + 1 + 1, 0, none⟩) (by simp; omega) _).setCell (p := ⟨w.heap.size + 1 + 1, 1, none⟩) (by simp; omega) _
set_option maxHeartbeats 4000000 in
theorem refBitM_any (M i : Nat) (C : Option Addr) (lc cc : Nat) (us : List Nat) (B : Option Addr) (k d lo2 : Nat) (ks : List (Int × List Nat)) (w : World) (hu : Words w C lc us) (hru : rightB (k : Int) us = true) (hm2 : MatAt w lo2 B k ks) (hr2 : rightM M ks = true) (hi : i < M) :
    Calls Tryd.prog 25 #[.agg #[.int .i64 k, .slice C lc cc], .agg #[.int .i64 M, .slice B k d], .int .i64 i] w fun e w' => e = .returned (.int .i64 ((psum us ks i ks.length % 2 : Nat) : Int)) ∧ Below w.heap.size w w' := by
  have hk64 := (rightM_bd hr2).2.2
  rw [hm2.1] at hk64 ⊢
  have HL := Lib.hid hm2.1
  have HR2 := Lib.hid hr2
  have hk8 := right_has64 hru
  rw [hu.1] at hk8
  have hl8 := rightB_len8 hru hu.1
  have Q0 := Lib.hid ((Box.new w 45 #[.int .i64 k, .slice C lc cc]).alloc (.cells #[.int .i64 M, .slice B k d] 24))
  have q1 := Box.new (w.alloc (.cells #[.int .i64 k, .slice C lc cc] 45)) 24 #[.int .i64 M, .slice B k d]
  have HW := Lib.hid (show Below w.heap.size w ((w.alloc (.cells #[.int .i64 k, .slice C lc cc] 45)).alloc (.cells #[.int .i64 M, .slice B k d] 24)) from ((Below.refl _ _).alloc (Nat.le_refl _) _).alloc (by simp) _)
  simp only [World.size_alloc] at q1
  have Q1 := Lib.hid q1
  have HU := Lib.hid hu
  have HM := Lib.hid hm2
  clear q1 hm2 hr2 hu hru
  obtain ⟨r0, r1, -, -⟩ := Q1.out.two
  go_enter Tryd.func25, Tryd.ntmps25
  go_wp2_with fail
  clear r0 r1
  go_loopw [7, 13] (fun o t wr => ∃ j : Nat, j ≤ k ∧ t = .int .i64 j ∧ o = .int .i64 (psum us ks i j : Nat) ∧ Box wr w.heap.size 45 #[.int .i64 k, .slice C lc cc] ∧ Below w.heap.size w wr) (fun _ t _ => k - (intOf t).toNat)
  case atStart => exact ⟨0, by omega, rfl, rfl, Q0.out, HW.out⟩
  case round =>
    obtain ⟨j, hj, rfl, rfl, hb0, hbel⟩ := hrel
    have R0 := Lib.hid hb0
    have RB := Lib.hid hbel
    clear hb0 hbel Q0 Q1 HW
    by_cases hlt : j < k
    · have hlt' : (j : Int) < (k : Int) := by omega
      obtain ⟨g1, o1, B1, k1, e1, rfl, hg1, x1, y1, s1, u1⟩ := (HM.out.mono (Nat.le_refl _) RB.out).at j hlt
      obtain ⟨hN, hrr⟩ := rightM_at HR2.out j (by rw [HL.out]; exact hlt)
      rw [hN] at x1
      have HS := Lib.hid (show psum us ks i (j + 1) = psum us ks i j + bitAt us j * bitAt (ks.getD j (0, [])).2 i from rfl)
      have hps := psum_le us ks i j
      have hb1 := right_has64 hrr
      rw [u1.1] at hb1
      have hb8 := rightB_len8 hrr u1.1
      have R1 := Lib.hid (R0.out.alloc (.cells #[.int .i64 M, .slice B1 k1 e1] 45))
      have R2 := Lib.hid (Box.new wr 45 #[.int .i64 M, .slice B1 k1 e1])
      have RB1 := Lib.hid (RB.out.alloc RB.out.size (.cells #[.int .i64 M, .slice B1 k1 e1] 45))
      have HC1 := Lib.hid (bit_any k C lc cc j us (wr.alloc (.cells #[.int .i64 M, .slice B1 k1 e1] 45)).drew (((HU.out.mono (Nat.le_refl _) RB.out).alloc _).drew) (by omega) (by omega))
      have HW1 := Lib.hid ((u1.alloc (.cells #[.int .i64 M, .slice B1 k1 e1] 45)).drew)
      have hbl1 := bitAt_le us j
      have hbl2 := bitAt_le (ks.getD j (0, [])).2 i
      have HC2 := Lib.hid (fun W (h : Words W B1 k1 (ks.getD j (0, [])).2) => bit_any M B1 k1 e1 i (ks.getD j (0, [])).2 W h (by omega) (by omega))
      clear hN hrr u1 s1
      generalize bitAt us j = x at *
      generalize bitAt (ks.getD j (0, [])).2 i = y at *
      generalize psum us ks i j = s at *
      have hxy : x * y ≤ 1 := by rcases hbl1 with h | h <;> rcases hbl2 with h' | h' <;> rw [h, h'] <;> omega
      have g1' : IntKind.i64.wrap ((x : Int) * (y : Int)) = ((x * y : Nat) : Int) := by
        rw [← Int.natCast_mul]
        exact IntWalk.i64_in _ (by omega)
      have g2' : IntKind.i64.wrap ((s : Int) + ((x * y : Nat) : Int)) = ((s + x * y : Nat) : Int) := by
        rw [← Int.natCast_add]
        exact IntWalk.i64_in _ (by omega)
      have HG2 := Lib.hid (show IntKind.i64.wrap ((s : Int) + (x : Int) * (y : Int)) = ((s + x * y : Nat) : Int) by rw [← g2', Int.natCast_mul])
      obtain ⟨a0, a1, -, -⟩ := R1.out.two
      obtain ⟨d0, d1, -, -⟩ := R2.out.two
      have LR := Lib.hid R2.out.lt
      clear hbl1 hbl2
      go_wp2_with fail
      go_region_held3 (fun w' => w'.cell? ⟨w.heap.size, 0, none⟩ = some (.int .i64 k) ∧ w'.cell? ⟨w.heap.size, 1, none⟩ = some (.slice C lc cc) ∧ w'.cell? ⟨wr.heap.size, 0, none⟩ = some (.int .i64 M) ∧ w'.cell? ⟨wr.heap.size, 1, none⟩ = some (.slice B1 k1 e1)) (go_keep)
        (first
          | (go_at_call_of 43 (Value.int .i64 (j : Int)); refine HC1.out.mono ?_; rintro f1 y5 ⟨rfl, hb⟩; have S1 := Lib.hid (R1.out.drew.keep hb); have S2 := Lib.hid (R2.out.drew.keep hb); have SB := Lib.hid (chainN RB1.out.drew RB1.out.size hb); have HW2 := Lib.hid (HW1.out.below hb); clear hb; obtain ⟨m0, m1, -, -⟩ := S1.out.two; obtain ⟨m2, m3, -, -⟩ := S2.out.two)
          | (go_at_call 43; refine (HC2.out _ HW2.out).mono ?_; rintro f2 y6 ⟨rfl, hb⟩; have S3 := Lib.hid (S1.out.keep hb); have S4 := Lib.hid (S2.out.keep hb); have SB2 := Lib.hid (chainN SB.out SB.out.size hb); clear hb; obtain ⟨m4, m5, -, -⟩ := S3.out.two; obtain ⟨m6, m7, -, -⟩ := S4.out.two))
      go_wp2_with fail
      go_roundw
      case rel => exact ⟨j + 1, by omega, by go_num, by rw [HS.out, HG2.out], S3.out, SB2.out⟩
      case measure => simp [intOf] <;> omega
    · obtain rfl : k = j := by omega
      have hlt' : ¬ (k : Int) < (k : Int) := by omega
      have hps := psum_le us ks i k
      go_wp2_with fail
      go_ret
      exact ⟨rfl, RB.out⟩
end
section
/- Layer 3's reference: Mul. -/
set_option linter.unusedVariables false
set_option linter.unusedSimpArgs false
open Go.RowKit
set_option maxRecDepth 100000 in
set_option maxHeartbeats 8000000 in
theorem refMul_any (k M : Nat) (A : Option Addr) (l c lo : Nat) (ms : List (Int × List Nat)) (B : Option Addr) (d lo2 : Nat) (ks : List (Int × List Nat)) (w : World) (hm : MatAt w lo A l ms) (hr : rightM k ms = true) (hm2 : MatAt w lo2 B k ks) (hr2 : rightM M ks = true) :
    Calls Tryd.prog 12 #[.agg #[.int .i64 k, .slice A l c], .agg #[.int .i64 M, .slice B k d]] w (MatOne M (mulM M ks ms) w) := by
  obtain ⟨i0, hi, hz0, hz1, hz2⟩ := info_parts row_infoM
  have HI := Lib.hid hi
  have HZ0 := Lib.hid hz0
  have HZ1 := Lib.hid hz1
  have HZ2 := Lib.hid hz2
  clear hi hz0 hz1 hz2
  obtain ⟨j0, hi, hz0, hz1, hz2⟩ := info_parts int_infoM
  have JI := Lib.hid hi
  have JZ0 := Lib.hid hz0
  have JZ1 := Lib.hid hz1
  have JZ2 := Lib.hid hz2
  clear hi hz0 hz1 hz2
  have hl := (rightM_bd hr).2.2
  rw [hm.1] at hl
  have hM64 := (rightM_bd hr2).2.1
  have HR := Lib.hid hr
  have HR2 := Lib.hid hr2
  have HM := Lib.hid hm
  have HM2 := Lib.hid hm2
  have HL := Lib.hid hm.1
  have HL2 := Lib.hid hm2.1
  have HZ := Lib.hid (fun i j => hm2.lt i j)
  clear hm hr hm2 hr2
  have Q1 := Lib.hid (show Box ((((w.alloc (.cells #[.int .i64 k, .slice A l c] 24)).alloc (.cells #[.int .i64 M, .slice B k d] 24)).alloc (.cells #[.int .i64 0, .slice none 0 0] 24)).alloc (.cells #[.int .i64 M, .slice none 0 0] 24)) (w.heap.size + 1) 24 #[.int .i64 M, .slice B k d] from by
    have := ((Box.new (w.alloc (.cells #[.int .i64 k, .slice A l c] 24)) 24 #[.int .i64 M, .slice B k d]).alloc (.cells #[.int .i64 0, .slice none 0 0] 24)).alloc (.cells #[.int .i64 M, .slice none 0 0] 24)
    simpa only [World.size_alloc] using this)
  have Q2 := Lib.hid (show Box ((((w.alloc (.cells #[.int .i64 k, .slice A l c] 24)).alloc (.cells #[.int .i64 M, .slice B k d] 24)).alloc (.cells #[.int .i64 0, .slice none 0 0] 24)).alloc (.cells #[.int .i64 M, .slice none 0 0] 24)) (w.heap.size + 1 + 1) 24 #[.int .i64 0, .slice none 0 0] from by
    have := (Box.new ((w.alloc (.cells #[.int .i64 k, .slice A l c] 24)).alloc (.cells #[.int .i64 M, .slice B k d] 24)) 24 #[.int .i64 0, .slice none 0 0]).alloc (.cells #[.int .i64 M, .slice none 0 0] 24)
    simpa only [World.size_alloc] using this)
  have Q3 := Lib.hid (show Box ((((w.alloc (.cells #[.int .i64 k, .slice A l c] 24)).alloc (.cells #[.int .i64 M, .slice B k d] 24)).alloc (.cells #[.int .i64 0, .slice none 0 0] 24)).alloc (.cells #[.int .i64 M, .slice none 0 0] 24)) (w.heap.size + 1 + 1 + 1) 24 #[.int .i64 M, .slice none 0 0] from by
    have := Box.new (((w.alloc (.cells #[.int .i64 k, .slice A l c] 24)).alloc (.cells #[.int .i64 M, .slice B k d] 24)).alloc (.cells #[.int .i64 0, .slice none 0 0] 24)) 24 #[.int .i64 M, .slice none 0 0]
    simpa only [World.size_alloc] using this)
  have HW := Lib.hid (show Below w.heap.size w ((((w.alloc (.cells #[.int .i64 k, .slice A l c] 24)).alloc (.cells #[.int .i64 M, .slice B k d] 24)).alloc (.cells #[.int .i64 0, .slice none 0 0] 24)).alloc (.cells #[.int .i64 M, .slice none 0 0] 24)) from ((((Below.refl _ _).alloc (Nat.le_refl _) _).alloc (by simp) _).alloc (by simp; omega) _).alloc (by simp; omega) _)
  have b0 := (((Box.new (w.alloc (.cells #[.int .i64 k, .slice A l c] 24)) 24 #[.int .i64 M, .slice B k d]).alloc (.cells #[.int .i64 0, .slice none 0 0] 24))).two.1
  have a1 := ((((Box.new w 24 #[.int .i64 k, .slice A l c]).alloc (.cells #[.int .i64 M, .slice B k d] 24)).alloc (.cells #[.int .i64 0, .slice none 0 0] 24)).alloc (.cells #[.int .i64 M, .slice none 0 0] 24)).two.2.1
  simp only [World.size_alloc] at b0
  go_enter Tryd.func12, Tryd.ntmps12
  go_wp2_with fail
  clear b0 a1
  go_loopw [16] (fun t wr => ∃ (i : Nat) (v : Value), i ≤ l ∧ t = .int .i64 i ∧ Box wr (w.heap.size + 1 + 1 + 1) 24 #[.int .i64 M, v] ∧ RowsW wr w.heap.size v ((mulM M ks ms).take i) ∧ Box wr (w.heap.size + 1) 24 #[.int .i64 M, .slice B k d] ∧ Box wr (w.heap.size + 1 + 1) 24 #[.int .i64 0, .slice none 0 0] ∧ Below w.heap.size w wr) (fun t _ => l - (intOf t).toNat)
  case atStart => exact ⟨0, _, by omega, rfl, Q3.out, RowsW.nil _ _, Q1.out, Q2.out, HW.out⟩
  case round =>
    obtain ⟨i, v, hi, rfl, B3, hmat, B1, B2, hbel⟩ := hrel
    have R3 := Lib.hid B3
    have R2 := Lib.hid B2
    have R1 := Lib.hid B1
    have HMa := Lib.hid hmat
    have HB := Lib.hid hbel
    clear B3 B2 B1 hmat hbel Q1 Q2 Q3 HW
    by_cases hlt : i < l
    · have hlt' : (i : Int) < (l : Int) := by omega
      obtain ⟨g1, o1, C1, k1, e1, rfl, hg1, x1, y1, s1, u1⟩ := (HM.out.mono (Nat.le_refl _) HB.out).at i hlt
      obtain ⟨hN, hrr⟩ := rightM_at HR.out i (by rw [HL.out]; exact hlt)
      rw [hN] at x1
      have HTK := Lib.hid (mulM_take M ks ms i (by rw [HL.out]; exact hlt))
      have HU := Lib.hid u1
      have HRR := Lib.hid hrr
      clear hN hrr s1 u1
      generalize (ms.getD i (0, [])).2 = us at *
      rename World => W1
      have HO0 := own_empty (W1.alloc (.cells #[.int .i64 k, .slice C1 k1 e1] 45)) W1.heap.size 3 (by simp)
      simp only [World.size_alloc] at HO0
      have HOw := Lib.hid HO0
      have RR := Lib.hid ((Box.new W1 45 #[.int .i64 k, .slice C1 k1 e1]).alloc (.cells #[] 3))
      have HWi := Lib.hid (show Below W1.heap.size W1 ((W1.alloc (.cells #[.int .i64 k, .slice C1 k1 e1] 45)).alloc (.cells #[] 3)) from ((Below.refl _ _).alloc (Nat.le_refl _) _).alloc (by simp) _)
      obtain ⟨d0, d1, -, -⟩ := R1.out.two
      clear HO0
      go_wp2_with fail
      clear d0 d1
      go_loopw [8, 9] (fun v t wr => ∃ q : Nat, q ≤ M ∧ t = .int .i64 q ∧ wr.ownsRow W1.heap.size 3 1 v q ((mulZ us ks q).map (Value.int .i64)) ∧ Box wr W1.heap.size 45 #[.int .i64 k, .slice C1 k1 e1] ∧ Hid (Below W1.heap.size W1 wr)) (fun _ t _ => M - (intOf t).toNat)
      case atStart => exact ⟨0, by omega, rfl, HOw.out, RR.out, HWi⟩
      case round =>
        obtain ⟨q, hq, rfl, hown, hbr, HBs⟩ := hrel
        have HO := Lib.hid hown
        have SR := Lib.hid hbr
        clear hown hbr HOw RR HWi
        have S1 := Lib.hid (R1.out.keep HBs.out)
        obtain ⟨d0, d1, -, -⟩ := S1.out.two
        by_cases hkl : q < M
        · have hkl' : (q : Int) < (M : Int) := by omega
          have HS := Lib.hid (mulZ_succ us ks q)
          obtain ⟨p0, p1, -, -⟩ := SR.out.two
          have HBit := Lib.hid (refBitM_any M q C1 k1 e1 us B k d lo2 ks wr (HU.out.below HBs.out) HRR.out ((HM2.out.mono (Nat.le_refl _) HB.out).below HBs.out) HR2.out hkl)
          generalize psum us ks q ks.length % 2 = bt at *
          go_wp2_with fail
          refine HBit.out.mono ?_
          rintro e x1 ⟨rfl, hb⟩
          have XO := Lib.hid (own_keep HO.out hb)
          have XR := Lib.hid (SR.out.keep hb)
          have XB := Lib.hid (chainN HBs.out HBs.out.size hb)
          clear hb p0 p1 HBit d0 d1
          have YO := Lib.hid (XO.out.alloc (.cells #[.int .i64 bt] 3))
          have YR := Lib.hid (XR.out.alloc (.cells #[.int .i64 bt] 3))
          have YB := Lib.hid (XB.out.alloc XB.out.size (.cells #[.int .i64 bt] 3))
          have N1 := Lib.hid (own_ne YO.out YR.out (by decide))
          have N2 := Lib.hid (fun k hk => (XO.out.lt k hk).1)
          have hi' := JI.out
          have hz0' := JZ0.out
          have hz1' := JZ1.out
          have hz2' := JZ2.out
          go_wp2_with (at_builtin; refine wpList_append_own _ rfl _ _ 55 rfl W1.heap.size 3 j0 (.int .i64 0) 1 8 Tryd.underlying55 hi' hz0' hz1' hz2' rfl (by decide) _ _ _ rfl YO.out ⟨x1.heap.size, 0, none⟩ 1 1 [.int .i64 bt] rfl rfl (cell_one_new _ _ _) (by simp [Value.oneCell']) (by simp [maxLen]; omega) (by omega) YB.out.size ?_; intro v' w1 hown' hgrow _; have ZR := Lib.hid (YR.out.grown hgrow N1.out); have ZB := Lib.hid (YB.out.grown hgrow YB.out.size N2.out); have HO2 := Lib.hid hown'; clear hown' hgrow)
          go_roundw
          case rel =>
            refine ⟨q + 1, by omega, by go_num, ?_, ZR.out, ZB⟩
            rw [HS.out, List.map_append]
            exact HO2.out
          case measure => simp [intOf] <;> omega
        · obtain rfl : M = q := by omega
          have hkl' : ¬ (M : Int) < (M : Int) := by omega
          obtain ⟨A', c', rfl, hA'⟩ := own_form HO.out
          have HTL := Lib.hid (show ((mulM M ks ms).take i).length = i by rw [List.length_take, mulM_len, HL.out]; omega)
          have R1 := Lib.hid (R1.out.keep HBs.out)
          have R2 := Lib.hid (R2.out.keep HBs.out)
          have R3 := Lib.hid (R3.out.keep HBs.out)
          have HMa := Lib.hid (HMa.out.below HBs.out)
          have HB := Lib.hid (chainN HB.out HB.out.size HBs.out)
          obtain ⟨a0, a1, f0, f1⟩ := R3.out.two
          obtain ⟨rs, hr1, hr2, hr3⟩ := HMa.out
          rw [HTL.out] at hr1 hr2 hr3
          have HOW := Lib.hid hr2
          have HRS := Lib.hid hr3
          clear hr2 hr3
          have HIN := Lib.hid (show Ints wr.drew A' M (mulZ us ks M) from own_ints HO.out (mulZ_bound us ks M))
          have HFC := Lib.hid (from_mul HR2.out HZ.out us)
          go_wp2_with fail
          go_region_law (first
            | (go_simp; go_at_call 26; refine (from_own A' M c' _ _ HIN.out (by omega)).mono ?_; rw [HFC.out]; rintro e1 x1 ⟨A1, l1, c1, rfl, hw, hb⟩; have S3 := Lib.hid (R3.out.drew.keep hb); have S1 := Lib.hid (R1.out.drew.keep hb); have S2 := Lib.hid (R2.out.drew.keep hb); have SO := Lib.hid (own_keep (own_drewM HOW.out) hb); have SR := Lib.hid (fun j hj => And.intro (HRS.out j hj).1 ((HRS.out j hj).2.drew.below hb)); have SB := Lib.hid (chainN HB.out.drew HB.out.size hb); have SW := Lib.hid hw; clear hb hw; have T3 := Lib.hid (S3.out.alloc (.cells #[.int .i64 M, .slice A1 l1 c1] 45)); obtain ⟨s0, s1, sf0, sf1⟩ := S3.out.two; obtain ⟨t0, t1, tf0, tf1⟩ := T3.out.two; have hb0 := SB.out.size; have hn0 := SO.out.lt)
            | (refine step_append_lies _ rfl (.tmp 35) (.tmp 38) 22 rfl w.heap.size 45 i0 (.agg #[.int .i64 0, .slice none 0 0]) 2 32 Tryd.underlying22 HI.out HZ0.out HZ1.out HZ2.out rfl (by decide) v i (rowCells rs) (by simp [Act.eval, Act.put]) (World.ownsRow.alloc SO.out (.cells #[.int .i64 M, .slice A1 l1 c1] 45)) ⟨x1.heap.size, 0, none⟩ 1 1 [.int .i64 M, .slice A1 l1 c1] (by simp [Act.eval, Act.put]) rfl (World.news_of_block (Box.new x1 45 #[.int .i64 M, .slice A1 l1 c1])) (by simp [Value.oneCell']) (by omega) (by simp [maxLen]; omega) (by omega) (by simp; omega) _ rfl ?_; intro g cap w1 hown hgrow _ _; have V3 := Lib.hid (T3.out.grown hgrow (own_ne SO.out S3.out (by decide))); have HO2 := Lib.hid hown; have HG := Lib.hid hgrow; clear hown hgrow; obtain ⟨v0, v1, vf0, vf1⟩ := V3.out.two))
          all_goals
            have W1' := Lib.hid ((S1.out.alloc (.cells #[.int .i64 M, .slice A1 l1 c1] 45)).grown HG.out (own_ne SO.out S1.out (by decide)))
            have W2' := Lib.hid ((S2.out.alloc (.cells #[.int .i64 M, .slice A1 l1 c1] 45)).grown HG.out (own_ne SO.out S2.out (by decide)))
            have WB := Lib.hid ((SB.out.alloc SB.out.size (.cells #[.int .i64 M, .slice A1 l1 c1] 45)).grown HG.out (SB.out.alloc SB.out.size (.cells #[.int .i64 M, .slice A1 l1 c1] 45)).size (fun k hk => (SO.out.lt k hk).1))
            have WR := Lib.hid (fun j hj => And.intro (SR.out j hj).1 (OwnW.grown ((SR.out j hj).2.alloc (.cells #[.int .i64 M, .slice A1 l1 c1] 45)) (World.ownsRow.alloc SO.out (.cells #[.int .i64 M, .slice A1 l1 c1] 45)) (by decide) HG.out))
            have WW := Lib.hid (OwnW.grown (SW.out.alloc (.cells #[.int .i64 M, .slice A1 l1 c1] 45)) (World.ownsRow.alloc SO.out (.cells #[.int .i64 M, .slice A1 l1 c1] 45)) (by decide) HG.out)
            have WM := Lib.hid (RowsW.snoc HTL.out hr1 HO2.out WR.out WW.out)
            clear HG SO SR SB SW S1 S2 S3 T3 HOW HRS HO2 WR WW HMa R3 R2 R1 HB
            go_wp2_with fail
            go_roundw
            case rel => exact ⟨i + 1, _, by omega, by go_num, V3.out.put 1 _, by rw [HTK.out]; exact WM.out.far V3.out (by decide) (by decide) 1 _, W1'.out.far (p := ⟨w.heap.size + 1 + 1 + 1, 1, none⟩) (by simp <;> omega) _, W2'.out.far (p := ⟨w.heap.size + 1 + 1 + 1, 1, none⟩) (by simp <;> omega) _, WB.out.setCell (p := ⟨w.heap.size + 1 + 1 + 1, 1, none⟩) (by simp <;> omega) _⟩
            case measure => simp [intOf] <;> omega
    · obtain rfl : l = i := by omega
      have hlt' : ¬ (l : Int) < (l : Int) := by omega
      have HTK := Lib.hid (show (mulM M ks ms).take l = mulM M ks ms from List.take_of_length_le (by rw [mulM_len, HL.out]; omega))
      rw [HTK.out] at HMa
      have HLT := Lib.hid (mulM_lt M ms HZ.out)
      have hm := HMa.out.far R2.out (by decide) (by decide) 0 (.int .i64 M)
      obtain ⟨A', c', rfl, hcc, -⟩ := HMa.out.mat HLT.out
      have HX := Lib.hid ((hm.far (R2.out.put 0 (.int .i64 M)) (by decide) (by decide) 1 (.slice A' (mulM M ks ms).length c')).mat HLT.out)
      clear hm
      obtain ⟨d0, d1, -, -⟩ := R3.out.two
      obtain ⟨b0, b1, f0, f1⟩ := R2.out.two
      go_wp2
      obtain ⟨A2, c2, hv, -, hx⟩ := HX.out
      injection hv with e1 e2 e3
      subst e1 e3
      refine close_one Tryd.results12 rfl rfl R2.out.put2 Tryd.underlying24 rfl (by kernel_rfl) ⟨A', c', rfl, hx, ?_⟩
      exact (HB.out.setCell (p := ⟨w.heap.size + 1 + 1, 0, none⟩) (by simp; omega) _).setCell (p := ⟨w.heap.size + 1 + 1, 1, none⟩) (by simp; omega) _
end
section
/- Contracts of layer 2: block.allHave, block.put. -/
set_option linter.unusedVariables false
set_option linter.unusedSimpArgs false
open Go.RowKit
/-- Texts in memory: a slice of strings. -/
def Texts (w : World) (A : Option Addr) (len : Nat) (ss : List ByteArray) : Prop :=
  ss.length = len ∧ (∀ j, (ss.getD j ByteArray.empty).size ≤ maxLen) ∧
    (0 < len → ∃ b off, A = some ⟨b, off, none⟩ ∧ b < w.heap.size ∧ ∀ j, j < len → w.cell? ⟨b, off + j, none⟩ = some (.string (ss.getD j ByteArray.empty)))
theorem Texts.mono {w w' : World} {A : Option Addr} {len : Nat} {ss : List ByteArray} (h : Texts w A len ss) {B : Nat} (hB : w.heap.size ≤ B) (hb : Below B w w') : Texts w' A len ss := by
  refine ⟨h.1, h.2.1, fun hp => ?_⟩
  obtain ⟨b, off, rfl, hlt, hc⟩ := h.2.2 hp
  exact ⟨b, off, rfl, Nat.lt_of_lt_of_le hlt hb.size, fun j hj => (hb.cell (p := ⟨b, off + j, none⟩) (Nat.lt_of_lt_of_le hlt hB)).trans (hc j hj)⟩
theorem Texts.below {w w' : World} {A : Option Addr} {len : Nat} {ss : List ByteArray} (h : Texts w A len ss) (hb : Below w.heap.size w w') : Texts w' A len ss := h.mono (Nat.le_refl _) hb
theorem Texts.nil (w : World) (A : Option Addr) : Texts w A 0 [] := ⟨rfl, by simp [maxLen], fun h => by omega⟩
/-- Have all texts n bytes? -/
def allL (n : Int) (ss : List ByteArray) : Bool := ss.all fun s => (s.size : Int) == n
theorem allL_snoc (n : Int) (ss : List ByteArray) (j : Nat) (h : j < ss.length) : allL n (ss.take (j + 1)) = (allL n (ss.take j) && (((ss.getD j ByteArray.empty).size : Int) == n)) := by
  unfold allL
  rw [List.take_succ_eq_append_getElem h, List.all_append]
  simp [List.getD, h]
theorem allL_not (n : Int) (ss : List ByteArray) (j : Nat) (h : j < ss.length) (hz : ¬ ((ss.getD j ByteArray.empty).size : Int) = n) : allL n ss = false := by
  rw [Bool.eq_false_iff]
  intro ha
  have := List.all_eq_true.1 ha (ss[j]) (List.getElem_mem _)
  exact hz (by simpa [List.getD, h] using this)
theorem allHave_any (n : Int) (A : Option Addr) (l c : Nat) (ss : List ByteArray) (w : World) (ht : Texts w A l ss) (hl : l ≤ maxLen) :
    Calls Tryd.prog 39 #[.int .i64 n, .slice A l c] w fun e w' => e = .returned (.bool (allL n ss)) ∧ w = w' := by
  unfold maxLen at hl
  have hlen := Lib.hid ht.1
  have HT := Lib.hid ht
  clear ht
  go_enter Tryd.func39, Tryd.ntmps39
  go_wp2_with fail
  go_loop [9] (fun i => ∃ k : Nat, k ≤ l ∧ i = .int .i64 k ∧ Hid (allL n (ss.take k) = true)) (fun i => l - (intOf i).toNat)
  case atStart => exact ⟨0, by omega, rfl, Lib.hid (by simp [allL])⟩
  case round =>
    obtain ⟨k, hk, rfl, HN⟩ := hrel
    by_cases hlt : k < l
    · obtain ⟨b, off, rfl, hb, hc⟩ := HT.out.2.2 (by omega)
      have c1 := hc k hlt
      have hm := HT.out.2.1 k
      have HS := Lib.hid (allL_snoc n ss k (by rw [hlen.out]; exact hlt))
      have HNO := Lib.hid (allL_not n ss k (by rw [hlen.out]; exact hlt))
      generalize ss.getD k ByteArray.empty = s at *
      unfold maxLen at hm
      clear hc
      by_cases hz : (s.size : Int) = n
      · have t : ((s.size : Int) != n) = false := by simpa using hz
        have HZ := Lib.hid hz
        clear hz
        go_wp2
        go_round
        case rel => exact ⟨k + 1, by omega, by go_num, Lib.hid (by rw [HS.out, HN.out, HZ.out]; simp)⟩
        case measure => simp [intOf]; omega
      · have t : ((s.size : Int) != n) = true := by simpa using hz
        go_wp2
        go_ret
        exact ⟨by rw [HNO.out hz]; rfl, rfl⟩
    · obtain rfl : k = l := by omega
      have HE := Lib.hid (show allL n ss = true by have := HN.out; rwa [List.take_of_length_le (by rw [hlen.out]; omega)] at this)
      go_wp2
      go_ret
      exact ⟨by rw [HE.out]; rfl, rfl⟩
def mixL (l t : List UInt8) (j : Nat) : List UInt8 := (List.range l.length).map fun i => if i < j then l.getD i 0 ^^^ t.getD i 0 else l.getD i 0
def bxL (l t : List UInt8) : List UInt8 := (List.range l.length).map fun i => l.getD i 0 ^^^ t.getD i 0
theorem mixL_length (l t : List UInt8) (j : Nat) : (mixL l t j).length = l.length := by simp [mixL]
theorem xorL_length (l t : List UInt8) : (bxL l t).length = l.length := by simp [bxL]
theorem mixL_zero (l t : List UInt8) : mixL l t 0 = l := by
  apply List.ext_getElem
  · simp [mixL]
  · intro i h1 h2; simp [mixL, List.getD, h2]
theorem mixL_full (l t : List UInt8) (n : Nat) (h : l.length = n) : mixL l t n = bxL l t := by
  subst h
  apply List.ext_getElem
  · simp [mixL, bxL]
  · intro i h1 h2
    have : i < l.length := by simpa [bxL] using h2
    simp [mixL, bxL, this]
theorem mixL_get (l t : List UInt8) (j : Nat) (h : j < l.length) : (mixL l t j).getD j 0 = l.getD j 0 := by
  simp [mixL, List.getD, h]
theorem mixL_set (l t : List UInt8) (j : Nat) (h : j < l.length) : (mixL l t j).set j (l.getD j 0 ^^^ t.getD j 0) = mixL l t (j + 1) := by
  apply List.ext_getElem
  · simp [mixL]
  · intro i h1 h2
    have hi : i < l.length := by simpa [mixL] using h2
    rw [List.getElem_set]
    by_cases e : j = i
    · subst e; simp [mixL, List.getD, h]
    · rw [if_neg e]
      have e2 : (i < j + 1) = (i < j) := by apply propext; omega
      simp [mixL, e2]
theorem xor_u8 (a b : UInt8) : bits BinOp.xor IntKind.u8 (a.toNat : Int) (b.toNat : Int) = ((a ^^^ b).toNat : Int) := by
  have ha := a.toNat_lt
  have hb := b.toNat_lt
  rw [u8_xor_nat _ _ (by omega) (by omega), UInt8.toNat_xor]
theorem put_any (g n : Nat) (l : List UInt8) (s : ByteArray) (w : World) (hg : Box w g 5 (bytesA l)) (hl : l.length = n) (hs : s.size = n) (hn : n ≤ 1000000) :
    Calls Tryd.prog 41 #[.slice (some ⟨g, 0, none⟩) n n, .string s] w fun e w' => e = .returned (.tuple #[]) ∧ Box w' g 5 (bytesA (bxL l s.data.toList)) ∧ Below g w w' := by
  have HL := Lib.hid hl
  have HS := Lib.hid hs
  have HG := Lib.hid hg
  clear hl hs hg
  go_enter Tryd.func41, Tryd.ntmps41
  go_wp2_with fail
  go_loopw [7] (fun i wr => ∃ j : Nat, j ≤ n ∧ i = .int .i64 j ∧ Box wr g 5 (bytesA (mixL l s.data.toList j)) ∧ Below g w wr)
    (fun i _ => n - (intOf i).toNat)
  case atStart => exact ⟨0, by omega, rfl, by rw [mixL_zero]; exact HG.out, Below.refl _ _⟩
  case round =>
    obtain ⟨j, hj, rfl, R, HB⟩ := hrel
    have R := Lib.hid R
    have HB := Lib.hid HB
    by_cases hlt : j < n
    · have hlj : j < l.length := by rw [HL.out]; exact hlt
      have hsj : j < s.size := by rw [HS.out]; exact hlt
      have cg : wr.cell? ⟨g, j, none⟩ = some (.int .u8 ((l.getD j 0).toNat : Int)) := by
        rw [R.out.cell j, bytesA_get _ j (by rw [mixL_length]; exact hlj), mixL_get l _ j hlj]
      have fg := R.out.free j
      have HE := Lib.hid (show s.data.toList.getD j 0 = s[j] by simp [List.getD, hsj]; rfl)
      have HX := Lib.hid (xor_u8 (l.getD j 0) s[j])
      have HLJ := Lib.hid hlj
      clear hlj
      obtain ⟨a, ha⟩ : ∃ a, a = l.getD j 0 := ⟨_, rfl⟩
      obtain ⟨b, hb⟩ : ∃ b, b = s[j] := ⟨_, rfl⟩
      rw [← ha] at cg HX
      have HA := Lib.hid ha
      have t := xor_u8 a s[j]
      clear ha hb b
      go_wp2
      go_region
      all_goals (
        have P1 := Lib.hid ((R.out.put j (.int .u8 ((a ^^^ s[j]).toNat : Int))).drew)
        have e : (bytesA (mixL l s.data.toList j)).setIfInBounds j (.int .u8 ((a ^^^ s[j]).toNat : Int)) = bytesA (mixL l s.data.toList (j + 1)) := by
          rw [bytesA_set, HA.out, ← HE.out, mixL_set l _ j HLJ.out]
        have E1 := Lib.hid e
        clear e
        have P2 := Lib.hid ((HB.out.setCell (p := ⟨g, j, none⟩) (Nat.le_refl _) (.int .u8 ((a ^^^ s[j]).toNat : Int))).drew)
        go_wp2
        go_roundw
        case rel => exact ⟨j + 1, by omega, by go_num, by have := P1.out; rw [E1.out] at this; simpa only [UInt8.toNat_xor] using this, by simpa only [UInt8.toNat_xor] using P2.out⟩
        case measure => simp [intOf]; omega)
    · obtain rfl : j = n := by omega
      go_wp2
      go_end0
      exact ⟨rfl, by have := R.out; rwa [mixL_full l _ _ HL.out] at this, HB.out⟩
end
section
/- Contract of block.Sum. -/
set_option linter.unusedVariables false
set_option linter.unusedSimpArgs false
open Go.RowKit
/-- The xor of all texts, byte by byte, from n bytes 0 on. -/
def sumL (n : Nat) (ss : List ByteArray) : List UInt8 := ss.foldl (fun acc s => bxL acc s.data.toList) (List.replicate n 0)
theorem foldl_xorL_length (ss : List ByteArray) (l : List UInt8) : (ss.foldl (fun acc s => bxL acc s.data.toList) l).length = l.length := by
  induction ss generalizing l with
  | nil => rfl
  | cons s ss ih => rw [List.foldl_cons, ih, xorL_length]
theorem sumL_length (n : Nat) (ss : List ByteArray) : (sumL n ss).length = n := by simp [sumL, foldl_xorL_length]
theorem xorL_zero (n : Nat) (s : ByteArray) (h : s.size = n) : bxL (List.replicate n 0) s.data.toList = s.data.toList := by
  subst h
  apply List.ext_getElem
  · simp [bxL]
  · intro i h1 h2
    have : i < s.size := by simpa using h2
    simp [bxL, List.getD, this, List.getElem?_replicate]
theorem sumL_one (n : Nat) (ss : List ByteArray) (h : 0 < ss.length) (hs : (ss.getD 0 ByteArray.empty).size = n) : sumL n (ss.take 1) = (ss.getD 0 ByteArray.empty).data.toList := by
  cases ss with
  | nil => simp at h
  | cons s r => simp only [List.take_succ_cons, List.take_zero, sumL, List.foldl_cons, List.foldl_nil]; simp at hs; rw [xorL_zero n s hs]; simp
theorem sumL_snoc (n : Nat) (ss : List ByteArray) (j : Nat) (h : j < ss.length) : bxL (sumL n (ss.take j)) (ss.getD j ByteArray.empty).data.toList = sumL n (ss.take (j + 1)) := by
  unfold sumL
  rw [List.take_succ_eq_append_getElem h, List.foldl_append]
  simp [List.getD, h]
theorem allL_at {n : Int} {ss : List ByteArray} (h : allL n ss = true) (j : Nat) (hj : j < ss.length) : ((ss.getD j ByteArray.empty).size : Int) = n := by
  have := List.all_eq_true.1 h (ss[j]) (List.getElem_mem _)
  simpa [List.getD, hj] using this
theorem sum_size (n : Int) (A : Option Addr) (l c : Nat) (h : smb n = false) (w : World) : Calls Tryd.prog 21 #[.int .i64 n, .slice A l c] w fun e w' => e = .returned (.tuple #[.string ⟨#[]⟩, .int .i64 2]) ∧ Below w.heap.size w w' := by
  have H := Lib.hid (sizeMayBe_any n)
  go_enter Tryd.func21, Tryd.ntmps21
  go_wp2_with fail
  refine (H.out _).mono ?_
  rintro e w1 ⟨rfl, rfl⟩
  go_wp2_with fail
  go_ret2
  exact ⟨rfl, Below.refl _ _⟩
theorem sum_have (n : Int) (A : Option Addr) (l c : Nat) (ss : List ByteArray) (w : World) (ht : Texts w A l ss) (hl : l ≤ maxLen) (h : smb n = true) (h2 : allL n ss = false) : Calls Tryd.prog 21 #[.int .i64 n, .slice A l c] w fun e w' => e = .returned (.tuple #[.string ⟨#[]⟩, .int .i64 2]) ∧ Below w.heap.size w w' := by
  have H := Lib.hid (sizeMayBe_any n)
  have H2 := Lib.hid (allHave_any n A l c ss w ht hl)
  clear ht
  go_enter Tryd.func21, Tryd.ntmps21
  go_wp2_with fail
  refine (H.out _).mono ?_
  rintro e w1 ⟨rfl, rfl⟩
  go_wp2_with fail
  refine H2.out.mono ?_
  rintro e w1 ⟨rfl, rfl⟩
  go_wp2_with fail
  go_ret2
  exact ⟨rfl, Below.refl _ _⟩
theorem sum_many (n : Int) (A : Option Addr) (l c : Nat) (ss : List ByteArray) (w : World) (ht : Texts w A l ss) (hl : l ≤ maxLen) (h : smb n = true) (h2 : allL n ss = true) (h3 : 64 < l) : Calls Tryd.prog 21 #[.int .i64 n, .slice A l c] w fun e w' => e = .returned (.tuple #[.string ⟨#[]⟩, .int .i64 2]) ∧ Below w.heap.size w w' := by
  have H := Lib.hid (sizeMayBe_any n)
  have H2 := Lib.hid (allHave_any n A l c ss w ht hl)
  clear ht
  unfold maxLen at hl
  have g : (64 : Int) < l := by omega
  go_enter Tryd.func21, Tryd.ntmps21
  go_wp2_with fail
  refine (H.out _).mono ?_
  rintro e w1 ⟨rfl, rfl⟩
  go_wp2_with fail
  refine H2.out.mono ?_
  rintro e w1 ⟨rfl, rfl⟩
  go_wp2_with fail
  go_ret2
  exact ⟨rfl, Below.refl _ _⟩
theorem sum_none (n : Nat) (A : Option Addr) (c : Nat) (w : World) (h : smb n = true) : Calls Tryd.prog 21 #[.int .i64 n, .slice A 0 c] w fun e w' => e = .returned (.tuple #[.string ⟨(sumL n []).toArray⟩, .int .i64 0]) ∧ Below w.heap.size w w' := by
  have H := Lib.hid (sizeMayBe_any n)
  have H2 := Lib.hid (allHave_any n A 0 c [] w (Texts.nil w A) (Nat.zero_le _))
  have t : allL n [] = true := rfl
  go_enter Tryd.func21, Tryd.ntmps21
  go_wp2_with fail
  refine (H.out _).mono ?_
  rintro e w1 ⟨rfl, rfl⟩
  go_wp2_with fail
  refine H2.out.mono ?_
  rintro e w1 ⟨rfl, rfl⟩
  go_wp2_with fail
  refine (zero_yes n h _).mono ?_
  rintro e w1 ⟨rfl, hb⟩
  go_wp2_with fail
  go_ret2
  exact ⟨rfl, hb⟩
theorem copyB {w : World} {g n : Nat} {t : TypeId} {l : List UInt8} {s : ByteArray} (h : Box w g t (bytesA l)) (hl : l.length = n) (hs : s.size = n) :
    (Builtin.copy_ #[71, 9] 3 #[.slice (some ⟨g, 0, none⟩) n n, .string s]).run Tryd.prog w = .ok (goInt s.size) (w.setRow g (bytesA s.data.toList)) := by
  have hsz : (bytesA l).size = n := by simp [bytesA, hl]
  have hi : (Tryd.prog.info? 5).map (·.size) = some 1 := by kernel_rfl
  have hcp := Lib.run_copy_row_string (P := Tryd.prog) w 71 9 3 5 g 0 n n s (bytesA l) t Tryd.underlying71 hi h (by omega) (by omega)
  rw [hcp]
  have : ((bytesA l).toList.take 0 ++ Lib.byteCells s.data.toList ++ (bytesA l).toList.drop (0 + s.size)).toArray = bytesA s.data.toList := by
    rw [List.take_zero, List.nil_append, List.drop_of_length_le (by rw [Array.length_toList]; omega), List.append_nil]
    rfl
  rw [this]
set_option maxHeartbeats 1000000 in
theorem sum_some (n : Nat) (A : Option Addr) (l c : Nat) (ss : List ByteArray) (w : World) (ht : Texts w A l ss) (h : smb n = true) (h2 : allL n ss = true) (h3 : l ≤ 64) (h0 : 0 < l) (hlc : l ≤ c) (hcm : c ≤ maxLen) :
    Calls Tryd.prog 21 #[.int .i64 n, .slice A l c] w fun e w' => e = .returned (.tuple #[.string ⟨(sumL n ss).toArray⟩, .int .i64 0]) ∧ Below w.heap.size w w' := by
  have H := Lib.hid (sizeMayBe_any n)
  have H2 := Lib.hid (allHave_any n A l c ss w ht (by unfold maxLen; omega))
  have HL := Lib.hid ht.1
  have HA := Lib.hid h2
  have hn := (smb_iff n).1 h
  obtain ⟨b, off, rfl, hb, hc⟩ := ht.2.2 h0
  have HC := Lib.hid hc
  have hs0 : (ss.getD 0 ByteArray.empty).size = n := by have := allL_at h2 0 (by rw [ht.1]; exact h0); omega
  have c0 : (w.alloc (.cells (bytesA (List.replicate n 0)) 5)).cell? ⟨b, off, none⟩ = some (.string (ss.getD 0 ByteArray.empty)) :=
    (((Below.refl w.heap.size w).alloc (Nat.le_refl _) _).cell (p := ⟨b, off, none⟩) hb).trans (hc 0 h0)
  have m := makeB_any n (by omega) w
  have bx := Box.new w 5 (bytesA (List.replicate n 0))
  have cp := copyB bx (n := n) (s := ss.getD 0 ByteArray.empty) (by simp) hs0
  have HY := Lib.hid (show Box ((w.alloc (.cells (bytesA (List.replicate n 0)) 5)).setRow w.heap.size (bytesA (ss.getD 0 ByteArray.empty).data.toList)) w.heap.size 5 (bytesA (sumL n (ss.take 1))) from by
    rw [sumL_one n ss (by rw [ht.1]; exact h0) hs0]; exact setRow_heap _ _ _ _ _ _ bx)
  have HB := Lib.hid (below_setRow ((Below.refl w.heap.size w).alloc (Nat.le_refl _) (.cells (bytesA (List.replicate n 0)) 5)) (Nat.le_refl _) (bytesA (ss.getD 0 ByteArray.empty).data.toList))
  generalize ss.getD 0 ByteArray.empty = s0 at *
  clear ht hc hs0 bx
  unfold maxLen at hcm
  have g1 : ¬ (64 : Int) < l := by omega
  have g2 : ¬ (l : Int) = 0 := by omega
  have g3 : ((l : Int) == 0) = false := by simpa using (show ¬ l = 0 by omega)
  have g4 : (1 : Int) ≤ l := by omega
  have g5 : (0 : Int) < l := by omega
  have g6 : (l : Int) ≤ c := by omega
  by_cases hc1 : c = 1
  · subst hc1
    obtain rfl : l = 1 := by omega
    go_enter Tryd.func21, Tryd.ntmps21
    go_wp2_with fail
    refine (H.out _).mono ?_
    rintro e w1 ⟨rfl, rfl⟩
    go_wp2_with fail
    refine H2.out.mono ?_
    rintro e w1 ⟨rfl, rfl⟩
    go_wp2_with fail
    generalize (w.alloc (.cells (bytesA (List.replicate n 0)) 5)).setRow w.heap.size (bytesA s0.data.toList) = W at *
    clear c0 m cp H H2
    go_loopw [40] (fun i wr => ∃ j : Nat, j ≤ 0 ∧ i = .int .i64 j ∧ Box wr w.heap.size 5 (bytesA (sumL n (ss.take (j + 1)))) ∧ Below w.heap.size w wr)
      (fun i _ => 0 - (intOf i).toNat)
    case atStart => exact ⟨0, by omega, rfl, HY.out, HB.out⟩
    case round =>
      obtain ⟨j, hj, rfl, R, HB⟩ := hrel
      have R := Lib.hid R
      have HB := Lib.hid HB
      obtain rfl : j = 0 := by omega
      have cv := backB R.out (n := n) (sumL_length _ _)
      have HF := Lib.hid (show ss.take (0 + 1) = ss from List.take_of_length_le (by rw [HL.out]; omega))
      go_wp2_with fail
      go_ret2
      exact ⟨by rw [HF.out]; rfl, HB.out⟩
  · have g7 : ¬ c = 1 := hc1
    go_enter Tryd.func21, Tryd.ntmps21
    go_wp2_with fail
    refine (H.out _).mono ?_
    rintro e w1 ⟨rfl, rfl⟩
    go_wp2_with fail
    refine H2.out.mono ?_
    rintro e w1 ⟨rfl, rfl⟩
    go_wp2_with fail
    generalize (w.alloc (.cells (bytesA (List.replicate n 0)) 5)).setRow w.heap.size (bytesA s0.data.toList) = W at *
    clear c0 m cp H H2
    go_loopw [40] (fun i wr => ∃ j : Nat, j ≤ l - 1 ∧ i = .int .i64 j ∧ Box wr w.heap.size 5 (bytesA (sumL n (ss.take (j + 1)))) ∧ Below w.heap.size w wr)
      (fun i _ => l - 1 - (intOf i).toNat)
    case atStart => exact ⟨0, by omega, rfl, HY.out, HB.out⟩
    case round =>
      obtain ⟨j, hj, rfl, R, HB⟩ := hrel
      have R := Lib.hid R
      have HB := Lib.hid HB
      by_cases hlt : j < l - 1
      · have c1 : wr.cell? ⟨b, off + 1 + j, none⟩ = some (.string (ss.getD (j + 1) ByteArray.empty)) :=
          (HB.out.cell (p := ⟨b, off + 1 + j, none⟩) hb).trans (by have := HC.out (j + 1) (by omega); rwa [show off + (j + 1) = off + 1 + j by omega] at this)
        have hz : (ss.getD (j + 1) ByteArray.empty).size = n := by have := allL_at HA.out (j + 1) (by rw [HL.out]; omega); omega
        have HZ := Lib.hid hz
        have HS := Lib.hid (sumL_snoc n ss (j + 1) (by rw [HL.out]; omega))
        clear hz
        generalize ss.getD (j + 1) ByteArray.empty = s at *
        have q1 : (j : Int) < ((l - 1 : Nat) : Int) := by omega
        go_wp2_with fail
        refine (put_any w.heap.size n _ s _ R.out (sumL_length _ _) HZ.out (by omega)).mono ?_
        rintro e w2 ⟨rfl, R2, hb2⟩
        have R2 := Lib.hid R2
        have HB2 := Lib.hid (HB.out.trans hb2)
        clear hb2
        go_wp2_with fail
        go_roundw
        case rel => exact ⟨j + 1, by omega, by go_num, by have := R2.out; rw [HS.out] at this; exact this, HB2.out⟩
        case measure => simp [intOf]; omega
      · obtain rfl : j = l - 1 := by omega
        have cv := backB R.out (n := n) (sumL_length _ _)
        have HF := Lib.hid (show ss.take (l - 1 + 1) = ss from List.take_of_length_le (by rw [HL.out]; omega))
        go_wp2_with fail
        go_ret2
        exact ⟨by rw [HF.out]; rfl, HB.out⟩
end
section
/- Contracts of block.Sum (all cases), block.Xor, the law's alive. -/
set_option linter.unusedVariables false
set_option linter.unusedSimpArgs false
open Go.RowKit
/-- May texts be summed? -/
def okS (n : Int) (ss : List ByteArray) : Bool := smb n && allL n ss && decide (ss.length ≤ 64)
def sumS (n : Int) (ss : List ByteArray) : ByteArray := if okS n ss then ⟨(sumL n.toNat ss).toArray⟩ else ⟨#[]⟩
def sumE (n : Int) (ss : List ByteArray) : Int := if okS n ss then 0 else 2
theorem sum_any (n : Int) (A : Option Addr) (l c : Nat) (ss : List ByteArray) (w : World) (ht : Texts w A l ss) (hlc : l ≤ c) (hcm : c ≤ maxLen) :
    Calls Tryd.prog 21 #[.int .i64 n, .slice A l c] w fun e w' => e = .returned (.tuple #[.string (sumS n ss), .int .i64 (sumE n ss)]) ∧ Below w.heap.size w w' := by
  have hlen := ht.1
  cases h : smb n with
  | false =>
    have e : okS n ss = false := by simp [okS, h]
    unfold sumS sumE; rw [e]
    exact sum_size n A l c h w
  | true =>
    cases h2 : allL n ss with
    | false =>
      have e : okS n ss = false := by simp [okS, h2]
      unfold sumS sumE; rw [e]
      exact sum_have n A l c ss w ht (by omega) h h2
    | true =>
      by_cases h3 : l ≤ 64
      · have e : okS n ss = true := by simp [okS, h, h2, hlen, h3]
        unfold sumS sumE; rw [e]
        obtain ⟨k, rfl⟩ := Int.eq_ofNat_of_zero_le ((smb_iff n).1 h).1
        by_cases h0 : l = 0
        · subst h0
          obtain rfl : ss = [] := List.length_eq_zero_iff.1 hlen
          exact sum_none k A c w h
        · exact sum_some k A l c ss w ht h h2 h3 (by omega) hlc hcm
      · have e : okS n ss = false := by simp [okS, hlen, h3]
        unfold sumS sumE; rw [e]
        exact sum_many n A l c ss w ht (by omega) h h2 (by omega)
theorem pair_texts (w : World) (t : TypeId) (a b : ByteArray) (ha : a.size ≤ maxLen) (hb : b.size ≤ maxLen) : Texts (w.alloc (.cells #[.string a, .string b] t)) (some ⟨w.heap.size, 0, none⟩) 2 [a, b] := by
  have bx := Box.new w t #[.string a, .string b]
  refine ⟨rfl, fun j => ?_, fun _ => ⟨w.heap.size, 0, rfl, by simp, fun j hj => ?_⟩⟩
  · match j with
    | 0 => exact ha
    | 1 => exact hb
    | j + 2 => simp [List.getD, maxLen]
  · rw [Nat.zero_add, bx.cell j]
    match j, hj with
    | 0, _ => rfl
    | 1, _ => rfl
theorem one_texts (w : World) (t : TypeId) (a : ByteArray) (ha : a.size ≤ maxLen) : Texts (w.alloc (.cells #[.string a] t)) (some ⟨w.heap.size, 0, none⟩) 1 [a] := by
  have bx := Box.new w t #[.string a]
  refine ⟨rfl, fun j => ?_, fun _ => ⟨w.heap.size, 0, rfl, by simp, fun j hj => ?_⟩⟩
  · match j with
    | 0 => exact ha
    | j + 1 => simp [List.getD, maxLen]
  · rw [Nat.zero_add, bx.cell j]
    match j, hj with
    | 0, _ => rfl
end
section
/- Two boxes of rows, stored anew one after the other. No program. -/
set_option linter.unusedVariables false
set_option linter.unusedSimpArgs false
open Go.RowKit
theorem two_rows {x : World} {g1 g2 : Nat} {t : TypeId} {i1 i2 j1 j2 : Int} {S1 S2 T1 T2 : Option Addr} {p1 q1 p2 q2 l1 c1 l2 c2 : Nat}
    (h1 : Box x g1 t #[.int .i64 i1, .slice S1 p1 q1]) (h2 : Box x g2 t #[.int .i64 i2, .slice S2 p2 q2]) (n12 : g1 ≠ g2)
    {w : World} (hb : Below w.heap.size w x) (b1 : w.heap.size ≤ g1) (b2 : w.heap.size ≤ g2)
    {xa bs : List Nat} (u1 : Words x T1 l1 xa) (u2 : Words x T2 l2 bs) :
    let y := (((x.setCell ⟨g1, 0, none⟩ (.int .i64 j1)).setCell ⟨g1, 1, none⟩ (.slice T1 l1 c1)).setCell ⟨g2, 0, none⟩ (.int .i64 j2)).setCell ⟨g2, 1, none⟩ (.slice T2 l2 c2)
    Box y g1 t #[.int .i64 j1, .slice T1 l1 c1] ∧ Box y g2 t #[.int .i64 j2, .slice T2 l2 c2] ∧ Words y T1 l1 xa ∧ Words y T2 l2 bs ∧ Below w.heap.size w y := by
  have k1 : Box ((x.setCell ⟨g1, 0, none⟩ (.int .i64 j1)).setCell ⟨g1, 1, none⟩ (.slice T1 l1 c1)) g1 t #[.int .i64 j1, .slice T1 l1 c1] := h1.put2
  have k2 := (h2.far (p := ⟨g1, 0, none⟩) n12.symm (.int .i64 j1)).far (p := ⟨g1, 1, none⟩) n12.symm (.slice T1 l1 c1)
  have v1 := u1.put2 h1 (.int .i64 j1) (.slice T1 l1 c1)
  have v2 := u2.put2 h1 (.int .i64 j1) (.slice T1 l1 c1)
  exact ⟨(k1.far (p := ⟨g2, 0, none⟩) n12 (.int .i64 j2)).far (p := ⟨g2, 1, none⟩) n12 (.slice T2 l2 c2), k2.put2, v1.put2 k2 _ _, v2.put2 k2 _ _,
    (((hb.setCell (p := ⟨g1, 0, none⟩) b1 _).setCell (p := ⟨g1, 1, none⟩) b1 _).setCell (p := ⟨g2, 0, none⟩) b2 _).setCell (p := ⟨g2, 1, none⟩) b2 _⟩
theorem Ints.drew {w : World} {A : Option Addr} {len : Nat} {zs : List Int} (h : Ints w A len zs) : Ints w.drew A len zs := h
theorem Ints.take {w : World} {A : Option Addr} {len : Nat} {zs : List Int} (h : Ints w A len zs) (k : Nat) (hk : k ≤ len) : Ints w A k (zs.take k) := by
  refine ⟨by simp [h.1]; omega, fun j => ?_, fun hp => ?_⟩
  · by_cases hj : j < k
    · have := h.2.1 j
      simpa [List.getD, List.getElem?_take, hj] using this
    · simp [List.getD, List.getElem?_take, hj]
  · obtain ⟨b, off, rfl, hlt, hc⟩ := h.2.2 (by omega)
    refine ⟨b, off, rfl, hlt, fun j hj => ?_⟩
    rw [hc j (by omega)]
    simp [List.getD, List.getElem?_take, hj]
/-- Ints of a block below keep off boxes above. -/
theorem Ints.put2r {w x : World} {A : Option Addr} {len : Nat} {zs : List Int} {g1 g2 : Nat} {a b c d : Value} (h : Ints x A len zs) (h1 : w.heap.size ≤ g1) (h2 : w.heap.size ≤ g2) (hlow : 0 < len → ∀ p o, A = some ⟨p, o, none⟩ → p < w.heap.size) :
    Ints ((((x.setCell ⟨g1, 0, none⟩ a).setCell ⟨g1, 1, none⟩ b).setCell ⟨g2, 0, none⟩ c).setCell ⟨g2, 1, none⟩ d) A len zs := by
  refine ⟨h.1, h.2.1, fun hp => ?_⟩
  obtain ⟨p, o, rfl, hlt, hc⟩ := h.2.2 hp
  have hl := hlow hp p o rfl
  refine ⟨p, o, rfl, by simpa [World.setCell] using hlt, fun j hj => ?_⟩
  rw [World.cell?_setCell_other _ _ _ _ (by intro e; injection e; omega), World.cell?_setCell_other _ _ _ _ (by intro e; injection e; omega), World.cell?_setCell_other _ _ _ _ (by intro e; injection e; omega), World.cell?_setCell_other _ _ _ _ (by intro e; injection e; omega)]
  exact hc j hj
theorem Ints.low {w : World} {A : Option Addr} {len : Nat} {zs : List Int} (h : Ints w A len zs) : 0 < len → ∀ p o, A = some ⟨p, o, none⟩ → p < w.heap.size := by
  intro hp p o hA
  obtain ⟨p', o', hA', hlt, _⟩ := h.2.2 hp
  rw [hA] at hA'
  injection hA' with hA'
  injection hA' with e1 e2
  omega
end
end Go.Proofs.YtljooknodnblbaaDoor
