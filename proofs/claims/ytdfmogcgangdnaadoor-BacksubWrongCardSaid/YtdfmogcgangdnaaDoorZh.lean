/- Parts: BsK, Bs6, Bs7, Bs8, Bv1, Few5, Words2, RefBlock, RefOnes, RefSum, BtM. -/
import Derived.Test.YtdfmogcgangdnaaDoorZg
namespace Go.Proofs.YtdfmogcgangdnaaDoor
section
/- What equations tell: told columns, and their blocks. No program. -/
set_option linter.unusedVariables false
set_option linter.unusedSimpArgs false
theorem row_bitW (N x p : Nat) (h : p < 64 * nw N) : (bitAt (rowOf N x) p == 1) = x.testBit p := by
  rw [bitAt_test, rowOf_at N x (p / 64) (by omega), Nat.testBit_mod_two_pow, Nat.testBit_shiftRight]
  have e : 64 * (p / 64) + p % 64 = p := by omega
  have l : p % 64 < 64 := Nat.mod_lt _ (by omega)
  rw [e]; simp [l]
theorem one_range (c : Nat) : ∀ k, ((List.range k).filter fun p => decide (c = p)).length = if c < k then 1 else 0
  | 0 => by simp
  | k + 1 => by
    rw [List.range_succ, List.filter_append, List.length_append, one_range c k]
    by_cases e : c = k
    · subst e; simp
    · by_cases h : c < k
      · simp [h, e, show c < k + 1 by omega]
      · simp [h, e, show ¬ c < k + 1 by omega]
theorem nw_le (N : Nat) : N ≤ 64 * nw N := by unfold nw; omega
theorem popN_eq (N x : Nat) : popN N x = ((List.range (64 * nw N)).filter fun p => x.testBit p).length := by
  unfold popN plcN
  rw [rowOf_len]
  congr 1
  apply List.filter_congr
  intro p hp
  exact row_bitW N x p (by simpa using hp)
theorem popN_one {N x : Nat} (hx : x < 2 ^ N) : popN N x = 1 ↔ ∃ c, x = 2 ^ c := by
  rw [popN_eq]
  have hbig : ∀ p, 64 * nw N ≤ p → x.testBit p = false := fun p hp => Nat.testBit_lt_two_pow (Nat.lt_of_lt_of_le hx (Nat.pow_le_pow_right (by omega) (by have := nw_le N; omega)))
  constructor
  · intro h
    obtain ⟨c, hc⟩ := List.length_eq_one_iff.1 h
    refine ⟨c, Nat.eq_of_testBit_eq fun p => ?_⟩
    have hm : ∀ p, p ∈ (List.range (64 * nw N)).filter (fun p => x.testBit p) ↔ p = c := fun p => by rw [hc]; simp
    have hcm := (hm c).2 rfl
    rw [List.mem_filter] at hcm
    rw [Nat.testBit_two_pow]
    by_cases e : c = p
    · subst e; simp [hcm.2]
    · simp only [e, decide_false]
      cases hb : x.testBit p with
      | false => rfl
      | true =>
        have hl : p < 64 * nw N := by
          rcases Nat.lt_or_ge p (64 * nw N) with h | h
          · exact h
          · rw [hbig p h] at hb; cases hb
        have := (hm p).1 (by rw [List.mem_filter]; exact ⟨by simpa using hl, hb⟩)
        omega
  · rintro ⟨c, rfl⟩
    have hc : c < 64 * nw N := by
      rcases Nat.lt_or_ge c (64 * nw N) with h | h
      · exact h
      · have := hbig c h; simp [Nat.testBit_two_pow] at this
    have := one_range c (64 * nw N)
    rw [if_pos hc] at this
    rw [← this]
    congr 1
    apply List.filter_congr
    intro p _
    rw [Nat.testBit_two_pow]
/-- A row whose lowest place is p is alone just if it is it. -/
theorem alone_iff {N x p : Nat} (hx : x < 2 ^ N) (hl : IsLow x p) : popN N x = 1 ↔ x = 2 ^ p := by
  rw [popN_one hx]
  constructor
  · rintro ⟨c, rfl⟩
    have := hl.1
    rw [Nat.testBit_two_pow] at this
    have : c = p := by simpa using this
    rw [this]
  · intro h; exact ⟨p, h⟩
/-- What equations tell: the columns, rising, and their blocks. -/
def KnownP (N n : Nat) (X Z : List Nat) (cols : List Nat) (blks : List ByteArray) : Prop :=
  cols.Pairwise (· < ·) ∧ (∀ c, c ∈ cols ↔ c < N ∧ Sp X (2 ^ c)) ∧ blks.length = cols.length ∧ ∀ j, j < cols.length → (blks.getD j ByteArray.empty).size = n ∧ ∃ v, Sp Z v ∧ lowN N v = 2 ^ (cols.getD j 0) ∧ v >>> N = bn (blks.getD j ByteArray.empty).data.toList
theorem fits_uniq {N : Nat} {Z : List Nat} (hf : FitsP N Z) {u v : Nat} (hu : Sp Z u) (hv : Sp Z v) (h : lowN N u = lowN N v) : u = v :=
  xor_cancel (hf _ (sp_xor hu hv) (by rw [lowN_xor, h, Nat.xor_self]))
theorem known_uniq {N n : Nat} {X Z cols cols' : List Nat} {blks blks' : List ByteArray} (hf : FitsP N Z) (h : KnownP N n X Z cols blks) (k : KnownP N n X Z cols' blks') : cols = cols' ∧ blks = blks' := by
  have hc : cols = cols' := rising_uniq cols cols' h.1 k.1 fun x => by rw [h.2.1, k.2.1]
  subst hc
  refine ⟨rfl, List.ext_getElem (h.2.2.1.trans k.2.2.1.symm) fun j h1 h2 => ?_⟩
  have hj : j < cols.length := by rw [← h.2.2.1]; exact h1
  obtain ⟨s1, v, a1, a2, a3⟩ := h.2.2.2 j hj
  obtain ⟨s2, u, b1, b2, b3⟩ := k.2.2.2 j hj
  have e := fits_uniq hf a1 b1 (a2.trans b2.symm)
  subst e
  have hb := bn_inj _ _ (by rw [size_list, size_list, s1, s2]) (a3.symm.trans b3)
  have g1 : blks.getD j ByteArray.empty = blks[j] := by simp [List.getD, h1]
  have g2 : blks'.getD j ByteArray.empty = blks'[j] := by simp [List.getD, h2]
  rw [g1, g2] at hb
  rw [← back_list blks[j], ← back_list blks'[j], hb]
/-- The first owners that are alone. -/
def aln (N : Nat) (O : List PV) (i : Nat) : List Nat := (List.range i).filter fun j => decide (popN N (O.getD j pv0).1 = 1)
theorem aln_yes (N : Nat) (O : List PV) (i : Nat) (h : popN N (O.getD i pv0).1 = 1) : aln N O (i + 1) = aln N O i ++ [i] := by
  unfold aln; rw [List.range_succ, List.filter_append]; simp only [List.filter_cons, List.filter_nil, h, decide_true, if_true]
theorem aln_no (N : Nat) (O : List PV) (i : Nat) (h : ¬ popN N (O.getD i pv0).1 = 1) : aln N O (i + 1) = aln N O i := by
  unfold aln; rw [List.range_succ, List.filter_append]; simp only [List.filter_cons, List.filter_nil, h, decide_false, Bool.false_eq_true, if_false, List.append_nil]
theorem aln_len (N : Nat) (O : List PV) (i : Nat) : (aln N O i).length ≤ i := by
  have := List.length_filter_le (fun j => decide (popN N (O.getD j pv0).1 = 1)) (List.range i)
  simpa [aln] using this
def alnC (N : Nat) (O : List PV) (P : List Nat) (i : Nat) : List Nat := (aln N O i).map fun j => P.getD j 0
def alnB (N : Nat) (O : List PV) (i : Nat) : List ByteArray := (aln N O i).map fun j => (O.getD j pv0).2
theorem elim_known {N n : Nat} {X M P : List Nat} {Z : List Nat} {O F : List PV} (hXZ : Z.map (lowN N) = X) (h : Elim Z P P.length (O.map (zOf N)) (F.map (zOf N))) (hr : Rref M P) (hs : SameSp X M) (hO : ∀ p ∈ O, GoodP N n p) : KnownP N n X Z (alnC N O P P.length) (alnB N O P.length) := by
  have hs' : SameSp (Z.map (lowN N)) M := by rw [hXZ]; exact hs
  have hM := rows_lt hs'
  have hOl : O.length = P.length := by have := h.len; rwa [List.length_map] at this
  have row : ∀ j, j < P.length → (O.getD j pv0).1 = M.getD j 0 := fun j hj => by
    have := h.own_low hr hs' j hj
    rw [mapz_at N O j (by omega), z_low (hO _ (getD_memP (by omega)))] at this
    exact this
  have al : ∀ j, j < P.length → (popN N (O.getD j pv0).1 = 1 ↔ M.getD j 0 = 2 ^ (P.getD j 0)) := fun j hj => by
    have hl := hr.low j (by rw [hr.len]; exact hj)
    rw [row j hj]
    exact alone_iff (hM _ (getD_mem (by rw [hr.len]; exact hj))) hl
  have mem : ∀ j, j ∈ aln N O P.length ↔ j < P.length ∧ popN N (O.getD j pv0).1 = 1 := fun j => by simp [aln]
  refine ⟨?_, fun c => ?_, by simp [alnC, alnB], fun j hj => ?_⟩
  · unfold alnC
    rw [List.pairwise_map]
    refine List.Pairwise.imp_of_mem ?_ (List.Pairwise.filter _ List.pairwise_lt_range)
    intro a b ha hb hab
    exact hr.rise a b hab (by rw [hr.len]; exact ((mem b).1 hb).1)
  · simp only [alnC, List.mem_map]
    constructor
    · rintro ⟨j, hj, rfl⟩
      obtain ⟨h1, h2⟩ := (mem j).1 hj
      refine ⟨place_lt hM hr j h1, (hs _).2 ?_⟩
      rw [← (al j h1).1 h2]
      exact sp_mem (getD_mem (by rw [hr.len]; exact h1))
    · rintro ⟨-, h2⟩
      obtain ⟨j, hj, hc, hm⟩ := (told_iff hr c).1 ((hs _).1 h2)
      exact ⟨j, (mem j).2 ⟨hj, (al j hj).2 (by rw [hm, hc])⟩, hc⟩
  · have hj' : j < (aln N O P.length).length := by simpa [alnC] using hj
    have hk := (mem ((aln N O P.length)[j])).1 (List.getElem_mem hj')
    have e1 : (alnC N O P P.length).getD j 0 = P.getD (aln N O P.length)[j] 0 := by simp [alnC, List.getD, hj']
    have e2 : (alnB N O P.length).getD j ByteArray.empty = (O.getD (aln N O P.length)[j] pv0).2 := by simp [alnB, List.getD, hj']
    have g := hO _ (getD_memP (L := O) (i := (aln N O P.length)[j]) (by rw [hOl]; exact hk.1))
    rw [e1, e2]
    refine ⟨g.2, zOf N (O.getD (aln N O P.length)[j] pv0), (h.span _).1 (sp_left (sp_mem (List.mem_map.2 ⟨_, getD_memP (by rw [hOl]; exact hk.1), rfl⟩))), ?_, z_high g⟩
    rw [z_low g, row _ hk.1]
    exact (al _ hk.1).1 hk.2
/-- All blocks of free ones are nought just if they can be so. -/
theorem elim_fits {N n : Nat} {X M P : List Nat} {Z : List Nat} {O F : List PV} (hXZ : Z.map (lowN N) = X) (h : Elim Z P P.length (O.map (zOf N)) (F.map (zOf N))) (hr : Rref M P) (hs : SameSp X M) (hF : ∀ p ∈ F, GoodP N n p) : noughtP F = true ↔ FitsP N Z := by
  have hs' : SameSp (Z.map (lowN N)) M := by rw [hXZ]; exact hs
  rw [← h.fits hr hs']
  simp only [noughtP, List.all_eq_true]
  constructor
  · intro ha f hf
    obtain ⟨p, hp, rfl⟩ := List.mem_map.1 hf
    have hl := h.free_low hr hs' hf
    rw [z_low (hF p hp)] at hl
    exact (z_nought (hF p hp)).2 ⟨hl, ha p hp⟩
  · intro ha p hp
    exact ((z_nought (hF p hp)).1 (ha _ (List.mem_map.2 ⟨p, hp, rfl⟩))).2
end
section
/- backsub: fault, Fits. -/
set_option linter.unusedVariables false
set_option linter.unusedSimpArgs false
open Go.RowKit
set_option maxRecDepth 100000
/-- Why equations may not be. -/
def bkE (N : Int) (ms : List (Int × List Nat)) (n : Int) (ss : List ByteArray) : Int := if rightM N ms then if okS n ss && ss.length == ms.length then 0 else 2 else 1
theorem fault_any (N n : Int) (A S : Option Addr) (lm c lo k d : Nat) (ms : List (Int × List Nat)) (ss : List ByteArray) (w : World) (hm : MatAt w lo A lm ms) (hl : lm ≤ maxLen) (ht : Texts w S k ss) (hkd : k ≤ d) (hd : d ≤ maxLen) :
    Calls Tryd.prog 36 #[.agg #[.int .i64 N, .slice A lm c], .int .i64 n, .slice S k d] w fun e w' => e = .returned (.int .i64 (bkE N ms n ss)) ∧ Below w.heap.size w w' := by
  have b1 : Below w.heap.size w (w.alloc (.cells #[.int .i64 N, .slice A lm c] 24)) := (Below.refl _ _).alloc (Nat.le_refl _) _
  have Q0 := Lib.hid (Box.new w 24 #[.int .i64 N, .slice A lm c])
  have HB := Lib.hid b1
  have HR := Lib.hid (mright_any N A lm c lo ms _ (hm.below b1) hl)
  have HT := Lib.hid ht
  have e1 := hm.1
  have e2 := ht.1
  obtain ⟨q0, q1, -, -⟩ := Q0.out.two
  unfold maxLen at hl hd
  cases hr : rightM N ms with
  | false =>
    rw [hr] at HR
    have HE := Lib.hid (show bkE N ms n ss = 1 by rw [bkE, hr]; rfl)
    clear b1 hm ht e1 e2 hr
    go_enter Tryd.func36, Tryd.ntmps36
    go_wp2_with fail
    refine HR.out.mono ?_
    rintro e x1 ⟨rfl, hb⟩
    have HB2 := Lib.hid (chain HB.out hb)
    clear hb
    go_wp2_with fail
    go_ret
    exact ⟨by rw [HE.out]; rfl, HB2.out⟩
  | true =>
    rw [hr] at HR
    cases ho : okS n ss with
    | false =>
      have HS := Lib.hid (fun W (h : Texts W S k ss) => sum_any n S k d ss W h hkd (by unfold maxLen; omega))
      have he : sumE n ss = 2 := by rw [sumE, ho]; rfl
      rw [he] at HS
      have HE := Lib.hid (show bkE N ms n ss = 2 by rw [bkE, hr, ho]; rfl)
      clear b1 hm ht e1 e2 hr ho he
      go_enter Tryd.func36, Tryd.ntmps36
      go_wp2_with fail
      refine HR.out.mono ?_
      rintro e x1 ⟨rfl, hb⟩
      have HB2 := Lib.hid (chain HB.out hb)
      clear hb
      go_wp2_with fail
      refine (HS.out _ (HT.out.below HB2.out)).mono ?_
      rintro e x2 ⟨rfl, hb⟩
      have HB3 := Lib.hid (chain HB2.out hb)
      clear hb
      go_wp2_with fail
      go_ret
      exact ⟨by rw [HE.out]; rfl, HB3.out⟩
    | true =>
      have HS := Lib.hid (fun W (h : Texts W S k ss) => sum_any n S k d ss W h hkd (by unfold maxLen; omega))
      have he : sumE n ss = 0 := by rw [sumE, ho]; rfl
      rw [he] at HS
      by_cases hk : k = lm
      · have HE := Lib.hid (show bkE N ms n ss = 0 by rw [bkE, hr, ho, e1, e2, hk]; simp)
        have t : ((k : Int) != (lm : Int)) = false := by simp [hk]
        clear b1 hm ht e1 e2 hr ho he hk
        go_enter Tryd.func36, Tryd.ntmps36
        go_wp2_with fail
        refine HR.out.mono ?_
        rintro e x1 ⟨rfl, hb⟩
        have HB2 := Lib.hid (chain HB.out hb)
        have Q1 := Lib.hid (Q0.out.keep hb)
        clear hb
        go_wp2_with fail
        refine (HS.out _ (HT.out.below HB2.out)).mono ?_
        rintro e x2 ⟨rfl, hb⟩
        have HB3 := Lib.hid (chain HB2.out hb)
        have Q2 := Lib.hid (Q1.out.keep hb)
        clear hb q0 q1
        obtain ⟨q0, q1, -, -⟩ := Q2.out.two
        go_wp2_with fail
        go_ret
        exact ⟨by rw [HE.out]; rfl, HB3.out⟩
      · have HE := Lib.hid (show bkE N ms n ss = 2 by rw [bkE, hr, ho, e1, e2]; simp [hk])
        have t : ((k : Int) != (lm : Int)) = true := by simp; omega
        clear b1 hm ht e1 e2 hr ho he
        go_enter Tryd.func36, Tryd.ntmps36
        go_wp2_with fail
        refine HR.out.mono ?_
        rintro e x1 ⟨rfl, hb⟩
        have HB2 := Lib.hid (chain HB.out hb)
        have Q1 := Lib.hid (Q0.out.keep hb)
        clear hb
        go_wp2_with fail
        refine (HS.out _ (HT.out.below HB2.out)).mono ?_
        rintro e x2 ⟨rfl, hb⟩
        have HB3 := Lib.hid (chain HB2.out hb)
        have Q2 := Lib.hid (Q1.out.keep hb)
        clear hb q0 q1
        obtain ⟨q0, q1, -, -⟩ := Q2.out.two
        go_wp2_with fail
        go_ret
        exact ⟨by rw [HE.out]; rfl, HB3.out⟩
/-- Equations that may be, in memory. -/
structure BkIn (w : World) (N n : Nat) (X : List Nat) (ss : List ByteArray) (A S : Option Addr) (m c d : Nat) : Prop where
  hN : N ≤ 64
  hn : n ≤ 64
  hX : ∀ r ∈ X, r < 2 ^ N
  hXm : X.length = m
  hm64 : m ≤ 64
  hss : ∀ s ∈ ss, s.size = n
  hsl : SliceOk A m c
  hm : MatAt w 0 A m (mkM N X)
  hr : rightM N (mkM N X) = true
  ht : Texts w S m ss
  hmd : m ≤ d
  hd : d ≤ maxLen
theorem BkIn.below {w w' : World} {N n : Nat} {X : List Nat} {ss : List ByteArray} {A S : Option Addr} {m c d : Nat} (h : BkIn w N n X ss A S m c d) (hb : Below w.heap.size w w') : BkIn w' N n X ss A S m c d :=
  ⟨h.hN, h.hn, h.hX, h.hXm, h.hm64, h.hss, h.hsl, h.hm.below hb, h.hr, h.ht.below hb, h.hmd, h.hd⟩
/-- Equations as numbers. -/
def zs (N : Nat) (X : List Nat) (ss : List ByteArray) : List Nat := (pairs X ss).map (zOf N)
theorem BkIn.low {w : World} {N n : Nat} {X : List Nat} {ss : List ByteArray} {A S : Option Addr} {m c d : Nat} (h : BkIn w N n X ss A S m c d) : (zs N X ss).map (lowN N) = X :=
  pairs_low h.hX h.hss (by rw [h.hXm, h.ht.1])
theorem BkIn.ok {w : World} {N n : Nat} {X : List Nat} {ss : List ByteArray} {A S : Option Addr} {m c d : Nat} (h : BkIn w N n X ss A S m c d) : bkE N (mkM N X) n ss = 0 := by
  rw [bkE, if_pos h.hr, okS_of n ss h.hn h.hss (by rw [h.ht.1]; exact h.hm64), mkM_len, h.hXm, h.ht.1]; simp
theorem BkIn.fault {w : World} {N n : Nat} {X : List Nat} {ss : List ByteArray} {A S : Option Addr} {m c d : Nat} (h : BkIn w N n X ss A S m c d) : Calls Tryd.prog 36 #[.agg #[.int .i64 (N : Int), .slice A m c], .int .i64 (n : Int), .slice S m d] w fun e w' => e = .returned (.int .i64 0) ∧ Below w.heap.size w w' := by
  have := fault_any N n A S m c 0 m d (mkM N X) ss w h.hm (by have := h.hm64; unfold maxLen; omega) h.ht h.hmd h.hd
  rwa [h.ok] at this
theorem BkIn.reduced {w : World} {N n : Nat} {X : List Nat} {ss : List ByteArray} {A S : Option Addr} {m c d : Nat} (h : BkIn w N n X ss A S m c d) : Calls Tryd.prog 37 #[.agg #[.int .i64 (N : Int), .slice A m c], .slice S m d] w (RedOut N n (pairs X ss) X w) :=
  reduced_any N n h.hN h.hn X h.hX m h.hXm h.hm64 ss h.hss A S c d 0 w h.hsl h.hm h.hr h.ht
/-- Fits of equations that may be. -/
def FitOut (N : Nat) (Z : List Nat) (w : World) (e : Ending) (w' : World) : Prop := ∃ b : Bool, (b = true ↔ FitsP N Z) ∧ e = .returned (.tuple #[.bool b, .int .i64 0]) ∧ Below w.heap.size w w'
theorem fits_yes {N n : Nat} {X : List Nat} {ss : List ByteArray} {A S : Option Addr} {m c d : Nat} (w : World) (h : BkIn w N n X ss A S m c d) :
    Calls Tryd.prog 20 #[.agg #[.int .i64 (N : Int), .slice A m c], .int .i64 (n : Int), .slice S m d] w (FitOut N (zs N X ss) w) := by
  have b1 : Below w.heap.size w (w.alloc (.cells #[.int .i64 (N : Int), .slice A m c] 24)) := (Below.refl _ _).alloc (Nat.le_refl _) _
  have Q0 := Lib.hid (Box.new w 24 #[.int .i64 (N : Int), .slice A m c])
  have HB := Lib.hid b1
  have HI := Lib.hid (h.below b1)
  have HF := Lib.hid HI.out.fault
  have HLow := Lib.hid h.low
  obtain ⟨q0, q1, -, -⟩ := Q0.out.two
  clear b1 h
  go_enter Tryd.func20, Tryd.ntmps20
  go_wp2_with fail
  refine HF.out.mono ?_
  rintro e x1 ⟨rfl, hb⟩
  have HB2 := Lib.hid (chain HB.out hb)
  have Q1 := Lib.hid (Q0.out.keep hb)
  have HI1 := Lib.hid (HI.out.below hb)
  clear hb q0 q1 HF HB HI Q0
  obtain ⟨q0, q1, -, -⟩ := Q1.out.two
  go_wp2_with fail
  refine HI1.out.reduced.mono ?_
  rintro e x2 ⟨M, P, O, F, vO, vF, rfl, h1, h2, h3, h4, h5, h6, h7, h8, hb⟩
  have HB3 := Lib.hid (chain HB2.out hb)
  have HFit := Lib.hid (elim_fits HLow.out h3 h1 h2 h5)
  have HA := Lib.hid (fun W (hp : PairsQ x1 W (x1.heap.size + 1) vF N F) => allNought_any N F (fun p hp => by have := (h5 p hp).2; have := HI1.out.hn; omega) (by rw [pairs_len X ss m HI1.out.hXm HI1.out.ht.1] at h8; have := HI1.out.hm64; omega) x1 (x1.heap.size + 1) vF W hp)
  have HP := Lib.hid h7
  clear h1 h2 h3 h4 h5 h6 h7 h8 hb q0 q1
  go_wp2_with fail
  refine (HA.out _ HP.out).mono ?_
  rintro e x3 ⟨rfl, hb⟩
  have HB4 := Lib.hid (chain HB3.out hb)
  clear hb HA
  go_wp2_with fail
  go_ret2
  exact ⟨noughtP F, HFit.out, rfl, HB4.out⟩
theorem fits_no (N n : Int) (A S : Option Addr) (lm c lo k d : Nat) (ms : List (Int × List Nat)) (ss : List ByteArray) (w : World) (hm : MatAt w lo A lm ms) (hl : lm ≤ maxLen) (ht : Texts w S k ss) (hkd : k ≤ d) (hd : d ≤ maxLen) (hE : bkE N ms n ss ≠ 0) :
    Calls Tryd.prog 20 #[.agg #[.int .i64 N, .slice A lm c], .int .i64 n, .slice S k d] w fun e w' => e = .returned (.tuple #[.bool false, .int .i64 (bkE N ms n ss)]) ∧ Below w.heap.size w w' := by
  have b1 : Below w.heap.size w (w.alloc (.cells #[.int .i64 N, .slice A lm c] 24)) := (Below.refl _ _).alloc (Nat.le_refl _) _
  have Q0 := Lib.hid (Box.new w 24 #[.int .i64 N, .slice A lm c])
  have HB := Lib.hid b1
  have HF := Lib.hid (fault_any N n A S lm c lo k d ms ss _ (hm.below b1) hl (ht.below b1) hkd hd)
  obtain ⟨q0, q1, -, -⟩ := Q0.out.two
  obtain ⟨E, hEe⟩ : ∃ E, E = bkE N ms n ss := ⟨_, rfl⟩
  rw [← hEe] at HF hE ⊢
  have t : (E != 0) = true := by simpa using hE
  clear b1 hm ht hEe
  go_enter Tryd.func20, Tryd.ntmps20
  go_wp2_with fail
  refine HF.out.mono ?_
  rintro e x1 ⟨rfl, hb⟩
  have HB2 := Lib.hid (chain HB.out hb)
  clear hb
  go_wp2_with fail
  go_ret2
  exact ⟨rfl, HB2.out⟩
end
section
/- backsub: Known, Solve. -/
set_option linter.unusedVariables false
set_option linter.unusedSimpArgs false
open Go.RowKit
set_option maxRecDepth 100000
def numI (x : Nat) : Value := .int .i64 (x : Int)
/-- What Known tells. -/
def KnRes (N n : Nat) (X Z : List Nat) (E : Int) (cols : List Nat) (blks : List ByteArray) : Prop :=
  (E = 0 ∧ FitsP N Z ∧ KnownP N n X Z cols blks) ∨ (E = 10 ∧ ¬ FitsP N Z ∧ cols = [] ∧ blks = [])
def KnOut (N n : Nat) (X Z : List Nat) (w : World) (e : Ending) (w' : World) : Prop :=
  ∃ (E : Int) (cols : List Nat) (blks : List ByteArray) (B1 B2 : Option Addr) (c1 c2 : Nat), e = .returned (.tuple #[.slice B1 cols.length c1, .slice B2 blks.length c2, .int .i64 E]) ∧ Ints w' B1 cols.length (cols.map fun x : Nat => (x : Int)) ∧ Texts w' B2 blks.length blks ∧ cols.length ≤ 64 ∧ blks.length ≤ 64 ∧ blks.length ≤ c2 ∧ c2 ≤ maxLen ∧ KnRes N n X Z E cols blks ∧ Below w.heap.size w w'
theorem int_info5 : (Tryd.prog.info? 3).map (fun i => (i.zero, i.size, i.bytes)) = some (some (.int .i64 0), 1, 8) := by kernel_rfl
theorem str_info5 : (Tryd.prog.info? 9).map (fun i => (i.zero, i.size, i.bytes)) = some (some (.string ⟨#[]⟩), 1, 16) := by kernel_rfl
theorem own_texts5 {w : World} {base : Nat} {A : Option Addr} {c : Nat} {ss : List ByteArray} (h : w.ownsRow base 9 1 (.slice A ss.length c) ss.length (ss.map Value.string)) (hz : ∀ s ∈ ss, s.size ≤ maxLen) : Texts w A ss.length ss := by
  refine ⟨rfl, fun j => ?_, fun hp => ?_⟩
  · by_cases hj : j < ss.length
    · have : ss.getD j ByteArray.empty = ss[j] := by simp [List.getD, hj]
      rw [this]; exact hz _ (List.getElem_mem hj)
    · have : ss[j]? = none := List.getElem?_eq_none (by omega)
      simp only [List.getD, this, Option.getD_none]; unfold maxLen; decide
  · rcases h.2 with ⟨hv, hz⟩ | ⟨g, cap, cur, hv, hb, hh, hc, hm, -⟩
    · omega
    · injection hv with hv
      subst hv
      refine ⟨g, 0, rfl, (show Box w g _ cur from hh).lt, fun j hj => ?_⟩
      have := World.ownsRow.cells h (g := g) rfl j (.string (ss.getD j ByteArray.empty)) (by simp [List.getD, hj])
      rwa [add_zero0, show (⟨g, j, none⟩ : Addr) = ⟨g, 0 + j, none⟩ by rw [Nat.zero_add]] at this
theorem own_cap5 {w : World} {base e size : Nat} {A : Option Addr} {n c : Nat} {xs : List Value} (h : w.ownsRow base e size (.slice A n c) n xs) : n ≤ c ∧ c ≤ maxLen := by
  rcases h.2 with ⟨hv, hz⟩ | ⟨g, cap, cur, hv, hb, hh, hc, hm, -⟩
  · injection hv with _ _ hv; subst hv; exact ⟨by omega, by simp [maxLen]⟩
  · injection hv with _ _ hv; subst hv; exact ⟨hc, hm⟩
set_option maxHeartbeats 4000000 in
theorem known_yes {N n : Nat} {X : List Nat} {ss : List ByteArray} {A S : Option Addr} {m c d : Nat} (w : World) (h : BkIn w N n X ss A S m c d) :
    Calls Tryd.prog 19 #[.agg #[.int .i64 (N : Int), .slice A m c], .int .i64 (n : Int), .slice S m d] w (KnOut N n X (zs N X ss) w) := by
  have b1 : Below w.heap.size w (w.alloc (.cells #[.int .i64 (N : Int), .slice A m c] 24)) := (Below.refl _ _).alloc (Nat.le_refl _) _
  have Q0 := Lib.hid (Box.new w 24 #[.int .i64 (N : Int), .slice A m c])
  have HB := Lib.hid b1
  have HI := Lib.hid (h.below b1)
  have HF := Lib.hid HI.out.fault
  have HLow := Lib.hid h.low
  have hN := h.hN
  have hn := h.hn
  obtain ⟨q0, q1, -, -⟩ := Q0.out.two
  clear b1 h
  go_enter Tryd.func19, Tryd.ntmps19
  go_wp2_with fail
  refine HF.out.mono ?_
  rintro e x1 ⟨rfl, hb⟩
  have HB2 := Lib.hid (chain HB.out hb)
  have Q1 := Lib.hid (Q0.out.keep hb)
  have HI1 := Lib.hid (HI.out.below hb)
  clear hb q0 q1 HF HB HI Q0
  obtain ⟨q0, q1, -, -⟩ := Q1.out.two
  go_wp2_with fail
  refine HI1.out.reduced.mono ?_
  rintro e x2 ⟨M, P, O, F, vO, vF, rfl, h1, h2, h3, h4, h5, h6, h7, h8, hb⟩
  have HB3 := Lib.hid (chain HB2.out hb)
  have HFit := Lib.hid (elim_fits HLow.out h3 h1 h2 h5)
  have HKn := Lib.hid (elim_known HLow.out h3 h1 h2 h4)
  have HA := Lib.hid (fun W (hp : PairsQ x1 W (x1.heap.size + 1) vF N F) => allNought_any N F (fun p hp => by have := (h5 p hp).2; omega) (by rw [pairs_len X ss m HI1.out.hXm HI1.out.ht.1] at h8; have := HI1.out.hm64; omega) x1 (x1.heap.size + 1) vF W hp)
  have HP := Lib.hid h7
  have HO := Lib.hid h6
  have HGO := Lib.hid h4
  have HX12 := Lib.hid hb
  have HPl := Lib.hid (show P.length = O.length by have := h3.len; rw [List.length_map] at this; exact this.symm)
  have HPc := Lib.hid (show ∀ j, j < P.length → P.getD j 0 < N from fun j hj => place_lt (rows_lt (show SameSp (((pairs X ss).map (zOf N)).map (lowN N)) M by have := HLow.out; unfold zs at this; rw [this]; exact h2)) h1 j hj)
  have hO64 : O.length ≤ 64 := by
    have := rref_len h1 (rows_lt (show SameSp (((pairs X ss).map (zOf N)).map (lowN N)) M by have := HLow.out; unfold zs at this; rw [this]; exact h2))
    have e := h1.len
    rw [HPl.out] at e
    omega
  obtain ⟨Ao, co, rfl, hoc, hocm⟩ := h6.form0
  unfold maxLen at hocm
  clear h1 h2 h3 h4 h5 h6 h7 h8 hb q0 q1
  cases hno : noughtP F with
  | false =>
    rw [hno] at HA
    have HNF := Lib.hid (show ¬ FitsP N (zs N X ss) from fun hf => by have := HFit.out.2 hf; rw [hno] at this; cases this)
    clear hno
    go_wp2_with fail
    refine (HA.out _ HP.out).mono ?_
    rintro e x3 ⟨rfl, hb⟩
    have HB4 := Lib.hid (chain HB3.out hb)
    clear hb HA
    go_wp2_with fail
    go_ret3
    exact ⟨10, [], [], none, none, 0, 0, rfl, Ints.nil _ _, Texts.nil _ _, by simp, by simp, by simp, by simp [maxLen], .inr ⟨rfl, HNF.out, rfl, rfl⟩, HB4.out⟩
  | true =>
    rw [hno] at HA
    have HNF := Lib.hid (HFit.out.1 hno)
    clear hno
    go_wp2_with fail
    refine (HA.out _ HP.out).mono ?_
    rintro e x3 ⟨rfl, hb⟩
    have HB4 := Lib.hid (chain HB3.out hb)
    have HO3 := Lib.hid (HO.out.keep hb)
    have HX13 := Lib.hid (chain HX12.out hb)
    clear hb HA HP HO HX12
    go_wp2_with fail
    go_loopw [34, 12, 13] (fun t v1 v2 wr => ∃ i : Nat, i ≤ O.length ∧ t = .int .i64 (i : Int) ∧ Hid (wr.ownsRow x1.heap.size 3 1 v1 (alnC N O P i).length ((alnC N O P i).map numI)) ∧ Hid (wr.ownsRow x1.heap.size 9 1 v2 (alnB N O i).length ((alnB N O i).map Value.string)) ∧ Hid (OwnersQ x1 wr (x1.heap.size + 1) (.slice Ao O.length co) N O P) ∧ Hid (Below x1.heap.size x1 wr) ∧ Hid (Below w.heap.size w wr)) (fun t _ _ _ => O.length - (intOf t).toNat)
    case atStart => exact ⟨0, Nat.zero_le _, rfl, Lib.hid (World.ownsRow_nil _ _ _ _), Lib.hid (World.ownsRow_nil _ _ _ _), HO3, HX13, HB4⟩
    case round =>
      obtain ⟨i, hi, rfl, H1, H2, HOr, HXr, HBr⟩ := hrel
      by_cases hlt : i < O.length
      · have hlt' : (i : Int) < (O.length : Int) := by omega
        have io := HOr.out
        obtain ⟨g, c2, hv, hgb, hgw, -, -, cur, hcur⟩ := io.form (by omega)
        injection hv with hv h2 h3
        subst hv
        clear h2 h3 hcur
        obtain ⟨A1, l1, d1, x0, x1c, x2c, x3c, rq, -, -, -, -⟩ := io.at i hlt
        have gp := HGO.out _ (getD_memP hlt)
        obtain ⟨p, hp⟩ : ∃ p, p = O.getD i pv0 := ⟨_, rfl⟩
        obtain ⟨q, hq⟩ : ∃ q, q = P.getD i 0 := ⟨_, rfl⟩
        rw [← hp] at x2c rq gp
        rw [← hq] at x3c
        have HPI := Lib.hid hp
        have HQI := Lib.hid hq
        have GP := Lib.hid gp
        have HqN := Lib.hid (show q < N by rw [hq]; exact HPc.out i (by rw [HPl.out]; exact hlt))
        have al : Below wr.heap.size wr (wr.alloc (.cells #[.int .i64 (N : Int), .slice A1 l1 d1, .string p.2, .int .i64 (q : Int)] 86)) := (Below.refl _ _).alloc (Nat.le_refl _) _
        have T := Lib.hid (Box.new wr 86 #[.int .i64 (N : Int), .slice A1 l1 d1, .string p.2, .int .i64 (q : Int)])
        have AL1 := Lib.hid al
        have HW := Lib.hid ((rq.below al).words (Nat.le_refl _) (chain HXr.out al))
        have HH := Lib.hid (isAlone_any N p.1 (by omega) GP.out.1 A1 l1 d1 p.2 _ HW.out)
        obtain ⟨t0, t1, t2, t3, -, -, -, -⟩ := T.out.quad
        clear al gp hp hq io rq HW
        by_cases hal : popN N p.1 = 1
        · have ha : decide (popN N p.1 = 1) = true := by simpa using hal
          rw [ha] at HH
          have HY := Lib.hid (aln_yes N O i (by rw [← HPI.out]; exact hal))
          clear ha hal
          go_wp2_with fail
          refine HH.out.mono ?_
          rintro e w5 ⟨rfl, hb⟩
          have HC := Lib.hid (chain AL1.out hb)
          have T5 := Lib.hid (T.out.keep hb)
          have O5 := Lib.hid (HOr.out.keep HC.out)
          have X5 := Lib.hid (chain HXr.out HC.out)
          have B5 := Lib.hid (chain HBr.out HC.out)
          have O1 := Lib.hid (own_keep H1.out HC.out)
          have O2 := Lib.hid (own_keep H2.out HC.out)
          clear hb HH T HOr HXr HBr H1 H2 AL1 HC t0 t1 t2 t3 x0 x1c x2c x3c
          obtain ⟨i0, ki, kz0, kz1, kz2⟩ := info_parts int_info5
          obtain ⟨j0, ji, jz0, jz1, jz2⟩ := info_parts str_info5
          have hal5 : Below w5.heap.size w5 (w5.alloc (.cells #[.int .i64 (q : Int)] 3)) := (Below.refl _ _).alloc (Nat.le_refl _) _
          have XO := Lib.hid (own_keep O1.out hal5)
          have X2 := Lib.hid (own_keep O2.out hal5)
          have XT := Lib.hid (T5.out.keep hal5)
          have XQ := Lib.hid (O5.out.keep hal5)
          have XX := Lib.hid (chain X5.out hal5)
          have XB := Lib.hid (chain B5.out hal5)
          have hb5 := B5.out.size
          have hx5 := X5.out.size
          have hq0 : w.heap.size < w5.heap.size := by have := Q1.out.lt; omega
          have XS := Lib.hid (show x1.heap.size ≤ (w5.alloc (.cells #[.int .i64 (q : Int)] 3)).heap.size by simp; omega)
          have hl1 := aln_len N O i
          have hl2 : (alnC N O P i).length ≤ i := by rw [alnC, List.length_map]; exact hl1
          have hl3 : (alnB N O i).length ≤ i := by rw [alnB, List.length_map]; exact hl1
          obtain ⟨t0, t1, t2, t3, -, -, -, -⟩ := T5.out.quad
          clear hal5 O1 O2 hl1
          go_wp2_with (first
            | (at_builtin; refine wpList_append_own _ rfl _ _ 29 rfl x1.heap.size 3 i0 (.int .i64 0) 1 8 Tryd.underlying29 ki kz0 kz1 kz2 rfl (by decide) _ _ _ rfl XO.out ⟨w5.heap.size, 0, none⟩ 1 1 [.int .i64 (q : Int)] rfl rfl (cell_one_new _ _ _) (by simp [Value.oneCell']) (by simp [maxLen]; omega) (by omega) XS.out ?_; intro v1 w6 hown hgrow _; have HO1 := Lib.hid hown; have HG1 := Lib.hid hgrow; clear hown hgrow t0 t1 t2 t3; have hp6 : PC _ w6 3 := ⟨_, HG1.out, fun g e => (own_blk XO.out g e).2⟩; have Y2 := Lib.hid (hp6.own X2.out (by decide)); have YT := Lib.hid (hp6.box XT.out (by decide)); have YQ := Lib.hid (hp6.owners XQ.out (by decide) (by decide)); have h6b : Below x1.heap.size (w5.alloc (.cells #[.int .i64 (q : Int)] 3)) w6 := gr_low (Below.refl _ _) XS.out HG1.out (fun g e => (own_blk XO.out g e).1); have Z2 := Lib.hid (own_keep Y2.out ((Below.refl w6.heap.size w6).alloc (Nat.le_refl _) (.cells #[.string p.2] 9))); have ZS := Lib.hid (show x1.heap.size ≤ (w6.alloc (.cells #[.string p.2] 9)).heap.size from by have := XS.out; have := HG1.out.size; simp; omega); clear hp6 h6b; obtain ⟨t0, t1, t2, t3, -, -, -, -⟩ := YT.out.quad)
            | (at_builtin; refine wpList_append_own _ rfl _ _ 44 rfl x1.heap.size 9 j0 (.string ⟨#[]⟩) 1 16 Tryd.underlying44 ji jz0 jz1 jz2 rfl (by decide) _ _ _ rfl Z2.out ⟨w6.heap.size, 0, none⟩ 1 1 [.string p.2] rfl rfl (cell_one_new _ _ _) (by simp [Value.oneCell']) (by simp [maxLen]; omega) (by omega) ZS.out ?_; intro v2 w7 hown hgrow _; have HO2 := Lib.hid hown; have HG2 := Lib.hid hgrow; clear hown hgrow))
          have hw1 : w.heap.size < x1.heap.size := Q1.out.lt
          have al6 : Below w6.heap.size w6 (w6.alloc (.cells #[.string p.2] 9)) := (Below.refl _ _).alloc (Nat.le_refl _) _
          have hp7 : PC _ w7 9 := ⟨_, HG2.out, fun g e => (own_blk Z2.out g e).2⟩
          have R1 := Lib.hid (show w7.ownsRow x1.heap.size 3 1 v1 (alnC N O P (i + 1)).length ((alnC N O P (i + 1)).map numI) by
            have e : alnC N O P (i + 1) = alnC N O P i ++ [q] := by unfold alnC; rw [HY.out, List.map_append, HQI.out]; rfl
            rw [e, List.map_append, List.length_append]
            exact hp7.own (own_keep HO1.out al6) (by decide))
          have R2 := Lib.hid (show w7.ownsRow x1.heap.size 9 1 v2 (alnB N O (i + 1)).length ((alnB N O (i + 1)).map Value.string) by
            have e : alnB N O (i + 1) = alnB N O i ++ [p.2] := by unfold alnB; rw [HY.out, List.map_append, HPI.out]; rfl
            rw [e, List.map_append, List.length_append]
            exact HO2.out)
          have RQ := Lib.hid (hp7.owners (YQ.out.keep al6) (by decide) (by decide))
          have hX6 := gr_low XX.out XS.out HG1.out (fun g e => (own_blk XO.out g e).1)
          have hX7 := gr_low (chainN hX6 hX6.size al6) ZS.out HG2.out (fun g e => (own_blk Z2.out g e).1)
          have hB6 := gr_low XB.out XB.out.size HG1.out (fun g e => by have := (own_blk XO.out g e).1; omega)
          have hB7 := gr_low (chainN hB6 hB6.size al6) (chainN hB6 hB6.size al6).size HG2.out (fun g e => by have := (own_blk Z2.out g e).1; omega)
          have RX := Lib.hid hX7
          have RB := Lib.hid hB7
          clear hX6 hX7 hB6 hB7 hp7 al6 HO1 HO2 HG1 HG2 XO X2 XT XQ XX XB XS Y2 YT YQ Z2 ZS T5 O5 X5 B5
          go_roundw
          case rel => exact ⟨i + 1, by omega, by go_num, R1, R2, RQ, RX, RB⟩
          case measure => simp [intOf]; omega
        · have ha : decide (popN N p.1 = 1) = false := by simpa using hal
          rw [ha] at HH
          have HY := Lib.hid (aln_no N O i (by rw [← HPI.out]; exact hal))
          clear ha hal
          go_wp2_with fail
          refine HH.out.mono ?_
          rintro e w5 ⟨rfl, hb⟩
          have HC := Lib.hid (chain AL1.out hb)
          clear hb
          go_wp2_with fail
          go_roundw
          case rel => exact ⟨i + 1, by omega, by go_num, Lib.hid (by rw [alnC, HY.out]; exact own_keep H1.out HC.out), Lib.hid (by rw [alnB, HY.out]; exact own_keep H2.out HC.out), Lib.hid (HOr.out.keep HC.out), Lib.hid (chain HXr.out HC.out), Lib.hid (chain HBr.out HC.out)⟩
          case measure => simp [intOf]; omega
      · obtain rfl : i = O.length := by omega
        have hlt' : ¬ (O.length : Int) < (O.length : Int) := by omega
        have hk := HKn.out
        rw [HPl.out] at hk
        have hl1 := aln_len N O O.length
        have hl2 : (alnC N O P O.length).length ≤ O.length := by rw [alnC, List.length_map]; exact hl1
        have hl3 : (alnB N O O.length).length ≤ O.length := by rw [alnB, List.length_map]; exact hl1
        obtain ⟨B1, c1, hv1, -⟩ := own_form H1.out
        obtain ⟨B2, c2, hv2, -⟩ := own_form H2.out
        subst hv1 hv2
        have hc2 := own_cap5 H2.out
        have hi1 := own_ints (zs := (alnC N O P O.length).map fun x : Nat => (x : Int)) (by rw [List.map_map]; exact H1.out) (num_bdP _ (fun j hj => by
          have hm : (alnC N O P O.length).getD j 0 ∈ alnC N O P O.length := getD_mem hj
          have := (hk.2.1 _).1 hm
          omega))
        have hi2 := own_texts5 H2.out (fun s hs => by
          obtain ⟨j, hj, rfl⟩ := List.getElem_of_mem hs
          have := (hk.2.2.2 j (by rw [← hk.2.2.1]; exact hj)).1
          have e : (alnB N O O.length).getD j ByteArray.empty = (alnB N O O.length)[j] := by simp [List.getD, hj]
          rw [e] at this
          rw [this]; unfold maxLen; omega)
        have HK := Lib.hid hk
        have HI1' := Lib.hid hi1
        have HI2' := Lib.hid hi2
        have HC2 := Lib.hid hc2
        have HL2 := Lib.hid (show (alnC N O P O.length).length ≤ 64 by omega)
        have HL3 := Lib.hid (show (alnB N O O.length).length ≤ 64 by omega)
        clear hk hi1 hi2 hc2 hl1 hl2 hl3
        go_wp2_with fail
        go_ret3
        exact ⟨0, alnC N O P O.length, alnB N O O.length, B1, B2, c1, c2, rfl, HI1'.out, HI2'.out, HL2.out, HL3.out, HC2.out.1, HC2.out.2, .inl ⟨rfl, HNF.out, HK.out⟩, HBr.out⟩
end
section
/- backsub: Known and Solve of what may not be; Solve. -/
set_option linter.unusedVariables false
set_option linter.unusedSimpArgs false
open Go.RowKit
set_option maxRecDepth 100000
theorem known_no (N n : Int) (A S : Option Addr) (lm c lo k d : Nat) (ms : List (Int × List Nat)) (ss : List ByteArray) (w : World) (hm : MatAt w lo A lm ms) (hl : lm ≤ maxLen) (ht : Texts w S k ss) (hkd : k ≤ d) (hd : d ≤ maxLen) (hE : bkE N ms n ss ≠ 0) :
    Calls Tryd.prog 19 #[.agg #[.int .i64 N, .slice A lm c], .int .i64 n, .slice S k d] w fun e w' => e = .returned (.tuple #[.slice none 0 0, .slice none 0 0, .int .i64 (bkE N ms n ss)]) ∧ Below w.heap.size w w' := by
  have b1 : Below w.heap.size w (w.alloc (.cells #[.int .i64 N, .slice A lm c] 24)) := (Below.refl _ _).alloc (Nat.le_refl _) _
  have Q0 := Lib.hid (Box.new w 24 #[.int .i64 N, .slice A lm c])
  have HB := Lib.hid b1
  have HF := Lib.hid (fault_any N n A S lm c lo k d ms ss _ (hm.below b1) hl (ht.below b1) hkd hd)
  obtain ⟨q0, q1, -, -⟩ := Q0.out.two
  obtain ⟨E, hEe⟩ : ∃ E, E = bkE N ms n ss := ⟨_, rfl⟩
  rw [← hEe] at HF hE ⊢
  have t : (E != 0) = true := by simpa using hE
  clear b1 hm ht hEe
  go_enter Tryd.func19, Tryd.ntmps19
  go_wp2_with fail
  refine HF.out.mono ?_
  rintro e x1 ⟨rfl, hb⟩
  have HB2 := Lib.hid (chain HB.out hb)
  clear hb
  go_wp2_with fail
  go_ret3
  exact ⟨rfl, HB2.out⟩
theorem solve_no (N n : Int) (A S : Option Addr) (lm c lo k d : Nat) (ms : List (Int × List Nat)) (ss : List ByteArray) (w : World) (hm : MatAt w lo A lm ms) (hl : lm ≤ maxLen) (ht : Texts w S k ss) (hkd : k ≤ d) (hd : d ≤ maxLen) (hE : bkE N ms n ss ≠ 0) :
    Calls Tryd.prog 18 #[.agg #[.int .i64 N, .slice A lm c], .int .i64 n, .slice S k d] w fun e w' => e = .returned (.tuple #[.slice none 0 0, .int .i64 (bkE N ms n ss)]) ∧ Below w.heap.size w w' := by
  have b1 : Below w.heap.size w (w.alloc (.cells #[.int .i64 N, .slice A lm c] 24)) := (Below.refl _ _).alloc (Nat.le_refl _) _
  have Q0 := Lib.hid (Box.new w 24 #[.int .i64 N, .slice A lm c])
  have HB := Lib.hid b1
  have HF := Lib.hid (known_no N n A S lm c lo k d ms ss _ (hm.below b1) hl (ht.below b1) hkd hd hE)
  obtain ⟨q0, q1, -, -⟩ := Q0.out.two
  obtain ⟨E, hEe⟩ : ∃ E, E = bkE N ms n ss := ⟨_, rfl⟩
  rw [← hEe] at HF hE ⊢
  have t : (E != 0) = true := by simpa using hE
  clear b1 hm ht hEe
  go_enter Tryd.func18, Tryd.ntmps18
  go_wp2_with fail
  refine HF.out.mono ?_
  rintro e x1 ⟨rfl, hb⟩
  have HB2 := Lib.hid (chain HB.out hb)
  clear hb
  go_wp2_with fail
  go_ret2
  exact ⟨rfl, HB2.out⟩
/-- What Solve tells. -/
def SvRes (N n : Nat) (X Z : List Nat) (E : Int) (blks : List ByteArray) : Prop :=
  (E = 10 ∧ ¬ FitsP N Z ∧ blks = []) ∨ (E = 9 ∧ FitsP N Z ∧ blks = [] ∧ ∃ cols bl, KnownP N n X Z cols bl ∧ cols.length < N) ∨ (E = 0 ∧ FitsP N Z ∧ ∃ cols, KnownP N n X Z cols blks ∧ ¬ cols.length < N)
def SvOut (N n : Nat) (X Z : List Nat) (w : World) (e : Ending) (w' : World) : Prop :=
  ∃ (E : Int) (blks : List ByteArray) (B : Option Addr) (c : Nat), e = .returned (.tuple #[.slice B blks.length c, .int .i64 E]) ∧ Texts w' B blks.length blks ∧ blks.length ≤ 64 ∧ blks.length ≤ c ∧ c ≤ maxLen ∧ SvRes N n X Z E blks ∧ Below w.heap.size w w'
theorem solve_yes {N n : Nat} {X : List Nat} {ss : List ByteArray} {A S : Option Addr} {m c d : Nat} (w : World) (h : BkIn w N n X ss A S m c d) :
    Calls Tryd.prog 18 #[.agg #[.int .i64 (N : Int), .slice A m c], .int .i64 (n : Int), .slice S m d] w (SvOut N n X (zs N X ss) w) := by
  have b1 : Below w.heap.size w (w.alloc (.cells #[.int .i64 (N : Int), .slice A m c] 24)) := (Below.refl _ _).alloc (Nat.le_refl _) _
  have Q0 := Lib.hid (Box.new w 24 #[.int .i64 (N : Int), .slice A m c])
  have HB := Lib.hid b1
  have HF := Lib.hid (known_yes _ (h.below b1))
  have hN := h.hN
  obtain ⟨q0, q1, -, -⟩ := Q0.out.two
  clear b1 h
  go_enter Tryd.func18, Tryd.ntmps18
  go_wp2_with fail
  refine HF.out.mono ?_
  rintro e x1 ⟨E, cols, blks, B1, B2, c1, c2, rfl, hi, ht, hl1, hl2, hc, hcm, hres, hb⟩
  have HB2 := Lib.hid (chain HB.out hb)
  have Q1 := Lib.hid (Q0.out.keep hb)
  have HT := Lib.hid ht
  have HC := Lib.hid hc
  have HCM := Lib.hid hcm
  clear hb q0 q1 ht hi HF HB Q0 hc hcm
  obtain ⟨q0, q1, -, -⟩ := Q1.out.two
  rcases hres with ⟨rfl, hf, hk⟩ | ⟨rfl, hf, rfl, rfl⟩
  · have HFt := Lib.hid hf
    have HK := Lib.hid hk
    clear hf hk
    by_cases hlt : cols.length < N
    · have hlt' : (cols.length : Int) < (N : Int) := by omega
      go_wp2_with fail
      go_ret2
      exact ⟨9, [], none, 0, rfl, Texts.nil _ _, by simp, by simp, by simp [maxLen], .inr (.inl ⟨rfl, HFt.out, rfl, cols, blks, HK.out, hlt⟩), HB2.out⟩
    · have hlt' : ¬ (cols.length : Int) < (N : Int) := by omega
      go_wp2_with fail
      go_ret2
      exact ⟨0, blks, B2, c2, rfl, HT.out, hl2, HC.out, HCM.out, .inr (.inr ⟨rfl, HFt.out, cols, HK.out, hlt⟩), HB2.out⟩
  · have HFt := Lib.hid hf
    clear hf
    go_wp2_with fail
    go_ret2
    exact ⟨10, [], none, 0, rfl, Texts.nil _ _, by simp, by simp, by simp [maxLen], .inl ⟨rfl, HFt.out, rfl⟩, HB2.out⟩
end
section
/- Law 05's alive. -/
set_option linter.unusedVariables false
set_option linter.unusedSimpArgs false
open Go.RowKit
set_option maxRecDepth 100000
theorem sp_two {a b v : Nat} : Sp [a, b] v ↔ v = 0 ∨ v = a ∨ v = b ∨ v = a ^^^ b := by
  constructor
  · intro h
    refine sp_ind (P := fun v => v = 0 ∨ v = a ∨ v = b ∨ v = a ^^^ b) (.inl rfl) ?_ h
    intro r u hr hu
    simp only [List.mem_cons, List.not_mem_nil, or_false] at hr
    rcases hr with rfl | rfl
    · rcases hu with rfl | rfl | rfl | rfl
      · simp
      · simp
      · simp
      · right; right; left; rw [← Nat.xor_assoc, Nat.xor_self, Nat.zero_xor]
    · rcases hu with rfl | rfl | rfl | rfl
      · simp
      · right; right; right; rw [Nat.xor_comm]
      · simp
      · right; left; rw [Nat.xor_comm, xor_back]
  · rintro (rfl | rfl | rfl | rfl)
    · exact sp_zero _
    · exact sp_mem (by simp)
    · exact sp_mem (by simp)
    · exact sp_xor (sp_mem (by simp)) (sp_mem (by simp))
def bA : ByteArray := ⟨#[97]⟩
def bB : ByteArray := ⟨#[98]⟩
def b3 : ByteArray := ⟨#[3]⟩
theorem al_z : zs 2 [3, 2] [bA, bB] = [391, 394] := by decide
theorem al_fits : FitsP 2 (zs 2 [3, 2] [bA, bB]) := by
  rw [al_z]
  intro v hv h0
  rcases sp_two.1 hv with rfl | rfl | rfl | rfl
  · rfl
  · exact absurd h0 (by decide)
  · exact absurd h0 (by decide)
  · exact absurd h0 (by decide)
theorem al_known : KnownP 2 1 [3, 2] (zs 2 [3, 2] [bA, bB]) [0, 1] [b3, bB] := by
  rw [al_z]
  refine ⟨by decide, fun c => ?_, rfl, fun j hj => ?_⟩
  · constructor
    · intro h
      simp only [List.mem_cons, List.not_mem_nil, or_false] at h
      rcases h with rfl | rfl
      · exact ⟨by omega, sp_two.2 (by decide)⟩
      · exact ⟨by omega, sp_two.2 (by decide)⟩
    · rintro ⟨h, -⟩
      match c, h with
      | 0, _ => simp
      | 1, _ => simp
  · match j, hj with
    | 0, _ => exact ⟨by decide, 13, sp_two.2 (by decide), by decide, by decide⟩
    | 1, _ => exact ⟨by decide, 394, sp_two.2 (by decide), by decide, by decide⟩
/-- The world of alive's equations. -/
def alV (w : World) : World := (((w.alloc (.cells #[.int .u64 3] 63)).alloc (.cells #[.int .u64 2] 63)).alloc (.cells #[.int .i64 2, .slice (some ⟨w.heap.size, 0, none⟩) 1 1, .int .i64 2, .slice (some ⟨w.heap.size + 1, 0, none⟩) 1 1] 27)).alloc (.cells #[.string ⟨#[97]⟩, .string ⟨#[98]⟩] 9)
theorem alV_below (w : World) : Below w.heap.size w (alV w) := ((((Below.refl _ _).alloc (Nat.le_refl _) _).alloc (by simp) _).alloc (by simp; omega) _).alloc (by simp; omega) _
theorem alV_mat (w : World) : MatAt (alV w) 0 (some ⟨w.heap.size + 1 + 1, 0, none⟩) 2 (mkM 2 [3, 2]) := by
  have q0 : Box (alV w) w.heap.size 63 (numsA [3]) := (((Box.new w 63 #[.int .u64 3]).alloc _).alloc _).alloc _
  have q1 : Box (alV w) (w.heap.size + 1) 63 (numsA [2]) := by
    have := ((Box.new (w.alloc (.cells #[.int .u64 3] 63)) 63 #[.int .u64 2]).alloc (.cells #[.int .i64 2, .slice (some ⟨w.heap.size, 0, none⟩) 1 1, .int .i64 2, .slice (some ⟨w.heap.size + 1, 0, none⟩) 1 1] 27)).alloc (.cells #[.string ⟨#[97]⟩, .string ⟨#[98]⟩] 9)
    simp only [World.size_alloc] at this
    exact this
  have q2 : Box (alV w) (w.heap.size + 1 + 1) 27 #[.int .i64 2, .slice (some ⟨w.heap.size, 0, none⟩) 1 1, .int .i64 2, .slice (some ⟨w.heap.size + 1, 0, none⟩) 1 1] := by
    have := (Box.new ((w.alloc (.cells #[.int .u64 3] 63)).alloc (.cells #[.int .u64 2] 63)) 27 #[.int .i64 2, .slice (some ⟨w.heap.size, 0, none⟩) 1 1, .int .i64 2, .slice (some ⟨w.heap.size + 1, 0, none⟩) 1 1]).alloc (.cells #[.string ⟨#[97]⟩, .string ⟨#[98]⟩] 9)
    simp only [World.size_alloc] at this
    exact this
  have hz : ∀ j, ([3] : List Nat).getD j 0 < 18446744073709551616 := fun j => by match j with | 0 => decide | j + 1 => simp
  have hz2 : ∀ j, ([2] : List Nat).getD j 0 < 18446744073709551616 := fun j => by match j with | 0 => decide | j + 1 => simp
  have w0 : Words (alV w) (some ⟨w.heap.size, 0, none⟩) 1 (rowOf 2 3) := by rw [show rowOf 2 3 = [3] by decide]; exact q0.words hz
  have w1 : Words (alV w) (some ⟨w.heap.size + 1, 0, none⟩) 1 (rowOf 2 2) := by rw [show rowOf 2 2 = [2] by decide]; exact q1.words hz2
  refine ⟨rfl, fun _ => ⟨_, 0, rfl, Nat.zero_le _, q2.lt, fun j hj => ?_⟩⟩
  match j, hj with
  | 0, _ => exact ⟨_, 1, 1, q2.cell 0, q2.cell 1, ⟨Nat.le_refl _, by decide, fun h => by cases h⟩, w0⟩
  | 1, _ => exact ⟨_, 1, 1, q2.cell 2, q2.cell 3, ⟨Nat.le_refl _, by decide, fun h => by cases h⟩, w1⟩
theorem alV_texts (w : World) : Texts (alV w) (some ⟨w.heap.size + 1 + 1 + 1, 0, none⟩) 2 [bA, bB] := by
  have := pair_texts (((w.alloc (.cells #[.int .u64 3] 63)).alloc (.cells #[.int .u64 2] 63)).alloc (.cells #[.int .i64 2, .slice (some ⟨w.heap.size, 0, none⟩) 1 1, .int .i64 2, .slice (some ⟨w.heap.size + 1, 0, none⟩) 1 1] 27)) 9 bA bB (by decide) (by decide)
  simp only [World.size_alloc] at this
  exact this
theorem alV_in (w : World) : BkIn (alV w) 2 1 [3, 2] [bA, bB] (some ⟨w.heap.size + 1 + 1, 0, none⟩) (some ⟨w.heap.size + 1 + 1 + 1, 0, none⟩) 2 2 2 :=
  ⟨by omega, by omega, fun r hr => by simp only [List.mem_cons, List.not_mem_nil, or_false] at hr; rcases hr with rfl | rfl <;> decide, rfl, by omega, fun s hs => by simp only [List.mem_cons, List.not_mem_nil, or_false] at hs; rcases hs with rfl | rfl <;> decide, ⟨Nat.le_refl _, by decide, fun h => by cases h⟩, alV_mat w, by decide +kernel, alV_texts w, Nat.le_refl _, by decide⟩
theorem alive5_any (w : World) : Calls Tryd.prog 17 #[] w fun e w' => e = .returned (.bool true) ∧ Below w.heap.size w w' := by
  have HB := Lib.hid (alV_below w)
  have HS := Lib.hid (solve_yes (alV w) (alV_in w))
  unfold alV at HS HB
  go_enter Tryd.func17, Tryd.ntmps17
  go_wp2_with fail
  refine HS.out.mono ?_
  rintro e x1 ⟨E, blks, B, c, rfl, ht, h64, hc, hcm, hres, hb⟩
  have HB := Lib.hid (HB.out.trans (hb.mono HB.out.size))
  obtain ⟨rfl, hbk⟩ : E = 0 ∧ blks = [b3, bB] := by
    rcases hres with ⟨-, h, -⟩ | ⟨-, -, -, cols, bl, hk, hl⟩ | ⟨rfl, -, cols, hk, -⟩
    · exact absurd al_fits h
    · have := (known_uniq al_fits hk al_known).1
      rw [this] at hl
      simp at hl
    · exact ⟨rfl, (known_uniq al_fits hk al_known).2⟩
  subst hbk
  obtain ⟨b2, o2, hB2, hlt2, hc2⟩ := ht.2.2 (by simp)
  subst hB2
  have c0 := hc2 0 (by simp)
  have c1 := hc2 1 (by simp)
  simp only [Nat.add_zero] at c0
  change x1.cell? ⟨b2, o2, none⟩ = some (.string ⟨#[3]⟩) at c0
  change x1.cell? ⟨b2, o2 + 1, none⟩ = some (.string ⟨#[98]⟩) at c1
  clear hb HS hres ht hc2 hc hcm
  go_wp2_with fail
  go_ret
  exact ⟨by simp, HB.out⟩
end
section
/- Contract of law 05's few: a matrix of at most 66 rows, of three words each, and at most 66 blocks. -/
set_option linter.unusedVariables false
set_option linter.unusedSimpArgs false
open Go.RowKit
set_option maxRecDepth 100000
/-- The first texts, 66 bytes each. -/
def cutT (s : ByteArray) : ByteArray := s.extract 0 (min s.size 66)
def fewT (ss : List ByteArray) (k : Nat) : List ByteArray := (ss.take k).map cutT
theorem cutT_size (s : ByteArray) : (cutT s).size ≤ 66 := by simp [cutT, ByteArray.size_extract]; omega
theorem fewT_succ (ss : List ByteArray) (k : Nat) (h : k < ss.length) : fewT ss (k + 1) = fewT ss k ++ [cutT (ss.getD k ByteArray.empty)] := by
  unfold fewT; rw [List.take_succ_eq_append_getElem h, List.map_append]; simp only [List.getD, List.getElem?_eq_getElem h, Option.getD_some, List.map_cons, List.map_nil]
theorem fewT_len (ss : List ByteArray) (k : Nat) (h : k ≤ ss.length) : (fewT ss k).length = k := by simp [fewT]; omega
theorem own_slok {w : World} {base e size : Nat} {A : Option Addr} {n c : Nat} {xs : List Value} (h : w.ownsRow base e size (.slice A n c) n xs) : SliceOk A n c := by
  rcases h.2 with ⟨hv, hz⟩ | ⟨g, cap, cur, hv, hb, hh, hc, hm, -⟩
  · injection hv with h1 _ h3; subst h3; exact ⟨by omega, by simp [maxLen], fun _ => ⟨hz, rfl⟩⟩
  · injection hv with h1 _ h3; subst h3; exact ⟨hc, hm, fun e => by rw [h1] at e; cases e⟩
theorem own_some5 {w : World} {base e size n c : Nat} {A : Option Addr} {xs : List Value} (h : w.ownsRow base e size (.slice A n c) n xs) (hn : 0 < n) : ∃ g, A = some ⟨g, 0, none⟩ ∧ base ≤ g ∧ g < w.heap.size := by
  rcases h.2 with ⟨hv, hz⟩ | ⟨g, cap, cur, hv, hb, hh, -⟩
  · omega
  · injection hv with hv
    exact ⟨g, hv, hb, (show Box w g e cur from hh).lt⟩
theorem texts_put {w : World} {A : Option Addr} {ss : List ByteArray} (h : Texts w A ss.length ss) {B : Nat} {t : TypeId} {cs : Array Value} (hb : Box w B t cs) (hne : ∀ b o, A = some ⟨b, o, none⟩ → 0 < ss.length → b ≠ B) (u v : Value) : Texts ((w.setCell ⟨B, 0, none⟩ u).setCell ⟨B, 1, none⟩ v) A ss.length ss := by
  refine ⟨h.1, h.2.1, fun hp => ?_⟩
  obtain ⟨b, o, hA, hlt, hc⟩ := h.2.2 hp
  have hn := hne b o hA hp
  refine ⟨b, o, hA, by simpa [World.setCell] using hlt, fun j hj => ?_⟩
  rw [World.cell?_setCell_other _ _ _ _ (by intro e; injection e; omega), World.cell?_setCell_other _ _ _ _ (by intro e; injection e; omega)]
  exact hc j hj
def Few5Out (N : Int) (ms : List (Int × List Nat)) (ts : List ByteArray) (w : World) (e : Ending) (w' : World) : Prop :=
  ∃ (A S : Option Addr) (c d : Nat), e = .returned (.tuple #[.agg #[.int .i64 N, .slice A ms.length c], .slice S ts.length d]) ∧ SliceOk A ms.length c ∧ SliceOk S ts.length d ∧ MatAt w' w.heap.size A ms.length ms ∧ Texts w' S ts.length ts ∧ (∀ b o, S = some ⟨b, o, none⟩ → 0 < ts.length → w.heap.size ≤ b) ∧ Below w.heap.size w w'
set_option maxHeartbeats 8000000 in
theorem few5_any (N : Int) (A S : Option Addr) (l c k d : Nat) (ms : List (Int × List Nat)) (ss : List ByteArray) (w : World) (hs : SliceOk A l c) (hm : MatAt w 0 A l ms) (hs2 : SliceOk S k d) (ht : Texts w S k ss) :
    Calls Tryd.prog 15 #[.agg #[.int .i64 N, .slice A l c], .slice S k d] w (Few5Out N (fewM ms) (fewT ss (min k 66)) w) := by
  obtain ⟨i0, hi, hz0, hz1, hz2⟩ := info_parts row_infoM
  obtain ⟨j0, ji, jz0, jz1, jz2⟩ := info_parts str_info5
  have HM := Lib.hid hm
  have HT := Lib.hid ht
  have HL := Lib.hid hm.1
  have HK := Lib.hid ht.1
  have b1 : Below w.heap.size w ((w.alloc (.cells #[.int .i64 N, .slice A l c] 24)).alloc (.cells #[.int .i64 0, .slice none 0 0] 24)) := ((Below.refl _ _).alloc (Nat.le_refl _) _).alloc (by simp) _
  have Q0 := Lib.hid ((Box.new w 24 #[.int .i64 N, .slice A l c]).alloc (.cells #[.int .i64 0, .slice none 0 0] 24))
  have q1 := Box.new (w.alloc (.cells #[.int .i64 N, .slice A l c] 24)) 24 #[.int .i64 0, .slice none 0 0]
  simp only [World.size_alloc] at q1
  have Q1 := Lib.hid q1
  have HB := Lib.hid b1
  clear hm ht q1 b1
  obtain ⟨r0, r1, -, -⟩ := Q0.out.two
  obtain ⟨hs1, hs2', hs3⟩ := hs
  obtain ⟨ht1, ht2, ht3⟩ := hs2
  unfold maxLen at hs2' ht2
  have hfl := fewM_len ms
  rw [HL.out] at hfl
  obtain ⟨kk, ekk⟩ : ∃ k, k = min l 66 := ⟨_, rfl⟩
  rw [← ekk] at hfl
  have HFL := Lib.hid hfl
  have hkk1 : kk ≤ l := by omega
  have hkk2 : kk ≤ 66 := by omega
  have hkk3 : kk ≤ c := by omega
  have mkk : (if (66 : Int) < (l : Int) then 66 else (l : Int)) = (kk : Int) := by split <;> omega
  obtain ⟨tt, ett⟩ : ∃ t, t = min k 66 := ⟨_, rfl⟩
  rw [← ett]
  have htt1 : tt ≤ k := by omega
  have htt2 : tt ≤ 66 := by omega
  have htt3 : tt ≤ d := by omega
  have mtt : (if (66 : Int) < (k : Int) then 66 else (k : Int)) = (tt : Int) := by split <;> omega
  clear ekk ett hfl hs3 ht3
  go_enter Tryd.func15, Tryd.ntmps15
  go_wp2_with fail
  clear r0 r1 mkk
  go_loopw [20, 6] (fun t v wr => ∃ (i : Nat) (rs : List RowV), i ≤ kk ∧ t = .int .i64 (i : Int) ∧ Hid (rs.length = i) ∧ Hid (wr.ownsRow (w.heap.size + 2) 27 2 v i (rowCells rs)) ∧ Hid (∀ j, j < i → (rs.getD j (0, none, 0, 0)).1 = (ms.getD j (0, [])).1 ∧ SliceOk (rs.getD j (0, none, 0, 0)).2.1 (rs.getD j (0, none, 0, 0)).2.2.1 (rs.getD j (0, none, 0, 0)).2.2.2 ∧ Words w (rs.getD j (0, none, 0, 0)).2.1 (rs.getD j (0, none, 0, 0)).2.2.1 ((ms.getD j (0, [])).2.take 3)) ∧ Hid (Box wr w.heap.size 24 #[.int .i64 N, .slice A l c]) ∧ Hid (Box wr (w.heap.size + 1) 24 #[.int .i64 0, .slice none 0 0]) ∧ Hid (Below w.heap.size w wr)) (fun t _ _ => kk - (intOf t).toNat)
  case atStart => exact ⟨0, [], by omega, rfl, Lib.hid rfl, Lib.hid (World.ownsRow_nil _ _ _ _), Lib.hid (fun j hj => absurd hj (Nat.not_lt_zero _)), Q0, Q1, HB⟩
  case round =>
    obtain ⟨i, rs, hi', rfl, HRL, HO, HR, R0, R1, HBr⟩ := hrel
    by_cases hlt : i < kk
    · have hlt' : (i : Int) < (kk : Int) := by omega
      obtain ⟨g1, o1, B1, l1, c1, hA, hg1, x1, y1, s1, u1⟩ := HM.out.at i (by omega)
      subst hA
      have x1 := (HBr.out.cell (p := ⟨g1, o1 + i * 2, none⟩) hg1).trans x1
      have y1 := (HBr.out.cell (p := ⟨g1, o1 + i * 2 + 1, none⟩) hg1).trans y1
      obtain ⟨n, hn⟩ : ∃ n, n = (ms.getD i (0, [])).1 := ⟨_, rfl⟩
      obtain ⟨us, hus⟩ : ∃ us, us = (ms.getD i (0, [])).2 := ⟨_, rfl⟩
      rw [← hn] at x1
      rw [← hus] at u1
      have HP := Lib.hid (show ms.getD i (0, []) = (n, us) by rw [hn, hus])
      obtain ⟨ha, hb, hc⟩ := s1
      unfold maxLen at hb
      obtain ⟨k1, ek⟩ : ∃ k, k = min l1 3 := ⟨_, rfl⟩
      have hk1 : k1 ≤ l1 := by omega
      have hk2 : k1 ≤ 3 := by omega
      have hk3 : k1 ≤ c1 := by omega
      have mk : (if (3 : Int) < (l1 : Int) then 3 else (l1 : Int)) = (k1 : Int) := by split <;> omega
      have hKt : us.take k1 = us.take 3 := by
        rw [ek]
        by_cases h : l1 ≤ 3
        · rw [Nat.min_eq_left h, List.take_of_length_le (by rw [u1.1]; omega), List.take_of_length_le (by rw [u1.1]; omega)]
        · rw [Nat.min_eq_right (by omega)]
      have HWd := Lib.hid (show (n : Int) = n ∧ SliceOk B1 k1 c1 ∧ Words w B1 k1 (us.take 3) from ⟨rfl, ⟨hk3, by unfold maxLen; omega, fun h => by have := hc h; omega⟩, by rw [← hKt]; exact u1.take k1 hk1⟩)
      clear hn hus ek hKt u1 hc
      have al : Below wr.heap.size wr (wr.alloc (.cells #[.int .i64 n, .slice B1 k1 c1] 27)) := (Below.refl _ _).alloc (Nat.le_refl _) _
      have al2 := (al.alloc al.size (.cells #[.int .i64 n, .slice B1 k1 c1] 27))
      have XO := Lib.hid (own_keep HO.out al2)
      have X0 := Lib.hid (R0.out.keep al2)
      have X1 := Lib.hid (R1.out.keep al2)
      have XB := Lib.hid (chain HBr.out al2)
      have BN := Box.new (wr.alloc (.cells #[.int .i64 n, .slice B1 k1 c1] 27)) 27 #[.int .i64 n, .slice B1 k1 c1]
      simp only [World.size_alloc] at BN
      have HNW := Lib.hid (World.news_of_block BN)
      have hws := HBr.out.size
      have hrs := R1.out.lt
      have XS := Lib.hid (show w.heap.size + 2 ≤ ((wr.alloc (.cells #[.int .i64 n, .slice B1 k1 c1] 27)).alloc (.cells #[.int .i64 n, .slice B1 k1 c1] 27)).heap.size by simp; omega)
      have PB := Lib.hid (Box.new wr 27 #[.int .i64 n, .slice B1 k1 c1])
      obtain ⟨p0, p1, p2, p3⟩ := (Box.new wr 27 #[.int .i64 n, .slice B1 l1 c1]).two
      obtain ⟨z0, z1, -, -⟩ := PB.out.two
      clear al al2 BN
      go_wp2_with (at_builtin; refine wpList_append_own _ rfl _ _ 22 rfl (w.heap.size + 2) 27 i0 (.agg #[.int .i64 0, .slice none 0 0]) 2 32 Tryd.underlying22 hi hz0 hz1 hz2 rfl (by decide) _ _ _ rfl XO.out ⟨wr.heap.size + 1, 0, none⟩ 1 1 [.int .i64 n, .slice B1 k1 c1] rfl rfl HNW.out (by simp [Value.oneCell']) (by simp [maxLen]; omega) (by omega) XS.out ?_; intro v' w1 hown' hgrow _; have HO2 := Lib.hid hown'; have HG2 := Lib.hid hgrow; clear hown' hgrow)
      have hpc : PC _ w1 27 := ⟨_, HG2.out, fun g e => (own_blk XO.out g e).2⟩
      have Z0 := Lib.hid (hpc.box X0.out (by decide))
      have Z1 := Lib.hid (hpc.box X1.out (by decide))
      have ZB := Lib.hid (gr_low XB.out XB.out.size HG2.out (fun g e => by have := (own_blk XO.out g e).1; omega))
      have ZO := Lib.hid (show w1.ownsRow (w.heap.size + 2) 27 2 v' (i + 1) (rowCells (rs ++ [(n, B1, k1, c1)])) by rw [rowCells_snoc]; exact HO2.out)
      have ZR := Lib.hid (fun j (hj : j < i + 1) => show ((rs ++ [(n, B1, k1, c1)]).getD j (0, none, 0, 0)).1 = (ms.getD j (0, [])).1 ∧ SliceOk ((rs ++ [(n, B1, k1, c1)]).getD j (0, none, 0, 0)).2.1 ((rs ++ [(n, B1, k1, c1)]).getD j (0, none, 0, 0)).2.2.1 ((rs ++ [(n, B1, k1, c1)]).getD j (0, none, 0, 0)).2.2.2 ∧ Words w ((rs ++ [(n, B1, k1, c1)]).getD j (0, none, 0, 0)).2.1 ((rs ++ [(n, B1, k1, c1)]).getD j (0, none, 0, 0)).2.2.1 ((ms.getD j (0, [])).2.take 3) by
        by_cases hji : j < i
        · have e1 : (rs ++ [(n, B1, k1, c1)]).getD j (0, none, 0, 0) = rs.getD j (0, none, 0, 0) := by simp only [List.getD]; rw [List.getElem?_append_left (by rw [HRL.out]; exact hji)]
          rw [e1]; exact HR.out j hji
        · obtain rfl : j = i := by omega
          have e1 : (rs ++ [(n, B1, k1, c1)]).getD j (0, none, 0, 0) = (n, B1, k1, c1) := by rw [← HRL.out]; simp [List.getD]
          rw [e1, HP.out]
          exact HWd.out)
      have ZL := Lib.hid (show (rs ++ [(n, B1, k1, c1)]).length = i + 1 by rw [List.length_append, HRL.out]; rfl)
      clear hpc HO2 HG2 XO X0 X1 XB HNW XS PB p0 p1 p2 p3 z0 z1 x1 y1 HO HR R0 R1 HBr HRL
      go_roundw
      case rel => exact ⟨i + 1, _, by omega, by go_num, ZL, ZO, ZR, Z0, Z1, ZB⟩
      case measure => simp [intOf]; omega
    · obtain rfl : i = kk := by omega
      have hlt' : ¬ (i : Int) < (i : Int) := by omega
      obtain ⟨A', c', hv, hc', hmat⟩ := own_mat HO.out HRL.out (fewM ms) HFL.out (fun j hj => by
        obtain ⟨a1, a2, a3⟩ := HR.out j hj
        rw [fewM_at ms j (by rw [HL.out]; omega) (by omega)]
        exact ⟨a1, a2, a3.below HBr.out⟩)
      subst hv
      have HSl := Lib.hid (own_slok HO.out)
      have hlo : 0 < i → ∀ b o, A' = some ⟨b, o, none⟩ → b ≠ w.heap.size ∧ b ≠ w.heap.size + 1 := fun h0 b o hA => by
        obtain ⟨g, hg, hg2, -⟩ := own_some5 HO.out h0
        rw [hg] at hA
        injection hA with hA
        injection hA with hA
        omega
      have hMat := hmat.farB (B := w.heap.size) (fun b o hA h0 => (hlo h0 b o hA).1) R0.out 1 (.slice A' i c')
      have P0 := Lib.hid (R0.out.put 1 (.slice A' i c'))
      have P1 := Lib.hid (R1.out.far (p := ⟨w.heap.size, 1, none⟩) (by simp) (.slice A' i c'))
      have PB := Lib.hid (HBr.out.setCell (p := ⟨w.heap.size, 1, none⟩) (Nat.le_refl _) (.slice A' i c'))
      have HMat := Lib.hid hMat
      have HLo := Lib.hid hlo
      have hrs := R1.out.lt
      have HSz := Lib.hid (show (wr.setCell ⟨w.heap.size, 1, none⟩ (.slice A' i c')).heap.size = wr.heap.size by simp [World.setCell])
      obtain ⟨s0, s1, s2, s3⟩ := R0.out.two
      obtain ⟨p0, p1, p2, p3⟩ := P0.out.two
      clear hmat hMat hlo HO HR
      go_wp2_with fail
      clear s0 s1 s2 s3 p0 p1 p2 p3 mtt
      generalize hW2 : wr.setCell ⟨w.heap.size, 1, none⟩ (.slice A' i c') = w2 at *
      have P0' := Lib.hid (show Box w2 w.heap.size 24 #[.int .i64 N, .slice A' i c'] from P0.out)
      clear hW2 P0
      obtain ⟨wA, rfl⟩ : ∃ wA : World, wA = wr := ⟨_, rfl⟩
      go_loopw [45, 9] (fun u v wr => ∃ j : Nat, j ≤ tt ∧ u = .int .i64 (j : Int) ∧ Hid (wr.ownsRow w2.heap.size 9 1 v j ((fewT ss j).map Value.string)) ∧ Hid (Below w2.heap.size w2 wr)) (fun u _ _ => tt - (intOf u).toNat)
      case atStart => exact ⟨0, by omega, rfl, Lib.hid (by simpa [fewT] using World.ownsRow_nil _ _ _ _), Lib.hid (Below.refl _ _)⟩
      case round =>
        obtain ⟨j, hj, rfl, JO, JB⟩ := hrel
        have hjb := JB.out.size
        by_cases hjl : j < tt
        · have hjl' : (j : Int) < (tt : Int) := by omega
          obtain ⟨b2, o2, hS, hb2, hc2⟩ := HT.out.2.2 (by omega)
          subst hS
          have hww : w.heap.size ≤ w2.heap.size := PB.out.size
          have y0 := ((chainN PB.out hww JB.out).cell (p := ⟨b2, o2 + j, none⟩) hb2).trans (hc2 j (by omega))
          have hsz := HT.out.2.1 j
          have HS := Lib.hid (fewT_succ ss j (by rw [HK.out]; omega))
          obtain ⟨s, hse⟩ : ∃ s, s = ss.getD j ByteArray.empty := ⟨_, rfl⟩
          rw [← hse] at y0 hsz HS
          unfold maxLen at hsz
          obtain ⟨q, hq⟩ : ∃ q, q = min s.size 66 := ⟨_, rfl⟩
          have hq1 : q ≤ s.size := by omega
          have hq2 : q ≤ 66 := by omega
          have mq : (if (66 : Int) < (s.size : Int) then 66 else (s.size : Int)) = (q : Int) := by split <;> omega
          have HE := Lib.hid (show cutT s = s.extract 0 q by rw [cutT, ← hq])
          clear hse hq hc2
          have XO := Lib.hid (JO.out.alloc (.cells #[.string (s.extract 0 q)] 9))
          have al : Below wr.heap.size wr (wr.alloc (.cells #[.string (s.extract 0 q)] 9)) := (Below.refl _ _).alloc (Nat.le_refl _) _
          have XB := Lib.hid (chainN JB.out hjb al)
          clear al
          go_wp2_with (at_builtin; refine wpList_append_own _ rfl _ _ 44 rfl w2.heap.size 9 j0 (.string ⟨#[]⟩) 1 16 Tryd.underlying44 ji jz0 jz1 jz2 rfl (by decide) _ _ _ rfl XO.out ⟨wr.heap.size, 0, none⟩ 1 1 [.string (s.extract 0 q)] rfl rfl (cell_one_new _ _ _) (by simp [Value.oneCell']) (by simp [maxLen]; omega) (by omega) XB.out.size ?_; intro v' w1 hown' hgrow _; have HO2 := Lib.hid hown'; have HG2 := Lib.hid hgrow; clear hown' hgrow)
          have RB := Lib.hid (gr_low XB.out XB.out.size HG2.out (fun g e => (own_blk XO.out g e).1))
          have RO := Lib.hid (show w1.ownsRow w2.heap.size 9 1 v' (j + 1) ((fewT ss (j + 1)).map Value.string) by rw [HS.out, List.map_append, HE.out]; exact HO2.out)
          clear XO XB HO2 HG2 JO JB y0
          go_roundw
          case rel => exact ⟨j + 1, by omega, by go_num, RO, RB⟩
          case measure => simp [intOf]; omega
        · obtain rfl : j = tt := by omega
          have hjl' : ¬ (j : Int) < (j : Int) := by omega
          have hTl : (fewT ss j).length = j := fewT_len ss j (by rw [HK.out]; omega)
          have HTl := Lib.hid hTl
          obtain ⟨S', d', hv, -⟩ := own_form JO.out
          subst hv
          have HS2 := Lib.hid (own_slok JO.out)
          have HTx := Lib.hid (own_texts5 (ss := fewT ss j) (by rw [hTl]; exact JO.out) (fun s hs => by
            obtain ⟨x, -, rfl⟩ := List.mem_map.1 hs
            have := cutT_size x
            unfold maxLen; omega))
          have hww : w.heap.size ≤ w2.heap.size := PB.out.size
          have R0' := Lib.hid (P0'.out.below JB.out P0'.out.lt)
          have R1' := Lib.hid (P1.out.below JB.out P1.out.lt)
          have hM2 := HMat.out.mono (Nat.le_refl _) JB.out
          have hMx := (hM2.farB (B := w.heap.size + 1) (fun b o hA h0 => (HLo.out h0 b o hA).2) R1'.out 0 (.int .i64 N)).farB (B := w.heap.size + 1) (fun b o hA h0 => (HLo.out h0 b o hA).2) (R1'.out.put 0 (.int .i64 N)) 1 (.slice A' i c')
          have HMx := Lib.hid hMx
          have HBl := Lib.hid (((chainN PB.out hww JB.out).setCell (p := ⟨w.heap.size + 1, 0, none⟩) (by simp) (.int .i64 N)).setCell (p := ⟨w.heap.size + 1, 1, none⟩) (by simp) (.slice A' i c'))
          have HTy := Lib.hid (texts_put HTx.out R1'.out (fun b o hA h0 => by
            obtain ⟨g, hg, hg2, -⟩ := own_some5 JO.out (by rw [← hTl]; exact h0)
            rw [hg] at hA
            injection hA with hA
            injection hA with hA
            have := P1.out.lt
            omega) (.int .i64 N) (.slice A' i c'))
          have HLoS := Lib.hid (show ∀ b o, S' = some ⟨b, o, none⟩ → 0 < (fewT ss j).length → w.heap.size ≤ b from fun b o hA h0 => by
            obtain ⟨g, hg, hg2, -⟩ := own_some5 JO.out (by rw [← hTl]; exact h0)
            rw [hg] at hA
            injection hA with hA
            injection hA with hA
            omega)
          obtain ⟨s0, s1, s2, s3⟩ := R0'.out.two
          obtain ⟨p0, p1, p2, p3⟩ := R1'.out.two
          clear hM2 hMx hTl
          go_wp2_with fail
          refine close_cell Tryd.results15 rfl rfl rfl R1'.out.put2 Tryd.underlying24 rfl (by kernel_rfl) ⟨A', S', c', d', by rw [HFL.out, HTl.out]; rfl, by rw [HFL.out]; exact HSl.out, by rw [HTl.out]; exact HS2.out, by rw [HFL.out]; exact HMx.out.low (by omega), HTy.out, HLoS.out, HBl.out⟩
end
section
/- Two boxes of rows, stored anew one after the other. No program. -/
set_option linter.unusedVariables false
set_option linter.unusedSimpArgs false
open Go.RowKit
theorem two_rows {x : World} {g1 g2 : Nat} {t : TypeId} {i1 i2 j1 j2 : Int} {S1 S2 T1 T2 : Option Addr} {p1 q1 p2 q2 l1 c1 l2 c2 : Nat}
    (h1 : Box x g1 t #[.int .i64 i1, .slice S1 p1 q1]) (h2 : Box x g2 t #[.int .i64 i2, .slice S2 p2 q2]) (n12 : g1 ≠ g2)
    {w : World} (hb : Below w.heap.size w x) (b1 : w.heap.size ≤ g1) (b2 : w.heap.size ≤ g2)
    {xa bs : List Nat} (u1 : Words x T1 l1 xa) (u2 : Words x T2 l2 bs) :
    let y := (((x.setCell ⟨g1, 0, none⟩ (.int .i64 j1)).setCell ⟨g1, 1, none⟩ (.slice T1 l1 c1)).setCell ⟨g2, 0, none⟩ (.int .i64 j2)).setCell ⟨g2, 1, none⟩ (.slice T2 l2 c2)
    Box y g1 t #[.int .i64 j1, .slice T1 l1 c1] ∧ Box y g2 t #[.int .i64 j2, .slice T2 l2 c2] ∧ Words y T1 l1 xa ∧ Words y T2 l2 bs ∧ Below w.heap.size w y := by
  have k1 : Box ((x.setCell ⟨g1, 0, none⟩ (.int .i64 j1)).setCell ⟨g1, 1, none⟩ (.slice T1 l1 c1)) g1 t #[.int .i64 j1, .slice T1 l1 c1] := h1.put2
  have k2 := (h2.far (p := ⟨g1, 0, none⟩) n12.symm (.int .i64 j1)).far (p := ⟨g1, 1, none⟩) n12.symm (.slice T1 l1 c1)
  have v1 := u1.put2 h1 (.int .i64 j1) (.slice T1 l1 c1)
  have v2 := u2.put2 h1 (.int .i64 j1) (.slice T1 l1 c1)
  exact ⟨(k1.far (p := ⟨g2, 0, none⟩) n12 (.int .i64 j2)).far (p := ⟨g2, 1, none⟩) n12 (.slice T2 l2 c2), k2.put2, v1.put2 k2 _ _, v2.put2 k2 _ _,
    (((hb.setCell (p := ⟨g1, 0, none⟩) b1 _).setCell (p := ⟨g1, 1, none⟩) b1 _).setCell (p := ⟨g2, 0, none⟩) b2 _).setCell (p := ⟨g2, 1, none⟩) b2 _⟩
theorem Ints.drew {w : World} {A : Option Addr} {len : Nat} {zs : List Int} (h : Ints w A len zs) : Ints w.drew A len zs := h
theorem Ints.take {w : World} {A : Option Addr} {len : Nat} {zs : List Int} (h : Ints w A len zs) (k : Nat) (hk : k ≤ len) : Ints w A k (zs.take k) := by
  refine ⟨by simp [h.1]; omega, fun j => ?_, fun hp => ?_⟩
  · by_cases hj : j < k
    · have := h.2.1 j
      simpa [List.getD, List.getElem?_take, hj] using this
    · simp [List.getD, List.getElem?_take, hj]
  · obtain ⟨b, off, rfl, hlt, hc⟩ := h.2.2 (by omega)
    refine ⟨b, off, rfl, hlt, fun j hj => ?_⟩
    rw [hc j (by omega)]
    simp [List.getD, List.getElem?_take, hj]
/-- Ints of a block below keep off boxes above. -/
theorem Ints.put2r {w x : World} {A : Option Addr} {len : Nat} {zs : List Int} {g1 g2 : Nat} {a b c d : Value} (h : Ints x A len zs) (h1 : w.heap.size ≤ g1) (h2 : w.heap.size ≤ g2) (hlow : 0 < len → ∀ p o, A = some ⟨p, o, none⟩ → p < w.heap.size) :
    Ints ((((x.setCell ⟨g1, 0, none⟩ a).setCell ⟨g1, 1, none⟩ b).setCell ⟨g2, 0, none⟩ c).setCell ⟨g2, 1, none⟩ d) A len zs := by
  refine ⟨h.1, h.2.1, fun hp => ?_⟩
  obtain ⟨p, o, rfl, hlt, hc⟩ := h.2.2 hp
  have hl := hlow hp p o rfl
  refine ⟨p, o, rfl, by simpa [World.setCell] using hlt, fun j hj => ?_⟩
  rw [World.cell?_setCell_other _ _ _ _ (by intro e; injection e; omega), World.cell?_setCell_other _ _ _ _ (by intro e; injection e; omega), World.cell?_setCell_other _ _ _ _ (by intro e; injection e; omega), World.cell?_setCell_other _ _ _ _ (by intro e; injection e; omega)]
  exact hc j hj
theorem Ints.low {w : World} {A : Option Addr} {len : Nat} {zs : List Int} (h : Ints w A len zs) : 0 < len → ∀ p o, A = some ⟨p, o, none⟩ → p < w.heap.size := by
  intro hp p o hA
  obtain ⟨p', o', hA', hlt, _⟩ := h.2.2 hp
  rw [hA] at hA'
  injection hA' with hA'
  injection hA' with e1 e2
  omega
end
section
/- Contracts of layer 2's reference: Why, Ones. -/
set_option linter.unusedVariables false
set_option linter.unusedSimpArgs false
open Go.RowKit
def whyE (b : Bool) : Int := if b then 0 else 2
end
section
/- Contract of layer 2's reference: Ones. -/
set_option linter.unusedVariables false
set_option linter.unusedSimpArgs false
open Go.RowKit
theorem int_infoB : (Tryd.prog.info? 3).map (fun i => (i.zero, i.size, i.bytes)) = some (some (.int .i64 0), 1, 8) := by kernel_rfl
def ones (k : Nat) : List Int := List.replicate k 1
theorem ones_succ (k : Nat) : ones (k + 1) = ones k ++ [1] := List.replicate_succ'
theorem ones_lt (k j : Nat) : -9223372036854775808 ≤ (ones k).getD j 0 ∧ (ones k).getD j 0 ≤ 9223372036854775807 := by
  simp only [ones, List.getD, List.getElem?_replicate]
  split <;> simp
/-- A slice of whole numbers is returned. -/
def IntsOut (n : Nat) (zs : List Int) (w : World) (e : Ending) (w' : World) : Prop := ∃ A c, e = .returned (.slice A n c) ∧ Ints w' A n zs ∧ Below w.heap.size w w'
end
section
/- Contract of layer 2's reference: Sum. -/
set_option linter.unusedVariables false
set_option linter.unusedSimpArgs false
open Go.RowKit
/-- Byte i of the sum of those of the first k texts whose bit is 1. -/
def bsum (ss : List ByteArray) (zs : List Int) (i : Nat) : Nat → UInt8
  | 0 => 0
  | k + 1 => if zs.getD k 0 = 1 then bsum ss zs i k ^^^ (ss.getD k ByteArray.empty).data.toList.getD i 0 else bsum ss zs i k
def bsums (ss : List ByteArray) (zs : List Int) (l k : Nat) : List UInt8 := (List.range k).map fun i => bsum ss zs i l
theorem bsums_succ (ss : List ByteArray) (zs : List Int) (l k : Nat) : bsums ss zs l (k + 1) = bsums ss zs l k ++ [bsum ss zs k l] := by
  simp [bsums, List.range_succ]
theorem bsum_ones (n : Nat) (ss : List ByteArray) (l i k : Nat) (hi : i < n) (hk : k ≤ l) (hl : ss.length = l) : bsum ss (ones l) i k = (sumL n (ss.take k)).getD i 0 := by
  induction k with
  | zero => simp [bsum, sumL, List.getD, hi]
  | succ k ih =>
    have h1 : (ones l).getD k 0 = 1 := by simp [ones, List.getD, show k < l by omega]
    have hln : i < (sumL n (ss.take k)).length := by rw [sumL_length]; exact hi
    rw [bsum, if_pos h1, ih (by omega), ← sumL_snoc n ss k (by omega)]
    generalize sumL n (ss.take k) = x at *
    simp [bxL, List.getD, hln]
theorem bsums_ones (n : Nat) (ss : List ByteArray) (l : Nat) (hl : ss.length = l) : bsums ss (ones l) l n = sumL n ss := by
  apply List.ext_getElem
  · simp [bsums, sumL_length]
  · intro i h1 h2
    have hi : i < n := by simpa [bsums] using h1
    have := bsum_ones n ss l i l hi (Nat.le_refl _) hl
    rw [List.take_of_length_le (by omega)] at this
    simp only [bsums, List.getElem_map, List.getElem_range, this]
    simp [List.getD, h2]
theorem uint8_infoB : (Tryd.prog.info? 5).map (fun i => (i.zero, i.size, i.bytes)) = some (some (.int .u8 0), 1, 1) := by kernel_rfl
def byteV (b : UInt8) : Value := .int .u8 (b.toNat : Int)
theorem own_bytes {w : World} {base e n : Nat} {v : Value} {l : List UInt8} (h : w.ownsRow base e 1 v n (l.map byteV)) (hne : v ≠ .slice none 0 0) :
    (convert 54 9 v).run Tryd.prog w = .ok (.string ⟨l.toArray⟩) w := by
  have hl : l.length = n := by have := h.1; simpa using this
  rcases h.2 with ⟨rfl, h0⟩ | ⟨g, cap, cur, rfl, hb, hh, hn, hm, hs, hx⟩
  · exact absurd rfl hne
  · subst hl
    refine run_convert_bytes_back (P := Tryd.prog) w 54 9 5 ⟨g, 0, none⟩ _ l Tryd.underlying54 Tryd.underlying5 Tryd.underlying9 ?_
    intro j hj
    have hadd : Addr.add { block := g, off := 0 } j = ⟨g, j, none⟩ := by
      by_cases h : j = 0 <;> simp [Addr.add, h]
    have hbx : Box w g e cur := hh
    rw [hadd, hbx.cell j]
    have e1 : (cur.toList.take (l.length * 1))[j]? = (l.map byteV)[j]? := by rw [hx]
    rw [Nat.mul_one, List.getElem?_take, if_pos hj] at e1
    simp only [List.getElem?_map, List.getElem?_eq_getElem hj, Option.map_some] at e1
    rw [← Array.getElem?_toList, e1]
    rfl
end
section
/- Equations that blocks make. No program. -/
set_option linter.unusedVariables false
set_option linter.unusedSimpArgs false
/-- The xor of those whose place has a bit. -/
def phi (f : Nat → Nat) (v : Nat) : Nat → Nat
  | 0 => 0
  | k + 1 => phi f v k ^^^ (if v.testBit k then f k else 0)
theorem phi_xor (f : Nat → Nat) (v u k : Nat) : phi f (v ^^^ u) k = phi f v k ^^^ phi f u k := by
  induction k with
  | zero => simp [phi]
  | succ k ih =>
    simp only [phi, ih, Nat.testBit_xor]
    generalize phi f v k = a
    generalize phi f u k = b
    generalize f k = c
    cases v.testBit k <;> cases u.testBit k <;> simp
    · rw [Nat.xor_assoc]
    · rw [Nat.xor_assoc, Nat.xor_assoc, Nat.xor_comm c b]
    · rw [Nat.xor_assoc, Nat.xor_comm c, Nat.xor_assoc, Nat.xor_self, Nat.xor_zero]
theorem phi_zero (f : Nat → Nat) (k : Nat) : phi f 0 k = 0 := by
  induction k with
  | zero => rfl
  | succ k ih => simp [phi, ih]
theorem phi_pow (f : Nat → Nat) (c : Nat) : ∀ k, phi f (2 ^ c) k = if c < k then f c else 0
  | 0 => by simp [phi]
  | k + 1 => by
    rw [phi, phi_pow f c k, Nat.testBit_two_pow]
    by_cases e : c = k
    · subst e; simp
    · by_cases h : c < k
      · simp [e, h, show c < k + 1 by omega]
      · simp [e, h, show ¬ c < k + 1 by omega]
/-- Each block is that of its row. -/
def Lin (N : Nat) (f : Nat → Nat) (Z : List Nat) : Prop := ∀ z ∈ Z, z >>> N = phi f (lowN N z) N
theorem Lin.sp {N : Nat} {f : Nat → Nat} {Z : List Nat} (h : Lin N f Z) {v : Nat} (hv : Sp Z v) : v >>> N = phi f (lowN N v) N := by
  refine sp_ind (P := fun v => v >>> N = phi f (lowN N v) N) ?_ ?_ hv
  · rw [lowN_zero, phi_zero, Nat.zero_shiftRight]
  · intro r u hr hu
    rw [Nat.shiftRight_xor_distrib, lowN_xor, phi_xor, h r hr, hu]
theorem z_split {N u v : Nat} (h1 : lowN N u = lowN N v) (h2 : u >>> N = v >>> N) : u = v := by
  apply Nat.eq_of_testBit_eq
  intro i
  by_cases h : i < N
  · have e := congrArg (fun x => x.testBit i) h1
    simpa only [lowN_bit h] using e
  · have := congrArg (fun x => x.testBit (i - N)) h2
    simp only [Nat.testBit_shiftRight, show N + (i - N) = i by omega] at this
    exact this
theorem Lin.fits {N : Nat} {f : Nat → Nat} {Z : List Nat} (h : Lin N f Z) : FitsP N Z := fun v hv h0 => by
  refine z_split (by rw [h0, lowN_zero]) ?_
  rw [h.sp hv, h0, phi_zero, Nat.zero_shiftRight]
/-- Those that are told are the blocks. -/
theorem Lin.known {N n : Nat} {f : Nat → Nat} {X Z cols : List Nat} {blks : List ByteArray} (h : Lin N f Z) (hk : KnownP N n X Z cols blks) (j : Nat) (hj : j < cols.length) : cols.getD j 0 < N ∧ bn (blks.getD j ByteArray.empty).data.toList = f (cols.getD j 0) := by
  have hc := ((hk.2.1 _).1 (getD_mem hj)).1
  obtain ⟨-, v, hv, hl, hb⟩ := hk.2.2.2 j hj
  refine ⟨hc, ?_⟩
  rw [← hb, h.sp hv, hl, phi_pow, if_pos hc]
theorem rising_range (N : Nat) : (List.range N).Pairwise (· < ·) := List.pairwise_lt_range
theorem rising_sub {L M : List Nat} (hL : L.Pairwise (· < ·)) (hM : M.Pairwise (· < ·)) (h : ∀ x ∈ L, x ∈ M) : L.length ≤ M.length := by
  have e : L = M.filter (fun x => decide (x ∈ L)) := rising_uniq L _ hL (List.Pairwise.filter _ hM) fun x => by
    rw [List.mem_filter]
    constructor
    · intro hx; exact ⟨h x hx, by simpa using hx⟩
    · rintro ⟨-, hx⟩; simpa using hx
  have := List.length_filter_le (fun x => decide (x ∈ L)) M
  rw [← e] at this
  exact this
theorem rising_full {L : List Nat} {N : Nat} (hL : L.Pairwise (· < ·)) (hb : ∀ x ∈ L, x < N) (hl : N ≤ L.length) : L = List.range N := by
  refine rising_uniq L _ hL (rising_range N) fun x => ?_
  rw [List.mem_range]
  constructor
  · exact hb x
  · intro hx
    apply Classical.byContradiction
    intro hn
    have hs : L.Pairwise (· < ·) := hL
    have h1 : L.length ≤ ((List.range N).filter (fun y => decide (y ≠ x))).length := rising_sub hL (List.Pairwise.filter _ (rising_range N)) fun y hy => by
      rw [List.mem_filter, List.mem_range]
      exact ⟨hb y hy, by simp; intro e; subst e; exact hn hy⟩
    have h2 : ((List.range N).filter (fun y => decide (y ≠ x))).length + ((List.range N).filter (fun y => decide (x = y))).length = N := by
      have key : ∀ k, ((List.range k).filter (fun y => decide (y ≠ x))).length + ((List.range k).filter (fun y => decide (x = y))).length = k := by
        intro k
        induction k with
        | zero => rfl
        | succ k ih =>
          rw [List.range_succ, List.filter_append, List.filter_append, List.length_append, List.length_append]
          by_cases e : x = k
          · subst e; simp at ih ⊢; omega
          · simp [e, Ne.symm e] at ih ⊢; omega
      exact key N
    rw [one_range, if_pos hx] at h2
    omega
/-- All are told just if the rank is as many as columns. -/
theorem rank_known {N n : Nat} {X Z cols M P : List Nat} {blks : List ByteArray} (hX : ∀ r ∈ X, r < 2 ^ N) (hk : KnownP N n X Z cols blks) (hr : Rref M P) (hs : SameSp X M) : M.length = N ↔ ¬ cols.length < N := by
  have hM : ∀ r, r ∈ M → r < 2 ^ N := fun r hr' => sp_lt hX ((hs r).2 (sp_mem hr'))
  have hP : ∀ p ∈ P, p < N := fun p hp => by
    obtain ⟨j, hj, rfl⟩ := mem_getD hp
    exact place_lt hM hr j hj
  have hcN : ∀ c ∈ cols, c < N := fun c hc => ((hk.2.1 c).1 hc).1
  constructor
  · intro hl
    have hPf := rising_full hr.pairwise hP (by rw [← hr.len, hl]; exact Nat.le_refl _)
    have hPl : P.length = N := by rw [← hr.len, hl]
    have hPj : ∀ j, j < N → P.getD j 0 = j := fun j hj => by rw [hPf]; simp [List.getD, hj]
    have hMj : ∀ j, j < N → M.getD j 0 = 2 ^ j := fun j hj => by
      have hjM : j < M.length := by omega
      apply Nat.eq_of_testBit_eq
      intro i
      by_cases hi : i < N
      · have := hr.one j i hjM (by omega)
        rw [hPj i hi] at this
        rw [this, Nat.testBit_two_pow]
      · have h1 := hM _ (getD_mem hjM)
        rw [Nat.testBit_lt_two_pow (Nat.lt_of_lt_of_le h1 (Nat.pow_le_pow_right (by omega) (by omega))), Nat.testBit_two_pow]
        simp; omega
    have hsub : (List.range N).length ≤ cols.length := rising_sub (rising_range N) hk.1 fun c hc => by
      rw [List.mem_range] at hc
      refine (hk.2.1 c).2 ⟨hc, (hs _).2 ?_⟩
      rw [← hMj c hc]
      exact sp_mem (getD_mem (by omega))
    rw [List.length_range] at hsub
    omega
  · intro hl
    have hcf := rising_full hk.1 hcN (by omega)
    have hsub : (List.range N).length ≤ P.length := rising_sub (rising_range N) hr.pairwise fun c hc => by
      have hc' : c ∈ cols := by rw [hcf]; exact hc
      obtain ⟨j, hj, hjc, -⟩ := (told_iff hr c).1 ((hs _).1 ((hk.2.1 c).1 hc').2)
      rw [← hjc]; exact getD_mem hj
    rw [List.length_range] at hsub
    have h2 := rref_len hr hM
    have h3 := hr.len
    omega
/-- With fewer equations none is told otherwise. -/
theorem known_less {N n k : Nat} {X Z Z' cols cols' : List Nat} {blks blks' : List ByteArray} (h : KnownP N n X Z cols blks) (h' : KnownP N n (X.take k) Z' cols' blks') : cols'.length ≤ cols.length :=
  rising_sub h'.1 h.1 fun c hc => by
    obtain ⟨h1, h2⟩ := (h'.2.1 c).1 hc
    exact (h.2.1 c).2 ⟨h1, sp_sub (fun r hr => sp_mem (List.mem_of_mem_take hr)) h2⟩
/-- The number of a sum of some texts. -/
theorem bsum_bit {n x : Nat} {ss : List ByteArray} {zs : List Int} (i b : Nat) (hb : b < 8) : ∀ l, (∀ j, j < l → (ss.getD j ByteArray.empty).size = n) → (∀ j, j < l → zs.getD j 0 = if x.testBit j then 1 else 0) → (phi (fun j => bn (ss.getD j ByteArray.empty).data.toList) x l).testBit (8 * i + b) = if i < n then (bsum ss zs i l).toNat.testBit b else false
  | 0, _, _ => by simp [phi, bsum]
  | l + 1, h1, h2 => by
    have ih := bsum_bit (n := n) (x := x) (ss := ss) (zs := zs) i b hb l (fun j hj => h1 j (by omega)) (fun j hj => h2 j (by omega))
    have hz := h2 l (by omega)
    have hs := h1 l (by omega)
    rw [phi, Nat.testBit_xor, ih, bsum]
    cases hx : x.testBit l with
    | false =>
      rw [hx] at hz
      have hz' : ¬ zs.getD l 0 = 1 := by rw [hz]; decide
      simp only [hz', if_false, Bool.false_eq_true, Nat.zero_testBit, Bool.xor_false]
    | true =>
      rw [hx] at hz
      have hz' : zs.getD l 0 = 1 := by rw [hz]; rfl
      simp only [hz', if_true]
      rw [bn_byte _ _ _ hb]
      by_cases hi : i < n
      · rw [if_pos hi, if_pos hi, UInt8.toNat_xor, Nat.testBit_xor]
      · rw [if_neg hi, if_neg hi]
        have h0 : ((ss.getD l ByteArray.empty).data.toList).getD i 0 = 0 := by
          rw [List.getD, List.getElem?_eq_none (by rw [size_list, hs]; omega)]; rfl
        rw [h0]; simp
theorem bn_bsums {n x l : Nat} {ss : List ByteArray} {zs : List Int} (h1 : ∀ j, j < l → (ss.getD j ByteArray.empty).size = n) (h2 : ∀ j, j < l → zs.getD j 0 = if x.testBit j then 1 else 0) : bn (bsums ss zs l n) = phi (fun j => bn (ss.getD j ByteArray.empty).data.toList) x l := by
  apply Nat.eq_of_testBit_eq
  intro p
  have e : p = 8 * (p / 8) + p % 8 := by omega
  rw [e, bn_byte _ _ _ (Nat.mod_lt _ (by omega)), bsum_bit (n := n) (zs := zs) (p / 8) (p % 8) (Nat.mod_lt _ (by omega)) l h1 h2]
  by_cases hi : p / 8 < n
  · rw [if_pos hi]; simp [bsums, List.getD, hi]
  · rw [if_neg hi]
    have : (bsums ss zs l n)[p / 8]? = none := List.getElem?_eq_none (by simp [bsums]; omega)
    rw [List.getD, this]; simp
end
end Go.Proofs.YtdfmogcgangdnaaDoor
