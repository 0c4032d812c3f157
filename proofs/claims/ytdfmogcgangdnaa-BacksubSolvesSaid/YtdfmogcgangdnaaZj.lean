/- Parts: Bf3, Bf4, Bf5, HTail, KTail. -/
import Derived.Test.YtdfmogcgangdnaaZi
import Derived.Deep.AppendLies
import Derived.Deep.RegionHeld
import Derived.Deep.RegionHeld3
import Derived.OrdersHeld
import Derived.StillTail
namespace Go.Proofs.Ytdfmogcgangdnaa
section
/- The reference of layer 5: Why, Fits. -/
set_option linter.unusedVariables false
set_option linter.unusedSimpArgs false
open Go.RowKit
set_option maxRecDepth 100000
/-- Why equations of a matrix that may be may not be. -/
def w5E (n : Int) (ss : List ByteArray) (lm : Nat) : Int := if okS n ss && ss.length == lm then 0 else 2
theorem why5_any (N n : Int) (A S : Option Addr) (lm c k d : Nat) (ss : List ByteArray) (w : World) (hl : lm ≤ maxLen) (ht : Texts w S k ss) (hk : k ≤ maxLen) :
    Calls Try.prog 24 #[.agg #[.int .i64 N, .slice A lm c], .int .i64 n, .slice S k d] w fun e w' => e = .returned (.int .i64 (w5E n ss lm)) ∧ Below w.heap.size w w' := by
  have b1 : Below w.heap.size w (w.alloc (.cells #[.int .i64 N, .slice A lm c] 24)) := (Below.refl _ _).alloc (Nat.le_refl _) _
  have Q0 := Lib.hid (Box.new w 24 #[.int .i64 N, .slice A lm c])
  have HB := Lib.hid b1
  have HW := Lib.hid (why_any n S k d ss _ (ht.below b1) hk)
  have e2 := ht.1
  obtain ⟨q0, q1, -, -⟩ := Q0.out.two
  unfold maxLen at hl hk
  cases ho : okS n ss with
  | false =>
    have he : sumE n ss = 2 := by rw [sumE, ho]; rfl
    rw [he] at HW
    have HE := Lib.hid (show w5E n ss lm = 2 by rw [w5E, ho]; rfl)
    clear b1 ht e2 ho he
    go_enter Try.func24, Try.ntmps24
    go_wp2_with fail
    refine HW.out.mono ?_
    rintro e x1 ⟨rfl, rfl⟩
    go_wp2_with fail
    go_ret
    exact ⟨by rw [HE.out]; rfl, HB.out⟩
  | true =>
    have he : sumE n ss = 0 := by rw [sumE, ho]; rfl
    rw [he] at HW
    by_cases hkl : k = lm
    · have HE := Lib.hid (show w5E n ss lm = 0 by rw [w5E, ho, e2, hkl]; simp)
      have t : ((k : Int) != (lm : Int)) = false := by simp [hkl]
      clear b1 ht e2 ho he hkl
      go_enter Try.func24, Try.ntmps24
      go_wp2_with fail
      refine HW.out.mono ?_
      rintro e x1 ⟨rfl, rfl⟩
      go_wp2_with fail
      go_ret
      exact ⟨by rw [HE.out]; rfl, HB.out⟩
    · have HE := Lib.hid (show w5E n ss lm = 2 by rw [w5E, ho, e2]; simp [hkl])
      have t : ((k : Int) != (lm : Int)) = true := by simp; omega
      clear b1 ht e2 ho he
      go_enter Try.func24, Try.ntmps24
      go_wp2_with fail
      refine HW.out.mono ?_
      rintro e x1 ⟨rfl, rfl⟩
      go_wp2_with fail
      go_ret
      exact ⟨by rw [HE.out]; rfl, HB.out⟩
/-- A byte's rows, reduced. -/
def PartP (N a : Nat) (Z M P : List Nat) : Prop := Rref M P ∧ SameSp (Yat N a Z) M
theorem part_ex (N a : Nat) (Z : List Nat) : ∃ P M, PartP N a Z M P := by
  obtain ⟨M, P, h1, h2, -⟩ := rref_exists (Yat N a Z)
  exact ⟨P, M, h1, h2⟩
theorem fits_all {N n : Nat} {Z : List Nat} (hZ : ∀ z ∈ Z, z < 2 ^ (N + 8 * n)) (h : ∀ a, a < n → ∃ M P, PartP N a Z M P ∧ ∀ p ∈ P, p < N) : FitsP N Z := by
  refine (fits_iff hZ (fun a => (part_ex N a Z).choose) (fun a _ => (part_ex N a Z).choose_spec)).2 fun a ha p hp => ?_
  obtain ⟨M, P, h1, h2⟩ := h a ha
  obtain ⟨M', g⟩ := (part_ex N a Z).choose_spec
  have := (rref_uniq h1.1 g.1 (h1.2.symm.trans g.2)).2
  rw [← this] at hp
  exact h2 p hp
theorem fits_none {N n : Nat} {Z : List Nat} (hZ : ∀ z ∈ Z, z < 2 ^ (N + 8 * n)) {a : Nat} (ha : a < n) {M P : List Nat} (h : PartP N a Z M P) {p : Nat} (hp : p ∈ P) (hN : N ≤ p) : ¬ FitsP N Z := fun hf => by
  have hh := (fits_iff hZ (fun a => (part_ex N a Z).choose) (fun a _ => (part_ex N a Z).choose_spec)).1 hf a ha
  obtain ⟨M', g⟩ := (part_ex N a Z).choose_spec
  have := (rref_uniq h.1 g.1 (h.2.symm.trans g.2)).2
  have := hh p (by rw [← this]; exact hp)
  omega
theorem fits_places {N n : Nat} {Z : List Nat} (hZ : ∀ z ∈ Z, z < 2 ^ (N + 8 * n)) (hf : FitsP N Z) {a : Nat} (ha : a < n) {M P : List Nat} (h : PartP N a Z M P) : ∀ p ∈ P, p < N := fun p hp => by
  rcases Nat.lt_or_ge p N with hl | hl
  · exact hl
  · exact absurd hf (fits_none hZ ha h hp hl)
theorem yat_lt (N a : Nat) (Z : List Nat) : ∀ r ∈ Yat N a Z, r < 2 ^ (N + 8) := fun r hr => by
  obtain ⟨z, -, rfl⟩ := List.mem_map.1 hr
  exact prat_lt N a z
theorem partP_lt {N a : Nat} {Z M P : List Nat} (h : PartP N a Z M P) : ∀ r ∈ M, r < 2 ^ (N + 8) := same_lt (yat_lt N a Z) h.2
theorem BkIn.zlt {w : World} {N n : Nat} {X : List Nat} {ss : List ByteArray} {A S : Option Addr} {m c d : Nat} (h : BkIn w N n X ss A S m c d) : ∀ z ∈ zs N X ss, z < 2 ^ (N + 8 * n) := fun z hz => by
  obtain ⟨p, hp, rfl⟩ := List.mem_map.1 hz
  exact z_lt (pairs_good h.hX h.hss p hp)
theorem rref_len2 {N : Nat} {M P : List Nat} (h : Rref M P) (hM : ∀ r ∈ M, r < 2 ^ N) : M.length ≤ N := rref_len h (fun r hr => hM r hr)
theorem bd_drew {W y : World} (h : Below W.drew.heap.size W.drew y) : Below W.heap.size W y := ⟨h.os, h.tape, h.output, h.size, h.block⟩
/-- What the reference's Fits tells. -/
def RFit (N : Nat) (Z : List Nat) (w : World) (e : Ending) (w' : World) : Prop := ∃ b : Bool, (b = true ↔ FitsP N Z) ∧ e = .returned (.bool b) ∧ Below w.heap.size w w'
set_option maxHeartbeats 4000000 in
theorem refFits_any {N n : Nat} {X : List Nat} {ss : List ByteArray} {A S : Option Addr} {m c d : Nat} (w : World) (h : BkIn w N n X ss A S m c d) :
    Calls Try.prog 26 #[.agg #[.int .i64 (N : Int), .slice A m c], .int .i64 (n : Int), .slice S m d] w (RFit N (zs N X ss) w) := by
  have b1 : Below w.heap.size w (w.alloc (.cells #[.int .i64 (N : Int), .slice A m c] 24)) := (Below.refl _ _).alloc (Nat.le_refl _) _
  have Q0 := Lib.hid (Box.new w 24 #[.int .i64 (N : Int), .slice A m c])
  have HB := Lib.hid b1
  have HIn := Lib.hid h
  have hN := h.hN
  have hn := h.hn
  have HZl := Lib.hid h.zlt
  obtain ⟨q0, q1, -, -⟩ := Q0.out.two
  clear b1 h
  go_enter Try.func26, Try.ntmps26
  go_wp2_with fail
  clear q0 q1
  go_loopw [7] (fun t wr => ∃ a : Nat, a ≤ n ∧ t = .int .i64 (a : Int) ∧ Hid (∀ a', a' < a → ∃ M P, PartP N a' (zs N X ss) M P ∧ ∀ p ∈ P, p < N) ∧ Hid (Box wr w.heap.size 24 #[.int .i64 (N : Int), .slice A m c]) ∧ Hid (Below w.heap.size w wr)) (fun t _ => n - (intOf t).toNat)
  case atStart => exact ⟨0, Nat.zero_le _, rfl, Lib.hid (fun a' h => by omega), Q0, HB⟩
  case round =>
    obtain ⟨a, ha, rfl, HA, HQ, HBr⟩ := hrel
    by_cases hlt : a < n
    · have hlt' : (a : Int) < (n : Int) := by omega
      obtain ⟨q0, q1, -, -⟩ := HQ.out.two
      have HPt := Lib.hid (part_any wr (HIn.out.below HBr.out) a hlt)
      go_wp2_with fail
      refine HPt.out.mono ?_
      rintro e w3 ⟨M, P, A9, c9, rfl, h1, h2, h3, hb⟩
      have HP := Lib.hid (show PartP N a (zs N X ss) M P from ⟨h1, h2⟩)
      have HM3 := Lib.hid h3
      have HQ3 := Lib.hid (HQ.out.keep hb)
      have HB3 := Lib.hid (chain HBr.out hb)
      have hM72 : M.length ≤ 72 := by have := rref_len2 h1 (partP_lt ⟨h1, h2⟩); omega
      clear h1 h2 h3 hb q0 q1 HPt HQ HBr
      obtain ⟨wA, rfl⟩ : ∃ wA : World, wA = wr := ⟨_, rfl⟩
      go_wp2_with fail
      go_loopw [20] (fun u wr => ∃ j : Nat, j ≤ M.length ∧ u = .int .i64 (j : Int) ∧ Hid (∀ i, i < j → P.getD i 0 < N) ∧ Hid (Box wr w.heap.size 24 #[.int .i64 (N : Int), .slice A m c]) ∧ Hid (Below w.heap.size w wr) ∧ Hid (Below w3.heap.size w3 wr)) (fun u _ => M.length - (intOf u).toNat)
      case atStart => exact ⟨0, Nat.zero_le _, rfl, Lib.hid (fun i h => by omega), HQ3, HB3, Lib.hid (Below.refl _ _)⟩
      case round =>
        obtain ⟨j, hj, rfl, IA, IQ, IB, IC⟩ := hrel
        by_cases hjl : j < M.length
        · have hjl' : (j : Int) < (M.length : Int) := by omega
          obtain ⟨b, off, B, l, k, hA, hbw, x0, x1, hs, hw⟩ := (HM3.out.below IC.out).at j hjl
          rw [mkM_at (N + 8) M j hjl] at x0 hw
          subst hA
          change wr.cell? ⟨b, off + j * 2, none⟩ = some (.int .i64 ((N + 8 : Nat) : Int)) at x0
          change Words wr B l (rowOf (N + 8) (M.getD j 0)) at hw
          have hylt := partP_lt HP.out _ (getD_mem hjl)
          obtain ⟨N8, hN8⟩ : ∃ N8, N8 = N + 8 := ⟨_, rfl⟩
          rw [← hN8] at x0 hw hylt
          have hN8b : N8 ≤ 72 := by omega
          have HN8 := Lib.hid hN8
          clear hN8
          have hlow := HP.out.1.low j hjl
          obtain ⟨p, hp⟩ : ∃ p, p = P.getD j 0 := ⟨_, rfl⟩
          rw [← hp] at hlow
          have HPe := Lib.hid hp
          have hpb : p < 1000 := by
            have := low_lt hylt hlow
            omega
          have al : Below wr.heap.size wr (wr.alloc (.cells #[.int .i64 (N8 : Int), .slice B l k] 40)) := (Below.refl _ _).alloc (Nat.le_refl _) _
          have E := Lib.hid (Box.new wr 40 #[.int .i64 (N8 : Int), .slice B l k])
          have ALx := Lib.hid al
          have Q2 := Lib.hid (IQ.out.keep al)
          have HF := Lib.hid (fun W (hb : Below (wr.alloc (.cells #[.int .i64 (N8 : Int), .slice B l k] 40)).heap.size (wr.alloc (.cells #[.int .i64 (N8 : Int), .slice B l k] 40)) W) => first_low N8 (M.getD j 0) p (by omega) hylt hlow B l k W ((hw.below al).below hb))
          obtain ⟨e0, e1, -, -⟩ := E.out.two
          obtain ⟨q0, q1, -, -⟩ := Q2.out.two
          clear al hw hlow hylt hp hs
          by_cases hNp : N ≤ p
          · have hNp' : (N : Int) ≤ (p : Int) := by omega
            have HNo := Lib.hid (fits_none HZl.out hlt HP.out (show p ∈ P by rw [HPe.out]; exact getD_mem (by rw [← HP.out.1.len]; exact hjl)) hNp)
            go_wp2_with fail
            go_region_held3 (fun w' => w'.cell? ⟨w.heap.size, 0, none⟩ = some (.int .i64 (N : Int)) ∧ w'.cell? ⟨wr.heap.size, 0, none⟩ = some (.int .i64 (N8 : Int)) ∧ w'.cell? ⟨wr.heap.size, 1, none⟩ = some (.slice B l k)) (go_keep) (first | (go_at_call 35; refine (HF.out _ ((Below.refl _ _).drew)).mono ?_; rintro e1 x1 ⟨rfl, hb⟩; have Q5 := Lib.hid (Q2.out.drew.keep hb); have HC := Lib.hid (bd_drew hb); have E5 := Lib.hid (E.out.drew.keep hb); clear hb; obtain ⟨g0, g1, -, -⟩ := Q5.out.two; obtain ⟨k0, k1, -, -⟩ := E5.out.two))
            all_goals
              have HBx := Lib.hid (chain (chain IB.out ALx.out) HC.out)
              clear g0 g1 k0 k1 HC HF
              go_wp2_with fail
              go_ret
              exact ⟨false, by simp [HNo.out], rfl, HBx.out⟩
          · have hNp' : ¬ (N : Int) ≤ (p : Int) := by omega
            have hpN : p < N := by omega
            go_wp2_with fail
            go_region_held3 (fun w' => w'.cell? ⟨w.heap.size, 0, none⟩ = some (.int .i64 (N : Int)) ∧ w'.cell? ⟨wr.heap.size, 0, none⟩ = some (.int .i64 (N8 : Int)) ∧ w'.cell? ⟨wr.heap.size, 1, none⟩ = some (.slice B l k)) (go_keep) (first | (go_at_call 35; refine (HF.out _ ((Below.refl _ _).drew)).mono ?_; rintro e1 x1 ⟨rfl, hb⟩; have Q5 := Lib.hid (Q2.out.drew.keep hb); have HC := Lib.hid (bd_drew hb); have E5 := Lib.hid (E.out.drew.keep hb); clear hb; obtain ⟨g0, g1, -, -⟩ := Q5.out.two; obtain ⟨k0, k1, -, -⟩ := E5.out.two))
            all_goals
              have RB := Lib.hid (chain (chain IB.out ALx.out) HC.out)
              have RC := Lib.hid (chain (chain IC.out ALx.out) HC.out)
              have RA := Lib.hid (show ∀ i, i < j + 1 → P.getD i 0 < N from fun i hi => by
                by_cases e : i < j
                · exact IA.out i e
                · obtain rfl : i = j := by omega
                  rw [← HPe.out]; exact hpN)
              clear g0 g1 k0 k1 HC HF
              go_wp2_with fail
              go_roundw
              case rel => exact ⟨j + 1, by omega, by go_num, RA, Q5, RB, RC⟩
              case measure => simp [intOf]; omega
        · obtain rfl : j = M.length := by omega
          have hjl' : ¬ (M.length : Int) < (M.length : Int) := by omega
          have HA2 := Lib.hid (show ∀ a', a' < a + 1 → ∃ M P, PartP N a' (zs N X ss) M P ∧ ∀ p ∈ P, p < N from fun a' h' => by
            by_cases e : a' < a
            · exact HA.out a' e
            · obtain rfl : a' = a := by omega
              refine ⟨M, P, HP.out, fun p hp => ?_⟩
              obtain ⟨i, hi, rfl⟩ := mem_getD hp
              exact IA.out i (by rw [HP.out.1.len]; exact hi))
          go_wp2_with fail
          go_roundw
          case rel => exact ⟨a + 1, by omega, by go_num, HA2, IQ, IB⟩
          case measure => simp [intOf]; omega
    · obtain rfl : a = n := by omega
      have hlt' : ¬ (a : Int) < (a : Int) := by omega
      have HF := Lib.hid (fits_all HZl.out HA.out)
      go_wp2_with fail
      go_ret
      exact ⟨true, by simp [HF.out], rfl, HBr.out⟩
end
section
/- The reference of layer 5: told, byteOf. -/
set_option linter.unusedVariables false
set_option linter.unusedSimpArgs false
open Go.RowKit
set_option maxRecDepth 100000
theorem ofBits_one (N c : Nat) (hc : c < N) : ofBits N [(c : Int)] = rowOf N (2 ^ c) := by
  have ht : there N [(c : Int)] = true := by simp [there]; omega
  rw [← from_of N [(c : Int)] ht, ← from_num (2 ^ c) N (Nat.pow_lt_pow_right (by omega) hc)]
  congr 2
  apply List.ext_getElem
  · rw [ofInts_len, bitsI_len]
  · intro i h1 h2
    have hi : i < N := by rw [ofInts_len] at h1; exact h1
    simp only [ofInts, bitsI, List.getElem_map, List.getElem_range, Nat.testBit_two_pow]
    by_cases e : c = i
    · subst e; simp [hasB]
    · have : hasB [(c : Int)] (i : Int) = false := by simp [hasB]; omega
      rw [this]; simp [e]
/-- Is a column told? -/
def ToldOut (M : List Nat) (c : Nat) (w : World) (e : Ending) (w' : World) : Prop := ∃ b : Bool, (b = true ↔ Sp M (2 ^ c)) ∧ e = .returned (.bool b) ∧ Below w.heap.size w w'
theorem told_any (N : Nat) (hN : N ≤ 64) (M P : List Nat) (hr : Rref M P) (hM : ∀ r ∈ M, r < 2 ^ N) (A : Option Addr) (k lo : Nat) (w : World) (hm : MatAt w lo A M.length (mkM N M)) (c : Nat) (hc : c < N) :
    Calls Try.prog 50 #[.slice A M.length k, .int .i64 (N : Int), .int .i64 (c : Int)] w (ToldOut M c w) := by
  have hM64 : M.length ≤ 64 := by have := rref_len2 hr hM; omega
  have hx : 2 ^ c < 2 ^ N := Nat.pow_lt_pow_right (by omega) hc
  have al : Below w.heap.size w (w.alloc (.cells #[.int .i64 (c : Int)] 3)) := (Below.refl _ _).alloc (Nat.le_refl _) _
  have HOf := refOf_own N (some ⟨w.heap.size, 0, none⟩) 1 1 [(c : Int)] _ (one_ints w 3 c (by omega)) (by omega) (by omega) (by simp [there]; omega)
  rw [ofBits_one N c hc] at HOf
  have HOf2 := Lib.hid HOf
  have HMt := Lib.hid (hm.below al)
  have ALx := Lib.hid al
  have HL := Lib.hid (fun W A1 l1 c1 (h1 : MatAt W lo A M.length (mkM N M)) (h2 : SliceOk A1 l1 c1) (h3 : Words W A1 l1 (rowOf N (2 ^ c))) => left_any N (by omega) M P hr hM (by omega) (2 ^ c) hx A A1 k l1 c1 lo W h1 h2 h3)
  have HZ := Lib.hid (left_zero hr (2 ^ c))
  obtain ⟨z, hz⟩ : ∃ z, z = leftN M P (2 ^ c) M.length := ⟨_, rfl⟩
  have HzN := Lib.hid (show z < 2 ^ N by rw [hz]; exact leftN_lt (lt_all hM) (2 ^ c) hx _)
  rw [← hz] at HL HZ
  clear hm al HOf hz hx hM hr
  go_enter Try.func50, Try.ntmps50
  go_wp2_with fail
  refine HOf2.out.mono ?_
  rintro e w1 ⟨A1, l1, c1, rfl, ow, hb⟩
  have HM1 := Lib.hid (HMt.out.below hb)
  have HB1 := Lib.hid (chain ALx.out hb)
  have OW := Lib.hid ow
  clear hb ow HMt ALx HOf2
  go_wp2_with fail
  refine (HL.out w1 A1 l1 c1 HM1.out OW.out.ok (OW.out.words (rowOf_lt N _))).mono ?_
  rintro e w2 ⟨A2, l2, c2, rfl, -, hw2, hb⟩
  have HB2 := Lib.hid (chain HB1.out hb)
  have HF := Lib.hid (first_any N z (by omega) HzN.out A2 l2 c2 w2 hw2)
  clear hb hw2 HL
  go_wp2_with fail
  refine HF.out.mono ?_
  rintro e w3 ⟨⟨p, hp, rfl⟩ | ⟨hz, rfl⟩, hb⟩
  · have HB3 := Lib.hid (chain HB2.out hb)
    have HNo := Lib.hid (show ¬ Sp M (2 ^ c) from fun h => by
      have := HZ.out.2 h
      subst this
      have := hp.1
      simp at this)
    have hp0 : ¬ (p : Int) < 0 := by omega
    clear hb hp
    go_wp2_with fail
    go_ret
    exact ⟨false, by simp [HNo.out], rfl, HB3.out⟩
  · have HB3 := Lib.hid (chain HB2.out hb)
    have HY := Lib.hid (HZ.out.1 hz)
    clear hb hz
    go_wp2_with fail
    go_ret
    exact ⟨true, by simp [HY.out], rfl, HB3.out⟩
/-- The highest t of a byte's bits. -/
def hiB (N y t : Nat) : Nat := (y >>> (N + 8 - t)) % 2 ^ t
theorem hiB_zero (N y : Nat) : hiB N y 0 = 0 := by simp [hiB, Nat.mod_one]
theorem hiB_succ (N y t : Nat) (ht : t < 8) : 2 * hiB N y t + (if y.testBit (N + (7 - t)) then 1 else 0) = hiB N y (t + 1) := by
  unfold hiB
  have e1 : N + 8 - t = N + (7 - t) + 1 := by omega
  have e2 : N + 8 - (t + 1) = N + (7 - t) := by omega
  rw [e1, e2, Nat.shiftRight_add]
  have hb : (if y.testBit (N + (7 - t)) then 1 else 0) = (y >>> (N + (7 - t))) % 2 := by
    rw [Nat.shiftRight_eq_div_pow, halves]
  rw [hb]
  generalize y >>> (N + (7 - t)) = v
  rw [Nat.shiftRight_eq_div_pow, Nat.pow_one, Nat.pow_succ, Nat.mul_comm (2 ^ t) 2, Nat.mod_mul]
  omega
theorem hiB_lt (N y t : Nat) (ht : t ≤ 8) : hiB N y t < 256 := by
  have h1 : hiB N y t < 2 ^ t := Nat.mod_lt _ (Nat.two_pow_pos t)
  have h2 : 2 ^ t ≤ 2 ^ 8 := Nat.pow_le_pow_right (by omega) ht
  omega
theorem hiB_all (N y : Nat) : hiB N y 8 = (y >>> N) % 256 := by simp [hiB]
set_option maxHeartbeats 4000000 in
theorem byteOf_any (N : Nat) (hN : N ≤ 64) (M P : List Nat) (hr : Rref M P) (hM : ∀ r ∈ M, r < 2 ^ (N + 8)) (A : Option Addr) (k0 lo : Nat) (w : World) (hm : MatAt w lo A M.length (mkM (N + 8) M)) (c j0 : Nat) (hj0 : j0 < M.length) (hc : P.getD j0 0 = c) :
    Calls Try.prog 51 #[.slice A M.length k0, .int .i64 (N : Int), .int .i64 (c : Int)] w fun e w' => e = .returned (.int .u8 (((M.getD j0 0 >>> N) % 256 : Nat) : Int)) ∧ Below w.heap.size w w' := by
  have hM72 : M.length ≤ 72 := by have := rref_len2 hr hM; omega
  have HMt := Lib.hid hm
  have HRr := Lib.hid hr
  have HML := Lib.hid hM
  have HC := Lib.hid hc
  have hcb : c < 1000 := by
    have := low_lt (hM _ (getD_mem hj0)) (hr.low j0 hj0)
    omega
  obtain ⟨V, hV⟩ : ∃ V : Nat, V = (M.getD j0 0 >>> N) % 256 := ⟨_, rfl⟩
  rw [← hV]
  have HV := Lib.hid hV
  clear hm hr hM hc hV
  go_enter Try.func51, Try.ntmps51
  go_wp2_with fail
  go_loopw [13] (fun u wr => ∃ j : Nat, j ≤ j0 ∧ u = .int .i64 (j : Int) ∧ Hid (Below w.heap.size w wr)) (fun u _ => M.length - (intOf u).toNat)
  case atStart => exact ⟨0, Nat.zero_le _, rfl, Lib.hid (Below.refl _ _)⟩
  case round =>
    obtain ⟨j, hj, rfl, HB⟩ := hrel
    have hjl : j < M.length := by omega
    have hjl' : (j : Int) < (M.length : Int) := by omega
    obtain ⟨b, off, B, l, k, hA, hbw, x0, x1, hs, hw⟩ := (HMt.out.below HB.out).at j hjl
    rw [mkM_at (N + 8) M j hjl] at x0 hw
    subst hA
    change wr.cell? ⟨b, off + j * 2, none⟩ = some (.int .i64 ((N + 8 : Nat) : Int)) at x0
    change Words wr B l (rowOf (N + 8) (M.getD j 0)) at hw
    have hylt := HML.out _ (getD_mem hjl)
    have hlow := HRr.out.low j hjl
    obtain ⟨y, hy⟩ : ∃ y, y = M.getD j 0 := ⟨_, rfl⟩
    obtain ⟨p, hp⟩ : ∃ p, p = P.getD j 0 := ⟨_, rfl⟩
    rw [← hy] at hw hylt hlow
    rw [← hp] at hlow
    obtain ⟨N8, hN8⟩ : ∃ N8, N8 = N + 8 := ⟨_, rfl⟩
    rw [← hN8] at x0 hw hylt
    have hN8b : N8 ≤ 72 := by omega
    have hNN : N + 8 ≤ N8 := by omega
    have HN8 := Lib.hid hN8
    have HPe := Lib.hid hp
    have HYe := Lib.hid hy
    have hpb : p < 1000 := by have := low_lt hylt hlow; omega
    clear hN8 hs hp hy
    have al : Below wr.heap.size wr (wr.alloc (.cells #[.int .i64 (N8 : Int), .slice B l k] 40)) := (Below.refl _ _).alloc (Nat.le_refl _) _
    have E := Lib.hid (Box.new wr 40 #[.int .i64 (N8 : Int), .slice B l k])
    have ALx := Lib.hid al
    have HWd := Lib.hid (hw.below al)
    have HF := Lib.hid (first_low N8 y p (by omega) hylt hlow B l k _ HWd.out)
    obtain ⟨e0, e1, -, -⟩ := E.out.two
    clear al hw hlow
    by_cases hje : j = j0
    · have hpc : (p : Int) = (c : Int) := by rw [HPe.out, hje, HC.out]
      have HYV := Lib.hid (show V = (y >>> N) % 256 by rw [HV.out, HYe.out, hje])
      have hpe : p = c := by omega
      subst hpe
      have HYl := Lib.hid hylt
      clear hje hpc hylt
      go_wp2_with fail
      refine HF.out.mono ?_
      rintro e w3 ⟨rfl, hb⟩
      have HB3 := Lib.hid (chain (chain HB.out ALx.out) hb)
      have E3 := Lib.hid (E.out.keep hb)
      have W3 := Lib.hid (HWd.out.below hb)
      clear hb e0 e1 x0 x1 HF E HWd ALx HB
      obtain ⟨wA, rfl⟩ : ∃ wA : World, wA = wr := ⟨_, rfl⟩
      go_wp2_with fail
      go_loopw [10, 9] (fun u o wr => ∃ t : Nat, t ≤ 8 ∧ u = .int .i64 (7 - (t : Int)) ∧ o = .int .i64 (hiB N y t : Nat) ∧ Hid (Box wr wA.heap.size 40 #[.int .i64 (N8 : Int), .slice B l k]) ∧ Hid (Words wr B l (rowOf N8 y)) ∧ Hid (Below w.heap.size w wr)) (fun u _ _ => (intOf u + 1).toNat)
      case atStart => exact ⟨0, by omega, rfl, by rw [hiB_zero]; rfl, E3, W3, HB3⟩
      case round =>
        obtain ⟨t, ht, rfl, rfl, IE, IW, IB⟩ := hrel
        have hlt8 := hiB_lt N y t ht
        by_cases htl : t < 8
        · have HS := Lib.hid (hiB_succ N y t htl)
          have HBt := rbit_any N8 y (N + (7 - t)) (by omega) B l k (by omega) wr IW.out
          obtain ⟨bv, hbv⟩ : ∃ bv : Nat, bv = if y.testBit (N + (7 - t)) then 1 else 0 := ⟨_, rfl⟩
          have hb2 : (if y.testBit (N + (7 - t)) then (1 : Int) else 0) = (bv : Int) := by rw [hbv]; split <;> rfl
          rw [hb2] at HBt
          rw [← hbv] at HS
          have hbv1 : bv ≤ 1 := by rw [hbv]; split <;> omega
          obtain ⟨u, hu⟩ : ∃ u : Nat, u = 7 - t := ⟨_, rfl⟩
          have hu2 : (7 - (t : Int)) = (u : Int) := by omega
          rw [show ((N + (7 - t) : Nat) : Int) = (N : Int) + (u : Int) by omega] at HBt
          have HBt2 := Lib.hid HBt
          obtain ⟨h, hh⟩ : ∃ h, h = hiB N y t := ⟨_, rfl⟩
          rw [← hh] at HS hlt8 ⊢
          rw [hu2]
          have hu7 : u ≤ 7 := by omega
          have HU := Lib.hid hu
          obtain ⟨e0, e1, -, -⟩ := IE.out.two
          clear hu2 hu HBt hb2 hbv hh
          go_wp2_with fail
          refine HBt2.out.mono ?_
          rintro e w4 ⟨rfl, hb⟩
          have RE := Lib.hid (IE.out.keep hb)
          have RW := Lib.hid (IW.out.below hb)
          have RB := Lib.hid (chain IB.out hb)
          clear hb e0 e1
          go_wp2_with fail
          go_roundw
          case rel => exact ⟨t + 1, by omega, by have := HU.out; congr 1; omega, by rw [← HS.out]; simp, RE, RW, RB⟩
          case measure => have := HU.out; simp [intOf]
        · obtain rfl : t = 8 := by omega
          have HE := Lib.hid (show hiB N y 8 = V by rw [hiB_all, HYV.out])
          obtain ⟨h, hh⟩ : ∃ h, h = hiB N y 8 := ⟨_, rfl⟩
          rw [← hh] at HE hlt8 ⊢
          clear hh
          go_wp2_with fail
          go_ret
          exact ⟨by rw [← HE.out]; rfl, IB.out⟩
    · have hne : ((p : Int) == (c : Int)) = false := by
        have := HRr.out.rise j j0 (by omega) hj0
        have e1 := HPe.out
        have e2 := HC.out
        simp; omega
      have hjl2 : j < j0 := by omega
      clear hje hylt
      go_wp2_with fail
      refine HF.out.mono ?_
      rintro e w3 ⟨rfl, hb⟩
      have HB3 := Lib.hid (chain (chain HB.out ALx.out) hb)
      clear hb
      go_wp2_with fail
      go_roundw
      case rel => exact ⟨j + 1, by omega, by go_num, HB3⟩
      case measure => simp [intOf]; omega
end
section
/- The reference of layer 5: Known. -/
set_option linter.unusedVariables false
set_option linter.unusedSimpArgs false
open Go.RowKit
set_option maxRecDepth 100000
theorem prat_high (N a v : Nat) : (prat N a v >>> N) % 256 = (v >>> (N + 8 * a)) % 256 := by
  apply Nat.eq_of_testBit_eq
  intro i
  rw [show (256 : Nat) = 2 ^ 8 by rfl, Nat.testBit_mod_two_pow, Nat.testBit_mod_two_pow, Nat.testBit_shiftRight, Nat.testBit_shiftRight, prat_bit, if_neg (by omega)]
  by_cases h : i < 8
  · have : decide (N + i < N + 8) = true := by simp; omega
    rw [this, Bool.true_and, show N + i + 8 * a = N + 8 * a + i by omega]
  · simp [h]
/-- The told columns among the first ones. -/
def ToldP (X : List Nat) (i : Nat) (cs : List Nat) : Prop := cs.Pairwise (· < ·) ∧ ∀ c, c ∈ cs ↔ c < i ∧ Sp X (2 ^ c)
theorem told_nil (X : List Nat) : ToldP X 0 [] := ⟨List.Pairwise.nil, fun c => by simp⟩
theorem told_yes {X cs : List Nat} {i : Nat} (h : ToldP X i cs) (hs : Sp X (2 ^ i)) : ToldP X (i + 1) (cs ++ [i]) := by
  refine ⟨List.pairwise_append.2 ⟨h.1, by simp, fun a ha b hb => ?_⟩, fun c => ?_⟩
  · simp only [List.mem_singleton] at hb; subst hb; exact ((h.2 a).1 ha).1
  · rw [List.mem_append, h.2, List.mem_singleton]
    constructor
    · rintro (⟨h1, h2⟩ | rfl)
      · exact ⟨by omega, h2⟩
      · exact ⟨by omega, hs⟩
    · rintro ⟨h1, h2⟩
      by_cases e : c = i
      · exact .inr e
      · exact .inl ⟨by omega, h2⟩
theorem told_no {X cs : List Nat} {i : Nat} (h : ToldP X i cs) (hs : ¬ Sp X (2 ^ i)) : ToldP X (i + 1) cs := by
  refine ⟨h.1, fun c => ?_⟩
  rw [h.2]
  constructor
  · rintro ⟨h1, h2⟩; exact ⟨by omega, h2⟩
  · rintro ⟨h1, h2⟩
    by_cases e : c = i
    · subst e; exact absurd h2 hs
    · exact ⟨by omega, h2⟩
theorem pairwise_len : ∀ {l : List Nat} {a b : Nat}, l.Pairwise (· < ·) → (∀ x ∈ l, a ≤ x ∧ x < b) → l.length + a ≤ b ∨ l = []
  | [], _, _, _, _ => .inr rfl
  | x :: l, a, b, h, hm => by
    have h' := List.pairwise_cons.1 h
    have hx := hm x (by simp)
    rcases pairwise_len (a := x + 1) (b := b) h'.2 (fun y hy => ⟨h'.1 y hy, (hm y (by simp [hy])).2⟩) with h1 | h1
    · left; rw [List.length_cons]; omega
    · subst h1; left; simp; omega
theorem told_len {X cs : List Nat} {i : Nat} (h : ToldP X i cs) : cs.length ≤ i := by
  rcases pairwise_len (a := 0) (b := i) h.1 (fun x hx => ⟨Nat.zero_le _, ((h.2 x).1 hx).1⟩) with h1 | h1
  · omega
  · rw [h1]; simp
/-- What tells the columns. -/
def ValsP (N : Nat) (Z cs VV : List Nat) : Prop := VV.length = cs.length ∧ ∀ j, j < cs.length → Sp Z (VV.getD j 0) ∧ lowN N (VV.getD j 0) = 2 ^ (cs.getD j 0)
theorem vals_ex {N : Nat} {X Z cs : List Nat} (hXZ : Z.map (lowN N) = X) (h : ∀ c ∈ cs, Sp X (2 ^ c)) : ∃ VV, ValsP N Z cs VV := by
  have key : ∀ k, k ≤ cs.length → ∃ VV : List Nat, VV.length = k ∧ ∀ j, j < k → Sp Z (VV.getD j 0) ∧ lowN N (VV.getD j 0) = 2 ^ (cs.getD j 0) := by
    intro k
    induction k with
    | zero => exact fun _ => ⟨[], rfl, fun j hj => absurd hj (Nat.not_lt_zero _)⟩
    | succ k ih =>
      intro hk
      obtain ⟨VV, h1, h2⟩ := ih (by omega)
      have hs := h (cs.getD k 0) (getD_mem (by omega))
      rw [← hXZ] at hs
      obtain ⟨v, hv, he⟩ := (sp_map _ (lowN_zero N) (lowN_xor N) Z _).1 hs
      refine ⟨VV ++ [v], by simp [h1], fun j hj => ?_⟩
      by_cases e : j < k
      · have : (VV ++ [v]).getD j 0 = VV.getD j 0 := by simp only [List.getD]; rw [List.getElem?_append_left (by omega)]
        rw [this]; exact h2 j e
      · obtain rfl : j = k := by omega
        have : (VV ++ [v]).getD j 0 = v := by rw [← h1]; simp [List.getD]
        rw [this]; exact ⟨hv, he.symm⟩
  exact key cs.length (Nat.le_refl _)
/-- Their first bytes. -/
def txA (N a : Nat) (VV : List Nat) : List ByteArray := VV.map fun v => ⟨(byL N v a).toArray⟩
theorem txA_len (N a : Nat) (VV : List Nat) : (txA N a VV).length = VV.length := by simp [txA]
theorem txA_zero (N : Nat) (VV : List Nat) : txA N 0 VV = List.replicate VV.length ⟨#[]⟩ := by
  show VV.map (fun _ => (⟨#[]⟩ : ByteArray)) = _
  rw [List.map_const']
theorem txA_at (N a : Nat) (VV : List Nat) (j : Nat) (h : j < VV.length) : (txA N a VV).getD j ByteArray.empty = ⟨(byL N (VV.getD j 0) a).toArray⟩ := by simp [txA, List.getD, h]
theorem known_of {N n : Nat} {X Z cs VV : List Nat} (hZ : ∀ z ∈ Z, z < 2 ^ (N + 8 * n)) (h : ToldP X N cs) (hv : ValsP N Z cs VV) : KnownP N n X Z cs (txA N n VV) := by
  refine ⟨h.1, h.2, by rw [txA_len, hv.1], fun j hj => ?_⟩
  have hj' : j < VV.length := by rw [hv.1]; exact hj
  rw [txA_at N n VV j hj']
  obtain ⟨h1, h2⟩ := hv.2 j hj
  refine ⟨by simp [ByteArray.size, byL_len], VV.getD j 0, h1, h2, ?_⟩
  rw [← byL_bn N _ n (sp_lt hZ h1)]
/-- A byte more for the first j. -/
def txU (N a : Nat) (VV : List Nat) (j : Nat) : List ByteArray := (txA N (a + 1) VV).take j ++ (txA N a VV).drop j
theorem txU_len (N a : Nat) (VV : List Nat) (j : Nat) (h : j ≤ VV.length) : (txU N a VV j).length = VV.length := by simp [txU, txA_len]; omega
theorem txU_zero (N a : Nat) (VV : List Nat) : txU N a VV 0 = txA N a VV := by simp [txU]
theorem txU_all (N a : Nat) (VV : List Nat) : txU N a VV VV.length = txA N (a + 1) VV := by
  unfold txU
  rw [List.take_of_length_le (by rw [txA_len]; exact Nat.le_refl _), List.drop_of_length_le (by rw [txA_len]; exact Nat.le_refl _), List.append_nil]
theorem txU_here (N a : Nat) (VV : List Nat) (j : Nat) (h : j < VV.length) : (txU N a VV j).getD j ByteArray.empty = ⟨(byL N (VV.getD j 0) a).toArray⟩ := by
  have e : ((txA N (a + 1) VV).take j).length = j := by rw [List.length_take, txA_len]; omega
  rw [← txA_at N a VV j h]
  simp only [List.getD, txU]
  rw [List.getElem?_append_right (by omega), e, Nat.sub_self, List.getElem?_drop]; simp
theorem txU_next (N a : Nat) (VV : List Nat) (j : Nat) (h : j < VV.length) : txU N a VV (j + 1) = (txU N a VV j).set j (⟨(byL N (VV.getD j 0) a).toArray⟩ ++ ⟨[UInt8.ofNat ((VV.getD j 0 >>> (N + 8 * a)) % 256)].toArray⟩) := by
  unfold txU
  have hj : j < (txA N (a + 1) VV).length := by rw [txA_len]; exact h
  have e : ((txA N (a + 1) VV).take j).length = j := by rw [List.length_take, txA_len]; omega
  have g : (txA N (a + 1) VV)[j] = ⟨(byL N (VV.getD j 0) a).toArray⟩ ++ ⟨[UInt8.ofNat ((VV.getD j 0 >>> (N + 8 * a)) % 256)].toArray⟩ := by
    have := txA_at N (a + 1) VV j h
    rw [List.getD, List.getElem?_eq_getElem hj, Option.getD_some] at this
    rw [this, byL_succ]
    apply ByteArray.ext
    simp
  rw [List.take_succ_eq_append_getElem hj, g, List.set_append, if_neg (by omega), e, Nat.sub_self, List.drop_eq_getElem_cons (show j < (txA N a VV).length by rw [txA_len]; exact h), List.set_cons_zero, List.append_assoc]
  rfl
end
section
/- A law of one's own for a region that draws its order: its first operations are taken while some cells are held (a call that makes memory among them), the last ones, which may write those very cells, come one after the other. No program. -/
set_option linter.unusedVariables false
set_option linter.unusedSimpArgs false
section
variable {P : Program} {ops : Array Oper} {Q : Exit → Act → World → Prop} {md : Region.Mode} {S : World → Prop}
/-- Whatever order the first m operations take, f of them are still to come; behind each S holds; L at the end. -/
def headH (P : Program) (md : Region.Mode) (ops : Array Oper) (Q : Exit → Act → World → Prop) (S : World → Prop) (m : Nat) (L : Array Bool → Act → World → Prop) : Nat → Array Bool → Act → World → Prop
  | 0, listed, a, w => L listed a w
  | f + 1, listed, a, w => Region.ready md ops listed ≠ [] ∧ ∀ i ∈ Region.ready md ops listed, i < m ∧ wpOp P ops Q i (fun a' w' => S w' ∧ headH P md ops Q S m L f (listed.setIfInBounds i true) a' w') a w
theorem any_of_headH {m g : Nat} {L : Array Bool → Act → World → Prop} (hL : ∀ listed a w, L listed a w → wpAny P md ops Q g listed a w) :
    ∀ (f : Nat) (listed : Array Bool) (a : Act) (w : World), headH P md ops Q S m L f listed a w → wpAny P md ops Q (f + g) listed a w
  | 0, listed, a, w, h => by rw [Nat.zero_add]; exact hL _ _ _ h
  | f + 1, listed, a, w, h => by
    rw [show f + 1 + g = (f + g) + 1 by omega]
    exact ⟨fun h0 => absurd h0 h.1, fun i hi => wpOp_mono (fun a' w' h' => any_of_headH hL f _ a' w' h'.2) (h.2 i hi).2⟩
theorem headH_first {m i : Nat} {oi : Oper} {v : Value} {L : Array Bool → Act → World → Prop} (hi : ops[i]? = some oi) (hsel : ∀ (j : Nat) (o : Oper) cs b, ops[j]? = some o → o.op ≠ .select cs b)
    (hw : ∀ listed, HeadInv md ops m listed → ∀ i, i < m → listed.getD i true = false → ∀ t, m ≤ t → t ∉ Region.ready md ops listed) (him : i < m)
    (hQ : ∀ c a w, Q (.panic c) (a.put oi.dst v) w → Q (.panic c) a w) (hdone : ∀ listed a w, L listed a w → ∀ j ∈ Region.ready md ops listed, m ≤ j) :
    ∀ (f : Nat) (listed : Array Bool) (a : Act) (w : World), HeadInv md ops m listed →
      (∀ j oj, ops[j]? = some oj → j ≠ i → listed.getD j true = false → (∀ e ∈ oj.after, Region.binds md e = true → e.on ≠ i) → oi.apart ops oj = true) →
      i ∈ Region.ready md ops listed → YieldsIf P ops S oi v a → S w →
      headH P md ops Q S m L f (listed.setIfInBounds i true) (a.put oi.dst v) w → headH P md ops Q S m L (f + 1) listed a w := by
  intro f
  induction f with
  | zero =>
    intro listed a w inv _ hr hy hS H
    have hun := (mem_ready.1 hr).1
    refine ⟨fun h => (by rw [h] at hr; cases hr), fun j hj => ?_⟩
    have hjm : j < m := by
      rcases Nat.lt_or_ge j m with h | h
      · exact h
      · exact absurd hj (hw listed inv i him hun j h)
    refine ⟨hjm, ?_⟩
    by_cases hji : j = i
    · subst hji; exact hy.wpOp hi hS ⟨hS, H⟩
    · have := hdone _ _ _ H j (ready_mono hj hji)
      omega
  | succ f ih =>
    intro listed a w inv hfree hr hy hS H
    have hun := (mem_ready.1 hr).1
    refine ⟨fun h => (by rw [h] at hr; cases hr), fun j hj => ?_⟩
    have hjm : j < m := by
      rcases Nat.lt_or_ge j m with h | h
      · exact h
      · exact absurd hj (hw listed inv i him hun j h)
    refine ⟨hjm, ?_⟩
    by_cases hji : j = i
    · subst hji; exact hy.wpOp hi hS ⟨hS, H⟩
    · have h1 := (H.2 j (ready_mono hj hji)).2
      obtain ⟨hjun, oj, hoj, hall⟩ := mem_ready.1 hj
      have hnot : ∀ e ∈ oj.after, Region.binds md e = true → e.on ≠ i := fun e he hb heq => by
        have h1 := hall e he hb
        rw [heq, getD_both hun] at h1
        cases h1
      have h2 := wpOp_putIf hoj (hfree j oj hoj hji hjun hnot) (fun cs b => hsel i oi cs b hi) (fun cs b => hsel j oj cs b hoj) hQ hy h1
      have hfree' : ∀ k ok, ops[k]? = some ok → k ≠ i → (listed.setIfInBounds j true).getD k true = false →
          (∀ e ∈ ok.after, Region.binds md e = true → e.on ≠ i) → oi.apart ops ok = true := fun k ok hk hki hun hno => by
        refine hfree k ok hk hki ?_ hno
        by_cases hjk : j = k
        · subst hjk; exact hjun
        · rw [getD_set_ne true hjk] at hun; exact hun
      refine wpOp_mono (fun a' w' h3 => ⟨h3.2.1, ih (listed.setIfInBounds j true) a' w' (inv.set hj hjm) hfree' (ready_mono hr (Ne.symm hji)) h3.1 h3.2.1 ?_⟩) h2
      rw [Array.setIfInBounds_comm _ _ hji]
      exact h3.2.2
/-- What is known of the list while the head goes on, as a Bool for the kernel. -/
def headB (md : Region.Mode) (ops : Array Oper) (m : Nat) (listed : Array Bool) : Bool :=
  (listed.size == ops.size) && ((List.range ops.size).all fun j => match ops[j]? with | some oj => !listed.getD j false || (oj.after.all fun e => !Region.binds md e || listed.getD e.on false) | none => true) && ((List.range ops.size).all fun t => decide (t < m) || !listed.getD t true)
theorem headB_inv {m : Nat} {listed : Array Bool} (h : headB md ops m listed = true) : HeadInv md ops m listed := by
  simp only [headB, Bool.and_eq_true, beq_iff_eq, List.all_eq_true, List.mem_range, Bool.or_eq_true, decide_eq_true_eq, Bool.not_eq_true'] at h
  obtain ⟨⟨h1, h2⟩, h3⟩ := h
  refine ⟨h1, fun j oj hj hl e he hb => ?_, fun t ht ht' => ?_⟩
  · have hlt : j < ops.size := (Array.getElem?_eq_some_iff.1 hj).1
    have := h2 j hlt
    simp only [hj, hl, Bool.not_true, Bool.false_or, Array.all_eq_true'] at this
    have := this e he
    simpa [hb] using this
  · rcases h3 t ht' with h | h
    · omega
    · exact h
/-- Take number i first. -/
theorem headH_take {m i : Nat} {oi : Oper} {v : Value} {f : Nat} {listed : Array Bool} {a : Act} {w : World} {L : Array Bool → Act → World → Prop} (hi : ops[i]? = some oi)
    (hall : (Region.noSelect ops && Region.sinkB md ops m && Region.chainB md ops m && decide (m < ops.size) && decide (i < m) && headB md ops m listed && Region.free md ops listed i && (Region.ready md ops listed).contains i) = true)
    (hQ : ∀ c a w, Q (.panic c) (a.put oi.dst v) w → Q (.panic c) a w) (hdone : ∀ listed a w, L listed a w → ∀ j ∈ Region.ready md ops listed, m ≤ j)
    (hy : YieldsIf P ops S oi v a) (hS : S w) (h : headH P md ops Q S m L f (listed.setIfInBounds i true) (a.put oi.dst v) w) : headH P md ops Q S m L (f + 1) listed a w := by
  simp only [Bool.and_eq_true, decide_eq_true_eq] at hall
  obtain ⟨⟨⟨⟨⟨⟨⟨h1, h2⟩, h3⟩, h4⟩, h5⟩, h6⟩, h7⟩, h8⟩ := hall
  exact headH_first hi (Region.noSelect_spec h1) (fun listed inv i him hun t ht => tail_waits h2 h3 h4 inv _ i rfl him hun t ht) h5 hQ hdone f listed a w (headB_inv h6) (Region.free_spec hi h7) (by simpa using h8) hy hS h
/-- All that come behind the first m wait for each of them. -/
def barB (md : Region.Mode) (ops : Array Oper) (m : Nat) : Bool := (List.range ops.size).all fun t => decide (t < m) || ((List.range m).all fun i => Region.waitsFor md ops t i)
theorem bar_waits {m : Nat} (h : barB md ops m = true) (listed : Array Bool) (i : Nat) (him : i < m) (hun : listed.getD i true = false) (t : Nat) (ht : m ≤ t) : t ∉ Region.ready md ops listed := by
  intro hr
  obtain ⟨_, ot, hot, hall⟩ := mem_ready.1 hr
  have htlt : t < ops.size := (Array.getElem?_eq_some_iff.1 hot).1
  simp only [barB, List.all_eq_true, List.mem_range, Bool.or_eq_true, decide_eq_true_eq] at h
  rcases h t htlt with h1 | h1
  · omega
  · obtain ⟨o', ho', e, he, hb, hon⟩ := Region.waitsFor_spec (h1 i him)
    have : o' = ot := Option.some.inj (ho'.symm.trans hot)
    subst this
    have h2 := hall e he hb
    rw [hon, getD_both hun] at h2
    cases h2
/-- Take number i first, ahead of a bar. -/
theorem headB_take {m i : Nat} {oi : Oper} {v : Value} {f : Nat} {listed : Array Bool} {a : Act} {w : World} {L : Array Bool → Act → World → Prop} (hi : ops[i]? = some oi)
    (hall : (Region.noSelect ops && barB md ops m && decide (i < m) && headB md ops m listed && Region.free md ops listed i && (Region.ready md ops listed).contains i) = true)
    (hQ : ∀ c a w, Q (.panic c) (a.put oi.dst v) w → Q (.panic c) a w) (hdone : ∀ listed a w, L listed a w → ∀ j ∈ Region.ready md ops listed, m ≤ j)
    (hy : YieldsIf P ops S oi v a) (hS : S w) (h : headH P md ops Q S m L f (listed.setIfInBounds i true) (a.put oi.dst v) w) : headH P md ops Q S m L (f + 1) listed a w := by
  simp only [Bool.and_eq_true, decide_eq_true_eq] at hall
  obtain ⟨⟨⟨⟨⟨h1, h2⟩, h5⟩, h6⟩, h7⟩, h8⟩ := hall
  exact headH_first hi (Region.noSelect_spec h1) (fun listed _ i him hun t ht => bar_waits h2 listed i him hun t ht) h5 hQ hdone f listed a w (headB_inv h6) (Region.free_spec hi h7) (by simpa using h8) hy hS h
/-- Have the first m come up? -/
def passedB (m : Nat) (listed : Array Bool) : Bool := (List.range m).all fun i => listed.getD i false
theorem passed_ready {m : Nat} {listed : Array Bool} (h : passedB m listed = true) : ∀ j ∈ Region.ready md ops listed, m ≤ j := by
  intro j hj
  obtain ⟨hun, oj, hoj, -⟩ := mem_ready.1 hj
  refine Nat.le_of_not_lt fun hlt => ?_
  have := List.all_eq_true.1 h j (List.mem_range.2 hlt)
  rw [getD_both hun] at this
  cases this
/-- THE BEGINNING, ahead of a bar: what comes behind it goes in whatever order. -/
theorem wp_held_bar {id : Nat} {a : Act} {w : World} {l : List Oper} (m : Nat) (hmx : P.follows .mixedOrders = true) (hm : m ≤ l.length)
    (h : headH P .any l.toArray Q S m (fun listed a w => passedB m listed = true ∧ wpAny P .any l.toArray Q (l.length - m) listed a w) m (Array.replicate l.toArray.size false) a w.drew) : (Code.region id l.toArray true).wp P Q a w := by
  refine wp_region_any hmx ?_
  have := any_of_headH (g := l.length - m) (fun listed a' w' hL => hL.2) _ _ _ _ h
  rw [show m + (l.length - m) = l.toArray.size by simp; omega] at this
  exact this
/-- Only number i may come up: behind it S is to be shown anew. -/
theorem headH_one {m i : Nat} {o : Oper} {f : Nat} {listed : Array Bool} {a : Act} {w : World} {L : Array Bool → Act → World → Prop} (hr : (Region.ready md ops listed == [i] && decide (i < m)) = true) (ho : ops[i]? = some o)
    (h : ∀ K' : Act → World → Prop, Shut (∀ a w, S w → (S w → headH P md ops Q S m L f (listed.setIfInBounds i true) a w) → K' a w) → if Region.wanted o (yielded ops a.tmps) = true then Oper.wp P o a w K' Q else K' (a.put o.dst undef) w) : headH P md ops Q S m L (f + 1) listed a w := by
  simp only [Bool.and_eq_true, beq_iff_eq, decide_eq_true_eq] at hr
  refine ⟨by rw [hr.1]; simp, fun j hj => ?_⟩
  rw [hr.1] at hj
  have hji : j = i := by simpa using hj
  subst hji
  exact ⟨hr.2, wpOp_step ho (fun K' hK => h K' (fun a w hS hW => hK a w ⟨hS, hW hS⟩))⟩
/-- THE BEGINNING: the first m operations so, the rest in their order. -/
theorem wp_held_tail {id : Nat} {a : Act} {w : World} {l : List Oper} (m : Nat) (hmx : P.follows .mixedOrders = true) (hm : m ≤ l.length)
    (h : headH P .any l.toArray Q S m (fun listed a w => Region.seqB .any l.toArray (l.length - m) m listed = true ∧ wpList P l.toArray Q (l.drop m) a w) m (Array.replicate l.toArray.size false) a w.drew) : (Code.region id l.toArray true).wp P Q a w := by
  refine wp_region_any hmx ?_
  have := any_of_headH (g := l.length - m) (fun listed a' w' hL => by
    have hdl : (l.drop m).length = l.length - m := by simp
    have := wpAny_of_seq (md := .any) (Q' := Q) (l.drop m) m listed a' w' (fun j => by simp [List.getElem?_drop]) (by rw [hdl]; exact hL.1) hL.2
    rwa [hdl] at this) _ _ _ _ h
  rw [show m + (l.length - m) = l.toArray.size by simp; omega] at this
  exact this
theorem seq_done {l : List Oper} {g m : Nat} {R : Array Bool → Act → World → Prop} (listed : Array Bool) (a : Act) (w : World) (h : Region.seqB md l.toArray g m listed = true ∧ R listed a w) : ∀ j ∈ Region.ready md l.toArray listed, m ≤ j := seqB_ready h.1
end
end
section
/- The law of HTail where several stores of the head write what earlier loads have read: each thing that is held is held till the store with its number has come (a number past the end: to the head's end). No program. -/
set_option linter.unusedVariables false
set_option linter.unusedSimpArgs false
section
variable {P : Program} {ops : Array Oper} {Q : Exit → Act → World → Prop} {md : Region.Mode} {Ss : List (Nat × (World → Prop))}
/-- What is held: each predicate, while its number has not come. -/
def heldK : List (Nat × (World → Prop)) → Array Bool → World → Prop
  | [], _, _ => True
  | (k, S) :: l, listed, w => (listed.getD k false = false → S w) ∧ heldK l listed w
theorem heldK_set {listed : Array Bool} {w : World} {i : Nat} : ∀ {l : List (Nat × (World → Prop))}, (l.all fun p => decide (i ≠ p.1)) = true → (heldK l (listed.setIfInBounds i true) w ↔ heldK l listed w)
  | [], _ => Iff.rfl
  | (k, S) :: l, h => by
    simp only [List.all_cons, Bool.and_eq_true, decide_eq_true_eq] at h
    unfold heldK; rw [getD_set_ne false h.1, heldK_set h.2]
theorem heldK_at {listed : Array Bool} {w : World} {p : Nat × (World → Prop)} : ∀ {l : List (Nat × (World → Prop))} {j : Nat}, l[j]? = some p → heldK l listed w → listed.getD p.1 false = false → p.2 w
  | [], _, h, _, _ => by cases h
  | (k, S) :: l, 0, h, hh, hl => by cases h; exact hh.1 hl
  | (k, S) :: l, j + 1, h, hh, hl => heldK_at (l := l) (j := j) h hh.2 hl
def headK (P : Program) (md : Region.Mode) (ops : Array Oper) (Q : Exit → Act → World → Prop) (Ss : List (Nat × (World → Prop))) (m : Nat) (L : Array Bool → Act → World → Prop) : Nat → Array Bool → Act → World → Prop
  | 0, listed, a, w => L listed a w
  | f + 1, listed, a, w => Region.ready md ops listed ≠ [] ∧ ∀ i ∈ Region.ready md ops listed, i < m ∧ wpOp P ops Q i (fun a' w' => heldK Ss (listed.setIfInBounds i true) w' ∧ headK P md ops Q Ss m L f (listed.setIfInBounds i true) a' w') a w
theorem any_of_headK {m g : Nat} {L : Array Bool → Act → World → Prop} (hL : ∀ listed a w, L listed a w → wpAny P md ops Q g listed a w) :
    ∀ (f : Nat) (listed : Array Bool) (a : Act) (w : World), headK P md ops Q Ss m L f listed a w → wpAny P md ops Q (f + g) listed a w
  | 0, listed, a, w, h => by rw [Nat.zero_add]; exact hL _ _ _ h
  | f + 1, listed, a, w, h => by
    rw [show f + 1 + g = (f + g) + 1 by omega]
    exact ⟨fun h0 => absurd h0 h.1, fun i hi => wpOp_mono (fun a' w' h' => any_of_headK hL f _ a' w' h'.2) (h.2 i hi).2⟩
theorem headK_first {m i : Nat} {oi : Oper} {v : Value} {L : Array Bool → Act → World → Prop} {T : World → Prop} (hi : ops[i]? = some oi) (hsel : ∀ (j : Nat) (o : Oper) cs b, ops[j]? = some o → o.op ≠ .select cs b)
    (hik : (Ss.all fun p => decide (i ≠ p.1)) = true) (hT : ∀ listed, HeadInv md ops m listed → listed.getD i true = false → ∀ w, heldK Ss listed w → T w)
    (hw : ∀ listed, HeadInv md ops m listed → ∀ i, i < m → listed.getD i true = false → ∀ t, m ≤ t → t ∉ Region.ready md ops listed) (him : i < m)
    (hQ : ∀ c a w, Q (.panic c) (a.put oi.dst v) w → Q (.panic c) a w) (hdone : ∀ listed a w, L listed a w → ∀ j ∈ Region.ready md ops listed, m ≤ j) :
    ∀ (f : Nat) (listed : Array Bool) (a : Act) (w : World), HeadInv md ops m listed →
      (∀ j oj, ops[j]? = some oj → j ≠ i → listed.getD j true = false → (∀ e ∈ oj.after, Region.binds md e = true → e.on ≠ i) → oi.apart ops oj = true) →
      i ∈ Region.ready md ops listed → YieldsIf P ops T oi v a → heldK Ss listed w →
      headK P md ops Q Ss m L f (listed.setIfInBounds i true) (a.put oi.dst v) w → headK P md ops Q Ss m L (f + 1) listed a w := by
  intro f
  induction f with
  | zero =>
    intro listed a w inv _ hr hy hS H
    have hun := (mem_ready.1 hr).1
    refine ⟨fun h => (by rw [h] at hr; cases hr), fun j hj => ?_⟩
    have hjm : j < m := by
      rcases Nat.lt_or_ge j m with h | h
      · exact h
      · exact absurd hj (hw listed inv i him hun j h)
    refine ⟨hjm, ?_⟩
    by_cases hji : j = i
    · subst hji; exact hy.wpOp hi (hT listed inv hun w hS) ⟨(heldK_set hik).2 hS, H⟩
    · have := hdone _ _ _ H j (ready_mono hj hji)
      omega
  | succ f ih =>
    intro listed a w inv hfree hr hy hS H
    have hun := (mem_ready.1 hr).1
    refine ⟨fun h => (by rw [h] at hr; cases hr), fun j hj => ?_⟩
    have hjm : j < m := by
      rcases Nat.lt_or_ge j m with h | h
      · exact h
      · exact absurd hj (hw listed inv i him hun j h)
    refine ⟨hjm, ?_⟩
    by_cases hji : j = i
    · subst hji; exact hy.wpOp hi (hT listed inv hun w hS) ⟨(heldK_set hik).2 hS, H⟩
    · have h1 := (H.2 j (ready_mono hj hji)).2
      obtain ⟨hjun, oj, hoj, hall⟩ := mem_ready.1 hj
      have hnot : ∀ e ∈ oj.after, Region.binds md e = true → e.on ≠ i := fun e he hb heq => by
        have h1 := hall e he hb
        rw [heq, getD_both hun] at h1
        cases h1
      have h2 := wpOp_putIf hoj (hfree j oj hoj hji hjun hnot) (fun cs b => hsel i oi cs b hi) (fun cs b => hsel j oj cs b hoj) hQ hy h1
      have hfree' : ∀ l ol, ops[l]? = some ol → l ≠ i → (listed.setIfInBounds j true).getD l true = false →
          (∀ e ∈ ol.after, Region.binds md e = true → e.on ≠ i) → oi.apart ops ol = true := fun l ol hl hli hun hno => by
        refine hfree l ol hl hli ?_ hno
        by_cases hjl : j = l
        · subst hjl; exact hjun
        · rw [getD_set_ne true hjl] at hun; exact hun
      refine wpOp_mono (fun a' w' h3 => ?_) h2
      have h4 := h3.2.1
      rw [Array.setIfInBounds_comm _ _ (Ne.symm hji)] at h4
      have h5 := (heldK_set hik).1 h4
      refine ⟨h5, ih (listed.setIfInBounds j true) a' w' (inv.set hj hjm) hfree' (ready_mono hr (Ne.symm hji)) h3.1 h5 ?_⟩
      rw [Array.setIfInBounds_comm _ _ hji]
      exact h3.2.2
/-- What every taking asks of the region and of number i. -/
def takeB (md : Region.Mode) (ops : Array Oper) (Ss : List Nat) (m i : Nat) (listed : Array Bool) : Bool :=
  Region.noSelect ops && barB md ops m && decide (i < m) && headB md ops m listed && Region.free md ops listed i && (Region.ready md ops listed).contains i && (Ss.all fun k => decide (i ≠ k))
theorem takeB_all {listed : Array Bool} {m i : Nat} (h : takeB md ops (Ss.map (·.1)) m i listed = true) : Region.noSelect ops = true ∧ barB md ops m = true ∧ i < m ∧ headB md ops m listed = true ∧ Region.free md ops listed i = true ∧ (Region.ready md ops listed).contains i = true ∧ (Ss.all fun p => decide (i ≠ p.1)) = true := by
  unfold takeB at h
  simp only [Bool.and_eq_true, decide_eq_true_eq, List.all_map, Function.comp_def] at h
  obtain ⟨⟨⟨⟨⟨⟨h1, h2⟩, h5⟩, h6⟩, h7⟩, h8⟩, h9⟩ := h
  exact ⟨h1, h2, h5, h6, h7, h8, h9⟩
/-- Take number i first, which reads nothing. -/
theorem headK_take {m i : Nat} {oi : Oper} {v : Value} {f : Nat} {listed : Array Bool} {a : Act} {w : World} {L : Array Bool → Act → World → Prop} (hi : ops[i]? = some oi)
    (hall : takeB md ops (Ss.map (·.1)) m i listed = true)
    (hQ : ∀ c a w, Q (.panic c) (a.put oi.dst v) w → Q (.panic c) a w) (hdone : ∀ listed a w, L listed a w → ∀ j ∈ Region.ready md ops listed, m ≤ j)
    (hy : YieldsIf P ops (fun _ => True) oi v a) (hS : heldK Ss listed w) (h : headK P md ops Q Ss m L f (listed.setIfInBounds i true) (a.put oi.dst v) w) : headK P md ops Q Ss m L (f + 1) listed a w := by
  obtain ⟨h1, h2, h5, h6, h7, h8, h9⟩ := takeB_all hall
  exact headK_first hi (Region.noSelect_spec h1) h9 (fun _ _ _ _ _ => trivial) (fun listed _ i him hun t ht => bar_waits h2 listed i him hun t ht) h5 hQ hdone f listed a w (headB_inv h6) (Region.free_spec hi h7) (by simpa using h8) hy hS h
/-- Take number i first, which reads what the j-th of those held says: the store that ends it waits for i, or there is none. -/
theorem headK_load {m i : Nat} {oi : Oper} {v : Value} {f : Nat} {listed : Array Bool} {a : Act} {w : World} {L : Array Bool → Act → World → Prop} (j k : Nat) (S : World → Prop) (hj : Ss[j]? = some (k, S)) (hi : ops[i]? = some oi)
    (hall : (takeB md ops (Ss.map (·.1)) m i listed && (decide (ops.size ≤ k) || Region.waitsFor md ops k i)) = true)
    (hQ : ∀ c a w, Q (.panic c) (a.put oi.dst v) w → Q (.panic c) a w) (hdone : ∀ listed a w, L listed a w → ∀ j ∈ Region.ready md ops listed, m ≤ j)
    (hy : YieldsIf P ops S oi v a) (hS : heldK Ss listed w) (h : headK P md ops Q Ss m L f (listed.setIfInBounds i true) (a.put oi.dst v) w) : headK P md ops Q Ss m L (f + 1) listed a w := by
  simp only [Bool.and_eq_true, Bool.or_eq_true, decide_eq_true_eq] at hall
  obtain ⟨h1, h2, h5, h6, h7, h8, h9⟩ := takeB_all hall.1
  refine headK_first hi (Region.noSelect_spec h1) h9 (fun listed inv hun w hw => heldK_at hj hw ?_) (fun listed _ i him hun t ht => bar_waits h2 listed i him hun t ht) h5 hQ hdone f listed a w (headB_inv h6) (Region.free_spec hi h7) (by simpa using h8) hy hS h
  rcases hall.2 with hk | hk
  · have hk2 : listed.size ≤ k := by rw [inv.size]; exact hk
    show listed.getD k false = false
    simp [Array.getD_eq_getD_getElem?, Array.getElem?_eq_none hk2]
  · obtain ⟨ok, hok, e, he, hbd, hon⟩ := Region.waitsFor_spec hk
    show listed.getD k false = false
    cases hl : listed.getD k false with
    | false => rfl
    | true =>
      have := inv.closed k ok hok hl e he hbd
      rw [hon, getD_both hun] at this
      cases this
/-- Only number i may come up: behind it what is held is to be shown anew. -/
theorem headK_one {m i : Nat} {o : Oper} {f : Nat} {listed : Array Bool} {a : Act} {w : World} {L : Array Bool → Act → World → Prop} (hr : (Region.ready md ops listed == [i] && decide (i < m)) = true) (ho : ops[i]? = some o)
    (h : ∀ K' : Act → World → Prop, Shut (∀ a w, heldK Ss (listed.setIfInBounds i true) w → headK P md ops Q Ss m L f (listed.setIfInBounds i true) a w → K' a w) → if Region.wanted o (yielded ops a.tmps) = true then Oper.wp P o a w K' Q else K' (a.put o.dst undef) w) : headK P md ops Q Ss m L (f + 1) listed a w := by
  simp only [Bool.and_eq_true, beq_iff_eq, decide_eq_true_eq] at hr
  refine ⟨by rw [hr.1]; simp, fun j hj => ?_⟩
  rw [hr.1] at hj
  have hji : j = i := by simpa using hj
  subst hji
  exact ⟨hr.2, wpOp_step ho (fun K' hK => h K' (fun a w hS hW => hK a w ⟨hS, hW⟩))⟩
theorem wp_heldK_bar {id : Nat} {a : Act} {w : World} {l : List Oper} (Ss : List (Nat × (World → Prop))) (m : Nat) (hmx : P.follows .mixedOrders = true) (hm : m ≤ l.length)
    (h : headK P .any l.toArray Q Ss m (fun listed a w => passedB m listed = true ∧ wpAny P .any l.toArray Q (l.length - m) listed a w) m (Array.replicate l.toArray.size false) a w.drew) : (Code.region id l.toArray true).wp P Q a w := by
  refine wp_region_any hmx ?_
  have := any_of_headK (g := l.length - m) (fun listed a' w' hL => hL.2) _ _ _ _ h
  rw [show m + (l.length - m) = l.toArray.size by simp; omega] at this
  exact this
end
end
end Go.Proofs.Ytdfmogcgangdnaa
