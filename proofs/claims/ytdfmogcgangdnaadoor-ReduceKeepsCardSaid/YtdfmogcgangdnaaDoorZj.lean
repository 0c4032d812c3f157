/- Parts: Rs1, Rs2, GTail, RsX, ApS, AppN. -/
import Derived.Test.YtdfmogcgangdnaaDoorZi
import Derived.ArgAppend
import Derived.Deep.AppendLies
import Derived.Deep.RegionLaw
namespace Go.Proofs.YtdfmogcgangdnaaDoor
section
/- reduce.Spans. -/
set_option linter.unusedVariables false
set_option linter.unusedSimpArgs false
open Go.RowKit
set_option maxRecDepth 100000
theorem plc_zero (N z : Nat) (hz : z < 2 ^ N) : (plcN (rowOf N z) (64 * nw N)).length = 0 ↔ z = 0 := by
  constructor
  · intro h
    apply Nat.eq_of_testBit_eq
    intro p
    rw [Nat.zero_testBit]
    by_cases hp : p < N
    · rw [← rowOf_bit N z p hp, Bool.eq_false_iff]
      intro hb
      have hm : p ∈ plcN (rowOf N z) (64 * nw N) := List.mem_filter.2 ⟨by simp only [List.mem_range]; unfold nw; omega, hb⟩
      rw [List.length_eq_zero_iff.1 h] at hm
      cases hm
    · exact Nat.testBit_lt_two_pow (Nat.lt_of_lt_of_le hz (Nat.pow_le_pow_right (by omega) (by omega)))
  · rintro rfl
    rw [List.length_eq_zero_iff]
    unfold plcN
    rw [List.filter_eq_nil_iff]
    intro p _
    rw [rowOf_zero]
    unfold bitAt
    have : (List.replicate (nw N) 0).getD (p / 64) 0 = 0 := by
      simp only [List.getD, List.getElem?_replicate]; split <;> rfl
    rw [this]; simp
theorem Ints.drewI {w : World} {A : Option Addr} {len : Nat} {zs : List Int} (h : Ints w A len zs) : Ints w.drew A len zs := h
theorem Ints.far1 {w : World} {A : Option Addr} {len : Nat} {zs : List Int} (h : Ints w A len zs) {g : Nat} (hne : ∀ b off, 0 < len → A = some ⟨b, off, none⟩ → b ≠ g) (i : Nat) (u : Value) : Ints (w.setCell ⟨g, i, none⟩ u) A len zs := by
  refine ⟨h.1, h.2.1, fun hp => ?_⟩
  obtain ⟨b, off, rfl, hlt, hc⟩ := h.2.2 hp
  have hn := hne b off hp rfl
  refine ⟨b, off, rfl, by simpa [World.setCell] using hlt, fun j hj => ?_⟩
  rw [World.cell?_setCell_other _ _ _ _ (by intro e; injection e; omega)]
  exact hc j hj
/-- What Spans tells. -/
def SpansOut (L : List Nat) (x : Nat) (w : World) (e : Ending) (w' : World) : Prop := ∃ b : Bool, (b = true ↔ Sp L x) ∧ e = .returned (.tuple #[.bool b, .int .i64 0]) ∧ Below w.heap.size w w'
set_option maxHeartbeats 4000000 in
theorem spans_argM (N n : Int) (A B : Option Addr) (l c k d lo : Nat) (ms : List (Int × List Nat)) (w : World) (hm : MatAt w lo A l ms) (hl : l ≤ maxLen) (hr : rightM N ms = false) :
    Calls Tryd.prog 13 #[.agg #[.int .i64 N, .slice A l c], .agg #[.int .i64 n, .slice B k d]] w fun e w' => e = .returned (.tuple #[.bool false, .int .i64 1]) ∧ Below w.heap.size w w' := by
  have b1 : Below w.heap.size w ((w.alloc (.cells #[.int .i64 N, .slice A l c] 24)).alloc (.cells #[.int .i64 n, .slice B k d] 27)) := ((Below.refl _ _).alloc (Nat.le_refl _) _).alloc (by simp) _
  have Q0 := Lib.hid ((Box.new w 24 #[.int .i64 N, .slice A l c]).alloc (.cells #[.int .i64 n, .slice B k d] 27))
  have HB := Lib.hid b1
  have HE := Lib.hid (ech_no N A l c lo ms _ (hm.below b1) hl hr)
  clear b1 hm hr
  obtain ⟨r0, r1, -, -⟩ := Q0.out.two
  go_enter Tryd.func13, Tryd.ntmps13
  go_wp2_with fail
  refine HE.out.mono ?_
  rintro e x1 ⟨rfl, hb⟩
  have HB := Lib.hid (chain HB.out hb)
  clear hb r0 r1
  go_wp2_with fail
  go_ret2
  exact ⟨rfl, HB.out.alloc HB.out.size _⟩
set_option maxHeartbeats 4000000 in
theorem spans_argR (N : Nat) (hN : N ≤ 64) (L : List Nat) (hL : ∀ r ∈ L, r < 2 ^ N) (hlen : L.length ≤ 64) (A : Option Addr) (c lo : Nat) (n : Int) (B : Option Addr) (k d : Nat) (us : List Nat) (w : World) (hm : MatAt w lo A L.length (mkM N L)) (hr : rightM N (mkM N L) = true) (hu : Words w B k us) (hru : rightB n us = false) :
    Calls Tryd.prog 13 #[.agg #[.int .i64 (N : Int), .slice A L.length c], .agg #[.int .i64 n, .slice B k d]] w fun e w' => e = .returned (.tuple #[.bool false, .int .i64 1]) ∧ Below w.heap.size w w' := by
  have b1 : Below w.heap.size w ((w.alloc (.cells #[.int .i64 (N : Int), .slice A L.length c] 24)).alloc (.cells #[.int .i64 n, .slice B k d] 27)) := ((Below.refl _ _).alloc (Nat.le_refl _) _).alloc (by simp) _
  have Q0 := Lib.hid ((Box.new w 24 #[.int .i64 (N : Int), .slice A L.length c]).alloc (.cells #[.int .i64 n, .slice B k d] 27))
  have q1 := Box.new (w.alloc (.cells #[.int .i64 (N : Int), .slice A L.length c] 24)) 27 #[.int .i64 n, .slice B k d]
  simp only [World.size_alloc] at q1
  have Q1 := Lib.hid q1
  have HB := Lib.hid b1
  have HU := Lib.hid (hu.below b1)
  have HE := Lib.hid (ech_yes N hN L hL hlen A c lo _ (hm.below b1) hr)
  have HR := Lib.hid (fun w' (h : Words w' B k us) => right_any n B k d us w' h)
  rw [hru] at HR
  clear b1 hm hr q1 hu hru
  obtain ⟨r0, r1, -, -⟩ := Q0.out.two
  go_enter Tryd.func13, Tryd.ntmps13
  go_wp2_with fail
  refine HE.out.mono ?_
  rintro e x1 ⟨M, P, A1, B1, kc, rfl, h1, h2, h3, h4, h5, hb⟩
  have hal : Below x1.heap.size x1 (x1.alloc (.cells #[.int .i64 (N : Int), .slice A1 M.length M.length] 24)) := (Below.refl _ _).alloc (Nat.le_refl _) _
  have HB := Lib.hid (chain (chain HB.out hb) hal)
  have Q1 := Lib.hid ((Q1.out.keep hb).keep hal)
  have HU := Lib.hid ((HU.out.below hb).below hal)
  clear h1 h2 h3 h4 h5 hb hal r0 r1 Q0 HE
  obtain ⟨r0, r1, -, -⟩ := Q1.out.two
  go_wp2_with fail
  refine (HR.out _ HU.out).mono ?_
  rintro e x2 ⟨rfl, hb⟩
  have HB := Lib.hid (chain HB.out hb)
  clear hb r0 r1
  go_wp2_with fail
  go_ret2
  exact ⟨rfl, HB.out⟩
set_option maxHeartbeats 4000000 in
theorem spans_size (N : Nat) (hN : N ≤ 64) (L : List Nat) (hL : ∀ r ∈ L, r < 2 ^ N) (hlen : L.length ≤ 64) (A : Option Addr) (c lo : Nat) (n : Int) (B : Option Addr) (k d : Nat) (us : List Nat) (w : World) (hm : MatAt w lo A L.length (mkM N L)) (hr : rightM N (mkM N L) = true) (hu : Words w B k us) (hru : rightB n us = true) (hne : (n == (N : Int)) = false) :
    Calls Tryd.prog 13 #[.agg #[.int .i64 (N : Int), .slice A L.length c], .agg #[.int .i64 n, .slice B k d]] w fun e w' => e = .returned (.tuple #[.bool false, .int .i64 2]) ∧ Below w.heap.size w w' := by
  have b1 : Below w.heap.size w ((w.alloc (.cells #[.int .i64 (N : Int), .slice A L.length c] 24)).alloc (.cells #[.int .i64 n, .slice B k d] 27)) := ((Below.refl _ _).alloc (Nat.le_refl _) _).alloc (by simp) _
  have Q0 := Lib.hid ((Box.new w 24 #[.int .i64 (N : Int), .slice A L.length c]).alloc (.cells #[.int .i64 n, .slice B k d] 27))
  have q1 := Box.new (w.alloc (.cells #[.int .i64 (N : Int), .slice A L.length c] 24)) 27 #[.int .i64 n, .slice B k d]
  simp only [World.size_alloc] at q1
  have Q1 := Lib.hid q1
  have HB := Lib.hid b1
  have HU := Lib.hid (hu.below b1)
  have HE := Lib.hid (ech_yes N hN L hL hlen A c lo _ (hm.below b1) hr)
  have HR := Lib.hid (fun w' (h : Words w' B k us) => right_any n B k d us w' h)
  have HN1 := Lib.hid hne
  have HN2 := Lib.hid (show (n != (N : Int)) = true by simp [bne, hne])
  rw [hru] at HR
  clear b1 hm hr q1 hu hru hne
  obtain ⟨r0, r1, -, -⟩ := Q0.out.two
  go_enter Tryd.func13, Tryd.ntmps13
  go_wp2_with fail
  refine HE.out.mono ?_
  rintro e x1 ⟨M, P, A1, B1, kc, rfl, h1, h2, h3, h4, h5, hb⟩
  have hal : Below x1.heap.size x1 (x1.alloc (.cells #[.int .i64 (N : Int), .slice A1 M.length M.length] 24)) := (Below.refl _ _).alloc (Nat.le_refl _) _
  have HB := Lib.hid (chain (chain HB.out hb) hal)
  have Q0 := Lib.hid ((Q0.out.keep hb).keep hal)
  have Q1 := Lib.hid ((Q1.out.keep hb).keep hal)
  have HU := Lib.hid ((HU.out.below hb).below hal)
  clear h1 h2 h3 h4 h5 hb hal r0 r1 HE
  obtain ⟨r0, r1, -, -⟩ := Q1.out.two
  go_wp2_with fail
  refine (HR.out _ HU.out).mono ?_
  rintro e x2 ⟨rfl, hb⟩
  have HB := Lib.hid (chain HB.out hb)
  have Q0 := Lib.hid (Q0.out.keep hb)
  have Q1 := Lib.hid (Q1.out.keep hb)
  clear hb r0 r1
  obtain ⟨r0, r1, -, -⟩ := Q0.out.two
  obtain ⟨s0, s1, -, -⟩ := Q1.out.two
  have hn1 := HN1.out
  have hn2 := HN2.out
  go_wp2_with fail
  go_ret2
  exact ⟨rfl, HB.out⟩
set_option maxHeartbeats 8000000 in
theorem spans_yes (N : Nat) (hN : N ≤ 64) (L : List Nat) (hL : ∀ r ∈ L, r < 2 ^ N) (hlen : L.length ≤ 64) (A : Option Addr) (c lo x : Nat) (hx : x < 2 ^ N) (B : Option Addr) (k d : Nat) (w : World) (hm : MatAt w lo A L.length (mkM N L)) (hr : rightM N (mkM N L) = true) (hu : Words w B k (rowOf N x)) (hs : SliceOk B k d) :
    Calls Tryd.prog 13 #[.agg #[.int .i64 (N : Int), .slice A L.length c], .agg #[.int .i64 (N : Int), .slice B k d]] w (SpansOut L x w) := by
  have b1 : Below w.heap.size w ((w.alloc (.cells #[.int .i64 (N : Int), .slice A L.length c] 24)).alloc (.cells #[.int .i64 (N : Int), .slice B k d] 27)) := ((Below.refl _ _).alloc (Nat.le_refl _) _).alloc (by simp) _
  have Q0 := Lib.hid ((Box.new w 24 #[.int .i64 (N : Int), .slice A L.length c]).alloc (.cells #[.int .i64 (N : Int), .slice B k d] 27))
  have q1 := Box.new (w.alloc (.cells #[.int .i64 (N : Int), .slice A L.length c] 24)) 27 #[.int .i64 (N : Int), .slice B k d]
  simp only [World.size_alloc] at q1
  have Q1 := Lib.hid q1
  have HB := Lib.hid b1
  have HU := Lib.hid (hu.below b1)
  have HE := Lib.hid (ech_two N hN L hL hlen A c lo _ (hm.below b1) hr)
  have HR := Lib.hid (fun w' (h : Words w' B k (rowOf N x)) => right_any (N : Int) B k d (rowOf N x) w' h)
  have hrx := rowOf_right N x (by omega) hx
  rw [hrx] at HR
  have HX := Lib.hid hx
  have HLs := Lib.hid hL
  have HS := Lib.hid hs
  clear b1 hm hr q1 hu hrx hx hL hs
  obtain ⟨r0, r1, -, -⟩ := Q0.out.two
  go_enter Tryd.func13, Tryd.ntmps13
  go_wp2_with fail
  refine HE.out.mono ?_
  rintro e x1 ⟨M, P, A1, B1, kc, rfl, h1, h2, h3, h4, h5, h6, hb⟩
  have hsz := hb.size
  simp only [World.size_alloc] at hsz h3 h6
  have H1 := Lib.hid h1
  have H2 := Lib.hid h2
  have HMl := Lib.hid (lt_all (same_lt HLs.out h2))
  have hml : M.length ≤ 64 := Nat.le_trans (rank_le h1 h2) hlen
  have hal : Below x1.heap.size x1 (x1.alloc (.cells #[.int .i64 (N : Int), .slice A1 M.length M.length] 24)) := (Below.refl _ _).alloc (Nat.le_refl _) _
  have HB := Lib.hid (chain (chain HB.out hb) hal)
  have Q0 := Lib.hid ((Q0.out.keep hb).keep hal)
  have Q1 := Lib.hid ((Q1.out.keep hb).keep hal)
  have QR := Lib.hid (Box.new x1 24 #[.int .i64 (N : Int), .slice A1 M.length M.length])
  have HU := Lib.hid ((HU.out.below hb).below hal)
  have HM := Lib.hid (h3.below hal)
  have HI := Lib.hid (h4.below hal)
  have HLo := Lib.hid (show ∀ b o, 0 < M.length → B1 = some ⟨b, o, none⟩ → b ≠ w.heap.size + 1 from fun b o h0 hh => by have := h6 b o h0 hh; omega)
  clear h1 h2 h3 h4 h5 h6 hb hal r0 r1 HE
  obtain ⟨r0, r1, -, -⟩ := Q1.out.two
  go_wp2_with fail
  refine (HR.out _ HU.out).mono ?_
  rintro e x2 ⟨rfl, hb⟩
  have HB := Lib.hid (chain HB.out hb)
  have Q0 := Lib.hid (Q0.out.keep hb)
  have Q1 := Lib.hid (Q1.out.keep hb)
  have QR := Lib.hid (QR.out.keep hb)
  have HU := Lib.hid (HU.out.below hb)
  have HM := Lib.hid (HM.out.below hb)
  have HI := Lib.hid (HI.out.below hb)
  clear hb r0 r1
  obtain ⟨r0, r1, -, -⟩ := Q0.out.two
  obtain ⟨s0, s1, -, -⟩ := Q1.out.two
  have n1 : ¬ x1.heap.size = w.heap.size + 1 := by omega
  have n2 : ¬ w.heap.size + 1 = x1.heap.size := by omega
  go_wp2_with fail
  clear r0 r1 s0 s1
  go_loopw [33] (fun t wr => ∃ (i : Nat) (B' : Option Addr) (l' d' : Nat), i ≤ M.length ∧ t = .int .i64 (i : Int) ∧ Hid (Box wr (w.heap.size + 1) 27 #[.int .i64 (N : Int), .slice B' l' d']) ∧ Hid (Box wr x1.heap.size 24 #[.int .i64 (N : Int), .slice A1 M.length M.length]) ∧ Hid (SliceOk B' l' d') ∧ Hid (Words wr B' l' (rowOf N (leftN M P x i))) ∧ Hid (MatAt wr (w.heap.size + 2) A1 M.length (mkM N M)) ∧ Hid (Ints wr B1 M.length (P.map fun x : Nat => (x : Int))) ∧ Hid (Below w.heap.size w wr)) (fun t _ => M.length - (intOf t).toNat)
  case atStart => exact ⟨0, B, k, d, Nat.zero_le _, rfl, Q1, QR, HS, HU, HM, HI, HB⟩
  case round =>
    obtain ⟨i, B', l', d', hi, rfl, R1, RR, HS', HWr, HMr, HIr, HBr⟩ := hrel
    clear Q0 Q1 QR HU HM HI HB HS HR
    by_cases hlt : i < M.length
    · have hlt' : (i : Int) < (M.length : Int) := by omega
      obtain ⟨bi, oi, rfl, hbi, hci⟩ := HIr.out.2.2 (by omega)
      have ci := hci i hlt
      rw [show (P.map fun x : Nat => (x : Int)).getD i 0 = ((P.getD i 0 : Nat) : Int) by simp [List.getD, show i < P.length by have := H1.out.len; omega]] at ci
      have HLv := Lib.hid (leftN_lt (P := P) HMl.out x HX.out i)
      have hp : P.getD i 0 < N := low_lt (HMl.out i) (H1.out.low i hlt)
      have hp0 : (0 : Int) ≤ ((P.getD i 0 : Nat) : Int) := by omega
      have HHas := Lib.hid (has_any N (leftN M P x i) (by omega) HLv.out B' l' d' (P.getD i 0) hp wr HWr.out)
      obtain ⟨r0, r1, rf0, rf1⟩ := R1.out.two
      clear hci
      cases hb : (leftN M P x i).testBit (P.getD i 0) with
      | true =>
        rw [hb] at HHas
        have HN := Lib.hid (show leftN M P x (i + 1) = leftN M P x i ^^^ M.getD i 0 by rw [leftN, if_pos hb])
        clear hb
        generalize P.getD i 0 = p at *
        go_wp2_with fail
        refine HHas.out.mono ?_
        rintro e y1 ⟨rfl, hb⟩
        have R1 := Lib.hid (R1.out.keep hb)
        have RR := Lib.hid (RR.out.keep hb)
        have HBr := Lib.hid (chain HBr.out hb)
        have HWr := Lib.hid (HWr.out.below hb)
        have HMr := Lib.hid (HMr.out.below hb)
        have HIr := Lib.hid (HIr.out.below hb)
        clear hb r0 r1 rf0 rf1 ci hbi HHas
        obtain ⟨r0, r1, rf0, rf1⟩ := R1.out.two
        obtain ⟨s0, s1, -, -⟩ := RR.out.two
        obtain ⟨b, off, B2, l2, c2, rfl, hbl, x0, x1', hs2, hw2⟩ := HMr.out.at i hlt
        rw [mkM_at N M i hlt] at x0 hw2
        simp only [mkR] at x0 hw2
        have HS2 := Lib.hid hs2
        have HW2 := Lib.hid hw2
        have HXor := Lib.hid (fun w' (h1 : Words w' B' l' (rowOf N (leftN M P x i))) (h2 : Words w' B2 l2 (rowOf N (M.getD i 0))) => xor_num N _ _ (by omega) HLv.out (HMl.out i) B' B2 l' d' l2 c2 w' h1 h2)
        rw [← HN.out] at HXor
        clear hs2 hw2
        go_wp2_with fail
        go_region_with (go_at_call 31; refine (HXor.out _ HWr.out.drew HW2.out.drew).mono ?_; rintro f1 y2 ⟨A3, l3, c3, rfl, ow, hb⟩; have R1a := Lib.hid (R1.out.drew.keep hb); have RRa := Lib.hid (RR.out.drew.keep hb); have HBa := Lib.hid (chainN HBr.out.drew HBr.out.size hb); have HMa := Lib.hid (HMr.out.drew.below hb); have HIa := Lib.hid (HIr.out.drewI.below hb); have OW := Lib.hid ow; clear hb ow; obtain ⟨t0, t1, tf0, tf1⟩ := R1a.out.two)
        all_goals
          go_wp2_with fail
          go_roundw
          case rel => exact ⟨i + 1, A3, l3, c3, by omega, by go_num, Lib.hid R1a.out.put2, Lib.hid ((RRa.out.far (p := ⟨w.heap.size + 1, 0, none⟩) n1 _).far (p := ⟨w.heap.size + 1, 1, none⟩) n1 _), Lib.hid OW.out.ok, Lib.hid ((OW.out.words (rowOf_lt N _)).put2 R1a.out _ _), Lib.hid (HMa.out.put2 R1a.out (by omega) _), Lib.hid ((HIa.out.far1 HLo.out 0 _).far1 HLo.out 1 _), Lib.hid ((HBa.out.setCell (p := ⟨w.heap.size + 1, 0, none⟩) (by simp) _).setCell (p := ⟨w.heap.size + 1, 1, none⟩) (by simp) _)⟩
          case measure => simp [intOf] <;> omega
      | false =>
        rw [hb] at HHas
        have HN := Lib.hid (show leftN M P x (i + 1) = leftN M P x i by rw [leftN, hb]; rfl)
        clear hb
        generalize P.getD i 0 = p at *
        go_wp2_with fail
        refine HHas.out.mono ?_
        rintro e y1 ⟨rfl, hb⟩
        have R1 := Lib.hid (R1.out.keep hb)
        have RR := Lib.hid (RR.out.keep hb)
        have HBr := Lib.hid (chain HBr.out hb)
        have HWr := Lib.hid (HWr.out.below hb)
        have HMr := Lib.hid (HMr.out.below hb)
        have HIr := Lib.hid (HIr.out.below hb)
        clear hb r0 r1 rf0 rf1 ci hbi HHas
        go_wp2_with fail
        go_roundw
        case rel => exact ⟨i + 1, B', l', d', by omega, by go_num, R1, RR, HS', by rw [HN.out]; exact HWr, HMr, HIr, HBr⟩
        case measure => simp [intOf] <;> omega
    · obtain rfl : i = M.length := by omega
      have hlt' : ¬ (M.length : Int) < (M.length : Int) := by omega
      have hzl := leftN_lt (P := P) HMl.out x HX.out M.length
      have HZ := Lib.hid (plc_zero N _ hzl)
      have HC := Lib.hid (count_yes (N : Int) B' l' d' _ wr (rowOf_right N _ (by omega) hzl) HWr.out)
      have HLen := Lib.hid (show l' = nw N by have := HWr.out.1; rw [rowOf_len] at this; omega)
      have HLz := Lib.hid (left_zero H1.out x)
      clear hzl
      obtain ⟨r0, r1, -, -⟩ := R1.out.two
      generalize leftN M P x M.length = z at *
      go_wp2_with fail
      refine HC.out.mono ?_
      rw [HLen.out]
      rintro e y1 ⟨rfl, hb⟩
      have HB := Lib.hid (chain HBr.out hb)
      clear hb r0 r1 HC
      by_cases hz : (plcN (rowOf N z) (64 * nw N)).length = 0
      · have HT := Lib.hid ((H2.out x).2 (HLz.out.1 (HZ.out.1 hz)))
        rw [hz]
        clear hz
        go_wp2_with fail
        go_ret2
        exact ⟨true, by simp [HT.out], rfl, HB.out⟩
      · have HT := Lib.hid (fun h => hz (HZ.out.2 (HLz.out.2 ((H2.out x).1 h))))
        have HD : ((((plcN (rowOf N z) (64 * nw N)).length : Nat) : Int) == 0) = false := by simp only [beq_eq_false_iff_ne]; omega
        clear hz
        generalize (plcN (rowOf N z) (64 * nw N)).length = q at *
        go_wp2_with fail
        go_ret2
        exact ⟨false, ⟨fun h => (by cases h), fun h => (HT.out h).elim⟩, rfl, HB.out⟩
end
section
/- downpourref04.Spans. -/
set_option linter.unusedVariables false
set_option linter.unusedSimpArgs false
open Go.RowKit
set_option maxRecDepth 100000
/-- What the reference tells. -/
def RefSpans (L : List Nat) (x : Nat) (w : World) (e : Ending) (w' : World) : Prop := ∃ b : Bool, (b = true ↔ Sp L x) ∧ e = .returned (.bool b) ∧ Below w.heap.size w w'
end
section
/- The law of HTail where one store of the head (number k) writes what earlier loads have read: some cells are held till it has come, others to the head's end. No program. -/
set_option linter.unusedVariables false
set_option linter.unusedSimpArgs false
section
variable {P : Program} {ops : Array Oper} {Q : Exit → Act → World → Prop} {md : Region.Mode} {Sa Sb : World → Prop} {k : Nat}
/-- What is held: Sb, and, while number k has not come, Sa. -/
def heldG (Sa Sb : World → Prop) (k : Nat) (listed : Array Bool) (w : World) : Prop := Sb w ∧ (listed.getD k false = false → Sa w)
theorem heldG_set {listed : Array Bool} {w : World} {i : Nat} (hik : i ≠ k) : heldG Sa Sb k (listed.setIfInBounds i true) w ↔ heldG Sa Sb k listed w := by
  unfold heldG; rw [getD_set_ne false hik]
def headG (P : Program) (md : Region.Mode) (ops : Array Oper) (Q : Exit → Act → World → Prop) (Sa Sb : World → Prop) (k m : Nat) (L : Array Bool → Act → World → Prop) : Nat → Array Bool → Act → World → Prop
  | 0, listed, a, w => L listed a w
  | f + 1, listed, a, w => Region.ready md ops listed ≠ [] ∧ ∀ i ∈ Region.ready md ops listed, i < m ∧ wpOp P ops Q i (fun a' w' => heldG Sa Sb k (listed.setIfInBounds i true) w' ∧ headG P md ops Q Sa Sb k m L f (listed.setIfInBounds i true) a' w') a w
theorem any_of_headG {m g : Nat} {L : Array Bool → Act → World → Prop} (hL : ∀ listed a w, L listed a w → wpAny P md ops Q g listed a w) :
    ∀ (f : Nat) (listed : Array Bool) (a : Act) (w : World), headG P md ops Q Sa Sb k m L f listed a w → wpAny P md ops Q (f + g) listed a w
  | 0, listed, a, w, h => by rw [Nat.zero_add]; exact hL _ _ _ h
  | f + 1, listed, a, w, h => by
    rw [show f + 1 + g = (f + g) + 1 by omega]
    exact ⟨fun h0 => absurd h0 h.1, fun i hi => wpOp_mono (fun a' w' h' => any_of_headG hL f _ a' w' h'.2) (h.2 i hi).2⟩
theorem headG_first {m i : Nat} {oi : Oper} {v : Value} {L : Array Bool → Act → World → Prop} {T : World → Prop} (hi : ops[i]? = some oi) (hsel : ∀ (j : Nat) (o : Oper) cs b, ops[j]? = some o → o.op ≠ .select cs b)
    (hik : i ≠ k) (hT : ∀ listed, HeadInv md ops m listed → listed.getD i true = false → ∀ w, heldG Sa Sb k listed w → T w)
    (hw : ∀ listed, HeadInv md ops m listed → ∀ i, i < m → listed.getD i true = false → ∀ t, m ≤ t → t ∉ Region.ready md ops listed) (him : i < m)
    (hQ : ∀ c a w, Q (.panic c) (a.put oi.dst v) w → Q (.panic c) a w) (hdone : ∀ listed a w, L listed a w → ∀ j ∈ Region.ready md ops listed, m ≤ j) :
    ∀ (f : Nat) (listed : Array Bool) (a : Act) (w : World), HeadInv md ops m listed →
      (∀ j oj, ops[j]? = some oj → j ≠ i → listed.getD j true = false → (∀ e ∈ oj.after, Region.binds md e = true → e.on ≠ i) → oi.apart ops oj = true) →
      i ∈ Region.ready md ops listed → YieldsIf P ops T oi v a → heldG Sa Sb k listed w →
      headG P md ops Q Sa Sb k m L f (listed.setIfInBounds i true) (a.put oi.dst v) w → headG P md ops Q Sa Sb k m L (f + 1) listed a w := by
  intro f
  induction f with
  | zero =>
    intro listed a w inv _ hr hy hS H
    have hun := (mem_ready.1 hr).1
    refine ⟨fun h => (by rw [h] at hr; cases hr), fun j hj => ?_⟩
    have hjm : j < m := by
      rcases Nat.lt_or_ge j m with h | h
      · exact h
      · exact absurd hj (hw listed inv i him hun j h)
    refine ⟨hjm, ?_⟩
    by_cases hji : j = i
    · subst hji; exact hy.wpOp hi (hT listed inv hun w hS) ⟨(heldG_set hik).2 hS, H⟩
    · have := hdone _ _ _ H j (ready_mono hj hji)
      omega
  | succ f ih =>
    intro listed a w inv hfree hr hy hS H
    have hun := (mem_ready.1 hr).1
    refine ⟨fun h => (by rw [h] at hr; cases hr), fun j hj => ?_⟩
    have hjm : j < m := by
      rcases Nat.lt_or_ge j m with h | h
      · exact h
      · exact absurd hj (hw listed inv i him hun j h)
    refine ⟨hjm, ?_⟩
    by_cases hji : j = i
    · subst hji; exact hy.wpOp hi (hT listed inv hun w hS) ⟨(heldG_set hik).2 hS, H⟩
    · have h1 := (H.2 j (ready_mono hj hji)).2
      obtain ⟨hjun, oj, hoj, hall⟩ := mem_ready.1 hj
      have hnot : ∀ e ∈ oj.after, Region.binds md e = true → e.on ≠ i := fun e he hb heq => by
        have h1 := hall e he hb
        rw [heq, getD_both hun] at h1
        cases h1
      have h2 := wpOp_putIf hoj (hfree j oj hoj hji hjun hnot) (fun cs b => hsel i oi cs b hi) (fun cs b => hsel j oj cs b hoj) hQ hy h1
      have hfree' : ∀ l ol, ops[l]? = some ol → l ≠ i → (listed.setIfInBounds j true).getD l true = false →
          (∀ e ∈ ol.after, Region.binds md e = true → e.on ≠ i) → oi.apart ops ol = true := fun l ol hl hli hun hno => by
        refine hfree l ol hl hli ?_ hno
        by_cases hjl : j = l
        · subst hjl; exact hjun
        · rw [getD_set_ne true hjl] at hun; exact hun
      refine wpOp_mono (fun a' w' h3 => ?_) h2
      have h4 := h3.2.1
      rw [Array.setIfInBounds_comm _ _ (Ne.symm hji)] at h4
      have h5 := (heldG_set hik).1 h4
      refine ⟨h5, ih (listed.setIfInBounds j true) a' w' (inv.set hj hjm) hfree' (ready_mono hr (Ne.symm hji)) h3.1 h5 ?_⟩
      rw [Array.setIfInBounds_comm _ _ hji]
      exact h3.2.2
/-- Take number i first, ahead of a bar; b says that number k waits for it, so that Sa may be used. -/
theorem headG_take {m i : Nat} {oi : Oper} {v : Value} {f : Nat} {listed : Array Bool} {a : Act} {w : World} {L : Array Bool → Act → World → Prop} (b : Bool) (hi : ops[i]? = some oi)
    (hall : (Region.noSelect ops && barB md ops m && decide (i < m) && headB md ops m listed && Region.free md ops listed i && (Region.ready md ops listed).contains i && decide (i ≠ k) && (!b || Region.waitsFor md ops k i)) = true)
    (hQ : ∀ c a w, Q (.panic c) (a.put oi.dst v) w → Q (.panic c) a w) (hdone : ∀ listed a w, L listed a w → ∀ j ∈ Region.ready md ops listed, m ≤ j)
    (hy : YieldsIf P ops (fun w => Sb w ∧ (b = true → Sa w)) oi v a) (hS : heldG Sa Sb k listed w) (h : headG P md ops Q Sa Sb k m L f (listed.setIfInBounds i true) (a.put oi.dst v) w) : headG P md ops Q Sa Sb k m L (f + 1) listed a w := by
  simp only [Bool.and_eq_true, decide_eq_true_eq] at hall
  obtain ⟨⟨⟨⟨⟨⟨⟨h1, h2⟩, h5⟩, h6⟩, h7⟩, h8⟩, h9⟩, h10⟩ := hall
  refine headG_first hi (Region.noSelect_spec h1) h9 (fun listed inv hun w hw => ⟨hw.1, fun hb => hw.2 ?_⟩) (fun listed _ i him hun t ht => bar_waits h2 listed i him hun t ht) h5 hQ hdone f listed a w (headB_inv h6) (Region.free_spec hi h7) (by simpa using h8) hy hS h
  subst hb
  simp only [Bool.not_true, Bool.false_or] at h10
  obtain ⟨ok, hok, e, he, hbd, hon⟩ := Region.waitsFor_spec h10
  cases hl : listed.getD k false with
  | false => rfl
  | true =>
    have := inv.closed k ok hok hl e he hbd
    rw [hon, getD_both hun] at this
    cases this
/-- Only number i may come up: behind it what is held is to be shown anew. -/
theorem headG_one {m i : Nat} {o : Oper} {f : Nat} {listed : Array Bool} {a : Act} {w : World} {L : Array Bool → Act → World → Prop} (hr : (Region.ready md ops listed == [i] && decide (i < m)) = true) (ho : ops[i]? = some o)
    (h : ∀ K' : Act → World → Prop, Shut (∀ a w, heldG Sa Sb k (listed.setIfInBounds i true) w → headG P md ops Q Sa Sb k m L f (listed.setIfInBounds i true) a w → K' a w) → if Region.wanted o (yielded ops a.tmps) = true then Oper.wp P o a w K' Q else K' (a.put o.dst undef) w) : headG P md ops Q Sa Sb k m L (f + 1) listed a w := by
  simp only [Bool.and_eq_true, beq_iff_eq, decide_eq_true_eq] at hr
  refine ⟨by rw [hr.1]; simp, fun j hj => ?_⟩
  rw [hr.1] at hj
  have hji : j = i := by simpa using hj
  subst hji
  exact ⟨hr.2, wpOp_step ho (fun K' hK => h K' (fun a w hS hW => hK a w ⟨hS, hW⟩))⟩
theorem wp_heldG_bar {id : Nat} {a : Act} {w : World} {l : List Oper} (m k : Nat) (hmx : P.follows .mixedOrders = true) (hm : m ≤ l.length)
    (h : headG P .any l.toArray Q Sa Sb k m (fun listed a w => passedB m listed = true ∧ wpAny P .any l.toArray Q (l.length - m) listed a w) m (Array.replicate l.toArray.size false) a w.drew) : (Code.region id l.toArray true).wp P Q a w := by
  refine wp_region_any hmx ?_
  have := any_of_headG (g := l.length - m) (fun listed a' w' hL => hL.2) _ _ _ _ h
  rw [show m + (l.length - m) = l.toArray.size by simp; omega] at this
  exact this
end
end
section
/- ReduceSpans: the walk. -/
set_option linter.unusedVariables false
set_option linter.unusedSimpArgs false
open Go.RowKit
set_option maxRecDepth 100000
theorem rightI_nat {n : Int} {us : List Nat} (h : rightB n us = true) : ∃ k : Nat, n = (k : Int) ∧ k ≤ 512 := by
  unfold rightB at h
  simp only [Bool.and_eq_true] at h
  obtain ⟨h0, h1⟩ := (lmb_iff n).1 h.1.1
  exact ⟨n.toNat, by omega, by omega⟩
theorem Words.far1 {w : World} {A : Option Addr} {len : Nat} {ws : List Nat} {g : Nat} {t : TypeId} {x : Int} {S : Option Addr} {p q : Nat} (h : Words w A len ws) (hb : Box w g t #[.int .i64 x, .slice S p q]) (i : Nat) (v : Value) :
    Words (w.setCell ⟨g, i, none⟩ v) A len ws := by
  refine ⟨h.1, h.2.1, fun hp => ?_⟩
  obtain ⟨b, off, rfl, hlt, hc⟩ := h.2.2 hp
  have hn := h.off hb b off rfl hp
  refine ⟨b, off, rfl, by simpa [World.setCell] using hlt, fun j hj => ?_⟩
  rw [World.cell?_setCell_other _ _ _ _ (by intro e; injection e; omega)]
  exact hc j hj
/-- Behind both stores: the matrix cut, the row cut. -/
theorem cut_two {x : World} {g1 g2 : Nat} {N n : Int} {A A1 B : Option Addr} {l c l1 c1 k d k1 : Nat} {lo : Nat} {ms : List (Int × List Nat)} {us : List Nat} {w : World}
    (h1 : Box x g1 24 #[.int .i64 N, .slice A l c]) (h2 : Box x g2 27 #[.int .i64 n, .slice B k d]) (n12 : g1 ≠ g2) (hm : MatAt x lo A1 l1 ms) (k1' : g1 < lo) (k2' : g2 < lo) (hu : Words x B k1 us)
    (hb : Below w.heap.size w x) (b1 : w.heap.size ≤ g1) (b2 : w.heap.size ≤ g2) :
    let y := ((x.setCell ⟨g1, 0, none⟩ (.int .i64 N)).setCell ⟨g1, 1, none⟩ (.slice A1 l1 c1)).setCell ⟨g2, 1, none⟩ (.slice B k1 d)
    Box y g1 24 #[.int .i64 N, .slice A1 l1 c1] ∧ Box y g2 27 #[.int .i64 n, .slice B k1 d] ∧ MatAt y 0 A1 l1 ms ∧ Words y B k1 us ∧ Below w.heap.size w y := by
  have r1 : Box ((x.setCell ⟨g1, 0, none⟩ (.int .i64 N)).setCell ⟨g1, 1, none⟩ (.slice A1 l1 c1)) g1 24 #[.int .i64 N, .slice A1 l1 c1] := h1.put2
  have r2 := (h2.far (p := ⟨g1, 0, none⟩) n12.symm (.int .i64 N)).far (p := ⟨g1, 1, none⟩) n12.symm (.slice A1 l1 c1)
  have v1 := hm.put2 (y := N) h1 k1' (.slice A1 l1 c1)
  have v2 := hu.put2 h1 (.int .i64 N) (.slice A1 l1 c1)
  have v3 := v2.far1 r2 1 (.slice B k1 d)
  exact ⟨r1.far (p := ⟨g2, 1, none⟩) n12 _, r2.put 1 _, (v1.far r2 k2' 1 (.slice B k1 d)).low (Nat.zero_le _), v3,
    ((hb.setCell (p := ⟨g1, 0, none⟩) b1 _).setCell (p := ⟨g1, 1, none⟩) b1 _).setCell (p := ⟨g2, 1, none⟩) b2 _⟩
end
section
/- Steps of a region that draws: an append onto a full row, an append (of nothing, perhaps) onto a row that is a call's own; texts as cells. No program but the texts' own words. -/
set_option linter.unusedVariables false
set_option linter.unusedSimpArgs false
open Go.RowKit
theorem step_grows {P : Program} {w : World} {ops : Array Oper} {o : Oper} {a : Act} {K : Act → World → Prop} {Q : Exit → Act → World → Prop} {E : Prop} (hgd : o.guard = none) (s x : Operand) (t : TypeId)
    (ho : o.op = .call { callee := .builtin .append, args := #[s, x], argTypes := #[t, t] })
    (e : TypeId) (i : TypeInfo) (z : Value) (size bytes : Nat) (ht : P.underlying t = some (.slice e)) (hi : P.info? e = some i) (hz : i.zero = some z)
    (hsize : i.size = size) (hby : i.bytes = bytes) (hzs : z.cells.size = size) (hsz : 0 < size)
    (b : Addr) (n cap : Nat) (olds : List Value) (hs : a.eval s = .slice (some b) n cap) (hlo : olds.length = n * size) (holds : ∀ j u, olds[j]? = some u → w.cell? (b.add j) = some u)
    (ad : Addr) (m c : Nat) (news : List Value) (hx : a.eval x = .slice (some ad) m c) (hl : news.length = m * size) (hnews : ∀ j u, news[j]? = some u → w.cell? (ad.add j) = some u)
    (hg : cap < n + m) (h63 : n + m ≤ maxLen) (hbytes : (n + m) * bytes ≤ 140737488355328)
    (h : ∀ v' w', w'.ownsRow w.heap.size e size v' (n + m) (olds ++ news) → w.grownBy w' none → K (a.put o.dst v') w') :
    if Region.wanted o (yielded ops a.tmps) = true then Oper.wp P o a w K Q else E := by
  have hw : Region.wanted o (yielded ops a.tmps) = true := by simp [Region.wanted, hgd]
  rw [if_pos hw]
  obtain ⟨v', w', hr, h2, h3⟩ := run_append_arg_grows (P := P) w t o.type e i z size bytes ht hi hz hsize hby hzs hsz b n cap olds hlo holds ad m c news hl hnews hg h63 hbytes
  unfold Oper.wp execOp
  simp only [ho, resolve, invoke, builtin, Sem.run_bind, Sem.run_pure, Result.andThen_ok, List.map_toArray, List.map_cons, List.map_nil, hs, hx, hr]
  exact h v' w' h2 h3
theorem step_own {P : Program} {w : World} {ops : Array Oper} {o : Oper} {a : Act} {K : Act → World → Prop} {Q : Exit → Act → World → Prop} {E : Prop} (hgd : o.guard = none) (s x : Operand) (t : TypeId)
    (ho : o.op = .call { callee := .builtin .append, args := #[s, x], argTypes := #[t, t] })
    (base : Nat) (e : TypeId) (i : TypeInfo) (z : Value) (size bytes : Nat) (ht : P.underlying t = some (.slice e)) (hi : P.info? e = some i) (hz : i.zero = some z)
    (hsize : i.size = size) (hby : i.bytes = bytes) (hzs : z.cells.size = size) (hsz : 0 < size)
    (v : Value) (n : Nat) (xs : List Value) (hs : a.eval s = v) (hown : w.ownsRow base e size v n xs)
    (ad : Addr) (m c : Nat) (news : List Value) (hx : a.eval x = .slice (some ad) m c) (hl : news.length = m * size) (hnews : ∀ j u, news[j]? = some u → w.cell? (ad.add j) = some u) (h1 : ∀ u ∈ news, u.oneCell' = true)
    (h63 : n + m ≤ maxLen) (hbytes : (n + m) * bytes ≤ 140737488355328) (hbase : base ≤ w.heap.size)
    (h : ∀ v' w', w'.ownsRow base e size v' (n + m) (xs ++ news) → w.grownBy w' v.ownBlock → K (a.put o.dst v') w') :
    if Region.wanted o (yielded ops a.tmps) = true then Oper.wp P o a w K Q else E := by
  have hw : Region.wanted o (yielded ops a.tmps) = true := by simp [Region.wanted, hgd]
  rw [if_pos hw]
  obtain ⟨v', w', hr, h2, h3, -⟩ := run_append_own_at (P := P) w base t o.type e i z size bytes ht hi hz hsize hby hzs hsz v n xs hown ad m c news hl hnews h1 h63 hbytes hbase
  unfold Oper.wp execOp
  simp only [ho, resolve, invoke, builtin, Sem.run_bind, Sem.run_pure, Result.andThen_ok, List.map_toArray, List.map_cons, List.map_nil, hs, hx, hr]
  exact h v' w' h2 h3
theorem news_texts {w : World} {bb off l : Nat} {ts : List ByteArray} (ht : Texts w (some ⟨bb, off, none⟩) l ts) (y k : Nat) (hk : y + k ≤ l) :
    ∀ j u, (((ts.drop y).take k).map Value.string)[j]? = some u → w.cell? ((⟨bb, off + y, none⟩ : Addr).add j) = some u := by
  intro j u hu
  rw [List.getElem?_map] at hu
  obtain ⟨s, hs, rfl⟩ := Option.map_eq_some_iff.1 hu
  have hlt : j < ((ts.drop y).take k).length := (List.getElem?_eq_some_iff.1 hs).1
  rw [List.length_take, List.length_drop] at hlt
  have h1 := ht.1
  have hj : j < k := by omega
  rw [List.getElem?_take_of_lt hj, List.getElem?_drop] at hs
  obtain ⟨b, o2, he, hb, hc⟩ := ht.2.2 (by omega)
  have hc := hc (y + j) (by omega)
  rw [show ts.getD (y + j) ByteArray.empty = s by simp [List.getD, hs]] at hc
  cases he
  rcases Nat.eq_zero_or_pos j with j0 | j0
  · subst j0; simpa [Addr.add] using hc
  · simpa [Addr.add, Nat.add_assoc, Nat.ne_of_gt j0] using hc
theorem news_ones (zs : List ByteArray) : ∀ u ∈ zs.map Value.string, u.oneCell' = true := by
  intro u hu
  obtain ⟨s, -, rfl⟩ := List.mem_map.1 hu
  rfl
theorem getD_bound {L : List ByteArray} (h : ∀ s ∈ L, s.size ≤ maxLen) : ∀ j, (L.getD j ByteArray.empty).size ≤ maxLen := fun j => by
  simp only [List.getD]
  cases hj : L[j]? with
  | none => simp [maxLen]
  | some s => exact h s (List.mem_of_getElem? hj)
theorem texts_mem {w : World} {A : Option Addr} {l : Nat} {ts : List ByteArray} (ht : Texts w A l ts) : ∀ s ∈ ts, s.size ≤ maxLen := fun s hs => by
  obtain ⟨j, hj⟩ := List.getElem?_of_mem hs
  have := ht.2.1 j
  simpa [List.getD, hj] using this
theorem World.size_alloc_le (w : World) (o : Obj) : w.heap.size ≤ (w.alloc o).heap.size := by simp
theorem own_base {x w : World} {o : Obj} {e size n : Nat} {v : Value} {xs : List Value} (h : w.ownsRow (x.alloc o).drew.heap.size e size v n xs) : w.ownsRow (x.heap.size + 1) e size v n xs := by
  have e1 : (x.alloc o).drew.heap.size = x.heap.size + 1 := by show (x.alloc o).heap.size = _; simp
  rwa [e1] at h
theorem own_le {x w : World} {o : Obj} {r : Option Nat} (h : (x.alloc o).drew.grownBy w r) : x.heap.size + 1 ≤ w.heap.size := by
  have e1 : (x.alloc o).drew.heap.size = x.heap.size + 1 := by show (x.alloc o).heap.size = _; simp
  have := h.size
  omega
theorem below_grown5 {x w : World} {o : Obj} (h : (x.alloc o).drew.grownBy w none) : Below x.heap.size x w :=
  (((Below.refl _ _).alloc (Nat.le_refl _) o).drew).grown h (by show _ ≤ (x.alloc o).heap.size; simp) (fun k hk => by cases hk)
theorem texts_cell {w : World} {bb off l y : Nat} {ts : List ByteArray} (ht : Texts w (some ⟨bb, off, none⟩) l ts) (hy : y < l) : w.cell? ⟨bb, off + y, none⟩ = some (.string (ts.getD y ByteArray.empty)) ∧ ts.getD y ByteArray.empty ∈ ts ∧ bb < w.heap.size := by
  obtain ⟨b, o2, he, hb, hc⟩ := ht.2.2 (by omega)
  have h1 := ht.1
  cases he
  refine ⟨hc y hy, ?_, hb⟩
  have : y < ts.length := by omega
  simp only [List.getD, List.getElem?_eq_getElem this, Option.getD_some]
  exact List.getElem_mem _
theorem news_drew {x : World} {o : Obj} {g : Nat} {L : List Value} (h : ∀ j u, L[j]? = some u → (x.alloc o).cell? ((⟨g, 0, none⟩ : Addr).add j) = some u) : ∀ j u, L[j]? = some u → (x.alloc o).drew.cell? ((⟨g, 0, none⟩ : Addr).add j) = some u := h
theorem turned_texts {w : World} {base e n l y : Nat} {v : Value} {ts : List ByteArray} (h : w.ownsRow base e 1 v n ([] ++ ((ts.drop y).take (l - y)).map Value.string ++ ((ts.drop 0).take y).map Value.string))
    (hn : n = l) (htl : ts.length = l) (hy : y ≤ l) (hm : ∀ s ∈ ts, s.size ≤ maxLen) : ∃ A c, v = .slice A l c ∧ l ≤ c ∧ c ≤ maxLen ∧ Texts w A l (ts.drop y ++ ts.take y) := by
  subst hn
  rw [List.nil_append, ← List.map_append, List.drop_zero, List.take_of_length_le (i := n - y) (by rw [List.length_drop]; omega)] at h
  refine own_texts h (getD_bound fun s hs => ?_)
  rcases List.mem_append.1 hs with h1 | h1
  · exact hm s (List.mem_of_mem_drop h1)
  · exact hm s (List.mem_of_mem_take h1)
theorem twice_texts {w : World} {base e n l : Nat} {v : Value} {ts : List ByteArray} {s : ByteArray} (h : w.ownsRow base e 1 v n ([.string s, .string s] ++ ((ts.drop 0).take l).map Value.string))
    (hn : n = l + 2) (htl : ts.length = l) (hs : s.size ≤ maxLen) (hm : ∀ s ∈ ts, s.size ≤ maxLen) : ∃ A c, v = .slice A (l + 2) c ∧ l + 2 ≤ c ∧ c ≤ maxLen ∧ Texts w A (l + 2) (s :: s :: ts) := by
  subst hn
  rw [List.drop_zero, List.take_of_length_le (by omega), show [Value.string s, Value.string s] ++ ts.map Value.string = (s :: s :: ts).map Value.string by simp] at h
  refine own_texts h (getD_bound fun t ht => ?_)
  rcases List.mem_cons.1 ht with rfl | ht
  · exact hs
  rcases List.mem_cons.1 ht with rfl | ht
  · exact hs
  · exact hm t ht
theorem sum_turn {n : Nat} {ts : List ByteArray} (h : okS n ts = true) (y : Nat) : sumE n (ts.drop y ++ ts.take y) = 0 ∧ sumS n (ts.drop y ++ ts.take y) = ⟨(sumL n ts).toArray⟩ := by
  have h2 : okS n (ts.drop y ++ ts.take y) = true := by
    simp only [okS, allL, Bool.and_eq_true, decide_eq_true_eq, List.all_eq_true] at h ⊢
    refine ⟨⟨h.1.1, fun s hs => ?_⟩, ?_⟩
    · rcases List.mem_append.1 hs with h1 | h1
      · exact h.1.2 s (List.mem_of_mem_drop h1)
      · exact h.1.2 s (List.mem_of_mem_take h1)
    · have := h.2
      rw [List.length_append, List.length_drop, List.length_take]; omega
  refine ⟨sumE_ok h2, ?_⟩
  simp only [sumS, h2, if_true, Int.toNat_natCast]
  rw [sum_turned]
theorem sum_two {n : Nat} {ts : List ByteArray} {s : ByteArray} (h : okS n ts = true) (hl : ts.length + 2 ≤ 64) (hs : s ∈ ts) : sumE n (s :: s :: ts) = 0 ∧ sumS n (s :: s :: ts) = ⟨(sumL n ts).toArray⟩ := by
  have h2 : okS n (s :: s :: ts) = true := by
    simp only [okS, allL, Bool.and_eq_true, decide_eq_true_eq, List.all_eq_true] at h ⊢
    refine ⟨⟨h.1.1, fun t ht => ?_⟩, by simp only [List.length_cons]; omega⟩
    rcases List.mem_cons.1 ht with rfl | ht
    · exact h.1.2 _ hs
    rcases List.mem_cons.1 ht with rfl | ht
    · exact h.1.2 _ hs
    · exact h.1.2 t ht
  refine ⟨sumE_ok h2, ?_⟩
  simp only [sumS, h2, if_true, Int.toNat_natCast]
  rw [sum_twice]
end
section
/- Steps of a region that draws: an append onto a row that is a call's own, of a slice that may be nil; a matrix's rows as cells. -/
set_option linter.unusedVariables false
set_option linter.unusedSimpArgs false
open Go.RowKit
theorem run_append_nilsrc {P : Program} (w : World) (base : Nat) (t ty e : TypeId) (i : TypeInfo) (size : Nat) (ht : P.underlying t = some (.slice e)) (hi : P.info? e = some i)
    (v : Value) (n : Nat) (xs : List Value) (hown : w.ownsRow base e size v n xs) (c : Nat) : (Builtin.append_ #[t, t] ty #[v, .slice none 0 c]).run P w = .ok v w := by
  obtain ⟨A, k, rfl, hA⟩ := own_form hown
  have hnk : n ≤ k := by
    rcases hown.2 with ⟨hv, h0⟩ | ⟨g, cap, cur, hv, _, _, hc, _⟩
    · omega
    · injection hv with _ _ e3; omega
  cases A with
  | none => obtain ⟨rfl, rfl⟩ := hA rfl; simp [Builtin.append_, run_underlying ht, sizeOf, typeInfo, hi, Builtin.lenOf, Builtin.firstCells]
  | some ad => simp [Builtin.append_, run_underlying ht, sizeOf, typeInfo, hi, Builtin.lenOf, Builtin.firstCells, hnk, storeCells]
theorem step_opt {P : Program} {w : World} {ops : Array Oper} {o : Oper} {a : Act} {K : Act → World → Prop} {Q : Exit → Act → World → Prop} {E : Prop} (hgd : o.guard = none) (s x : Operand) (t : TypeId)
    (ho : o.op = .call { callee := .builtin .append, args := #[s, x], argTypes := #[t, t] })
    (base : Nat) (e : TypeId) (i : TypeInfo) (z : Value) (size bytes : Nat) (ht : P.underlying t = some (.slice e)) (hi : P.info? e = some i) (hz : i.zero = some z)
    (hsize : i.size = size) (hby : i.bytes = bytes) (hzs : z.cells.size = size) (hsz : 0 < size)
    (v : Value) (n : Nat) (xs : List Value) (hs : a.eval s = v) (hown : w.ownsRow base e size v n xs)
    (A : Option Addr) (m c : Nat) (news : List Value) (hx : a.eval x = .slice A m c) (hl : news.length = m * size) (hnil : A = none → m = 0) (hnews : ∀ ad, A = some ad → ∀ j u, news[j]? = some u → w.cell? (ad.add j) = some u) (h1 : ∀ u ∈ news, u.oneCell' = true)
    (h63 : n + m ≤ maxLen) (hbytes : (n + m) * bytes ≤ 140737488355328) (hbase : base ≤ w.heap.size)
    (h : ∀ v' w', w'.ownsRow base e size v' (n + m) (xs ++ news) → w.grownBy w' v.ownBlock → K (a.put o.dst v') w') :
    if Region.wanted o (yielded ops a.tmps) = true then Oper.wp P o a w K Q else E := by
  cases A with
  | some ad => exact step_own hgd s x t ho base e i z size bytes ht hi hz hsize hby hzs hsz v n xs hs hown ad m c news hx hl (hnews ad rfl) h1 h63 hbytes hbase h
  | none =>
    obtain rfl := hnil rfl
    obtain rfl : news = [] := List.length_eq_zero_iff.1 (by simpa using hl)
    have hw : Region.wanted o (yielded ops a.tmps) = true := by simp [Region.wanted, hgd]
    rw [if_pos hw]
    have hr := run_append_nilsrc (P := P) w base t o.type e i size ht hi v n xs hown c
    unfold Oper.wp execOp
    simp only [ho, resolve, invoke, builtin, Sem.run_bind, Sem.run_pure, Result.andThen_ok, List.map_toArray, List.map_cons, List.map_nil, hs, hx, hr]
    exact h v w (by simpa using hown) (World.grownBy.refl w _)
theorem own_of_box0 {w : World} {g base size : Nat} {e : TypeId} (h : Box w g e #[]) (hb : base ≤ g) : w.ownsRow base e size (.slice (some ⟨g, 0, none⟩) 0 0) 0 [] :=
  ⟨by simp, .inr ⟨g, 0, #[], rfl, hb, h, Nat.le_refl _, Nat.zero_le _, by simp, by simp⟩⟩
/-- A matrix's rows: their slices. -/
theorem MatAt.rs {w : World} {lo : Nat} {A : Option Addr} {len : Nat} {ms : List (Int × List Nat)} (h : MatAt w lo A len ms) :
    ∃ rs : List RowV, rs.length = len ∧ (∀ j, j < len → (rs.getD j (0, none, 0, 0)).1 = (ms.getD j (0, [])).1 ∧ SliceOk (rs.getD j (0, none, 0, 0)).2.1 (rs.getD j (0, none, 0, 0)).2.2.1 (rs.getD j (0, none, 0, 0)).2.2.2 ∧ Words w (rs.getD j (0, none, 0, 0)).2.1 (rs.getD j (0, none, 0, 0)).2.2.1 (ms.getD j (0, [])).2) ∧
      (∀ w', Below w.heap.size w w' → ∀ ad, A = some ad → ∀ j u, (rowCells rs)[j]? = some u → w'.cell? (ad.add j) = some u) := by
  have key : ∀ k, k ≤ len → ∃ rs : List RowV, rs.length = k ∧ (∀ j, j < k → (rs.getD j (0, none, 0, 0)).1 = (ms.getD j (0, [])).1 ∧ SliceOk (rs.getD j (0, none, 0, 0)).2.1 (rs.getD j (0, none, 0, 0)).2.2.1 (rs.getD j (0, none, 0, 0)).2.2.2 ∧ Words w (rs.getD j (0, none, 0, 0)).2.1 (rs.getD j (0, none, 0, 0)).2.2.1 (ms.getD j (0, [])).2 ∧
      ∃ b off, A = some ⟨b, off, none⟩ ∧ b < w.heap.size ∧ w.cell? ⟨b, off + j * 2, none⟩ = some (.int .i64 (rs.getD j (0, none, 0, 0)).1) ∧ w.cell? ⟨b, off + j * 2 + 1, none⟩ = some (.slice (rs.getD j (0, none, 0, 0)).2.1 (rs.getD j (0, none, 0, 0)).2.2.1 (rs.getD j (0, none, 0, 0)).2.2.2)) := by
    intro k
    induction k with
    | zero => exact fun _ => ⟨[], rfl, fun j hj => absurd hj (Nat.not_lt_zero _)⟩
    | succ k ih =>
      intro hk
      obtain ⟨rs, h1, h2⟩ := ih (by omega)
      obtain ⟨b, off, B, l, c, hA, hb, c0, c1, hs, hw⟩ := h.at k (by omega)
      refine ⟨rs ++ [((ms.getD k (0, [])).1, B, l, c)], by simp [h1], fun j hj => ?_⟩
      by_cases hjk : j < k
      · have e1 : (rs ++ [((ms.getD k (0, [])).1, B, l, c)]).getD j (0, none, 0, 0) = rs.getD j (0, none, 0, 0) := by simp only [List.getD]; rw [List.getElem?_append_left (by rw [h1]; exact hjk)]
        rw [e1]; exact h2 j hjk
      · obtain rfl : j = k := by omega
        have e1 : (rs ++ [((ms.getD j (0, [])).1, B, l, c)]).getD j (0, none, 0, 0) = ((ms.getD j (0, [])).1, B, l, c) := by rw [← h1]; simp [List.getD]
        rw [e1]; exact ⟨rfl, hs, hw, b, off, hA, hb, c0, c1⟩
  obtain ⟨rs, h1, h2⟩ := key len (Nat.le_refl _)
  refine ⟨rs, h1, fun j hj => ⟨(h2 j hj).1, (h2 j hj).2.1, (h2 j hj).2.2.1⟩, fun w' hbel ad hA j u hu => ?_⟩
  have hlt : j < (rowCells rs).length := (List.getElem?_eq_some_iff.1 hu).1
  rw [rowCells_len, h1] at hlt
  obtain ⟨b, off, hA2, hb, c0, c1⟩ := (h2 (j / 2) (by omega)).2.2.2
  obtain ⟨r0, r1⟩ := rowCells_at rs (j / 2) (by omega)
  rw [hA] at hA2
  injection hA2 with hA2
  subst hA2
  have hadd : ∀ j, (⟨b, off, none⟩ : Addr).add j = ⟨b, off + j, none⟩ := fun j => by unfold Addr.add; split <;> simp_all
  rw [hadd, hbel.cell (p := ⟨b, off + j, none⟩) hb]
  rcases Nat.mod_two_eq_zero_or_one j with hm | hm
  · have ej : j / 2 * 2 = j := by omega
    rw [ej] at r0 c0
    rw [r0] at hu
    rw [← hu]; exact c0
  · have ej : j / 2 * 2 + 1 = j := by omega
    rw [ej] at r1
    rw [Nat.add_assoc, ej] at c1
    rw [r1] at hu
    rw [← hu]; exact c1
theorem rowCells_one (rs : List RowV) : ∀ u ∈ rowCells rs, u.oneCell' = true := by
  intro u hu
  unfold rowCells at hu
  obtain ⟨r, -, hr⟩ := List.mem_flatMap.1 hu
  simp at hr
  rcases hr with rfl | rfl <;> rfl
end
end Go.Proofs.YtdfmogcgangdnaaDoor
