/- Layer 22: alive; HistoryCut: the walk. -/
import Derived.Test.YtmbmmfdobkbbfaaHi8
namespace Go.Proofs.Ytmbmmfdobkbbfaa
set_option linter.unusedVariables false
set_option linter.unusedSimpArgs false
open Go.RowKit Go.Shelf
set_option maxRecDepth 100000
theorem Box.evs {w : World} {g : Nat} {t : TypeId} {xs : List EvR} (h : Box w g t (xs.flatMap encE).toArray) (hr : ∀ j, RepOk w (xs.getD j default).rep) : Evs w (some ⟨g, 0, none⟩) xs.length xs := by
  refine ⟨⟨rfl, fun hp => ⟨g, 0, rfl, h.lt, fun j hj k v hv => ?_⟩⟩, hr⟩
  have hk : k < 13 := by have := (List.getElem?_eq_some_iff.1 hv).1; rwa [encE_len] at this
  rw [Nat.zero_add, h.cell, List.getElem?_toArray, flat_at encE_len xs j k hj hk, hv]
def zeroE (c b : Int) : EvR := ⟨c, b, 0, zeroC, default⟩
def aliveH : List EvR := [zeroE 0 0, zeroE 1 0, zeroE 0 1]
theorem alive22_right : rightH aliveH = true := by decide +kernel
theorem alive22_spans : (spansL aliveH 3).length = 2 ∧ (spG (spansL aliveH 3) 0).to = 2 ∧ (spG (spansL aliveH 3) 1).to = -1 := by decide +kernel
theorem alive22_any (w : World) : Calls Try.prog 11 #[] w fun e w' => e = .returned (.bool true) ∧ Below w.heap.size w w' := by
  have q := Box.new w 53 (aliveH.flatMap encE).toArray
  have hev : Evs (w.alloc (.cells (aliveH.flatMap encE).toArray 53)) (some ⟨w.heap.size, 0, none⟩) 3 aliveH := Box.evs q (fun j => by
    match j with
    | 0 => exact RepOk.zero _
    | 1 => exact RepOk.zero _
    | 2 => exact RepOk.zero _
    | j + 3 => exact RepOk.zero _)
  have hb : Below w.heap.size w (w.alloc (.cells (aliveH.flatMap encE).toArray 53)) := (Below.refl _ _).alloc (Nat.le_refl _) _
  have HS := Lib.hid (hspans_yes (some ⟨w.heap.size, 0, none⟩) 3 3 aliveH _ hev (by decide) (by decide) alive22_right)
  have HB := Lib.hid hb
  obtain ⟨p1, p2, p3⟩ := alive22_spans
  generalize spansL aliveH 3 = ss at *
  clear q hev hb
  go_enter Try.func11, Try.ntmps11
  go_wp2_with fail
  refine HS.out.mono ?_
  rintro e w1 ⟨A1, c1, rfl, q1, q2, q3, hb⟩
  have HB := Lib.hid (chain HB.out hb)
  rw [p1] at q1 q3
  obtain ⟨b, off, rfl, hlb, -, -, -, -, -, -, -, -, -, -, -, -, -, d13⟩ := q3.cells (Below.refl _ _) 0 (by decide)
  obtain ⟨b', off', he, hlb', -, -, -, -, -, -, -, -, -, -, -, -, -, e13⟩ := q3.cells (Below.refl _ _) 1 (by decide)
  injection he with he
  injection he with he1 he2
  subst he1 he2
  rw [p2] at d13
  rw [p3] at e13
  simp only [Nat.zero_mul, Nat.add_zero, Nat.one_mul] at d13 e13
  rw [p1]
  clear hb HS q3 q1 q2
  go_wp2_with fail
  go_ret
  exact ⟨rfl, HB.out⟩
/-- What Spans hands back, whatever the history is. -/
theorem hspans_all (A : Option Addr) (l cp : Nat) (h : List EvR) (w : World) (hH : Evs w A l h) (hl : l ≤ maxLen) (hlm : l ≤ 1000000) :
    Calls Try.prog 8 #[.slice A l cp] w fun e w' => ∃ (A' : Option Addr) (n c : Nat) (er : Int), e = .returned (.tuple #[.slice A' n c, .int .i64 er]) ∧ Below w.heap.size w w' := by
  cases hr : rightH h with
  | true =>
    refine (hspans_yes A l cp h w hH hl hlm hr).mono ?_
    rintro e w1 ⟨A1, c1, rfl, -, -, -, hb⟩
    exact ⟨A1, _, c1, 0, rfl, hb⟩
  | false =>
    refine (hspans_no A l cp h w hH hl hlm hr).mono ?_
    rintro e w1 ⟨rfl, hb⟩
    exact ⟨none, 0, 0, 1, rfl, hb⟩
set_option maxHeartbeats 8000000 in
theorem hcut_none (h : List EvR) (k : Int) (hk : -9223372036854775808 ≤ k ∧ k ≤ 9223372036854775807) (w : World) (hH : Evs w none 0 h) :
    Calls Try.prog 6 #[.slice none 0 0, .int .i64 k] w fun e w' => e = .returned (.bool true) ∧ Below w.heap.size w w' := by
  have HF := Lib.hid (few22_any none 0 0 ⟨Nat.le_refl _, Nat.zero_le _, fun _ => ⟨rfl, rfl⟩⟩ w)
  have hcm : (0 : Nat) ≤ 0 := Nat.le_refl _
  have hcp : (0 : Nat) ≤ maxLen := Nat.zero_le _
  have hr : k.tmod 1 = 0 := Int.tmod_one k
  have HH := Lib.hid hH
  have HL := Lib.hid hH.len
  have HT := Lib.hid (fun (w' : World) (hb : Below w.heap.size w w') => ((hH.below hb).take 0 (by omega)))
  have HSA := Lib.hid (fun (w' : World) (hw : Evs w' none 0 (h.take 0)) => hspans_all none 0 0 (h.take 0) w' hw (by omega) (by omega))
  have HSY := Lib.hid (fun hr (w' : World) (hw : Evs w' none 0 (h.take 0)) => hspans_yes none 0 0 (h.take 0) w' hw (by omega) (by omega) hr)
  have HN0 := Lib.hid (hspans_no none 0 0 h w hH (by omega) (by omega))
  have HY0 := Lib.hid (hspans_yes none 0 0 h w hH (by omega) (by omega))
  have HRT := Lib.hid (fun hr => rightH_take (h := h) hr 0 (by rw [hH.len]; omega))
  have HCUT := Lib.hid (show _ from hH.len ▸ spans_cut h 0 (by rw [hH.len]; omega))
  clear hH
  have g0 : ((0 : Nat) : Int) ≤ (0 : Nat) := by omega
  have g1 : ((0 : Nat) : Int) ≤ (0 : Nat) := by omega
  unfold maxLen at hcp
  go_enter Try.func6, Try.ntmps6
  go_wp2_with fail
  refine HF.out.mono ?_
  rintro e u1 ⟨rfl, rfl⟩
  clear HF
  cases hr9 : rightH h with
  | false =>
    go_wp2_with fail
    refine (HN0.out hr9).mono ?_
    rintro e w1 ⟨rfl, hb⟩
    have HB := Lib.hid hb
    clear hb
    go_wp2_with fail
    refine (HSA.out _ (HT.out _ HB.out)).mono ?_
    rintro e w2 ⟨A2, n2, c2, er, rfl, hb⟩
    have HB := Lib.hid (chain HB.out hb)
    clear hb
    go_wp2_with fail
    refine (alive22_any _).mono ?_
    rintro e w3 ⟨rfl, hb⟩
    have HB := Lib.hid (chain HB.out hb)
    clear hb
    go_wp2_with fail
    go_ret
    exact ⟨rfl, HB.out⟩
  | true =>
    have HY1 := Lib.hid (HY0.out hr9)
    have HY2 := Lib.hid (HSY.out (HRT.out hr9))
    clear HY0 HSY HRT HSA HN0 hr9
    have hln := spansL_len h 0
    generalize spansL (h.take 0) 0 = ms at *
    generalize spansL h 0 = ls at *
    obtain ⟨k1, k2, k3⟩ := HCUT.out
    have HC2 := Lib.hid k2
    have HC3 := Lib.hid k3
    clear k2 k3 HCUT
    go_wp2_with fail
    refine HY1.out.mono ?_
    rintro e w1 ⟨A1, c1, rfl, q1, q2, q3, hb⟩
    have HB := Lib.hid hb
    have S1 := Lib.hid q3
    have N1 := Lib.hid (And.intro q1 q2)
    clear hb q1 q2 q3
    go_wp2_with fail
    refine (HY2.out _ (HT.out _ HB.out)).mono ?_
    rintro e w2 ⟨A2, c2, rfl, q1, q2, q3, hb⟩
    have HB := Lib.hid (chain HB.out hb)
    have S1 := Lib.hid (S1.out.below hb)
    have S2 := Lib.hid q3
    have N2 := Lib.hid (And.intro q1 q2)
    clear hb q1 q2 q3 HY1 HY2
    go_wp2_with fail
    have k1' : ¬ ((ls.length : Nat) : Int) < ((ms.length : Nat) : Int) := by omega
    have k1'' : decide (((ls.length : Nat) : Int) < ((ms.length : Nat) : Int)) = false := decide_eq_false k1'
    refine (alive22_any _).mono ?_
    rintro e w3 ⟨rfl, hb⟩
    have HB := Lib.hid (chain HB.out hb)
    have S1 := Lib.hid (S1.out.below hb)
    have S2 := Lib.hid (S2.out.below hb)
    clear hb
    go_wp2_with fail
    generalize hnm : ms.length = nm at *
    generalize hnl : ls.length = nl at *
    have HNM := Lib.hid hnm
    have HNL := Lib.hid hnl
    clear hnm hnl
    go_loopw [62] (fun t wr => ∃ i : Nat, i ≤ nm ∧ t = .int .i64 (i : Int) ∧ Hid (Below w3.heap.size w3 wr)) (fun t _ => nm - (intOf t).toNat)
    case atStart => exact ⟨0, Nat.zero_le _, rfl, Lib.hid (Below.refl _ _)⟩
    case round =>
      obtain ⟨i, hi, rfl, HW⟩ := hrel
      by_cases hlt : i < nm
      · have hlt' : (i : Int) < (nm : Int) := Int.ofNat_lt.2 hlt
        omega
      · obtain rfl : i = nm := Nat.le_antisymm hi (Nat.le_of_not_lt hlt)
        have hlt' : ¬ (i : Int) < (i : Int) := Int.lt_irrefl _
        by_cases he : i = nl
        · subst he
          have z1 : ((i : Int) == (i : Int)) = true := by simp
          go_wp2_with fail
          go_ret
          exact ⟨rfl, chain HB.out HW.out⟩
        · omega
set_option maxHeartbeats 8000000 in
theorem hcut_some (ad : Addr) (l cp : Nat) (h : List EvR) (k : Int) (hk : -9223372036854775808 ≤ k ∧ k ≤ 9223372036854775807) (hs : SliceOk (some ad) l cp) (w : World) (hH : Evs w (some ad) l h) :
    Calls Try.prog 6 #[.slice (some ad) l cp, .int .i64 k] w fun e w' => e = .returned (.bool true) ∧ Below w.heap.size w w' := by
  have HF := Lib.hid (few22_any (some ad) l cp hs w)
  have hcm : min l 50 ≤ cp := by have := hs.1; omega
  have hcp : cp ≤ maxLen := hs.2.1
  have hn50 : min l 50 ≤ 50 := by omega
  have hH := hH.take (min l 50) (by omega)
  generalize h.take (min l 50) = h at *
  generalize min l 50 = n at *
  clear hs
  obtain ⟨r, hr⟩ : ∃ r, k.tmod ((n : Int) + 1) = r := ⟨_, rfl⟩
  have hr1 : -(n : Int) ≤ r ∧ r ≤ n := by
    rw [← hr]
    have h1 := Int.tmod_lt_of_pos k (show (0 : Int) < (n : Int) + 1 by omega)
    have h2 := Int.lt_tmod_of_pos k (show (0 : Int) < (n : Int) + 1 by omega)
    omega
  obtain ⟨m, hm⟩ : ∃ m : Nat, (r + (n : Int) + 1).tmod ((n : Int) + 1) = (m : Int) := ⟨((r + (n : Int) + 1) % ((n : Int) + 1)).toNat, by
    rw [Int.tmod_eq_emod_of_nonneg (by omega), Int.toNat_of_nonneg (Int.emod_nonneg _ (by omega))]⟩
  have hmn : m ≤ n := by
    have := Int.tmod_lt_of_pos (r + (n : Int) + 1) (show (0 : Int) < (n : Int) + 1 by omega)
    omega
  have hnz : ¬ ((n : Int) + 1 = 0) := by omega
  have hn50' : (n : Int) ≤ 50 := by omega
  have HH := Lib.hid hH
  have HL := Lib.hid hH.len
  have HT := Lib.hid (fun (w' : World) (hb : Below w.heap.size w w') => ((hH.below hb).take m (by omega)))
  have HSA := Lib.hid (fun (w' : World) (hw : Evs w' (some ad) m (h.take m)) => hspans_all (some ad) m cp (h.take m) w' hw (by omega) (by omega))
  have HSY := Lib.hid (fun hr (w' : World) (hw : Evs w' (some ad) m (h.take m)) => hspans_yes (some ad) m cp (h.take m) w' hw (by omega) (by omega) hr)
  have HN0 := Lib.hid (hspans_no (some ad) n cp h w hH (by omega) (by omega))
  have HY0 := Lib.hid (hspans_yes (some ad) n cp h w hH (by omega) (by omega))
  have HRT := Lib.hid (fun hr => rightH_take (h := h) hr m (by rw [hH.len]; omega))
  have HCUT := Lib.hid (show _ from hH.len ▸ spans_cut h m (by rw [hH.len]; omega))
  clear hH
  have g0 : ((m : Nat) : Int) ≤ (n : Nat) := by omega
  have g1 : ((m : Nat) : Int) ≤ (cp : Nat) := by omega
  unfold maxLen at hcp
  go_enter Try.func6, Try.ntmps6
  go_wp2_with fail
  refine HF.out.mono ?_
  rintro e u1 ⟨rfl, rfl⟩
  clear HF
  cases hr9 : rightH h with
  | false =>
    go_wp2_with fail
    refine (HN0.out hr9).mono ?_
    rintro e w1 ⟨rfl, hb⟩
    have HB := Lib.hid hb
    clear hb
    go_wp2_with fail
    refine (HSA.out _ (HT.out _ HB.out)).mono ?_
    rintro e w2 ⟨A2, n2, c2, er, rfl, hb⟩
    have HB := Lib.hid (chain HB.out hb)
    clear hb
    go_wp2_with fail
    refine (alive22_any _).mono ?_
    rintro e w3 ⟨rfl, hb⟩
    have HB := Lib.hid (chain HB.out hb)
    clear hb
    go_wp2_with fail
    go_ret
    exact ⟨rfl, HB.out⟩
  | true =>
    have HY1 := Lib.hid (HY0.out hr9)
    have HY2 := Lib.hid (HSY.out (HRT.out hr9))
    clear HY0 HSY HRT HSA HN0 hr9
    have hln := spansL_len h n
    generalize spansL (h.take m) m = ms at *
    generalize spansL h n = ls at *
    obtain ⟨k1, k2, k3⟩ := HCUT.out
    have HC2 := Lib.hid k2
    have HC3 := Lib.hid k3
    clear k2 k3 HCUT
    go_wp2_with fail
    refine HY1.out.mono ?_
    rintro e w1 ⟨A1, c1, rfl, q1, q2, q3, hb⟩
    have HB := Lib.hid hb
    have S1 := Lib.hid q3
    have N1 := Lib.hid (And.intro q1 q2)
    clear hb q1 q2 q3
    go_wp2_with fail
    refine (HY2.out _ (HT.out _ HB.out)).mono ?_
    rintro e w2 ⟨A2, c2, rfl, q1, q2, q3, hb⟩
    have HB := Lib.hid (chain HB.out hb)
    have S1 := Lib.hid (S1.out.below hb)
    have S2 := Lib.hid q3
    have N2 := Lib.hid (And.intro q1 q2)
    clear hb q1 q2 q3 HY1 HY2
    go_wp2_with fail
    have k1' : ¬ ((ls.length : Nat) : Int) < ((ms.length : Nat) : Int) := by omega
    have k1'' : decide (((ls.length : Nat) : Int) < ((ms.length : Nat) : Int)) = false := decide_eq_false k1'
    refine (alive22_any _).mono ?_
    rintro e w3 ⟨rfl, hb⟩
    have HB := Lib.hid (chain HB.out hb)
    have S1 := Lib.hid (S1.out.below hb)
    have S2 := Lib.hid (S2.out.below hb)
    clear hb
    go_wp2_with fail
    generalize hnm : ms.length = nm at *
    generalize hnl : ls.length = nl at *
    have HNM := Lib.hid hnm
    have HNL := Lib.hid hnl
    clear hnm hnl
    go_loopw [62] (fun t wr => ∃ i : Nat, i ≤ nm ∧ t = .int .i64 (i : Int) ∧ Hid (Below w3.heap.size w3 wr)) (fun t _ => nm - (intOf t).toNat)
    case atStart => exact ⟨0, Nat.zero_le _, rfl, Lib.hid (Below.refl _ _)⟩
    case round =>
      obtain ⟨i, hi, rfl, HW⟩ := hrel
      by_cases hlt : i < nm
      · have hlt' : (i : Int) < (nm : Int) := Int.ofNat_lt.2 hlt
        have hlt2 : (i : Int) < (nl : Int) := by omega
        have hi0 : (0 : Int) ≤ (i : Int) := Int.natCast_nonneg _
        have hi5 : (i : Int) < 1000000 := by omega
        obtain ⟨b, off, rfl, hlb, d0, d1, d2, d3, d4, d5, d6, d7, d8, d9, d10, d11, d12, d13⟩ := S2.out.cells HW.out i hlt
        have hw1 : Below w3.heap.size w3 (wr.alloc (.cells (spA (spG ms i)) 41)) := HW.out.alloc HW.out.size _
        obtain ⟨b2, off2, rfl, hlb2, e0, e1, e2, e3, e4, e5, e6, e7, e8, e9, e10, e11, e12, e13⟩ := S1.out.cells hw1 i (by omega)
        have G1 := Lib.hid ((Box.new wr 41 (spA (spG ms i))).alloc (.cells (spA (spG ls i)) 41))
        have q1 := Box.new (wr.alloc (.cells (spA (spG ms i)) 41)) 41 (spA (spG ls i))
        simp only [World.size_alloc] at q1
        have G2 := Lib.hid q1
        have HW2 := Lib.hid (hw1.alloc hw1.size (.cells (spA (spG ls i)) 41))
        obtain ⟨p1, p2, p3, p4, p5⟩ := HC2.out i hlt
        obtain ⟨g0, g1, g2, g3, g4, g5, g6, g7, g8, g9, g10, g11, g12, g13⟩ := G1.out.sp
        obtain ⟨f0, f1, f2, f3, f4, f5, f6, f7, f8, f9, f10, f11, f12, f13⟩ := G2.out.sp
        clear hw1 q1 G1 G2
        generalize spG ms i = a at *
        generalize spG ls i = c at *
        have hne : ∀ w, (binOp .neq 36 (.agg #[.int .i64 a.call.1, .int .u64 (a.call.2.1 : Nat), .int .i64 a.call.2.2.1, .int .i64 a.call.2.2.2.1, .int .i64 a.call.2.2.2.2.1, .int .u64 (a.call.2.2.2.2.2.1 : Nat), .string a.call.2.2.2.2.2.2]) (.agg #[.int .i64 c.call.1, .int .u64 (c.call.2.1 : Nat), .int .i64 c.call.2.2.1, .int .i64 c.call.2.2.2.1, .int .i64 c.call.2.2.2.2.1, .int .u64 (c.call.2.2.2.2.2.1 : Nat), .string c.call.2.2.2.2.2.2])).run Try.prog w = .ok (.bool false) w := fun w => by
          have := callA_neq a.call c.call w
          rwa [decide_eq_true p4] at this
        have hgd : ∀ x y w, (eqGuard .neq 36 x y (.agg #[.int .i64 a.call.1, .int .u64 (a.call.2.1 : Nat), .int .i64 a.call.2.2.1, .int .i64 a.call.2.2.2.1, .int .i64 a.call.2.2.2.2.1, .int .u64 (a.call.2.2.2.2.2.1 : Nat), .string a.call.2.2.2.2.2.2]) (.agg #[.int .i64 c.call.1, .int .u64 (c.call.2.1 : Nat), .int .i64 c.call.2.2.1, .int .i64 c.call.2.2.2.1, .int .i64 c.call.2.2.2.2.1, .int .u64 (c.call.2.2.2.2.2.1 : Nat), .string c.call.2.2.2.2.2.2])).run Try.prog w = .ok () w := fun x y w => call_guard .neq a.call c.call x y w
        have z1 : (a.c != c.c) = false := by simp [p1]
        have z2 : (a.n != c.n) = false := by simp [p2]
        have z3 : (a.fr != c.fr) = false := by simp [p3]
        rcases p5 with p5 | ⟨p5, p6⟩
        · have z4 : (a.to != c.to) = false := by simp [p5]
          clear p1 p2 p3 p4 p5
          go_wp2_with fail
          go_roundw
          case rel => exact ⟨i + 1, hlt, by go_num, HW2⟩
          case measure => simp [intOf] <;> omega
        · have z4 : (a.to != c.to) = true := by simp [p5]; omega
          have z6 : (a.to != -1) = false := by simp [p5]
          have z5 : ¬ c.to < ((m : Nat) : Int) := by omega
          clear p1 p2 p3 p4 p5
          go_wp2_with fail
          go_roundw
          case rel => exact ⟨i + 1, hlt, by go_num, HW2⟩
          case measure => simp [intOf] <;> omega
      · obtain rfl : i = nm := Nat.le_antisymm hi (Nat.le_of_not_lt hlt)
        have hlt' : ¬ (i : Int) < (i : Int) := Int.lt_irrefl _
        by_cases he : i = nl
        · subst he
          have z1 : ((i : Int) == (i : Int)) = true := by simp
          go_wp2_with fail
          go_ret
          exact ⟨rfl, chain HB.out HW.out⟩
        · have z1 : ((i : Int) == (nl : Int)) = false := by simp; omega
          have z2 : (i : Int) < (nl : Int) := by omega
          have hi0 : (0 : Int) ≤ (i : Int) := Int.natCast_nonneg _
          obtain ⟨b2, off2, rfl, hlb2, -, -, -, -, -, -, -, -, -, -, -, -, e12, -⟩ := S1.out.cells HW.out i (by omega)
          have z3 : ((m : Nat) : Int) ≤ (spG ls i).fr := by
            rcases HC3.out with h1 | h1
            · exact absurd h1 he
            · exact h1
          generalize spG ls i = c at *
          go_wp2_with fail
          go_ret
          exact ⟨rfl, chain HB.out HW.out⟩
theorem hcut_any (A : Option Addr) (l cp : Nat) (h : List EvR) (k : Int) (hk : -9223372036854775808 ≤ k ∧ k ≤ 9223372036854775807) (hs : SliceOk A l cp) (w : World) (hH : Evs w A l h) :
    Calls Try.prog 6 #[.slice A l cp, .int .i64 k] w fun e w' => e = .returned (.bool true) ∧ Below w.heap.size w w' := by
  cases A with
  | none =>
    obtain ⟨rfl, rfl⟩ := hs.2.2 rfl
    exact hcut_none h k hk w hH
  | some ad => exact hcut_some ad l cp h k hk hs w hH
end Go.Proofs.Ytmbmmfdobkbbfaa
