/- Layer 13: the reference's contracts: what may be. -/
import Derived.Test.YtehlebeeoeghmaaShB
namespace Go.Proofs.Ytehlebeeoeghmaa
set_option linter.unusedVariables false
set_option linter.unusedSimpArgs false
open Go.RowKit Go.Lib
set_option maxRecDepth 100000
theorem refSizes13_any (n z c : Int) (w : World) : Calls Try.prog 13 #[.int .i64 n, .int .i64 z, .int .i64 c] w fun e w' => e = .returned (.bool (inK n 1 16 && szB z c)) ∧ w = w' := by
  unfold szB inK
  by_cases ha : 1 ≤ n
  · by_cases hb : n ≤ 16
    · by_cases hc : 0 ≤ z
      · by_cases hd : z ≤ 64
        · by_cases he : 1 ≤ c
          · by_cases hf : c ≤ 64
            · go_enter Try.func13, Try.ntmps13
              go_wp2_with fail
              go_ret
              exact ⟨by simp [ha, hb, hc, hd, he, hf], rfl⟩
            · have tf : decide (c ≤ 64) = false := by simpa using hf
              go_enter Try.func13, Try.ntmps13
              go_wp2_with fail
              go_ret
              exact ⟨by simp [ha, hb, hc, hd, he, tf], rfl⟩
          · have te : decide (1 ≤ c) = false := by simpa using he
            go_enter Try.func13, Try.ntmps13
            go_wp2_with fail
            go_ret
            exact ⟨by simp [ha, hb, hc, hd, te], rfl⟩
        · have td : decide (z ≤ 64) = false := by simpa using hd
          go_enter Try.func13, Try.ntmps13
          go_wp2_with fail
          go_ret
          exact ⟨by simp [ha, hb, hc, td], rfl⟩
      · have tc : decide (0 ≤ z) = false := by simpa using hc
        go_enter Try.func13, Try.ntmps13
        go_wp2_with fail
        go_ret
        exact ⟨by simp [ha, hb, tc], rfl⟩
    · have tb : decide (n ≤ 16) = false := by simpa using hb
      go_enter Try.func13, Try.ntmps13
      go_wp2_with fail
      go_ret
      exact ⟨by simp [ha, tb], rfl⟩
  · have ta : decide (1 ≤ n) = false := by simpa using ha
    go_enter Try.func13, Try.ntmps13
    go_wp2_with fail
    go_ret
    exact ⟨by simp [ta], rfl⟩
set_option maxHeartbeats 1000000 in
theorem refCount13_any (k z : Int) (A : Option Addr) (c : Nat) (ls : List (List SymR)) (w : World) (h : Lsts w A ls.length ls) (ho : OkSh ls) :
    Calls Try.prog 34 #[.agg #[.int .i64 k, .int .i64 z, .slice A ls.length c]] w fun e w' => e = .returned (.int .i64 (cntS ls : Int)) ∧ Below w.heap.size w w' := by
  have HL := Lib.hid h
  have HO := Lib.hid ho
  have hn := ho.n
  clear h ho
  have W1 := Lib.hid ((Below.refl w.heap.size w).alloc (Nat.le_refl _) (.cells #[.int .i64 k, .int .i64 z, .slice A ls.length c] 24))
  have Q := Lib.hid (Box.new w 24 #[.int .i64 k, .int .i64 z, .slice A ls.length c])
  obtain ⟨r0, r1, r2⟩ := Q.out.tri
  go_enter Try.func34, Try.ntmps34
  go_wp2_with fail
  go_loopw [3, 9] (fun s t wr => ∃ i : Nat, i ≤ ls.length ∧ t = .int .i64 (i : Int) ∧ s = .int .i64 (cntS (ls.take i) : Int) ∧ Hid (Below w.heap.size w wr)) (fun _ t _ => ls.length - (Go.RowKit.intOf t).toNat)
  case atStart => exact ⟨0, Nat.zero_le _, rfl, rfl, W1⟩
  case round =>
    obtain ⟨i, hi, rfl, rfl, HB⟩ := hrel
    by_cases hlt : i < ls.length
    · have hlt' : (i : Int) < (ls.length : Int) := Int.ofNat_lt.2 hlt
      obtain ⟨b, off, B, l, d, rfl, hb, x0, -, hS⟩ := RRow.at HL.out i hlt
      have x0 := (HB.out.cell (p := ⟨b, off + i, none⟩) hb).trans x0
      have hl : (ls.getD i []).length = l := hS.1
      have h1 := cntS_bd HO.out i
      have h2 := HO.out.r i
      have HN := Lib.hid (cntS_snoc ls i hlt)
      have hw : IntKind.i64.wrap ((cntS (ls.take i) : Int) + (l : Int)) = ((cntS (ls.take i) + l : Nat) : Int) := by rw [IntWalk.i64_in _ (by omega)]; push_cast; rfl
      generalize cntS (ls.take i) = q at *
      clear hS r0 r1 r2
      go_wp2_with fail
      go_roundw
      case rel => exact ⟨i + 1, hlt, by go_num, by rw [HN.out, hl]; push_cast; rfl, HB⟩
      case measure => simp [Go.RowKit.intOf] <;> omega
    · obtain rfl : i = ls.length := Nat.le_antisymm hi (Nat.le_of_not_lt hlt)
      have hlt' : ¬ (ls.length : Int) < (ls.length : Int) := Int.lt_irrefl _
      have HE : cntS (ls.take ls.length) = cntS ls := by rw [List.take_length]
      rw [HE]
      clear HE
      go_wp2_with fail
      go_ret
      exact ⟨rfl, HB.out⟩
set_option maxHeartbeats 1000000 in
theorem refOf13_any (k z : Int) (A : Option Addr) (c n id : Nat) (w : World) (h0 : 0 < n) (hn : n ≤ 100) :
    Calls Try.prog 19 #[.agg #[.int .i64 k, .int .i64 z, .slice A n c], .int .u64 (id : Int)] w fun e w' => e = .returned (.int .i64 ((id % n : Nat) : Int)) ∧ Below w.heap.size w w' := by
  have W1 := Lib.hid ((Below.refl w.heap.size w).alloc (Nat.le_refl _) (.cells #[.int .i64 k, .int .i64 z, .slice A n c] 24))
  have Q := Lib.hid (Box.new w 24 #[.int .i64 k, .int .i64 z, .slice A n c])
  obtain ⟨r0, r1, r2⟩ := Q.out.tri
  have hw := i64_of_u id n h0 hn
  go_enter Try.func19, Try.ntmps19
  go_wp2_with fail
  go_ret
  exact ⟨rfl, W1.out⟩
set_option maxHeartbeats 4000000 in
theorem refRow13_any (q z : Int) (A : Option Addr) (c p : Nat) (ls : List (List SymR)) (w : World) (h : Lsts w A ls.length ls) (ho : OkSh ls) (hp : p < ls.length) :
    Calls Try.prog 35 #[.agg #[.int .i64 q, .int .i64 z, .slice A ls.length c], .int .i64 (p : Int)] w fun e w' => e = .returned (.bool (strB ls.length z (p : Int) (ls.getD p []))) ∧ Below w.heap.size w w' := by
  have hn := ho.n
  have h2 := ho.r p
  obtain ⟨b, off, B, l, d, rfl, hb, x0, hk, hS⟩ := RRow.at h p hp
  have hl : (ls.getD p []).length = l := hS.1
  obtain ⟨xs, hxs⟩ : ∃ x, x = ls.getD p [] := ⟨_, rfl⟩
  rw [← hxs] at hS hl h2 ⊢
  obtain ⟨n, hnn⟩ : ∃ x, x = ls.length := ⟨_, rfl⟩
  rw [← hnn] at hp hn ⊢
  clear h ho hxs hnn
  have HX := Lib.hid hS
  have HXl := Lib.hid hl
  have hl1 : l ≤ 1000 := by omega
  have hlc := hk.1
  have hp' : (p : Int) < (n : Int) := by omega
  have hp0 : (0 : Int) ≤ (p : Int) := by omega
  have h0 : 0 < n := by omega
  have X0 := Lib.hid x0
  clear hS hl h2 x0
  have W1 := Lib.hid ((Below.refl w.heap.size w).alloc (Nat.le_refl _) (.cells #[.int .i64 q, .int .i64 z, .slice (some ⟨b, off, none⟩) n c] 24))
  have Q := Lib.hid (Box.new w 24 #[.int .i64 q, .int .i64 z, .slice (some ⟨b, off, none⟩) n c])
  have HS := Lib.hid (fun id w => refOf13_any q z (some ⟨b, off, none⟩) c n id w h0 hn)
  obtain ⟨r0, r1, r2⟩ := Q.out.tri
  have x0 := (W1.out.cell (p := ⟨b, off + p, none⟩) hb).trans X0.out
  go_enter Try.func35, Try.ntmps35
  go_wp2_with fail
  clear r0 r1 r2 x0
  go_loopw [15] (fun t wr => ∃ i : Nat, i ≤ l ∧ t = .int .i64 (i : Int) ∧ Hid (strB n z (p : Int) (xs.take i) = true) ∧ Hid (Box wr w.heap.size 24 #[.int .i64 q, .int .i64 z, .slice (some ⟨b, off, none⟩) n c]) ∧ Hid (Below w.heap.size w wr)) (fun t _ => l - (Go.RowKit.intOf t).toNat)
  case atStart => exact ⟨0, Nat.zero_le _, rfl, Lib.hid rfl, Q, W1⟩
  case round =>
    obtain ⟨i, hi, rfl, HT, HQ, HB⟩ := hrel
    obtain ⟨wo, rfl⟩ : ∃ x : World, x = wr := ⟨_, rfl⟩
    by_cases hlt : i < l
    · have hlt' : (i : Int) < (l : Int) := Int.ofNat_lt.2 hlt
      obtain ⟨b1, off1, rfl, hb1, x0, x1⟩ := HX.out.two i hlt
      have x0 := (HB.out.cell (p := ⟨b1, off1 + i * 2, none⟩) hb1).trans x0
      have x1 := (HB.out.cell (p := ⟨b1, off1 + i * 2 + 1, none⟩) hb1).trans x1
      have HN := Lib.hid (strB_snoc n z (p : Int) xs i (by rw [HXl.out]; exact hlt) HT.out)
      have HU := Lib.hid (strB_no n z (p : Int) xs (i + 1))
      have G := Lib.hid (Box.new wo 27 #[.int .u64 ((xs.getD i default).1 : Nat), .string (xs.getD i default).2])
      have HQ2 := Lib.hid (HQ.out.alloc (.cells #[.int .u64 ((xs.getD i default).1 : Nat), .string (xs.getD i default).2] 27))
      have HB := Lib.hid (HB.out.alloc HB.out.size (.cells #[.int .u64 ((xs.getD i default).1 : Nat), .string (xs.getD i default).2] 27))
      obtain ⟨y, hy⟩ : ∃ y, y = xs.getD i default := ⟨_, rfl⟩
      rw [← hy] at HN G HQ2 HB x0 x1
      clear hy
      obtain ⟨y0, y1⟩ := y
      replace x0 : wo.cell? ⟨b1, off1 + i * 2, none⟩ = some (.int .u64 (y0 : Int)) := x0
      replace x1 : wo.cell? ⟨b1, off1 + i * 2 + 1, none⟩ = some (.string y1) := x1
      replace G : Hid (Box (wo.alloc (.cells #[.int .u64 (y0 : Int), .string y1] 27)) wo.heap.size 27 #[.int .u64 (y0 : Int), .string y1]) := G
      replace HB : Hid (Below w.heap.size w (wo.alloc (.cells #[.int .u64 (y0 : Int), .string y1] 27))) := HB
      replace HQ2 : Hid (Box (wo.alloc (.cells #[.int .u64 (y0 : Int), .string y1] 27)) w.heap.size 24 #[.int .i64 q, .int .i64 z, .slice (some ⟨b, off, none⟩) n c]) := HQ2
      obtain ⟨g0, g1, -, -⟩ := G.out.two
      obtain ⟨r0, r1, r2⟩ := HQ2.out.tri
      have hEl : elB n z (p : Int) (y0, y1) = (((y1.size : Int) == z) && (((y0 % n : Nat) : Int) == (p : Int))) := rfl
      rw [hEl] at HN
      clear hEl
      cases hs : ((y1.size : Int) == z) with
      | false =>
        rw [hs] at HN
        have hs2 : ((y1.size : Int) != z) = true := by rw [bne, hs]; rfl
        have HE := Lib.hid (HU.out (by rw [HN.out]; rfl))
        clear hs HN HU HS
        go_wp2_with fail
        go_ret
        exact ⟨by rw [HE.out]; rfl, HB.out⟩
      | true =>
        rw [hs] at HN
        have hs2 : ((y1.size : Int) != z) = false := by rw [bne, hs]; rfl
        clear hs
        have HSt := Lib.hid (HS.out y0 (wo.alloc (.cells #[.int .u64 (y0 : Int), .string y1] 27)))
        go_wp2_with fail
        refine HSt.out.mono ?_
        rintro e w2 ⟨rfl, hb2⟩
        have HB2 := Lib.hid (HB.out.trans (hb2.mono HB.out.size))
        have G2 := Lib.hid (G.out.keep hb2)
        have HQ3 := Lib.hid (HQ2.out.keep hb2)
        clear hb2 g0 g1 r0 r1 r2 x0 x1 HSt
        cases hm : (((y0 % n : Nat) : Int) == (p : Int)) with
        | false =>
          rw [hm] at HN
          have hm2 : (((y0 % n : Nat) : Int) != (p : Int)) = true := by rw [bne, hm]; rfl
          have HE := Lib.hid (HU.out (by rw [HN.out]; rfl))
          clear hm HN HU HS
          generalize y0 % n = mm at *
          go_wp2_with fail
          go_ret
          exact ⟨by rw [HE.out]; rfl, HB2.out⟩
        | true =>
          rw [hm] at HN
          have hm2 : (((y0 % n : Nat) : Int) != (p : Int)) = false := by rw [bne, hm]; rfl
          clear hm HS
          generalize y0 % n = mm at *
          obtain ⟨r0, r1, r2⟩ := HQ3.out.tri
          have x0 := (HB2.out.cell (p := ⟨b, off + p, none⟩) hb).trans X0.out
          have hic : (i : Int) ≤ (d : Int) := by omega
          have hi0 : (0 : Int) ≤ (i : Int) := by omega
          go_wp2_with fail
          clear r0 r1 r2 x0
          go_loopw [42] (fun t wr => ∃ j : Nat, j ≤ i ∧ t = .int .i64 (j : Int) ∧ Hid (∀ j2, j2 < j → (xs.getD j2 default).1 < y0) ∧ Hid (Box wr wo.heap.size 27 #[.int .u64 (y0 : Int), .string y1]) ∧ Hid (Box wr w.heap.size 24 #[.int .i64 q, .int .i64 z, .slice (some ⟨b, off, none⟩) n c]) ∧ Hid (Below w.heap.size w wr)) (fun t _ => i - (Go.RowKit.intOf t).toNat)
          case atStart => exact ⟨0, Nat.zero_le _, rfl, Lib.hid (fun j2 h => absurd h (by omega)), G2, HQ3, HB2⟩
          case round =>
            obtain ⟨j, hj, rfl, HF, G3, HQ4, HB4⟩ := hrel
            obtain ⟨g0, g1, -, -⟩ := G3.out.two
            by_cases hjl : j < i
            · have hjl' : (j : Int) < (i : Int) := by omega
              obtain ⟨b3, off3, e3, hb3, c0, c1⟩ := HX.out.two j (by omega)
              injection e3 with e3
              injection e3 with e3 e4
              subst e3 e4
              have c0 := (HB4.out.cell (p := ⟨b1, off1 + j * 2, none⟩) hb3).trans c0
              have c1 := (HB4.out.cell (p := ⟨b1, off1 + j * 2 + 1, none⟩) hb3).trans c1
              have G4 := Lib.hid (Box.new wr 27 #[.int .u64 ((xs.getD j default).1 : Nat), .string (xs.getD j default).2])
              have G5 := Lib.hid (G3.out.alloc (.cells #[.int .u64 ((xs.getD j default).1 : Nat), .string (xs.getD j default).2] 27))
              have HQ5 := Lib.hid (HQ4.out.alloc (.cells #[.int .u64 ((xs.getD j default).1 : Nat), .string (xs.getD j default).2] 27))
              have HB5 := Lib.hid (HB4.out.alloc HB4.out.size (.cells #[.int .u64 ((xs.getD j default).1 : Nat), .string (xs.getD j default).2] 27))
              have HFn := Lib.hid (fun (hv : (xs.getD j default).1 < y0) => show ∀ j2, j2 < j + 1 → (xs.getD j2 default).1 < y0 from fun j2 h => by
                by_cases e : j2 = j
                · rw [e]; exact hv
                · exact HF.out j2 (by omega))
              have HFx := Lib.hid (fun (hv : ¬ (xs.getD j default).1 < y0) => show strB n z (p : Int) xs = false from HU.out (by rw [HN.out]; simp only [Bool.true_and, decide_eq_false_iff_not]; exact fun h => hv (h j hjl)))
              generalize xs.getD j default = v at *
              obtain ⟨v0, v1⟩ := v
              dsimp only at c0 c1 G4 G5 HQ5 HB5 HFn HFx
              obtain ⟨k0, k1, -, -⟩ := G4.out.two
              obtain ⟨g0, g1, -, -⟩ := G5.out.two
              by_cases hv : v0 < y0
              · have h9 : ¬ ((v0 : Nat) : Int) ≥ (y0 : Int) := by omega
                have HF2 := Lib.hid (HFn.out hv)
                clear HFn HFx HN HU hv
                go_wp2_with fail
                go_roundw
                case rel => exact ⟨j + 1, by omega, by go_num, HF2, G5, HQ5, HB5⟩
                case measure => simp [Go.RowKit.intOf] <;> omega
              · have h9 : ((v0 : Nat) : Int) ≥ (y0 : Int) := by omega
                have HE := Lib.hid (HFx.out hv)
                clear HFn HFx HN HU hv
                go_wp2_with fail
                go_ret
                exact ⟨by rw [HE.out]; rfl, HB5.out⟩
            · obtain rfl : j = i := by omega
              have hjl' : ¬ (j : Int) < (j : Int) := Int.lt_irrefl _
              have HN2 := Lib.hid (show strB n z (p : Int) (xs.take (j + 1)) = true by rw [HN.out]; simp only [Bool.true_and, decide_eq_true_eq]; exact HF.out)
              clear HN HU
              go_wp2_with fail
              go_roundw
              case rel => exact ⟨j + 1, hlt, by go_num, HN2, HQ4, HB4⟩
              case measure => simp [Go.RowKit.intOf] <;> omega
    · obtain rfl : i = l := Nat.le_antisymm hi (Nat.le_of_not_lt hlt)
      have hlt' : ¬ (i : Int) < (i : Int) := Int.lt_irrefl _
      have HE := Lib.hid (show strB n z (p : Int) xs = true by have := HT.out; rwa [List.take_of_length_le (by rw [HXl.out]; exact Nat.le_refl _)] at this)
      go_wp2_with fail
      go_ret
      exact ⟨by rw [HE.out]; rfl, HB.out⟩
set_option maxHeartbeats 4000000 in
theorem refRight13_any (v : Value) (s : ShR) (w : World) (h : ShAt w v s) (ho : OkSh s.2.2) : Calls Try.prog 9 #[v] w fun e w' => e = .returned (.bool (rightSh s)) ∧ Below w.heap.size w w' := by
  obtain ⟨A, c, rfl, hs, hl⟩ := h
  obtain ⟨q, z, ls⟩ := s
  dsimp only at hs hl ho ⊢
  have HL := Lib.hid hl
  have HO := Lib.hid ho
  have hn := ho.n
  clear hl ho
  have W1 := Lib.hid ((Below.refl w.heap.size w).alloc (Nat.le_refl _) (.cells #[.int .i64 q, .int .i64 z, .slice A ls.length c] 24))
  have Q := Lib.hid (Box.new w 24 #[.int .i64 q, .int .i64 z, .slice A ls.length c])
  have HE0 : rightSh (q, z, ls) = (inK ls.length 1 16 && szB z q && decide ((cntS ls : Int) ≤ q) && rowsB ls.length z ls ls.length) := rfl
  have H2 := Lib.hid (fun w => refSizes13_any (ls.length : Int) z q w)
  have H3 := Lib.hid (fun wy (hb : Below w.heap.size w wy) => refCount13_any q z A c ls wy (Lsts.below HL.out hb) HO.out)
  have H4 := Lib.hid (fun wy (hb : Below w.heap.size w wy) p (hp : p < ls.length) => refRow13_any q z A c p ls wy (Lsts.below HL.out hb) HO.out hp)
  obtain ⟨r0, r1, r2⟩ := Q.out.tri
  have W1d := Lib.hid W1.out.drew
  have Q1d := Lib.hid Q.out.drew
  cases e1 : (inK (ls.length : Int) 1 16 && szB z q) with
  | false =>
    rw [e1] at H2
    have HE := Lib.hid (show rightSh (q, z, ls) = false by rw [HE0, e1]; rfl)
    clear e1 HE0
    go_enter Try.func9, Try.ntmps9
    go_upto_region 1 with (fail)
    go_quiet ((go_at_call 13; exact quiet_w (H2.out _)))
    go_wp2_with fail
    go_ret
    exact ⟨by rw [HE.out]; rfl, bdN W1.out _⟩
  | true =>
    rw [e1] at H2
    have hlen0 : 0 < ls.length := by unfold inK at e1; simp at e1; omega
    cases e3 : decide ((cntS ls : Int) ≤ q) with
    | false =>
      have e4 : (cntS ls : Int) > q := by have := of_decide_eq_false e3; omega
      have HE := Lib.hid (show rightSh (q, z, ls) = false by rw [HE0, e1, e3]; rfl)
      clear e1 e3 HE0
      go_enter Try.func9, Try.ntmps9
      go_upto_region 1 with (fail)
      go_region_held3 (fun (w' : World) => w'.cell? ⟨w.heap.size, 0, none⟩ = some (.int .i64 q) ∧ w'.cell? ⟨w.heap.size, 1, none⟩ = some (.int .i64 z) ∧ w'.cell? ⟨w.heap.size, 2, none⟩ = some (.slice A ls.length c)) (go_keep) (first
      | (go_at_call 13; ((with_reducible refine (H2.out _).mono ?_); rintro e w1 ⟨rfl, rfl⟩))
      | (go_at_call 34; ((with_reducible refine (H3.out _ W1d.out).mono ?_); rintro e w2 ⟨rfl, hb⟩; have HB2 := Lib.hid (chain W1d.out hb); have Q2 := Lib.hid (Q1d.out.keep hb); clear hb; obtain ⟨k0, k1, k2⟩ := Q2.out.tri)))
      go_wp2_with fail
      go_ret
      exact ⟨by rw [HE.out]; rfl, HB2.out⟩
    | true =>
      have e4 : ¬ (cntS ls : Int) > q := by have := of_decide_eq_true e3; omega
      have HE := Lib.hid (show rightSh (q, z, ls) = rowsB ls.length z ls ls.length by rw [HE0, e1, e3]; rfl)
      clear e1 e3 HE0
      go_enter Try.func9, Try.ntmps9
      go_upto_region 1 with (fail)
      go_region_held3 (fun (w' : World) => w'.cell? ⟨w.heap.size, 0, none⟩ = some (.int .i64 q) ∧ w'.cell? ⟨w.heap.size, 1, none⟩ = some (.int .i64 z) ∧ w'.cell? ⟨w.heap.size, 2, none⟩ = some (.slice A ls.length c)) (go_keep) (first
      | (go_at_call 13; ((with_reducible refine (H2.out _).mono ?_); rintro e w1 ⟨rfl, rfl⟩))
      | (go_at_call 34; ((with_reducible refine (H3.out _ W1d.out).mono ?_); rintro e w2 ⟨rfl, hb⟩; have HB2 := Lib.hid (chain W1d.out hb); have Q2 := Lib.hid (Q1d.out.keep hb); clear hb; obtain ⟨k0, k1, k2⟩ := Q2.out.tri)))
      go_wp2_with fail
      clear r0 r1 r2 e4 H2 H3 W1d Q1d W1 Q
      go_loopw [23] (fun t wr => ∃ i : Nat, i ≤ ls.length ∧ t = .int .i64 (i : Int) ∧ Hid (rowsB ls.length z ls i = true) ∧ Hid (Box wr w.heap.size 24 #[.int .i64 q, .int .i64 z, .slice A ls.length c]) ∧ Hid (Below w.heap.size w wr)) (fun t _ => ls.length - (Go.RowKit.intOf t).toNat)
      case atStart => exact ⟨0, Nat.zero_le _, rfl, Lib.hid rfl, Q2, HB2⟩
      case round =>
        obtain ⟨i, hi, rfl, HT, HQ, HB⟩ := hrel
        clear Q2 HB2 k0 k1 k2
        by_cases hlt : i < ls.length
        · have hlt' : (i : Int) < (ls.length : Int) := Int.ofNat_lt.2 hlt
          obtain ⟨b, off, B, l, d, rfl, hb, x0, hk, hS⟩ := RRow.at HL.out i hlt
          have x0 := (HB.out.cell (p := ⟨b, off + i, none⟩) hb).trans x0
          have hl : (ls.getD i []).length = l := hS.1
          have h2 := HO.out.r i
          have HC := Lib.hid (H4.out wr HB.out i hlt)
          have HN := Lib.hid (rows_snoc ls.length z ls i)
          have HU := Lib.hid (rows_no ls.length z ls ls.length i hlt)
          obtain ⟨k0, k1, k2⟩ := HQ.out.tri
          clear hS hl h2
          cases hs : strB ls.length z (i : Int) (ls.getD i []) with
          | true =>
            rw [hs] at HC HN
            have HN2 := Lib.hid (show rowsB ls.length z ls (i + 1) = true by rw [HN.out, HT.out]; rfl)
            clear hs HU
            go_wp2_with fail
            refine HC.out.mono ?_
            rintro e w3 ⟨rfl, hb3⟩
            have HQ3 := Lib.hid (HQ.out.keep hb3)
            have HB3 := Lib.hid (chain HB.out hb3)
            clear hb3
            go_wp2_with fail
            go_roundw
            case rel => exact ⟨i + 1, hlt, by go_num, HN2, HQ3, HB3⟩
            case measure => simp [Go.RowKit.intOf] <;> omega
          | false =>
            rw [hs] at HC
            have HE2 := Lib.hid (HU.out hs)
            clear hs HU
            go_wp2_with fail
            refine HC.out.mono ?_
            rintro e w3 ⟨rfl, hb3⟩
            have HB3 := Lib.hid (chain HB.out hb3)
            clear hb3
            go_wp2_with fail
            go_ret
            exact ⟨by rw [HE.out, HE2.out]; rfl, HB3.out⟩
        · obtain rfl : i = ls.length := Nat.le_antisymm hi (Nat.le_of_not_lt hlt)
          have hlt' : ¬ (ls.length : Int) < (ls.length : Int) := Int.lt_irrefl _
          go_wp2_with fail
          go_ret
          exact ⟨by rw [HE.out, HT.out]; rfl, HB.out⟩
end Go.Proofs.Ytehlebeeoeghmaa
