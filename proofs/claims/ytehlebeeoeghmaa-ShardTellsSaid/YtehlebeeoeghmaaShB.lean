/- Layer 13: contracts of shard: what may be. -/
import Derived.Test.YtehlebeeoeghmaaShA
import Derived.Deep.QuietTactic
import Derived.BigQuiet
import Derived.Deep.RegionHeld3
namespace Go.Proofs.Ytehlebeeoeghmaa
set_option linter.unusedVariables false
set_option linter.unusedSimpArgs false
open Go.RowKit Go.Lib
set_option maxRecDepth 100000
theorem bdH {B : Nat} {w wr : World} (h : Hid (Below B w wr)) (n : Nat) : Hid (Below B w (wr.drewN n)) := Lib.hid (bdN h.out n)
theorem hidBox {w : World} {g : Nat} {t : TypeId} {cs : Array Value} (h : Hid (Box w g t cs)) (n : Nat) : Hid (Box (w.drewN n) g t cs) := Lib.hid (h.out.drewN n)
theorem stripesMayBe_any (n : Int) (w : World) : Calls Try.prog 24 #[.int .i64 n] w fun e w' => e = .returned (.bool (inK n 1 16)) ∧ w = w' := by
  by_cases h1 : 1 ≤ n
  · by_cases h2 : n ≤ 16
    · go_enter Try.func24, Try.ntmps24
      go_wp2_with fail
      go_ret
      exact ⟨by simp [inK, h1, h2], rfl⟩
    · have t2 : decide (n ≤ 16) = false := by simpa using h2
      go_enter Try.func24, Try.ntmps24
      go_wp2_with fail
      go_ret
      exact ⟨by simp [inK, t2], rfl⟩
  · have t1 : decide (1 ≤ n) = false := by simpa using h1
    go_enter Try.func24, Try.ntmps24
    go_wp2_with fail
    go_ret
    exact ⟨by simp [inK, t1], rfl⟩
def szB (z c : Int) : Bool := inK z 0 64 && inK c 1 64
theorem sizesMayBe_any (z c : Int) (w : World) : Calls Try.prog 25 #[.int .i64 z, .int .i64 c] w fun e w' => e = .returned (.bool (szB z c)) ∧ w = w' := by
  unfold szB inK
  by_cases h1 : 0 ≤ z
  · by_cases h2 : z ≤ 64
    · by_cases h3 : 1 ≤ c
      · by_cases h4 : c ≤ 64
        · go_enter Try.func25, Try.ntmps25
          go_wp2_with fail
          go_ret
          exact ⟨by simp [h1, h2, h3, h4], rfl⟩
        · have t4 : decide (c ≤ 64) = false := by simpa using h4
          go_enter Try.func25, Try.ntmps25
          go_wp2_with fail
          go_ret
          exact ⟨by simp [h1, h2, h3, t4], rfl⟩
      · have t3 : decide (1 ≤ c) = false := by simpa using h3
        go_enter Try.func25, Try.ntmps25
        go_wp2_with fail
        go_ret
        exact ⟨by simp [h1, h2, t3], rfl⟩
    · have t2 : decide (z ≤ 64) = false := by simpa using h2
      go_enter Try.func25, Try.ntmps25
      go_wp2_with fail
      go_ret
      exact ⟨by simp [h1, t2], rfl⟩
  · have t1 : decide (0 ≤ z) = false := by simpa using h1
    go_enter Try.func25, Try.ntmps25
    go_wp2_with fail
    go_ret
    exact ⟨by simp [t1], rfl⟩
set_option maxHeartbeats 1000000 in
theorem symbolsIn_any (k z : Int) (A : Option Addr) (c : Nat) (ls : List (List SymR)) (w : World) (h : Lsts w A ls.length ls) (ho : OkSh ls) :
    Calls Try.prog 30 #[.agg #[.int .i64 k, .int .i64 z, .slice A ls.length c]] w fun e w' => e = .returned (.int .i64 (cntS ls : Int)) ∧ Below w.heap.size w w' := by
  have HL := Lib.hid h
  have HO := Lib.hid ho
  have hn := ho.n
  clear h ho
  have W1 := Lib.hid ((Below.refl w.heap.size w).alloc (Nat.le_refl _) (.cells #[.int .i64 k, .int .i64 z, .slice A ls.length c] 24))
  have Q := Lib.hid (Box.new w 24 #[.int .i64 k, .int .i64 z, .slice A ls.length c])
  obtain ⟨r0, r1, r2⟩ := Q.out.tri
  go_enter Try.func30, Try.ntmps30
  go_wp2_with fail
  go_loopw [3, 9] (fun s t wr => ∃ i : Nat, i ≤ ls.length ∧ t = .int .i64 (i : Int) ∧ s = .int .i64 (cntS (ls.take i) : Int) ∧ Hid (Below w.heap.size w wr)) (fun _ t _ => ls.length - (Go.RowKit.intOf t).toNat)
  case atStart => exact ⟨0, Nat.zero_le _, rfl, rfl, W1⟩
  case round =>
    obtain ⟨i, hi, rfl, rfl, HB⟩ := hrel
    by_cases hlt : i < ls.length
    · have hlt' : (i : Int) < (ls.length : Int) := Int.ofNat_lt.2 hlt
      obtain ⟨b, off, B, l, d, rfl, hb, x0, -, hS⟩ := RRow.at HL.out i hlt
      have x0 := (HB.out.cell (p := ⟨b, off + i, none⟩) hb).trans x0
      have hl : (ls.getD i []).length = l := hS.1
      have h1 := cntS_bd HO.out i
      have h2 := HO.out.r i
      have HN := Lib.hid (cntS_snoc ls i hlt)
      have hw : IntKind.i64.wrap ((cntS (ls.take i) : Int) + (l : Int)) = ((cntS (ls.take i) + l : Nat) : Int) := by rw [IntWalk.i64_in _ (by omega)]; push_cast; rfl
      generalize cntS (ls.take i) = q at *
      clear hS r0 r1 r2
      go_wp2_with fail
      go_roundw
      case rel => exact ⟨i + 1, hlt, by go_num, by rw [HN.out, hl]; push_cast; rfl, HB⟩
      case measure => simp [Go.RowKit.intOf] <;> omega
    · obtain rfl : i = ls.length := Nat.le_antisymm hi (Nat.le_of_not_lt hlt)
      have hlt' : ¬ (ls.length : Int) < (ls.length : Int) := Int.lt_irrefl _
      have HE : cntS (ls.take ls.length) = cntS ls := by rw [List.take_length]
      rw [HE]
      clear HE
      go_wp2_with fail
      go_ret
      exact ⟨rfl, HB.out⟩
theorem i64_of_u (m n : Nat) (h0 : 0 < n) (hn : n ≤ 100) : IntKind.i64.wrap ((m : Int) % (n : Int)) = ((m % n : Nat) : Int) := by
  have := Nat.mod_lt m h0
  show IntKind.i64.wrap ((m % n : Nat) : Int) = _
  rw [IntWalk.i64_in _ (by omega)]
set_option maxHeartbeats 1000000 in
theorem stripe_any (k z : Int) (A : Option Addr) (c n id : Nat) (w : World) (h0 : 0 < n) (hn : n ≤ 100) :
    Calls Try.prog 26 #[.agg #[.int .i64 k, .int .i64 z, .slice A n c], .int .u64 (id : Int)] w fun e w' => e = .returned (.int .i64 ((id % n : Nat) : Int)) ∧ Below w.heap.size w w' := by
  have W1 := Lib.hid ((Below.refl w.heap.size w).alloc (Nat.le_refl _) (.cells #[.int .i64 k, .int .i64 z, .slice A n c] 24))
  have Q := Lib.hid (Box.new w 24 #[.int .i64 k, .int .i64 z, .slice A n c])
  obtain ⟨r0, r1, r2⟩ := Q.out.tri
  have hw := i64_of_u id n h0 hn
  go_enter Try.func26, Try.ntmps26
  go_wp2_with fail
  go_ret
  exact ⟨rfl, W1.out⟩
set_option maxHeartbeats 4000000 in
theorem stripeMayBe_any (q z : Int) (A : Option Addr) (c n : Nat) (p : Nat) (B : Option Addr) (l d : Nat) (xs : List SymR) (w : World) (h0 : 0 < n) (hn : n ≤ 100) (hp : p ≤ 100) (hx : Syms w B l xs) (hs : SliceOk B l d) (hl : l ≤ 1000) :
    Calls Try.prog 33 #[.agg #[.int .i64 q, .int .i64 z, .slice A n c], .int .i64 (p : Int), .slice B l d] w fun e w' => e = .returned (.bool (strB n z (p : Int) xs)) ∧ Below w.heap.size w w' := by
  have HX := Lib.hid hx
  have HXl := Lib.hid hx.1
  clear hx hs
  have W1 := Lib.hid ((Below.refl w.heap.size w).alloc (Nat.le_refl _) (.cells #[.int .i64 q, .int .i64 z, .slice A n c] 24))
  have Q := Lib.hid (Box.new w 24 #[.int .i64 q, .int .i64 z, .slice A n c])
  have HS := Lib.hid (fun id w => stripe_any q z A c n id w h0 hn)
  have hnn : ¬ n = 0 := by omega
  go_enter Try.func33, Try.ntmps33
  go_wp2_with fail
  go_loopw [11] (fun t wr => ∃ i : Nat, i ≤ l ∧ t = .int .i64 (i : Int) ∧ Hid (strB n z (p : Int) (xs.take i) = true) ∧ Hid (Box wr w.heap.size 24 #[.int .i64 q, .int .i64 z, .slice A n c]) ∧ Hid (Below w.heap.size w wr)) (fun t _ => l - (Go.RowKit.intOf t).toNat)
  case atStart => exact ⟨0, Nat.zero_le _, rfl, Lib.hid rfl, Q, W1⟩
  case round =>
    obtain ⟨i, hi, rfl, HT, HQ, HB⟩ := hrel
    by_cases hlt : i < l
    · have hlt' : (i : Int) < (l : Int) := Int.ofNat_lt.2 hlt
      obtain ⟨b, off, rfl, hb, x0, x1⟩ := HX.out.two i hlt
      have HX1 := Lib.hid (HX.out.mono (Nat.le_refl _) HB.out)
      have x0 := (HB.out.cell (p := ⟨b, off + i * 2, none⟩) hb).trans x0
      have x1 := (HB.out.cell (p := ⟨b, off + i * 2 + 1, none⟩) hb).trans x1
      have HN := Lib.hid (strB_snoc n z (p : Int) xs i (by rw [HXl.out]; exact hlt) HT.out)
      have HU := Lib.hid (strB_no n z (p : Int) xs (i + 1))
      have HLast := Lib.hid (rise_last xs i (by rw [HXl.out]; exact hlt) (strB_pw HT.out))
      have G := Lib.hid (Box.new wr 27 #[.int .u64 ((xs.getD i default).1 : Nat), .string (xs.getD i default).2])
      have HBo := HB
      have HQ2 := Lib.hid (HQ.out.alloc (.cells #[.int .u64 ((xs.getD i default).1 : Nat), .string (xs.getD i default).2] 27))
      have HB := Lib.hid (HB.out.alloc HB.out.size (.cells #[.int .u64 ((xs.getD i default).1 : Nat), .string (xs.getD i default).2] 27))
      obtain ⟨y, hy⟩ : ∃ y, y = xs.getD i default := ⟨_, rfl⟩
      rw [← hy] at HN G HQ2 HB x0 x1
      clear hy
      obtain ⟨y0, y1⟩ := y
      replace x0 : wr.cell? ⟨b, off + i * 2, none⟩ = some (.int .u64 (y0 : Int)) := x0
      replace x1 : wr.cell? ⟨b, off + i * 2 + 1, none⟩ = some (.string y1) := x1
      replace G : Hid (Box (wr.alloc (.cells #[.int .u64 (y0 : Int), .string y1] 27)) wr.heap.size 27 #[.int .u64 (y0 : Int), .string y1]) := G
      replace HB : Hid (Below w.heap.size w (wr.alloc (.cells #[.int .u64 (y0 : Int), .string y1] 27))) := HB
      replace HQ2 : Hid (Box (wr.alloc (.cells #[.int .u64 (y0 : Int), .string y1] 27)) w.heap.size 24 #[.int .i64 q, .int .i64 z, .slice A n c]) := HQ2
      obtain ⟨g0, g1, -, -⟩ := G.out.two
      obtain ⟨r0, r1, r2⟩ := HQ2.out.tri
      have hEl : elB n z (p : Int) (y0, y1) = (((y1.size : Int) == z) && (((y0 % n : Nat) : Int) == (p : Int))) := rfl
      rw [hEl] at HN
      clear hEl
      cases hs : ((y1.size : Int) == z) with
      | false =>
        rw [hs] at HN
        have hs2 : ((y1.size : Int) != z) = true := by simp [bne, hs]
        have HE := Lib.hid (HU.out (by rw [HN.out]; rfl))
        clear hs HN HU HLast HS
        go_wp2_with fail
        go_ret
        exact ⟨by rw [HE.out]; rfl, HB.out⟩
      | true =>
        rw [hs] at HN
        have hs2 : ((y1.size : Int) != z) = false := by simp [bne, hs]
        clear hs
        have HSt := Lib.hid (HS.out y0 (wr.alloc (.cells #[.int .u64 (y0 : Int), .string y1] 27)))
        go_wp2_with fail
        refine HSt.out.mono ?_
        rintro e w2 ⟨rfl, hb2⟩
        have HB2 := Lib.hid (HB.out.trans (hb2.mono HB.out.size))
        have G2 := Lib.hid (G.out.keep hb2)
        have HQ3 := Lib.hid (HQ2.out.keep hb2)
        clear hb2 g0 g1 r0 r1 r2 x0 x1 HSt
        cases hm : (((y0 % n : Nat) : Int) == (p : Int)) with
        | false =>
          rw [hm] at HN
          have hm2 : (((y0 % n : Nat) : Int) != (p : Int)) = true := by rw [bne, hm]; rfl
          have HE := Lib.hid (HU.out (by rw [HN.out]; rfl))
          clear hm HN HU HLast HS
          generalize y0 % n = mm at *
          go_wp2_with fail
          go_ret
          exact ⟨by rw [HE.out]; rfl, HB2.out⟩
        | true =>
          rw [hm] at HN
          have hm2 : (((y0 % n : Nat) : Int) != (p : Int)) = false := by rw [bne, hm]; rfl
          clear hm
          generalize y0 % n = mm at *
          obtain ⟨g0, g1, -, -⟩ := G2.out.two
          by_cases hi0 : i = 0
          · subst hi0
            have HN2 := Lib.hid (show strB n z (p : Int) (xs.take (0 + 1)) = true by rw [HN.out]; simp)
            have hz : ¬ (0 : Int) > ((0 : Nat) : Int) := by decide
            clear HN HU HLast HS
            go_wp2_with fail
            go_quiet (fail)
            go_wp2_with fail
            go_roundw
            case rel => exact ⟨1, hlt, by go_num, HN2, hidBox HQ3 _, bdH HB2 _⟩
            case measure => simp [Go.RowKit.intOf] <;> omega
          · have hpos : 0 < i := by omega
            have hpos' : (0 : Int) < (i : Int) := by omega
            obtain ⟨b3, off3, e3, hb3, c0, c1⟩ := HX.out.two (i - 1) (by omega)
            injection e3 with e3
            injection e3 with e3 e4
            subst e3 e4
            have c0 := (HB2.out.cell (p := ⟨b, off + (i - 1) * 2, none⟩) hb3).trans c0
            have hwi : IntKind.i64.wrap ((i : Int) - 1) = ((i - 1 : Nat) : Int) := by rw [IntWalk.i64_in _ (by omega)]; omega
            have hi1 : ((i - 1 : Nat) : Int) < (l : Int) := by omega
            have hi2 : (0 : Int) ≤ ((i - 1 : Nat) : Int) := by omega
            have HL2 := Lib.hid (HLast.out hpos y0)
            obtain ⟨v, hv⟩ : ∃ v, v = (xs.getD (i - 1) default).1 := ⟨_, rfl⟩
            rw [← hv] at HL2 c0
            clear hv c1
            generalize i - 1 = i1 at *
            by_cases hlt3 : v < y0
            · have h9 : ¬ ((v : Nat) : Int) ≥ (y0 : Int) := by omega
              have HN2 := Lib.hid (show strB n z (p : Int) (xs.take (i + 1)) = true by rw [HN.out]; simp; exact HL2.out.2 hlt3)
              clear HN HU HLast HS HL2
              go_wp2_with fail
              go_quiet (fail)
              go_wp2_with fail
              go_roundw
              case rel => exact ⟨i + 1, hlt, by go_num, HN2, hidBox HQ3 _, bdH HB2 _⟩
              case measure => simp [Go.RowKit.intOf] <;> omega
            · have h9 : ((v : Nat) : Int) ≥ (y0 : Int) := by omega
              have HE := Lib.hid (HU.out (by rw [HN.out]; simp only [Bool.true_and, decide_eq_false_iff_not]; exact fun h => hlt3 (HL2.out.1 h)))
              clear HN HU HLast HS HL2
              go_wp2_with fail
              go_quiet (fail)
              go_wp2_with fail
              go_ret
              exact ⟨by rw [HE.out]; rfl, (bdH HB2 _).out⟩
    · obtain rfl : i = l := Nat.le_antisymm hi (Nat.le_of_not_lt hlt)
      have hlt' : ¬ (i : Int) < (i : Int) := Int.lt_irrefl _
      have HE := Lib.hid (show strB n z (p : Int) xs = true by have := HT.out; rwa [List.take_of_length_le (by rw [HXl.out]; exact Nat.le_refl _)] at this)
      go_wp2_with fail
      go_ret
      exact ⟨by rw [HE.out]; rfl, HB.out⟩
set_option maxHeartbeats 4000000 in
theorem shRight_any (v : Value) (s : ShR) (w : World) (h : ShAt w v s) (ho : OkSh s.2.2) : Calls Try.prog 8 #[v] w fun e w' => e = .returned (.bool (rightSh s)) ∧ Below w.heap.size w w' := by
  obtain ⟨A, c, rfl, hs, hl⟩ := h
  obtain ⟨q, z, ls⟩ := s
  dsimp only at hs hl ho ⊢
  have HL := Lib.hid hl
  have HO := Lib.hid ho
  have hn := ho.n
  clear hl ho
  have W1 := Lib.hid ((Below.refl w.heap.size w).alloc (Nat.le_refl _) (.cells #[.int .i64 q, .int .i64 z, .slice A ls.length c] 24))
  have Q := Lib.hid (Box.new w 24 #[.int .i64 q, .int .i64 z, .slice A ls.length c])
  have HE0 : rightSh (q, z, ls) = (inK ls.length 1 16 && szB z q && decide ((cntS ls : Int) ≤ q) && rowsB ls.length z ls ls.length) := rfl
  have H1 := Lib.hid (fun w => stripesMayBe_any (ls.length : Int) w)
  have H2 := Lib.hid (fun w => sizesMayBe_any z q w)
  have H3 := Lib.hid (fun wy (hb : Below w.heap.size w wy) => symbolsIn_any q z A c ls wy (Lsts.below HL.out hb) HO.out)
  have H4 := Lib.hid (fun wy (hb : Below w.heap.size w wy) p B l d xs (h0 : 0 < ls.length) (hp : p ≤ 100) (hx : Syms wy B l xs) (hk : SliceOk B l d) (hl : l ≤ 1000) => stripeMayBe_any q z A c ls.length p B l d xs wy h0 hn hp hx hk hl)
  obtain ⟨r0, r1, r2⟩ := Q.out.tri
  have W1d := Lib.hid W1.out.drew
  have Q1d := Lib.hid Q.out.drew
  cases e1 : inK (ls.length : Int) 1 16 with
  | false =>
    rw [e1] at H1
    have HE := Lib.hid (show rightSh (q, z, ls) = false by rw [HE0, e1]; rfl)
    clear e1 HE0
    go_enter Try.func8, Try.ntmps8
    go_upto_region 1 with (fail)
    go_quiet ((go_at_call 24; exact quiet_w (H1.out _)))
    go_wp2_with fail
    go_ret
    exact ⟨by rw [HE.out]; rfl, bdN W1.out _⟩
  | true =>
    rw [e1] at H1
    have hlen0 : 0 < ls.length := by unfold inK at e1; simp at e1; omega
    cases e2 : szB z q with
    | false =>
      rw [e2] at H2
      have HE := Lib.hid (show rightSh (q, z, ls) = false by rw [HE0, e1, e2]; rfl)
      clear e1 e2 HE0
      go_enter Try.func8, Try.ntmps8
      go_upto_region 1 with (fail)
      go_quiet ((first | (go_at_call 24; exact quiet_w (H1.out _)) | (go_at_call 25; exact quiet_w (H2.out _))))
      go_wp2_with fail
      go_ret
      exact ⟨by rw [HE.out]; rfl, bdN W1.out _⟩
    | true =>
      rw [e2] at H2
      cases e3 : decide ((cntS ls : Int) ≤ q) with
      | false =>
        have e4 : (cntS ls : Int) > q := by have := of_decide_eq_false e3; omega
        have HE := Lib.hid (show rightSh (q, z, ls) = false by rw [HE0, e1, e2, e3]; rfl)
        clear e1 e2 e3 HE0
        go_enter Try.func8, Try.ntmps8
        go_upto_region 1 with (fail)
        go_region_held3 (fun (w' : World) => w'.cell? ⟨w.heap.size, 0, none⟩ = some (.int .i64 q) ∧ w'.cell? ⟨w.heap.size, 1, none⟩ = some (.int .i64 z) ∧ w'.cell? ⟨w.heap.size, 2, none⟩ = some (.slice A ls.length c)) (go_keep) (first
      | (go_at_call 24; ((with_reducible refine (H1.out _).mono ?_); rintro e w1 ⟨rfl, rfl⟩))
      | (go_at_call 25; ((with_reducible refine (H2.out _).mono ?_); rintro e w1 ⟨rfl, rfl⟩))
      | (go_at_call 30; ((with_reducible refine (H3.out _ W1d.out).mono ?_); rintro e w2 ⟨rfl, hb⟩; have HB2 := Lib.hid (chain W1d.out hb); have Q2 := Lib.hid (Q1d.out.keep hb); clear hb; obtain ⟨k0, k1, k2⟩ := Q2.out.tri)))
        go_wp2_with fail
        go_ret
        exact ⟨by rw [HE.out]; rfl, HB2.out⟩
      | true =>
        have e4 : ¬ (cntS ls : Int) > q := by have := of_decide_eq_true e3; omega
        have HE := Lib.hid (show rightSh (q, z, ls) = rowsB ls.length z ls ls.length by rw [HE0, e1, e2, e3]; rfl)
        clear e1 e2 e3 HE0
        go_enter Try.func8, Try.ntmps8
        go_upto_region 1 with (fail)
        go_region_held3 (fun (w' : World) => w'.cell? ⟨w.heap.size, 0, none⟩ = some (.int .i64 q) ∧ w'.cell? ⟨w.heap.size, 1, none⟩ = some (.int .i64 z) ∧ w'.cell? ⟨w.heap.size, 2, none⟩ = some (.slice A ls.length c)) (go_keep) (first
      | (go_at_call 24; ((with_reducible refine (H1.out _).mono ?_); rintro e w1 ⟨rfl, rfl⟩))
      | (go_at_call 25; ((with_reducible refine (H2.out _).mono ?_); rintro e w1 ⟨rfl, rfl⟩))
      | (go_at_call 30; ((with_reducible refine (H3.out _ W1d.out).mono ?_); rintro e w2 ⟨rfl, hb⟩; have HB2 := Lib.hid (chain W1d.out hb); have Q2 := Lib.hid (Q1d.out.keep hb); clear hb; obtain ⟨k0, k1, k2⟩ := Q2.out.tri)))
        go_wp2_with fail
        clear r0 r1 r2 e4 H1 H2 H3 W1d Q1d W1 Q
        go_loopw [28] (fun t wr => ∃ i : Nat, i ≤ ls.length ∧ t = .int .i64 (i : Int) ∧ Hid (rowsB ls.length z ls i = true) ∧ Hid (Box wr w.heap.size 24 #[.int .i64 q, .int .i64 z, .slice A ls.length c]) ∧ Hid (Below w.heap.size w wr)) (fun t _ => ls.length - (Go.RowKit.intOf t).toNat)
        case atStart => exact ⟨0, Nat.zero_le _, rfl, Lib.hid rfl, Q2, HB2⟩
        case round =>
          obtain ⟨i, hi, rfl, HT, HQ, HB⟩ := hrel
          clear Q2 HB2 k0 k1 k2
          by_cases hlt : i < ls.length
          · have hlt' : (i : Int) < (ls.length : Int) := Int.ofNat_lt.2 hlt
            obtain ⟨b, off, B, l, d, rfl, hb, x0, hk, hS⟩ := RRow.at HL.out i hlt
            have x0 := (HB.out.cell (p := ⟨b, off + i, none⟩) hb).trans x0
            have hl : (ls.getD i []).length = l := hS.1
            have h2 := HO.out.r i
            have HC := Lib.hid (H4.out wr HB.out i B l d (ls.getD i []) hlen0 (by omega) (hS.mono (Nat.le_refl _) HB.out) hk (by omega))
            have HN := Lib.hid (rows_snoc ls.length z ls i)
            have HU := Lib.hid (rows_no ls.length z ls ls.length i hlt)
            obtain ⟨k0, k1, k2⟩ := HQ.out.tri
            clear hS hl h2
            cases hs : strB ls.length z (i : Int) (ls.getD i []) with
            | true =>
              rw [hs] at HC HN
              have HN2 := Lib.hid (show rowsB ls.length z ls (i + 1) = true by rw [HN.out, HT.out]; rfl)
              clear hs HU
              go_wp2_with fail
              refine HC.out.mono ?_
              rintro e w3 ⟨rfl, hb3⟩
              have HQ3 := Lib.hid (HQ.out.keep hb3)
              have HB3 := Lib.hid (chain HB.out hb3)
              clear hb3
              go_wp2_with fail
              go_roundw
              case rel => exact ⟨i + 1, hlt, by go_num, HN2, HQ3, HB3⟩
              case measure => simp [Go.RowKit.intOf] <;> omega
            | false =>
              rw [hs] at HC
              have HE2 := Lib.hid (HU.out hs)
              clear hs HU
              go_wp2_with fail
              refine HC.out.mono ?_
              rintro e w3 ⟨rfl, hb3⟩
              have HB3 := Lib.hid (chain HB.out hb3)
              clear hb3
              go_wp2_with fail
              go_ret
              exact ⟨by rw [HE.out, HE2.out]; rfl, HB3.out⟩
          · obtain rfl : i = ls.length := Nat.le_antisymm hi (Nat.le_of_not_lt hlt)
            have hlt' : ¬ (ls.length : Int) < (ls.length : Int) := Int.lt_irrefl _
            go_wp2_with fail
            go_ret
            exact ⟨by rw [HE.out, HT.out]; rfl, HB.out⟩
end Go.Proofs.Ytehlebeeoeghmaa
