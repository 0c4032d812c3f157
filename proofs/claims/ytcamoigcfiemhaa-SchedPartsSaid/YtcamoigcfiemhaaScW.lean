/- Layer 20: the reference's Run. -/
import Derived.Test.YtcamoigcfiemhaaScV
namespace Go.Proofs.Ytcamoigcfiemhaa
set_option linter.unusedVariables false
set_option linter.unusedSimpArgs false
open Go.RowKit Go.Lib
set_option maxRecDepth 100000
theorem Box.seven {w : World} {g : Nat} {t : TypeId} {a b c d e f k : Value} (h : Box w g t #[a, b, c, d, e, f, k]) : w.cell? ⟨g, 0, none⟩ = some a ∧ w.cell? ⟨g, 1, none⟩ = some b ∧ w.cell? ⟨g, 2, none⟩ = some c ∧ w.cell? ⟨g, 3, none⟩ = some d ∧ w.cell? ⟨g, 4, none⟩ = some e ∧ w.cell? ⟨g, 5, none⟩ = some f ∧ w.cell? ⟨g, 6, none⟩ = some k := ⟨h.cell 0, h.cell 1, h.cell 2, h.cell 3, h.cell 4, h.cell 5, h.cell 6⟩
theorem IntsF.mono {M N : Nat → Prop} {w : World} {A : Option Addr} {l : Nat} {zs : List Int} (h : IntsF M w A l zs) (hm : ∀ g, g < w.heap.size → N g → M g) : IntsF N w A l zs := ⟨h.1, fun hp a ha hn => by
  obtain ⟨b, off, rfl, hb, -⟩ := h.1.2.2 hp
  injection ha with ha
  subst ha
  exact h.2 hp _ rfl (hm _ hb hn)⟩
theorem ChsF.mono {M N : Nat → Prop} {w : World} {A : Option Addr} {l : Nat} {cs : List (List Int)} (h : ChsF M w A l cs) (hm : ∀ g, g < w.heap.size → N g → M g) : ChsF N w A l cs := ⟨RRow.mono h.1 (fun _ _ _ _ h => h.mono hm), fun hp a ha hn => by
  obtain ⟨b, off, rfl, hb, -⟩ := h.1.2 hp
  injection ha with ha
  subst ha
  exact h.2 hp _ rfl (hm _ hb hn)⟩
theorem PF.mono {M N : Nat → Prop} {w0 w : World} {s : Sys} {A0 A1 A2 A3 A4 A5 : Option Addr} {l0 c0 l1 c1 l2 c2 l3 c3 l4 c4 l5 c5 : Nat} (h : PF M w0 w s A0 l0 c0 A1 l1 c1 A2 l2 c2 A3 l3 c3 A4 l4 c4 A5 l5 c5) (hm : ∀ g, g < w.heap.size → N g → M g) : PF N w0 w s A0 l0 c0 A1 l1 c1 A2 l2 c2 A3 l3 c3 A4 l4 c4 A5 l5 c5 :=
  ⟨h.1, h.2.1, h.2.2.1.mono hm, h.2.2.2.1.mono hm, h.2.2.2.2.1.mono hm, h.2.2.2.2.2.1.mono hm, h.2.2.2.2.2.2.mono hm⟩
/-- The blocks that Run writes: two boxes, and the row of those who went on. -/
def MR (n : Nat) (vw : Value) : Nat → Prop := fun g => g = n + 1 ∨ g = n + 2 ∨ vw.ownBlock = some g
abbrev set7L (w : World) (g : Nat) (v0 v1 v2 v3 v4 v5 v6 : Value) : World := (set6L w g v0 v1 v2 v3 v4 v5).setCell ⟨g, 6, none⟩ v6
theorem set7_grown (w : World) (g : Nat) (v0 v1 v2 v3 v4 v5 v6 : Value) : w.grownBy (set7L w g v0 v1 v2 v3 v4 v5 v6) (some g) := grown_trans (set6_grown w g v0 v1 v2 v3 v4 v5) (grown_set _ g 6 v6)
/-- What Run hands back. -/
def RefRunOut (r : Sys × List Int) (w : World) (e : Ending) (w' : World) : Prop :=
  ∃ A0 l0 c0 A1 l1 c1 A2 l2 c2 A3 l3 c3 A4 l4 c4 A5 l5 c5 A6 c6, e = .returned (.agg #[.slice A0 l0 c0, .slice A1 l1 c1, .slice A2 l2 c2, .slice A3 l3 c3, .slice A4 l4 c4, .slice A5 l5 c5, .slice A6 r.2.length c6]) ∧ SysAt w' (.agg #[.slice A0 l0 c0, .slice A1 l1 c1, .slice A2 l2 c2, .slice A3 l3 c3, .slice A4 l4 c4, .slice A5 l5 c5]) r.1 ∧ Ints w' A6 r.2.length r.2 ∧ SliceOk A6 r.2.length c6 ∧ Below w.heap.size w w'
set_option maxHeartbeats 16000000 in
theorem refRun_any (v : Value) (s : Sys) (w : World) (h : SysAt w v s) (hwr : WR 0 s) (A : Option Addr) (l cp : Nat) (ps : List Int) (hp : Ints w A l ps) (hl : l ≤ 500) : Calls Try.prog 26 #[v, .slice A l cp] w (RefRunOut (runS s ps) w) := by
  have HW0 := Lib.hid hwr
  have HPs := Lib.hid hp
  have HPl := Lib.hid hp.1
  have h8 := hwr.n8
  obtain ⟨A0, l0, c0, A1, l1, c1, A2, l2, c2, A3, l3, c3, A4, l4, c4, A5, l5, c5, rfl, hpf⟩ := PF.none h (MR w.heap.size (.slice none 0 0)) (fun g h => by rcases h with h | h | h; omega; omega; simp [Value.ownBlock] at h)
  obtain ⟨i0, hi, hz0, hz1, hz2⟩ := info_parts int_infoS
  have HI := Lib.hid hi
  have HZ0 := Lib.hid hz0
  have HZ1 := Lib.hid hz1
  have HZ2 := Lib.hid hz2
  have P0 := Lib.hid hpf
  clear h hwr hp hpf hi hz0 hz1 hz2
  have b3 : Below w.heap.size w (((w.alloc (.cells #[.slice A0 l0 c0, .slice A1 l1 c1, .slice A2 l2 c2, .slice A3 l3 c3, .slice A4 l4 c4, .slice A5 l5 c5] 26)).alloc (.cells #[.slice none 0 0, .slice none 0 0, .slice none 0 0, .slice none 0 0, .slice none 0 0, .slice none 0 0, .slice none 0 0] 49)).alloc (.cells #[.slice A0 l0 c0, .slice A1 l1 c1, .slice A2 l2 c2, .slice A3 l3 c3, .slice A4 l4 c4, .slice A5 l5 c5, .slice none 0 0] 49)) := (((Below.refl w.heap.size w).alloc (Nat.le_refl _) _).alloc (by simp) _).alloc (by simp [World.size_alloc]; omega) _
  have HB3 := Lib.hid b3
  have q1 := Box.new (w.alloc (.cells #[.slice A0 l0 c0, .slice A1 l1 c1, .slice A2 l2 c2, .slice A3 l3 c3, .slice A4 l4 c4, .slice A5 l5 c5] 26)) 49 #[.slice none 0 0, .slice none 0 0, .slice none 0 0, .slice none 0 0, .slice none 0 0, .slice none 0 0, .slice none 0 0]
  have q2 := Box.new ((w.alloc (.cells #[.slice A0 l0 c0, .slice A1 l1 c1, .slice A2 l2 c2, .slice A3 l3 c3, .slice A4 l4 c4, .slice A5 l5 c5] 26)).alloc (.cells #[.slice none 0 0, .slice none 0 0, .slice none 0 0, .slice none 0 0, .slice none 0 0, .slice none 0 0, .slice none 0 0] 49)) 49 #[.slice A0 l0 c0, .slice A1 l1 c1, .slice A2 l2 c2, .slice A3 l3 c3, .slice A4 l4 c4, .slice A5 l5 c5, .slice none 0 0]
  simp only [World.size_alloc] at q1 q2
  have X3 := Lib.hid (Box.alloc q1 (.cells #[.slice A0 l0 c0, .slice A1 l1 c1, .slice A2 l2 c2, .slice A3 l3 c3, .slice A4 l4 c4, .slice A5 l5 c5, .slice none 0 0] 49))
  have Y3 := Lib.hid q2
  have Q0 := Lib.hid ((Box.new w 26 #[.slice A0 l0 c0, .slice A1 l1 c1, .slice A2 l2 c2, .slice A3 l3 c3, .slice A4 l4 c4, .slice A5 l5 c5]).alloc (.cells #[.slice none 0 0, .slice none 0 0, .slice none 0 0, .slice none 0 0, .slice none 0 0, .slice none 0 0, .slice none 0 0] 49))
  have Q1 := Lib.hid (Q0.out.alloc (.cells #[.slice none 0 0, .slice none 0 0, .slice none 0 0, .slice none 0 0, .slice none 0 0, .slice none 0 0, .slice none 0 0] 49))
  have hsz : (((w.alloc (.cells #[.slice A0 l0 c0, .slice A1 l1 c1, .slice A2 l2 c2, .slice A3 l3 c3, .slice A4 l4 c4, .slice A5 l5 c5] 26)).alloc (.cells #[.slice none 0 0, .slice none 0 0, .slice none 0 0, .slice none 0 0, .slice none 0 0, .slice none 0 0, .slice none 0 0] 49)).alloc (.cells #[.slice A0 l0 c0, .slice A1 l1 c1, .slice A2 l2 c2, .slice A3 l3 c3, .slice A4 l4 c4, .slice A5 l5 c5, .slice none 0 0] 49)).heap.size = w.heap.size + 3 := by simp
  have HS3 := Lib.hid hsz
  clear q1 q2 b3 hsz
  obtain ⟨r0, r1, r2, r3, r4, r5⟩ := Q0.out.six
  obtain ⟨q0, q1, q2, q3, q4, q5⟩ := Q1.out.six
  go_enter Try.func26, Try.ntmps26
  go_upto_region 2 with (fail)
  clear r0 r1 r2 r3 r4 r5 q0 q1 q2 q3 q4 q5 Q0 Q1
  obtain ⟨w3, hw3⟩ : ∃ w3, w3 = (((w.alloc (.cells #[.slice A0 l0 c0, .slice A1 l1 c1, .slice A2 l2 c2, .slice A3 l3 c3, .slice A4 l4 c4, .slice A5 l5 c5] 26)).alloc (.cells #[.slice none 0 0, .slice none 0 0, .slice none 0 0, .slice none 0 0, .slice none 0 0, .slice none 0 0, .slice none 0 0] 49)).alloc (.cells #[.slice A0 l0 c0, .slice A1 l1 c1, .slice A2 l2 c2, .slice A3 l3 c3, .slice A4 l4 c4, .slice A5 l5 c5, .slice none 0 0] 49)) := ⟨_, rfl⟩
  rw [← hw3] at HB3 X3 Y3 HS3 ⊢
  clear hw3
  have P3 := Lib.hid (P0.out.frm (FrM.of HB3.out))
  go_wp2_with fail
  go_loopw [15] (fun t wr => ∃ (k : Nat) (a0 : Option Addr) (m0 d0 : Nat) (a1 : Option Addr) (m1 d1 : Nat) (a2 : Option Addr) (m2 d2 : Nat) (a3 : Option Addr) (m3 d3 : Nat) (a4 : Option Addr) (m4 d4 : Nat) (a5 : Option Addr) (m5 d5 : Nat) (a6 : Option Addr) (d6 : Nat), k ≤ l ∧ t = .int .i64 (k : Int) ∧ Hid (PF (MR w.heap.size (.slice a6 (runS s (ps.take k)).2.length d6)) w wr (runS s (ps.take k)).1 a0 m0 d0 a1 m1 d1 a2 m2 d2 a3 m3 d3 a4 m4 d4 a5 m5 d5) ∧ Hid (wr.ownsRow (w.heap.size + 3) 3 1 (.slice a6 (runS s (ps.take k)).2.length d6) (runS s (ps.take k)).2.length ((runS s (ps.take k)).2.map (Value.int .i64))) ∧ Hid (Box wr (w.heap.size + 2) 49 #[.slice a0 m0 d0, .slice a1 m1 d1, .slice a2 m2 d2, .slice a3 m3 d3, .slice a4 m4 d4, .slice a5 m5 d5, .slice a6 (runS s (ps.take k)).2.length d6]) ∧ Hid (Box wr (w.heap.size + 1) 49 #[.slice none 0 0, .slice none 0 0, .slice none 0 0, .slice none 0 0, .slice none 0 0, .slice none 0 0, .slice none 0 0]) ∧ Hid (Below w.heap.size w wr)) (fun t _ => l - (Go.RowKit.intOf t).toNat)
  case atStart => exact ⟨0, _, _, _, _, _, _, _, _, _, _, _, _, _, _, _, _, _, _, none, 0, Nat.zero_le _, rfl, P3, Lib.hid (World.ownsRow_nil _ _ _ _), Y3, X3, HB3⟩
  case round =>
    obtain ⟨k, a0, m0, d0, a1, m1, d1, a2, m2, d2, a3, m3, d3, a4, m4, d4, a5, m5, d5, a6, d6, hk, rfl, PW, WN, Y, X, HB⟩ := hrel
    obtain ⟨W, hW⟩ : ∃ x : World, x = wr := ⟨_, rfl⟩
    subst hW
    clear P3 Y3 X3 HB3 HS3 P0
    have hkl : (ps.take k).length = k := by rw [List.length_take, HPl.out]; omega
    have hwk := run_wr HW0.out (ps.take k)
    rw [hkl] at hwk
    have HWk := Lib.hid hwk
    have HWs := Lib.hid (went_small s (ps.take k) h8)
    have HWl := run_len s (ps.take k)
    rw [hkl] at HWl
    have HSn := Lib.hid (fun h => run_snoc s ps k (by rw [HPl.out]; exact h))
    have HSt := Lib.hid (run_stuck s ps k)
    have HFl := Lib.hid (fun (h : k = l) => show runS s ps = runS s (ps.take k) by rw [List.take_of_length_le (by rw [HPl.out]; omega)])
    obtain ⟨st, hst⟩ : ∃ st, st = runS s (ps.take k) := ⟨_, rfl⟩
    simp only [← hst] at PW WN Y HWk HWs HWl HSn HSt HFl
    clear hst hwk hkl
    obtain ⟨c, ws⟩ := st
    have PW : Hid (PF (MR w.heap.size (.slice a6 ws.length d6)) w W c a0 m0 d0 a1 m1 d1 a2 m2 d2 a3 m3 d3 a4 m4 d4 a5 m5 d5) := PW
    have WN : Hid (W.ownsRow (w.heap.size + 3) 3 1 (.slice a6 ws.length d6) ws.length (ws.map (Value.int .i64))) := WN
    have Y : Hid (Box W (w.heap.size + 2) 49 #[.slice a0 m0 d0, .slice a1 m1 d1, .slice a2 m2 d2, .slice a3 m3 d3, .slice a4 m4 d4, .slice a5 m5 d5, .slice a6 ws.length d6]) := Y
    have HWs : Hid (In64 ws) := HWs
    have HWl : ws.length ≤ k := HWl
    have HWk : Hid (WR k c) := HWk
    by_cases hlt : k < l
    · have hlt' : (k : Int) < (l : Int) := by omega
      obtain ⟨bp, op, rfl, hbp, hcp⟩ := (HPs.out.below HB.out).2.2 (by omega)
      have c0 := hcp k hlt
      obtain ⟨p, hpe⟩ : ∃ p, p = ps.getD k 0 := ⟨_, rfl⟩
      rw [← hpe] at c0 HSn
      clear hcp hpe
      have HEn := Lib.hid (refEnabled_any _ c W (PF.sys PW.out HB.out) k HWk.out)
      obtain ⟨y0, y1, y2, y3, y4, y5, y6⟩ := Y.out.seven
      go_wp2_with fail
      refine HEn.out.mono ?_
      rintro e w4 ⟨A9, c9, rfl, ho9, hb⟩
      have O9 := Lib.hid ho9
      have P4 := Lib.hid (PW.out.frm (FrM.of hb))
      have WN4 := Lib.hid (own_keepB WN.out hb)
      have Y4 := Lib.hid (Y.out.keep hb)
      have X4 := Lib.hid (X.out.keep hb)
      have HB4 := Lib.hid (chain HB.out hb)
      have h9 := enL_length c c.th.length
      have hel := enL_len c c.th.length
      have hth8 : c.th.length ≤ 8 := HWk.out.n8
      have HNl := Lib.hid (enL_nil (s := c) (k := c.th.length))
      have HAt := Lib.hid (enL_at c c.th.length)
      have H9 := Lib.hid h9
      clear ho9 hb y0 y1 y2 y3 y4 y5 y6 c0 PW WN Y X HB h9 HEn
      obtain ⟨zs, hzs⟩ : ∃ zs, zs = enL c c.th.length := ⟨_, rfl⟩
      have HZs := Lib.hid hzs
      rw [← hzs] at O9 hel
      rw [← hzs]
      clear hzs
      by_cases hz : zs.length = 0
      · have tz : ((zs.length : Int) == 0) = true := by simpa using hz
        have HE := Lib.hid (HSt.out (by
          have h1 : zs = [] := List.eq_nil_of_length_eq_zero hz
          rw [HZs.out] at h1
          exact HNl.out.1 h1))
        clear hz
        have XF := Lib.hid ((((((((X4.out.put 0 (.slice a0 m0 d0)).put 1 (.slice a1 m1 d1)).put 2 (.slice a2 m2 d2)).put 3 (.slice a3 m3 d3)).put 4 (.slice a4 m4 d4)).put 5 (.slice a5 m5 d5)).put 6 (.slice a6 ws.length d6)))
        have BF := Lib.hid ((((((((HB4.out.setCell (p := ⟨w.heap.size + 1, 0, none⟩) (Nat.le_succ _) (.slice a0 m0 d0)).setCell (p := ⟨w.heap.size + 1, 1, none⟩) (Nat.le_succ _) (.slice a1 m1 d1)).setCell (p := ⟨w.heap.size + 1, 2, none⟩) (Nat.le_succ _) (.slice a2 m2 d2)).setCell (p := ⟨w.heap.size + 1, 3, none⟩) (Nat.le_succ _) (.slice a3 m3 d3)).setCell (p := ⟨w.heap.size + 1, 4, none⟩) (Nat.le_succ _) (.slice a4 m4 d4)).setCell (p := ⟨w.heap.size + 1, 5, none⟩) (Nat.le_succ _) (.slice a5 m5 d5)).setCell (p := ⟨w.heap.size + 1, 6, none⟩) (Nat.le_succ _) (.slice a6 ws.length d6)))
        have hgf := set7_grown w4 (w.heap.size + 1) (.slice a0 m0 d0) (.slice a1 m1 d1) (.slice a2 m2 d2) (.slice a3 m3 d3) (.slice a4 m4 d4) (.slice a5 m5 d5) (.slice a6 ws.length d6)
        have PG := Lib.hid (P4.out.frm (FrM.grown hgf (.inl rfl)))
        have RF := Lib.hid (World.ownsRow.kept WN4.out hgf (.inr (own_ne WN4.out X4.out (by decide))))
        clear hgf
        obtain ⟨y0, y1, y2, y3, y4, y5, y6⟩ := Y4.out.seven
        obtain ⟨x0, x1, x2, x3, x4, x5, x6⟩ := X4.out.seven
        have f0 := X4.out.free 0
        have f1 := X4.out.free 1
        have f2 := X4.out.free 2
        have f3 := X4.out.free 3
        have f4 := X4.out.free 4
        have f5 := X4.out.free 5
        have f6 := X4.out.free 6
        go_wp2_with fail
        refine close_one Try.results26 rfl rfl XF.out Try.underlying49 rfl (by kernel_rfl) ?_
        rw [HE.out]
        exact ⟨_, _, _, _, _, _, _, _, _, _, _, _, _, _, _, _, _, _, _, _, rfl, PF.sys PG.out BF.out, OwnI.ints RF.out HWs.out, own_cap RF.out, BF.out⟩
      · have tz : ((zs.length : Int) == 0) = false := by simpa using hz
        have hz0 : 0 < zs.length := by omega
        have hzl : zs.length = (enN c c.th.length).length := by rw [HZs.out]; exact H9.out
        have hne : enN c c.th.length ≠ [] := fun h => by rw [h] at hzl; have h0 : zs.length = 0 := hzl; omega
        have hpm : pmod p zs.length < zs.length := pmod_lt p hz0
        obtain ⟨h1t, h2t⟩ := mem_enN (pickT_mem p hne)
        obtain ⟨g9, rfl, -, -⟩ := own_addr O9.out hz0
        have cz := World.ownsRow.cellAt O9.out (pmod p zs.length) (by omega)
        have hval : zs.getD (pmod p zs.length) 0 = ((pickT c p : Nat) : Int) := by
          have e1 := HAt.out (pmod p zs.length) (by omega)
          rw [← HZs.out] at e1
          rw [e1, hzl]; rfl
        rw [List.getElem?_map, show zs[pmod p zs.length]? = some (zs.getD (pmod p zs.length) 0) by rw [List.getD, List.getElem?_eq_getElem hpm]; rfl, hval] at cz
        replace cz : w4.cell? ⟨g9, pmod p zs.length, none⟩ = some (.int .i64 ((pickT c p : Nat) : Int)) := cz
        have HPk := Lib.hid (show pickP (c, ws) p = (stepS c (pickT c p), ws ++ [((pickT c p : Nat) : Int)]) by unfold pickP; rw [if_neg hne])
        have hmod := (pmod_cast p hz0).symm
        obtain ⟨j, hj⟩ : ∃ j, j = pmod p zs.length := ⟨_, rfl⟩
        rw [← hj] at cz hpm hmod
        obtain ⟨t, hte⟩ : ∃ t, t = pickT c p := ⟨_, rfl⟩
        rw [← hte] at cz HPk h1t h2t
        have ht8 : t < 8 := by omega
        have hjl : (j : Int) < (zs.length : Int) := by omega
        have hM4 : ∀ g, MR w.heap.size (.slice a6 ws.length d6) g → g < w4.heap.size := fun g h => by
          rcases h with h | h | h
          · have := X4.out.lt; omega
          · have := Y4.out.lt; omega
          · exact (WN4.out.lt g h).2
        have HGo := Lib.hid (refStepF_any _ w w4 c a0 m0 d0 a1 m1 d1 a2 m2 d2 a3 m3 d3 a4 m4 d4 a5 m5 d5 P4.out HB4.out hM4 k HWk.out (by omega) t h1t h2t)
        have k0 : (0 : Int) < (zs.length : Int) := by omega
        have k1 : ¬ (zs.length : Int) = 0 := by omega
        have kg1 : -(zs.length : Int) < p.tmod zs.length := Int.lt_tmod_of_pos p k0
        have kg2 : p.tmod zs.length < (zs.length : Int) := Int.tmod_lt_of_pos p k0
        have k2 : (zs.length : Int) ≤ 1000 := by omega
        clear hz hj hte hval hzl hne h1t h2t hM4 hz0
        obtain ⟨y0, y1, y2, y3, y4, y5, y6⟩ := Y4.out.seven
        go_wp2_with fail
        refine HGo.out.mono ?_
        rintro e w5 ⟨e1, n1, g1, e2, n2, g2, e3, n3, g3, e4, n4, g4, e5, n5, g5, rfl, hp5, hb⟩
        have P5 := Lib.hid hp5
        have WN5 := Lib.hid (own_keepB WN4.out hb)
        have Y5 := Lib.hid (Y4.out.keep hb)
        have X5 := Lib.hid (X4.out.keep hb)
        have HB5 := Lib.hid (chain HB4.out hb)
        clear hp5 hb y0 y1 y2 y3 y4 y5 y6 cz P4 WN4 Y4 X4 HB4 HGo O9 tz hmod kg1 kg2 k0 k1 k2 hjl hpm
        obtain ⟨y0, y1, y2, y3, y4, y5, y6⟩ := Y5.out.seven
        have f0 := Y5.out.free 0
        have f1 := Y5.out.free 1
        have f2 := Y5.out.free 2
        have f3 := Y5.out.free 3
        have f4 := Y5.out.free 4
        have f5 := Y5.out.free 5
        go_upto_region 11 with (fail)
        clear y0 y1 y2 y3 y4 y5 y6 f0 f1 f2 f3 f4 f5
        obtain ⟨w6, hw6⟩ : ∃ x, x = ((((((w5.setCell ⟨w.heap.size + 2, 0, none⟩ (.slice a0 m0 d0)).setCell ⟨w.heap.size + 2, 1, none⟩ (.slice e1 n1 g1)).setCell ⟨w.heap.size + 2, 2, none⟩ (.slice e2 n2 g2)).setCell ⟨w.heap.size + 2, 3, none⟩ (.slice e3 n3 g3)).setCell ⟨w.heap.size + 2, 4, none⟩ (.slice e4 n4 g4)).setCell ⟨w.heap.size + 2, 5, none⟩ (.slice e5 n5 g5)) := ⟨_, rfl⟩
        have hg6 : w5.grownBy w6 (some (w.heap.size + 2)) := by rw [hw6]; exact set6_grown w5 (w.heap.size + 2) (.slice a0 m0 d0) (.slice e1 n1 g1) (.slice e2 n2 g2) (.slice e3 n3 g3) (.slice e4 n4 g4) (.slice e5 n5 g5)
        have Y6 := Lib.hid (show Box w6 (w.heap.size + 2) 49 #[.slice a0 m0 d0, .slice e1 n1 g1, .slice e2 n2 g2, .slice e3 n3 g3, .slice e4 n4 g4, .slice e5 n5 g5, .slice a6 ws.length d6] by rw [hw6]; exact ((((((Y5.out.put 0 (.slice a0 m0 d0)).put 1 (.slice e1 n1 g1)).put 2 (.slice e2 n2 g2)).put 3 (.slice e3 n3 g3)).put 4 (.slice e4 n4 g4)).put 5 (.slice e5 n5 g5)))
        have HB6 := Lib.hid (show Below w.heap.size w w6 by rw [hw6]; exact ((((((HB5.out.setCell (p := ⟨w.heap.size + 2, 0, none⟩) (Nat.le_add_right _ _) (.slice a0 m0 d0)).setCell (p := ⟨w.heap.size + 2, 1, none⟩) (Nat.le_add_right _ _) (.slice e1 n1 g1)).setCell (p := ⟨w.heap.size + 2, 2, none⟩) (Nat.le_add_right _ _) (.slice e2 n2 g2)).setCell (p := ⟨w.heap.size + 2, 3, none⟩) (Nat.le_add_right _ _) (.slice e3 n3 g3)).setCell (p := ⟨w.heap.size + 2, 4, none⟩) (Nat.le_add_right _ _) (.slice e4 n4 g4)).setCell (p := ⟨w.heap.size + 2, 5, none⟩) (Nat.le_add_right _ _) (.slice e5 n5 g5)))
        rw [← hw6]
        have P6 := Lib.hid ((P5.out.frm (FrM.grown hg6 (.inr (.inl rfl)))).mono (N := fun g => MR w.heap.size (.slice a6 ws.length d6) g ∨ w6.heap.size ≤ g) (fun g h1 h2 => by rcases h2 with h2 | h2; exact h2; omega))
        have WN6 := Lib.hid (World.ownsRow.kept WN5.out hg6 (.inr (own_ne WN5.out Y5.out (by decide))))
        have X6 := Lib.hid (Box.grown X5.out hg6 (fun e => by injection e with e; omega))
        clear hw6 hg6 P5 Y5 HB5 WN5 X5
        have b7 : Below w6.heap.size w6 (w6.alloc (.cells #[.int .i64 (t : Int)] 3)) := (Below.refl _ _).alloc (Nat.le_refl _) _
        have hs7 : (w6.alloc (.cells #[.int .i64 (t : Int)] 3)).heap.size = w6.heap.size + 1 := by simp
        have XO := Lib.hid (WN6.out.alloc (.cells #[.int .i64 (t : Int)] 3))
        have P7 := Lib.hid (P6.out.frm (FrM.of b7))
        have Y7 := Lib.hid (Y6.out.keep b7)
        have X7 := Lib.hid (X6.out.keep b7)
        have HB7 := Lib.hid (chain HB6.out b7)
        have NY := Lib.hid (own_ne XO.out Y7.out (by decide))
        have NX := Lib.hid (own_ne XO.out X7.out (by decide))
        have HS7 := Lib.hid hs7
        have hb37 : w.heap.size + 3 ≤ (w6.alloc (.cells #[.int .i64 (t : Int)] 3)).heap.size := by have := Y7.out.lt; omega
        have HB37 := Lib.hid hb37
        obtain ⟨y0, y1, y2, y3, y4, y5, y6⟩ := Y6.out.seven
        have z6 := (Y7.out.seven).2.2.2.2.2.2
        have f6 := Y7.out.free 6
        clear b7 hs7
        go_wp2_with (at_builtin; refine wpList_append_lies _ rfl _ _ 23 rfl (w.heap.size + 3) 3 i0 (.int .i64 0) 1 8 Try.underlying23 HI.out HZ0.out HZ1.out HZ2.out rfl (by decide) _ _ _ rfl XO.out ⟨w6.heap.size, 0, none⟩ 1 1 [.int .i64 (t : Int)] rfl rfl (cell_one_new _ _ _) (by simp [Value.oneCell']) (by omega) (by simp [maxLen]; omega) (by omega) HB37.out _ rfl ?_; intro g7 cap7 w8 hown' hgrow hat hlt7; have WN8 := Lib.hid hown'; have P8 := Lib.hid (P7.out.frm (FrM.grownO hgrow (fun g h => .inl (.inr (.inr h))))); have Y8 := Lib.hid (Y7.out.grown hgrow NY.out); have X8 := Lib.hid (X7.out.grown hgrow NX.out); have HB8 := Lib.hid (HB7.out.grown hgrow HB7.out.size (fun g hg => by have := (XO.out.lt g hg).1; omega)); have HAt8 := Lib.hid hat; clear hown' hgrow hat y0 y1 y2 y3 y4 y5 y6 z6 f6; obtain ⟨y0, y1, y2, y3, y4, y5, y6⟩ := Y8.out.seven; have f6 := Y8.out.free 6)
        go_roundw
        case rel =>
          have hs := HSn.out hlt
          rw [HPk.out] at hs
          refine ⟨k + 1, a0, m0, d0, e1, n1, g1, e2, n2, g2, e3, n3, g3, e4, n4, g4, e5, n5, g5, some ⟨g7, 0, none⟩, cap7, by omega, by go_num, Lib.hid ?_, Lib.hid ?_, Lib.hid ?_, Lib.hid (Box.grown X8.out (grown_set w8 _ _ _) (fun e => by injection e with e; omega)), Lib.hid (HB8.out.setCell (p := ⟨w.heap.size + 2, 6, none⟩) (Nat.le_add_right _ _) _)⟩
          · rw [hs]
            refine (P8.out.frm (FrM.grown (grown_set w8 (w.heap.size + 2) 6 _) (.inl (.inr (.inl rfl))))).mono (fun g h1 h2 => ?_)
            rcases h2 with h2 | h2 | h2
            · exact .inl (.inl h2)
            · exact .inl (.inr (.inl h2))
            · have hg' : g7 = g := by simpa [Value.ownBlock] using h2
              subst hg'
              rcases HAt8.out with e | e
              · exact .inl (.inr (.inr e))
              · exact .inr (by rw [e, HS7.out]; omega)
          · rw [hs]
            show World.ownsRow _ _ _ 1 _ (ws ++ [(t : Int)]).length ((ws ++ [(t : Int)]).map (Value.int .i64))
            rw [List.length_append, List.map_append]
            exact World.ownsRow.kept WN8.out (grown_set w8 (w.heap.size + 2) 6 _) (.inr (own_ne WN8.out Y8.out (by decide)))
          · rw [hs]
            have hl9 : (ws ++ [(t : Int)]).length = ws.length + 1 := by rw [List.length_append]; rfl
            show Box _ _ _ #[.slice a0 m0 d0, .slice e1 n1 g1, .slice e2 n2 g2, .slice e3 n3 g3, .slice e4 n4 g4, .slice e5 n5 g5, .slice (some ⟨g7, 0, none⟩) (ws ++ [(t : Int)]).length cap7]
            rw [hl9]
            exact Y8.out.put 6 (.slice (some ⟨g7, 0, none⟩) (ws.length + 1) cap7)
        case measure => simp [Go.RowKit.intOf] <;> omega
    · have hlt' : ¬ (k : Int) < (l : Int) := by omega
      have HE := Lib.hid (HFl.out (by omega))
      have XF := Lib.hid ((((((((X.out.put 0 (.slice a0 m0 d0)).put 1 (.slice a1 m1 d1)).put 2 (.slice a2 m2 d2)).put 3 (.slice a3 m3 d3)).put 4 (.slice a4 m4 d4)).put 5 (.slice a5 m5 d5)).put 6 (.slice a6 ws.length d6)))
      have BF := Lib.hid ((((((((HB.out.setCell (p := ⟨w.heap.size + 1, 0, none⟩) (Nat.le_succ _) (.slice a0 m0 d0)).setCell (p := ⟨w.heap.size + 1, 1, none⟩) (Nat.le_succ _) (.slice a1 m1 d1)).setCell (p := ⟨w.heap.size + 1, 2, none⟩) (Nat.le_succ _) (.slice a2 m2 d2)).setCell (p := ⟨w.heap.size + 1, 3, none⟩) (Nat.le_succ _) (.slice a3 m3 d3)).setCell (p := ⟨w.heap.size + 1, 4, none⟩) (Nat.le_succ _) (.slice a4 m4 d4)).setCell (p := ⟨w.heap.size + 1, 5, none⟩) (Nat.le_succ _) (.slice a5 m5 d5)).setCell (p := ⟨w.heap.size + 1, 6, none⟩) (Nat.le_succ _) (.slice a6 ws.length d6)))
      have hgf := set7_grown W (w.heap.size + 1) (.slice a0 m0 d0) (.slice a1 m1 d1) (.slice a2 m2 d2) (.slice a3 m3 d3) (.slice a4 m4 d4) (.slice a5 m5 d5) (.slice a6 ws.length d6)
      have PG := Lib.hid (PW.out.frm (FrM.grown hgf (.inl rfl)))
      have RF := Lib.hid (World.ownsRow.kept WN.out hgf (.inr (own_ne WN.out X.out (by decide))))
      clear hgf
      obtain ⟨y0, y1, y2, y3, y4, y5, y6⟩ := Y.out.seven
      obtain ⟨x0, x1, x2, x3, x4, x5, x6⟩ := X.out.seven
      have f0 := X.out.free 0
      have f1 := X.out.free 1
      have f2 := X.out.free 2
      have f3 := X.out.free 3
      have f4 := X.out.free 4
      have f5 := X.out.free 5
      have f6 := X.out.free 6
      go_wp2_with fail
      refine close_one Try.results26 rfl rfl XF.out Try.underlying49 rfl (by kernel_rfl) ?_
      rw [HE.out]
      exact ⟨_, _, _, _, _, _, _, _, _, _, _, _, _, _, _, _, _, _, _, _, rfl, PF.sys PG.out BF.out, OwnI.ints RF.out HWs.out, own_cap RF.out, BF.out⟩
end Go.Proofs.Ytcamoigcfiemhaa
