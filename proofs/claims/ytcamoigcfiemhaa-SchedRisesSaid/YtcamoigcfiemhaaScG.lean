/- Layer 20: a system of the call's own; copied. -/
import Derived.Test.YtcamoigcfiemhaaScF
namespace Go.Proofs.Ytcamoigcfiemhaa
set_option linter.unusedVariables false
set_option linter.unusedSimpArgs false
open Go.RowKit Go.Lib
set_option maxRecDepth 100000
/-- Rows of numbers, of the call's own. -/
abbrev OwnI (base : Nat) (w : World) (v : Value) (zs : List Int) : Prop := w.ownsRow base 3 1 v zs.length (zs.map (Value.int .i64))
/-- No two of a system's rows of numbers share a block. -/
structure Apart (v1 v2 v3 v4 : Value) (n : Nat) (rs : List SlT) : Prop where
  s12 : NoSh v1 v2
  s13 : NoSh v1 v3
  s14 : NoSh v1 v4
  s23 : NoSh v2 v3
  s24 : NoSh v2 v4
  s34 : NoSh v3 v4
  t1 : ∀ j, j < n → NoSh v1 (slV (rs.getD j sl0))
  t2 : ∀ j, j < n → NoSh v2 (slV (rs.getD j sl0))
  t3 : ∀ j, j < n → NoSh v3 (slV (rs.getD j sl0))
  t4 : ∀ j, j < n → NoSh v4 (slV (rs.getD j sl0))
/-- A system of the call's own. -/
def OwnSys (base : Nat) (w : World) (v : Value) (s : Sys) : Prop :=
  ∃ A0 c0 A1 c1 A2 c2 A3 c3 A4 c4 A5 c5 rs0 rs5, v = .agg #[.slice A0 s.th.length c0, .slice A1 s.pc.length c1, .slice A2 s.su.length c2, .slice A3 s.lo.length c3, .slice A4 s.ce.length c4, .slice A5 s.ch.length c5] ∧
    OwnRR encIn 55 57 3 base w (.slice A0 s.th.length c0) s.th rs0 ∧
    OwnI base w (.slice A1 s.pc.length c1) s.pc ∧ OwnI base w (.slice A2 s.su.length c2) s.su ∧ OwnI base w (.slice A3 s.lo.length c3) s.lo ∧ OwnI base w (.slice A4 s.ce.length c4) s.ce ∧
    OwnRR encZ 23 3 1 base w (.slice A5 s.ch.length c5) s.ch rs5 ∧
    Apart (.slice A1 s.pc.length c1) (.slice A2 s.su.length c2) (.slice A3 s.lo.length c3) (.slice A4 s.ce.length c4) s.ch.length rs5
def In64 (zs : List Int) : Prop := ∀ j, -9223372036854775808 ≤ zs.getD j 0 ∧ zs.getD j 0 ≤ 9223372036854775807
/-- All numbers are a machine's. -/
def Nums (s : Sys) : Prop := In64 s.pc ∧ In64 s.su ∧ In64 s.lo ∧ In64 s.ce ∧ ∀ j, j < s.ch.length → In64 (s.ch.getD j [])
theorem OwnI.ints {base : Nat} {w : World} {A : Option Addr} {c : Nat} {zs : List Int} (h : OwnI base w (.slice A zs.length c) zs) (hz : In64 zs) : Ints w A zs.length zs :=
  Recs.ints (own_recs encZ_len (by rw [encZ_map]; exact h) (by decide)) hz
theorem OwnSys.at {base : Nat} {w : World} {v : Value} {s : Sys} (h : OwnSys base w v s) (hn : Nums s) : SysAt w v s := by
  obtain ⟨A0, c0, A1, c1, A2, c2, A3, c3, A4, c4, A5, c5, rs0, rs5, rfl, h0, h1, h2, h3, h4, h5, -⟩ := h
  exact ⟨A0, _, c0, A1, _, c1, A2, _, c2, A3, _, c3, A4, _, c4, A5, _, c5, rfl, own_cap h0.2.1, own_cap h1, own_cap h2, own_cap h3, own_cap h4, own_cap h5.2.1,
    OwnRR.read encIn_len (by decide) h0, OwnI.ints h1 hn.1, OwnI.ints h2 hn.2.1, OwnI.ints h3 hn.2.2.1, OwnI.ints h4 hn.2.2.2.1,
    RRow.mono (OwnRR.read encZ_len (by decide) h5) fun j hj A l hr => Recs.ints hr (hn.2.2.2.2 j hj)⟩
theorem SysAt.nums {w : World} {v : Value} {s : Sys} (h : SysAt w v s) : Nums s := by
  obtain ⟨A0, l0, c0, A1, l1, c1, A2, l2, c2, A3, l3, c3, A4, l4, c4, A5, l5, c5, rfl, s0, s1, s2, s3, s4, s5, h0, h1, h2, h3, h4, h5⟩ := h
  refine ⟨h1.2.1, h2.2.1, h3.2.1, h4.2.1, fun j hj => ?_⟩
  obtain ⟨_, _, _, _, _, _, _, _, _, hp⟩ := h5.at j (by rw [h5.1] at hj; exact hj)
  exact hp.2.1
theorem OwnRR.keepB {α : Type} {enc : α → List Value} {e1 e2 : TypeId} {sz base : Nat} {w w' : World} {v : Value} {xss : List (List α)} {rs : List SlT} (h : OwnRR enc e1 e2 sz base w v xss rs) (hb : Below w.heap.size w w') : OwnRR enc e1 e2 sz base w' v xss rs :=
  ⟨h.1, own_keepB h.2.1 hb, fun j hj => ⟨(h.2.2.1 j hj).1, own_keepB (h.2.2.1 j hj).2 hb⟩, h.2.2.2⟩
theorem OwnRR.low {α : Type} {enc : α → List Value} {e1 e2 : TypeId} {sz base base' : Nat} {w : World} {v : Value} {xss : List (List α)} {rs : List SlT} (h : OwnRR enc e1 e2 sz base w v xss rs) (hb : base' ≤ base) : OwnRR enc e1 e2 sz base' w v xss rs :=
  ⟨h.1, own_low h.2.1 hb, fun j hj => ⟨(h.2.2.1 j hj).1, own_low (h.2.2.1 j hj).2 hb⟩, h.2.2.2⟩
theorem OwnSys.keepB {base : Nat} {w w' : World} {v : Value} {s : Sys} (h : OwnSys base w v s) (hb : Below w.heap.size w w') : OwnSys base w' v s := by
  obtain ⟨A0, c0, A1, c1, A2, c2, A3, c3, A4, c4, A5, c5, rs0, rs5, rfl, h0, h1, h2, h3, h4, h5, h6⟩ := h
  exact ⟨A0, c0, A1, c1, A2, c2, A3, c3, A4, c4, A5, c5, rs0, rs5, rfl, h0.keepB hb, own_keepB h1 hb, own_keepB h2 hb, own_keepB h3 hb, own_keepB h4 hb, h5.keepB hb, h6⟩
theorem OwnSys.low {base base' : Nat} {w : World} {v : Value} {s : Sys} (h : OwnSys base w v s) (hb : base' ≤ base) : OwnSys base' w v s := by
  obtain ⟨A0, c0, A1, c1, A2, c2, A3, c3, A4, c4, A5, c5, rs0, rs5, rfl, h0, h1, h2, h3, h4, h5, h6⟩ := h
  exact ⟨A0, c0, A1, c1, A2, c2, A3, c3, A4, c4, A5, c5, rs0, rs5, rfl, h0.low hb, own_low h1 hb, own_low h2 hb, own_low h3 hb, own_low h4 hb, h5.low hb, h6⟩
/-- Sizes that are small enough to copy. -/
def Small (s : Sys) : Prop := s.th.length ≤ 1000 ∧ (∀ j, j < s.th.length → (s.th.getD j []).length ≤ 1000) ∧ s.pc.length ≤ 1000 ∧ s.su.length ≤ 1000 ∧ s.lo.length ≤ 1000 ∧ s.ce.length ≤ 1000 ∧ s.ch.length ≤ 1000 ∧ ∀ j, j < s.ch.length → (s.ch.getD j []).length ≤ 1000
theorem grown_set (w : World) (g i : Nat) (u : Value) : w.grownBy (w.setCell ⟨g, i, none⟩ u) (some g) :=
  ⟨rfl, rfl, rfl, by simp, fun k _ hk => heap_setCell_other w ⟨g, i, none⟩ k u (fun e => hk (by simp [e]))⟩
theorem grown_trans {a b c : World} {r : Option Nat} (h1 : a.grownBy b r) (h2 : b.grownBy c r) : a.grownBy c r :=
  ⟨h2.os.trans h1.os, h2.tape.trans h1.tape, h2.output.trans h1.output, Nat.le_trans h1.size h2.size, fun k hk hr => (h2.block k (Nat.lt_of_lt_of_le hk h1.size) hr).trans (h1.block k hk hr)⟩
theorem own_grown {base size n g : Nat} {e : TypeId} {w w' : World} {v : Value} {xs : List Value} (h : w.ownsRow base e size v n xs) (hg : w.grownBy w' (some g)) (hb : g < base) : w'.ownsRow base e size v n xs :=
  World.ownsRow.kept h hg (.inr fun e => by have := (h.lt g e).1; omega)
theorem OwnSys.grown {base g : Nat} {w w' : World} {v : Value} {s : Sys} (h : OwnSys base w v s) (hg : w.grownBy w' (some g)) (hb : g < base) : OwnSys base w' v s := by
  obtain ⟨A0, c0, A1, c1, A2, c2, A3, c3, A4, c4, A5, c5, rs0, rs5, rfl, h0, h1, h2, h3, h4, h5, h6⟩ := h
  exact ⟨A0, c0, A1, c1, A2, c2, A3, c3, A4, c4, A5, c5, rs0, rs5, rfl, ⟨h0.1, own_grown h0.2.1 hg hb, fun j hj => ⟨(h0.2.2.1 j hj).1, own_grown (h0.2.2.1 j hj).2 hg hb⟩, h0.2.2.2⟩, own_grown h1 hg hb, own_grown h2 hg hb, own_grown h3 hg hb, own_grown h4 hg hb, ⟨h5.1, own_grown h5.2.1 hg hb, fun j hj => ⟨(h5.2.2.1 j hj).1, own_grown (h5.2.2.1 j hj).2 hg hb⟩, h5.2.2.2⟩, h6⟩
theorem ints_news {w w' : World} {A : Option Addr} {l : Nat} {zs : List Int} (h : Ints w A l zs) (hb : Below w.heap.size w w') : ∀ ad, A = some ad → ∀ j u, (zs.map (Value.int .i64))[j]? = some u → w'.cell? (ad.add j) = some u := by
  have := Recs.news (Recs.below h.recs hb) encZ_len (by decide)
  rwa [encZ_map] at this
theorem ints_one (zs : List Int) : ∀ u ∈ zs.map (Value.int .i64), u.oneCell' = true := by
  have := flat_one (xs := zs) encZ_one
  rwa [encZ_map] at this
set_option maxHeartbeats 8000000 in
theorem copied_any (v : Value) (s : Sys) (w : World) (h : SysAt w v s) (hsm : Small s) : Calls Try.prog 32 #[v] w fun e w' => ∃ v', e = .returned v' ∧ OwnSys w.heap.size w' v' s ∧ Below w.heap.size w w' := by
  obtain ⟨A0, l0, c0, A1, l1, c1, A2, l2, c2, A3, l3, c3, A4, l4, c4, A5, l5, c5, rfl, s0, s1, s2, s3, s4, s5, h0, h1, h2, h3, h4, h5⟩ := h
  obtain ⟨z0, z1, z2, z3, z4, z5, z6, z7⟩ := hsm
  obtain rfl := h0.1
  obtain rfl := h1.1
  obtain rfl := h2.1
  obtain rfl := h3.1
  obtain rfl := h4.1
  obtain rfl := h5.1
  have bb : Below w.heap.size w (((w.alloc (.cells #[.slice A0 s.th.length c0, .slice A1 s.pc.length c1, .slice A2 s.su.length c2, .slice A3 s.lo.length c3, .slice A4 s.ce.length c4, .slice A5 s.ch.length c5] 26)).alloc (.cells #[.slice none 0 0, .slice none 0 0, .slice none 0 0, .slice none 0 0, .slice none 0 0, .slice none 0 0] 26)).drew) := (((Below.refl _ _).alloc (Nat.le_refl _) _).alloc (by simp) _).drew
  have q0 := ((Box.new w 26 #[.slice A0 s.th.length c0, .slice A1 s.pc.length c1, .slice A2 s.su.length c2, .slice A3 s.lo.length c3, .slice A4 s.ce.length c4, .slice A5 s.ch.length c5]).alloc (.cells #[.slice none 0 0, .slice none 0 0, .slice none 0 0, .slice none 0 0, .slice none 0 0, .slice none 0 0] 26)).drew
  have x0 := (Box.new (w.alloc (.cells #[.slice A0 s.th.length c0, .slice A1 s.pc.length c1, .slice A2 s.su.length c2, .slice A3 s.lo.length c3, .slice A4 s.ce.length c4, .slice A5 s.ch.length c5] 26)) 26 #[.slice none 0 0, .slice none 0 0, .slice none 0 0, .slice none 0 0, .slice none 0 0, .slice none 0 0]).drew
  simp only [World.size_alloc] at x0
  have Q0 := Lib.hid q0
  have X0 := Lib.hid x0
  have HB0 := Lib.hid bb
  have H0 := Lib.hid (fun wx (hb : Below w.heap.size w wx) => copyIns_any A0 _ c0 s.th wx s0 (Thr.below h0 hb) (by omega) (fun j hj => z1 j (by omega)))
  have H1 := Lib.hid (fun wx (hb : Below w.heap.size w wx) => clone_ints A1 _ c1 (s.pc.map (Value.int .i64)) wx s1.2.2 (by simp) (ints_news h1 hb) (ints_one _) (by omega))
  have H2 := Lib.hid (fun wx (hb : Below w.heap.size w wx) => clone_ints A2 _ c2 (s.su.map (Value.int .i64)) wx s2.2.2 (by simp) (ints_news h2 hb) (ints_one _) (by omega))
  have H3 := Lib.hid (fun wx (hb : Below w.heap.size w wx) => clone_ints A3 _ c3 (s.lo.map (Value.int .i64)) wx s3.2.2 (by simp) (ints_news h3 hb) (ints_one _) (by omega))
  have H4 := Lib.hid (fun wx (hb : Below w.heap.size w wx) => clone_ints A4 _ c4 (s.ce.map (Value.int .i64)) wx s4.2.2 (by simp) (ints_news h4 hb) (ints_one _) (by omega))
  have H5 := Lib.hid (fun wx (hb : Below w.heap.size w wx) => copyInts_any A5 _ c5 s.ch wx s5 (RRow.mono (Chs.below h5 hb) fun j _ _ _ h => h.recs) (by omega) (fun j hj => z7 j (by omega)))
  clear h0 h1 h2 h3 h4 h5 s0 s1 s2 s3 s4 s5 z0 z1 z2 z3 z4 z5 z6 z7 bb q0 x0
  obtain ⟨k0, k1, k2, k3, k4, k5⟩ := Q0.out.six
  obtain ⟨m0, m1, m2, m3, m4, m5⟩ := X0.out.six
  go_enter Try.func32, Try.ntmps32
  go_wp2_with fail
  go_region_held3 (fun (w' : World) => w'.cell? ⟨w.heap.size, 0, none⟩ = some (.slice A0 s.th.length c0) ∧ w'.cell? ⟨w.heap.size, 1, none⟩ = some (.slice A1 s.pc.length c1) ∧ w'.cell? ⟨w.heap.size, 2, none⟩ = some (.slice A2 s.su.length c2) ∧ w'.cell? ⟨w.heap.size, 3, none⟩ = some (.slice A3 s.lo.length c3) ∧ w'.cell? ⟨w.heap.size, 4, none⟩ = some (.slice A4 s.ce.length c4) ∧ w'.cell? ⟨w.heap.size, 5, none⟩ = some (.slice A5 s.ch.length c5)) (go_keep) (first
    | (go_at_call 54; ((with_reducible refine (H0.out _ HB0.out).mono ?_); rintro e y0 ⟨B0, d0, rs0, rfl, o0, hb⟩; have O0 := Lib.hid o0; have HC0 := Lib.hid hb; have HB1 := Lib.hid (chain HB0.out hb); have Q1 := Lib.hid (Q0.out.keep hb); have X1 := Lib.hid (X0.out.keep hb); clear o0 hb; obtain ⟨k0, k1, k2, k3, k4, k5⟩ := Q1.out.six; obtain ⟨m0, m1, m2, m3, m4, m5⟩ := X1.out.six))
    | (go_at_call 28; ((with_reducible refine (H1.out _ HB1.out).mono ?_); rintro e y1 ⟨B1, d1, rfl, o1, hb⟩; have O1 := Lib.hid o1; have HC1 := Lib.hid hb; have HB2 := Lib.hid (chain HB1.out hb); have Q2 := Lib.hid (Q1.out.keep hb); have X2 := Lib.hid (X1.out.keep hb); clear o1 hb; obtain ⟨k0, k1, k2, k3, k4, k5⟩ := Q2.out.six; obtain ⟨m0, m1, m2, m3, m4, m5⟩ := X2.out.six))
    | (go_at_call 28; ((with_reducible refine (H2.out _ HB2.out).mono ?_); rintro e y2 ⟨B2, d2, rfl, o2, hb⟩; have O2 := Lib.hid o2; have HC2 := Lib.hid hb; have HB3 := Lib.hid (chain HB2.out hb); have Q3 := Lib.hid (Q2.out.keep hb); have X3 := Lib.hid (X2.out.keep hb); clear o2 hb; obtain ⟨k0, k1, k2, k3, k4, k5⟩ := Q3.out.six; obtain ⟨m0, m1, m2, m3, m4, m5⟩ := X3.out.six))
    | (go_at_call 28; ((with_reducible refine (H3.out _ HB3.out).mono ?_); rintro e y3 ⟨B3, d3, rfl, o3, hb⟩; have O3 := Lib.hid o3; have HC3 := Lib.hid hb; have HB4 := Lib.hid (chain HB3.out hb); have Q4 := Lib.hid (Q3.out.keep hb); have X4 := Lib.hid (X3.out.keep hb); clear o3 hb; obtain ⟨k0, k1, k2, k3, k4, k5⟩ := Q4.out.six; obtain ⟨m0, m1, m2, m3, m4, m5⟩ := X4.out.six))
    | (go_at_call 28; ((with_reducible refine (H4.out _ HB4.out).mono ?_); rintro e y4 ⟨B4, d4, rfl, o4, hb⟩; have O4 := Lib.hid o4; have HC4 := Lib.hid hb; have HB5 := Lib.hid (chain HB4.out hb); have Q5 := Lib.hid (Q4.out.keep hb); have X5 := Lib.hid (X4.out.keep hb); clear o4 hb; obtain ⟨k0, k1, k2, k3, k4, k5⟩ := Q5.out.six; obtain ⟨m0, m1, m2, m3, m4, m5⟩ := X5.out.six))
    | (go_at_call 55; ((with_reducible refine (H5.out _ HB5.out).mono ?_); rintro e y5 ⟨B5, d5, rs5, rfl, o5, hb⟩; have O5 := Lib.hid o5; have HC5 := Lib.hid hb; have HB6 := Lib.hid (chain HB5.out hb); have Q6 := Lib.hid (Q5.out.keep hb); have X6 := Lib.hid (X5.out.keep hb); clear o5 hb; obtain ⟨k0, k1, k2, k3, k4, k5⟩ := Q6.out.six; obtain ⟨m0, m1, m2, m3, m4, m5⟩ := X6.out.six; have f0 := X6.out.free 0; have f1 := X6.out.free 1; have f2 := X6.out.free 2; have f3 := X6.out.free 3; have f4 := X6.out.free 4; have f5 := X6.out.free 5)))
  all_goals
    have FIN := Lib.hid (grown_trans (grown_trans (grown_trans (grown_trans (grown_trans (grown_set y5 (w.heap.size + 1) 0 (.slice B0 s.th.length d0)) (grown_set _ (w.heap.size + 1) 1 (.slice B1 s.pc.length d1))) (grown_set _ (w.heap.size + 1) 2 (.slice B2 s.su.length d2))) (grown_set _ (w.heap.size + 1) 3 (.slice B3 s.lo.length d3))) (grown_set _ (w.heap.size + 1) 4 (.slice B4 s.ce.length d4))) (grown_set _ (w.heap.size + 1) 5 (.slice B5 s.ch.length d5)))
    have XF := Lib.hid (((((((X6.out.put 0 (.slice B0 s.th.length d0)).put 1 (.slice B1 s.pc.length d1)).put 2 (.slice B2 s.su.length d2)).put 3 (.slice B3 s.lo.length d3)).put 4 (.slice B4 s.ce.length d4)).put 5 (.slice B5 s.ch.length d5)))
    have sz := HC0.out.size
    have e2 : ((w.alloc (.cells #[.slice A0 s.th.length c0, .slice A1 s.pc.length c1, .slice A2 s.su.length c2, .slice A3 s.lo.length c3, .slice A4 s.ce.length c4, .slice A5 s.ch.length c5] 26)).alloc (.cells #[.slice none 0 0, .slice none 0 0, .slice none 0 0, .slice none 0 0, .slice none 0 0, .slice none 0 0] 26)).drew.heap.size = w.heap.size + 2 := by show ((w.alloc _).alloc _).heap.size = _; simp
    rw [e2] at sz
    have b1 := HC1.out.size
    have b2 := HC2.out.size
    have b3 := HC3.out.size
    have b4 := HC4.out.size
    have O0' := O0.out
    rw [e2] at O0'
    have a1 := own_keepB O1.out HC2.out
    have a2 := own_keepB a1 HC3.out
    have a3 := own_keepB a2 HC4.out
    have a4 := own_keepB a3 HC5.out
    have p2 := own_keepB O2.out HC3.out
    have p3 := own_keepB p2 HC4.out
    have p4 := own_keepB p3 HC5.out
    have u3 := own_keepB O3.out HC4.out
    have u4 := own_keepB u3 HC5.out
    have g4 := own_keepB O4.out HC5.out
    have OS := Lib.hid (show OwnSys (w.heap.size + 2) y5 (.agg #[.slice B0 s.th.length d0, .slice B1 s.pc.length d1, .slice B2 s.su.length d2, .slice B3 s.lo.length d3, .slice B4 s.ce.length d4, .slice B5 s.ch.length d5]) s from
      ⟨B0, d0, B1, d1, B2, d2, B3, d3, B4, d4, B5, d5, rs0, rs5, rfl, ((((O0'.keepB HC1.out).keepB HC2.out).keepB HC3.out).keepB HC4.out).keepB HC5.out, own_low a4 sz, own_low p4 (by omega), own_low u4 (by omega), own_low g4 (by omega), O5.out.low (by omega),
        ⟨nosh_new O1.out O2.out (Nat.le_refl _), nosh_new a1 O3.out (Nat.le_refl _), nosh_new a2 O4.out (Nat.le_refl _), nosh_new O2.out O3.out (Nat.le_refl _), nosh_new p2 O4.out (Nat.le_refl _), nosh_new O3.out O4.out (Nat.le_refl _),
          fun j hj => nosh_new a3 (O5.out.2.2.1 j hj).2 (Nat.le_refl _), fun j hj => nosh_new p3 (O5.out.2.2.1 j hj).2 (Nat.le_refl _), fun j hj => nosh_new u3 (O5.out.2.2.1 j hj).2 (Nat.le_refl _), fun j hj => nosh_new O4.out (O5.out.2.2.1 j hj).2 (Nat.le_refl _)⟩⟩)
    have OF := Lib.hid ((OS.out.grown FIN.out (by omega)).low (show w.heap.size ≤ w.heap.size + 2 by omega))
    have BF := Lib.hid (HB6.out.grown FIN.out HB6.out.size (fun k hk => by injection hk with hk; omega))
    go_wp2_with fail
    clear a1 a2 a3 a4 p2 p3 p4 u3 u4 g4 O0' e2 sz b1 b2 b3 b4 FIN OS k0 k1 k2 k3 k4 k5 m0 m1 m2 m3 m4 m5 f0 f1 f2 f3 f4 f5
    generalize (((((y5.setCell ⟨w.heap.size + 1, 0, none⟩ (.slice B0 s.th.length d0)).setCell ⟨w.heap.size + 1, 1, none⟩ (.slice B1 s.pc.length d1)).setCell ⟨w.heap.size + 1, 2, none⟩ (.slice B2 s.su.length d2)).setCell ⟨w.heap.size + 1, 3, none⟩ (.slice B3 s.lo.length d3)).setCell ⟨w.heap.size + 1, 4, none⟩ (.slice B4 s.ce.length d4)).setCell ⟨w.heap.size + 1, 5, none⟩ (.slice B5 s.ch.length d5) = wF at *
    exact close_one Try.results32 rfl rfl (show Box wF (w.heap.size + 1) 26 #[.slice B0 s.th.length d0, .slice B1 s.pc.length d1, .slice B2 s.su.length d2, .slice B3 s.lo.length d3, .slice B4 s.ce.length d4, .slice B5 s.ch.length d5] from XF.out) Try.underlying26 rfl (by kernel_rfl) ⟨_, rfl, OF.out, BF.out⟩
end Go.Proofs.Ytcamoigcfiemhaa
