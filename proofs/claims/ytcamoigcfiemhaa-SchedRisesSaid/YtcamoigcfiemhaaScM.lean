/- Layer 20: picks; Run. -/
import Derived.Test.YtcamoigcfiemhaaScL
namespace Go.Proofs.Ytcamoigcfiemhaa
set_option linter.unusedVariables false
set_option linter.unusedSimpArgs false
open Go.RowKit Go.Lib
set_option maxRecDepth 100000
/-- A number's place among n: modulo n, 0 or more. -/
def pmod (p : Int) (n : Nat) : Nat := ((p.tmod n + n) % n).toNat
theorem pmod_lt (p : Int) {n : Nat} (h : 0 < n) : pmod p n < n := by
  unfold pmod
  have := Int.emod_lt_of_pos (p.tmod n + n) (show (0 : Int) < n by omega)
  have := Int.emod_nonneg (p.tmod n + n) (show (n : Int) ≠ 0 by omega)
  omega
theorem pmod_cast (p : Int) {n : Nat} (h : 0 < n) : ((pmod p n : Nat) : Int) = (p.tmod n + n) % n := by
  unfold pmod
  exact Int.toNat_of_nonneg (Int.emod_nonneg _ (by omega))
def pickT (s : Sys) (p : Int) : Nat := (enN s s.th.length).getD (pmod p (enN s s.th.length).length) 0
def pickP (st : Sys × List Int) (p : Int) : Sys × List Int := if enN st.1 st.1.th.length = [] then st else (stepS st.1 (pickT st.1 p), st.2 ++ [(pickT st.1 p : Int)])
def runS (s : Sys) (ps : List Int) : Sys × List Int := ps.foldl pickP (s, [])
theorem step_th (s : Sys) (t : Nat) : (stepS s t).th = s.th := by
  unfold stepS doI
  split
  · rfl
  · split
    · split <;> rfl
    · split
      · rfl
      · split <;> rfl
theorem mem_enN {s : Sys} {k t : Nat} (h : t ∈ enN s k) : t < k ∧ canS s t = true := by simpa [enN] using h
theorem pickT_mem {s : Sys} (p : Int) (h : enN s s.th.length ≠ []) : pickT s p ∈ enN s s.th.length := by
  have hp : 0 < (enN s s.th.length).length := List.length_pos_iff.2 h
  have hl := pmod_lt p hp
  have e : pickT s p = (enN s s.th.length)[pmod p (enN s s.th.length).length] := by unfold pickT; simp [List.getD, hl]
  rw [e]; exact List.getElem_mem _
theorem pickP_wr {k : Nat} {st : Sys × List Int} (h : WR k st.1) (p : Int) : WR (k + 1) (pickP st p).1 := by
  unfold pickP
  split
  · exact h.up
  · next hn =>
    obtain ⟨h1, h2⟩ := mem_enN (pickT_mem p hn)
    exact h.step h1 h2
theorem fold_wr {k : Nat} {st : Sys × List Int} (h : WR k st.1) : ∀ ps : List Int, WR (k + ps.length) (ps.foldl pickP st).1
  | [] => h
  | p :: ps => by
    have := fold_wr (pickP_wr h p) ps
    rwa [show k + 1 + ps.length = k + (p :: ps).length by simp; omega] at this
theorem run_wr {s : Sys} (h : WR 0 s) (ps : List Int) : WR ps.length (runS s ps).1 := by
  have := fold_wr (st := (s, [])) h ps
  rwa [Nat.zero_add] at this
theorem pickP_stuck {st : Sys × List Int} (h : enN st.1 st.1.th.length = []) : ∀ ps : List Int, ps.foldl pickP st = st
  | [] => rfl
  | p :: ps => by
    rw [List.foldl_cons, show pickP st p = st by unfold pickP; rw [if_pos h]]
    exact pickP_stuck h ps
theorem run_snoc (s : Sys) (ps : List Int) (k : Nat) (h : k < ps.length) : runS s (ps.take (k + 1)) = pickP (runS s (ps.take k)) (ps.getD k 0) := by
  have hd : (default : Int) = 0 := rfl
  unfold runS
  rw [take_snocD ps k h, hd, List.foldl_append]; rfl
theorem run_stuck (s : Sys) (ps : List Int) (k : Nat) (h : enN (runS s (ps.take k)).1 (runS s (ps.take k)).1.th.length = []) : runS s ps = runS s (ps.take k) := by
  have e : runS s ps = (ps.drop k).foldl pickP (runS s (ps.take k)) := by
    unfold runS
    rw [← List.foldl_append, List.take_append_drop]
  rw [e]; exact pickP_stuck h _
theorem pickP_len (st : Sys × List Int) (p : Int) : (pickP st p).2.length ≤ st.2.length + 1 := by
  unfold pickP; split <;> simp
theorem fold_len : ∀ (ps : List Int) (st : Sys × List Int), (ps.foldl pickP st).2.length ≤ st.2.length + ps.length
  | [], st => by simp
  | p :: ps, st => by
    have h1 := fold_len ps (pickP st p)
    have h2 := pickP_len st p
    simp only [List.foldl_cons, List.length_cons]; omega
theorem run_len (s : Sys) (ps : List Int) : (runS s ps).2.length ≤ ps.length := by
  have := fold_len ps (s, [])
  simpa [runS] using this
theorem fold_th : ∀ (ps : List Int) (st : Sys × List Int), (ps.foldl pickP st).1.th = st.1.th
  | [], _ => rfl
  | p :: ps, st => by
    rw [List.foldl_cons, fold_th ps]
    unfold pickP; split
    · rfl
    · exact step_th _ _
theorem run_th (s : Sys) (ps : List Int) : (runS s ps).1.th = s.th := fold_th ps (s, [])
theorem enL_nil {s : Sys} {k : Nat} : enL s k = [] ↔ enN s k = [] := by simp [enL]
theorem enL_at (s : Sys) (k j : Nat) (h : j < (enN s k).length) : (enL s k).getD j 0 = (((enN s k).getD j 0 : Nat) : Int) := by simp [enL, List.getD, h]
theorem enL_length (s : Sys) (k : Nat) : (enL s k).length = (enN s k).length := by simp [enL]
set_option maxHeartbeats 2000000 in
theorem modulo_any (p : Int) (n : Nat) (hn : 0 < n) (h8 : n ≤ 1000) (w : World) : Calls Try.prog 51 #[.int .i64 p, .int .i64 (n : Int)] w fun e w' => e = .returned (.int .i64 ((pmod p n : Nat) : Int)) ∧ w' = w := by
  have HE := Lib.hid (pmod_cast p hn)
  have k0 : (0 : Int) < (n : Int) := by omega
  have k1 : ¬ (n : Int) = 0 := by omega
  have g1 : -(n : Int) < p.tmod n := Int.lt_tmod_of_pos p k0
  have g2 : p.tmod n < (n : Int) := Int.tmod_lt_of_pos p k0
  have k2 : (n : Int) ≤ 1000 := by omega
  go_enter Try.func51, Try.ntmps51
  go_wp2_with fail
  go_ret
  rw [HE.out]
  exact ⟨rfl, rfl⟩
theorem OwnM.grownW {N : Nat → Prop} {w w' : World} {v vw : Value} {s : Sys} {b n : Nat} {xs : List Value} (h : OwnM N w v s) (ho : w.ownsRow b 3 1 vw n xs) (hn : ∀ g, vw.ownBlock = some g → ¬ N g) (hg : w.grownBy w' vw.ownBlock) : OwnM N w' v s := by
  obtain ⟨A0, c0, A1, c1, A2, c2, A3, c3, A4, c4, A5, c5, rs0, rs5, rfl, p⟩ := h
  have kp : ∀ {e size m : Nat} {v : Value} {ys : List Value}, w.ownsRow 0 e size v m ys → (∀ g, v.ownBlock = some g → vw.ownBlock ≠ some g) → w'.ownsRow 0 e size v m ys := fun hv hs => World.ownsRow.kept hv hg (by
    rcases Classical.em ((_ : Value).ownBlock = none) with h0 | h0
    · exact .inl h0
    · refine .inr fun e => ?_
      obtain ⟨g, hg'⟩ := Option.ne_none_iff_exists'.1 h0
      exact hs g hg' (e ▸ hg'))
  have im : ∀ {v : Value}, InM N v → ∀ g, v.ownBlock = some g → vw.ownBlock ≠ some g := fun hm g h1 h2 => hn g h2 (hm g h1)
  exact ⟨A0, c0, A1, c1, A2, c2, A3, c3, A4, c4, A5, c5, rs0, rs5, rfl, ⟨⟨p.th.1, kp p.th.2.1 (nosh_types p.th.2.1 ho (by decide)), fun j hj => ⟨(p.th.2.2.1 j hj).1, kp (p.th.2.2.1 j hj).2 (nosh_types (p.th.2.2.1 j hj).2 ho (by decide))⟩, p.th.2.2.2⟩, kp p.pc (im p.m1), kp p.su (im p.m2), kp p.lo (im p.m3), kp p.ce (im p.m4), ⟨p.ch.1, kp p.ch.2.1 (im p.m5), fun j hj => ⟨(p.ch.2.2.1 j hj).1, kp (p.ch.2.2.1 j hj).2 (im (p.mr j hj))⟩, p.ch.2.2.2⟩, p.ap, p.m1, p.m2, p.m3, p.m4, p.m5, p.mr⟩⟩
theorem results_cell3 {P : Program} {fn : Func} {a : Act} {W : World} {p q r : Tmp} {T : TypeId} {g : Nat} {cs : Array Value} {d : TypeDesc} {v u : Value} {R : Ending → World → Prop} (hr : fn.results = #[.cell p T, .tmp q, .tmp r])
    (hp : a.tmps.getD p undef = .pointer (some ⟨g, 0, none⟩)) (hq : a.tmps.getD q undef = v) (hq2 : a.tmps.getD r undef = u) (hd : a.defers = []) (hbox : Box W g T cs) (hu : P.underlying T = some d)
    (hk : (match d with | .struct _ | .array _ _ => true | _ => false) = true) (hi : (P.info? T).map (·.size) = some cs.size)
    (hR : R (.returned (.tuple #[.agg cs, v, u])) W) : bodyPost P fn R .ret a W := by
  subst hq hq2
  refine bodyPost_ret ?_ hd hR
  have hp' : a.tmps[p]?.getD undef = .pointer (some ⟨g, 0, none⟩) := by simpa using hp
  simp [results, hr, hp', asAddr, run_loadVar_row W g T T cs (0, 0) d hbox hu hk hi]
/-- No system. -/
def sys0 : Sys := ⟨[], [], [], [], [], []⟩
abbrev zeroV : Value := .agg #[.slice none 0 0, .slice none 0 0, .slice none 0 0, .slice none 0 0, .slice none 0 0, .slice none 0 0]
theorem zeroV_at (w : World) : SysAt w zeroV sys0 :=
  have z : SliceOk none 0 0 := ⟨Nat.le_refl _, Nat.zero_le _, fun _ => ⟨rfl, rfl⟩⟩
  ⟨none, 0, 0, none, 0, 0, none, 0, 0, none, 0, 0, none, 0, 0, none, 0, 0, rfl, z, z, z, z, z, z, RRow.nil _ _, Ints.nil _ _, Ints.nil _ _, Ints.nil _ _, Ints.nil _ _, RRow.nil _ _⟩
/-- What Run hands back. -/
def runRes (s : Sys) (ps : List Int) : Int × Sys × List Int := if rightS s = true then (0, (runS s ps).1, (runS s ps).2) else (1, sys0, [])
def RunOut (s : Sys) (ps : List Int) (w : World) (e : Ending) (w' : World) : Prop :=
  ∃ v' A c, e = .returned (.tuple #[v', .slice A (runRes s ps).2.2.length c, .int .i64 (runRes s ps).1]) ∧ SysAt w' v' (runRes s ps).2.1 ∧ Ints w' A (runRes s ps).2.2.length (runRes s ps).2.2 ∧ SliceOk A (runRes s ps).2.2.length c ∧ Below w.heap.size w w'
theorem small_of {k : Nat} {s : Sys} (h : WR k s) : Small s := by
  refine ⟨by have := h.n8; omega, fun j hj => by have := (h.row j hj).1; omega, by have := h.n8; have := h.pcl; omega, by have := h.n8; have := h.sul; omega, by have := h.lol; omega, by have := h.cel; omega, by have := h.chl; omega, fun j _ => by have := (h.chb j).1; omega⟩
theorem in64_lt {l : List Int} (h : ∀ x ∈ l, -9223372036854775808 ≤ x ∧ x ≤ 9223372036854775807) : In64 l := fun j => by
  by_cases hj : j < l.length
  · have := h _ (List.getElem_mem hj)
    simpa [List.getD, hj] using this
  · have : l[j]? = none := List.getElem?_eq_none (by omega)
    simp [List.getD, this]
theorem went_small (s : Sys) (ps : List Int) : s.th.length ≤ 8 → In64 (runS s ps).2 := by
  intro h8
  refine in64_lt fun x hx => ?_
  have key : ∀ (ps : List Int) (st : Sys × List Int), st.1.th.length ≤ 8 → (∀ x ∈ st.2, 0 ≤ x ∧ x < 8) → ∀ x ∈ (ps.foldl pickP st).2, 0 ≤ x ∧ x < 8 := by
    intro ps
    induction ps with
    | nil => exact fun st _ h => h
    | cons p ps ih =>
      intro st h8 h
      rw [List.foldl_cons]
      refine ih _ ?_ ?_
      · unfold pickP; split
        · exact h8
        · show (stepS st.1 _).th.length ≤ 8; rw [step_th]; exact h8
      · unfold pickP; split
        · exact h
        · next hn =>
          intro x hx
          rcases List.mem_append.1 hx with hx | hx
          · exact h x hx
          · have := (mem_enN (pickT_mem p hn)).1
            simp at hx; omega
  have := key ps (s, []) h8 (fun x hx => by cases hx) x hx
  omega
/-- Six cells of a block stored one after the other. -/
abbrev set6L (w : World) (g : Nat) (v0 v1 v2 v3 v4 v5 : Value) : World := (((((w.setCell ⟨g, 0, none⟩ v0).setCell ⟨g, 1, none⟩ v1).setCell ⟨g, 2, none⟩ v2).setCell ⟨g, 3, none⟩ v3).setCell ⟨g, 4, none⟩ v4).setCell ⟨g, 5, none⟩ v5
theorem set6_grown (w : World) (g : Nat) (v0 v1 v2 v3 v4 v5 : Value) : w.grownBy (set6L w g v0 v1 v2 v3 v4 v5) (some g) :=
  grown_trans (grown_trans (grown_trans (grown_trans (grown_trans (grown_set w g 0 v0) (grown_set _ g 1 v1)) (grown_set _ g 2 v2)) (grown_set _ g 3 v3)) (grown_set _ g 4 v4)) (grown_set _ g 5 v5)
theorem OwnM.box_gr {M : Nat → Prop} {w w' : World} {v : Value} {s : Sys} {g : Nat} {cs : Array Value} (h : OwnM M w v s) (hb : Box w g 26 cs) (hg : w.grownBy w' (some g)) : OwnM M w' v s := by
  obtain ⟨A0, c0, A1, c1, A2, c2, A3, c3, A4, c4, A5, c5, rs0, rs5, rfl, p⟩ := h
  exact ⟨A0, c0, A1, c1, A2, c2, A3, c3, A4, c4, A5, c5, rs0, rs5, rfl, ⟨p.th.gr hg (own_ne p.th.2.1 hb (by decide)) fun j hj => own_ne (p.th.2.2.1 j hj).2 hb (by decide), World.ownsRow.kept p.pc hg (.inr (own_ne p.pc hb (by decide))), World.ownsRow.kept p.su hg (.inr (own_ne p.su hb (by decide))), World.ownsRow.kept p.lo hg (.inr (own_ne p.lo hb (by decide))), World.ownsRow.kept p.ce hg (.inr (own_ne p.ce hb (by decide))), p.ch.gr hg (own_ne p.ch.2.1 hb (by decide)) fun j hj => own_ne (p.ch.2.2.1 j hj).2 hb (by decide), p.ap, p.m1, p.m2, p.m3, p.m4, p.m5, p.mr⟩⟩
set_option maxHeartbeats 16000000 in
theorem run_any (v : Value) (s : Sys) (w : World) (h : SysAt w v s) (A : Option Addr) (l cp : Nat) (ps : List Int) (hp : Ints w A l ps) (hl : l ≤ 500) : Calls Try.prog 25 #[v, .slice A l cp] w (RunOut s ps w) := by
  have HR := Lib.hid (fun w' (hb : Below w.heap.size w w') => right20_any v s w' (h.below hb))
  have HCp := Lib.hid (fun w' (hb : Below w.heap.size w w') hs => copied_any v s w' (h.below hb) hs)
  have HPs := Lib.hid hp
  have HPl := Lib.hid hp.1
  clear hp
  obtain ⟨A0, l0, c0, A1, l1, c1, A2, l2, c2, A3, l3, c3, A4, l4, c4, A5, l5, c5, rfl, s0, s1, s2, s3, s4, s5, h0, h1, h2, h3, h4, h5⟩ := h
  clear h0 h1 h2 h3 h4 h5 s0 s1 s2 s3 s4 s5
  have hb2 : Below w.heap.size w ((w.alloc (.cells #[.slice A0 l0 c0, .slice A1 l1 c1, .slice A2 l2 c2, .slice A3 l3 c3, .slice A4 l4 c4, .slice A5 l5 c5] 26)).alloc (.cells #[.slice none 0 0, .slice none 0 0, .slice none 0 0, .slice none 0 0, .slice none 0 0, .slice none 0 0] 26)) := ((Below.refl w.heap.size w).alloc (Nat.le_refl _) _).alloc (by simp) _
  have q1 := Box.new (w.alloc (.cells #[.slice A0 l0 c0, .slice A1 l1 c1, .slice A2 l2 c2, .slice A3 l3 c3, .slice A4 l4 c4, .slice A5 l5 c5] 26)) 26 #[.slice none 0 0, .slice none 0 0, .slice none 0 0, .slice none 0 0, .slice none 0 0, .slice none 0 0]
  simp only [World.size_alloc] at q1
  have Q0 := Lib.hid ((Box.new w 26 #[.slice A0 l0 c0, .slice A1 l1 c1, .slice A2 l2 c2, .slice A3 l3 c3, .slice A4 l4 c4, .slice A5 l5 c5]).alloc (.cells #[.slice none 0 0, .slice none 0 0, .slice none 0 0, .slice none 0 0, .slice none 0 0, .slice none 0 0] 26))
  have Q1 := Lib.hid q1
  have W2 := Lib.hid hb2
  clear q1 hb2
  obtain ⟨r0, r1, r2, r3, r4, r5⟩ := Q0.out.six
  obtain ⟨m0, m1, m2, m3, m4, m5⟩ := Q1.out.six
  have f0 := Q1.out.free 0
  have f1 := Q1.out.free 1
  have f2 := Q1.out.free 2
  have f3 := Q1.out.free 3
  have f4 := Q1.out.free 4
  have f5 := Q1.out.free 5
  cases hr : rightS s with
  | false =>
    rw [hr] at HR
    have HE := Lib.hid (show runRes s ps = (1, sys0, []) by simp [runRes, hr])
    clear hr HCp
    go_enter Try.func25, Try.ntmps25
    go_wp2_with fail
    refine (HR.out _ W2.out).mono ?_
    rintro e w1 ⟨rfl, hb⟩
    have HB1 := Lib.hid (chain W2.out hb)
    have X1 := Lib.hid (Q1.out.keep hb)
    clear hb r0 r1 r2 r3 r4 r5 m0 m1 m2 m3 m4 m5 f0 f1 f2 f3 f4 f5
    obtain ⟨m0, m1, m2, m3, m4, m5⟩ := X1.out.six
    have f0 := X1.out.free 0
    have f1 := X1.out.free 1
    have f2 := X1.out.free 2
    have f3 := X1.out.free 3
    have f4 := X1.out.free 4
    have f5 := X1.out.free 5
    have XF := Lib.hid (((((((X1.out.put 0 (.slice none 0 0)).put 1 (.slice none 0 0)).put 2 (.slice none 0 0)).put 3 (.slice none 0 0)).put 4 (.slice none 0 0)).put 5 (.slice none 0 0)))
    have BF := Lib.hid (((((((HB1.out.setCell (p := ⟨w.heap.size + 1, 0, none⟩) (Nat.le_succ _) (.slice none 0 0)).setCell (p := ⟨w.heap.size + 1, 1, none⟩) (Nat.le_succ _) (.slice none 0 0)).setCell (p := ⟨w.heap.size + 1, 2, none⟩) (Nat.le_succ _) (.slice none 0 0)).setCell (p := ⟨w.heap.size + 1, 3, none⟩) (Nat.le_succ _) (.slice none 0 0)).setCell (p := ⟨w.heap.size + 1, 4, none⟩) (Nat.le_succ _) (.slice none 0 0)).setCell (p := ⟨w.heap.size + 1, 5, none⟩) (Nat.le_succ _) (.slice none 0 0)))
    go_wp2_with fail
    exact results_cell3 Try.results25 rfl rfl rfl rfl XF.out Try.underlying26 rfl (by kernel_rfl) ⟨zeroV, none, 0, by rw [HE.out]; rfl, by rw [HE.out]; exact zeroV_at _, by rw [HE.out]; exact Ints.nil _ _, by rw [HE.out]; exact ⟨Nat.le_refl _, Nat.zero_le _, fun _ => ⟨rfl, rfl⟩⟩, BF.out⟩
  | true =>
    have HE0 := Lib.hid (show ∀ st, runS s ps = st → runRes s ps = (0, st.1, st.2) from fun st h => by rw [runRes, if_pos hr, h])
    rw [hr] at HR
    have HW0 := Lib.hid (WR.of hr)
    have HSm := Lib.hid (small_of (WR.of hr))
    clear hr
    have h8 := HW0.out.n8
    obtain ⟨i0, hi, hz0, hz1, hz2⟩ := info_parts int_infoS
    have HI := Lib.hid hi
    have HZ0 := Lib.hid hz0
    have HZ1 := Lib.hid hz1
    have HZ2 := Lib.hid hz2
    clear hi hz0 hz1 hz2 f0 f1 f2 f3 f4 f5
    go_enter Try.func25, Try.ntmps25
    go_wp2_with fail
    refine (HR.out _ W2.out).mono ?_
    rintro e w1 ⟨rfl, hb⟩
    have HB1 := Lib.hid (chain W2.out hb)
    have X1 := Lib.hid (Q1.out.keep hb)
    have Y1 := Lib.hid (Q0.out.keep hb)
    have hsz : w.heap.size + 1 < w1.heap.size := X1.out.lt
    clear hb r0 r1 r2 r3 r4 r5 m0 m1 m2 m3 m4 m5
    obtain ⟨r0, r1, r2, r3, r4, r5⟩ := Y1.out.six
    go_wp2_with fail
    refine (HCp.out _ HB1.out HSm.out).mono ?_
    rintro e w2 ⟨v', rfl, hos, hb⟩
    obtain ⟨M0, hM0, hMs⟩ : ∃ M : Nat → Prop, OwnM M w2 v' s ∧ ∀ g, M g → w1.heap.size ≤ g ∧ g < w2.heap.size := ⟨_, hos.toM, fun g h => h⟩
    obtain ⟨B0, d0, B1, d1, B2, d2, B3, d3, B4, d4, B5, d5, rs0, rs5, rfl, hparts⟩ := hM0
    have OW2 := Lib.hid (show OwnM M0 w2 (.agg #[.slice B0 s.th.length d0, .slice B1 s.pc.length d1, .slice B2 s.su.length d2, .slice B3 s.lo.length d3, .slice B4 s.ce.length d4, .slice B5 s.ch.length d5]) s from ⟨B0, d0, B1, d1, B2, d2, B3, d3, B4, d4, B5, d5, rs0, rs5, rfl, hparts⟩)
    have HB2 := Lib.hid (chain HB1.out hb)
    have X2 := Lib.hid (X1.out.keep hb)
    have Y2 := Lib.hid (Y1.out.keep hb)
    have HMs := Lib.hid hMs
    have HL2 := Lib.hid hb.size
    clear hb hos hparts hMs r0 r1 r2 r3 r4 r5 HCp HR rs0 rs5
    obtain ⟨r0, r1, r2, r3, r4, r5⟩ := Y2.out.six
    have f0 := Y2.out.free 0
    have f1 := Y2.out.free 1
    have f2 := Y2.out.free 2
    have f3 := Y2.out.free 3
    have f4 := Y2.out.free 4
    have f5 := Y2.out.free 5
    have OW3 := Lib.hid (OwnM.box_gr OW2.out Y2.out (set6_grown _ _ (.slice B0 s.th.length d0) (.slice B1 s.pc.length d1) (.slice B2 s.su.length d2) (.slice B3 s.lo.length d3) (.slice B4 s.ce.length d4) (.slice B5 s.ch.length d5)))
    have Y3 := Lib.hid (((((((Y2.out.put 0 (.slice B0 s.th.length d0)).put 1 (.slice B1 s.pc.length d1)).put 2 (.slice B2 s.su.length d2)).put 3 (.slice B3 s.lo.length d3)).put 4 (.slice B4 s.ce.length d4)).put 5 (.slice B5 s.ch.length d5)))
    have X3 := Lib.hid (Box.grown X2.out (set6_grown w2 w.heap.size (.slice B0 s.th.length d0) (.slice B1 s.pc.length d1) (.slice B2 s.su.length d2) (.slice B3 s.lo.length d3) (.slice B4 s.ce.length d4) (.slice B5 s.ch.length d5)) (fun e => by injection e with e; omega))
    have HB3 := Lib.hid (((((((HB2.out.setCell (p := ⟨w.heap.size, 0, none⟩) (Nat.le_refl _) (.slice B0 s.th.length d0)).setCell (p := ⟨w.heap.size, 1, none⟩) (Nat.le_refl _) (.slice B1 s.pc.length d1)).setCell (p := ⟨w.heap.size, 2, none⟩) (Nat.le_refl _) (.slice B2 s.su.length d2)).setCell (p := ⟨w.heap.size, 3, none⟩) (Nat.le_refl _) (.slice B3 s.lo.length d3)).setCell (p := ⟨w.heap.size, 4, none⟩) (Nat.le_refl _) (.slice B4 s.ce.length d4)).setCell (p := ⟨w.heap.size, 5, none⟩) (Nat.le_refl _) (.slice B5 s.ch.length d5)))
    have hs3 : (((((((w2.setCell ⟨w.heap.size, 0, none⟩ (.slice B0 s.th.length d0)).setCell ⟨w.heap.size, 1, none⟩ (.slice B1 s.pc.length d1)).setCell ⟨w.heap.size, 2, none⟩ (.slice B2 s.su.length d2)).setCell ⟨w.heap.size, 3, none⟩ (.slice B3 s.lo.length d3)).setCell ⟨w.heap.size, 4, none⟩ (.slice B4 s.ce.length d4)).setCell ⟨w.heap.size, 5, none⟩ (.slice B5 s.ch.length d5))).heap.size = w2.heap.size := by simp [World.setCell]
    have HS3 := Lib.hid hs3
    go_upto_region 4 with (fail)
    clear r0 r1 r2 r3 r4 r5 f0 f1 f2 f3 f4 f5 OW2 Y2 X2 HB2 hs3
    obtain ⟨w3, hw3⟩ : ∃ w3, w3 = ((((((w2.setCell ⟨w.heap.size, 0, none⟩ (.slice B0 s.th.length d0)).setCell ⟨w.heap.size, 1, none⟩ (.slice B1 s.pc.length d1)).setCell ⟨w.heap.size, 2, none⟩ (.slice B2 s.su.length d2)).setCell ⟨w.heap.size, 3, none⟩ (.slice B3 s.lo.length d3)).setCell ⟨w.heap.size, 4, none⟩ (.slice B4 s.ce.length d4)).setCell ⟨w.heap.size, 5, none⟩ (.slice B5 s.ch.length d5)) := ⟨_, rfl⟩
    simp only [set6L] at OW3 X3
    rw [← hw3] at OW3 Y3 X3 HB3 HS3 ⊢
    clear hw3
    go_wp2_with fail
    go_loopw [7, 20] (fun vw t wr => ∃ (k : Nat) (M : Nat → Prop), k ≤ l ∧ t = .int .i64 (k : Int) ∧ Hid (OwnM M wr (.agg #[.slice B0 s.th.length d0, .slice B1 s.pc.length d1, .slice B2 s.su.length d2, .slice B3 s.lo.length d3, .slice B4 s.ce.length d4, .slice B5 s.ch.length d5]) (runS s (ps.take k)).1) ∧ Hid (∀ g, M g → w1.heap.size ≤ g ∧ g < wr.heap.size) ∧ Hid (wr.ownsRow w1.heap.size 3 1 vw (runS s (ps.take k)).2.length ((runS s (ps.take k)).2.map (Value.int .i64))) ∧ Hid (∀ g, vw.ownBlock = some g → ¬ M g) ∧ Hid (Box wr w.heap.size 26 #[.slice B0 s.th.length d0, .slice B1 s.pc.length d1, .slice B2 s.su.length d2, .slice B3 s.lo.length d3, .slice B4 s.ce.length d4, .slice B5 s.ch.length d5]) ∧ Hid (Box wr (w.heap.size + 1) 26 #[.slice none 0 0, .slice none 0 0, .slice none 0 0, .slice none 0 0, .slice none 0 0, .slice none 0 0]) ∧ Hid (w1.heap.size ≤ wr.heap.size) ∧ Hid (Below w.heap.size w wr)) (fun _ t _ => l - (Go.RowKit.intOf t).toNat)
    case atStart => exact ⟨0, M0, Nat.zero_le _, rfl, OW3, Lib.hid (fun g h => by rw [HS3.out]; exact HMs.out g h), Lib.hid (World.ownsRow_nil _ _ _ _), Lib.hid (fun g h => by simp [Value.ownBlock] at h), Y3, X3, Lib.hid (by rw [HS3.out]; exact HL2.out), HB3⟩
    case round =>
      obtain ⟨k, M, hk, rfl, OW, HM, WN, HN, Q, X, HLw, HB⟩ := hrel
      clear OW3 Y3 X3 HB3 HS3 HMs HB1 X1 Y1 Q0 Q1 W2 M0
      have hkl : (ps.take k).length = k := by rw [List.length_take, HPl.out]; omega
      have hwk := run_wr HW0.out (ps.take k)
      rw [hkl] at hwk
      have HWk := Lib.hid hwk
      have HNm := Lib.hid (hwk.nums (by omega))
      have HWs := Lib.hid (went_small s (ps.take k) h8)
      have HWl := run_len s (ps.take k)
      rw [hkl] at HWl
      have HSn := Lib.hid (fun h => run_snoc s ps k (by rw [HPl.out]; exact h))
      have HSt := Lib.hid (run_stuck s ps k)
      have HFl := Lib.hid (fun (h : k = l) => show runS s ps = runS s (ps.take k) by rw [List.take_of_length_le (by rw [HPl.out]; omega)])
      have HTh := Lib.hid (run_th s (ps.take k))
      obtain ⟨st, hst⟩ : ∃ st, st = runS s (ps.take k) := ⟨_, rfl⟩
      simp only [← hst] at OW WN HWk HNm HWs HWl HSn HSt HFl HTh
      clear hst hwk hkl
      obtain ⟨c, ws⟩ := st
      have OW : Hid (OwnM M wr (.agg #[.slice B0 s.th.length d0, .slice B1 s.pc.length d1, .slice B2 s.su.length d2, .slice B3 s.lo.length d3, .slice B4 s.ce.length d4, .slice B5 s.ch.length d5]) c) := OW
      have WN : Hid (wr.ownsRow w1.heap.size 3 1 _ ws.length (ws.map (Value.int .i64))) := WN
      obtain ⟨AW, cW, hvw, -⟩ := own_form WN.out
      subst hvw
      by_cases hlt : k < l
      · have hlt' : (k : Int) < (l : Int) := by omega
        obtain ⟨bp, op, rfl, hbp, hcp⟩ := (HPs.out.below HB.out).2.2 (by omega)
        have c0 := hcp k hlt
        obtain ⟨p, hpe⟩ : ∃ p, p = ps.getD k 0 := ⟨_, rfl⟩
        rw [← hpe] at c0 HSn
        clear hcp hpe
        have HEn := Lib.hid (enabled_any _ c wr (OW.out.sys.at HNm.out) k HWk.out)
        obtain ⟨r0, r1, r2, r3, r4, r5⟩ := Q.out.six
        go_wp2_with fail
        refine HEn.out.mono ?_
        rintro e w4 ⟨A9, c9, rfl, ho9, hb⟩
        have O9 := Lib.hid ho9
        have OW4 := Lib.hid (OW.out.keepB hb)
        have HM4 := Lib.hid (show ∀ g, M g → w1.heap.size ≤ g ∧ g < w4.heap.size from fun g h => ⟨(HM.out g h).1, Nat.lt_of_lt_of_le (HM.out g h).2 hb.size⟩)
        have WN4 := Lib.hid (own_keepB WN.out hb)
        have Q4 := Lib.hid (Q.out.keep hb)
        have X4 := Lib.hid (X.out.keep hb)
        have HB4 := Lib.hid (chain HB.out hb)
        have HL14 := Lib.hid (Nat.le_trans HLw.out hb.size)
        have h9 := enL_length c c.th.length
        have hel := enL_len c c.th.length
        have hth8 : c.th.length ≤ 8 := HWk.out.n8
        have HNl := Lib.hid (enL_nil (s := c) (k := c.th.length))
        have HAt := Lib.hid (enL_at c c.th.length)
        have H9 := Lib.hid h9
        clear ho9 hb r0 r1 r2 r3 r4 r5 c0 OW HM WN Q X HB h9
        obtain ⟨zs, hzs⟩ : ∃ zs, zs = enL c c.th.length := ⟨_, rfl⟩
        have HZs := Lib.hid hzs
        rw [← hzs] at O9 hel
        rw [← hzs]
        clear hzs
        have OW := OW4
        have HM := HM4
        have WN := WN4
        have Q := Q4
        have X := X4
        have HB := HB4
        clear OW4 HM4 WN4 Q4 X4 HB4
        by_cases hz : zs.length = 0
        · have tz : ((zs.length : Int) == 0) = true := by simpa using hz
          have HE := Lib.hid (HE0.out _ (HSt.out (by
            have h1 : zs = [] := List.eq_nil_of_length_eq_zero hz
            rw [HZs.out] at h1
            exact HNl.out.1 h1)))
          clear hz
          obtain ⟨m0, m1, m2, m3, m4, m5⟩ := X.out.six
          have f0 := X.out.free 0
          have f1 := X.out.free 1
          have f2 := X.out.free 2
          have f3 := X.out.free 3
          have f4 := X.out.free 4
          have f5 := X.out.free 5
          have OF := Lib.hid (OwnM.box_gr OW.out X.out (set6_grown _ _ (.slice B0 s.th.length d0) (.slice B1 s.pc.length d1) (.slice B2 s.su.length d2) (.slice B3 s.lo.length d3) (.slice B4 s.ce.length d4) (.slice B5 s.ch.length d5)))
          have RF := Lib.hid (World.ownsRow.kept WN.out (set6_grown _ (w.heap.size + 1) (.slice B0 s.th.length d0) (.slice B1 s.pc.length d1) (.slice B2 s.su.length d2) (.slice B3 s.lo.length d3) (.slice B4 s.ce.length d4) (.slice B5 s.ch.length d5)) (.inr (own_ne WN.out X.out (by decide))))
          have XF := Lib.hid (((((((X.out.put 0 (.slice B0 s.th.length d0)).put 1 (.slice B1 s.pc.length d1)).put 2 (.slice B2 s.su.length d2)).put 3 (.slice B3 s.lo.length d3)).put 4 (.slice B4 s.ce.length d4)).put 5 (.slice B5 s.ch.length d5)))
          have BF := Lib.hid (((((((HB.out.setCell (p := ⟨w.heap.size + 1, 0, none⟩) (Nat.le_succ _) (.slice B0 s.th.length d0)).setCell (p := ⟨w.heap.size + 1, 1, none⟩) (Nat.le_succ _) (.slice B1 s.pc.length d1)).setCell (p := ⟨w.heap.size + 1, 2, none⟩) (Nat.le_succ _) (.slice B2 s.su.length d2)).setCell (p := ⟨w.heap.size + 1, 3, none⟩) (Nat.le_succ _) (.slice B3 s.lo.length d3)).setCell (p := ⟨w.heap.size + 1, 4, none⟩) (Nat.le_succ _) (.slice B4 s.ce.length d4)).setCell (p := ⟨w.heap.size + 1, 5, none⟩) (Nat.le_succ _) (.slice B5 s.ch.length d5)))
          obtain ⟨r0, r1, r2, r3, r4, r5⟩ := Q.out.six
          go_wp2_with fail
          refine results_cell3 Try.results25 rfl rfl rfl rfl XF.out Try.underlying26 rfl (by kernel_rfl) ?_
          rw [RunOut, HE.out]
          exact ⟨_, AW, cW, rfl, OF.out.sys.at HNm.out, OwnI.ints RF.out HWs.out, own_cap RF.out, BF.out⟩
        · have tz : ((zs.length : Int) == 0) = false := by simpa using hz
          have hz0 : 0 < zs.length := by omega
          have hzl : zs.length = (enN c c.th.length).length := by rw [HZs.out]; exact H9.out
          have hne : enN c c.th.length ≠ [] := fun h => by rw [h] at hzl; have h0 : zs.length = 0 := hzl; omega
          have HMo := Lib.hid (fun wx => modulo_any p zs.length hz0 (by omega) wx)
          have hpm : pmod p zs.length < zs.length := pmod_lt p hz0
          obtain ⟨h1t, h2t⟩ := mem_enN (pickT_mem p hne)
          obtain ⟨g9, rfl, -, -⟩ := own_addr O9.out hz0
          have cz := World.ownsRow.cellAt O9.out (pmod p zs.length) (by omega)
          have hval : zs.getD (pmod p zs.length) 0 = ((pickT c p : Nat) : Int) := by
            have e1 := HAt.out (pmod p zs.length) (by omega)
            rw [← HZs.out] at e1
            rw [e1, hzl]; rfl
          rw [List.getElem?_map, show zs[pmod p zs.length]? = some (zs.getD (pmod p zs.length) 0) by rw [List.getD, List.getElem?_eq_getElem hpm]; rfl, hval] at cz
          replace cz : w4.cell? ⟨g9, pmod p zs.length, none⟩ = some (.int .i64 ((pickT c p : Nat) : Int)) := cz
          have HPk := Lib.hid (show pickP (c, ws) p = (stepS c (pickT c p), ws ++ [((pickT c p : Nat) : Int)]) by unfold pickP; rw [if_neg hne])
          obtain ⟨j, hj⟩ : ∃ j, j = pmod p zs.length := ⟨_, rfl⟩
          rw [← hj] at cz hpm HMo
          obtain ⟨t, hte⟩ : ∃ t, t = pickT c p := ⟨_, rfl⟩
          rw [← hte] at cz HPk h1t h2t
          have hjl : (j : Int) < (zs.length : Int) := by omega
          have HGo := Lib.hid (fun wx (ho : OwnM M wx (.agg #[.slice B0 s.th.length d0, .slice B1 s.pc.length d1, .slice B2 s.su.length d2, .slice B3 s.lo.length d3, .slice B4 s.ce.length d4, .slice B5 s.ch.length d5]) c) hm => goOn_any M _ c wx ho hm k (by omega) HWk.out t h1t h2t)
          clear hz hj hte hval hzl hne h1t h2t
          obtain ⟨r0, r1, r2, r3, r4, r5⟩ := Q.out.six
          go_wp2_with fail
          refine (HMo.out _).mono ?_
          rintro e w9 ⟨rfl, hw9⟩
          obtain rfl := hw9.symm
          clear hw9
          go_wp2_with fail
          refine (HGo.out _ OW.out (fun g h => (HM.out g h).2)).mono ?_
          rintro e w5 ⟨rfl, N, hN1, hN2, hN3⟩
          have OW5 := Lib.hid hN1
          have HM5 := Lib.hid (show ∀ g, N g → w1.heap.size ≤ g ∧ g < w5.heap.size from fun g h => by
            rcases hN3 g h with h | h
            · exact ⟨(HM.out g h).1, Nat.lt_of_lt_of_le (HM.out g h).2 hN2.size⟩
            · exact ⟨Nat.le_trans HL14.out h.1, h.2⟩)
          have WN5 := Lib.hid (hN2.own WN.out HN.out)
          have HN5 := Lib.hid (show ∀ g, (Value.slice AW ws.length cW).ownBlock = some g → ¬ N g from fun g hg h => by
            rcases hN3 g h with h | h
            · exact HN.out g hg h
            · have := (WN.out.lt g hg).2; omega)
          have Q5 := Lib.hid (hN2.box Q.out (fun h => by have := (HM.out _ h).1; omega))
          have X5 := Lib.hid (hN2.box X.out (fun h => by have := (HM.out _ h).1; omega))
          have HL15 := Lib.hid (Nat.le_trans HL14.out hN2.size)
          have HB5 := Lib.hid (HB.out.trans (hN2.below (B := w.heap.size) HB.out.size (fun g h => by have := (HM.out g h).1; omega)))
          clear hN1 hN2 hN3 r0 r1 r2 r3 r4 r5 cz OW HM WN Q X HB HN
          have b6 : Below w5.heap.size w5 (w5.alloc (.cells #[.int .i64 (t : Int)] 3)) := (Below.refl _ _).alloc (Nat.le_refl _) _
          have XO := Lib.hid (WN5.out.alloc (.cells #[.int .i64 (t : Int)] 3))
          have OW6 := Lib.hid (OW5.out.keepB b6)
          have Q6 := Lib.hid (Q5.out.keep b6)
          have X6 := Lib.hid (X5.out.keep b6)
          have HB6 := Lib.hid (HB5.out.alloc HB5.out.size (.cells #[.int .i64 (t : Int)] 3))
          have NQ := Lib.hid (own_ne XO.out Q6.out (by decide))
          have NX := Lib.hid (own_ne XO.out X6.out (by decide))
          have hs6 : (w5.alloc (.cells #[.int .i64 (t : Int)] 3)).heap.size = w5.heap.size + 1 := by simp
          have HS6 := Lib.hid hs6
          have hb16 : w1.heap.size ≤ (w5.alloc (.cells #[.int .i64 (t : Int)] 3)).heap.size := by rw [hs6]; have h1 := HL15.out; omega
          clear b6 hs6
          go_wp2_with (at_builtin; refine wpList_append_lies _ rfl _ _ 23 rfl w1.heap.size 3 i0 (.int .i64 0) 1 8 Try.underlying23 HI.out HZ0.out HZ1.out HZ2.out rfl (by decide) _ _ _ rfl XO.out ⟨w5.heap.size, 0, none⟩ 1 1 [.int .i64 (t : Int)] rfl rfl (cell_one_new _ _ _) (by simp [Value.oneCell']) (by omega) (by simp [maxLen]; omega) (by omega) hb16 _ rfl ?_; intro g7 cap7 w7 hown' hgrow hat hlt7; have WN7 := Lib.hid hown'; have OW7 := Lib.hid (OW6.out.grownW XO.out HN5.out hgrow); have Q7 := Lib.hid (Q6.out.grown hgrow NQ.out); have X7 := Lib.hid (X6.out.grown hgrow NX.out); have HB7 := Lib.hid (HB6.out.grown hgrow HB6.out.size (fun g hg => by have := (XO.out.lt g hg).1; omega)); have HAt7 := Lib.hid hat; have HSz7 := Lib.hid hgrow.size; clear hown' hgrow hat)
          go_roundw
          case rel =>
            have hs := HSn.out hlt
            rw [HPk.out] at hs
            refine ⟨k + 1, N, by omega, by go_num, Lib.hid (by rw [hs]; exact OW7.out), Lib.hid (fun g h => ⟨(HM5.out g h).1, ?_⟩), Lib.hid (by rw [hs]; show World.ownsRow _ _ _ 1 _ (ws ++ [(t : Int)]).length ((ws ++ [(t : Int)]).map (Value.int .i64)); rw [List.length_append, List.map_append]; exact WN7.out), Lib.hid (fun g hg h => ?_), Q7, X7, Lib.hid (by have h1 := HL15.out; have h2 := HSz7.out; rw [HS6.out] at h2; omega), HB7⟩
            · have h1 := (HM5.out g h).2
              have h2 := HSz7.out
              rw [HS6.out] at h2
              omega
            · have hg' : g7 = g := by simpa [Value.ownBlock] using hg
              subst hg'
              rcases HAt7.out with e | e
              · exact HN5.out _ e h
              · have h1 := (HM5.out _ h).2
                rw [e, HS6.out] at h1
                omega
          case measure => simp [Go.RowKit.intOf] <;> omega
      · have hlt' : ¬ (k : Int) < (l : Int) := by omega
        have HE := Lib.hid (HE0.out _ (HFl.out (by omega)))
        obtain ⟨m0, m1, m2, m3, m4, m5⟩ := X.out.six
        have f0 := X.out.free 0
        have f1 := X.out.free 1
        have f2 := X.out.free 2
        have f3 := X.out.free 3
        have f4 := X.out.free 4
        have f5 := X.out.free 5
        have OF := Lib.hid (OwnM.box_gr OW.out X.out (set6_grown _ _ (.slice B0 s.th.length d0) (.slice B1 s.pc.length d1) (.slice B2 s.su.length d2) (.slice B3 s.lo.length d3) (.slice B4 s.ce.length d4) (.slice B5 s.ch.length d5)))
        have RF := Lib.hid (World.ownsRow.kept WN.out (set6_grown _ (w.heap.size + 1) (.slice B0 s.th.length d0) (.slice B1 s.pc.length d1) (.slice B2 s.su.length d2) (.slice B3 s.lo.length d3) (.slice B4 s.ce.length d4) (.slice B5 s.ch.length d5)) (.inr (own_ne WN.out X.out (by decide))))
        have XF := Lib.hid (((((((X.out.put 0 (.slice B0 s.th.length d0)).put 1 (.slice B1 s.pc.length d1)).put 2 (.slice B2 s.su.length d2)).put 3 (.slice B3 s.lo.length d3)).put 4 (.slice B4 s.ce.length d4)).put 5 (.slice B5 s.ch.length d5)))
        have BF := Lib.hid (((((((HB.out.setCell (p := ⟨w.heap.size + 1, 0, none⟩) (Nat.le_succ _) (.slice B0 s.th.length d0)).setCell (p := ⟨w.heap.size + 1, 1, none⟩) (Nat.le_succ _) (.slice B1 s.pc.length d1)).setCell (p := ⟨w.heap.size + 1, 2, none⟩) (Nat.le_succ _) (.slice B2 s.su.length d2)).setCell (p := ⟨w.heap.size + 1, 3, none⟩) (Nat.le_succ _) (.slice B3 s.lo.length d3)).setCell (p := ⟨w.heap.size + 1, 4, none⟩) (Nat.le_succ _) (.slice B4 s.ce.length d4)).setCell (p := ⟨w.heap.size + 1, 5, none⟩) (Nat.le_succ _) (.slice B5 s.ch.length d5)))
        obtain ⟨r0, r1, r2, r3, r4, r5⟩ := Q.out.six
        go_wp2_with fail
        refine results_cell3 Try.results25 rfl rfl rfl rfl XF.out Try.underlying26 rfl (by kernel_rfl) ?_
        rw [RunOut, HE.out]
        exact ⟨_, AW, cW, rfl, OF.out.sys.at HNm.out, OwnI.ints RF.out HWs.out, own_cap RF.out, BF.out⟩
end Go.Proofs.Ytcamoigcfiemhaa
