/- Contract of layer 6: Below. -/
import Derived.Test.YtbgikkeiapbghaaDoorRnd3
namespace Go.Proofs.YtbgikkeiapbghaaDoor
open Go.RowKit Go.Shelf
attribute [local go_sem] Oper.semAt_some
theorem run_loadVar_cell_int {P : Program} (W : World) (g : Nat) (T : TypeId) (k : IntKind) (v : Int) (hu : P.underlying T = some (.int k)) (hc : W.cell? ⟨g, 0, none⟩ = some (.int k v)) : (loadVar T ⟨g, 0, none⟩).run P W = .ok (.int k v) W := by
  have hagg : (isAgg T).run P W = .ok false W := by
    unfold isAgg
    rw [Sem.run_bind, run_underlying hu W]
    rfl
  have hl : (load ⟨g, 0, none⟩).run P W = .ok (.int k v) W := by go_simp
  simp [loadVar, Sem.run_bind, hagg, hl, Result.andThen]
/-- A return of three values in boxes. -/
theorem results_cells3 {P : Program} {fn : Func} {W : World} {p q r : Tmp} {T1 T2 T3 : TypeId} {g1 g2 g3 : Nat} {k1 k2 k3 : IntKind} {v1 v2 v3 : Int} (hr : fn.results = #[.cell p T1, .cell q T2, .cell r T3]) (tmps : Array Value)
    (hp : tmps.getD p undef = .pointer (some ⟨g1, 0, none⟩)) (hq : tmps.getD q undef = .pointer (some ⟨g2, 0, none⟩)) (hs : tmps.getD r undef = .pointer (some ⟨g3, 0, none⟩))
    (b1 : Box W g1 T1 #[.int k1 v1]) (b2 : Box W g2 T2 #[.int k2 v2]) (b3 : Box W g3 T3 #[.int k3 v3]) (u1 : P.underlying T1 = some (.int k1)) (u2 : P.underlying T2 = some (.int k2)) (u3 : P.underlying T3 = some (.int k3)) :
    (results fn tmps).run P W = .ok (.tuple #[.int k1 v1, .int k2 v2, .int k3 v3]) W := by
  have hp' : tmps[p]?.getD undef = .pointer (some ⟨g1, 0, none⟩) := by simpa using hp
  have hq' : tmps[q]?.getD undef = .pointer (some ⟨g2, 0, none⟩) := by simpa using hq
  have hs' : tmps[r]?.getD undef = .pointer (some ⟨g3, 0, none⟩) := by simpa using hs
  have c1 := b1.cell 0
  have c2 := b2.cell 0
  have c3 := b3.cell 0
  simp at c1 c2 c3
  simp [results, hr, hp', hq', hs', asAddr, run_loadVar_cell_int W g1 T1 k1 v1 u1 c1, run_loadVar_cell_int W g2 T2 k2 v2 u2 c2, run_loadVar_cell_int W g3 T3 k3 v3 u3 c3, Sem.run_bind, Result.andThen]
theorem close_cells3 {P : Program} {fn : Func} {R : Ending → World → Prop} {a : Act} {W : World} {p q r : Tmp} {T1 T2 T3 : TypeId} {g1 g2 g3 : Nat} {k1 k2 k3 : IntKind} {v1 v2 v3 : Int} (hr : fn.results = #[.cell p T1, .cell q T2, .cell r T3])
    (hp : a.tmps.getD p undef = .pointer (some ⟨g1, 0, none⟩)) (hq : a.tmps.getD q undef = .pointer (some ⟨g2, 0, none⟩)) (hs : a.tmps.getD r undef = .pointer (some ⟨g3, 0, none⟩)) (hd : a.defers = [])
    (b1 : Box W g1 T1 #[.int k1 v1]) (b2 : Box W g2 T2 #[.int k2 v2]) (b3 : Box W g3 T3 #[.int k3 v3]) (u1 : P.underlying T1 = some (.int k1)) (u2 : P.underlying T2 = some (.int k2)) (u3 : P.underlying T3 = some (.int k3))
    (hR : R (.returned (.tuple #[.int k1 v1, .int k2 v2, .int k3 v3])) W) : bodyPost P fn R .ret a W :=
  bodyPost_ret (results_cells3 hr a.tmps hp hq hs b1 b2 b3 u1 u2 u3) hd hR
theorem below_no (s n : Int) (h : ¬ (1 ≤ n ∧ n ≤ 512)) (w : World) : Calls Tryd.prog 42 #[.int .u64 s, .int .i64 n] w fun e w' => e = .returned (.tuple #[.int .u64 0, .int .i64 0, .int .i64 2]) ∧ Below w.heap.size w w' := by
  have H := Lib.hid (bound_any n)
  rw [decide_eq_false h] at H
  go_enter Tryd.func42, Tryd.ntmps42
  go_wp2_with fail
  refine (H.out _).mono ?_
  rintro e w1 ⟨rfl, rfl⟩
  go_wp2_with fail
  refine close_cells3 Tryd.results42 rfl rfl rfl rfl (((Box.new w 22 #[.int .u64 0]).alloc _).alloc _) (Box.alloc (by have := Box.new (w.alloc (.cells #[.int .u64 0] 22)) 3 #[.int .i64 0]; rwa [World.size_alloc] at this) _) (by have := Box.new ((w.alloc (.cells #[.int .u64 0] 22)).alloc (.cells #[.int .i64 0] 3)) 24 #[.int .i64 2]; simp only [World.size_alloc] at this; exact this) Tryd.underlying22 Tryd.underlying3 Tryd.underlying24 ⟨rfl, ?_⟩
  exact (((Below.refl w.heap.size w).alloc (Nat.le_refl _) _).alloc (by simp) _).alloc (by simp; omega) _
/-- The iterator that numbers hands back: its box. -/
def NumOut (s : Nat) (w : World) (e : Ending) (w' : World) : Prop :=
  ∃ B, e = .returned (.func (.func 58) #[] #[.pointer (some ⟨B, 0, none⟩)]) ∧ Boxed w' B 22 (.int .u64 s) ∧ w.heap.size ≤ B ∧ Below w.heap.size w w'
theorem numbers_any (s : Nat) (w : World) : Calls Tryd.prog 47 #[.int .u64 s] w (NumOut s w) := by
  go_enter Tryd.func47, Tryd.ntmps47
  go_wp2_with fail
  go_ret
  exact ⟨_, rfl, Box.new w _ _, Nat.le_refl _, (Below.refl w.heap.size w).alloc (Nat.le_refl _) _⟩
/-- The five boxes of Below: three results, the bound, what is left over. -/
def Five (h : Nat) (x : Nat) (y : Nat) (n over : Nat) (W : World) : Prop :=
  Boxed W h 22 (.int .u64 x) ∧ Boxed W (h + 1) 3 (.int .i64 y) ∧ Boxed W (h + 2) 24 (.int .i64 0) ∧ Boxed W (h + 3) 22 (.int .u64 n) ∧ Boxed W (h + 4) 22 (.int .u64 over)
theorem Five.keep {h x y n over : Nat} {W W' : World} (H : Five h x y n over W) (hk : ∀ b, b < h + 5 → W'.heap[b]? = W.heap[b]?) : Five h x y n over W' :=
  ⟨(hk _ (by omega)).trans H.1, (hk _ (by omega)).trans H.2.1, (hk _ (by omega)).trans H.2.2.1, (hk _ (by omega)).trans H.2.2.2.1, (hk _ (by omega)).trans H.2.2.2.2⟩
theorem Five.own {β : Type} (h : Nat) (x y : Nat) (n over : Nat) (A : Nat) : OwnFrom A (fun (_ : β) W => Five h x y n over W) :=
  OwnFrom.and (Own.from (boxed_own _ _ (fun _ => .int .u64 x)) _) (OwnFrom.and (Own.from (boxed_own _ _ (fun _ => .int .i64 y)) _) (OwnFrom.and (Own.from (boxed_own _ _ (fun _ => .int .i64 0)) _) (OwnFrom.and (Own.from (boxed_own _ _ (fun _ => .int .u64 n)) _) (Own.from (boxed_own _ _ (fun _ => .int .u64 over)) _))))
theorem Five.put {h x y n over : Nat} {W : World} (H : Five h x y n over W) (x' y' : Nat) : Five h x' y' n over (((W.setCell ⟨h, 0, none⟩ (.int .u64 x')).setCell ⟨h + 1, 0, none⟩ (.int .i64 y')).setCell ⟨h + 2, 0, none⟩ (.int .i64 0)) := by
  obtain ⟨b0, b1, b2, b3, b4⟩ := H
  refine ⟨?_, ?_, ?_, ?_, ?_⟩
  · exact ((b0.set _).other (by omega) _).other (by omega) _
  · exact ((b1.other (by omega) _).set _).other (by omega) _
  · exact ((b2.other (by omega) _).other (by omega) _).set _
  · exact ((b3.other (by omega) _).other (by omega) _).other (by omega) _
  · exact ((b4.other (by omega) _).other (by omega) _).other (by omega) _
theorem Five.start (w : World) (n over : Nat) : Five w.heap.size 0 0 n over (((((w.alloc (.cells #[.int .u64 0] 22)).alloc (.cells #[.int .i64 0] 3)).alloc (.cells #[.int .i64 0] 24)).alloc (.cells #[.int .u64 n] 22)).alloc (.cells #[.int .u64 over] 22)) := by
  have k0 := Box.new w 22 #[.int .u64 0]
  have k1 := Box.new (w.alloc (.cells #[.int .u64 0] 22)) 3 #[.int .i64 0]
  have k2 := Box.new ((w.alloc (.cells #[.int .u64 0] 22)).alloc (.cells #[.int .i64 0] 3)) 24 #[.int .i64 0]
  have k3 := Box.new (((w.alloc (.cells #[.int .u64 0] 22)).alloc (.cells #[.int .i64 0] 3)).alloc (.cells #[.int .i64 0] 24)) 22 #[.int .u64 n]
  have k4 := Box.new ((((w.alloc (.cells #[.int .u64 0] 22)).alloc (.cells #[.int .i64 0] 3)).alloc (.cells #[.int .i64 0] 24)).alloc (.cells #[.int .u64 n] 22)) 22 #[.int .u64 over]
  simp only [World.size_alloc] at k1 k2 k3 k4
  exact ⟨(((k0.alloc _).alloc _).alloc _).alloc _, ((k1.alloc _).alloc _).alloc _, (k2.alloc _).alloc _, k3.alloc _, k4⟩
theorem below_allocs (w : World) (o0 o1 o2 o3 o4 : Obj) : Below w.heap.size w (((((w.alloc o0).alloc o1).alloc o2).alloc o3).alloc o4) :=
  (((((Below.refl _ w).alloc (Nat.le_refl _) o0).alloc (by simp) o1).alloc (by simp; omega) o2).alloc (by simp; omega) o3).alloc (by simp; omega) o4
theorem over_int (n : Nat) (h1 : 1 ≤ n) (h2 : n ≤ 512) : (IntKind.u64.wrap (-(n : Int))).tmod (n : Int) = ((18446744073709551616 % n : Nat) : Int) := by
  have e : IntKind.u64.wrap (-(n : Int)) = ((18446744073709551616 - n : Nat) : Int) := by rw [IntKind.wrap_u64]; omega
  have e2 : (18446744073709551616 - n) % n = 18446744073709551616 % n := by
    have : 18446744073709551616 = (18446744073709551616 - n) + n := by omega
    conv => rhs; rw [this]
    rw [Nat.add_mod_right]
  rw [e, Int.tmod_eq_emod_of_nonneg (by omega), ← e2]
  rfl
theorem fin_post {A h n over x y : Nat} {w W : World} {b : Nat × Nat} {z : Int} (hF : Five h 0 0 n over W) (hB : Below h w W) (hb : b = (x, y)) (hz : z = (y : Int)) :
    KeepsFrom A W (((W.setCell ⟨h, 0, none⟩ (.int .u64 x)).setCell ⟨h + 1, 0, none⟩ (.int .i64 z)).setCell ⟨h + 1 + 1, 0, none⟩ (.int .i64 0)).drew ∧
    Five h b.1 b.2 n over (((W.setCell ⟨h, 0, none⟩ (.int .u64 x)).setCell ⟨h + 1, 0, none⟩ (.int .i64 z)).setCell ⟨h + 1 + 1, 0, none⟩ (.int .i64 0)).drew ∧
    Below h w (((W.setCell ⟨h, 0, none⟩ (.int .u64 x)).setCell ⟨h + 1, 0, none⟩ (.int .i64 z)).setCell ⟨h + 1 + 1, 0, none⟩ (.int .i64 0)).drew := by
  subst hb hz
  refine ⟨?_, (hF.put x y).keep (fun _ _ => rfl), (((hB.setCell (p := ⟨h, 0, none⟩) (Nat.le_refl _) _).setCell (p := ⟨h + 1, 0, none⟩) (Nat.le_succ _) _).setCell (p := ⟨h + 1 + 1, 0, none⟩) (by show h ≤ h + 1 + 1; omega) _).drew⟩
  exact ((((KeepsOthers.setCell _ _ _).trans (KeepsOthers.setCell _ _ _)).trans (KeepsOthers.setCell _ _ _)).trans (KeepsOthers.drew _)).from _
set_option maxRecDepth 100000 in
set_option maxHeartbeats 4000000 in
theorem below_in (s n : Nat) (hs : s < 18446744073709551616) (h1 : 1 ≤ n) (h2 : n ≤ 512) (w : World) :
    CallsIn Fence.wide 5 Tryd.prog 42 #[.int .u64 s, .int .i64 n] w fun e w' => e = .returned (.tuple #[.int .u64 ((belowN n s).1 : Nat), .int .i64 ((belowN n s).2 : Nat), .int .i64 0]) ∧ Below w.heap.size w w' := by
  have H := Lib.hid (bound_any n)
  rw [decide_eq_true (p := 1 ≤ (n : Int) ∧ (n : Int) ≤ 512) (by omega)] at H
  have HN := Lib.hid (numbers_any s)
  generalize hbb : belowN n s = b at *
  have HB0 := Lib.hid (show belowF n (18446744073709551616 % n) 512 s = b from hbb)
  clear hbb
  have ho := over_lt n h1 h2
  have HG := Lib.hid (gw_all (18446744073709551616 % n) s ho hs)
  have hov := over_int n h1 h2
  generalize 18446744073709551616 % n = over at *
  have g1 : (1 : Int) ≤ n := by omega
  refine callsIn_of_wp_marks Tryd.func42 rfl trivial ?_ rfl
  simp only [Tryd.ntmps42, List.size_toArray, List.length_cons, List.length_nil, Nat.reduceAdd, Nat.reduceSub, Array.replicate_succ, Array.replicate_zero, List.push_toArray, List.append_toArray, List.nil_append, List.cons_append]
  gi_wp2_with (refine ⟨trivial, ?_⟩; first | (gi_at_call 32; refine (callsIn_wide.2 (H.out _)).mono ?_; rintro e w' ⟨rfl, rfl⟩) | (gi_at_call 47; refine (callsIn_wide.2 (HN.out _)).mono ?_; rintro e w1 ⟨B, rfl, b1, hge, hb⟩))
  clear hov
  have F0 : Five w.heap.size 0 0 n over w1 := by
    refine (Five.start w n over).keep (fun b hb' => hb.block b (by simp; omega))
  have B0 : Below w.heap.size w w1 := (below_allocs w _ _ _ _ _).trans (hb.mono (by simp; omega))
  simp only [World.size_alloc] at hge
  clear hb H HN
  have hg5 : w.heap.size + 5 ≤ B := hge
  refine range_cell rfl (by omega) (gf := 58) (lb := #[.pointer (some ⟨B, 0, none⟩)]) rfl trivial (enters_of Tryd.func58 (by kernel_rfl) rfl)
    (numbers_cell (5 - 1) (by omega) B) (fun _ => rfl)
    (fun k (t : St) W => (Hid (gw over k t.1) ∧ Hid (belowF n over k t.1 = b)) ∧ Five w.heap.size 0 0 n over W ∧ Below w.heap.size w W)
    (fun W => Five w.heap.size b.1 b.2 n over W ∧ Below w.heap.size w W)
    (OwnFrom.and (ownFrom_pure _ (fun p : Nat × St => Hid (gw over p.1 p.2.1) ∧ Hid (belowF n over p.1 p.2.1 = b))) (OwnFrom.and (Five.own _ _ _ _ _ _) (ownFrom_below (Nat.le_refl _) B0.size)))
    (OwnFrom.and (Five.own _ _ _ _ _ _) (ownFrom_below (Nat.le_refl _) B0.size))
    (fun k t W v hi => ⟨hi.1, hi.2.1.keep (fun c hc => Below.heap_setCell W ⟨B, 0, none⟩ v c (by show c ≠ B; omega)), hi.2.2.setCell (p := ⟨B, 0, none⟩) (by show w.heap.size ≤ B; omega) v⟩)
    (fun t W hi => hi.1.1.out.elim)
    512 ⟨s, hs⟩ ⟨⟨HG, HB0⟩, F0, B0⟩ b1
    (fun x => { tmps := #[.int .u64 s, .int .i64 n, undef, undef, .pointer (some ⟨w.heap.size, 0, none⟩), .pointer (some ⟨w.heap.size + 1, 0, none⟩), .pointer (some ⟨w.heap.size + 1 + 1, 0, none⟩), .pointer (some ⟨w.heap.size + 1 + 1 + 1, 0, none⟩), .pointer (some ⟨w.heap.size + 1 + 1 + 1 + 1, 0, none⟩), .int .u64 x.1, .int .u64 (mixN x.1 : Nat), .int .i64 n, .bool true, .bool false, .int .i64 n, .int .u64 n, .int .u64 n, .int .u64 (IntKind.u64.wrap (-(n : Int))), .int .u64 n, .int .u64 over, .int .u64 s, .func (.func 58) #[] #[.pointer (some ⟨B, 0, none⟩)], .int .u64 x.1, .int .u64 (mixN x.1 : Nat), undef, undef, undef, undef, undef, undef, undef, undef, undef, undef, undef, undef, undef], defers := [] }) ?assign ?body ?stop
  case assign =>
    intro l x W K hK
    simp only [St.encs]
    gi_wp2
    exact hK
  case body =>
    rintro l k t W ⟨⟨hgw, hbf⟩, hF, hB⟩
    have HGD := Lib.hid (show good over t.1 ↔ mixN t.next.1 + over < 18446744073709551616 from Iff.rfl)
    have HGW := Lib.hid (show good over t.1 ∨ gw over k t.next.1 from hgw.out)
    have HBF := Lib.hid (show belowF n over (k + 1) t.1 = if good over t.1 then (t.next.1, mixN t.next.1 % n) else belowF n over k t.next.1 from rfl)
    rw [hbf.out] at HBF
    have hxl := mixN_lt t.next.1
    dsimp only
    generalize t.next = u at *
    have HF := Lib.hid hF
    have HB := Lib.hid hB
    have HPC : Hid (∀ W' , (KeepsFrom w1.heap.size W W' ∧ W'.heap[B]? = W.heap[B]? ∧ (Hid (gw over k u.1) ∧ Hid (belowF n over k u.1 = b)) ∧ Five w.heap.size 0 0 n over W' ∧ Below w.heap.size w W') → True) := Lib.hid (fun _ _ => trivial)
    clear hgw hbf hF hB HPC
    obtain ⟨e0, e1, e2, e3, e4⟩ := HF.out
    have d0 := e0.cell
    have d1 := e1.cell
    have d2 := e2.cell
    have d3 := e3.cell
    have d4 := e4.cell
    have f0 := e0.frozen
    have f1 := e1.frozen
    have f2 := e2.frozen
    clear e0 e1 e2 e3 e4
    have hmx : Tryd.prog.follows .mixedOrders = true := by kernel_rfl
    have HZ := Lib.hid (show IntKind.i64.wrap (((mixN u.1 : Nat) : Int) % (n : Int)) = ((mixN u.1 % n : Nat) : Int) by
      have := Nat.mod_lt (mixN u.1) h1
      exact IntWalk.i64_in _ (by omega))
    by_cases ho0 : over = 0
    · have t1 : ((over : Int) == 0) = true := beq_iff_eq.2 (by omega)
      have hg2 : good over t.1 := HGD.out.2 (by omega)
      rw [if_pos hg2] at HBF
      gi_wp2
      gi_region_o
      all_goals (gi_wp2; exact fin_post HF.out HB.out HBF.out HZ.out)
    · have t1 : ((over : Int) == 0) = false := beq_eq_false_iff_ne.2 (by omega)
      obtain ⟨T, hT⟩ : ∃ T : Nat, T + over = 18446744073709551616 := ⟨18446744073709551616 - over, by omega⟩
      have hT2 : IntKind.u64.wrap (-(over : Int)) = (T : Int) := by rw [IntKind.wrap_u64]; omega
      by_cases hx : mixN u.1 < T
      · have hx' : ((mixN u.1 : Nat) : Int) < (T : Int) := by omega
        have hg2 : good over t.1 := HGD.out.2 (by omega)
        rw [if_pos hg2] at HBF
        clear hT
        gi_wp2
        gi_region_o
        all_goals (gi_wp2; exact fin_post HF.out HB.out HBF.out HZ.out)
      · have hx' : ¬ ((mixN u.1 : Nat) : Int) < (T : Int) := by omega
        have hg2 : ¬ good over t.1 := fun y => by have := HGD.out.1 y; omega
        rw [if_neg hg2] at HBF
        have HGW2 := Lib.hid (HGW.out.resolve_left hg2)
        clear hT
        gi_wp2
        exact ⟨KeepsFrom.refl _ _, rfl, ⟨HGW2, Lib.hid (Eq.symm HBF.out)⟩, HF.out, HB.out⟩
  case stop =>
    rintro D W hD ⟨hF, hB⟩ hK
    have hw1 : w.heap.size + 5 ≤ w1.heap.size := by have := b1.lt; omega
    gi_wp2
    refine ⟨by simp, .inl ⟨_, _, rfl, run_takeDeferred hK, ?_⟩⟩
    have hF2 : Five w.heap.size b.1 b.2 n over (W.putObj D (.deferred none)) := hF.keep (fun c hc => World.putObj_heap_other (by omega))
    exact ⟨_, results_cells3 Tryd.results42 _ rfl rfl rfl hF2.1 hF2.2.1 hF2.2.2.1 Tryd.underlying22 Tryd.underlying3 Tryd.underlying24, rfl, hB.trans (belowK_b (w := w) (Nat.le_refl _) W D _ _ (by omega) hK rfl rfl)⟩
end Go.Proofs.YtbgikkeiapbghaaDoor
