/- Parts: DegW3, Deg2, DegS1, Bitrow2, Of, Same, Nb1, OwnR, Nb3, Nb5, RefD1, RefD2, RefD3, RefD4, RefD5, Deg3, Bitrow3, Order1, RefXor, RefOf, Nb2, OwnF, Nb4, Nb6, Nb7, NbX, NrX. -/
import Derived.Test.YtcikoaeiopbbbaaGreatZc
import Derived.ArgAppend
import Derived.Deep.AppendLies
import Derived.Deep.DeepCutAuto
import Derived.Deep.RegionHeld3
import Derived.Deep.RegionLaw
import Derived.Deep.RegionWith
import Derived.OpenShut
import Derived.StillTailTactics
namespace Go.Proofs.YtcikoaeiopbbbaaGreat
section
/- Contracts of layer 7: blocksMayBe, weights, Weights. -/
set_option linter.unusedVariables false
set_option linter.unusedSimpArgs false
open Go.RowKit Go.Shelf
attribute [local go_sem] Oper.semAt_some
def kmb (n : Int) : Bool := decide (1 ≤ n) && decide (n ≤ 64)
theorem kmb_yes {n : Int} (h : 1 ≤ n ∧ n ≤ 64) : kmb n = true := by simp [kmb, h]
theorem kmb_no {n : Int} (h : ¬ (1 ≤ n ∧ n ≤ 64)) : kmb n = false := by
  rw [Bool.eq_false_iff]; intro e; simp [kmb] at e; exact h e
theorem kmb_any (n : Int) (w : World) : Calls Tryz.prog 198 #[.int .i64 n] w fun e w' => e = .returned (.bool (kmb n)) ∧ w = w' := by
  by_cases h : 1 ≤ n
  · by_cases h2 : n ≤ 64
    · rw [kmb_yes ⟨h, h2⟩]
      go_enter Tryz.func198, Tryz.ntmps198
      go_wp2
      go_ret
      exact ⟨rfl, rfl⟩
    · rw [kmb_no (fun x => h2 x.2)]
      have t : decide (n ≤ 64) = false := by simpa using h2
      go_enter Tryz.func198, Tryz.ntmps198
      go_wp2
      go_ret
      exact ⟨by simp, rfl⟩
  · rw [kmb_no (fun x => h x.1)]
    have t : decide (1 ≤ n) = false := by simpa using h
    go_enter Tryz.func198, Tryz.ntmps198
    go_wp2
    go_ret
    exact ⟨by simp, rfl⟩
theorem root_small : ∀ k : Fin 65, 1 ≤ k.val → 1 ≤ root k.val ∧ root k.val ≤ 8 := by
  intro k h
  obtain ⟨h1, h2, _, _⟩ := root_spec k.val (by omega)
  have hk := k.isLt
  constructor
  · rcases Nat.eq_zero_or_pos (root k.val) with e | e
    · rw [e] at h2; omega
    · exact e
  · rcases Nat.lt_or_ge 8 (root k.val) with e | e
    · have := sq_le (show 9 ≤ root k.val from e); omega
    · exact e
/-- The iterator that weights hands back: its three boxes. -/
def ItOut (k : Nat) (w : World) (e : Ending) (w' : World) : Prop :=
  ∃ B1 B2 B3, e = .returned (.func (.func 208) #[] #[.pointer (some ⟨B1, 0, none⟩), .pointer (some ⟨B2, 0, none⟩), .pointer (some ⟨B3, 0, none⟩)]) ∧ Box w' B1 22 #[.int .u64 k] ∧ Box w' B2 22 #[.int .u64 (k / root k : Nat)] ∧ Box w' B3 22 #[.int .u64 (root k : Nat)] ∧ (w.heap.size ≤ B1 ∧ w.heap.size ≤ B2 ∧ w.heap.size ≤ B3) ∧ Below w.heap.size w w'
theorem weights_any (k : Nat) (h1 : 1 ≤ k) (h2 : k ≤ 64) (w : World) : Calls Tryz.prog 199 #[.int .i64 k] w (ItOut k w) := by
  have hr := root_small ⟨k, by omega⟩ h1
  simp only at hr
  have HR := Lib.hid (root_yes k (by omega) w)
  have HX := Lib.hid (show IntKind.u64.wrap ((k : Int) / (root k : Int)) = ((k / root k : Nat) : Int) by
    have : (k : Int) / (root k : Int) = ((k / root k : Nat) : Int) := by simp
    rw [this]; have h := Nat.div_le_self k (root k); generalize k / root k = q at *; exact IntWalk.u64_in _ (by omega))
  unfold ItOut
  generalize root k = r at *
  obtain ⟨g1, g2⟩ := hr
  go_enter Tryz.func199, Tryz.ntmps199
  go_wp2_with fail
  refine HR.out.mono ?_
  rintro e w1 ⟨rfl, hb⟩
  have HB := Lib.hid hb
  clear hb
  go_wp2
  go_ret
  rw [HX.out]
  have b1 := ((Box.new w1 22 #[.int .u64 k]).alloc (.cells #[.int .u64 r] 22)).alloc (.cells #[.int .u64 (k / r : Nat)] 22)
  have b3 := (Box.new (w1.alloc (.cells #[.int .u64 k] 22)) 22 #[.int .u64 r]).alloc (.cells #[.int .u64 (k / r : Nat)] 22)
  have b2 := Box.new ((w1.alloc (.cells #[.int .u64 k] 22)).alloc (.cells #[.int .u64 r] 22)) 22 #[.int .u64 (k / r : Nat)]
  simp only [World.size_alloc] at b2 b3
  have hsz := HB.out.size
  exact ⟨_, _, _, rfl, b1, b2, b3, ⟨by omega, by omega, by omega⟩, chain HB.out ((((Below.refl _ w1).alloc (Nat.le_refl _) _).alloc (by simp) _).alloc (by simp; omega) _)⟩
/-- Weights and sums are small. -/
theorem wgt_small (k d : Nat) (hk : 1 ≤ k) (hk2 : k ≤ 64) (t p : Nat) (ht : t ≤ 8) : plainN d k + moreN d p t k ≤ 300000000000 := by
  have h1 : plainN d k ≤ 4294967296 := by
    unfold plainN; split <;> exact Nat.div_le_self _ _
  have h2 : moreN d p t k ≤ 4294967296 * 64 := by
    unfold moreN
    have hb : Lib.bitLen t ≤ 8 := bitLen_le t (by omega)
    split
    · exact Nat.le_trans (Nat.div_le_self _ _) (Nat.mul_le_mul (Nat.le_refl _) (by omega))
    · split
      · refine Nat.le_trans (Nat.div_le_self _ _) ?_
        rw [Nat.mul_assoc]
        exact Nat.mul_le_mul (Nat.le_refl _) (Nat.mul_le_mul ht hb)
      · omega
  omega
theorem weights_stops (n : Nat) (hn : 1 ≤ n) (B1 B2 B3 k : Nat) (hk1 : 1 ≤ k) (hk : k ≤ 64) (w : World) (b1 : Box w B1 22 #[.int .u64 k]) (b2 : Box w B2 22 #[.int .u64 (k / root k : Nat)]) (b3 : Box w B3 22 #[.int .u64 (root k : Nat)]) :
    SeqStopsK Fence.wide n Tryz.prog 208 #[.pointer (some ⟨B1, 0, none⟩), .pointer (some ⟨B2, 0, none⟩), .pointer (some ⟨B3, 0, none⟩)] (fun x : Nat => #[Value.int .u64 (x : Int)]) (Kp3 B1 B2 B3) (fun ys => ys = wgts k k) (fun _ => True) k w := fun l J Jx W hW hJ _ hY h0 => by
  have hr := root_small ⟨k, by omega⟩ hk1
  simp only at hr
  refine (weights1_in Fence.wide rfl n hn l B1 B2 B3 k (k / root k) (root k) hk1 hk hr.1 (by omega) (Nat.le_trans (Nat.div_le_self _ _) hk) (fun d hd => by have := wgt_small k d hk1 hk (root k) (k / root k) hr.2; omega) J Jx W.heap.size hJ hY W ((b1.keep hW).cell 0) ((b2.keep hW).cell 0) ((b3.keep hW).cell 0) h0).mono ?_
  rintro e W' ⟨he, ⟨ys, rfl, hj⟩ | ⟨pre, _, hj⟩⟩
  · exact ⟨he, .inl ⟨_, rfl, hj⟩⟩
  · exact ⟨he, .inr ⟨_, trivial, hj⟩⟩
theorem u64_infoW : (Tryz.prog.info? 22).map (fun i => (i.zero, i.size, i.bytes)) = some (some (.int .u64 0), 1, 8) := by kernel_rfl
/-- A slice of words, and no error, is returned. -/
def WordsOut (zs : List Nat) (w : World) (e : Ending) (w' : World) : Prop := ∃ v, e = .returned (.tuple #[v, .int .i64 0]) ∧ w'.ownsRow w.heap.size 22 1 v zs.length (zs.map u64V) ∧ Below w.heap.size w w'
theorem keep3 {W w1 : World} {B B1 B2 B3 n1 : Nat} {v v' : Value} {e k : Nat} {xs : List Value} {tmp : Obj} (hrow : W.ownsRow n1 e 1 v k xs) (hgrow : (W.alloc tmp).grownBy w1 v.ownBlock) (hs : n1 ≤ W.heap.size)
    (h1 : B1 < n1) (h2 : B2 < n1) (h3 : B3 < n1) (q1 : B1 ≠ B) (q2 : B2 ≠ B) (q3 : B3 ≠ B) : Kp3 B1 B2 B3 W (w1.setCell ⟨B, 0, none⟩ v') := by
  intro b hb
  have hbn : b < n1 ∧ b ≠ B := by rcases hb with rfl | rfl | rfl <;> exact ⟨‹_›, ‹_›⟩
  have hne : some b ≠ v.ownBlock := fun e => by have := (hrow.lt b e.symm).1; omega
  rw [heap_setCell_other w1 ⟨B, 0, none⟩ b v' hbn.2, hgrow.block b (by simp; omega) hne, Below.heap_alloc W tmp b (by omega)]
theorem kp3_put {B1 B2 B3 : Nat} {w : World} (h1 : B1 < w.heap.size) (h2 : B2 < w.heap.size) (h3 : B3 < w.heap.size) (W : World) (l : Nat) (o o' : Obj) (hl : w.heap.size ≤ l) (_ : W.heap[l]? = some o) (_ : o.isCells = false) (_ : o.isWalk = false) : Kp3 B1 B2 B3 W (W.putObj l o') := by
  intro b hb
  exact World.putObj_heap_other (by rcases hb with rfl | rfl | rfl <;> omega)
theorem box_ne {W : World} {a b : Nat} {t u : TypeId} {x y : Array Value} (h : Box W a t x) (k : Box W b u y) (hne : t ≠ u) : a ≠ b := by
  intro e
  subst e
  unfold Box at h k
  rw [h] at k
  injection k with k
  injection k with _ ht
  exact hne ht
/-- The sum of weights, modulo 2^64. -/
def sumN (xs : List Nat) : Nat := xs.foldl (fun s x => (s + x) % 18446744073709551616) 0
theorem sumN_snoc (xs : List Nat) (x : Nat) : sumN (xs ++ [x]) = (sumN xs + x) % 18446744073709551616 := by simp [sumN]
/-- The sums of the first weights, one by one. -/
def tbl (xs : List Nat) : List Nat := (List.range xs.length).map fun i => sumN (xs.take (i + 1))
theorem tbl_snoc (xs : List Nat) (x : Nat) : tbl (xs ++ [x]) = tbl xs ++ [sumN (xs ++ [x])] := by
  unfold tbl
  rw [List.length_append, List.length_singleton, List.range_succ, List.map_append]
  congr 1
  · apply List.map_congr_left
    intro i hi
    have : i < xs.length := by simpa using hi
    rw [List.take_append_of_le_length (by omega)]
  · simp [List.take_of_length_le]
theorem wrap_nat (s x : Nat) : IntKind.u64.wrap ((s : Int) + (x : Int)) = (((s + x) % 18446744073709551616 : Nat) : Int) := by
  rw [IntKind.wrap_u64]; omega
theorem tbl_len (xs : List Nat) : (tbl xs).length = xs.length := by simp [tbl]
set_option maxRecDepth 100000 in
set_option maxHeartbeats 4000000 in
theorem tableN_in (k : Nat) (hk1 : 1 ≤ k) (hk : k ≤ 64) (w : World) : CallsIn Fence.wide 5 Tryz.prog 180 #[.int .i64 k] w (WordsOut (tbl (wgts k k)) w) := by
  obtain ⟨i0, hi, hz0, hz1, hz2⟩ := info_parts u64_infoW
  have H := Lib.hid (kmb_any k w)
  rw [kmb_yes (n := (k : Int)) (by omega)] at H
  have HWt := Lib.hid (weights_any k hk1 hk ((w.alloc (.cells #[.slice none 0 0] 137)).alloc (.cells #[.int .u64 0] 22)))
  refine callsIn_of_wp_marks Tryz.func180 rfl trivial ?_ rfl
  simp only [Tryz.ntmps180, List.size_toArray, List.length_cons, List.length_nil, Nat.reduceAdd, Nat.reduceSub, Array.replicate_succ, Array.replicate_zero, List.push_toArray, List.append_toArray, List.nil_append, List.cons_append]
  gi_wp2_with (refine ⟨trivial, ?_⟩; first | (gi_at_call 198; refine (callsIn_wide.2 H.out).mono ?_; rintro e w' ⟨rfl, rfl⟩) | (gi_at_call 199; refine (callsIn_wide.2 HWt.out).mono ?_; rintro e w1 ⟨B1, B2, B3, rfl, b1, b2, b3, hge, hb⟩))
  have bO : Boxed w1 w.heap.size 137 (.slice none 0 0) := ((Box.new w 137 #[.slice none 0 0]).alloc (.cells #[.int .u64 0] 22)).keep hb
  have bS : Boxed w1 (w.heap.size + 1) 22 (.int .u64 0) := by
    have := (Box.new (w.alloc (.cells #[.slice none 0 0] 137)) 22 #[.int .u64 0]).keep hb
    rwa [World.size_alloc] at this
  have hB0 : Below w.heap.size w w1 := chain (((Below.refl w.heap.size w).alloc (Nat.le_refl _) (.cells #[.slice none 0 0] 137)).alloc (by simp) (.cells #[.int .u64 0] 22)) hb
  simp only [World.size_alloc] at hge
  obtain ⟨p1, p2, p3⟩ := hge
  have l1 := b1.lt
  have l2 := b2.lt
  have l3 := b3.lt
  have lO := bO.lt
  have lS := bS.lt
  clear hb
  refine wpIn_rangeFunc_ownG rfl (by omega) (gf := 208) (lb := #[.pointer (some ⟨B1, 0, none⟩), .pointer (some ⟨B2, 0, none⟩), .pointer (some ⟨B3, 0, none⟩)]) rfl trivial (enters_of Tryz.func208 (by kernel_rfl) rfl)
    (weights_stops (5 - 1) (by omega) B1 B2 B3 k hk1 hk w1 b1 b2 b3) Kp3.trans (kp3_put l1 l2 l3) (Below.refl _ _) (fun _ => rfl)
    (fun pre W => (∃ v, Boxed W w.heap.size 137 v ∧ W.ownsRow w1.heap.size 22 1 v (tbl pre).length ((tbl pre).map u64V) ∧ True) ∧ (Boxed W (w.heap.size + 1) 22 (.int .u64 (sumN pre : Nat))) ∧ Below w.heap.size w W ∧ w1.heap.size ≤ W.heap.size)
    (fun _ _ _ => False)
    (OwnFrom.and (Own.from (holdsRow_own w1.heap.size w.heap.size 137 22 1 (fun pre : List Nat => (tbl pre).length) (fun pre : List Nat => (tbl pre).map u64V) (fun _ _ => True)) _) (OwnFrom.and (Own.from (boxed_own (w.heap.size + 1) 22 (fun pre : List Nat => .int .u64 (sumN pre : Nat))) _) (OwnFrom.and (ownFrom_below (Nat.le_refl _) (by omega)) (fun _ _ _ _ hs hg _ => Nat.le_trans hs hg.size))))
    (fun _ _ _ _ _ hs _ _ => hs)
    ⟨⟨_, bO, World.ownsRow_nil _ _ _ _, trivial⟩, bS, hB0, Nat.le_refl _⟩
    (fun x => { tmps := #[.int .i64 k, undef, .slice none 0 0, .int .i64 0, .pointer (some ⟨w.heap.size, 0, none⟩), .pointer (some ⟨w.heap.size + 1, 0, none⟩), .int .u64 (x : Int), .int .i64 k, .bool true, .bool false, .int .i64 k, .func (.func 208) #[] #[.pointer (some ⟨B1, 0, none⟩), .pointer (some ⟨B2, 0, none⟩), .pointer (some ⟨B3, 0, none⟩)], .int .u64 (x : Int), undef, undef, undef, undef, undef, undef, undef, undef], defers := [] }) ?assign ?body ?done ?stop
  case assign =>
    intro l x W K hK
    gi_wp2
    exact hK
  case body =>
    rintro l pre x W ⟨⟨v, hv, hrow, _⟩, hS, hB, hsz⟩ hlt
    have hq : some (w.heap.size + 1) ≠ v.ownBlock := fun e => by have := (hrow.lt _ e.symm).1; omega
    have HN := Lib.hid (sumN_snoc pre x)
    have HT := Lib.hid (tbl_snoc pre x)
    have HTL := Lib.hid (tbl_len pre)
    have hwn := wrap_nat (sumN pre) x
    rw [← HN.out] at hwn
    generalize hs' : sumN (pre ++ [x]) = s' at *
    have HE := Lib.hid hs'
    clear hs'
    generalize sumN pre = s0 at *
    have hv' := hv.other (B' := w.heap.size + 1) (by omega) (.int .u64 (s' : Int))
    have hS' : Boxed (W.setCell ⟨w.heap.size + 1, 0, none⟩ (.int .u64 (s' : Int))) (w.heap.size + 1) 22 (.int .u64 (s' : Int)) := hS.set _
    have hrow' := hrow.kept (grownBy_setCell' W (w.heap.size + 1) (.int .u64 (s' : Int))) (.inr hq.symm)
    have hB' := hB.setCell (p := ⟨w.heap.size + 1, 0, none⟩) (by simp) (.int .u64 (s' : Int))
    have hko : KeepsOthers W (W.setCell ⟨w.heap.size + 1, 0, none⟩ (.int .u64 (s' : Int))) := KeepsOthers.setCell _ _ _
    have hk1 : Kp3 B1 B2 B3 W (W.setCell ⟨w.heap.size + 1, 0, none⟩ (.int .u64 (s' : Int))) := fun b hb => heap_setCell_other _ _ _ _ (by rcases hb with rfl | rfl | rfl <;> (show _ ≠ w.heap.size + 1; omega))
    have hsz' : w1.heap.size ≤ (W.setCell ⟨w.heap.size + 1, 0, none⟩ (.int .u64 (s' : Int))).heap.size := Nat.le_trans hsz hko.size
    have e1 := hS.cell
    have e2 := hS.frozen
    have e3 := hv'.cell
    have e4 := hS'.cell
    have HKO := Lib.hid hko
    have HK1 := Lib.hid hk1
    have HTL2 := Lib.hid (show (tbl pre).length = pre.length from HTL.out)
    clear hk1 hko
    rw [HTL.out] at hrow'
    generalize hW' : W.setCell ⟨w.heap.size + 1, 0, none⟩ (.int .u64 (s' : Int)) = W' at *
    have HW' := Lib.hid hW'
    gi_wp2_with (gi_at_builtin; refine wpListIn_append_own _ rfl _ _ 137 rfl w1.heap.size 22 i0 (.int .u64 0) 1 8 Tryz.underlying137 hi hz0 hz1 hz2 rfl (by decide) _ _ _ rfl (hrow'.alloc _) ⟨W'.heap.size, 0, none⟩ 1 1 [.int .u64 (s' : Int)] rfl rfl (cell_one_new _ _ _) (by simp [Value.oneCell']) (by simp [maxLen]; omega) (by omega) (by simp; omega) ?_; intro v' w2 hown' hgrow _; obtain ⟨g', cap', rfl⟩ := ownsRow_succ hown'; obtain ⟨hv1, hv2, hr2, hk2, hb2⟩ := hv'.appended (by decide) (own_low hrow' (by omega)) hB'.size (Nat.le_refl _) (own_low hown' (by omega)) hgrow; have hr3 := hown'.kept (grownBy_setCell' w2 w.heap.size (.slice (some ⟨g', 0, none⟩) (pre.length + 1) cap')) (.inr (hv1.not_row (by decide) hown').symm); have hkp := keep3 (B := w.heap.size) (v' := .slice (some ⟨g', 0, none⟩) (pre.length + 1) cap') hrow' hgrow hsz' l1 l2 l3 (by omega) (by omega) (by omega); have hc1 := hv1.cell; have hf1 := hv1.frozen)
    have hS3 := ((hS'.alloc _).kept hgrow hq).other (B' := w.heap.size) (by omega) (.slice (some ⟨g', 0, none⟩) (pre.length + 1) cap')
    refine ⟨(HKO.out.trans hk2).from _, HK1.out.trans hkp, ⟨_, hv2, ?_, trivial⟩, ?_, hB'.trans hb2, Nat.le_trans hsz' hk2.size⟩
    · rw [HT.out, List.length_append, HTL.out, List.map_append]
      exact hr3
    · rw [HE.out]; exact hS3
  case done =>
    rintro D ys W hD rfl ⟨⟨v, hv, hrow, _⟩, hS, hB, hsz⟩ hK
    have hc := hv.cell
    gi_wp2
    refine ⟨by simp, .inl ⟨_, _, rfl, run_takeDeferred hK, ?_⟩⟩
    exact ⟨_, results_tmp2 rfl _ _ _, v, rfl, own_low (ownsRow_putObj hrow _ hK rfl) (by omega), hB.trans (belowK_b (w := w) (Nat.le_refl _) W D _ _ (by omega) hK rfl rfl)⟩
  case stop =>
    rintro D c pre W _ _ h _
    exact h.elim
theorem tableN_any (k : Nat) (hk1 : 1 ≤ k) (hk : k ≤ 64) (w : World) : Calls Tryz.prog 180 #[.int .i64 k] w (WordsOut (tbl (wgts k k)) w) := callsIn_wide.1 (tableN_in k hk1 hk w)
end
section
/- Contracts of layer 7: tableMayBe, Pick, the law's alive. -/
set_option linter.unusedVariables false
set_option linter.unusedSimpArgs false
open Go.RowKit
def lastOf (ws : List Nat) (k : Nat) : Nat := if k = 0 then 0 else ws.getD (k - 1) 0
theorem lastOf_succ (ws : List Nat) (k : Nat) : lastOf ws (k + 1) = ws.getD k 0 := by simp [lastOf]
theorem rises_no (ws : List Nat) (k : Nat) (hk : k < ws.length) (h : ws.getD k 0 ≤ lastOf ws k) : risesFrom 0 ws = false := by
  refine rises_stop ws (k + 1) (by omega) ?_
  rw [rises_take ws 0 k hk]
  have : ¬ ((if k = 0 then 0 else ws.getD (k - 1) 0) < ws.getD k 0) := by unfold lastOf at h; omega
  simp only [this, decide_false, Bool.and_false]
theorem rises_go (ws : List Nat) (k : Nat) (hk : k < ws.length) (h : ¬ ws.getD k 0 ≤ lastOf ws k) (ht : risesFrom 0 (ws.take k) = true) : risesFrom 0 (ws.take (k + 1)) = true := by
  rw [rises_take ws 0 k hk, ht]
  have : ((if k = 0 then 0 else ws.getD (k - 1) 0) < ws.getD k 0) := by unfold lastOf at h; omega
  simp only [this, decide_true, Bool.and_self]
set_option maxHeartbeats 1000000 in
theorem table_any (A : Option Addr) (l c : Nat) (ws : List Nat) (w : World) (hw : Words w A l ws) (hl : l ≤ maxLen) :
    Calls Tryz.prog 200 #[.slice A l c] w fun e w' => e = .returned (.bool (tabB ws)) ∧ w = w' := by
  unfold maxLen at hl
  have hlen := hw.1
  by_cases h0 : l = 0
  · have e : tabB ws = false := by simp [tabB, hlen, h0]
    rw [e]; subst h0
    clear e hlen hw
    go_enter Tryz.func200, Tryz.ntmps200
    go_wp2
    go_ret
    exact ⟨rfl, rfl⟩
  · by_cases h64 : 64 < l
    · have e : tabB ws = false := by simp [tabB, hlen]; omega
      rw [e]
      clear e hlen hw
      have t1 : ((l : Int) == 0) = false := by simpa using h0
      have t2 : (64 : Int) < l := by omega
      go_enter Tryz.func200, Tryz.ntmps200
      go_wp2
      go_ret
      exact ⟨rfl, rfl⟩
    · have e : tabB ws = risesFrom 0 ws := by simp [tabB, hlen, show 1 ≤ l by omega, show l ≤ 64 by omega]
      rw [e]
      clear e
      have t1 : ((l : Int) == 0) = false := by simpa using h0
      have t2 : ¬ (64 : Int) < l := by omega
      have HL := Lib.hid hlen
      have HW := Lib.hid hw
      clear hlen hw
      go_enter Tryz.func200, Tryz.ntmps200
      go_wp2_with fail
      go_loop [3, 16] (fun v i => ∃ k : Nat, k ≤ l ∧ i = .int .i64 k ∧ v = .int .u64 (lastOf ws k : Nat) ∧ Hid (risesFrom 0 (ws.take k) = true)) (fun _ i => l - (intOf i).toNat)
      case atStart => exact ⟨0, by omega, rfl, rfl, Lib.hid (by simp [risesFrom])⟩
      case round =>
        obtain ⟨k, hk, rfl, rfl, HN⟩ := hrel
        by_cases hlt : k < l
        · have hkl' : (k : Int) < (l : Int) := by omega
          obtain ⟨b, off, rfl, hb, hc⟩ := HW.out.2.2 (by omega)
          have c1 := hc k hlt
          clear hc
          have HS := Lib.hid (lastOf_succ ws k)
          by_cases hx : ws.getD k 0 ≤ lastOf ws k
          · have HE := Lib.hid (rises_no ws k (by rw [HL.out]; exact hlt) hx)
            generalize ws.getD k 0 = x at *
            generalize lastOf ws k = y at *
            have t : (x : Int) ≤ (y : Int) := by omega
            go_wp2
            go_ret
            exact ⟨by rw [HE.out]; rfl, rfl⟩
          · have HE := Lib.hid (rises_go ws k (by rw [HL.out]; exact hlt) hx HN.out)
            generalize ws.getD k 0 = x at *
            generalize lastOf ws k = y at *
            have t : ¬ (x : Int) ≤ (y : Int) := by omega
            go_wp2
            go_round
            case rel => exact ⟨k + 1, by omega, by go_num, by rw [HS.out], HE⟩
            case measure => simp [intOf] <;> omega
        · obtain rfl : l = k := by omega
          have hkl' : ¬ (l : Int) < (l : Int) := by omega
          have HE := Lib.hid (show risesFrom 0 ws = true by have := HN.out; rwa [List.take_of_length_le (by rw [HL.out]; omega)] at this)
          go_wp2
          go_ret
          exact ⟨by rw [HE.out]; rfl, rfl⟩
/-- The degree that a number picks of a table. -/
def pickD (ws : List Nat) (n : Nat) : Nat := pickN ws (n % ws.getD (ws.length - 1) 0) + 1
theorem tab_at {ws : List Nat} (h : tabB ws = true) : 1 ≤ ws.length ∧ ws.length ≤ 64 ∧ risesFrom 0 ws = true := by
  simp only [tabB, Bool.and_eq_true, decide_eq_true_eq] at h
  exact ⟨h.1.1, h.1.2, h.2⟩
theorem pickF_any (bt bn b off l c n i : Nat) (x : Nat) (W : World) (hi : i < l) (hl : l ≤ 64) (hlc : l ≤ c) (ht : W.cell? ⟨bt, 0, none⟩ = some (.slice (some ⟨b, off, none⟩) l c)) (hn : W.cell? ⟨bn, 0, none⟩ = some (.int .u64 n)) (hc : W.cell? ⟨b, off + i, none⟩ = some (.int .u64 x)) :
    Calls Tryz.prog 202 (#[.int .i64 i] ++ #[.pointer (some ⟨bt, 0, none⟩), .pointer (some ⟨bn, 0, none⟩)]) W fun e w' => e = .returned (.bool (decide (n < x))) ∧ ∃ q, w' = W.drewN q := by
  have e : decide (n < x) = decide ((n : Int) < (x : Int)) := decide_eq_decide.2 (by omega)
  have hiz : (i : Int) < (l : Int) := by omega
  rw [e]
  go_enter Tryz.func202, Tryz.ntmps202
  go_wp2
  go_region
  all_goals go_wp2
  all_goals go_ret
  all_goals exact ⟨by first | rfl | simp, 1, rfl⟩
theorem pickS_any (g1 g2 b off l c r : Nat) (ws : List Nat) (W : World) (t1 t2 : TypeId) (bt : Box W g1 t1 #[.slice (some ⟨b, off, none⟩) l c]) (bn : Box W g2 t2 #[.int .u64 (r : Int)]) (hb : b < W.heap.size)
    (hc : ∀ j, j < l → W.cell? ⟨b, off + j, none⟩ = some (.int .u64 (ws.getD j 0 : Nat))) (hl : ws.length = l) (h64 : l ≤ 64) (hlc : l ≤ c) (hm : ∀ a b, a ≤ b → b < ws.length → ws.getD a 0 ≤ ws.getD b 0) :
    Calls Tryz.prog 201 #[.int .i64 l, .func (.func 202) #[] #[.pointer (some ⟨g1, 0, none⟩), .pointer (some ⟨g2, 0, none⟩)]] W fun e w' => e = .returned (.int .i64 (pickN ws r : Nat)) ∧ Below W.heap.size W w' := by
  have eg : ∀ args w, (callFunc 202 args).run Tryz.prog w = .ok (.enter 202 args) w := enters_of Tryz.func202 (by kernel_rfl) rfl
  have hf : Asks Tryz.prog 202 #[.pointer (some ⟨g1, 0, none⟩), .pointer (some ⟨g2, 0, none⟩)] l (fun i => decide (r < ws.getD i 0)) W := fun W' i hi hb2 =>
    (pickF_any g1 g2 b off l c r i (ws.getD i 0) W' hi h64 hlc ((bt.keep hb2).cell 0) ((bn.keep hb2).cell 0) ((hb2.cell (p := ⟨b, off + i, none⟩) hb).trans (hc i hi))).mono fun _ _ ⟨he, q, hq⟩ => ⟨he, by rw [hq]; exact bdN hb2 q⟩
  have hS := search_any 202 _ l _ W eg (by omega) hf (fun a b hab hbl h => by
    have := hm a b hab (by omega)
    have h' : r < ws.getD a 0 := of_decide_eq_true h
    exact decide_eq_true (by omega))
  have e : (List.range l).countP (fun i => !decide (r < ws.getD i 0)) = pickN ws r := by rw [pickN, hl]
  rw [e] at hS
  exact hS
theorem pickN_le (ws : List Nat) (n : Nat) : pickN ws n ≤ ws.length := by
  have := List.countP_le_length (p := fun i => !decide (n < ws.getD i 0)) (l := List.range ws.length)
  simpa [pickN] using this
theorem last_pos {ws : List Nat} (h : tabB ws = true) : 0 < ws.getD (ws.length - 1) 0 := by
  obtain ⟨h1, _, h3⟩ := tab_at h
  exact (rises_at ws 0 (ws.length - 1) h3 (by omega)).1
set_option maxHeartbeats 1000000 in
theorem pick_yes (A : Option Addr) (l c : Nat) (ws : List Nat) (n : Nat) (w : World) (hw : Words w A l ws) (hl : l ≤ maxLen) (hlc : l ≤ c) (hn : n < 18446744073709551616) (ht : tabB ws = true) :
    Calls Tryz.prog 181 #[.slice A l c, .int .u64 n] w fun e w' => e = .returned (.tuple #[.int .i64 (pickD ws n : Nat), .int .i64 0]) ∧ Below w.heap.size w w' := by
  obtain ⟨h1, h64, hr⟩ := tab_at ht
  have hp := last_pos ht
  have H := Lib.hid (table_any A l c ws _ ((hw.alloc (.cells #[.slice A l c] 137)).alloc (.cells #[.int .u64 n] 22)) hl)
  rw [ht] at H
  have hlen := hw.1
  rw [hlen] at h1 h64 hp
  have hlt := hw.2.1 (l - 1)
  obtain ⟨b, off, rfl, hb, hc⟩ := hw.2.2 h1
  have c1 : ((w.alloc (.cells #[.slice (some ⟨b, off, none⟩) l c] 137)).alloc (.cells #[.int .u64 n] 22)).cell? ⟨b, off + (l - 1), none⟩ = some (.int .u64 (ws.getD (l - 1) 0 : Nat)) :=
    ((((Below.refl w.heap.size w).alloc (Nat.le_refl _) _).alloc (by simp) _).cell (p := ⟨b, off + (l - 1), none⟩) hb).trans (hc (l - 1) (by omega))
  have B1 : Below w.heap.size w ((w.alloc (.cells #[.slice (some ⟨b, off, none⟩) l c] 137)).alloc (.cells #[.int .u64 n] 22)) := ((Below.refl w.heap.size w).alloc (Nat.le_refl _) _).alloc (by simp) _
  have bt := (Box.new w 137 #[.slice (some ⟨b, off, none⟩) l c]).alloc (.cells #[.int .u64 n] 22)
  have bn := Box.new (w.alloc (.cells #[.slice (some ⟨b, off, none⟩) l c] 137)) 22 #[.int .u64 n]
  simp only [World.size_alloc] at bn
  have HM := Lib.hid (rises_mono ws hr)
  have HC := Lib.hid hc
  have HB := Lib.hid hb
  have HL := Lib.hid hlen
  clear hw hc hb hlen ht hr
  go_enter Tryz.func181, Tryz.ntmps181
  go_wp2_with fail
  refine H.out.mono ?_
  rintro e w1 ⟨rfl, rfl⟩
  clear H
  go_wp2_with fail
  generalize (w.alloc (.cells #[.slice (some ⟨b, off, none⟩) l c] 137)).alloc (.cells #[.int .u64 n] 22) = W1 at *
  have k1 := bt.cell 0
  have k2 := bn.cell 0
  have k3 := bn.free 0
  have g1 : (1 : Int) ≤ l := by omega
  have g2 : (l : Int) ≤ 64 := by omega
  have g3 : ((l : Int) - 1).toNat = l - 1 := by omega
  have HX := Lib.hid (show ws.getD (l - 1) 0 = ws.getD (ws.length - 1) 0 by rw [HL.out])
  have HT := Lib.hid bt
  have HN := Lib.hid bn
  have BB := Lib.hid B1
  clear bt bn B1
  generalize ws.getD (l - 1) 0 = x at *
  have g4 : (0 : Int) < x := by omega
  have g5 : (x : Int) ≠ 0 := by omega
  have P2 := HN.out.put 0 (.int .u64 ((n : Int) % (x : Int)))
  have P1 := HT.out.far (p := ⟨w.heap.size + 1, 0, none⟩) (by simp) (.int .u64 ((n : Int) % (x : Int)))
  have PB := BB.out.setCell (p := ⟨w.heap.size + 1, 0, none⟩) (by simp) (.int .u64 ((n : Int) % (x : Int)))
  have HS := Lib.hid (pickS_any w.heap.size (w.heap.size + 1) b off l c (n % x) ws _ _ _ P1.drew (by have := P2.drew; rw [← Int.natCast_emod] at this; exact this) (Nat.lt_of_lt_of_le HB.out PB.size)
    (fun j hj => (PB.cell (p := ⟨b, off + j, none⟩) HB.out).trans (HC.out j hj)) HL.out h64 hlc HM.out)
  have HPB := Lib.hid PB
  have HPD := Lib.hid (show pickD ws n = pickN ws (n % x) + 1 by rw [pickD, ← HX.out])
  have hle := pickN_le ws (n % x)
  rw [HL.out] at hle
  generalize pickN ws (n % x) = r at *
  clear P1 P2 PB
  go_region
  go_wp2_with fail
  refine HS.out.mono ?_
  rintro e w1 ⟨rfl, hbel⟩
  have B2 := Lib.hid (HPB.out.drew.trans (hbel.mono HPB.out.size))
  clear hbel HS HPB
  go_wp2_with fail
  go_ret2
  exact ⟨by rw [HPD.out]; rfl, B2.out⟩
end
section
/- Plain mathematics of DegreeSums. -/
set_option linter.unusedVariables false
set_option linter.unusedSimpArgs false
open Go.RowKit
/-- The root of small numbers. -/
def rootS (k : Nat) : Nat := if k < 1 then 0 else if k < 4 then 1 else if k < 9 then 2 else if k < 16 then 3 else if k < 25 then 4 else if k < 36 then 5 else if k < 49 then 6 else if k < 64 then 7 else 8
theorem root_rootS (k : Nat) (hk : k ≤ 64) : root k = rootS k := by
  unfold rootS
  repeat' split
  all_goals exact (root_of k _ (by omega) (by omega) (by omega)).1
def wgtS (k d : Nat) : Nat := plainN d k + moreN d (k / rootS k) (rootS k) k
theorem wgts_S (k : Nat) (hk : k ≤ 64) : wgts k k = (List.range k).map fun i => wgtS k (i + 1) := by
  unfold wgts wgt wgtS
  rw [root_rootS k hk]
theorem tab_all : ∀ k : Fin 65, 1 ≤ k.val → tabB (tbl ((List.range k.val).map fun i => wgtS k.val (i + 1))) = true := by decide +kernel
theorem tab_k (k : Nat) (h1 : 1 ≤ k) (h2 : k ≤ 64) : tabB (tbl (wgts k k)) = true := by
  rw [wgts_S k h2]; exact tab_all ⟨k, by omega⟩ h1
theorem pick_range {ts : List Nat} (h : tabB ts = true) (n : Nat) : 1 ≤ pickD ts n ∧ pickD ts n ≤ ts.length := by
  obtain ⟨h1, _, hr⟩ := tab_at h
  have hp := last_pos h
  have hm := Nat.mod_lt n hp
  unfold pickD
  refine ⟨by omega, ?_⟩
  have : pickN ts (n % ts.getD (ts.length - 1) 0) < ts.length := by
    unfold pickN
    have hc := List.countP_le_length (p := fun i => !decide (n % ts.getD (ts.length - 1) 0 < ts.getD i 0)) (l := List.range ts.length)
    rcases Nat.lt_or_ge ((List.range ts.length).countP (fun i => !decide (n % ts.getD (ts.length - 1) 0 < ts.getD i 0))) ts.length with h | h
    · exact h
    · exfalso
      have e : (List.range ts.length).countP (fun i => !decide (n % ts.getD (ts.length - 1) 0 < ts.getD i 0)) = (List.range ts.length).length := Nat.le_antisymm hc (by rw [List.length_range]; exact h)
      have := List.countP_eq_length.1 e (ts.length - 1) (by simp; omega)
      simp at this
      have hm' : n % ts.getD (ts.length - 1) 0 < ts.getD (ts.length - 1) 0 := hm
      simp [List.getD] at hm'
      omega
  omega
theorem tbl_at (xs : List Nat) (i : Nat) (hi : i < xs.length) : (tbl xs).getD i 0 = sumN (xs.take (i + 1)) := by simp [tbl, List.getD, hi]
theorem sumN_take (xs : List Nat) (i : Nat) (hi : i < xs.length) : sumN (xs.take (i + 1)) = (sumN (xs.take i) + xs.getD i 0) % 18446744073709551616 := by
  rw [List.take_succ_eq_append_getElem hi, sumN_snoc]
  simp [List.getD, hi]
theorem sumN_lt (xs : List Nat) : sumN xs < 18446744073709551616 := by
  rcases List.eq_nil_or_concat xs with rfl | ⟨l, x, rfl⟩
  · simp [sumN]
  · rw [List.concat_eq_append, sumN_snoc]; exact Nat.mod_lt _ (by omega)
theorem own_slice {w : World} {base e n : Nat} {v : Value} {zs : List Nat} (h : w.ownsRow base e 1 v n (zs.map u64V)) (hz : ∀ j, zs.getD j 0 < 18446744073709551616) : ∃ A c, v = .slice A n c ∧ n ≤ c ∧ c ≤ maxLen ∧ Words w A n zs := by
  rcases h.2 with ⟨rfl, h0⟩ | ⟨g, cap, cur, rfl, hb, hh, hn, hm, hs, hx⟩
  · have hl : zs.length = n := by have := h.1; simpa using this
    subst h0
    obtain rfl : zs = [] := List.length_eq_zero_iff.1 hl
    exact ⟨none, 0, rfl, Nat.le_refl _, Nat.zero_le _, Words.nil _ _⟩
  · exact ⟨_, _, rfl, hn, hm, own_words h hz⟩
theorem tbl_lt (xs : List Nat) (j : Nat) : (tbl xs).getD j 0 < 18446744073709551616 := by
  by_cases h : j < xs.length
  · rw [tbl_at xs j h]; exact sumN_lt _
  · have : (tbl xs)[j]? = none := List.getElem?_eq_none (by rw [tbl_len]; omega)
    simp [List.getD, this]
theorem wgts_lt (k : Nat) (h1 : 1 ≤ k) (h2 : k ≤ 64) (j : Nat) : (wgts k k).getD j 0 < 18446744073709551616 := by
  by_cases h : j < k
  · have hr := (root_small ⟨k, by omega⟩ h1).2
    have := wgt_small k (j + 1) h1 h2 (root k) (k / root k) hr
    have e : (wgts k k).getD j 0 = wgt k (j + 1) := by simp [wgts, List.getD, h]
    rw [e, wgt]; omega
  · have : (wgts k k)[j]? = none := List.getElem?_eq_none (by rw [wgts_len]; omega)
    simp [List.getD, this]
end
section
/- Contracts of bitrow.joined, Xor, And. -/
set_option linter.unusedVariables false
set_option linter.unusedSimpArgs false
open Go.RowKit
theorem rightB_len8 {n : Int} {us : List Nat} (h : rightB n us = true) {l : Nat} (e : us.length = l) : l ≤ 8 := by
  simp only [rightB, Bool.and_eq_true, beq_iff_eq] at h
  have hn := (lmb_iff n).1 h.1.1
  have := h.1.2
  unfold nw at this
  omega
theorem rightB_len {n : Int} {us vs : List Nat} (h : rightB n us = true) (h2 : rightB n vs = true) {l k : Nat} (e : us.length = l) (e2 : vs.length = k) : k = l := by
  simp only [rightB, Bool.and_eq_true, beq_iff_eq] at h h2
  have := h.1.2
  have := h2.1.2
  omega
theorem uint64_info : (Tryz.prog.info? 22).map (fun i => (i.zero, i.size, i.bytes)) = some (some (.int .u64 0), 1, 8) := by kernel_rfl
theorem make_any (n : Nat) (hn : n ≤ 1000000) (w : World) :
    (Instr.makeSlice 137 (.int .i64 (n : Int)) (.int .i64 (n : Int))).run Tryz.prog w = .ok (.slice (some ⟨w.heap.size, 0, none⟩) n n) (w.alloc (.cells (numsA (List.replicate n 0)) 22)) := by
  obtain ⟨i0, hi, hz0, hz1, hz2⟩ := info_parts uint64_info
  exact make_words _ _ i0 Tryz.underlying137 hi hz0 hz1 hz2 n hn w
def part (g : Nat → Nat → Nat) (us vs : List Nat) (k : Nat) : List Nat := (List.zipWith g us vs).take k ++ List.replicate (us.length - k) 0
theorem part_zero (g : Nat → Nat → Nat) (us vs : List Nat) : part g us vs 0 = List.replicate us.length 0 := by simp [part]
theorem part_len (g : Nat → Nat → Nat) (us vs : List Nat) (j k : Nat) (hu : us.length = k) (hv : vs.length = k) : (part g us vs j).length = k := by
  simp [part]; omega
theorem part_get (g : Nat → Nat → Nat) (us vs : List Nat) (j i k : Nat) (hu : us.length = k) (hv : vs.length = k) (hi : i < k) (hj : j ≤ k) : (part g us vs j).getD i 0 = if i < j then g (us.getD i 0) (vs.getD i 0) else 0 := by
  unfold part
  have hl : ((List.zipWith g us vs).take j).length = j := by simp; omega
  by_cases h : i < j
  · rw [if_pos h]
    have h1 : i < us.length := by omega
    have h2 : i < vs.length := by omega
    simp only [List.getD, List.getElem?_append]
    rw [if_pos (by omega)]
    simp [h, h1, h2, List.getElem?_zipWith]
  · rw [if_neg h]
    simp only [List.getD, List.getElem?_append]
    rw [if_neg (by omega), List.getElem?_replicate]
    split <;> rfl
theorem part_fresh (g : Nat → Nat → Nat) (us vs : List Nat) (j k : Nat) (hu : us.length = k) (hv : vs.length = k) (hj : j < k) : (numsA (part g us vs j))[j]? = some (.int .u64 0) := by
  rw [numsA_get _ _ (by rw [part_len g us vs j k hu hv]; exact hj), part_get g us vs j j k hu hv hj (by omega)]
  simp
theorem part_set (g : Nat → Nat → Nat) (us vs : List Nat) (j k : Nat) (hu : us.length = k) (hv : vs.length = k) (hj : j < k) : (part g us vs j).set j (g (us.getD j 0) (vs.getD j 0)) = part g us vs (j + 1) := by
  apply List.ext_getElem
  · rw [List.length_set, part_len g us vs j k hu hv, part_len g us vs (j + 1) k hu hv]
  · intro i h1 h2
    have hi : i < k := by rw [part_len g us vs (j + 1) k hu hv] at h2; exact h2
    have e1 := part_get g us vs j i k hu hv hi (by omega)
    have e2 := part_get g us vs (j + 1) i k hu hv hi (by omega)
    have l1 : i < (part g us vs j).length := by rw [part_len g us vs j k hu hv]; exact hi
    simp only [List.getD, List.getElem?_eq_getElem l1, Option.getD_some] at e1
    simp only [List.getD, List.getElem?_eq_getElem h2, Option.getD_some] at e2
    rw [List.getElem_set, e2]
    by_cases e : j = i
    · subst e; simp [List.getD]
    · rw [if_neg e, e1]
      have : (i < j) ↔ (i < j + 1) := by omega
      simp only [this, List.getD]
theorem part_full (g : Nat → Nat → Nat) (us vs : List Nat) (k : Nat) (hu : us.length = k) (hv : vs.length = k) : part g us vs k = List.zipWith g us vs := by
  unfold part
  rw [List.take_of_length_le (by simp; omega), hu]
  simp
theorem xor1_any (x y : Nat) (hx : x < 18446744073709551616) (hy : y < 18446744073709551616) (w : World) : Calls Tryz.prog 196 #[.int .u64 x, .int .u64 y] w fun e w' => e = .returned (.int .u64 ((x ^^^ y : Nat) : Int)) ∧ w = w' := by
  go_enter Tryz.func196, Tryz.ntmps196
  go_wp2
  go_ret
  exact ⟨congrArg (fun z => Ending.returned (.int .u64 z)) (u64_xor_nat x y hx hy), rfl⟩
end
section
/- Contracts of bitrow.New and bitrow.Of. -/
set_option linter.unusedVariables false
set_option linter.unusedSimpArgs false
open Go.RowKit
/-- A new row of words of the call's own. -/
def NewOut (n : Int) (zs : List Nat) (w : World) (e : Ending) (w' : World) : Prop :=
  ∃ g, e = .returned (.tuple #[.agg #[.int .i64 n, .slice (some ⟨g, 0, none⟩) zs.length zs.length], .int .i64 0]) ∧ Box w' g 22 (numsA zs) ∧ w.heap.size ≤ g ∧ Below w.heap.size w w'
theorem new_yes (n : Nat) (h : lmb n = true) (w : World) : Calls Tryz.prog 173 #[.int .i64 n] w (NewOut n (List.replicate (nw n) 0) w) := by
  have hn := (lmb_iff n).1 h
  have hnw : nw n ≤ 8 := by unfold nw; omega
  have q := Box.new w 139 #[.int .i64 0, .slice none 0 0]
  have Q := Lib.hid q
  clear q
  have hmk := make_any (nw n) (by omega)
  go_enter Tryz.func173, Tryz.ntmps173
  go_wp2_with fail
  refine (lengthMayBe_any n _).mono ?_
  rintro e w' ⟨rfl, rfl⟩
  go_wp2_with fail
  refine (wordsFor_any n (by omega) _).mono ?_
  rintro e w' ⟨rfl, rfl⟩
  go_wp2
  have q := (Box.new w 139 #[.int .i64 n, .slice (some ⟨w.heap.size + 1, 0, none⟩) (nw n) (nw n)]).alloc (.cells (numsA (List.replicate (nw n) 0)) 22)
  have q2 := Box.new (w.alloc (.cells #[.int .i64 n, .slice (some ⟨w.heap.size + 1, 0, none⟩) (nw n) (nw n)] 139)) 22 (numsA (List.replicate (nw n) 0))
  simp only [World.size_alloc] at q2
  refine close_cell Tryz.results173 rfl rfl rfl q Tryz.underlying139 rfl (by kernel_rfl) ⟨w.heap.size + 1, by rw [List.length_replicate]; rfl, q2, by omega, ((Below.refl _ _).alloc (Nat.le_refl _) _).alloc (by simp) _⟩
def orBit (ws : List Nat) (p : Nat) : List Nat := ws.set (p / 64) (ws.getD (p / 64) 0 ||| 2 ^ (p % 64))
def ofBits (n : Nat) (ps : List Int) : List Nat := ps.foldl (fun ws p => orBit ws p.toNat) (List.replicate (nw n) 0)
def there (n : Int) (ps : List Int) : Bool := ps.all fun p => decide (0 ≤ p) && decide (p < n)
theorem orBit_length (ws : List Nat) (p : Nat) : (orBit ws p).length = ws.length := by simp [orBit]
theorem orBit_lt (ws : List Nat) (p : Nat) (h : ∀ j, ws.getD j 0 < 18446744073709551616) (j : Nat) : (orBit ws p).getD j 0 < 18446744073709551616 := by
  unfold orBit
  simp only [List.getD, List.getElem?_set]
  split
  · split
    · simp only [Option.getD_some]
      have := h (p / 64)
      exact Nat.or_lt_two_pow (n := 64) this (Nat.pow_lt_pow_right (by omega) (by omega))
    · simp
  · exact h j
theorem foldl_bits (ps : List Int) (ws : List Nat) (h : ∀ j, ws.getD j 0 < 18446744073709551616) : (ps.foldl (fun ws p => orBit ws p.toNat) ws).length = ws.length ∧ ∀ j, (ps.foldl (fun ws p => orBit ws p.toNat) ws).getD j 0 < 18446744073709551616 := by
  induction ps generalizing ws with
  | nil => exact ⟨rfl, h⟩
  | cons p ps ih =>
    have := ih (orBit ws p.toNat) (orBit_lt ws _ h)
    rw [orBit_length] at this
    exact this
theorem zeros_lt (n j : Nat) : (List.replicate n 0).getD j 0 < 18446744073709551616 := by
  simp [List.getD, List.getElem?_replicate]
  split <;> simp
theorem ofBits_len (n : Nat) (ps : List Int) : (ofBits n ps).length = nw n := by
  have := (foldl_bits ps (List.replicate (nw n) 0) (zeros_lt _)).1
  rw [List.length_replicate] at this
  exact this
theorem ofBits_lt (n : Nat) (ps : List Int) (j : Nat) : (ofBits n ps).getD j 0 < 18446744073709551616 := (foldl_bits ps _ (zeros_lt _)).2 j
theorem ofBits_snoc (n : Nat) (ps : List Int) (p : Int) : ofBits n (ps ++ [p]) = orBit (ofBits n ps) p.toNat := by simp [ofBits]
theorem take_one {α : Type} (l : List α) (k : Nat) (d : α) (h : k < l.length) : l.take (k + 1) = l.take k ++ [l.getD k d] := by
  rw [List.take_succ_eq_append_getElem h]; simp [List.getD, h]
theorem or_val (x r : Nat) (hx : x < 18446744073709551616) (hr : r < 64) : bits BinOp.or IntKind.u64 (x : Int) (IntKind.u64.wrap (2 ^ r)) = ((x ||| 2 ^ r : Nat) : Int) := by
  have hp : 2 ^ r < 2 ^ 64 := Nat.pow_lt_pow_right (by omega) hr
  have e : (2 : Int) ^ r % 18446744073709551616 = ((2 ^ r : Nat) : Int) := by
    have : (2 : Int) ^ r = ((2 ^ r : Nat) : Int) := by simp
    rw [this]
    generalize 2 ^ r = p at *
    omega
  rw [IntKind.wrap_u64, e, u64_or_nat _ _ hx hp]
end
section
/- Contract of the reference's Same: two rows are the same. -/
set_option linter.unusedVariables false
set_option linter.unusedSimpArgs false
open Go.RowKit
end
section
/- Contracts of layer 8: Places, Row. -/
set_option linter.unusedVariables false
set_option linter.unusedSimpArgs false
open Go.RowKit
/-- A symbol's state, how many blocks it has, and which. -/
def nbState (id : Nat) : Nat := nextS (mixN id)
def nbMany (k id : Nat) : Nat := pickD (tbl (wgts k k)) (mixN (nbState id))
def nbL (k id : Nat) : List Nat := someN k (nbMany k id) (nbState id)
theorem nbState_lt (id : Nat) : nbState id < 18446744073709551616 := nextS_lt _
theorem nbMany_range (k id : Nat) (h1 : 1 ≤ k) (h2 : k ≤ 64) : 1 ≤ nbMany k id ∧ nbMany k id ≤ k := by
  have := pick_range (tab_k k h1 h2) (mixN (nbState id))
  rw [tbl_len, wgts_len] at this
  exact this
theorem srcMay_any (k : Int) (w : World) : Calls Tryz.prog 146 #[.int .i64 k] w fun e w' => e = .returned (.bool (kmb k)) ∧ w = w' := by
  by_cases h : 1 ≤ k
  · by_cases h2 : k ≤ 64
    · rw [kmb_yes ⟨h, h2⟩]
      go_enter Tryz.func146, Tryz.ntmps146
      go_wp2
      go_ret
      exact ⟨rfl, rfl⟩
    · rw [kmb_no (fun x => h2 x.2)]
      have t : decide (k ≤ 64) = false := by simpa using h2
      go_enter Tryz.func146, Tryz.ntmps146
      go_wp2
      go_ret
      exact ⟨by simp, rfl⟩
  · rw [kmb_no (fun x => h x.1)]
    have t : decide (1 ≤ k) = false := by simpa using h
    go_enter Tryz.func146, Tryz.ntmps146
    go_wp2
    go_ret
    exact ⟨by simp, rfl⟩
/-- What places hands back. -/
def PlOut (k id : Nat) (w : World) (e : Ending) (w' : World) : Prop :=
  ∃ g c, e = .returned (.slice (some ⟨g, 0, none⟩) (nbMany k id) c) ∧ nbMany k id ≤ c ∧ NatsAt w' g (nbL k id) ∧ (nbL k id).length = nbMany k id ∧ w.heap.size ≤ g ∧ g < w'.heap.size ∧ Below w.heap.size w w'
set_option maxHeartbeats 1000000 in
theorem srcPlaces_any (k id : Nat) (h1 : 1 ≤ k) (h2 : k ≤ 64) (hi : id < 18446744073709551616) (w : World) : Calls Tryz.prog 161 #[.int .i64 k, .int .u64 id] w (PlOut k id w) := by
  have HST := Lib.hid (start_any id hi)
  have HNX := Lib.hid (next_any (mixN id) (mixN_lt id))
  have HTB := Lib.hid (tableN_any k h1 h2)
  have HR := Lib.hid (nbMany_range k id h1 h2)
  have HTK := Lib.hid (tab_k k h1 h2)
  have HTL := Lib.hid (show (tbl (wgts k k)).length = k by rw [tbl_len, wgts_len])
  have HTW := Lib.hid (tbl_lt (wgts k k))
  have HSM := Lib.hid (some_yes (nbState id) k (nbMany k id) (nbState_lt id) h1 (by omega) HR.out.2)
  have HX := Lib.hid (mixN_lt (nbState id))
  have HPK := Lib.hid (show nbMany k id = pickD (tbl (wgts k k)) (mixN (nbState id)) from rfl)
  go_enter Tryz.func161, Tryz.ntmps161
  go_wp2_with fail
  refine (HST.out _).mono ?_
  rintro e w1 ⟨rfl, rfl⟩
  go_wp2_with fail
  refine (HNX.out _).mono ?_
  rintro e w1 ⟨rfl, rfl⟩
  go_wp2_with fail
  refine (HTB.out _).mono ?_
  rintro e w1 ⟨v, rfl, hown, hb⟩
  rw [HTL.out] at hown
  obtain ⟨A, c, rfl, hlc, hcm, hw⟩ := own_slice hown HTW.out
  have HW := Lib.hid hw
  have B := Lib.hid hb
  clear hown hw hb HST HNX HTB
  go_wp2_with fail
  refine (pick_yes A k c _ _ _ HW.out (by unfold maxLen; omega) hlc HX.out HTK.out).mono ?_
  rintro e w2 ⟨rfl, hb⟩
  rw [← HPK.out]
  have B := Lib.hid (chain B.out hb)
  clear hb HW
  go_wp2_with fail
  refine (HSM.out _).mono ?_
  rintro e w3 ⟨g, c2, rfl, hc, hna, hl, hg0, hg1, hb⟩
  have B3 := Lib.hid (chain B.out hb)
  have hsz := B.out.size
  go_wp2_with fail
  go_ret
  exact ⟨g, c2, rfl, hc, hna, hl, by omega, hg1, B3.out⟩
/-- The row of a symbol's blocks. -/
def nbZ (k id : Nat) : List Int := castZ (nbL k id)
def nbRow (k id : Nat) : List Nat := ofBits k (nbZ k id)
theorem nb_there (k id : Nat) : there (k : Int) (nbZ k id) = true := by
  simp only [there, nbZ, castZ, List.all_eq_true, List.mem_map]
  rintro x ⟨y, hy, rfl⟩
  have := List.mem_filter.1 hy
  have h2 : y < k := by simpa using this.1
  simp; omega
theorem nb_len (k id : Nat) (h1 : 1 ≤ k) (h2 : k ≤ 64) : (nbL k id).length = nbMany k id := some_len k (nbMany k id) (nbState id) h1 (nbState_lt id) (nbMany_range k id h1 h2).2
theorem lmb_k (k : Nat) (h1 : 1 ≤ k) (h2 : k ≤ 64) : lmb (k : Int) = true := (lmb_iff _).2 ⟨by omega, by omega⟩
end
section
/- Rows of words that are a call's own: bitrow.Of so. -/
set_option linter.unusedVariables false
set_option linter.unusedSimpArgs false
open Go.RowKit
/-- A row of words in a block of words. -/
def OwnW (w : World) (A : Option Addr) (l c : Nat) (zs : List Nat) : Prop := w.ownsRow 0 22 1 (.slice A l c) l (zs.map u64V)
section
variable {w w' : World} {A : Option Addr} {l c : Nat} {zs : List Nat}
theorem OwnW.words (h : OwnW w A l c zs) (hz : ∀ j, zs.getD j 0 < 18446744073709551616) : Words w A l zs := own_words h hz
theorem OwnW.below (h : OwnW w A l c zs) (hb : Below w.heap.size w w') : OwnW w' A l c zs := own_keep h hb
theorem OwnW.alloc (h : OwnW w A l c zs) (o : Obj) : OwnW (w.alloc o) A l c zs := World.ownsRow.alloc h o
theorem OwnW.drew (h : OwnW w A l c zs) : OwnW w.drew A l c zs := h
theorem OwnW.far (h : OwnW w A l c zs) {g : Nat} {t : TypeId} {cs : Array Value} (hb : Box w g t cs) (hne : 22 ≠ t) (i : Nat) (u : Value) : OwnW (w.setCell ⟨g, i, none⟩ u) A l c zs := own_far h hb hne i u
theorem OwnW.put2 (h : OwnW w A l c zs) {g : Nat} {a b : Value} (hb : Box w g 139 #[a, b]) (u v : Value) : OwnW ((w.setCell ⟨g, 0, none⟩ u).setCell ⟨g, 1, none⟩ v) A l c zs :=
  (h.far hb (by decide) 0 u).far (hb.put 0 u) (by decide) 1 v
theorem OwnW.grown {v : Value} {base e size n : Nat} {xs : List Value} (h : OwnW w A l c zs) (ho : w.ownsRow base e size v n xs) (hne : e ≠ 22) (hg : w.grownBy w' v.ownBlock) : OwnW w' A l c zs := by
  refine World.ownsRow.kept h hg ?_
  rcases h.2 with ⟨h0, _⟩ | ⟨g, cap, cur, h0, _, hh, _⟩
  · left; rw [h0]; rfl
  · right
    rw [h0]
    exact fun e => own_ne ho hh hne e.symm
theorem Box.ownW {g n : Nat} (h : Box w g 22 (numsA zs)) (hl : zs.length = n) (hm : n ≤ maxLen) : OwnW w (some ⟨g, 0, none⟩) n n zs := by
  refine ⟨by simp [hl], .inr ⟨g, n, numsA zs, rfl, Nat.zero_le _, h, Nat.le_refl _, hm, by simp [numsA, hl], ?_⟩⟩
  have e1 : (numsA zs).toList = zs.map u64V := rfl
  rw [e1, List.take_of_length_le (by simp [hl])]
end
/-- What Of hands back, where each place is there. -/
def OwnOut (n : Int) (zs : List Nat) (w : World) (e : Ending) (w' : World) : Prop :=
  ∃ A l c, e = .returned (.tuple #[.agg #[.int .i64 n, .slice A l c], .int .i64 0]) ∧ OwnW w' A l c zs ∧ Below w.heap.size w w'
/-- What a function of one row hands back. -/
def OneOwn (n : Int) (zs : List Nat) (w : World) (e : Ending) (w' : World) : Prop :=
  ∃ A l c, e = .returned (.agg #[.int .i64 n, .slice A l c]) ∧ OwnW w' A l c zs ∧ Below w.heap.size w w'
set_option maxHeartbeats 1000000 in
theorem of_own (n : Nat) (A : Option Addr) (l c : Nat) (ps : List Int) (h : lmb n = true) (w : World) (hp : Ints w A l ps) (hl : l ≤ 9223372036854775807) (hth0 : there n ps = true) : Calls Tryz.prog 160 #[.int .i64 n, .slice A l c] w (OwnOut n (ofBits n ps) w) := by
  have Q := Lib.hid (Box.new w 139 #[.int .i64 0, .slice none 0 0])
  have HP := Lib.hid hp
  have HTH := Lib.hid hth0
  clear hth0
  have hn := (lmb_iff n).1 h
  have hnw : nw n ≤ 8 := by unfold nw; omega
  clear hp
  go_enter Tryz.func160, Tryz.ntmps160
  go_wp2_with fail
  refine (new_yes n h _).mono ?_
  clear h
  rintro e x1 ⟨g, rfl, hg, hgs, hb⟩
  have Q := Lib.hid (Q.out.keep hb)
  have HB := Lib.hid (chain ((Below.refl _ _).alloc (Nat.le_refl _) _) hb)
  have hz := Q.out.lt
  have hg1 := hg.lt
  have HG := Lib.hid hg
  rw [List.length_replicate]
  simp at hgs
  clear hb hg
  go_wp2
  have P0 := Lib.hid (Q.out.alloc (.cells #[.int .i64 n, .slice (some ⟨g, 0, none⟩) (nw n) (nw n)] 139))
  have P1 := Lib.hid (Box.new x1 139 #[.int .i64 n, .slice (some ⟨g, 0, none⟩) (nw n) (nw n)])
  have P2 := Lib.hid (HG.out.alloc (.cells #[.int .i64 n, .slice (some ⟨g, 0, none⟩) (nw n) (nw n)] 139))
  have P3 := Lib.hid (HB.out.alloc HB.out.size (.cells #[.int .i64 n, .slice (some ⟨g, 0, none⟩) (nw n) (nw n)] 139))
  clear Q HB HG
  go_loopw [21] (fun i wr => ∃ j : Nat, j ≤ l ∧ i = .int .i64 j ∧ there n (ps.take j) = true ∧ Box wr g 22 (numsA (ofBits n (ps.take j))) ∧ Box wr w.heap.size 139 #[.int .i64 0, .slice none 0 0] ∧ Box wr x1.heap.size 139 #[.int .i64 n, .slice (some ⟨g, 0, none⟩) (nw n) (nw n)] ∧ Below w.heap.size w wr)
    (fun i _ => l - (intOf i).toNat)
  case atStart => exact ⟨0, by omega, rfl, rfl, P2.out, P0.out, P1.out, P3.out⟩
  case round =>
    obtain ⟨j, hj, rfl, hth, B2, B0, B1, hbel⟩ := hrel
    have R0 := Lib.hid B0
    have R1 := Lib.hid B1
    have R2 := Lib.hid B2
    have HB := Lib.hid hbel
    have HT := Lib.hid hth
    clear B0 B1 B2 hbel hth P0 P1 P2 P3
    obtain ⟨a0, a1, f0, f1⟩ := R0.out.two
    obtain ⟨b0, b1, -, -⟩ := R1.out.two
    by_cases hlt : j < l
    · obtain ⟨q, o, rfl, lt1, hc1⟩ := HP.out.2.2 (by omega)
      have cu := (HB.out.cell (p := ⟨q, o + j, none⟩) lt1).trans (hc1 j hlt)
      obtain ⟨x, ex⟩ : ∃ x, x = ps.getD j 0 := ⟨_, rfl⟩
      rw [← ex] at cu
      have EX := Lib.hid ex
      clear ex hc1
      go_wp2_with fail
      refine (isPlace_any _ _ _ _ x _).mono ?_
      rintro e w2 ⟨rfl, hb⟩
      have S0 := Lib.hid (R0.out.keep hb)
      have S1 := Lib.hid (R1.out.keep hb)
      have S2 := Lib.hid (R2.out.keep hb)
      have HC := Lib.hid (chain HB.out hb)
      clear hb a0 a1 f0 f1 b0 b1 cu
      obtain ⟨a0, a1, f0, f1⟩ := S0.out.two
      obtain ⟨b0, b1, -, -⟩ := S1.out.two
      have htk : ps.take (j + 1) = ps.take j ++ [x] := by rw [EX.out]; exact take_one ps j 0 (by rw [HP.out.1]; exact hlt)
      have HTk := Lib.hid htk
      clear htk
      by_cases hx : 0 ≤ x ∧ x < n
      · obtain ⟨y, rfl⟩ := Int.eq_ofNat_of_zero_le hx.1
        have t0 : (decide (0 ≤ (y : Int)) && decide ((y : Int) < n)) = true := by simp; omega
        rw [t0]
        clear t0
        have hlen : (ofBits n (ps.take j)).length = nw n := ofBits_len n _
        have hy8 : y / 64 < nw n := by unfold nw; omega
        have hv := ofBits_lt n (ps.take j) (y / 64)
        have cg : w2.cell? ⟨g, y / 64, none⟩ = some (.int .u64 ((ofBits n (ps.take j)).getD (y / 64) 0 : Nat)) := by rw [S2.out.cell, numsA_get _ _ (by omega)]
        have fg := S2.out.free (y / 64)
        have P2 := Lib.hid ((S2.out.put (y / 64) (.int .u64 (((ofBits n (ps.take j)).getD (y / 64) 0 ||| 2 ^ (y % 64) : Nat) : Int))).drew)
        have HV := Lib.hid (or_val ((ofBits n (ps.take j)).getD (y / 64) 0) (y % 64) hv (by omega))
        have n1 : w.heap.size ≠ g := by omega
        have n2 : x1.heap.size ≠ g := by omega
        have P0 := Lib.hid ((S0.out.far (p := ⟨g, y / 64, none⟩) n1 (.int .u64 (((ofBits n (ps.take j)).getD (y / 64) 0 ||| 2 ^ (y % 64) : Nat) : Int))).drew)
        have P1 := Lib.hid ((S1.out.far (p := ⟨g, y / 64, none⟩) n2 (.int .u64 (((ofBits n (ps.take j)).getD (y / 64) 0 ||| 2 ^ (y % 64) : Nat) : Int))).drew)
        have P3 := Lib.hid ((HC.out.setCell (p := ⟨g, y / 64, none⟩) (by simp; omega) (.int .u64 (((ofBits n (ps.take j)).getD (y / 64) 0 ||| 2 ^ (y % 64) : Nat) : Int))).drew)
        have H4 : Hid (there n (ps.take (j + 1)) = true) := by
          show there n (ps.take (j + 1)) = true
          rw [HTk.out]
          have := HT.out
          simp only [there, List.all_append, Bool.and_eq_true] at this ⊢
          exact ⟨this, by simp; omega⟩
        have H5 : Hid ((numsA (ofBits n (ps.take j))).setIfInBounds (y / 64) (.int .u64 (((ofBits n (ps.take j)).getD (y / 64) 0 ||| 2 ^ (y % 64) : Nat) : Int)) = numsA (ofBits n (ps.take (j + 1)))) := by
          show _ = _
          rw [numsA_set, HTk.out, ofBits_snoc]; rfl
        generalize (ofBits n (ps.take j)).getD (y / 64) 0 = v at *
        go_wp2
        have g1 : (y : Int).tdiv 64 = ((y / 64 : Nat) : Int) := by rw [Int.tdiv_eq_ediv_of_nonneg (by omega)]; omega
        have g2 : (y : Int).tmod 64 = ((y % 64 : Nat) : Int) := by rw [Int.tmod_eq_emod_of_nonneg (by omega)]; omega
        have g3 : IntKind.i64.wrap ((y / 64 : Nat) : Int) = ((y / 64 : Nat) : Int) := IntWalk.i64_in _ (by omega)
        have g4 : (0 : Int) ≤ ((y / 64 : Nat) : Int) := by omega
        have g5 : ((y / 64 : Nat) : Int) < (nw n : Int) := by omega
        go_region
        rw [HV.out]
        clear g1 g2 g3 g4 g5 a0 a1 f0 f1 b0 b1 cg fg
        generalize (w2.setCell ⟨g, y / 64, none⟩ (.int .u64 ((v ||| 2 ^ (y % 64) : Nat) : Int))).drew = wn at *
        go_wp2
        go_roundw
        case rel => exact ⟨j + 1, by omega, by go_num, H4.out, by have := P2.out; rw [H5.out] at this; exact this, P0.out, P1.out, P3.out⟩
        case measure => simp [intOf]; omega
      · have t0 : (decide (0 ≤ x) && decide (x < n)) = false := by simp; omega
        rw [t0]
        clear t0
        have H4 : Hid (there n ps = false) := by
          show there n ps = false
          rw [← List.take_append_drop (j + 1) ps, HTk.out]
          have : (decide (0 ≤ x) && decide (x < n)) = false := by simp; omega
          simp [there, List.all_append, this]
        exact absurd HTH.out (by rw [H4.out]; decide)
    · obtain rfl : j = l := by omega
      have H4 : Hid (ps.take j = ps) := by
        show ps.take j = ps
        exact List.take_of_length_le (by rw [HP.out.1]; omega)
      go_wp2
      refine close_cell Tryz.results160 rfl rfl rfl R0.out.put2 Tryz.underlying139 rfl (by kernel_rfl) ?_
      have h6 := R2.out
      rw [H4.out] at h6
      have n1 : g ≠ w.heap.size := by omega
      have hw := (h6.far (p := ⟨w.heap.size, 0, none⟩) n1 (.int .i64 n)).far (p := ⟨w.heap.size, 1, none⟩) n1 (.slice (some ⟨g, 0, none⟩) (nw n) (nw n))
      exact ⟨_, _, _, rfl, hw.ownW (ofBits_len n ps) (by unfold maxLen; omega), (HB.out.setCell (p := ⟨w.heap.size, 0, none⟩) (Nat.le_refl _) _).setCell (p := ⟨w.heap.size, 1, none⟩) (Nat.le_refl _) _⟩
end
section
/- Rows of words that are a call's own: bitrow.Of and source.row so. -/
set_option linter.unusedVariables false
set_option linter.unusedSimpArgs false
open Go.RowKit
set_option maxHeartbeats 1000000 in
theorem srcRow_own (k id : Nat) (h1 : 1 ≤ k) (h2 : k ≤ 64) (hi : id < 18446744073709551616) (w : World) : Calls Tryz.prog 147 #[.int .i64 k, .int .u64 id] w (OneOwn k (nbRow k id) w) := by
  have HS := Lib.hid (srcPlaces_any k id h1 h2 hi)
  have HM := Lib.hid (nbMany_range k id h1 h2)
  have HN := Lib.hid (lmb_k k h1 h2)
  have HT := Lib.hid (nb_there k id)
  have q0 := Box.new w 139 #[.int .i64 0, .slice none 0 0]
  have Q0 := Lib.hid q0
  have HW := Lib.hid (show Below w.heap.size w (w.alloc (.cells #[.int .i64 0, .slice none 0 0] 139)) from (Below.refl _ _).alloc (Nat.le_refl _) _)
  clear q0
  go_enter Tryz.func147, Tryz.ntmps147
  go_wp2_with fail
  refine (HS.out _).mono ?_
  rintro e w1 ⟨g, c, rfl, hc, hna, hl, hg0, hg1, hb⟩
  have Q0 := Lib.hid (Q0.out.keep hb)
  have HW := Lib.hid (chain HW.out hb)
  have HI := Lib.hid (nats_ints hna hl hg1 (some_bound k _ _ (by omega)))
  clear hna hb
  go_wp2_with fail
  refine (of_own k (some ⟨g, 0, none⟩) (nbMany k id) c (nbZ k id) HN.out _ HI.out (by have := HM.out.2; omega) HT.out).mono ?_
  rintro e w2 ⟨A, l, c2, rfl, hw, hb⟩
  have P0 := Lib.hid ((Q0.out.keep hb).alloc (.cells #[.int .i64 k, .slice A l c2] 139))
  have T1 := Lib.hid ((chain HW.out hb).alloc (chain HW.out hb).size (.cells #[.int .i64 k, .slice A l c2] 139))
  have HWo := Lib.hid (hw.alloc (.cells #[.int .i64 k, .slice A l c2] 139))
  clear hw hb
  obtain ⟨r0, r1, r2, r3⟩ := P0.out.two
  go_wp2
  refine close_one Tryz.results147 rfl rfl P0.out.put2 Tryz.underlying139 rfl (by kernel_rfl) ⟨_, _, _, rfl, HWo.out.put2 P0.out _ _, ?_⟩
  exact (T1.out.setCell (p := ⟨w.heap.size, 0, none⟩) (Nat.le_refl _) _).setCell (p := ⟨w.heap.size, 1, none⟩) (Nat.le_refl _) _
end
section
/- neighbours.Rows: the rows of several symbols. -/
set_option linter.unusedVariables false
set_option linter.unusedSimpArgs false
open Go.RowKit
theorem own_drew {w : World} {base e size n : Nat} {v : Value} {xs : List Value} (h : w.ownsRow base e size v n xs) : w.drew.ownsRow base e size v n xs := h
def flatR (k : Int) (rs : List (Option Addr × Nat × Nat)) : List Value := rs.flatMap fun r => [.int .i64 k, .slice r.1 r.2.1 r.2.2]
theorem flatR_snoc (k : Int) (rs : List (Option Addr × Nat × Nat)) (A : Option Addr) (l c : Nat) : flatR k (rs ++ [(A, l, c)]) = flatR k rs ++ [.int .i64 k, .slice A l c] := by simp [flatR]
/-- A row of rows of the call's own: each of k bits, and of these words. -/
def MatW (w : World) (base : Nat) (k : Int) (v : Value) (ls : List (List Nat)) : Prop :=
  ∃ rs, rs.length = ls.length ∧ w.ownsRow base 139 2 v ls.length (flatR k rs) ∧ ∀ j, j < ls.length → OwnW w (rs.getD j (none, 0, 0)).1 (rs.getD j (none, 0, 0)).2.1 (rs.getD j (none, 0, 0)).2.2 (ls.getD j [])
theorem MatW.nil (w : World) (base : Nat) (k : Int) : MatW w base k (.slice none 0 0) [] := ⟨[], rfl, World.ownsRow_nil _ _ _ _, fun j hj => by cases hj⟩
theorem MatW.below {w w' : World} {base : Nat} {k : Int} {v : Value} {ls : List (List Nat)} (h : MatW w base k v ls) (hb : Below w.heap.size w w') : MatW w' base k v ls := by
  obtain ⟨rs, h1, h2, h3⟩ := h
  exact ⟨rs, h1, own_keep h2 hb, fun j hj => (h3 j hj).below hb⟩
theorem MatW.alloc {w : World} {base : Nat} {k : Int} {v : Value} {ls : List (List Nat)} (h : MatW w base k v ls) (o : Obj) : MatW (w.alloc o) base k v ls := h.below ((Below.refl _ _).alloc (Nat.le_refl _) o)
theorem MatW.far {w : World} {base : Nat} {k : Int} {v : Value} {ls : List (List Nat)} (h : MatW w base k v ls) {g : Nat} {t : TypeId} {cs : Array Value} (hb : Box w g t cs) (hne : 22 ≠ t) (hne2 : 139 ≠ t) (i : Nat) (u : Value) : MatW (w.setCell ⟨g, i, none⟩ u) base k v ls := by
  obtain ⟨rs, h1, h2, h3⟩ := h
  exact ⟨rs, h1, own_far h2 hb hne2 i u, fun j hj => (h3 j hj).far hb hne i u⟩
theorem MatW.snoc {w : World} {base : Nat} {k : Int} {v : Value} {rs : List (Option Addr × Nat × Nat)} {ls : List (List Nat)} {A : Option Addr} {l c : Nat} {z : List Nat} (h1 : rs.length = ls.length) (h2 : w.ownsRow base 139 2 v (ls.length + 1) (flatR k rs ++ [.int .i64 k, .slice A l c]))
    (h3 : ∀ j, j < ls.length → OwnW w (rs.getD j (none, 0, 0)).1 (rs.getD j (none, 0, 0)).2.1 (rs.getD j (none, 0, 0)).2.2 (ls.getD j [])) (h4 : OwnW w A l c z) : MatW w base k v (ls ++ [z]) := by
  refine ⟨rs ++ [(A, l, c)], by simp [h1], ?_, fun j hj => ?_⟩
  · rw [flatR_snoc, List.length_append]; exact h2
  · rw [List.length_append] at hj
    simp only [List.length_cons, List.length_nil] at hj
    by_cases h : j < ls.length
    · have := h3 j h
      simp only [List.getD, List.getElem?_append_left h, List.getElem?_append_left (h1 ▸ h)] at this ⊢
      exact this
    · obtain rfl : j = ls.length := by omega
      have e1 : (rs ++ [(A, l, c)]).getD ls.length (none, 0, 0) = (A, l, c) := by rw [← h1]; simp [List.getD]
      have e2 : (ls ++ [z]).getD ls.length [] = z := by simp [List.getD]
      rw [e1, e2]; exact h4
theorem row_info : (Tryz.prog.info? 139).map (fun i => (i.zero, i.size, i.bytes)) = some (some (.agg #[.int .i64 0, .slice none 0 0]), 2, 32) := by kernel_rfl
/-- What Rows hands back. -/
def MatOut (k : Nat) (f : Nat → List Nat) (zs : List Nat) (w : World) (e : Ending) (w' : World) : Prop :=
  ∃ v, e = .returned (.tuple #[.agg #[.int .i64 k, v], .int .i64 0]) ∧ MatW w' w.heap.size k v (zs.map f) ∧ Below w.heap.size w w'
set_option maxRecDepth 100000 in
set_option maxHeartbeats 2000000 in
theorem rows_gen (k : Nat) (f : Nat → List Nat) (hk : 1 ≤ k ∧ k ≤ 64) (hM : ∀ w, Calls Tryz.prog 146 #[.int .i64 k] w fun e w' => e = .returned (.bool true) ∧ w = w')
    (hS : ∀ id : Nat, id < 18446744073709551616 → ∀ w, Calls Tryz.prog 147 #[.int .i64 k, .int .u64 id] w (OneOwn k (f id) w))
    (A : Option Addr) (l c : Nat) (zs : List Nat) (w : World) (hz : Words w A l zs) (hl : l ≤ 64) :
    Calls Tryz.prog 134 #[.int .i64 k, .slice A l c] w (MatOut k f zs w) := by
  have HM := Lib.hid hM
  have HS := Lib.hid hS
  have HZ := Lib.hid hz
  clear hM hS hz
  have hl2 : ¬ (64 : Int) < l := by omega
  obtain ⟨i0, hi, hz0, hz1, hz2⟩ := info_parts row_info
  have HI := Lib.hid hi
  have HZ0 := Lib.hid hz0
  have HZ1 := Lib.hid hz1
  have HZ2 := Lib.hid hz2
  clear hi hz0 hz1 hz2
  have Q0 := Lib.hid ((Box.new w 102 #[.int .i64 0, .slice none 0 0]).alloc (.cells #[.int .i64 k, .slice none 0 0] 102))
  have q1 := Box.new (w.alloc (.cells #[.int .i64 0, .slice none 0 0] 102)) 102 #[.int .i64 k, .slice none 0 0]
  have HW := Lib.hid (show Below w.heap.size w ((w.alloc (.cells #[.int .i64 0, .slice none 0 0] 102)).alloc (.cells #[.int .i64 k, .slice none 0 0] 102)) from ((Below.refl _ _).alloc (Nat.le_refl _) _).alloc (by simp) _)
  simp only [World.size_alloc] at q1
  have Q1 := Lib.hid q1
  clear q1
  go_enter Tryz.func134, Tryz.ntmps134
  go_wp2_with fail
  refine (HM.out _).mono ?_
  rintro e w1 ⟨rfl, rfl⟩
  go_wp2_with fail
  go_loopw [25] (fun t wr => ∃ (i : Nat) (v : Value), i ≤ l ∧ t = .int .i64 i ∧ Box wr (w.heap.size + 1) 102 #[.int .i64 k, v] ∧ MatW wr w.heap.size k v ((zs.take i).map f) ∧ Box wr w.heap.size 102 #[.int .i64 0, .slice none 0 0] ∧ Below w.heap.size w wr) (fun t _ => l - (intOf t).toNat)
  case atStart => exact ⟨0, _, by omega, rfl, Q1.out, MatW.nil _ _ _, Q0.out, HW.out⟩
  case round =>
    obtain ⟨i, v, hi, rfl, B1, hmat, B0, hbel⟩ := hrel
    have R1 := Lib.hid B1
    have R0 := Lib.hid B0
    have HMa := Lib.hid hmat
    have HB := Lib.hid hbel
    clear B1 B0 hmat hbel Q0 Q1 HW
    by_cases hlt : i < l
    · have hlt' : (i : Int) < (l : Int) := by omega
      obtain ⟨q, o, rfl, lt1, hc1⟩ := HZ.out.2.2 (by omega)
      have cu := (HB.out.cell (p := ⟨q, o + i, none⟩) lt1).trans (hc1 i hlt)
      have hx := HZ.out.2.1 i
      have HTK := Lib.hid (show (zs.take (i + 1)).map f = (zs.take i).map f ++ [f (zs.getD i 0)] by rw [take_one zs i 0 (by rw [HZ.out.1]; exact hlt)]; simp)
      have HTL := Lib.hid (show ((zs.take i).map f).length = i by have := HZ.out.1; simp; omega)
      clear hc1 lt1
      generalize zs.getD i 0 = x at *
      have HX := Lib.hid hx
      clear hx
      obtain ⟨a0, a1, f0, f1⟩ := R1.out.two
      obtain ⟨rs, hr1, hr2, hr3⟩ := HMa.out
      rw [HTL.out] at hr1 hr2 hr3
      have HOW := Lib.hid hr2
      have HRS := Lib.hid hr3
      clear hr2 hr3
      go_wp2_with fail
      go_region_law (first
        | (go_simp; go_at_call 147; refine (HS.out x HX.out _).mono ?_; rintro e1 x1 ⟨A1, l1, c1, rfl, hw, hb⟩; have S1 := Lib.hid (R1.out.drew.keep hb); have S0 := Lib.hid (R0.out.drew.keep hb); have SO := Lib.hid (own_keep (own_drew HOW.out) hb); have SR := Lib.hid (fun j hj => (HRS.out j hj).drew.below hb); have SB := Lib.hid (chain HB.out.drew hb); have SW := Lib.hid hw; clear hb hw; have T1 := Lib.hid (S1.out.alloc (.cells #[.int .i64 k, .slice A1 l1 c1] 139)); obtain ⟨s0, s1, sf0, sf1⟩ := S1.out.two; obtain ⟨t0, t1, tf0, tf1⟩ := T1.out.two; have hb0 := SB.out.size; have hn0 := SO.out.lt)
        | (refine step_append_lies _ rfl (.tmp 30) (.tmp 34) 99 rfl w.heap.size 139 i0 (.agg #[.int .i64 0, .slice none 0 0]) 2 32 Tryz.underlying99 HI.out HZ0.out HZ1.out HZ2.out rfl (by decide) v i (flatR k rs) (by simp [Act.eval, Act.put]) (World.ownsRow.alloc SO.out (.cells #[.int .i64 k, .slice A1 l1 c1] 139)) ⟨x1.heap.size, 0, none⟩ 1 1 [.int .i64 k, .slice A1 l1 c1] (by simp [Act.eval, Act.put]) rfl (World.news_of_block (Box.new x1 139 #[.int .i64 k, .slice A1 l1 c1])) (by simp [Value.oneCell']) (by omega) (by simp [maxLen]; omega) (by omega) (by simp; omega) _ rfl ?_; intro g cap w1 hown hgrow _ _; have V1 := Lib.hid (T1.out.grown hgrow (own_ne SO.out S1.out (by decide))); have HO2 := Lib.hid hown; have HG := Lib.hid hgrow; clear hown hgrow; obtain ⟨v0, v1, vf0, vf1⟩ := V1.out.two))
      all_goals
        have W0 := Lib.hid ((S0.out.alloc (.cells #[.int .i64 k, .slice A1 l1 c1] 139)).grown HG.out (own_ne SO.out S0.out (by decide)))
        have WB := Lib.hid ((SB.out.alloc SB.out.size (.cells #[.int .i64 k, .slice A1 l1 c1] 139)).grown HG.out (SB.out.alloc SB.out.size (.cells #[.int .i64 k, .slice A1 l1 c1] 139)).size (fun k hk => (SO.out.lt k hk).1))
        have WR := Lib.hid (fun j hj => OwnW.grown ((SR.out j hj).alloc (.cells #[.int .i64 k, .slice A1 l1 c1] 139)) (World.ownsRow.alloc SO.out (.cells #[.int .i64 k, .slice A1 l1 c1] 139)) (by decide) HG.out)
        have WW := Lib.hid (OwnW.grown (SW.out.alloc (.cells #[.int .i64 k, .slice A1 l1 c1] 139)) (World.ownsRow.alloc SO.out (.cells #[.int .i64 k, .slice A1 l1 c1] 139)) (by decide) HG.out)
        have WM := Lib.hid (MatW.snoc (ls := (zs.take i).map f) (by rw [HTL.out]; exact hr1) (by rw [HTL.out]; exact HO2.out) (by rw [HTL.out]; exact WR.out) WW.out)
        clear HG SO SR SB SW S0 S1 T1 HOW HRS HO2 WR WW HMa R1 R0 HB
        go_wp2_with fail
        go_roundw
        case rel => exact ⟨i + 1, _, by omega, by go_num, V1.out.put 1 _, by rw [HTK.out]; exact WM.out.far V1.out (by decide) (by decide) 1 _, W0.out.far (p := ⟨w.heap.size + 1, 1, none⟩) (by simp) _, WB.out.setCell (p := ⟨w.heap.size + 1, 1, none⟩) (by simp) _⟩
        case measure => simp [intOf] <;> omega
    · obtain rfl : i = l := by omega
      have hlt' : ¬ (i : Int) < (i : Int) := by omega
      have HTK := Lib.hid (show zs.take i = zs from List.take_of_length_le (by rw [HZ.out.1]; omega))
      rw [HTK.out] at HMa
      obtain ⟨A', c', hv⟩ : ∃ A' c', v = .slice A' zs.length c' := by
        obtain ⟨rs, -, h2, -⟩ := HMa.out
        obtain ⟨A', c', h, -⟩ := own_form h2
        rw [List.length_map] at h
        exact ⟨A', c', h⟩
      subst hv
      obtain ⟨a0, a1, -, -⟩ := R1.out.two
      obtain ⟨b0, b1, f0, f1⟩ := R0.out.two
      go_wp2
      refine close_cell Tryz.results134 rfl rfl rfl R0.out.put2 Tryz.underlying102 rfl (by kernel_rfl) ⟨_, rfl, ?_, ?_⟩
      · exact (HMa.out.far R0.out (by decide) (by decide) 0 _).far (R0.out.put 0 _) (by decide) (by decide) 1 _
      · exact (HB.out.setCell (p := ⟨w.heap.size, 0, none⟩) (Nat.le_refl _) _).setCell (p := ⟨w.heap.size, 1, none⟩) (Nat.le_refl _) _
end
section
/- Contracts of layer 7's reference: Root, digits, Same. -/
set_option linter.unusedVariables false
set_option linter.unusedSimpArgs false
open Go.RowKit
set_option maxHeartbeats 1000000 in
theorem refRoot_any (k : Nat) (hk : k ≤ 2147483647) (w : World) : Calls Tryz.prog 190 #[.int .i64 k] w fun e w' => e = .returned (.int .i64 (root k : Nat)) ∧ w = w' := by
  have HR := Lib.hid (fun s h1 h2 => (root_of k s h1 h2 hk).1)
  go_enter Tryz.func190, Tryz.ntmps190
  go_wp2
  go_loop [3, 4] (fun l h => ∃ a b : Nat, a < b ∧ b ≤ 46341 ∧ l = .int .i64 a ∧ h = .int .i64 b ∧ Hid (a * a ≤ k ∧ k < b * b)) (fun l h => (intOf h).toNat - (intOf l).toNat)
  case atStart => exact ⟨0, 46341, by omega, by omega, rfl, rfl, Lib.hid ⟨by omega, by omega⟩⟩
  case round =>
    obtain ⟨a, b, hab, hb, rfl, rfl, HK⟩ := hrel
    by_cases hlt : 1 < b - a
    · have g1 : (1 : Int) < (b : Int) - a := by omega
      obtain ⟨x, hx⟩ : ∃ x, x = (a + b) / 2 := ⟨_, rfl⟩
      have hx1 : a < x := by omega
      have hx2 : x < b := by omega
      have hxe : ((a : Int) + (b : Int)) / 2 = (x : Int) := by omega
      have m1 : x * x ≤ 46341 * 46341 := Nat.mul_le_mul (by omega) (by omega)
      have m2 : (x : Int) * (x : Int) ≤ 2147488281 := by rw [sq_cast]; omega
      have m3 : 0 ≤ (x : Int) * (x : Int) := by rw [sq_cast]; omega
      clear hx
      by_cases hs : x * x ≤ k
      · have t : (x : Int) * (x : Int) ≤ k := by rw [sq_cast]; omega
        go_wp2
        go_round
        case rel => exact ⟨x, b, hx2, hb, by rw [hxe], rfl, Lib.hid ⟨hs, HK.out.2⟩⟩
        case measure => simp [intOf] <;> omega
      · have t : ¬ (x : Int) * (x : Int) ≤ k := by rw [sq_cast]; omega
        go_wp2
        go_round
        case rel => exact ⟨a, x, hx1, by omega, rfl, by rw [hxe], Lib.hid ⟨HK.out.1, by omega⟩⟩
        case measure => simp [intOf] <;> omega
    · have g1 : ¬ (1 : Int) < (b : Int) - a := by omega
      have HE := Lib.hid (HR.out a HK.out.1 (by have h := HK.out.2; rw [show b = a + 1 by omega] at h; exact h))
      go_wp2
      go_ret
      exact ⟨by rw [HE.out]; rfl, rfl⟩
theorem bit_count : ∀ N : Fin 256, ∀ j : Fin 10, N.val / 2 ^ j.val = 0 → (j.val = 0 ∨ 0 < N.val / 2 ^ (j.val - 1)) → j.val = Lib.bitLen N.val := by decide +kernel
set_option maxHeartbeats 1000000 in
theorem digits_any (n : Nat) (hn : n < 256) (w : World) : Calls Tryz.prog 191 #[.int .i64 n] w fun e w' => e = .returned (.int .i64 (Lib.bitLen n : Nat)) ∧ w = w' := by
  have HBC := Lib.hid (fun j h1 h2 h3 => bit_count ⟨n, hn⟩ ⟨j, h1⟩ h2 h3)
  go_enter Tryz.func191, Tryz.ntmps191
  go_wp2
  go_loop [0, 3] (fun m c => ∃ j : Nat, j ≤ 8 ∧ c = .int .i64 j ∧ m = .int .i64 ((n / 2 ^ j : Nat) : Int) ∧ Hid (j = 0 ∨ 0 < n / 2 ^ (j - 1))) (fun m _ => (intOf m).toNat)
  case atStart => exact ⟨0, by omega, rfl, by simp, Lib.hid (.inl rfl)⟩
  case round =>
    obtain ⟨j, hj, rfl, rfl, HJ⟩ := hrel
    have HD := Lib.hid (show n / 2 ^ (j + 1) = n / 2 ^ j / 2 by rw [Nat.pow_succ, Nat.div_div_eq_div_mul])
    have h8 : j = 8 → n / 2 ^ j = 0 := fun e => by rw [e]; exact Nat.div_eq_of_lt (by omega)
    have HB2 := Lib.hid (fun h => HBC.out j (by omega) h HJ.out)
    have HP := Lib.hid (show 0 < n / 2 ^ j → (j + 1 = 0 ∨ 0 < n / 2 ^ (j + 1 - 1)) from fun h => .inr h)
    have hm256 : n / 2 ^ j < 256 := Nat.lt_of_le_of_lt (Nat.div_le_self _ _) hn
    generalize n / 2 ^ j = m at *
    by_cases hm : 0 < m
    · have g : (0 : Int) < m := by omega
      have hj8 : j < 8 := by rcases Nat.lt_or_ge j 8 with e | e
                             · exact e
                             · have := h8 (by omega); omega
      clear h8
      go_wp2
      go_round
      case rel => exact ⟨j + 1, by omega, by go_num, by rw [HD.out]; simp, Lib.hid (HP.out hm)⟩
      case measure => simp [intOf] <;> omega
    · obtain rfl : m = 0 := by omega
      have HE := Lib.hid (HB2.out rfl)
      clear h8
      go_wp2
      go_ret
      exact ⟨by rw [← HE.out]; rfl, rfl⟩
end
section
/- Contracts of layer 7's reference: Weight. -/
set_option linter.unusedVariables false
set_option linter.unusedSimpArgs false
open Go.RowKit
theorem dd_cast (d : Nat) (h : 1 ≤ d) : (d : Int) * ((d : Int) - 1) = ((d * (d - 1) : Nat) : Int) := by
  obtain ⟨c, rfl⟩ : ∃ c, d = c + 1 := ⟨d - 1, by omega⟩
  simp
set_option maxHeartbeats 4000000 in
theorem refWeight_any (k d : Nat) (h1 : 1 ≤ k) (h2 : k ≤ 64) (h3 : 1 ≤ d) (h4 : d ≤ 64) (w : World) : Calls Tryz.prog 169 #[.int .i64 k, .int .i64 d] w fun e w' => e = .returned (.int .u64 (wgt k d : Nat)) ∧ w = w' := by
  have hr := root_small ⟨k, by omega⟩ h1
  simp only at hr
  have HR := Lib.hid (refRoot_any k (by omega) w)
  have HD := Lib.hid (digits_any (root k) (by omega) w)
  have HW := Lib.hid (show wgt k d = plainN d k + moreN d (k / root k) (root k) k from rfl)
  have hp := Nat.div_le_self k (root k)
  have hbl := bitLen_le (root k) (by omega)
  have hX : (k : Int) / (root k : Int) = ((k / root k : Nat) : Int) := by simp
  have hMd : moreN d (k / root k) (root k) k = if d < k / root k then 4294967296 * root k / (d * k) else if d = k / root k then 4294967296 * root k * Lib.bitLen (root k) / k else 0 := rfl
  have hPd : plainN d k = if d = 1 then 4294967296 / k else 4294967296 / (d * (d - 1)) := rfl
  generalize Lib.bitLen (root k) = z at *
  generalize k / root k = p at *
  generalize root k = t at *
  generalize moreN d p t k = M at *
  generalize plainN d k = P at *
  obtain ⟨g1, g2⟩ := hr
  have gk : (1 : Int) ≤ k := by omega
  have gt : (1 : Int) ≤ t := by omega
  have dk1 : 1 * 1 ≤ d * k := Nat.mul_le_mul h3 h1
  have dk2 : d * k ≤ 64 * 64 := Nat.mul_le_mul h4 h2
  have q1 : 1 ≤ (d : Int) * (k : Int) := by rw [mul_cast]; omega
  have q2 : (d : Int) * (k : Int) ≤ 4096 := by rw [mul_cast]; omega
  have tz : t * z ≤ 8 * 8 := Nat.mul_le_mul g2 hbl
  have hz3 : 4294967296 * (t : Int) * (z : Int) = ((4294967296 * (t * z) : Nat) : Int) := by rw [Int.mul_assoc, mul_cast]; simp
  have q3 : 0 ≤ 4294967296 * (t : Int) * (z : Int) := by rw [hz3]; omega
  have q4 : 4294967296 * (t : Int) * (z : Int) ≤ 274877906944 := by rw [hz3]; omega
  have HZ3 := Lib.hid hz3
  have HPd := Lib.hid hPd
  have HMd := Lib.hid hMd
  clear hz3 hPd hMd tz dk1 dk2
  by_cases hd1 : d = 1
  · rcases Nat.lt_trichotomy d p with hdp | hdp | hdp
    · have HP := Lib.hid (show P = 4294967296 / k by rw [HPd.out, if_pos hd1])
      have eP : (4294967296 : Int) / (k : Int) = (P : Int) := by rw [HP.out]; simp
      have gP : P ≤ 4294967296 := by rw [HP.out]; exact Nat.div_le_self _ _
      have gd : ¬ (1 : Int) < d := by omega
      have HM := Lib.hid (show M = 4294967296 * t / (d * k) by rw [HMd.out, if_pos hdp])
      have eM : 4294967296 * (t : Int) / ((d : Int) * (k : Int)) = (M : Int) := by rw [HM.out, mul_cast]; simp
      have gM : M ≤ 4294967296 * t := by rw [HM.out]; exact Nat.div_le_self _ _
      have c1 : (d : Int) < p := by omega
      have c2 : ((d : Int) == (p : Int)) = false := beq_eq_false_iff_ne.2 (by omega)
      clear hd1 hdp
      go_enter Tryz.func169, Tryz.ntmps169
      go_wp2_with fail
      refine HR.out.mono ?_
      rintro e w1 ⟨rfl, rfl⟩
      go_wp2_with fail
      go_ret
      exact ⟨by rw [HW.out]; simp, rfl⟩
    · have HP := Lib.hid (show P = 4294967296 / k by rw [HPd.out, if_pos hd1])
      have eP : (4294967296 : Int) / (k : Int) = (P : Int) := by rw [HP.out]; simp
      have gP : P ≤ 4294967296 := by rw [HP.out]; exact Nat.div_le_self _ _
      have gd : ¬ (1 : Int) < d := by omega
      have HM := Lib.hid (show M = 4294967296 * t * z / k by rw [HMd.out, if_neg (by omega), if_pos hdp])
      have eM : 4294967296 * (t : Int) * (z : Int) / (k : Int) = (M : Int) := by rw [HM.out]; simp
      have gM : M ≤ 274877906944 := by have := HZ3.out; have h9 : 4294967296 * t * z / k ≤ 4294967296 * t * z := Nat.div_le_self _ _; rw [HM.out]; rw [Nat.mul_assoc] at h9 ⊢; omega
      have c1 : ¬ (d : Int) < p := by omega
      have c2 : ((d : Int) == (p : Int)) = true := beq_iff_eq.2 (by omega)
      clear hd1 hdp
      go_enter Tryz.func169, Tryz.ntmps169
      go_wp2_with fail
      refine HR.out.mono ?_
      rintro e w1 ⟨rfl, rfl⟩
      go_wp2_with fail
      refine HD.out.mono ?_
      rintro e w1 ⟨rfl, rfl⟩
      go_wp2_with fail
      go_ret
      exact ⟨by rw [HW.out]; simp, rfl⟩
    · have HP := Lib.hid (show P = 4294967296 / k by rw [HPd.out, if_pos hd1])
      have eP : (4294967296 : Int) / (k : Int) = (P : Int) := by rw [HP.out]; simp
      have gP : P ≤ 4294967296 := by rw [HP.out]; exact Nat.div_le_self _ _
      have gd : ¬ (1 : Int) < d := by omega
      have HM := Lib.hid (show M = 0 by rw [HMd.out, if_neg (by omega), if_neg (by omega)])
      have c1 : ¬ (d : Int) < p := by omega
      have c2 : ((d : Int) == (p : Int)) = false := beq_eq_false_iff_ne.2 (by omega)
      clear hd1 hdp
      go_enter Tryz.func169, Tryz.ntmps169
      go_wp2_with fail
      refine HR.out.mono ?_
      rintro e w1 ⟨rfl, rfl⟩
      go_wp2_with fail
      go_ret
      exact ⟨by rw [HW.out, HM.out, Nat.add_zero]; exact congrArg (fun x => Ending.returned (Value.int .u64 x)) eP, rfl⟩
  · rcases Nat.lt_trichotomy d p with hdp | hdp | hdp
    · have HP := Lib.hid (show P = 4294967296 / (d * (d - 1)) by rw [HPd.out, if_neg hd1])
      have u1 : 1 * 1 ≤ d * (d - 1) := Nat.mul_le_mul (by omega) (by omega)
      have u2 : d * (d - 1) ≤ 64 * 63 := Nat.mul_le_mul (by omega) (by omega)
      have v1 : 1 ≤ (d : Int) * ((d : Int) - 1) := by rw [dd_cast d h3]; omega
      have v2 : (d : Int) * ((d : Int) - 1) ≤ 4032 := by rw [dd_cast d h3]; omega
      have eP : (4294967296 : Int) / ((d : Int) * ((d : Int) - 1)) = (P : Int) := by rw [HP.out, dd_cast d h3]; simp
      have gP : P ≤ 4294967296 := by rw [HP.out]; exact Nat.div_le_self _ _
      have gd : (1 : Int) < d := by omega
      clear u1 u2
      have HM := Lib.hid (show M = 4294967296 * t / (d * k) by rw [HMd.out, if_pos hdp])
      have eM : 4294967296 * (t : Int) / ((d : Int) * (k : Int)) = (M : Int) := by rw [HM.out, mul_cast]; simp
      have gM : M ≤ 4294967296 * t := by rw [HM.out]; exact Nat.div_le_self _ _
      have c1 : (d : Int) < p := by omega
      have c2 : ((d : Int) == (p : Int)) = false := beq_eq_false_iff_ne.2 (by omega)
      clear hd1 hdp
      go_enter Tryz.func169, Tryz.ntmps169
      go_wp2_with fail
      refine HR.out.mono ?_
      rintro e w1 ⟨rfl, rfl⟩
      go_wp2_with fail
      go_ret
      exact ⟨by rw [HW.out]; simp, rfl⟩
    · have HP := Lib.hid (show P = 4294967296 / (d * (d - 1)) by rw [HPd.out, if_neg hd1])
      have u1 : 1 * 1 ≤ d * (d - 1) := Nat.mul_le_mul (by omega) (by omega)
      have u2 : d * (d - 1) ≤ 64 * 63 := Nat.mul_le_mul (by omega) (by omega)
      have v1 : 1 ≤ (d : Int) * ((d : Int) - 1) := by rw [dd_cast d h3]; omega
      have v2 : (d : Int) * ((d : Int) - 1) ≤ 4032 := by rw [dd_cast d h3]; omega
      have eP : (4294967296 : Int) / ((d : Int) * ((d : Int) - 1)) = (P : Int) := by rw [HP.out, dd_cast d h3]; simp
      have gP : P ≤ 4294967296 := by rw [HP.out]; exact Nat.div_le_self _ _
      have gd : (1 : Int) < d := by omega
      clear u1 u2
      have HM := Lib.hid (show M = 4294967296 * t * z / k by rw [HMd.out, if_neg (by omega), if_pos hdp])
      have eM : 4294967296 * (t : Int) * (z : Int) / (k : Int) = (M : Int) := by rw [HM.out]; simp
      have gM : M ≤ 274877906944 := by have := HZ3.out; have h9 : 4294967296 * t * z / k ≤ 4294967296 * t * z := Nat.div_le_self _ _; rw [HM.out]; rw [Nat.mul_assoc] at h9 ⊢; omega
      have c1 : ¬ (d : Int) < p := by omega
      have c2 : ((d : Int) == (p : Int)) = true := beq_iff_eq.2 (by omega)
      clear hd1 hdp
      go_enter Tryz.func169, Tryz.ntmps169
      go_wp2_with fail
      refine HR.out.mono ?_
      rintro e w1 ⟨rfl, rfl⟩
      go_wp2_with fail
      refine HD.out.mono ?_
      rintro e w1 ⟨rfl, rfl⟩
      go_wp2_with fail
      go_ret
      exact ⟨by rw [HW.out]; simp, rfl⟩
    · have HP := Lib.hid (show P = 4294967296 / (d * (d - 1)) by rw [HPd.out, if_neg hd1])
      have u1 : 1 * 1 ≤ d * (d - 1) := Nat.mul_le_mul (by omega) (by omega)
      have u2 : d * (d - 1) ≤ 64 * 63 := Nat.mul_le_mul (by omega) (by omega)
      have v1 : 1 ≤ (d : Int) * ((d : Int) - 1) := by rw [dd_cast d h3]; omega
      have v2 : (d : Int) * ((d : Int) - 1) ≤ 4032 := by rw [dd_cast d h3]; omega
      have eP : (4294967296 : Int) / ((d : Int) * ((d : Int) - 1)) = (P : Int) := by rw [HP.out, dd_cast d h3]; simp
      have gP : P ≤ 4294967296 := by rw [HP.out]; exact Nat.div_le_self _ _
      have gd : (1 : Int) < d := by omega
      clear u1 u2
      have HM := Lib.hid (show M = 0 by rw [HMd.out, if_neg (by omega), if_neg (by omega)])
      have c1 : ¬ (d : Int) < p := by omega
      have c2 : ((d : Int) == (p : Int)) = false := beq_eq_false_iff_ne.2 (by omega)
      clear hd1 hdp
      go_enter Tryz.func169, Tryz.ntmps169
      go_wp2_with fail
      refine HR.out.mono ?_
      rintro e w1 ⟨rfl, rfl⟩
      go_wp2_with fail
      go_ret
      exact ⟨by rw [HW.out, HM.out, Nat.add_zero]; exact congrArg (fun x => Ending.returned (Value.int .u64 x)) eP, rfl⟩
end
section
/- Contracts of layer 7's reference: Weights, Table. -/
set_option linter.unusedVariables false
set_option linter.unusedSimpArgs false
open Go.RowKit
/-- A slice of words is returned. -/
def WordsRet (zs : List Nat) (w : World) (e : Ending) (w' : World) : Prop := ∃ v, e = .returned v ∧ w'.ownsRow w.heap.size 22 1 v zs.length (zs.map u64V) ∧ Below w.heap.size w w'
set_option maxHeartbeats 2000000 in
theorem refWeights_any (k : Nat) (h1 : 1 ≤ k) (h2 : k ≤ 64) (w : World) : Calls Tryz.prog 152 #[.int .i64 k] w (WordsRet (wgts k k) w) := by
  obtain ⟨i0, hi, hz0, hz1, hz2⟩ := info_parts u64_infoW
  have HI := Lib.hid hi
  have HZ0 := Lib.hid hz0
  have HZ1 := Lib.hid hz1
  have HZ2 := Lib.hid hz2
  clear hi hz0 hz1 hz2
  go_enter Tryz.func152, Tryz.ntmps152
  go_wp2
  have HOw := Lib.hid (own_empty w w.heap.size 22 (Nat.le_refl _))
  have HW := Lib.hid ((Below.refl w.heap.size w).alloc (Nat.le_refl _) (.cells #[] 22))
  go_loopw [3, 4] (fun v t wr => ∃ d : Nat, 1 ≤ d ∧ d ≤ k + 1 ∧ t = .int .i64 d ∧ wr.ownsRow w.heap.size 22 1 v (d - 1) ((wgts k (d - 1)).map u64V) ∧ Below w.heap.size w wr)
    (fun _ t _ => k + 1 - (intOf t).toNat)
  case atStart => exact ⟨1, by omega, by omega, rfl, HOw.out, HW.out⟩
  case round =>
    obtain ⟨d, hd1, hd, rfl, hown, hbel⟩ := hrel
    have HO := Lib.hid hown
    have HB := Lib.hid hbel
    clear hown hbel HW HOw
    by_cases hlt : d ≤ k
    · have hlt' : (d : Int) ≤ (k : Int) := by omega
      have hi' := HI.out
      have hz0' := HZ0.out
      have hz1' := HZ1.out
      have hz2' := HZ2.out
      have HS := Lib.hid (show wgts k (d + 1 - 1) = wgts k (d - 1) ++ [wgt k d] by
        obtain ⟨c, rfl⟩ : ∃ c, d = c + 1 := ⟨d - 1, by omega⟩
        exact wgts_succ k c)
      have HWT := Lib.hid (refWeight_any k d h1 h2 hd1 (by omega))
      generalize wgt k d = x at *
      have XO := Lib.hid (HO.out.alloc (.cells #[.int .u64 (x : Int)] 22))
      have XB := Lib.hid (HB.out.alloc HB.out.size (.cells #[.int .u64 (x : Int)] 22))
      have N2 := Lib.hid (fun k hk => (HO.out.lt k hk).1)
      go_wp2_with fail
      refine (HWT.out _).mono ?_
      rintro e w9 ⟨rfl, rfl⟩
      go_wp2_with (at_builtin; refine wpList_append_own _ rfl _ _ 137 rfl w.heap.size 22 i0 (.int .u64 0) 1 8 Tryz.underlying137 hi' hz0' hz1' hz2' rfl (by decide) _ _ _ rfl XO.out ⟨wr.heap.size, 0, none⟩ 1 1 [.int .u64 (x : Int)] rfl rfl (cell_one_new _ _ _) (by simp [Value.oneCell']) (by simp [maxLen]; omega) (by omega) XB.out.size ?_; intro v' w1 hown' hgrow _; have HC := Lib.hid (XB.out.grown hgrow XB.out.size N2.out); have HO2 := Lib.hid hown'; clear hown' hgrow)
      go_roundw
      case rel =>
        refine ⟨d + 1, by omega, by omega, by go_num, ?_, HC.out⟩
        rw [HS.out, List.map_append, show d + 1 - 1 = d - 1 + 1 by omega]
        exact HO2.out
      case measure => simp [intOf] <;> omega
    · have he : d - 1 = k := by omega
      have hlt' : ¬ (d : Int) ≤ (k : Int) := by omega
      rw [he] at HO
      have HL := Lib.hid (wgts_len k k)
      clear he
      go_wp2
      go_ret
      exact ⟨_, rfl, by rw [HL.out]; exact HO.out, HB.out⟩
end
section
/- Contract of layer 7's reference: Same. -/
set_option linter.unusedVariables false
set_option linter.unusedSimpArgs false
open Go.RowKit
end
section
/- Contract of layer 7's reference: Table. -/
set_option linter.unusedVariables false
set_option linter.unusedSimpArgs false
open Go.RowKit
set_option maxHeartbeats 2000000 in
theorem refTable_any (k : Nat) (h1 : 1 ≤ k) (h2 : k ≤ 64) (w : World) : Calls Tryz.prog 139 #[.int .i64 k] w (WordsRet (tbl (wgts k k)) w) := by
  obtain ⟨i0, hi, hz0, hz1, hz2⟩ := info_parts u64_infoW
  have HI := Lib.hid hi
  have HZ0 := Lib.hid hz0
  have HZ1 := Lib.hid hz1
  have HZ2 := Lib.hid hz2
  clear hi hz0 hz1 hz2
  have HWN := Lib.hid (refWeights_any k h1 h2)
  have HWL := Lib.hid (wgts_len k k)
  have HWb := Lib.hid (wgts_lt k h1 h2)
  go_enter Tryz.func139, Tryz.ntmps139
  go_wp2_with fail
  refine (HWN.out _).mono ?_
  rintro e w1 ⟨v1, rfl, ho1, hb⟩
  rw [HWL.out] at ho1
  obtain ⟨A1, c1, rfl, q1, q1', hw1⟩ := own_slice ho1 HWb.out
  have W1 := Lib.hid hw1
  have B1 := Lib.hid (chain ((Below.refl w.heap.size w).alloc (Nat.le_refl _) (.cells #[] 22)) hb)
  clear ho1 hw1 hb HWN
  generalize wgts k k = ws at *
  go_wp2_with fail
  have n1 := B1.out.size
  go_loopw [3, 4, 11] (fun v s c wr => ∃ i : Nat, i ≤ k ∧ c = .int .i64 i ∧ s = .int .u64 (sumN (ws.take i) : Nat) ∧ Hid ((i = 0 ∧ v = .slice (some ⟨w.heap.size, 0, none⟩) 0 0) ∨ (1 ≤ i ∧ wr.ownsRow w1.heap.size 22 1 v i ((tbl (ws.take i)).map u64V))) ∧ Below w1.heap.size w1 wr) (fun _ _ c _ => k - (intOf c).toNat)
  case atStart => exact ⟨0, by omega, rfl, rfl, Lib.hid (.inl ⟨rfl, rfl⟩), Below.refl _ _⟩
  case round =>
    obtain ⟨i, hi, rfl, rfl, HV, hbel⟩ := hrel
    have HB := Lib.hid hbel
    clear hbel
    by_cases hlt : i < k
    · have hlt' : (i : Int) < k := by omega
      obtain ⟨b, off, rfl, hb, hc⟩ := W1.out.2.2 (by omega)
      have cA := (HB.out.cell (p := ⟨b, off + i, none⟩) hb).trans (hc i hlt)
      clear hc
      have hsu := sumN_take ws i (by rw [HWL.out]; exact hlt)
      have hwn := wrap_nat (sumN (ws.take i)) (ws.getD i 0)
      rw [← hsu] at hwn
      have HT := Lib.hid (show tbl (ws.take (i + 1)) = tbl (ws.take i) ++ [sumN (ws.take (i + 1))] by
        rw [List.take_succ_eq_append_getElem (by rw [HWL.out]; exact hlt)]; exact tbl_snoc _ _)
      have HT0 := Lib.hid (show i = 0 → tbl (ws.take i) = [] from fun e => by rw [e]; rfl)
      clear hsu
      generalize hs' : sumN (ws.take (i + 1)) = y at *
      have HY := Lib.hid hs'
      clear hs'
      generalize sumN (ws.take i) = s0 at *
      generalize ws.getD i 0 = x at *
      have hi' := HI.out
      have hz0' := HZ0.out
      have hz1' := HZ1.out
      have hz2' := HZ2.out
      have XB := Lib.hid (HB.out.alloc HB.out.size (.cells #[.int .u64 (y : Int)] 22))
      rcases HV.out with ⟨h0, hv⟩ | ⟨h1i, hrow⟩
      · subst hv
        have H0 := Lib.hid h0
        clear h0
        go_wp2_with (at_builtin; refine wpList_append_grows _ rfl _ _ 137 rfl 22 i0 (.int .u64 0) 1 8 Tryz.underlying137 hi' hz0' hz1' hz2' rfl (by decide) (some ⟨w.heap.size, 0, none⟩) 0 0 [] rfl (fun h => by cases h) rfl (fun _ _ j u hu => by simp at hu) ⟨wr.heap.size, 0, none⟩ 1 1 [.int .u64 (y : Int)] rfl rfl (cell_one_new _ _ _) (by simp [Value.oneCell']) (by omega) (by simp [maxLen]) (by omega) ?_; intro v' w2 hown' hgrow; have HC := Lib.hid (XB.out.grown hgrow XB.out.size (fun k hk => by cases hk)); have HO2 := Lib.hid (own_low hown' XB.out.size); clear hown' hgrow)
        go_roundw
        case rel =>
          refine ⟨i + 1, by omega, by go_num, by rw [HY.out], Lib.hid (.inr ⟨by omega, ?_⟩), HC.out⟩
          rw [HT.out, HT0.out H0.out, H0.out]
          exact HO2.out
        case measure => simp [intOf] <;> omega
      · have HO := Lib.hid hrow
        clear hrow
        have XO := Lib.hid (HO.out.alloc (.cells #[.int .u64 (y : Int)] 22))
        have N2 := Lib.hid (fun k hk => (HO.out.lt k hk).1)
        obtain ⟨A', c', rfl, _⟩ := own_form HO.out
        go_wp2_with (at_builtin; refine wpList_append_own _ rfl _ _ 137 rfl w1.heap.size 22 i0 (.int .u64 0) 1 8 Tryz.underlying137 hi' hz0' hz1' hz2' rfl (by decide) _ _ _ rfl XO.out ⟨wr.heap.size, 0, none⟩ 1 1 [.int .u64 (y : Int)] rfl rfl (cell_one_new _ _ _) (by simp [Value.oneCell']) (by simp [maxLen]; omega) (by omega) XB.out.size ?_; intro v' w2 hown' hgrow _; have HC := Lib.hid (XB.out.grown hgrow XB.out.size N2.out); have HO2 := Lib.hid hown'; clear hown' hgrow)
        go_roundw
        case rel =>
          refine ⟨i + 1, by omega, by go_num, by rw [HY.out], Lib.hid (.inr ⟨by omega, ?_⟩), HC.out⟩
          rw [HT.out, List.map_append]
          exact HO2.out
        case measure => simp [intOf] <;> omega
    · have he : i = k := by omega
      have HROW := Lib.hid (HV.out.resolve_left (by omega))
      rw [he, List.take_of_length_le (by rw [HWL.out]; omega)] at HROW
      have hlt' : ¬ (i : Int) < k := by omega
      have HL := Lib.hid ((tbl_len ws).trans HWL.out)
      clear he
      obtain ⟨A', c', rfl, _⟩ := own_form HROW.out.2
      go_wp2
      go_ret
      exact ⟨_, rfl, by rw [HL.out]; exact own_low HROW.out.2 n1, chain B1.out HB.out⟩
end
section
/- Contracts of layer 7's reference: Right, Pick. -/
set_option linter.unusedVariables false
set_option linter.unusedSimpArgs false
open Go.RowKit
set_option maxHeartbeats 1000000 in
theorem refPick_any (A : Option Addr) (l c : Nat) (ws : List Nat) (n : Nat) (w : World) (hw : Words w A l ws) (hl : l ≤ maxLen) (hlc : l ≤ c) (hn : n < 18446744073709551616) (ht : tabB ws = true) :
    Calls Tryz.prog 138 #[.slice A l c, .int .u64 n] w fun e w' => e = .returned (.int .i64 (pickD ws n : Nat)) ∧ ∃ q, w' = w.drewN q := by
  unfold maxLen at hl
  obtain ⟨h1, h64, hr⟩ := tab_at ht
  have hp := last_pos ht
  have hlen := hw.1
  rw [hlen] at h1 h64 hp
  obtain ⟨b, off, rfl, hb, hc⟩ := hw.2.2 h1
  have c1 := hc (l - 1) (by omega)
  have HPD := Lib.hid (show pickD ws n = pickN ws (n % ws.getD (l - 1) 0) + 1 by rw [pickD, hlen])
  have HM := Lib.hid (rises_mono ws hr)
  have HC := Lib.hid hc
  have HL := Lib.hid hlen
  have HLT := Lib.hid (Nat.mod_lt n hp)
  clear hw hc hlen ht hr
  have g1 : (1 : Int) ≤ l := by omega
  have g2 : (l : Int) ≤ 64 := by omega
  have g3 : ((l : Int) - 1).toNat = l - 1 := by omega
  generalize hX : ws.getD (l - 1) 0 = x at *
  have HX := Lib.hid hX
  clear hX
  have g4 : (0 : Int) < x := by omega
  have g5 : (x : Int) ≠ 0 := by omega
  go_enter Tryz.func138, Tryz.ntmps138
  go_wp2_with fail
  go_loop [17] (fun i => ∃ k : Nat, k ≤ l ∧ i = .int .i64 k ∧ Hid (∀ i, i < k → ws.getD i 0 ≤ n % x)) (fun i => l - (intOf i).toNat)
  case atStart => exact ⟨0, by omega, rfl, Lib.hid (fun i hi => by omega)⟩
  case round =>
    obtain ⟨k, hk, rfl, HN⟩ := hrel
    by_cases hlt : k < l
    · have hkl' : (k : Int) < (l : Int) := by omega
      have c2 := HC.out k hlt
      by_cases hx : n % x < ws.getD k 0
      · have HE := Lib.hid (pickN_of ws (n % x) k HN.out (fun i h1 h2 => by have := HM.out k i h1 h2; omega) (by rw [HL.out]; omega))
        have t : (n : Int) % (x : Int) < (ws.getD k 0 : Nat) := by omega
        generalize ws.getD k 0 = y at *
        go_wp2
        go_ret
        exact ⟨by rw [HPD.out, HE.out]; rfl, 0, rfl⟩
      · have HE := Lib.hid (show ∀ i, i < k + 1 → ws.getD i 0 ≤ n % x from fun i hi => by
          by_cases e : i = k
          · rw [e]; omega
          · exact HN.out i (by omega))
        have t : ¬ (n : Int) % (x : Int) < (ws.getD k 0 : Nat) := by omega
        generalize ws.getD k 0 = y at *
        go_wp2
        go_round
        case rel => exact ⟨k + 1, by omega, by go_num, HE⟩
        case measure => simp [intOf] <;> omega
    · exfalso
      have := HN.out (l - 1) (by omega)
      have := HLT.out
      have := HX.out
      omega
end
section
/- Contracts of bitrow.And's join, and of bitrow.Xor and And. -/
set_option linter.unusedVariables false
set_option linter.unusedSimpArgs false
open Go.RowKit
end
section
/- Rows of one size that may be: what Xor and And of them are; the plain laws of both. -/
set_option linter.unusedVariables false
set_option linter.unusedSimpArgs false
open Go.RowKit
theorem right_len_eq {n : Int} {us : List Nat} (h : rightB n us = true) : us.length = nw n.toNat := by
  simp only [rightB, Bool.and_eq_true, beq_iff_eq] at h
  exact h.1.2
theorem right_lmb {n : Int} {us : List Nat} (h : rightB n us = true) : lmb n = true := by
  simp only [rightB, Bool.and_eq_true] at h
  exact h.1.1
theorem zip_last (g : Nat → Nat → Nat) (us vs : List Nat) (i : Nat) (hu : i < us.length) (hv : i < vs.length) : (List.zipWith g us vs).getD i 0 = g (us.getD i 0) (vs.getD i 0) := by
  simp [List.getD, List.getElem?_zipWith, hu, hv]
theorem right_zip (g : Nat → Nat → Nat) (hg : ∀ x y k, x / 2 ^ k = 0 → y / 2 ^ k = 0 → g x y / 2 ^ k = 0) {n : Int} {us vs : List Nat} (h1 : rightB n us = true) (h2 : rightB n vs = true) : rightB n (List.zipWith g us vs) = true := by
  have l1 := right_len_eq h1
  have l2 := right_len_eq h2
  have hl : (List.zipWith g us vs).length = us.length := by simp; omega
  simp only [rightB, Bool.and_eq_true, Bool.or_eq_true, beq_iff_eq] at h1 h2 ⊢
  refine ⟨⟨h1.1.1, by rw [hl]; exact h1.1.2⟩, ?_⟩
  rcases h1.2 with h | h
  · exact .inl h
  · rcases h2.2 with h' | h'
    · exact .inl h'
    · by_cases h0 : us.length = 0
      · left
        rw [l1] at h0
        unfold nw at h0
        omega
      · right
        rw [hl, zip_last g us vs _ (by omega) (by omega)]
        exact hg _ _ _ h (by rw [l2, ← l1] at h'; exact h')
theorem xor_div (x y k : Nat) (h : x / 2 ^ k = 0) (h' : y / 2 ^ k = 0) : (x ^^^ y) / 2 ^ k = 0 := by
  have p : 0 < 2 ^ k := Nat.two_pow_pos k
  rw [Nat.div_eq_zero_iff] at h h' ⊢
  right
  exact Nat.xor_lt_two_pow (by omega) (by omega)
def xorL (us vs : List Nat) : List Nat := List.zipWith (· ^^^ ·) us vs
theorem right_xor {n : Int} {us vs : List Nat} (h1 : rightB n us = true) (h2 : rightB n vs = true) : rightB n (xorL us vs) = true := right_zip _ xor_div h1 h2
end
section
/- Contracts of the reference's Xor and And. -/
set_option linter.unusedVariables false
set_option linter.unusedSimpArgs false
open Go.RowKit
set_option maxRecDepth 100000
theorem int_info : (Tryz.prog.info? 3).map (fun i => (i.zero, i.size, i.bytes)) = some (some (.int .i64 0), 1, 8) := by kernel_rfl
def bitSums (g : Nat → Nat → Nat) (us vs : List Nat) (i : Nat) : List Int := (List.range i).map fun j => ((g (bitAt us j) (bitAt vs j) : Nat) : Int)
theorem bitSums_succ (g : Nat → Nat → Nat) (us vs : List Nat) (i : Nat) : bitSums g us vs (i + 1) = bitSums g us vs i ++ [((g (bitAt us i) (bitAt vs i) : Nat) : Int)] := by simp [bitSums, List.range_succ]
theorem bitSums_len (g : Nat → Nat → Nat) (us vs : List Nat) (i : Nat) : (bitSums g us vs i).length = i := by simp [bitSums]
theorem bitSums_get (g : Nat → Nat → Nat) (us vs : List Nat) (i j : Nat) (h : j < i) : (bitSums g us vs i).getD j 0 = ((g (bitAt us j) (bitAt vs j) : Nat) : Int) := by simp [bitSums, List.getD, h]
theorem bitSums_lt (us vs : List Nat) (i j : Nat) : -9223372036854775808 ≤ (bitSums (fun x y => (x + y) % 2) us vs i).getD j 0 ∧ (bitSums (fun x y => (x + y) % 2) us vs i).getD j 0 ≤ 9223372036854775807 := by
  by_cases h : j < i
  · rw [bitSums_get _ us vs i j h]; omega
  · have hn : (bitSums (fun x y => (x + y) % 2) us vs i)[j]? = none := List.getElem?_eq_none (by rw [bitSums_len]; omega)
    simp only [List.getD, hn, Option.getD_none]
    omega
theorem accM_bit (b : Nat → Bool) (i m j : Nat) (hm : m ≤ 64) : (accM b i m).testBit j = (decide (j < m) && b (64 * i + (64 - m + j))) := by
  induction m generalizing j with
  | zero => simp [accM]
  | succ m ih =>
    simp only [accM]
    cases j with
    | zero =>
      rw [Nat.testBit_zero]
      have e : 64 - (m + 1) + 0 = 63 - m := by omega
      rw [e]
      cases b (64 * i + (63 - m)) <;> simp <;> omega
    | succ j =>
      rw [Nat.testBit_succ]
      have e : (2 * accM b i m + if b (64 * i + (63 - m)) = true then 1 else 0) / 2 = accM b i m := by split <;> omega
      rw [e, ih j (by omega)]
      have e2 : 64 - m + j = 64 - (m + 1) + (j + 1) := by omega
      rw [e2]
      have e3 : decide (j < m) = decide (j + 1 < m + 1) := by simp
      rw [e3]
theorem bitAt_test (us : List Nat) (i : Nat) : (bitAt us i == 1) = (us.getD (i / 64) 0).testBit (i % 64) := by
  rw [Nat.testBit_eq_decide_div_mod_eq]; rfl
/-- A row that may be has no bits behind its last. -/
theorem right_bits {n : Nat} {us : List Nat} (h : rightB n us = true) (i : Nat) (hi : n ≤ i) (hl : i < 64 * us.length) : bitAt us i = 0 := by
  have hlm := right_lmb h
  have hle := right_len_eq h
  rw [Int.toNat_natCast] at hle
  rcases bitAt_le us i with h0 | h1
  · exact h0
  · have := not_right_of_bit n us.length i us hlm rfl hle hi hl h1
    rw [h] at this
    cases this
theorem from_zip (g : Nat → Nat → Nat) (f : Nat → Nat → Nat) (hgf : ∀ x y k, (f x y).testBit k = (g (if x.testBit k then 1 else 0) (if y.testBit k then 1 else 0) == 1)) (h00 : g 0 0 = 0) (hf : ∀ x y, x < 18446744073709551616 → y < 18446744073709551616 → f x y < 18446744073709551616) (n : Nat) (us vs : List Nat) (h1 : rightB n us = true) (h2 : rightB n vs = true)
    (hu : ∀ j, us.getD j 0 < 18446744073709551616) (hv : ∀ j, vs.getD j 0 < 18446744073709551616) :
    fromL (bitsOf (bitSums g us vs n)) (nw n) = List.zipWith f us vs := by
  have l1 := right_len_eq h1
  have l2 := right_len_eq h2
  rw [Int.toNat_natCast] at l1 l2
  apply List.ext_getElem
  · rw [fromL_len]; simp; omega
  · intro i hi1 hi2
    have hi : i < nw n := by rw [fromL_len] at hi1; exact hi1
    have iu : i < us.length := by omega
    have iv : i < vs.length := by omega
    simp only [fromL, List.getElem_map, List.getElem_range, List.getElem_zipWith]
    have eu : us[i] = us.getD i 0 := by simp [List.getD, iu]
    have ev : vs[i] = vs.getD i 0 := by simp [List.getD, iv]
    rw [eu, ev]
    apply Nat.eq_of_testBit_eq
    intro j
    rw [accM_bit _ _ _ _ (Nat.le_refl _)]
    by_cases hj : j < 64
    · have e0 : 64 * i + (64 - 64 + j) = 64 * i + j := by omega
      have ed : (64 * i + j) / 64 = i := by omega
      have em : (64 * i + j) % 64 = j := by omega
      have bu : (if (us.getD i 0).testBit j then 1 else 0) = bitAt us (64 * i + j) := by
        have := bitAt_test us (64 * i + j)
        rw [ed, em] at this
        rw [← this]
        rcases bitAt_le us (64 * i + j) with h | h <;> rw [h] <;> rfl
      have bv : (if (vs.getD i 0).testBit j then 1 else 0) = bitAt vs (64 * i + j) := by
        have := bitAt_test vs (64 * i + j)
        rw [ed, em] at this
        rw [← this]
        rcases bitAt_le vs (64 * i + j) with h | h <;> rw [h] <;> rfl
      rw [e0, hgf, bu, bv]
      have hd : decide (j < 64) = true := by simpa using hj
      rw [hd, Bool.true_and]
      unfold bitsOf
      rw [bitSums_len]
      by_cases hn : 64 * i + j < n
      · rw [bitSums_get g us vs n _ hn]
        have : decide (64 * i + j < n) = true := by simpa using hn
        rw [this, Bool.true_and]
        rw [Bool.eq_iff_iff]
        simp only [beq_iff_eq]
        omega
      · have z1 := right_bits h1 (64 * i + j) (by omega) (by omega)
        have z2 := right_bits h2 (64 * i + j) (by omega) (by omega)
        have : decide (64 * i + j < n) = false := by simpa using hn
        rw [this, Bool.false_and, z1, z2, h00]; rfl
    · have hd : decide (j < 64) = false := by simpa using hj
      rw [hd, Bool.false_and]
      symm
      exact Nat.testBit_lt_two_pow (Nat.lt_of_lt_of_le (hf _ _ (hu i) (hv i)) (show 2 ^ 64 ≤ 2 ^ j from Nat.pow_le_pow_right (by omega) (by omega)))
theorem from_xor (n : Nat) (us vs : List Nat) (h1 : rightB n us = true) (h2 : rightB n vs = true) (hu : ∀ j, us.getD j 0 < 18446744073709551616) (hv : ∀ j, vs.getD j 0 < 18446744073709551616) :
    fromL (bitsOf (bitSums (fun x y => (x + y) % 2) us vs n)) (nw n) = xorL us vs := by
  refine from_zip _ _ ?_ rfl (fun x y hx hy => Nat.xor_lt_two_pow (n := 64) hx hy) n us vs h1 h2 hu hv
  intro x y k
  rw [Nat.testBit_xor]
  cases x.testBit k <;> cases y.testBit k <;> rfl
end
section
/- Contracts of the reference's In, There and Of. -/
set_option linter.unusedVariables false
set_option linter.unusedSimpArgs false
open Go.RowKit
def hasB (zs : List Int) (x : Int) : Bool := zs.contains x
theorem in_any (A : Option Addr) (l c : Nat) (zs : List Int) (x : Int) (w : World) (hz : Ints w A l zs) (hl : l ≤ 9223372036854775807) :
    Calls Tryz.prog 136 #[.slice A l c, .int .i64 x] w fun e w' => e = .returned (.bool (hasB zs x)) ∧ w = w' := by
  have HZ := Lib.hid hz
  clear hz
  go_enter Tryz.func136, Tryz.ntmps136
  go_wp2
  go_loop [9] (fun i => ∃ j : Nat, j ≤ l ∧ i = .int .i64 j ∧ hasB (zs.take j) x = false) (fun i => l - (intOf i).toNat)
  case atStart => exact ⟨0, by omega, rfl, rfl⟩
  case round =>
    obtain ⟨j, hj, rfl, heq⟩ := hrel
    have HE := Lib.hid heq
    clear heq
    by_cases hlt : j < l
    · obtain ⟨b, o, rfl, hlb, hc⟩ := HZ.out.2.2 (by omega)
      have cz := hc j hlt
      obtain ⟨y, ey⟩ : ∃ y, y = zs.getD j 0 := ⟨_, rfl⟩
      rw [← ey] at cz
      have htk := take_one zs j 0 (by rw [HZ.out.1]; exact hlt)
      rw [← ey] at htk
      have HT := Lib.hid htk
      clear ey hc htk
      by_cases h : y = x
      · have t : (y == x) = true := by simpa using h
        have HF : Hid (hasB zs x = true) := by
          show hasB zs x = true
          unfold hasB
          rw [← List.take_append_drop (j + 1) zs, HT.out, h]
          simp
        clear h
        go_wp2
        go_ret
        exact ⟨by rw [HF.out]; rfl, rfl⟩
      · have t : (y == x) = false := by simpa using h
        have HF : Hid (hasB (zs.take (j + 1)) x = false) := by
          show hasB (zs.take (j + 1)) x = false
          have := HE.out
          unfold hasB at this ⊢
          rw [HT.out]
          simp at this ⊢
          exact ⟨this, fun e => h e.symm⟩
        clear h
        go_wp2
        go_round
        case rel => exact ⟨j + 1, by omega, by go_num, HF.out⟩
        case measure => simp [intOf]; omega
    · have HF : Hid (hasB zs x = false) := by
        show hasB zs x = false
        unfold hasB
        have := HE.out
        unfold hasB at this
        rw [List.take_of_length_le (by rw [HZ.out.1]; omega)] at this
        exact this
      go_wp2
      go_ret
      exact ⟨by rw [HF.out]; rfl, rfl⟩
def ofInts (zs : List Int) (n : Nat) : List Int := (List.range n).map fun (j : Nat) => if hasB zs (j : Int) then 1 else 0
theorem ofInts_succ (zs : List Int) (n : Nat) : ofInts zs (n + 1) = ofInts zs n ++ [if hasB zs (n : Int) then 1 else 0] := by simp [ofInts, List.range_succ]
theorem ofInts_len (zs : List Int) (n : Nat) : (ofInts zs n).length = n := by simp [ofInts]
theorem ofInts_get (zs : List Int) (n j : Nat) (h : j < n) : (ofInts zs n).getD j 0 = if hasB zs (j : Int) then 1 else 0 := by simp [ofInts, List.getD, h]
theorem ofInts_lt (zs : List Int) (n j : Nat) : -9223372036854775808 ≤ (ofInts zs n).getD j 0 ∧ (ofInts zs n).getD j 0 ≤ 9223372036854775807 := by
  by_cases h : j < n
  · rw [ofInts_get zs n j h]
    split <;> omega
  · have hn : (ofInts zs n)[j]? = none := List.getElem?_eq_none (by rw [ofInts_len]; omega)
    simp only [List.getD, hn, Option.getD_none]
    omega
theorem orBit_test (ws : List Nat) (p i j : Nat) (hi : i < ws.length) : ((orBit ws p).getD i 0).testBit j = ((ws.getD i 0).testBit j || (p / 64 == i && p % 64 == j)) := by
  unfold orBit
  by_cases h : p / 64 = i
  · subst h
    have e : (ws.set (p / 64) (ws.getD (p / 64) 0 ||| 2 ^ (p % 64))).getD (p / 64) 0 = ws.getD (p / 64) 0 ||| 2 ^ (p % 64) := by
      simp [List.getD, hi]
    rw [e, Nat.testBit_or, Nat.testBit_two_pow]
    simp
    rfl
  · have e : (ws.set (p / 64) (ws.getD (p / 64) 0 ||| 2 ^ (p % 64))).getD i 0 = ws.getD i 0 := by
      simp [List.getD, List.getElem?_set, h]
    have h' : (p / 64 == i) = false := by simpa using h
    rw [e, h']; simp
theorem foldl_test (ps : List Int) (ws : List Nat) (i j : Nat) (hi : i < ws.length) : ((ps.foldl (fun ws p => orBit ws p.toNat) ws).getD i 0).testBit j = ((ws.getD i 0).testBit j || ps.any fun p => p.toNat / 64 == i && p.toNat % 64 == j) := by
  induction ps generalizing ws with
  | nil => simp
  | cons p ps ih =>
    rw [List.foldl_cons, ih (orBit ws p.toNat) (by rw [orBit_length]; exact hi), orBit_test ws p.toNat i j hi, List.any_cons, Bool.or_assoc]
theorem ofBits_test (n : Nat) (ps : List Int) (i j : Nat) (hi : i < nw n) : ((ofBits n ps).getD i 0).testBit j = ps.any fun p => p.toNat / 64 == i && p.toNat % 64 == j := by
  unfold ofBits
  rw [foldl_test ps _ i j (by simpa using hi)]
  have e : (List.replicate (nw n) 0).getD i 0 = 0 := by simp [List.getD, hi]
  rw [e]; simp
theorem from_of (n : Nat) (zs : List Int) (ht : there n zs = true) : fromL (bitsOf (ofInts zs n)) (nw n) = ofBits n zs := by
  apply List.ext_getElem
  · rw [fromL_len, ofBits_len]
  · intro i hi1 hi2
    have hi : i < nw n := by rw [fromL_len] at hi1; exact hi1
    have eo : (ofBits n zs)[i] = (ofBits n zs).getD i 0 := by simp [List.getD, hi2]
    simp only [fromL, List.getElem_map, List.getElem_range]
    rw [eo]
    apply Nat.eq_of_testBit_eq
    intro j
    rw [accM_bit _ _ _ _ (Nat.le_refl _), ofBits_test n zs i j hi]
    have hall : ∀ p ∈ zs, 0 ≤ p ∧ p < n := by
      intro p hp
      have := (List.all_eq_true.1 ht) p hp
      simpa using this
    by_cases hj : j < 64
    · have hd : decide (j < 64) = true := by simpa using hj
      rw [hd, Bool.true_and, show 64 * i + (64 - 64 + j) = 64 * i + j by omega]
      rw [Bool.eq_iff_iff, List.any_eq_true]
      unfold bitsOf
      rw [ofInts_len, Bool.and_eq_true]
      constructor
      · rintro ⟨h1, h2⟩
        have h1' : 64 * i + j < n := by simpa using h1
        rw [ofInts_get zs n _ h1'] at h2
        by_cases hc : hasB zs ((64 * i + j : Nat) : Int) = true
        · refine ⟨((64 * i + j : Nat) : Int), by simpa [hasB] using hc, ?_⟩
          rw [Int.toNat_natCast]
          simp
          omega
        · rw [if_neg hc] at h2
          simp at h2
      · rintro ⟨p, hp, hb⟩
        have hr := hall p hp
        obtain ⟨q, rfl⟩ := Int.eq_ofNat_of_zero_le hr.1
        rw [Int.toNat_natCast] at hb
        simp at hb
        have e : 64 * i + j = q := by omega
        have hq : q < n := by omega
        rw [e]
        refine ⟨by simpa using hq, ?_⟩
        rw [ofInts_get zs n q hq]
        have hc : hasB zs (q : Int) = true := by simpa [hasB] using hp
        rw [if_pos hc]; rfl
    · have hd : decide (j < 64) = false := by simpa using hj
      rw [hd, Bool.false_and]
      symm
      rw [List.any_eq_false]
      intro p _
      simp
      intro _
      omega
end
section
/- Contracts of the reference's layer 8: Places, Row. -/
set_option linter.unusedVariables false
set_option linter.unusedSimpArgs false
open Go.RowKit
def RPlOut (k id : Nat) (w : World) (e : Ending) (w' : World) : Prop :=
  ∃ v, e = .returned v ∧ w'.ownsRow w.heap.size 3 1 v (nbMany k id) ((nbL k id).map natV) ∧ Below w.heap.size w w'
set_option maxRecDepth 100000 in
set_option maxHeartbeats 1000000 in
theorem refPlaces_any (k id : Nat) (h1 : 1 ≤ k) (h2 : k ≤ 64) (hi : id < 18446744073709551616) (w : World) : Calls Tryz.prog 123 #[.int .i64 k, .int .u64 id] w (RPlOut k id w) := by
  have HST := Lib.hid (refMixed_any id hi)
  have HTB := Lib.hid (refTable_any k h1 h2)
  have HR := Lib.hid (nbMany_range k id h1 h2)
  have HTK := Lib.hid (tab_k k h1 h2)
  have HTL := Lib.hid (show (tbl (wgts k k)).length = k by rw [tbl_len, wgts_len])
  have HTW := Lib.hid (tbl_lt (wgts k k))
  have HSM := Lib.hid (refSome_any (nbState id) k (nbMany k id) (nbState_lt id) h1 (by omega) HR.out.2)
  have HX := Lib.hid (refMixed_any (nbState id) (nbState_lt id))
  have HXL := Lib.hid (mixN_lt (nbState id))
  have HNL := Lib.hid (nb_len k id h1 h2)
  have HPK := Lib.hid (show nbMany k id = pickD (tbl (wgts k k)) (mixN (nbState id)) from rfl)
  have HE := Lib.hid (show IntKind.u64.wrap (((mixN id : Nat) : Int) + 11400714819323198485) = ((nbState id : Nat) : Int) by rw [IntKind.wrap_u64, nbState, nextS]; rfl)
  have HF : ∀ (x v : Value) (w : World), (Instr.field 184 (.agg #[x, v]) 1).run Tryz.prog w = .ok v w := fun _ _ _ => by kernel_rfl
  go_enter Tryz.func123, Tryz.ntmps123
  go_wp2_with fail
  refine (HST.out _).mono ?_
  rintro e w1 ⟨rfl, rfl⟩
  go_wp2_with fail
  refine (HTB.out _).mono ?_
  rintro e w1 ⟨v, rfl, hown, hb⟩
  rw [HTL.out] at hown
  obtain ⟨A, c, rfl, hlc, hcm, hw⟩ := own_slice hown HTW.out
  have HW := Lib.hid hw
  have B := Lib.hid hb
  clear hown hw hb HST HTB
  go_wp2_with fail
  try rw [HE.out]
  refine (HX.out _).mono ?_
  rintro e w2 ⟨rfl, rfl⟩
  go_wp2_with fail
  refine (refPick_any A k c _ _ _ HW.out (by unfold maxLen; omega) hlc HXL.out HTK.out).mono ?_
  rintro e w2 ⟨rfl, q, rfl⟩
  rw [← HPK.out]
  have B := Lib.hid (bdN B.out q)
  clear HW
  go_wp2_with fail
  try rw [HE.out]
  refine (HSM.out _).mono ?_
  rintro e w3 ⟨v, rfl, hown, hb⟩
  have B3 := Lib.hid (chain B.out hb)
  have hsz := B.out.size
  have hf := HF (.int .u64 ((shufN k (nbState id)).1 : Nat)) v
  go_wp2_with fail
  go_ret
  refine ⟨v, rfl, ?_, B3.out⟩
  have h := own_low hown hsz
  rw [show (someN k (nbMany k id) (nbState id)).length = nbMany k id from HNL.out] at h
  exact h
end
section
/- The reference's From and Of: rows of words of the call's own. -/
set_option linter.unusedVariables false
set_option linter.unusedSimpArgs false
open Go.RowKit
set_option maxHeartbeats 1000000 in
theorem from_own (A : Option Addr) (l c : Nat) (zs : List Int) (w : World) (hz : Ints w A l zs) (hl : l ≤ 10000) :
    Calls Tryz.prog 126 #[.slice A l c] w (OneOwn l (fromL (bitsOf zs) (nw l)) w) := by
  obtain ⟨i0, hi, hz0, hz1, hz2⟩ := info_parts u64_info
  have hnw : nw l ≤ 1000 := by unfold nw; omega
  have Q0 := Lib.hid ((Box.new w 139 #[.int .i64 0, .slice none 0 0]).alloc (.cells #[.int .i64 l, .slice none 0 0] 139))
  have q1 := Box.new (w.alloc (.cells #[.int .i64 0, .slice none 0 0] 139)) 139 #[.int .i64 l, .slice none 0 0]
  simp only [World.size_alloc] at q1
  have Q1 := Lib.hid q1
  have HW := Lib.hid (show Below w.heap.size w ((w.alloc (.cells #[.int .i64 0, .slice none 0 0] 139)).alloc (.cells #[.int .i64 l, .slice none 0 0] 139)) from ((Below.refl _ _).alloc (Nat.le_refl _) _).alloc (by simp) _)
  have HZ := Lib.hid hz
  clear hz q1
  have HI := Lib.hid hi
  have HZ0 := Lib.hid hz0
  have HZ1 := Lib.hid hz1
  have HZ2 := Lib.hid hz2
  clear hi hz0 hz1 hz2
  go_enter Tryz.func126, Tryz.ntmps126
  go_wp2
  go_loopw [4] (fun t wr => ∃ (i : Nat) (v : Value), i ≤ nw l ∧ t = .int .i64 i ∧ Box wr (w.heap.size + 1) 139 #[.int .i64 l, v] ∧ wr.ownsRow w.heap.size 22 1 v i ((fromL (bitsOf zs) i).map fun (x : Nat) => Value.int .u64 (x : Int)) ∧ Box wr w.heap.size 139 #[.int .i64 0, .slice none 0 0] ∧ Below w.heap.size w wr)
    (fun t _ => nw l - (intOf t).toNat)
  case atStart => exact ⟨0, _, by omega, rfl, Q1.out, World.ownsRow_nil _ _ _ _, Q0.out, HW.out⟩
  case round =>
    obtain ⟨i, v, hi, rfl, B1, hown, B0, hbel⟩ := hrel
    have R1 := Lib.hid B1
    have R0 := Lib.hid B0
    have HO := Lib.hid hown
    have HB := Lib.hid hbel
    clear B1 B0 hown hbel Q0 Q1 HW
    by_cases hlt : i < nw l
    · go_wp2_with fail
      refine (refWords_any l (by omega) _).mono ?_
      rintro e w' ⟨rfl, rfl⟩
      go_wp2
      go_loop [6, 5] (fun s x => ∃ k : Nat, k ≤ 64 ∧ s = .int .i64 ((k : Int) - 1) ∧ x = .int .u64 (accM (bitsOf zs) i (64 - k) : Nat)) (fun s _ => (intOf s + 1).toNat)
      case atStart => exact ⟨64, by omega, rfl, rfl⟩
      case round =>
        obtain ⟨k, hk, rfl, rfl⟩ := hrel
        cases k with
        | zero =>
          obtain ⟨A', c', rfl, hA'⟩ := own_form HO.out
          obtain ⟨a0, a1, f0, f1⟩ := R1.out.two
          have hz := R1.out.lt
          have hacc := accM_lt (bitsOf zs) i 64
          generalize hX : accM (bitsOf zs) i (64 - 0) = x at *
          have HX := Lib.hid hX
          clear hX
          have hi' := HI.out
          have hz0' := HZ0.out
          have hz1' := HZ1.out
          have hz2' := HZ2.out
          have hne : (22 : TypeId) ≠ 139 := by decide
          have X1 := Lib.hid (R1.out.alloc (.cells #[.int .u64 (x : Int)] 22))
          have X0 := Lib.hid (R0.out.alloc (.cells #[.int .u64 (x : Int)] 22))
          have XO := Lib.hid (HO.out.alloc (.cells #[.int .u64 (x : Int)] 22))
          have XB := Lib.hid (HB.out.alloc HB.out.size (.cells #[.int .u64 (x : Int)] 22))
          have N1 := Lib.hid (own_ne XO.out X1.out hne)
          have N0 := Lib.hid (own_ne XO.out X0.out hne)
          have hsz : w.heap.size ≤ (wr.alloc (.cells #[.int .u64 (x : Int)] 22)).heap.size := XB.out.size
          have HSZ := Lib.hid hsz
          have N2 := Lib.hid (fun k hk => (HO.out.lt k hk).1)
          clear hsz hne
          go_wp2_with (at_builtin; refine wpList_append_own _ rfl _ _ 137 rfl w.heap.size 22 i0 (.int .u64 0) 1 8 Tryz.underlying137 hi' hz0' hz1' hz2' rfl (by decide) _ _ _ rfl XO.out ⟨wr.heap.size, 0, none⟩ 1 1 [.int .u64 (x : Int)] rfl rfl (cell_one_new _ _ _) (by simp [Value.oneCell']) (by simp [maxLen]; omega) (by omega) HSZ.out ?_; intro v' w1 hown' hgrow _; obtain ⟨A2, c2, rfl, hA2⟩ := own_form hown'; have S1 := Lib.hid (X1.out.grown hgrow N1.out); have S0 := Lib.hid (X0.out.grown hgrow N0.out); have HC := Lib.hid (XB.out.grown hgrow HSZ.out N2.out); have HO2 := Lib.hid hown'; clear hown' hgrow hA2; obtain ⟨e0, e1, g0, g1⟩ := S1.out.two)
          go_roundw
          case rel =>
            refine ⟨i + 1, _, by omega, by go_num, S1.out.put 1 _, ?_, S0.out.far (p := ⟨w.heap.size + 1, 1, none⟩) (by simp) _, HC.out.setCell (p := ⟨w.heap.size + 1, 1, none⟩) (by simp) _⟩
            have h1 := HO2.out
            rw [fromL_succ, List.map_append]
            have h2 : (accM (bitsOf zs) i 64) = x := HX.out
            rw [List.map_cons, List.map_nil, h2]
            exact own_far h1 S1.out (by decide) 1 _
          case measure => simp [intOf] <;> omega
        | succ j =>
          rw [show (((j + 1 : Nat) : Int) - 1) = (j : Int) by omega]
          have hx := accM_lt (bitsOf zs) i (64 - (j + 1))
          have hp : 2 ^ (64 - (j + 1)) ≤ 2 ^ 63 := Nat.pow_le_pow_right (by omega) (by omega)
          have hx2 : accM (bitsOf zs) i (64 - (j + 1)) < 9223372036854775808 := by omega
          have HS : Hid (accM (bitsOf zs) i (64 - j) = 2 * accM (bitsOf zs) i (64 - (j + 1)) + if bitsOf zs (64 * i + j) then 1 else 0) := by
            show _ = _
            rw [show 64 - j = (64 - (j + 1)) + 1 by omega]
            simp only [accM]
            rw [show 63 - (64 - (j + 1)) = j by omega]
          clear hx hp
          generalize accM (bitsOf zs) i (64 - (j + 1)) = x at *
          by_cases hin : 64 * i + j < l
          · obtain ⟨b, o, rfl, hlb, hc⟩ := HZ.out.2.2 (by omega)
            have cz := (HB.out.cell (p := ⟨b, o + (64 * i + j), none⟩) hlb).trans (hc (64 * i + j) hin)
            have hin' : 64 * (i : Int) + j < l := by omega
            obtain ⟨y, ey⟩ : ∃ y, y = zs.getD (64 * i + j) 0 := ⟨_, rfl⟩
            rw [← ey] at cz
            have EY := Lib.hid ey
            clear ey hc
            by_cases hy : y = 1
            · have t1 : (y == 1) = true := by simpa using hy
              clear hy
              have HB1 : Hid (bitsOf zs (64 * i + j) = true) := by
                show bitsOf zs (64 * i + j) = true
                unfold bitsOf
                rw [← EY.out, t1, HZ.out.1]
                simpa using hin
              go_wp2
              go_round
              case rel => exact ⟨j, by omega, rfl, by rw [HS.out, HB1.out]; first | rfl | go_num⟩
              case measure => simp [intOf] <;> omega
            · have t1 : (y == 1) = false := by simpa using hy
              clear hy
              have HB1 : Hid (bitsOf zs (64 * i + j) = false) := by
                show bitsOf zs (64 * i + j) = false
                unfold bitsOf
                rw [← EY.out, t1]; simp
              go_wp2
              go_round
              case rel => exact ⟨j, by omega, rfl, by rw [HS.out, HB1.out]; first | rfl | go_num⟩
              case measure => simp [intOf] <;> omega
          · have hin' : ¬ 64 * (i : Int) + j < l := by omega
            have HB1 : Hid (bitsOf zs (64 * i + j) = false) := by
              show bitsOf zs (64 * i + j) = false
              unfold bitsOf
              rw [HZ.out.1]; simp; omega
            go_wp2
            go_round
            case rel => exact ⟨j, by omega, rfl, by rw [HS.out, HB1.out]; first | rfl | go_num⟩
            case measure => simp [intOf] <;> omega
    · obtain rfl : i = nw l := by omega
      obtain ⟨A', c', rfl, hA'⟩ := own_form HO.out
      obtain ⟨a0, a1, -, -⟩ := R1.out.two
      obtain ⟨b0, b1, f0, f1⟩ := R0.out.two
      go_wp2_with fail
      refine (refWords_any l (by omega) _).mono ?_
      rintro e w' ⟨rfl, rfl⟩
      go_wp2
      refine close_one Tryz.results126 rfl rfl R0.out.put2 Tryz.underlying139 rfl (by kernel_rfl) ⟨_, _, _, rfl, ?_, ?_⟩
      · exact OwnW.put2 (own_low HO.out (Nat.zero_le _)) R0.out _ _
      · exact (HB.out.setCell (p := ⟨w.heap.size, 0, none⟩) (Nat.le_refl _) _).setCell (p := ⟨w.heap.size, 1, none⟩) (Nat.le_refl _) _
set_option maxHeartbeats 1000000 in
theorem refOf_own (n : Nat) (A : Option Addr) (l c : Nat) (zs : List Int) (w : World) (hz : Ints w A l zs) (hl : l ≤ 1000000) (hn : n ≤ 512) (ht : there n zs = true) :
    Calls Tryz.prog 122 #[.int .i64 n, .slice A l c] w (OneOwn n (ofBits n zs) w) := by
  obtain ⟨i0, hi, hz0, hz1, hz2⟩ := info_parts int_info
  have q0 := Box.new w 139 #[.int .i64 0, .slice none 0 0]
  have hW : Below w.heap.size w (w.alloc (.cells #[.int .i64 0, .slice none 0 0] 139)) := (Below.refl _ _).alloc (Nat.le_refl _) _
  go_enter Tryz.func122, Tryz.ntmps122
  go_wp2
  have how := own_empty (w.alloc (.cells #[.int .i64 0, .slice none 0 0] 139)) w.heap.size 3 hW.size
  simp only [World.size_alloc] at how
  have HOw := Lib.hid how
  have Q0 := Lib.hid (q0.alloc (.cells #[] 3))
  have HW := Lib.hid (hW.alloc hW.size (.cells #[] 3))
  have HZ := Lib.hid hz
  have HT := Lib.hid ht
  clear how q0 hW hz ht
  have HI := Lib.hid hi
  have HZ0 := Lib.hid hz0
  have HZ1 := Lib.hid hz1
  have HZ2 := Lib.hid hz2
  clear hi hz0 hz1 hz2
  have hne := Lib.hid (show (3 : TypeId) ≠ 139 by decide)
  go_loopw [5, 6] (fun v t wr => ∃ i : Nat, i ≤ n ∧ t = .int .i64 i ∧ wr.ownsRow w.heap.size 3 1 v i ((ofInts zs i).map (Value.int .i64)) ∧ Box wr w.heap.size 139 #[.int .i64 0, .slice none 0 0] ∧ Below w.heap.size w wr)
    (fun _ t _ => n - (intOf t).toNat)
  case atStart => exact ⟨0, by omega, rfl, HOw.out, Q0.out, HW.out⟩
  case round =>
    obtain ⟨i, hi, rfl, hown, B0, hbel⟩ := hrel
    have R0 := Lib.hid B0
    have HO := Lib.hid hown
    have HB := Lib.hid hbel
    clear B0 hown hbel Q0 HW HOw
    by_cases hlt : i < n
    · have hlt' : (i : Int) < (n : Int) := by omega
      go_wp2_with fail
      refine (in_any A l c zs i _ (HZ.out.below HB.out) (by omega)).mono ?_
      rintro e w' ⟨rfl, rfl⟩
      have hi' := HI.out
      have hz0' := HZ0.out
      have hz1' := HZ1.out
      have hz2' := HZ2.out
      cases hc : hasB zs (i : Int) with
      | true =>
        have HS : Hid (ofInts zs (i + 1) = ofInts zs i ++ [1]) := by
          show _ = _
          rw [ofInts_succ, hc]; rfl
        clear hc
        have X0 := Lib.hid (R0.out.alloc (.cells #[.int .i64 1] 3))
        have XO := Lib.hid (HO.out.alloc (.cells #[.int .i64 1] 3))
        have XB := Lib.hid (HB.out.alloc HB.out.size (.cells #[.int .i64 1] 3))
        have N0 := Lib.hid (own_ne XO.out X0.out hne.out)
        have N2 := Lib.hid (fun k hk => (HO.out.lt k hk).1)
        go_wp2_with (at_builtin; refine wpList_append_own _ rfl _ _ 106 rfl w.heap.size 3 i0 (.int .i64 0) 1 8 Tryz.underlying106 hi' hz0' hz1' hz2' rfl (by decide) _ _ _ rfl XO.out ⟨wr.heap.size, 0, none⟩ 1 1 [.int .i64 1] rfl rfl (cell_one_new _ _ _) (by simp [Value.oneCell']) (by simp [maxLen]; omega) (by omega) XB.out.size ?_; intro v' w1 hown' hgrow _; have S0 := Lib.hid (X0.out.grown hgrow N0.out); have HC := Lib.hid (XB.out.grown hgrow XB.out.size N2.out); have HO2 := Lib.hid hown'; clear hown' hgrow)
        go_roundw
        case rel =>
          refine ⟨i + 1, by omega, by go_num, ?_, S0.out, HC.out⟩
          rw [HS.out, List.map_append]
          exact HO2.out
        case measure => simp [intOf] <;> omega
      | false =>
        have HS : Hid (ofInts zs (i + 1) = ofInts zs i ++ [0]) := by
          show _ = _
          rw [ofInts_succ, hc]; rfl
        clear hc
        have X0 := Lib.hid (R0.out.alloc (.cells #[.int .i64 0] 3))
        have XO := Lib.hid (HO.out.alloc (.cells #[.int .i64 0] 3))
        have XB := Lib.hid (HB.out.alloc HB.out.size (.cells #[.int .i64 0] 3))
        have N0 := Lib.hid (own_ne XO.out X0.out hne.out)
        have N2 := Lib.hid (fun k hk => (HO.out.lt k hk).1)
        go_wp2_with (at_builtin; refine wpList_append_own _ rfl _ _ 106 rfl w.heap.size 3 i0 (.int .i64 0) 1 8 Tryz.underlying106 hi' hz0' hz1' hz2' rfl (by decide) _ _ _ rfl XO.out ⟨wr.heap.size, 0, none⟩ 1 1 [.int .i64 0] rfl rfl (cell_one_new _ _ _) (by simp [Value.oneCell']) (by simp [maxLen]; omega) (by omega) XB.out.size ?_; intro v' w1 hown' hgrow _; have S0 := Lib.hid (X0.out.grown hgrow N0.out); have HC := Lib.hid (XB.out.grown hgrow XB.out.size N2.out); have HO2 := Lib.hid hown'; clear hown' hgrow)
        go_roundw
        case rel =>
          refine ⟨i + 1, by omega, by go_num, ?_, S0.out, HC.out⟩
          rw [HS.out, List.map_append]
          exact HO2.out
        case measure => simp [intOf] <;> omega
    · obtain rfl : i = n := by omega
      have hlt' : ¬ (i : Int) < (i : Int) := by omega
      obtain ⟨A', c', rfl, hA'⟩ := own_form HO.out
      go_wp2_with fail
      refine (from_own A' i c' _ _ (own_ints HO.out (ofInts_lt zs i)) (by omega)).mono ?_
      rintro e x1 ⟨A1, l1, c1, rfl, hw, hb⟩
      have P0 := Lib.hid (R0.out.keep hb)
      have T1 := Lib.hid (chain HB.out hb)
      have HWo := Lib.hid hw
      clear hw hb
      obtain ⟨r0, r1, r2, r3⟩ := P0.out.two
      go_wp2
      refine close_one Tryz.results122 rfl rfl P0.out.put2 Tryz.underlying139 rfl (by kernel_rfl) ⟨_, _, _, rfl, ?_, ?_⟩
      · have h := HWo.out
        rw [from_of i zs HT.out] at h
        exact h.put2 P0.out _ _
      · exact (T1.out.setCell (p := ⟨w.heap.size, 0, none⟩) (Nat.le_refl _) _).setCell (p := ⟨w.heap.size, 1, none⟩) (Nat.le_refl _) _
end
section
/- The reference's From, Of, Row: rows of words of the call's own. -/
set_option linter.unusedVariables false
set_option linter.unusedSimpArgs false
open Go.RowKit
set_option maxHeartbeats 1000000 in
theorem refRow_own (k id : Nat) (h1 : 1 ≤ k) (h2 : k ≤ 64) (hi : id < 18446744073709551616) (w : World) : Calls Tryz.prog 99 #[.int .i64 k, .int .u64 id] w (OneOwn k (nbRow k id) w) := by
  have HS := Lib.hid (refPlaces_any k id h1 h2 hi)
  have HM := Lib.hid (nbMany_range k id h1 h2)
  have HT := Lib.hid (nb_there k id)
  have q0 := Box.new w 139 #[.int .i64 0, .slice none 0 0]
  have Q0 := Lib.hid q0
  have HW := Lib.hid (show Below w.heap.size w (w.alloc (.cells #[.int .i64 0, .slice none 0 0] 139)) from (Below.refl _ _).alloc (Nat.le_refl _) _)
  clear q0
  go_enter Tryz.func99, Tryz.ntmps99
  go_wp2_with fail
  refine (HS.out _).mono ?_
  rintro e w1 ⟨v, rfl, hown, hb⟩
  obtain ⟨A, c, rfl, hA⟩ := own_form hown
  have Q0 := Lib.hid (Q0.out.keep hb)
  have HW := Lib.hid (chain HW.out hb)
  have HI := Lib.hid (own_natInts hown (some_bound k _ _ (by omega)))
  clear hown hb
  go_wp2_with fail
  refine (refOf_own k A (nbMany k id) c _ _ HI.out (by have := HM.out.2; omega) (by omega) HT.out).mono ?_
  rintro e w2 ⟨A2, l, c2, rfl, hw, hb⟩
  have P0 := Lib.hid (Q0.out.keep hb)
  have T1 := Lib.hid (chain HW.out hb)
  have HWo := Lib.hid hw
  clear hw hb
  obtain ⟨r0, r1, r2, r3⟩ := P0.out.two
  go_wp2
  refine close_one Tryz.results99 rfl rfl P0.out.put2 Tryz.underlying139 rfl (by kernel_rfl) ⟨_, _, _, rfl, HWo.out.put2 P0.out _ _, ?_⟩
  exact (T1.out.setCell (p := ⟨w.heap.size, 0, none⟩) (Nat.le_refl _) _).setCell (p := ⟨w.heap.size, 1, none⟩) (Nat.le_refl _) _
end
section
/- The reference's Rows. -/
set_option linter.unusedVariables false
set_option linter.unusedSimpArgs false
open Go.RowKit
end
section
/- The reference's Same of two matrices. -/
set_option linter.unusedVariables false
set_option linter.unusedSimpArgs false
open Go.RowKit
theorem flatR_at (k : Int) (rs : List (Option Addr × Nat × Nat)) (j : Nat) (hj : j < rs.length) : (flatR k rs)[j * 2]? = some (.int .i64 k) ∧ (flatR k rs)[j * 2 + 1]? = some (.slice (rs.getD j (none, 0, 0)).1 (rs.getD j (none, 0, 0)).2.1 (rs.getD j (none, 0, 0)).2.2) := by
  induction rs generalizing j with
  | nil => cases hj
  | cons r rs ih =>
    have e : flatR k (r :: rs) = .int .i64 k :: .slice r.1 r.2.1 r.2.2 :: flatR k rs := rfl
    cases j with
    | zero => rw [e]; exact ⟨rfl, rfl⟩
    | succ j =>
      have h := ih j (by simpa using hj)
      rw [e, show (j + 1) * 2 = j * 2 + 1 + 1 by omega]
      exact h
theorem add_zero_off (g j : Nat) : (⟨g, 0, none⟩ : Addr).add j = ⟨g, j, none⟩ := by unfold Addr.add; split <;> simp_all
theorem MatW.at {w : World} {base : Nat} {k : Int} {A : Option Addr} {n c : Nat} {ls : List (List Nat)} (h : MatW w base k (.slice A n c) ls) (j : Nat) (hj : j < ls.length) :
    ∃ g B l d, A = some ⟨g, 0, none⟩ ∧ g < w.heap.size ∧ w.cell? ⟨g, j * 2, none⟩ = some (.int .i64 k) ∧ w.cell? ⟨g, j * 2 + 1, none⟩ = some (.slice B l d) ∧ OwnW w B l d (ls.getD j []) := by
  obtain ⟨rs, h1, h2, h3⟩ := h
  obtain ⟨f1, f2⟩ := flatR_at k rs j (by omega)
  have h3 := h3 j hj
  have hA := h2.2
  rcases hA with ⟨-, h0⟩ | ⟨g, cap, cur, hv, -⟩
  · omega
  · injection hv with hA _ _
    subst hA
    have hc := World.ownsRow.cells h2 (g := g) rfl
    have c1 := hc _ _ f1
    have c2 := hc _ _ f2
    rw [add_zero_off] at c1 c2
    exact ⟨g, _, _, _, rfl, (h2.lt g rfl).2, c1, c2, h3⟩
end
section
/- NeighboursTell: the walk. -/
set_option linter.unusedVariables false
set_option linter.unusedSimpArgs false
open Go.RowKit
end
section
/- NeighboursRows: the walk. -/
set_option linter.unusedVariables false
set_option linter.unusedSimpArgs false
open Go.RowKit
theorem nbRow_lt (k id j : Nat) : (nbRow k id).getD j 0 < 18446744073709551616 := ofBits_lt k _ j
theorem rowsRows_lt (k : Nat) (zs : List Nat) (j i : Nat) : ((zs.map (nbRow k)).getD j []).getD i 0 < 18446744073709551616 := by
  by_cases h : j < zs.length
  · have e : (zs.map (nbRow k)).getD j [] = nbRow k (zs.getD j 0) := by simp [List.getD, h]
    rw [e]; exact nbRow_lt _ _ _
  · have e : (zs.map (nbRow k)).getD j [] = [] := by simp [List.getD, List.getElem?_eq_none (Nat.le_of_not_lt h)]
    rw [e]; simp
theorem rows_yes (k : Nat) (h1 : 1 ≤ k) (h2 : k ≤ 64) (A : Option Addr) (l c : Nat) (zs : List Nat) (w : World) (hz : Words w A l zs) (hl : l ≤ 64) :
    Calls Tryz.prog 134 #[.int .i64 k, .slice A l c] w (MatOut k (nbRow k) zs w) := by
  have HM := srcMay_any k
  rw [kmb_yes (n := k) (by omega)] at HM
  exact rows_gen k (nbRow k) ⟨h1, h2⟩ HM (fun id hi w => srcRow_own k id h1 h2 hi w) A l c zs w hz hl
theorem MatW.form {w : World} {base : Nat} {k : Int} {v : Value} {ls : List (List Nat)} {n : Nat} (h : MatW w base k v ls) (hn : ls.length = n) : ∃ A c, v = .slice A n c := by
  obtain ⟨rs, -, h2, -⟩ := h
  obtain ⟨A, c, h, -⟩ := own_form h2
  exact ⟨A, c, by rw [h, hn]⟩
end
end Go.Proofs.YtcikoaeiopbbbaaGreat
