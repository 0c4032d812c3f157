/- Contracts of layer 7: blocksMayBe, weights, Weights. -/
import Derived.Test.YtbgikkeiapbghaaDoorDegW2
namespace Go.Proofs.YtbgikkeiapbghaaDoor
open Go.RowKit Go.Shelf
attribute [local go_sem] Oper.semAt_some
def kmb (n : Int) : Bool := decide (1 ≤ n) && decide (n ≤ 64)
theorem kmb_yes {n : Int} (h : 1 ≤ n ∧ n ≤ 64) : kmb n = true := by simp [kmb, h]
theorem kmb_no {n : Int} (h : ¬ (1 ≤ n ∧ n ≤ 64)) : kmb n = false := by
  rw [Bool.eq_false_iff]; intro e; simp [kmb] at e; exact h e
theorem kmb_any (n : Int) (w : World) : Calls Tryd.prog 27 #[.int .i64 n] w fun e w' => e = .returned (.bool (kmb n)) ∧ w = w' := by
  by_cases h : 1 ≤ n
  · by_cases h2 : n ≤ 64
    · rw [kmb_yes ⟨h, h2⟩]
      go_enter Tryd.func27, Tryd.ntmps27
      go_wp2
      go_ret
      exact ⟨rfl, rfl⟩
    · rw [kmb_no (fun x => h2 x.2)]
      have t : decide (n ≤ 64) = false := by simpa using h2
      go_enter Tryd.func27, Tryd.ntmps27
      go_wp2
      go_ret
      exact ⟨by simp, rfl⟩
  · rw [kmb_no (fun x => h x.1)]
    have t : decide (1 ≤ n) = false := by simpa using h
    go_enter Tryd.func27, Tryd.ntmps27
    go_wp2
    go_ret
    exact ⟨by simp, rfl⟩
theorem root_small : ∀ k : Fin 65, 1 ≤ k.val → 1 ≤ root k.val ∧ root k.val ≤ 8 := by
  intro k h
  obtain ⟨h1, h2, _, _⟩ := root_spec k.val (by omega)
  have hk := k.isLt
  constructor
  · rcases Nat.eq_zero_or_pos (root k.val) with e | e
    · rw [e] at h2; omega
    · exact e
  · rcases Nat.lt_or_ge 8 (root k.val) with e | e
    · have := sq_le (show 9 ≤ root k.val from e); omega
    · exact e
/-- The iterator that weights hands back: its three boxes. -/
def ItOut (k : Nat) (w : World) (e : Ending) (w' : World) : Prop :=
  ∃ B1 B2 B3, e = .returned (.func (.func 39) #[] #[.pointer (some ⟨B1, 0, none⟩), .pointer (some ⟨B2, 0, none⟩), .pointer (some ⟨B3, 0, none⟩)]) ∧ Box w' B1 22 #[.int .u64 k] ∧ Box w' B2 22 #[.int .u64 (k / root k : Nat)] ∧ Box w' B3 22 #[.int .u64 (root k : Nat)] ∧ (w.heap.size ≤ B1 ∧ w.heap.size ≤ B2 ∧ w.heap.size ≤ B3) ∧ Below w.heap.size w w'
theorem weights_any (k : Nat) (h1 : 1 ≤ k) (h2 : k ≤ 64) (w : World) : Calls Tryd.prog 28 #[.int .i64 k] w (ItOut k w) := by
  have hr := root_small ⟨k, by omega⟩ h1
  simp only at hr
  have HR := Lib.hid (root_yes k (by omega) w)
  have HX := Lib.hid (show IntKind.u64.wrap ((k : Int) / (root k : Int)) = ((k / root k : Nat) : Int) by
    have : (k : Int) / (root k : Int) = ((k / root k : Nat) : Int) := by simp
    rw [this]; have h := Nat.div_le_self k (root k); generalize k / root k = q at *; exact IntWalk.u64_in _ (by omega))
  unfold ItOut
  generalize root k = r at *
  obtain ⟨g1, g2⟩ := hr
  go_enter Tryd.func28, Tryd.ntmps28
  go_wp2_with fail
  refine HR.out.mono ?_
  rintro e w1 ⟨rfl, hb⟩
  have HB := Lib.hid hb
  clear hb
  go_wp2
  go_ret
  rw [HX.out]
  have b1 := ((Box.new w1 22 #[.int .u64 k]).alloc (.cells #[.int .u64 r] 22)).alloc (.cells #[.int .u64 (k / r : Nat)] 22)
  have b3 := (Box.new (w1.alloc (.cells #[.int .u64 k] 22)) 22 #[.int .u64 r]).alloc (.cells #[.int .u64 (k / r : Nat)] 22)
  have b2 := Box.new ((w1.alloc (.cells #[.int .u64 k] 22)).alloc (.cells #[.int .u64 r] 22)) 22 #[.int .u64 (k / r : Nat)]
  simp only [World.size_alloc] at b2 b3
  have hsz := HB.out.size
  exact ⟨_, _, _, rfl, b1, b2, b3, ⟨by omega, by omega, by omega⟩, chain HB.out ((((Below.refl _ w1).alloc (Nat.le_refl _) _).alloc (by simp) _).alloc (by simp; omega) _)⟩
/-- Weights and sums are small. -/
theorem wgt_small (k d : Nat) (hk : 1 ≤ k) (hk2 : k ≤ 64) (t p : Nat) (ht : t ≤ 8) : plainN d k + moreN d p t k ≤ 300000000000 := by
  have h1 : plainN d k ≤ 4294967296 := by
    unfold plainN; split <;> exact Nat.div_le_self _ _
  have h2 : moreN d p t k ≤ 4294967296 * 64 := by
    unfold moreN
    have hb : Lib.bitLen t ≤ 8 := bitLen_le t (by omega)
    split
    · exact Nat.le_trans (Nat.div_le_self _ _) (Nat.mul_le_mul (Nat.le_refl _) (by omega))
    · split
      · refine Nat.le_trans (Nat.div_le_self _ _) ?_
        rw [Nat.mul_assoc]
        exact Nat.mul_le_mul (Nat.le_refl _) (Nat.mul_le_mul ht hb)
      · omega
  omega
theorem weights_stops (n : Nat) (hn : 1 ≤ n) (B1 B2 B3 k : Nat) (hk1 : 1 ≤ k) (hk : k ≤ 64) (w : World) (b1 : Box w B1 22 #[.int .u64 k]) (b2 : Box w B2 22 #[.int .u64 (k / root k : Nat)]) (b3 : Box w B3 22 #[.int .u64 (root k : Nat)]) :
    SeqStopsK Fence.wide n Tryd.prog 39 #[.pointer (some ⟨B1, 0, none⟩), .pointer (some ⟨B2, 0, none⟩), .pointer (some ⟨B3, 0, none⟩)] (fun x : Nat => #[Value.int .u64 (x : Int)]) (Kp3 B1 B2 B3) (fun ys => ys = wgts k k) (fun _ => True) k w := fun l J Jx W hW hJ _ hY h0 => by
  have hr := root_small ⟨k, by omega⟩ hk1
  simp only at hr
  refine (weights1_in Fence.wide rfl n hn l B1 B2 B3 k (k / root k) (root k) hk1 hk hr.1 (by omega) (Nat.le_trans (Nat.div_le_self _ _) hk) (fun d hd => by have := wgt_small k d hk1 hk (root k) (k / root k) hr.2; omega) J Jx W.heap.size hJ hY W ((b1.keep hW).cell 0) ((b2.keep hW).cell 0) ((b3.keep hW).cell 0) h0).mono ?_
  rintro e W' ⟨he, ⟨ys, rfl, hj⟩ | ⟨pre, _, hj⟩⟩
  · exact ⟨he, .inl ⟨_, rfl, hj⟩⟩
  · exact ⟨he, .inr ⟨_, trivial, hj⟩⟩
theorem u64_infoW : (Tryd.prog.info? 22).map (fun i => (i.zero, i.size, i.bytes)) = some (some (.int .u64 0), 1, 8) := by kernel_rfl
def u64V (x : Nat) : Value := .int .u64 (x : Int)
/-- A slice of words, and no error, is returned. -/
def WordsOut (zs : List Nat) (w : World) (e : Ending) (w' : World) : Prop := ∃ v, e = .returned (.tuple #[v, .int .i64 0]) ∧ w'.ownsRow w.heap.size 22 1 v zs.length (zs.map u64V) ∧ Below w.heap.size w w'
theorem own_low {w : World} {base base' e size n : Nat} {v : Value} {xs : List Value} (h : w.ownsRow base e size v n xs) (hb : base' ≤ base) : w.ownsRow base' e size v n xs := by
  refine ⟨h.1, ?_⟩
  rcases h.2 with h0 | ⟨g, cap, cur, rfl, h1, h2⟩
  · exact .inl h0
  · exact .inr ⟨g, cap, cur, rfl, Nat.le_trans hb h1, h2⟩
theorem keep3 {W w1 : World} {B B1 B2 B3 n1 : Nat} {v v' : Value} {e k : Nat} {xs : List Value} {tmp : Obj} (hrow : W.ownsRow n1 e 1 v k xs) (hgrow : (W.alloc tmp).grownBy w1 v.ownBlock) (hs : n1 ≤ W.heap.size)
    (h1 : B1 < n1) (h2 : B2 < n1) (h3 : B3 < n1) (q1 : B1 ≠ B) (q2 : B2 ≠ B) (q3 : B3 ≠ B) : Kp3 B1 B2 B3 W (w1.setCell ⟨B, 0, none⟩ v') := by
  intro b hb
  have hbn : b < n1 ∧ b ≠ B := by rcases hb with rfl | rfl | rfl <;> exact ⟨‹_›, ‹_›⟩
  have hne : some b ≠ v.ownBlock := fun e => by have := (hrow.lt b e.symm).1; omega
  rw [heap_setCell_other w1 ⟨B, 0, none⟩ b v' hbn.2, hgrow.block b (by simp; omega) hne, Below.heap_alloc W tmp b (by omega)]
theorem kp3_put {B1 B2 B3 : Nat} {w : World} (h1 : B1 < w.heap.size) (h2 : B2 < w.heap.size) (h3 : B3 < w.heap.size) (W : World) (l : Nat) (o o' : Obj) (hl : w.heap.size ≤ l) (_ : W.heap[l]? = some o) (_ : o.isCells = false) (_ : o.isWalk = false) : Kp3 B1 B2 B3 W (W.putObj l o') := by
  intro b hb
  exact World.putObj_heap_other (by rcases hb with rfl | rfl | rfl <;> omega)
theorem box_ne {W : World} {a b : Nat} {t u : TypeId} {x y : Array Value} (h : Box W a t x) (k : Box W b u y) (hne : t ≠ u) : a ≠ b := by
  intro e
  subst e
  unfold Box at h k
  rw [h] at k
  injection k with k
  injection k with _ ht
  exact hne ht
/-- The sum of weights, modulo 2^64. -/
def sumN (xs : List Nat) : Nat := xs.foldl (fun s x => (s + x) % 18446744073709551616) 0
theorem sumN_snoc (xs : List Nat) (x : Nat) : sumN (xs ++ [x]) = (sumN xs + x) % 18446744073709551616 := by simp [sumN]
/-- The sums of the first weights, one by one. -/
def tbl (xs : List Nat) : List Nat := (List.range xs.length).map fun i => sumN (xs.take (i + 1))
theorem tbl_snoc (xs : List Nat) (x : Nat) : tbl (xs ++ [x]) = tbl xs ++ [sumN (xs ++ [x])] := by
  unfold tbl
  rw [List.length_append, List.length_singleton, List.range_succ, List.map_append]
  congr 1
  · apply List.map_congr_left
    intro i hi
    have : i < xs.length := by simpa using hi
    rw [List.take_append_of_le_length (by omega)]
  · simp [List.take_of_length_le]
theorem wrap_nat (s x : Nat) : IntKind.u64.wrap ((s : Int) + (x : Int)) = (((s + x) % 18446744073709551616 : Nat) : Int) := by
  rw [IntKind.wrap_u64]; omega
theorem tbl_len (xs : List Nat) : (tbl xs).length = xs.length := by simp [tbl]
theorem tableN_no (n : Int) (h : kmb n = false) (w : World) : Calls Tryd.prog 18 #[.int .i64 n] w fun e w' => e = .returned (.tuple #[.slice none 0 0, .int .i64 2]) ∧ Below w.heap.size w w' := by
  have H := Lib.hid (kmb_any n w)
  rw [h] at H
  go_enter Tryd.func18, Tryd.ntmps18
  go_wp2_with fail
  refine H.out.mono ?_
  rintro e w1 ⟨rfl, rfl⟩
  go_wp2_with fail
  go_ret2
  exact ⟨rfl, Below.refl _ _⟩
set_option maxRecDepth 100000 in
set_option maxHeartbeats 4000000 in
theorem tableN_in (k : Nat) (hk1 : 1 ≤ k) (hk : k ≤ 64) (w : World) : CallsIn Fence.wide 5 Tryd.prog 18 #[.int .i64 k] w (WordsOut (tbl (wgts k k)) w) := by
  obtain ⟨i0, hi, hz0, hz1, hz2⟩ := info_parts u64_infoW
  have H := Lib.hid (kmb_any k w)
  rw [kmb_yes (n := (k : Int)) (by omega)] at H
  have HWt := Lib.hid (weights_any k hk1 hk ((w.alloc (.cells #[.slice none 0 0] 27)).alloc (.cells #[.int .u64 0] 22)))
  refine callsIn_of_wp_marks Tryd.func18 rfl trivial ?_ rfl
  simp only [Tryd.ntmps18, List.size_toArray, List.length_cons, List.length_nil, Nat.reduceAdd, Nat.reduceSub, Array.replicate_succ, Array.replicate_zero, List.push_toArray, List.append_toArray, List.nil_append, List.cons_append]
  gi_wp2_with (refine ⟨trivial, ?_⟩; first | (gi_at_call 27; refine (callsIn_wide.2 H.out).mono ?_; rintro e w' ⟨rfl, rfl⟩) | (gi_at_call 28; refine (callsIn_wide.2 HWt.out).mono ?_; rintro e w1 ⟨B1, B2, B3, rfl, b1, b2, b3, hge, hb⟩))
  have bO : Boxed w1 w.heap.size 27 (.slice none 0 0) := ((Box.new w 27 #[.slice none 0 0]).alloc (.cells #[.int .u64 0] 22)).keep hb
  have bS : Boxed w1 (w.heap.size + 1) 22 (.int .u64 0) := by
    have := (Box.new (w.alloc (.cells #[.slice none 0 0] 27)) 22 #[.int .u64 0]).keep hb
    rwa [World.size_alloc] at this
  have hB0 : Below w.heap.size w w1 := chain (((Below.refl w.heap.size w).alloc (Nat.le_refl _) (.cells #[.slice none 0 0] 27)).alloc (by simp) (.cells #[.int .u64 0] 22)) hb
  simp only [World.size_alloc] at hge
  obtain ⟨p1, p2, p3⟩ := hge
  have l1 := b1.lt
  have l2 := b2.lt
  have l3 := b3.lt
  have lO := bO.lt
  have lS := bS.lt
  clear hb
  refine wpIn_rangeFunc_ownG rfl (by omega) (gf := 39) (lb := #[.pointer (some ⟨B1, 0, none⟩), .pointer (some ⟨B2, 0, none⟩), .pointer (some ⟨B3, 0, none⟩)]) rfl trivial (enters_of Tryd.func39 (by kernel_rfl) rfl)
    (weights_stops (5 - 1) (by omega) B1 B2 B3 k hk1 hk w1 b1 b2 b3) Kp3.trans (kp3_put l1 l2 l3) (Below.refl _ _) (fun _ => rfl)
    (fun pre W => (∃ v, Boxed W w.heap.size 27 v ∧ W.ownsRow w1.heap.size 22 1 v (tbl pre).length ((tbl pre).map u64V) ∧ True) ∧ (Boxed W (w.heap.size + 1) 22 (.int .u64 (sumN pre : Nat))) ∧ Below w.heap.size w W ∧ w1.heap.size ≤ W.heap.size)
    (fun _ _ _ => False)
    (OwnFrom.and (Own.from (holdsRow_own w1.heap.size w.heap.size 27 22 1 (fun pre : List Nat => (tbl pre).length) (fun pre : List Nat => (tbl pre).map u64V) (fun _ _ => True)) _) (OwnFrom.and (Own.from (boxed_own (w.heap.size + 1) 22 (fun pre : List Nat => .int .u64 (sumN pre : Nat))) _) (OwnFrom.and (ownFrom_below (Nat.le_refl _) (by omega)) (fun _ _ _ _ hs hg _ => Nat.le_trans hs hg.size))))
    (fun _ _ _ _ _ hs _ _ => hs)
    ⟨⟨_, bO, World.ownsRow_nil _ _ _ _, trivial⟩, bS, hB0, Nat.le_refl _⟩
    (fun x => { tmps := #[.int .i64 k, undef, .slice none 0 0, .int .i64 0, .pointer (some ⟨w.heap.size, 0, none⟩), .pointer (some ⟨w.heap.size + 1, 0, none⟩), .int .u64 (x : Int), .int .i64 k, .bool true, .bool false, .int .i64 k, .func (.func 39) #[] #[.pointer (some ⟨B1, 0, none⟩), .pointer (some ⟨B2, 0, none⟩), .pointer (some ⟨B3, 0, none⟩)], .int .u64 (x : Int), undef, undef, undef, undef, undef, undef, undef, undef], defers := [] }) ?assign ?body ?done ?stop
  case assign =>
    intro l x W K hK
    gi_wp2
    exact hK
  case body =>
    rintro l pre x W ⟨⟨v, hv, hrow, _⟩, hS, hB, hsz⟩ hlt
    have hq : some (w.heap.size + 1) ≠ v.ownBlock := fun e => by have := (hrow.lt _ e.symm).1; omega
    have HN := Lib.hid (sumN_snoc pre x)
    have HT := Lib.hid (tbl_snoc pre x)
    have HTL := Lib.hid (tbl_len pre)
    have hwn := wrap_nat (sumN pre) x
    rw [← HN.out] at hwn
    generalize hs' : sumN (pre ++ [x]) = s' at *
    have HE := Lib.hid hs'
    clear hs'
    generalize sumN pre = s0 at *
    have hv' := hv.other (B' := w.heap.size + 1) (by omega) (.int .u64 (s' : Int))
    have hS' : Boxed (W.setCell ⟨w.heap.size + 1, 0, none⟩ (.int .u64 (s' : Int))) (w.heap.size + 1) 22 (.int .u64 (s' : Int)) := hS.set _
    have hrow' := hrow.kept (grownBy_setCell' W (w.heap.size + 1) (.int .u64 (s' : Int))) (.inr hq.symm)
    have hB' := hB.setCell (p := ⟨w.heap.size + 1, 0, none⟩) (by simp) (.int .u64 (s' : Int))
    have hko : KeepsOthers W (W.setCell ⟨w.heap.size + 1, 0, none⟩ (.int .u64 (s' : Int))) := KeepsOthers.setCell _ _ _
    have hk1 : Kp3 B1 B2 B3 W (W.setCell ⟨w.heap.size + 1, 0, none⟩ (.int .u64 (s' : Int))) := fun b hb => heap_setCell_other _ _ _ _ (by rcases hb with rfl | rfl | rfl <;> (show _ ≠ w.heap.size + 1; omega))
    have hsz' : w1.heap.size ≤ (W.setCell ⟨w.heap.size + 1, 0, none⟩ (.int .u64 (s' : Int))).heap.size := Nat.le_trans hsz hko.size
    have e1 := hS.cell
    have e2 := hS.frozen
    have e3 := hv'.cell
    have e4 := hS'.cell
    have HKO := Lib.hid hko
    have HK1 := Lib.hid hk1
    have HTL2 := Lib.hid (show (tbl pre).length = pre.length from HTL.out)
    clear hk1 hko
    rw [HTL.out] at hrow'
    generalize hW' : W.setCell ⟨w.heap.size + 1, 0, none⟩ (.int .u64 (s' : Int)) = W' at *
    have HW' := Lib.hid hW'
    gi_wp2_with (gi_at_builtin; refine wpListIn_append_own _ rfl _ _ 27 rfl w1.heap.size 22 i0 (.int .u64 0) 1 8 Tryd.underlying27 hi hz0 hz1 hz2 rfl (by decide) _ _ _ rfl (hrow'.alloc _) ⟨W'.heap.size, 0, none⟩ 1 1 [.int .u64 (s' : Int)] rfl rfl (cell_one_new _ _ _) (by simp [Value.oneCell']) (by simp [maxLen]; omega) (by omega) (by simp; omega) ?_; intro v' w2 hown' hgrow _; obtain ⟨g', cap', rfl⟩ := ownsRow_succ hown'; obtain ⟨hv1, hv2, hr2, hk2, hb2⟩ := hv'.appended (by decide) (own_low hrow' (by omega)) hB'.size (Nat.le_refl _) (own_low hown' (by omega)) hgrow; have hr3 := hown'.kept (grownBy_setCell' w2 w.heap.size (.slice (some ⟨g', 0, none⟩) (pre.length + 1) cap')) (.inr (hv1.not_row (by decide) hown').symm); have hkp := keep3 (B := w.heap.size) (v' := .slice (some ⟨g', 0, none⟩) (pre.length + 1) cap') hrow' hgrow hsz' l1 l2 l3 (by omega) (by omega) (by omega); have hc1 := hv1.cell; have hf1 := hv1.frozen)
    have hS3 := ((hS'.alloc _).kept hgrow hq).other (B' := w.heap.size) (by omega) (.slice (some ⟨g', 0, none⟩) (pre.length + 1) cap')
    refine ⟨(HKO.out.trans hk2).from _, HK1.out.trans hkp, ⟨_, hv2, ?_, trivial⟩, ?_, hB'.trans hb2, Nat.le_trans hsz' hk2.size⟩
    · rw [HT.out, List.length_append, HTL.out, List.map_append]
      exact hr3
    · rw [HE.out]; exact hS3
  case done =>
    rintro D ys W hD rfl ⟨⟨v, hv, hrow, _⟩, hS, hB, hsz⟩ hK
    have hc := hv.cell
    gi_wp2
    refine ⟨by simp, .inl ⟨_, _, rfl, run_takeDeferred hK, ?_⟩⟩
    exact ⟨_, results_tmp2 rfl _ _ _, v, rfl, own_low (ownsRow_putObj hrow _ hK rfl) (by omega), hB.trans (belowK_b (w := w) (Nat.le_refl _) W D _ _ (by omega) hK rfl rfl)⟩
  case stop =>
    rintro D c pre W _ _ h _
    exact h.elim
theorem tableN_any (k : Nat) (hk1 : 1 ≤ k) (hk : k ≤ 64) (w : World) : Calls Tryd.prog 18 #[.int .i64 k] w (WordsOut (tbl (wgts k k)) w) := callsIn_wide.1 (tableN_in k hk1 hk w)
end Go.Proofs.YtbgikkeiapbghaaDoor
