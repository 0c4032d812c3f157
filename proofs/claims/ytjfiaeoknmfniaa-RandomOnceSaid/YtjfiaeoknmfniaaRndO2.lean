/- slices.Sorted over slices.Values at a row of small numbers: collected, sorted. -/
import Derived.Test.YtjfiaeoknmfniaaRndO1
namespace Go.Proofs.Ytjfiaeoknmfniaa
open Go.RowKit Go.Shelf
attribute [local go_sem] Oper.semAt_some
theorem values_stops (n : Nat) (hn : 1 ≤ n) (Bs g c k : Nat) (zs : List Nat) (hz : zs.length = k) (hk : k ≤ 512) (w : World) (hB : Box w Bs 34 #[.slice (some ⟨g, 0, none⟩) k c]) (hna : NatsAt w g zs) (hg : g < w.heap.size) :
    SeqStopsK Fence.wide n Try.prog 44 #[.pointer (some ⟨Bs, 0, none⟩)] (fun x : Nat => #[Value.int .i64 (x : Int)]) (Below w.heap.size) (fun ys => ys = zs) (fun _ => True) k w := fun l J Jx W hW _ _ hY h0 =>
  values1_in n hn l Bs w.heap.size g c k zs hz hk hg J Jx hY W ((hB.keep hW).cell 0) (hna.keep hW hg) h0
theorem values_any (g c k : Nat) (w : World) : Calls Try.prog 23 #[.slice (some ⟨g, 0, none⟩) k c] w fun e w' => e = .returned (.func (.func 44) #[] #[.pointer (some ⟨w.heap.size, 0, none⟩)]) ∧ w' = w.alloc (.cells #[.slice (some ⟨g, 0, none⟩) k c] 34) := by
  go_enter Try.func23, Try.ntmps23
  go_wp2_with fail
  go_ret
  exact ⟨rfl, rfl⟩
/-- What is collected. -/
def CollOut (zs : List Nat) (w : World) (e : Ending) (w' : World) : Prop :=
  ∃ v, e = .returned v ∧ w'.ownsRow w.heap.size 3 1 v zs.length (zs.map natV) ∧ Below w.heap.size w w'
set_option maxRecDepth 100000 in
set_option maxHeartbeats 2000000 in
theorem appendSeq_in (Bs g c k : Nat) (zs : List Nat) (hz : zs.length = k) (hk : k ≤ 512) (w : World) (hB : Box w Bs 34 #[.slice (some ⟨g, 0, none⟩) k c]) (hna : NatsAt w g zs) (hg : g < w.heap.size) :
    CallsIn Fence.wide 5 Try.prog 56 #[.slice none 0 0, .func (.func 44) #[] #[.pointer (some ⟨Bs, 0, none⟩)]] w (CollOut zs w) := by
  obtain ⟨i0, hi, hz0, hz1, hz2⟩ := info_parts int_info
  refine callsIn_of_wp_marks Try.func56 rfl trivial ?_ rfl
  simp only [Try.ntmps56, List.size_toArray, List.length_cons, List.length_nil, Nat.reduceAdd, Nat.reduceSub, Array.replicate_succ, Array.replicate_zero, List.push_toArray, List.append_toArray, List.nil_append, List.cons_append]
  have hSQ := values_stops (5 - 1) (by omega) Bs g c k zs hz hk w hB hna hg
  have hB0 : Below w.heap.size w (w.alloc (.cells #[.slice none 0 0] 34)) := (Below.refl w.heap.size w).alloc (Nat.le_refl _) _
  have bO : Boxed (w.alloc (.cells #[.slice none 0 0] 34)) w.heap.size 34 (.slice none 0 0) := Box.new w 34 #[.slice none 0 0]
  clear hB hna hg
  gi_wp2
  have hsz1 : (w.alloc (.cells #[.slice none 0 0] 34)).heap.size = w.heap.size + 1 := World.size_alloc _ _
  generalize w.alloc (.cells #[.slice none 0 0] 34) = w1 at *
  refine wpIn_rangeFunc_ownG rfl (by omega) (gf := 44) (lb := #[.pointer (some ⟨Bs, 0, none⟩)]) rfl trivial (enters_of Try.func44 (by kernel_rfl) rfl)
    hSQ (fun h k => h.trans k) (belowK_b (by omega)) hB0 (fun _ => rfl)
    (fun pre W => (∃ v, Boxed W w.heap.size 34 v ∧ W.ownsRow (w.heap.size + 1) 3 1 v pre.length (pre.map natV) ∧ True) ∧ Below w.heap.size w W ∧ w.heap.size + 1 ≤ W.heap.size)
    (fun _ _ _ => False)
    (OwnFrom.and (Own.from (holdsRow_own (w.heap.size + 1) w.heap.size 34 3 1 (fun pre : List Nat => pre.length) (fun pre : List Nat => pre.map natV) (fun _ _ => True)) _) (OwnFrom.and (ownFrom_below (Nat.le_refl _) (by omega)) (fun _ _ _ _ hs hg _ => Nat.le_trans hs hg.size)))
    (fun _ _ _ _ _ hs _ _ => hs)
    ⟨⟨_, bO, World.ownsRow_nil _ _ _ _, trivial⟩, hB0, by omega⟩
    (fun x => { tmps := #[.slice none 0 0, .func (.func 44) #[] #[.pointer (some ⟨Bs, 0, none⟩)], .pointer (some ⟨w.heap.size, 0, none⟩), undef, .slice none 0 0, .int .i64 (x : Int), .func (.func 44) #[] #[.pointer (some ⟨Bs, 0, none⟩)], .int .i64 (x : Int), undef, undef, undef, undef, undef], defers := [] }) ?assign ?body ?done ?stop
  case assign =>
    intro l x W K hK
    gi_wp2
    exact hK
  case body =>
    rintro l pre x W ⟨⟨v, hv, hrow, _⟩, hB, hsz⟩ hlt
    have hc := hv.cell
    gi_wp2_with (gi_at_builtin; refine wpListIn_append_own _ rfl _ _ 34 rfl (w.heap.size + 1) 3 i0 (.int .i64 0) 1 8 Try.underlying34 hi hz0 hz1 hz2 rfl (by decide) _ _ _ rfl (hrow.alloc _) ⟨W.heap.size, 0, none⟩ 1 1 [.int .i64 (x : Int)] rfl rfl (cell_one_new _ _ _) (by simp [Value.oneCell']) (by simp [maxLen]; omega) (by omega) (by simp; omega) ?_; intro v' w2 hown' hgrow _; obtain ⟨g', cap', rfl⟩ := ownsRow_succ hown'; obtain ⟨hv1, hv2, hr2, hk2, hb2⟩ := hv.appended (by decide) (own_lower hrow (by omega)) hB.size (Nat.le_refl _) (own_lower hown' (by omega)) hgrow; have hr3 := hown'.kept (grownBy_setCell' w2 w.heap.size (.slice (some ⟨g', 0, none⟩) (pre.length + 1) cap')) (.inr (hv1.not_row (by decide) hown').symm); have hc1 := hv1.cell; have hf1 := hv1.frozen)
    exact ⟨hk2.from _, hb2, ⟨_, hv2, by simpa [natV] using hr3, trivial⟩, hB.trans hb2, Nat.le_trans hsz hk2.size⟩
  case done =>
    rintro D ys W hD rfl ⟨⟨v, hv, hrow, _⟩, hB, hsz⟩ hK
    have hc := hv.cell
    gi_wp2
    refine ⟨by simp, .inl ⟨_, _, rfl, run_takeDeferred hK, ?_⟩⟩
    exact ⟨_, results_tmp rfl _ _ _, v, rfl, own_lower (ownsRow_putObj hrow _ hK rfl) (by omega), hB.trans (belowK_b (w := w) (Nat.le_refl _) W D _ _ (by omega) hK rfl rfl)⟩
  case stop =>
    rintro D c pre W _ _ h _
    exact h.elim
theorem collect_in (Bs g c k : Nat) (zs : List Nat) (hz : zs.length = k) (hk : k ≤ 512) (w : World) (hB : Box w Bs 34 #[.slice (some ⟨g, 0, none⟩) k c]) (hna : NatsAt w g zs) (hg : g < w.heap.size) :
    Calls Try.prog 43 #[.func (.func 44) #[] #[.pointer (some ⟨Bs, 0, none⟩)]] w (CollOut zs w) := by
  have HAS := Lib.hid (callsIn_wide.1 (appendSeq_in Bs g c k zs hz hk w hB hna hg))
  clear hB hna
  go_enter Try.func43, Try.ntmps43
  go_wp2_with fail
  refine HAS.out.mono ?_
  rintro e w1 ⟨v, rfl, hown, hb⟩
  go_wp2_with fail
  go_ret
  exact ⟨v, rfl, hown, hb⟩
/-- slices.Sorted of an order's values. -/
theorem sorted_any (g c k : Nat) (zs : List Nat) (hp : zs.Perm (List.range k)) (h1 : 1 ≤ k) (hk : k ≤ 512) (Bs : Nat) (w : World) (hB : Box w Bs 34 #[.slice (some ⟨g, 0, none⟩) k c]) (hna : NatsAt w g zs) (hg : g < w.heap.size) :
    Calls Try.prog 22 #[.func (.func 44) #[] #[.pointer (some ⟨Bs, 0, none⟩)]] w fun e w' => ∃ g2 c2, e = .returned (.slice (some ⟨g2, 0, none⟩) k c2) ∧ k ≤ c2 ∧ NatsAt w' g2 (List.range k) ∧ w.heap.size ≤ g2 ∧ g2 < w'.heap.size ∧ Below w.heap.size w w' := by
  have hz : zs.length = k := by rw [hp.length_eq, List.length_range]
  have HC := Lib.hid (collect_in Bs g c k zs hz hk w hB hna hg)
  have HS := Lib.hid (show (zs.map fun x : Nat => (x : Int)).mergeSort (fun x y => decide (x ≤ y)) = (List.range k).map fun x : Nat => (x : Int) from by
    have e1 : zs.mergeSort (fun x y => decide (x ≤ y)) = List.range k := by
      refine List.Perm.eq_of_pairwise (le := fun x y => x ≤ y) (fun a b _ _ h1 h2 => Nat.le_antisymm h1 h2) ?_ ?_ ((List.mergeSort_perm _ _).trans hp)
      · have := List.pairwise_mergeSort (le := fun x y : Nat => decide (x ≤ y)) (by intro a b c; simp; omega) (by intro a b; simp; omega) zs
        simpa using this
      · exact (range_sorted k).imp (fun h => Nat.le_of_lt h)
    rw [← e1]
    refine (List.map_mergeSort ?_).symm
    intro a _ b _
    simp)
  have HZ := Lib.hid hz
  clear hB hna hp hz
  go_enter Try.func22, Try.ntmps22
  go_wp2_with fail
  refine HC.out.mono ?_
  rintro e w1 ⟨v, rfl, hown, hb⟩
  rw [HZ.out] at hown
  obtain ⟨g2, c2, rfl, hc2, hg2, hg3, hn2, hl2⟩ := own_nats hown (by omega)
  have B1 := Lib.hid hb
  have HN2 := Lib.hid hn2
  have hw1 := B1.out.size
  clear hown hb hn2 hl2 HC
  go_wp2_with fail
  refine (sort_nats g2 c2 k zs (List.range k) HZ.out _ HN2.out hg3 HS.out hk).mono ?_
  rintro e w2 ⟨rfl, hn3, hb⟩
  go_wp2_with fail
  go_ret
  exact ⟨g2, c2, rfl, hc2, hn3, hg2, Nat.lt_of_lt_of_le hg3 hb.size, B1.out.trans (hb.mono hg2)⟩
end Go.Proofs.Ytjfiaeoknmfniaa
