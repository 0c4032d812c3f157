/- Layer 13: slices.Insert at a row of the call's own, walked. -/
import Derived.Test.YtehlebeeoeghmaaShI
namespace Go.Proofs.Ytehlebeeoeghmaa
set_option linter.unusedVariables false
set_option linter.unusedSimpArgs false
open Go.RowKit Go.Lib
set_option maxRecDepth 100000
set_option maxHeartbeats 8000000 in
theorem insert_end (base : Nat) (A : Option Addr) (n c : Nat) (xs : List SymR) (x : SymR) (vb : Nat) (w : World) (ho : w.ownsRow base 27 2 (.slice A n c) n (xs.flatMap encS)) (hn : xs.length = n) (hv : Box w vb 27 (smA x)) (hn1 : n ≤ 1000) (hb : base ≤ w.heap.size) :
    Calls Try.prog 32 #[.slice A n c, .int .i64 (n : Int), .slice (some ⟨vb, 0, none⟩) 1 1] w (InsOut base (insS xs n x) (Value.slice A n c).ownBlock w) := by
  obtain ⟨i0, hi0, hz0, hz1, hz2⟩ := info_parts sym13_info
  have HI := Lib.hid hi0
  have HZ0 := Lib.hid hz0
  have HZ1 := Lib.hid hz1
  have HZ2 := Lib.hid hz2
  have HO := Lib.hid ho
  have HN := Lib.hid hn
  have HBs := Lib.hid hb
  have NW := Lib.hid (World.news_of_block hv)
  obtain ⟨x0, x1⟩ := x
  have hk := own_cap ho
  have hnc := hk.1
  have HE := Lib.hid (show insS xs n (x0, x1) = xs ++ [(x0, x1)] by unfold insS; rw [List.take_of_length_le (by omega), List.drop_of_length_le (by omega)])
  have h63 := hk.2.1
  unfold maxLen at h63
  cases A with
  | none =>
    obtain ⟨rfl, rfl⟩ := hk.2.2 rfl
    clear ho hn hv hb hi0 hz0 hz1 hz2 hk
    go_enter Try.func32, Try.ntmps32
    go_wp2_with (at_builtin; go_loud (refine wpList_append_own _ rfl _ _ 43 rfl base 27 i0 (.agg #[.int .u64 0, .string ⟨#[]⟩]) 2 24 Try.underlying43 HI.out HZ0.out HZ1.out HZ2.out rfl (by decide) _ _ _ rfl HO.out ⟨vb, 0, none⟩ 1 1 (encS (x0, x1)) rfl rfl NW.out (encS_one (x0, x1)) (by simp only [maxLen]; omega) (by omega) HBs.out ?_); intro v' w2 hown hgrow _; have HO2 := Lib.hid hown; have HG2 := Lib.hid hgrow; clear hown hgrow)
    have hR := HO2.out
    obtain ⟨A9, c9, rfl⟩ := own_formS hR
    have HR := Lib.hid (show w2.ownsRow base 27 2 (.slice A9 (insS xs 0 (x0, x1)).length c9) (insS xs 0 (x0, x1)).length ((insS xs 0 (x0, x1)).flatMap encS) by
      have h9 := HE.out
      rw [h9, List.length_append, List.flatMap_append, HN.out]
      simpa using hR)
    have hL : (insS xs 0 (x0, x1)).length = 1 := by rw [insS_len _ _ _ (Nat.zero_le _), HN.out]
    have HL := Lib.hid hL
    clear hR hL
    go_ret
    exact ⟨A9, c9, by rw [HL.out]; rfl, HR.out, HG2.out⟩
  | some ad =>
    have hc1 : (n : Int) ≤ (c : Int) := by omega
    have hn0 : (0 : Int) ≤ (n : Int) := by omega
    clear ho hn hv hb hi0 hz0 hz1 hz2 hk
    by_cases hcn : c = n
    · subst hcn
      go_enter Try.func32, Try.ntmps32
      go_wp2_with (at_builtin; go_loud (refine wpList_append_own _ rfl _ _ 43 rfl base 27 i0 (.agg #[.int .u64 0, .string ⟨#[]⟩]) 2 24 Try.underlying43 HI.out HZ0.out HZ1.out HZ2.out rfl (by decide) _ _ _ rfl HO.out ⟨vb, 0, none⟩ 1 1 (encS (x0, x1)) rfl rfl NW.out (encS_one (x0, x1)) (by simp only [maxLen]; omega) (by omega) HBs.out ?_); intro v' w2 hown hgrow _; have HO2 := Lib.hid hown; have HG2 := Lib.hid hgrow; clear hown hgrow)
      have hR := HO2.out
      obtain ⟨A9, c9, rfl⟩ := own_formS hR
      have hL : (insS xs c (x0, x1)).length = c + 1 := by rw [insS_len _ _ _ (by rw [HN.out]; exact Nat.le_refl _), HN.out]
      have HR := Lib.hid (show w2.ownsRow base 27 2 (.slice A9 (insS xs c (x0, x1)).length c9) (insS xs c (x0, x1)).length ((insS xs c (x0, x1)).flatMap encS) by
        rw [hL, HE.out, List.flatMap_append]
        simpa using hR)
      have HL := Lib.hid hL
      have HG9 := Lib.hid (show w.grownBy w2 (Value.slice (some ad) c c).ownBlock from HG2.out)
      clear hR hL
      go_ret
      exact ⟨A9, c9, by rw [HL.out]; rfl, HR.out, HG9.out⟩
    · go_enter Try.func32, Try.ntmps32
      go_wp2_with (at_builtin; go_loud (refine wpList_append_own _ rfl _ _ 43 rfl base 27 i0 (.agg #[.int .u64 0, .string ⟨#[]⟩]) 2 24 Try.underlying43 HI.out HZ0.out HZ1.out HZ2.out rfl (by decide) _ _ _ rfl HO.out ⟨vb, 0, none⟩ 1 1 (encS (x0, x1)) rfl rfl NW.out (encS_one (x0, x1)) (by simp only [maxLen]; omega) (by omega) HBs.out ?_); intro v' w2 hown hgrow _; have HO2 := Lib.hid hown; have HG2 := Lib.hid hgrow; clear hown hgrow)
      have hR := HO2.out
      obtain ⟨A9, c9, rfl⟩ := own_formS hR
      have hL : (insS xs n (x0, x1)).length = n + 1 := by rw [insS_len _ _ _ (by rw [HN.out]; exact Nat.le_refl _), HN.out]
      have HR := Lib.hid (show w2.ownsRow base 27 2 (.slice A9 (insS xs n (x0, x1)).length c9) (insS xs n (x0, x1)).length ((insS xs n (x0, x1)).flatMap encS) by
        rw [hL, HE.out, List.flatMap_append]
        simpa using hR)
      have HL := Lib.hid hL
      have HG9 := Lib.hid (show w.grownBy w2 (Value.slice (some ad) n c).ownBlock from HG2.out)
      clear hR hL
      go_ret
      exact ⟨A9, c9, by rw [HL.out]; rfl, HR.out, HG9.out⟩
theorem sym_sz : (Try.prog.info? 27).map (·.size) = some 2 := by kernel_rfl
theorem encs_one (xs : List SymR) : ∀ v ∈ xs.flatMap encS, v.oneCell' = true := fun v hv => by
  obtain ⟨x, -, hx⟩ := List.mem_flatMap.1 hv
  exact encS_one x v hx
theorem cell_cur {w : World} {g : Nat} {t : TypeId} {cur : List Value} (h : w.heap[g]? = some (.cells cur.toArray t (0, 0))) (j : Nat) : w.cell? ⟨g, j, none⟩ = cur[j]? := by
  have := cell_of_row w g j cur.toArray t (0, 0) h
  simpa using this
theorem drop_src {w : World} {g n i : Nat} {t : TypeId} {xs : List SymR} {cur : List Value} (h : w.heap[g]? = some (.cells cur.toArray t (0, 0))) (hn : xs.length = n) (hi : i ≤ n) (hx : cur.take (n * 2) = xs.flatMap encS) :
    ∀ j v, ((xs.drop i).flatMap encS)[j]? = some v → w.cell? ((⟨g, i * 2, none⟩ : Addr).add j) = some v := fun j v hv => by
  rw [addP, cell_cur h]
  have h2 : xs.flatMap encS = (xs.take i).flatMap encS ++ (xs.drop i).flatMap encS := by rw [← List.flatMap_append, List.take_append_drop]
  have l2 : ((xs.take i).flatMap encS).length = i * 2 := by rw [flat_len encS_len, List.length_take]; omega
  have hj : j < ((xs.drop i).flatMap encS).length := (List.getElem?_eq_some_iff.1 hv).1
  rw [flat_len encS_len, List.length_drop, hn] at hj
  have h3 : cur[i * 2 + j]? = (cur.take (n * 2))[i * 2 + j]? := by rw [List.getElem?_take, if_pos (by omega)]
  rw [h3, hx, h2, List.getElem?_append_right (by omega), l2, Nat.add_sub_cancel_left]
  exact hv
theorem own_mk {w : World} {base g n cap : Nat} {t : TypeId} {cur xs : List Value} (h : w.heap[g]? = some (.cells cur.toArray t (0, 0))) (hb : base ≤ g) (hn : n ≤ cap) (hm : cap ≤ maxLen) (hs : cur.length = cap * 2) (hx : cur.take (n * 2) = xs) (hl : xs.length = n * 2) : w.ownsRow base t 2 (.slice (some ⟨g, 0, none⟩) n cap) n xs :=
  ⟨hl, .inr ⟨g, cap, cur.toArray, rfl, hb, h, hn, hm, by simpa using hs, by simpa using hx⟩⟩
set_option maxHeartbeats 8000000 in
theorem insert_room (base g n cap i : Nat) (cur : List Value) (xs : List SymR) (x : SymR) (vb : Nat) (w : World) (hg : w.heap[g]? = some (.cells cur.toArray 27 (0, 0))) (hbg : base ≤ g) (hcl : cur.length = cap * 2) (hx : cur.take (n * 2) = xs.flatMap encS) (hn : xs.length = n) (hv : Box w vb 27 (smA x)) (hvg : vb ≠ g) (hi : i < n) (hroom : n + 1 ≤ cap) (hcap : cap ≤ maxLen) (hn9 : n ≤ 1000) :
    Calls Try.prog 32 #[.slice (some ⟨g, 0, none⟩) n cap, .int .i64 (i : Int), .slice (some ⟨vb, 0, none⟩) 1 1] w (InsOut base (insS xs i x) (some g) w) := by
  have NW := Lib.hid (World.news_of_block hv)
  have hov : ∀ lb cb, (callFunc 45 #[.slice (some ⟨vb, 0, none⟩) 1 1, .slice (some ⟨g, (i + 1) * 2, none⟩) lb cb]).run Try.prog w = .ok (.value (.bool false)) w := fun lb cb => by
    rw [run_callFunc_extern Try.func45 (by kernel_rfl) (by kernel_rfl) (by kernel_rfl) (e := Extern.SlicesOverlaps.overlaps #[43, 43] #[4]) (by kernel_rfl),
      Lib.run_overlaps_apart w 43 4 27 Try.underlying43 2 Try.sizeOf27 ⟨vb, 0, none⟩ ⟨g, (i + 1) * 2, none⟩ 1 1 lb cb hvg 27 27 2 (cap * 2) (by simp [World.shape?, show w.heap[vb]? = _ from hv]) (by simp [World.shape?, hg, hcl]) (by omega) (hv.free 0) (hv.free 2)]
    rfl
  have HG := Lib.hid hg
  have hz2 : ¬ ((i : Int) = (n : Int)) := by omega
  have hgr : ¬ (((n + 1 : Nat) : Int) > (cap : Int)) := by omega
  have hw1 : IntKind.i64.wrap ((n : Int) + 1) = ((n + 1 : Nat) : Int) := by rw [IntWalk.i64_in _ (by omega)]; push_cast; rfl
  have hw2 : IntKind.i64.wrap ((i : Int) + 1) = ((i + 1 : Nat) : Int) := by rw [IntWalk.i64_in _ (by omega)]; push_cast; rfl
  have hb0 : (0 : Int) ≤ (i : Int) := by omega
  have hb1 : (i : Int) ≤ (n : Int) := by omega
  have hb2 : (i : Int) ≤ (cap : Int) := by omega
  have hb3 : ((n + 1 : Nat) : Int) ≤ (cap : Int) := by omega
  have hb4 : ((i + 1 : Nat) : Int) ≤ ((n + 1 : Nat) : Int) := by omega
  have hb5 : (i : Int) ≤ ((n + 1 : Nat) : Int) := by omega
  have hb6 : ¬ cap = i := by omega
  have hb7 : ¬ cap = i + 1 := by omega
  have hrm2 : n < cap := by omega
  obtain ⟨n1, hn1⟩ : ∃ k, k = n + 1 := ⟨_, rfl⟩
  obtain ⟨i1, hi1⟩ : ∃ k, k = i + 1 := ⟨_, rfl⟩
  rw [← hn1] at hgr hw1 hb3 hb4 hb5 hroom
  rw [← hi1] at hw2 hb4 hb7 hov
  have HN1 := Lib.hid hn1
  have HI1 := Lib.hid hi1
  clear hn1 hi1
  have lD : ((xs.drop i).flatMap encS).length = (n - i) * 2 := by rw [flat_len encS_len, List.length_drop, hn]
  have hE := spl_room xs i n x cur hn hi (by omega) hx
  have hcp1 : ∀ ty dc sc, (Builtin.copy_ #[43, 43] ty #[.slice (some ⟨g, i1 * 2, none⟩) (n1 - i1) dc, .slice (some ⟨g, i * 2, none⟩) (n1 - i) sc]).run Try.prog w.drew = .ok (goInt ((n - i : Nat) : Int)) (w.drew.setRow g (spl cur (i1 * 2) ((xs.drop i).flatMap encS)).toArray) := fun ty dc sc =>
    run_copyK (w := w.drew) (ty := ty) _ 43 27 2 (n - i) g (i1 * 2) (n1 - i1) dc ⟨g, i * 2, none⟩ (n1 - i) sc cur 27 _ Try.underlying43 sym_sz hg (by rw [HN1.out, HI1.out]; simp only [Nat.min_def]; split <;> omega) lD
      (drop_src (w := w.drew) hg hn (by omega) hx) (by rw [lD, HI1.out]; omega) (encs_one _)
  obtain ⟨cur1, hc1⟩ : ∃ y, y = spl cur (i1 * 2) ((xs.drop i).flatMap encS) := ⟨_, rfl⟩
  have lC : cur1.length = cap * 2 := by rw [hc1, spl_len _ _ _ (by rw [lD, HI1.out]; omega)]; exact hcl
  have hE1 : (spl cur1 (i * 2) (encS x)).take ((n + 1) * 2) = (insS xs i x).flatMap encS := by rw [hc1, HI1.out]; exact hE
  rw [← hc1] at hcp1
  obtain ⟨w1, hw1'⟩ : ∃ y, y = w.drew.setRow g cur1.toArray := ⟨_, rfl⟩
  have hg1 : w1.heap[g]? = some (.cells cur1.toArray 27 (0, 0)) := by rw [hw1']; exact setRow_heap w.drew g _ _ _ _ hg
  have hv1 : Box w1 vb 27 (smA x) := by rw [hw1']; exact (setRow_other w.drew g vb _ hvg).trans hv
  have NW1 := World.news_of_block hv1
  have hcp2 : ∀ ty dc, (Builtin.copy_ #[43, 43] ty #[.slice (some ⟨g, i * 2, none⟩) (n1 - i) dc, .slice (some ⟨vb, 0, none⟩) 1 1]).run Try.prog w1 = .ok (goInt 1) (w1.setRow g (spl cur1 (i * 2) (encS x)).toArray) := fun ty dc =>
    run_copyK (w := w1) (ty := ty) _ 43 27 2 1 g (i * 2) (n1 - i) dc ⟨vb, 0, none⟩ 1 1 cur1 27 (encS x) Try.underlying43 sym_sz hg1 (by rw [HN1.out]; simp only [Nat.min_def]; split <;> omega) rfl
      NW1 (by rw [lC]; show i * 2 + 2 ≤ cap * 2; omega) (encS_one x)
  have hg2 : (w1.setRow g (spl cur1 (i * 2) (encS x)).toArray).heap[g]? = some (.cells (spl cur1 (i * 2) (encS x)).toArray 27 (0, 0)) := setRow_heap w1 g _ _ _ _ hg1
  have hL := insS_len xs i x (by omega)
  have HR := Lib.hid (own_mk (base := base) (n := n + 1) (cap := cap) hg2 hbg (by omega) hcap (by rw [spl_len _ _ _ (by rw [lC]; show i * 2 + 2 ≤ cap * 2; omega)]; exact lC) hE1 (by rw [flat_len encS_len, hL, hn]))
  have HGr := Lib.hid (show w.grownBy (w1.setRow g (spl cur1 (i * 2) (encS x)).toArray) (some g) from grown_trans (by rw [hw1']; exact grown_from_drew (grown_setRow w.drew g _)) (grown_setRow w1 g _))
  have HLn := Lib.hid (show (insS xs i x).length = n1 by rw [hL, hn, HN1.out])
  rw [← HN1.out] at HR
  rw [← hw1'] at hcp1
  clear hE1 hE lC lD hc1 hg1 hv1 NW1 hg2 hL hg hv hx hcl HG NW
  obtain ⟨x0, x1⟩ := x
  obtain ⟨w2, hw2'⟩ : ∃ y, y = w1.setRow g (spl cur1 (i * 2) (encS (x0, x1))).toArray := ⟨_, rfl⟩
  rw [← hw2'] at hcp2 HR HGr
  clear hw1' hw2'
  go_enter Try.func32, Try.ntmps32
  go_wp2_with (simp only [hov])
  go_region_law (refine step_copyR rfl (.tmp 73) (.tmp 76) 43 43 rfl _ _ (by simp [Act.eval, Act.put]) (by simp [Act.eval, Act.put]) (hcp1 _ _ _) ?_)
  go_wp2_with (at_builtin; go_loud (refine wpList_copyR rfl _ _ 43 43 rfl _ _ rfl rfl (hcp2 _ _) ?_))
  go_ret
  exact ⟨some ⟨g, 0, none⟩, cap, by rw [HLn.out]; rfl, by rw [HLn.out]; exact HR.out, HGr.out⟩
set_option maxHeartbeats 8000000 in
theorem insert_grow (base g n cap i : Nat) (cur : List Value) (xs : List SymR) (x : SymR) (vb : Nat) (w : World) (hg : w.heap[g]? = some (.cells cur.toArray 27 (0, 0))) (hb : base ≤ w.heap.size) (hcl : cur.length = cap * 2) (hx : cur.take (n * 2) = xs.flatMap encS) (hn : xs.length = n) (hv : Box w vb 27 (smA x)) (hi : i < n) (hnc : n ≤ cap) (hroom : cap < n + 1) (hn9 : n ≤ 1000) :
    Calls Try.prog 32 #[.slice (some ⟨g, 0, none⟩) n cap, .int .i64 (i : Int), .slice (some ⟨vb, 0, none⟩) 1 1] w (InsOut base (insS xs i x) (some g) w) := by
  obtain rfl : cap = n := by omega
  obtain ⟨i0, hi0, hz0, hz1, hz2⟩ := info_parts sym13_info
  have lT : ((xs.take i).flatMap encS).length = i * 2 := by rw [flat_len encS_len, List.length_take]; omega
  have lD : ((xs.drop i).flatMap encS).length = (cap - i) * 2 := by rw [flat_len encS_len, List.length_drop, hn]
  have hxs : xs.flatMap encS = (xs.take i).flatMap encS ++ (xs.drop i).flatMap encS := by rw [← List.flatMap_append, List.take_append_drop]
  have hold : (Builtin.firstCells i0.size i (.slice (some ⟨g, 0, none⟩) i cap)).run Try.prog w.drew = .ok ((xs.take i).flatMap encS).toArray w.drew := by
    have h9 := run_loadCells_list (P := Try.prog) w.drew ⟨g, 0, none⟩ ((xs.take i).flatMap encS) (fun j v hj => by
      rw [addP, Nat.zero_add]
      have hjl : j < i * 2 := by rw [← lT]; exact (List.getElem?_eq_some_iff.1 hj).1
      refine (cell_cur (w := w.drew) hg j).trans ?_
      have h3 : cur[j]? = (cur.take (cap * 2))[j]? := by rw [List.getElem?_take, if_pos (by omega)]
      rw [h3, hx, hxs, List.getElem?_append_left (by omega)]
      exact hj)
    rw [lT] at h9
    rw [hz1]
    exact h9
  have hrz : ∀ ty, (Builtin.append_ #[43, 3] ty #[.slice (some ⟨g, 0, none⟩) i cap, .int .i64 ((cap + 1 - i : Nat) : Int)]).run Try.prog w =
      .ok (.slice (some ⟨w.heap.size, 0, none⟩) (i + (cap + 1 - i)) (grownCap w (i + (cap + 1 - i)) cap 27)) (w.drew.alloc (.cells (((xs.take i).flatMap encS).toArray ++ Builtin.zeroCells (Value.agg #[.int .u64 0, .string ⟨#[]⟩]).cells (cap + 1 - i) ++ Builtin.zeroCells (Value.agg #[.int .u64 0, .string ⟨#[]⟩]).cells (grownCap w (i + (cap + 1 - i)) cap 27 - (i + (cap + 1 - i)))) 27)) := fun ty =>
    Lib.run_append_grow_zeros w 43 3 ty 27 i0 _ .i64 .i64 Try.underlying43 Try.underlying3 hi0 hz0 (some ⟨g, 0, none⟩) i cap ((xs.take i).flatMap encS) hold (cap + 1 - i) (by omega) (by rw [hz1]; omega) (by omega) (by omega) (by rw [hz2]; omega) (by rw [hz2]; exact growslice_fits (by omega) (by omega))
  have hk : i + (cap + 1 - i) = cap + 1 := by omega
  rw [hk] at hrz
  have hGc := grownCap_ge w (cap + 1) cap 27
  have hGm := grownCap_le_maxLen w (cap + 1) cap 27 (by unfold maxLen; omega)
  obtain ⟨G, hG⟩ : ∃ G, G = grownCap w (cap + 1) cap 27 := ⟨_, rfl⟩
  rw [← hG] at hrz hGc hGm
  obtain ⟨row, hrow⟩ : ∃ r : Array Value, r = ((xs.take i).flatMap encS).toArray ++ Builtin.zeroCells (Value.agg #[.int .u64 0, .string ⟨#[]⟩]).cells (cap + 1 - i) ++ Builtin.zeroCells (Value.agg #[.int .u64 0, .string ⟨#[]⟩]).cells (G - (cap + 1)) := ⟨_, rfl⟩
  rw [← hrow] at hrz
  have lR : row.toList.length = G * 2 := by
    rw [hrow]
    simp only [Array.toList_append, List.length_append, Array.length_toList, size_zeroCells]
    rw [List.size_toArray, lT]
    show i * 2 + (cap + 1 - i) * 2 + (G - (cap + 1)) * 2 = G * 2
    omega
  have hR1 : row.toList.take (i * 2) = (xs.take i).flatMap encS := by
    rw [hrow]
    simp only [Array.toList_append, List.append_assoc]
    exact List.take_left' lT
  have hE := spl_new xs i cap x row.toList hn hi (by rw [lR]; omega) hR1
  obtain ⟨W1, hW1⟩ : ∃ W, W = w.drew.alloc (.cells row 27) := ⟨_, rfl⟩
  rw [← hW1] at hrz
  have hbW : Below w.heap.size w W1 := by rw [hW1]; exact ((Below.refl _ _).drew).alloc (Nat.le_refl _) _
  have hgW : W1.heap[w.heap.size]? = some (.cells row.toList.toArray 27 (0, 0)) := by rw [hW1]; exact heap_alloc_new w.drew _
  have hglt : g < w.heap.size := (Array.getElem?_eq_some_iff.1 hg).1
  have hg1 : W1.heap[g]? = some (.cells cur.toArray 27 (0, 0)) := (hbW.block g hglt).trans hg
  have hv1 : Box W1 vb 27 (smA x) := hv.keep hbW
  have NW1 := World.news_of_block hv1
  obtain ⟨gN, hgN⟩ : ∃ y, y = w.heap.size := ⟨_, rfl⟩
  have hcp1 : ∀ ty dc, (Builtin.copy_ #[43, 43] ty #[.slice (some ⟨w.heap.size, i * 2, none⟩) (cap + 1 - i) dc, .slice (some ⟨vb, 0, none⟩) 1 1]).run Try.prog W1 = .ok (goInt 1) (W1.setRow w.heap.size (spl row.toList (i * 2) (encS x)).toArray) := fun ty dc =>
    run_copyK (w := W1) (ty := ty) _ 43 27 2 1 w.heap.size (i * 2) (cap + 1 - i) dc ⟨vb, 0, none⟩ 1 1 row.toList 27 (encS x) Try.underlying43 sym_sz hgW (by simp only [Nat.min_def]; split <;> omega) rfl
      NW1 (by rw [lR]; show i * 2 + 2 ≤ G * 2; omega) (encS_one x)
  obtain ⟨cur1, hc1⟩ : ∃ y, y = spl row.toList (i * 2) (encS x) := ⟨_, rfl⟩
  have lC : cur1.length = G * 2 := by rw [hc1, spl_len _ _ _ (by rw [lR]; show i * 2 + 2 ≤ G * 2; omega)]; exact lR
  rw [← hc1] at hcp1 hE
  obtain ⟨W2, hW2⟩ : ∃ W, W = W1.setRow w.heap.size cur1.toArray := ⟨_, rfl⟩
  rw [← hW2] at hcp1
  have hgW2 : W2.heap[w.heap.size]? = some (.cells cur1.toArray 27 (0, 0)) := by rw [hW2]; exact setRow_heap W1 w.heap.size _ _ _ _ hgW
  have hg2 : W2.heap[g]? = some (.cells cur.toArray 27 (0, 0)) := by rw [hW2]; exact (setRow_other W1 w.heap.size g _ (by omega)).trans hg1
  have hcp2 : ∀ ty dc sc, (Builtin.copy_ #[43, 43] ty #[.slice (some ⟨w.heap.size, (i + 1) * 2, none⟩) (cap + 1 - (i + 1)) dc, .slice (some ⟨g, i * 2, none⟩) (cap - i) sc]).run Try.prog W2.drew = .ok (goInt ((cap - i : Nat) : Int)) (W2.drew.setRow w.heap.size (spl cur1 ((i + 1) * 2) ((xs.drop i).flatMap encS)).toArray) := fun ty dc sc =>
    run_copyK (w := W2.drew) (ty := ty) _ 43 27 2 (cap - i) w.heap.size ((i + 1) * 2) (cap + 1 - (i + 1)) dc ⟨g, i * 2, none⟩ (cap - i) sc cur1 27 _ Try.underlying43 sym_sz hgW2 (by simp only [Nat.min_def]; split <;> omega) lD
      (drop_src (w := W2.drew) hg2 hn (by omega) hx) (by rw [lD, lC]; omega) (encs_one _)
  obtain ⟨W3, hW3⟩ : ∃ W, W = W2.drew.setRow w.heap.size (spl cur1 ((i + 1) * 2) ((xs.drop i).flatMap encS)).toArray := ⟨_, rfl⟩
  have hgW3 : W3.heap[w.heap.size]? = some (.cells (spl cur1 ((i + 1) * 2) ((xs.drop i).flatMap encS)).toArray 27 (0, 0)) := by rw [hW3]; exact setRow_heap W2.drew w.heap.size _ _ _ _ hgW2
  rw [← hW3] at hcp2
  have hL := insS_len xs i x (by omega)
  have HR := Lib.hid (own_mk (base := base) (n := cap + 1) (cap := G) hgW3 hb hGc hGm (by rw [spl_len _ _ _ (by rw [lD, lC]; omega)]; exact lC) hE (by rw [flat_len encS_len, hL, hn]))
  have HGr := Lib.hid (show w.grownBy W3 (some g) from
    ⟨by rw [hW3, hW2]; exact hbW.os, by rw [hW3, hW2]; exact hbW.tape, by rw [hW3, hW2]; exact hbW.output, by rw [hW3, hW2]; simp only [World.setRow, World.drew]; simpa using hbW.size, fun k hk _ => by
      rw [hW3]
      refine (setRow_other W2.drew w.heap.size k _ (by omega)).trans ?_
      show W2.heap[k]? = _
      rw [hW2]
      exact (setRow_other W1 w.heap.size k _ (by omega)).trans (hbW.block k hk)⟩)
  have HLn := Lib.hid (show (insS xs i x).length = cap + 1 by rw [hL, hn])
  have hz2' : ¬ ((i : Int) = (cap : Int)) := by omega
  have hgr : ((cap + 1 : Nat) : Int) > (cap : Int) := by omega
  have hw1 : IntKind.i64.wrap ((cap : Int) + 1) = ((cap + 1 : Nat) : Int) := by rw [IntWalk.i64_in _ (by omega)]; push_cast; rfl
  have hw2 : IntKind.i64.wrap ((i : Int) + 1) = ((i + 1 : Nat) : Int) := by rw [IntWalk.i64_in _ (by omega)]; push_cast; rfl
  have hw3 : IntKind.i64.wrap (((cap + 1 : Nat) : Int) - (i : Int)) = ((cap + 1 - i : Nat) : Int) := by rw [IntWalk.i64_in _ (by omega)]; omega
  have hb0 : (0 : Int) ≤ (i : Int) := by omega
  have hb1 : (i : Int) ≤ (cap : Int) := by omega
  have hb4 : ((i + 1 : Nat) : Int) ≤ ((cap + 1 : Nat) : Int) := by omega
  have hb5 : (i : Int) ≤ ((cap + 1 : Nat) : Int) := by omega
  have hb6 : ¬ cap = i := by omega
  have hb7 : ¬ G = i + 1 := by omega
  have hb8 : ¬ G = i := by omega
  obtain ⟨k1, hk1⟩ : ∃ k, k = cap + 1 - i := ⟨_, rfl⟩
  rw [← hk1] at hrz hw3
  have HK1 := Lib.hid hk1
  obtain ⟨n1, hn1⟩ : ∃ k, k = cap + 1 := ⟨_, rfl⟩
  rw [← hn1] at hrz hgr hw1 hw3 hb4 hb5 HR HLn hcp1 hcp2
  obtain ⟨i1, hi1⟩ : ∃ k, k = i + 1 := ⟨_, rfl⟩
  rw [← hi1] at hw2 hb4 hb7 hcp2
  have HI1 := Lib.hid hi1
  have HN1 := Lib.hid hn1
  have HKe := Lib.hid (show n1 - i = k1 by rw [hn1, hk1])
  clear hn1 hi1 hk1 hW1 hW2 hW3 hgW hgW2 hgW3 hg1 hg2 hbW hv1 NW1 hE hR1 lR lC lT lD hxs hold hrow hG hGc hGm hk hL hi0 hz0 hz1 hz2 hc1 hg hv hx hcl hb hroom hglt hn9 hnc
  obtain ⟨x0, x1⟩ := x
  go_enter Try.func32, Try.ntmps32
  go_upto_region 9 with (fail)
  go_wp2_with (at_builtin; first | (refine Lib.wpList_append_run _ rfl _ _ _ _ rfl _ _ rfl rfl _ _ (hrz _) ?_) | (refine wpList_copyR rfl _ _ 43 43 rfl _ _ rfl rfl (hcp1 _ _) ?_))
  go_region_law (refine step_copyR rfl (.tmp 50) (.tmp 53) 43 43 rfl _ _ (by simp [Act.eval, Act.put]) (by simp [Act.eval, Act.put]) (hcp2 _ _ _) ?_)
  go_wp2_with fail
  go_ret
  exact ⟨some ⟨w.heap.size, 0, none⟩, G, by rw [HLn.out]; rfl, by rw [HLn.out]; exact HR.out, HGr.out⟩
theorem insert_any (base : Nat) (A : Option Addr) (n c i : Nat) (xs : List SymR) (x : SymR) (vb : Nat) (w : World) (ho : w.ownsRow base 27 2 (.slice A n c) n (xs.flatMap encS)) (hn : xs.length = n) (hv : Box w vb 27 (smA x)) (hvb : (Value.slice A n c).ownBlock ≠ some vb) (hi : i ≤ n) (hn1 : n ≤ 1000) (hb : base ≤ w.heap.size) :
    Calls Try.prog 32 #[.slice A n c, .int .i64 (i : Int), .slice (some ⟨vb, 0, none⟩) 1 1] w (InsOut base (insS xs i x) (Value.slice A n c).ownBlock w) := by
  by_cases hin : i = n
  · subst hin
    exact insert_end base A i c xs x vb w ho hn hv hn1 hb
  · obtain ⟨hl, ⟨hv0, h0⟩ | ⟨g, cap, cur, hv0, hbg, hg, hnc, hm, hs, hx⟩⟩ := ho
    · omega
    · injection hv0 with e1 e2 e3
      subst e1 e3
      have hvg : vb ≠ g := fun e => hvb (by rw [e]; rfl)
      have hg' : w.heap[g]? = some (.cells cur.toList.toArray 27 (0, 0)) := hg
      have hs' : cur.toList.length = c * 2 := by rw [Array.length_toList]; exact hs
      by_cases hr : n + 1 ≤ c
      · exact insert_room base g n c i cur.toList xs x vb w hg' hbg hs' hx hn hv hvg (by omega) hr hm hn1
      · exact insert_grow base g n c i cur.toList xs x vb w hg' hb hs' hx hn hv (by omega) hnc (by omega) hn1
end Go.Proofs.Ytehlebeeoeghmaa
