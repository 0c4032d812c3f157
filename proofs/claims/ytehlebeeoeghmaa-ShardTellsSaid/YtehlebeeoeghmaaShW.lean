/- Layer 13: the stripes that numbers need: Locks. -/
import Derived.Test.YtehlebeeoeghmaaShV
import Derived.Test.YtehlebeeoeghmaaShelf
import Derived.Maps.OwnSet
import Derived.Carry
namespace Go.Proofs.Ytehlebeeoeghmaa
set_option linter.unusedVariables false
set_option linter.unusedSimpArgs false
open Go.RowKit Go.Lib Go.Maps Go.Sort Go.Shelf
set_option maxRecDepth 100000
theorem sortsI (m : Nat) : AnyZI.SortsIn Try.prog Try.sortedA_ren Fence.wide m :=
  ⟨fun blk off cap ss W hH hblk hsz => callsIn_wide.2 (AnyM.slices_Sort_int Try.sortA blk off cap ss W hH hblk hsz),
   fun p cap W => callsIn_wide.2 (AnyM.slices_Sort_int_none Try.sortA p cap W)⟩
theorem keysM_any (mb : Option Nat) (w : World) : Calls Try.prog 42 #[.map mb] w fun e w' => e = .returned (.func (.func 52) #[] #[.pointer (some ⟨w.heap.size, 0, none⟩)]) ∧ w' = w.alloc (.cells #[.map mb] 73) := by
  go_enter Try.func42, Try.ntmps42
  go_wp2_with fail
  go_ret
  exact ⟨rfl, rfl⟩
theorem sortedM_any {H : Type} (b nn : Nat) (D0 : DataW H) (R : Value → Option (DataW H × List MemPlace)) (w : World) (hown : w.ownsMap Try.prog 3 R b nn D0) (hmax : Maps.size D0 ≤ maxLen) (hbytes : Maps.size D0 * 8 ≤ 140737488355328) :
    Calls Try.prog 41 #[.func (.func 52) #[] #[.pointer (some ⟨w.heap.size, 0, none⟩)]] (w.alloc (.cells #[.map (some b)] 73)) fun e w' => ∃ (v : Value) (ss : List Int), e = .returned v ∧ ss.Perm (intKeys D0) ∧
      w'.ownsRow w.heap.size 3 1 v ss.length ((ss.mergeSort (fun x y => decide (x ≤ y))).map encZ) ∧ Below w.heap.size w w' := by
  refine (callsIn_wide (n := 5)).1 ?_
  have hbl := hown.lt
  have hseq : SeqGives Fence.wide 2 Try.prog 52 #[.pointer (some ⟨w.heap.size, 0, none⟩)] encZ (fun ss => ss.Perm (intKeys D0)) (Maps.size D0) (w.alloc (.cells #[.map (some b)] 73)) :=
    AnyZI.keys_gives (ρ := Try.keysA_ren) { Try.keysA with } Fence.wide _ trivial rfl (by omega) w.heap.size b nn D0 _ (by simp) (by simp) (by
      obtain ⟨es, clock, hb, Ft, hs, hD⟩ := hown
      exact ⟨es, clock, (Below.heap_alloc _ _ b hbl).trans hb, Ft, hs, hD⟩)
  have cS := AnyZI.sorted_in Try.sortedA Fence.wide 5 trivial trivial trivial trivial rfl (by omega) (sortsI _) (enters_of Try.func51 (by kernel_rfl) rfl) 52 #[.pointer (some ⟨w.heap.size, 0, none⟩)] trivial (enters_of Try.func52 (by kernel_rfl) rfl) _ _ hmax hbytes _ hseq
  change CallsIn _ _ Try.prog 41 _ _ _ at cS
  refine cS.mono ?_
  rintro e w' ⟨v, ss, rfl, hS, hrow, hnil, hb⟩
  exact ⟨v, ss, rfl, hS, own_low2 hrow (by simp), ((Below.refl _ w).alloc (Nat.le_refl _) _).trans (hb.mono (by simp))⟩
theorem lockL_pw (n : Nat) (ids : List Nat) (i : Nat) : (lockL n ids i).Pairwise (· < ·) := by
  unfold lockL
  rw [List.pairwise_map]
  exact (List.pairwise_lt_range.filter _).imp fun {a b} h => by omega
theorem lockL_mem (n : Nat) (ids : List Nat) (h0 : 0 < n) (x : Int) : x ∈ lockL n ids n ↔ ∃ k : Nat, x = k ∧ seenB n ids k = true := by
  unfold lockL
  rw [List.mem_map]
  constructor
  · rintro ⟨k, hk, rfl⟩
    exact ⟨k, rfl, (List.mem_filter.1 hk).2⟩
  · rintro ⟨k, rfl, hk⟩
    refine ⟨k, List.mem_filter.2 ⟨List.mem_range.2 ?_, hk⟩, rfl⟩
    unfold seenB at hk
    rw [List.any_eq_true] at hk
    obtain ⟨id, -, e⟩ := hk
    have e2 : id % n = k := by simpa using e
    rw [← e2]
    exact Nat.mod_lt _ h0
/-- What a map's keys are, sorted. -/
theorem keys_sorted {w : World} {b nn n : Nat} {D : DataW Unit} {ids : List Nat} {R : Value → Option (DataW Unit × List MemPlace)} (hown : w.ownsMap Try.prog 3 R b nn D) (h0 : 0 < n) (hm : ∀ x : Int, Maps.has D (.int .i64 x) = true ↔ ∃ k : Nat, x = k ∧ seenB n ids k = true) {ss : List Int} (hs : ss.Perm (intKeys D)) :
    ss.mergeSort (fun x y => decide (x ≤ y)) = lockL n ids n := by
  have hpw := lockL_pw n ids n
  have hc : CollectedI D (fun _ => false) (lockL n ids n) := ⟨hpw.imp fun {a b} h => by omega, fun x => by rw [lockL_mem n ids h0, hm x]; simp⟩
  have hp := hc.perm hown (int_keyed Try.underlying3) Try.underlying3 (fun _ => rfl)
  have h1 := mergeSort_of_perm_i (hs.trans hp.symm)
  show ss.mergeSort leI = _
  rw [h1]
  exact List.mergeSort_of_pairwise (hpw.imp fun {a b} h => by simp only [leI, decide_eq_true_eq]; omega)
/-- Numbers and an error are returned. -/
def NumsE (ys : List Int) (er : Int) (w : World) (e : Ending) (w' : World) : Prop := ∃ A c, e = .returned (.tuple #[.slice A ys.length c, .int .i64 er]) ∧ Ints w' A ys.length ys ∧ Below w.heap.size w w'
theorem wf_small {a : Int} (h0 : 0 ≤ a) (h1 : a ≤ 100000) : (Lit.int .i64 a).wf = true := by
  simp only [Lit.wf, IntKind.min, IntKind.max, IntKind.signed, IntKind.bits, Bool.and_eq_true, decide_eq_true_eq, if_true]
  omega
theorem seen_zero (n k : Nat) : seenB n [] k = false := rfl
theorem has_next {D : DataW Unit} (hD : IsMap D) {n : Nat} {ids : List Nat} {i : Nat} (hi : i < ids.length) (hm : ∀ x : Int, Maps.has D (.int .i64 x) = true ↔ ∃ k : Nat, x = k ∧ seenB n (ids.take i) k = true) {m : Nat} (hmm : m = ids.getD i 0 % n) (d : DataW Unit) :
    ∀ x : Int, Maps.has (D.put (.int .i64 (m : Int)) d) (.int .i64 x) = true ↔ ∃ k : Nat, x = k ∧ seenB n (ids.take (i + 1)) k = true := fun x => by
  by_cases e : x = (m : Int)
  · subst e
    rw [Maps.has_put_same hD (by trivial)]
    simp only [true_iff]
    exact ⟨m, rfl, by rw [seen_snoc n ids m i hi, ← hmm]; simp⟩
  · rw [Maps.has_put_other (by simpa using e), hm x]
    constructor
    · rintro ⟨k, rfl, hk⟩
      exact ⟨k, rfl, by rw [seen_snoc n ids k i hi, hk]; rfl⟩
    · rintro ⟨k, rfl, hk⟩
      rw [seen_snoc n ids k i hi, ← hmm, Bool.or_eq_true] at hk
      rcases hk with hk | hk
      · exact ⟨k, rfl, hk⟩
      · exact absurd (by have : m = k := by simpa using hk
                         rw [this]) e
set_option maxHeartbeats 8000000 in
theorem shLocks_any (v : Value) (s : ShR) (B : Option Addr) (l d : Nat) (ids : List Nat) (w : World) (h : ShAt w v s) (ho : OkSh s.2.2) (hi : Words w B l ids) (hl : l ≤ 1000) :
    Calls Try.prog 18 #[v, .slice B l d] w (NumsE (if rightSh s then lockL s.2.2.length ids s.2.2.length else []) (if rightSh s then 0 else 1) w) := by
  obtain ⟨A, c, rfl, hs, hls⟩ := h
  obtain ⟨q, z, ls⟩ := s
  dsimp only at hs hls ho ⊢
  have HX := Lib.hid hi
  have HXl := Lib.hid hi.1
  have hn := ho.n
  have W1 := Lib.hid ((Below.refl w.heap.size w).alloc (Nat.le_refl _) (.cells #[.int .i64 q, .int .i64 z, .slice A ls.length c] 24))
  have Q := Lib.hid (Box.new w 24 #[.int .i64 q, .int .i64 z, .slice A ls.length c])
  have HR := Lib.hid (fun wy (hb : Below w.heap.size w wy) => shRight_any (.agg #[.int .i64 q, .int .i64 z, .slice A ls.length c]) (q, z, ls) wy ⟨A, c, rfl, hs, Lsts.below hls hb⟩ ho)
  have hmm := @run_makeMap Try.prog
  have HH := Lib.hid (show rightSh (q, z, ls) = true → 0 < ls.length from fun h => by
    have h9 : (inK (ls.length : Int) 1 16 && (inK z 0 64 && inK q 1 64) && decide ((cntS ls : Int) ≤ q) && rowsB ls.length z ls ls.length) = true := h
    simp only [Bool.and_eq_true] at h9
    have := h9.1.1.1; unfold inK at this; simp at this; omega)
  obtain ⟨r0, r1, r2⟩ := Q.out.tri
  clear hi hls hs ho
  cases hr : rightSh (q, z, ls) with
  | false =>
    rw [hr] at HR
    clear HH hr
    go_enter Try.func18, Try.ntmps18
    go_wp2_with fail
    refine (HR.out _ W1.out).mono ?_
    rintro e w2 ⟨rfl, hb⟩
    have HB2 := Lib.hid (chain W1.out hb)
    clear hb
    go_wp2_with fail
    go_ret2
    exact ⟨none, 0, rfl, Ints.nil _ _, HB2.out⟩
  | true =>
    rw [hr] at HR HH
    have h0 := HH.out rfl
    clear HH hr
    go_enter Try.func18, Try.ntmps18
    go_wp2_with fail
    refine (HR.out _ W1.out).mono ?_
    rintro e w2 ⟨rfl, hb⟩
    have HB2 := Lib.hid ((chain W1.out hb).alloc (chain W1.out hb).size (.map #[] 0))
    have HQ2 := Lib.hid ((Q.out.keep hb).alloc (.map #[] 0))
    have HM := Lib.hid (World.ownsMap_made (H := Unit) w2 Try.prog 3 (plainElem Try.prog 3))
    have hge : w.heap.size < w2.heap.size := Nat.lt_of_lt_of_le Q.out.lt hb.size
    clear hb r0 r1 r2 HR W1 Q
    obtain ⟨bm, hbm⟩ : ∃ b, b = w2.heap.size := ⟨_, rfl⟩
    rw [← hbm] at HM hge
    have HBm := Lib.hid hbm
    go_wp2_with fail
    rw [← HBm.out]
    clear hbm HBm
    go_loopw [15] (fun t wr => ∃ i : Nat, i ≤ l ∧ t = .int .i64 (i : Int) ∧ ∃ D : DataW Unit, Hid (wr.ownsMap Try.prog 3 (plainElem Try.prog 3) bm i D) ∧ Hid (∀ x : Int, Maps.has D (.int .i64 x) = true ↔ ∃ k : Nat, x = k ∧ seenB ls.length (ids.take i) k = true) ∧ Hid (Box wr w.heap.size 24 #[.int .i64 q, .int .i64 z, .slice A ls.length c]) ∧ Hid (Below w.heap.size w wr)) (fun t _ => l - (Go.RowKit.intOf t).toNat)
    case atStart => exact ⟨0, Nat.zero_le _, rfl, _, HM, Lib.hid (fun x => ⟨fun h => (by cases h), fun ⟨k, _, h⟩ => by rw [List.take_zero, seen_zero] at h; cases h⟩), HQ2, HB2⟩
    case round =>
      clear HM HQ2 HB2
      obtain ⟨i, hi, rfl, D, HM, HS, HQ, HB⟩ := hrel
      by_cases hlt : i < l
      · have hlt' : (i : Int) < (l : Int) := Int.ofNat_lt.2 hlt
        obtain ⟨b1, off1, rfl, hb1, hc1⟩ := HX.out.2.2 (by omega)
        have y0 := (HB.out.cell (p := ⟨b1, off1 + i, none⟩) hb1).trans (hc1 i hlt)
        obtain ⟨m, hm⟩ : ∃ m, m = ids.getD i 0 % ls.length := ⟨_, rfl⟩
        have HSn := Lib.hid (fun d => has_next HM.out.isMap (by rw [HXl.out]; exact hlt) HS.out hm d)
        have hml : m < ls.length := by rw [hm]; exact Nat.mod_lt _ h0
        have HSt := Lib.hid (stripe_any q z A c ls.length (ids.getD i 0) wr h0 hn)
        rw [← hm] at HSt
        clear hc1 hm HS
        generalize ids.getD i 0 = id at *
        have hkey := keyOf_int_mk (P := Try.prog) (k := 3) (q := .i64) Try.underlying3 (wf_small (a := (m : Int)) (by omega) (by omega))
        have hmx : i < maxLen := by unfold maxLen; omega
        obtain ⟨r0, r1, r2⟩ := HQ.out.tri
        go_wp2_with fail
        refine HSt.out.mono ?_
        rintro e w3 ⟨rfl, hb⟩
        have HM3 := Lib.hid (show w3.ownsMap Try.prog 3 (plainElem Try.prog 3) bm i D by
          obtain ⟨es, clock, hbb, Ft, hs, hD⟩ := HM.out
          exact ⟨es, clock, (hb.block bm HM.out.lt).trans hbb, Ft, hs, hD⟩)
        have HQ3 := Lib.hid (HQ.out.keep hb)
        have HB3 := Lib.hid (chain HB.out hb)
        clear hb r0 r1 r2 HSt HM HQ HB y0
        go_wp2_with (first
          | (at_lookup; refine wpList_lookup_own_int _ rfl _ _ 73 rfl 3 3 .i64 (int_keyed Try.underlying3) Try.underlying73 Try.underlying3 (Try.zeroValue3 _) bm i D rfl HM3.out _ _ rfl hkey ?_; intro cc hat hwc)
          | (at_mapUpdate; refine wpList_mapUpdate_own _ rfl _ _ _ 73 rfl 3 3 (int_keyed Try.underlying3) Try.underlying73 _ bm i D rfl HM3.out hmx _ _ _ rfl rfl hkey _ [] (plainElem_int Try.underlying3 (wrap64_wf _)) ?_; intro w4 hown4 hgrow4; have HM4 := Lib.hid hown4; have HQ4 := Lib.hid (Box.grown HQ3.out hgrow4 (by simp; omega)); have HB4 := Lib.hid (Below.grown HB3.out hgrow4 HB3.out.size (fun k hk => by cases hk; omega)); clear hown4 hgrow4)
          | go_in)
        go_roundw
        case rel => exact ⟨i + 1, hlt, by go_num, _, HM4, Lib.hid (HSn.out _), HQ4, HB4⟩
        case measure => simp [Go.RowKit.intOf] <;> omega
      · obtain rfl : i = l := by omega
        have hlt' : ¬ (i : Int) < (i : Int) := Int.lt_irrefl _
        have hte : ids.take i = ids := List.take_of_length_le (by rw [HXl.out]; exact Nat.le_refl _)
        rw [hte] at HS
        clear hte
        have hsz := HM.out.size_le
        have HSo := Lib.hid (sortedM_any bm i D _ wr HM.out (by unfold maxLen; omega) (by omega))
        have HKs := Lib.hid (fun (ss : List Int) (hs : ss.Perm (intKeys D)) => keys_sorted HM.out h0 HS.out hs)
        go_wp2_with fail
        refine (keysM_any _ _).mono ?_
        rintro e w5 ⟨rfl, rfl⟩
        go_wp2_with fail
        refine HSo.out.mono ?_
        rintro e w6 ⟨v, ss, rfl, hp, hrow, hb⟩
        have hk := HKs.out ss hp
        have hll : ss.length = (lockL ls.length ids ls.length).length := by rw [← hk, List.length_mergeSort]
        rw [hk, hll] at hrow
        have HR6 := Lib.hid hrow
        have HB6 := Lib.hid (chain HB.out hb)
        have HBd := Lib.hid (lockL_bd ls.length ids ls.length hn)
        clear hrow hb hk hll hp HSo HKs HM HS HQ HB
        obtain ⟨A9, c9, rfl⟩ := own_formS HR6.out
        have HI6 := Lib.hid (own_ints HR6.out HBd.out)
        clear HR6 HBd
        generalize lockL ls.length ids ls.length = ys at *
        go_wp2_with fail
        go_ret2
        exact ⟨A9, c9, rfl, HI6.out, HB6.out⟩
end Go.Proofs.Ytehlebeeoeghmaa
