/- Layer 22: HistoryTells: the walk. -/
import Derived.Test.YtmbmmfdobkbbfaaHiI
import Derived.Deep.RegionHeld3
namespace Go.Proofs.Ytmbmmfdobkbbfaa
set_option linter.unusedVariables false
set_option linter.unusedSimpArgs false
open Go.RowKit Go.Shelf
set_option maxRecDepth 100000
abbrev twoW (w : World) (a b : SpR) : World := (w.alloc (.cells (spA a) 41)).alloc (.cells (spA b) 41)
theorem twoW_two (w : World) (a b : SpR) : Box (twoW w a b) w.heap.size 41 (spA a) ∧ Box (twoW w a b) (w.heap.size + 1) 41 (spA b) ∧ Below w.heap.size w (twoW w a b) := by
  refine ⟨(Box.new w _ _).alloc _, ?_, ((Below.refl _ _).alloc (Nat.le_refl _) _).alloc (by simp) _⟩
  have q := Box.new (w.alloc (.cells (spA a) 41)) 41 (spA b)
  simpa only [World.size_alloc] using q
set_option maxHeartbeats 8000000 in
theorem htells_any (A : Option Addr) (l cp : Nat) (h : List EvR) (a b : SpR) (hs : SliceOk A l cp) (w : World) (hH : Evs w A l h) :
    Calls Try.prog 4 #[.slice A l cp, .agg (spA a), .agg (spA b)] w fun e w' => e = .returned (.bool true) ∧ Below w.heap.size w w' := by
  have HF := Lib.hid (fun w' => few22_any A l cp hs w')
  have hcp : cp ≤ maxLen := hs.2.1
  have hn50 : min l 50 ≤ 50 := by omega
  have hH := hH.take (min l 50) (by omega)
  generalize h.take (min l 50) = h at *
  generalize min l 50 = n at *
  clear hs
  have HT := Lib.hid (fun (w' : World) (hb : Below w.heap.size w w') => hH.below hb)
  have hnm : n ≤ maxLen := by unfold maxLen; omega
  have hn6 : n ≤ 1000000 := by omega
  have HAy := Lib.hid (fun hr (w' : World) (hw : Evs w' A n h) => halone_yes A n cp h w' hw hnm hn6 hr)
  have HAn := Lib.hid (fun hr (w' : World) (hw : Evs w' A n h) => halone_no A n cp h w' hw hnm hn6 hr)
  have HOy := Lib.hid (fun hr (w' : World) (hw : Evs w' A n h) => hopen_yes A n cp h w' hw hnm hn6 hr)
  have HOn := Lib.hid (fun hr (w' : World) (hw : Evs w' A n h) => hopen_no A n cp h w' hw hnm hn6 hr)
  have HR2 := Lib.hid (fun (w' : World) (hw : Evs w' A n h) => refRight_any A n cp h w' hw hn6)
  have HRA := Lib.hid (fun (w' : World) (hw : Evs w' A n h) => refAlone_any A n cp h w' hw hn6)
  have HRO := Lib.hid (fun (w' : World) (hw : Evs w' A n h) => refOpen_any A n cp h w' hw hn6)
  have HEq := Lib.hid (show rightH h = true → aloneB n (spansL h n) = alB h n n from fun hr => by have := alone_eq hr; rwa [hH.len] at this)
  have hln := spansL_len h n
  have hol := openL_len (spansL h n) (spansL h n).length
  obtain ⟨p0, p1, pb⟩ := twoW_two w a b
  have GA := Lib.hid p0
  have GB := Lib.hid p1
  have HB := Lib.hid pb
  clear hH hcp hnm p0 p1 pb
  generalize openL (spansL h n) (spansL h n).length = op at *
  generalize aloneB n (spansL h n) = al at *
  generalize alB h n n = al2 at *
  go_enter Try.func4, Try.ntmps4
  go_wp2_with fail
  refine (HF.out _).mono ?_
  rintro e u1 ⟨rfl, rfl⟩
  clear HF
  cases hr9 : rightH h with
  | false =>
    rw [hr9] at HR2
    go_wp2_with fail
    refine (HAn.out hr9 _ (HT.out _ HB.out)).mono ?_
    rintro e w2 ⟨rfl, hb⟩
    have HB := Lib.hid (chain HB.out hb)
    have GA := Lib.hid (GA.out.keep hb)
    have GB := Lib.hid (GB.out.keep hb)
    clear hb
    go_wp2_with fail
    refine (HOn.out hr9 _ (HT.out _ HB.out)).mono ?_
    rintro e w3 ⟨rfl, hb⟩
    have HB := Lib.hid (chain HB.out hb)
    have GA := Lib.hid (GA.out.keep hb)
    have GB := Lib.hid (GB.out.keep hb)
    clear hb HAy HAn HOy HOn HEq hr9
    obtain ⟨d0, d1, d2, d3, d4, d5, d6, d7, d8, d9, d10, d11, d12, d13⟩ := GA.out.sp
    obtain ⟨q0, q1, q2, q3, q4, q5, q6, q7, q8, q9, q10, q11, q12, q13⟩ := GB.out.sp
    go_upto_region 4 with (fail)
    go_region_held3 (fun (w' : World) => w'.cell? ⟨w.heap.size, 0, none⟩ = some (.int .i64 a.c) ∧ w'.cell? ⟨w.heap.size, 1, none⟩ = some (.int .i64 a.n) ∧ w'.cell? ⟨w.heap.size, 2, none⟩ = some (.int .i64 a.call.1) ∧ w'.cell? ⟨w.heap.size, 3, none⟩ = some (.int .u64 (a.call.2.1 : Nat)) ∧ w'.cell? ⟨w.heap.size, 4, none⟩ = some (.int .i64 a.call.2.2.1) ∧ w'.cell? ⟨w.heap.size, 5, none⟩ = some (.int .i64 a.call.2.2.2.1) ∧ w'.cell? ⟨w.heap.size, 6, none⟩ = some (.int .i64 a.call.2.2.2.2.1) ∧ w'.cell? ⟨w.heap.size, 7, none⟩ = some (.int .u64 (a.call.2.2.2.2.2.1 : Nat)) ∧ w'.cell? ⟨w.heap.size, 8, none⟩ = some (.string a.call.2.2.2.2.2.2) ∧ w'.cell? ⟨w.heap.size, 9, none⟩ = some (.int .i64 a.rep.why) ∧ w'.cell? ⟨w.heap.size, 10, none⟩ = some (.int .i64 a.rep.n) ∧ w'.cell? ⟨w.heap.size, 11, none⟩ = some (.slice a.rep.A a.rep.l a.rep.c) ∧ w'.cell? ⟨w.heap.size, 12, none⟩ = some (.int .i64 a.fr) ∧ w'.cell? ⟨w.heap.size, 13, none⟩ = some (.int .i64 a.to) ∧ w'.cell? ⟨w.heap.size + 1, 0, none⟩ = some (.int .i64 b.c) ∧ w'.cell? ⟨w.heap.size + 1, 1, none⟩ = some (.int .i64 b.n) ∧ w'.cell? ⟨w.heap.size + 1, 2, none⟩ = some (.int .i64 b.call.1) ∧ w'.cell? ⟨w.heap.size + 1, 3, none⟩ = some (.int .u64 (b.call.2.1 : Nat)) ∧ w'.cell? ⟨w.heap.size + 1, 4, none⟩ = some (.int .i64 b.call.2.2.1) ∧ w'.cell? ⟨w.heap.size + 1, 5, none⟩ = some (.int .i64 b.call.2.2.2.1) ∧ w'.cell? ⟨w.heap.size + 1, 6, none⟩ = some (.int .i64 b.call.2.2.2.2.1) ∧ w'.cell? ⟨w.heap.size + 1, 7, none⟩ = some (.int .u64 (b.call.2.2.2.2.2.1 : Nat)) ∧ w'.cell? ⟨w.heap.size + 1, 8, none⟩ = some (.string b.call.2.2.2.2.2.2) ∧ w'.cell? ⟨w.heap.size + 1, 9, none⟩ = some (.int .i64 b.rep.why) ∧ w'.cell? ⟨w.heap.size + 1, 10, none⟩ = some (.int .i64 b.rep.n) ∧ w'.cell? ⟨w.heap.size + 1, 11, none⟩ = some (.slice b.rep.A b.rep.l b.rep.c) ∧ w'.cell? ⟨w.heap.size + 1, 12, none⟩ = some (.int .i64 b.fr) ∧ w'.cell? ⟨w.heap.size + 1, 13, none⟩ = some (.int .i64 b.to)) (go_keep)
      (first
        | (go_at_call 16; refine (hbefore_any a b _).mono ?_; rintro e1 x1 ⟨rfl, hb⟩; have GA1 := Lib.hid (GA.out.drew.keep hb); have GB1 := Lib.hid (GB.out.drew.keep hb); have HB1 := Lib.hid (chain HB.out.drew hb); clear hb; obtain ⟨f1_0, f1_1, f1_2, f1_3, f1_4, f1_5, f1_6, f1_7, f1_8, f1_9, f1_10, f1_11, f1_12, f1_13⟩ := GA1.out.sp; obtain ⟨g1_0, g1_1, g1_2, g1_3, g1_4, g1_5, g1_6, g1_7, g1_8, g1_9, g1_10, g1_11, g1_12, g1_13⟩ := GB1.out.sp)
        | (go_at_call 17; refine (refBefore_any a b _).mono ?_; rintro e2 x2 ⟨rfl, hb⟩; have GA2 := Lib.hid (GA1.out.keep hb); have GB2 := Lib.hid (GB1.out.keep hb); have HB2 := Lib.hid (chain HB1.out hb); clear hb; obtain ⟨f2_0, f2_1, f2_2, f2_3, f2_4, f2_5, f2_6, f2_7, f2_8, f2_9, f2_10, f2_11, f2_12, f2_13⟩ := GA2.out.sp; obtain ⟨g2_0, g2_1, g2_2, g2_3, g2_4, g2_5, g2_6, g2_7, g2_8, g2_9, g2_10, g2_11, g2_12, g2_13⟩ := GB2.out.sp)
        | (go_at_call 11; refine (alive22_any _).mono ?_; rintro e3 x3 ⟨rfl, hb⟩; have GA3 := Lib.hid (GA2.out.keep hb); have GB3 := Lib.hid (GB2.out.keep hb); have HB3 := Lib.hid (chain HB2.out hb); clear hb; obtain ⟨f3_0, f3_1, f3_2, f3_3, f3_4, f3_5, f3_6, f3_7, f3_8, f3_9, f3_10, f3_11, f3_12, f3_13⟩ := GA3.out.sp; obtain ⟨g3_0, g3_1, g3_2, g3_3, g3_4, g3_5, g3_6, g3_7, g3_8, g3_9, g3_10, g3_11, g3_12, g3_13⟩ := GB3.out.sp))
    go_wp2_with fail
    refine (HR2.out _ (HT.out _ HB3.out)).mono ?_
    rintro e w5 ⟨rfl, hb⟩
    have HB := Lib.hid (chain HB3.out hb)
    clear hb
    go_wp2_with fail
    go_ret
    exact ⟨rfl, HB.out⟩
  | true =>
    rw [hr9] at HR2
    have HEq := Lib.hid (HEq.out hr9)
    go_wp2_with fail
    refine (HAy.out hr9 _ (HT.out _ HB.out)).mono ?_
    rintro e w2 ⟨rfl, hb⟩
    have HB := Lib.hid (chain HB.out hb)
    have GA := Lib.hid (GA.out.keep hb)
    have GB := Lib.hid (GB.out.keep hb)
    clear hb
    go_wp2_with fail
    refine (HOy.out hr9 _ (HT.out _ HB.out)).mono ?_
    rintro e w3 ⟨A1, c1, rfl, q1, q2, q3, hb⟩
    have HB := Lib.hid (chain HB.out hb)
    have GA := Lib.hid (GA.out.keep hb)
    have GB := Lib.hid (GB.out.keep hb)
    have I := Lib.hid q3
    rw [HEq.out]
    clear hb HAy HAn HOy HOn HEq hr9 q1 q2 q3
    obtain ⟨d0, d1, d2, d3, d4, d5, d6, d7, d8, d9, d10, d11, d12, d13⟩ := GA.out.sp
    obtain ⟨q0, q1, q2, q3, q4, q5, q6, q7, q8, q9, q10, q11, q12, q13⟩ := GB.out.sp
    go_upto_region 4 with (fail)
    go_region_held3 (fun (w' : World) => w'.cell? ⟨w.heap.size, 0, none⟩ = some (.int .i64 a.c) ∧ w'.cell? ⟨w.heap.size, 1, none⟩ = some (.int .i64 a.n) ∧ w'.cell? ⟨w.heap.size, 2, none⟩ = some (.int .i64 a.call.1) ∧ w'.cell? ⟨w.heap.size, 3, none⟩ = some (.int .u64 (a.call.2.1 : Nat)) ∧ w'.cell? ⟨w.heap.size, 4, none⟩ = some (.int .i64 a.call.2.2.1) ∧ w'.cell? ⟨w.heap.size, 5, none⟩ = some (.int .i64 a.call.2.2.2.1) ∧ w'.cell? ⟨w.heap.size, 6, none⟩ = some (.int .i64 a.call.2.2.2.2.1) ∧ w'.cell? ⟨w.heap.size, 7, none⟩ = some (.int .u64 (a.call.2.2.2.2.2.1 : Nat)) ∧ w'.cell? ⟨w.heap.size, 8, none⟩ = some (.string a.call.2.2.2.2.2.2) ∧ w'.cell? ⟨w.heap.size, 9, none⟩ = some (.int .i64 a.rep.why) ∧ w'.cell? ⟨w.heap.size, 10, none⟩ = some (.int .i64 a.rep.n) ∧ w'.cell? ⟨w.heap.size, 11, none⟩ = some (.slice a.rep.A a.rep.l a.rep.c) ∧ w'.cell? ⟨w.heap.size, 12, none⟩ = some (.int .i64 a.fr) ∧ w'.cell? ⟨w.heap.size, 13, none⟩ = some (.int .i64 a.to) ∧ w'.cell? ⟨w.heap.size + 1, 0, none⟩ = some (.int .i64 b.c) ∧ w'.cell? ⟨w.heap.size + 1, 1, none⟩ = some (.int .i64 b.n) ∧ w'.cell? ⟨w.heap.size + 1, 2, none⟩ = some (.int .i64 b.call.1) ∧ w'.cell? ⟨w.heap.size + 1, 3, none⟩ = some (.int .u64 (b.call.2.1 : Nat)) ∧ w'.cell? ⟨w.heap.size + 1, 4, none⟩ = some (.int .i64 b.call.2.2.1) ∧ w'.cell? ⟨w.heap.size + 1, 5, none⟩ = some (.int .i64 b.call.2.2.2.1) ∧ w'.cell? ⟨w.heap.size + 1, 6, none⟩ = some (.int .i64 b.call.2.2.2.2.1) ∧ w'.cell? ⟨w.heap.size + 1, 7, none⟩ = some (.int .u64 (b.call.2.2.2.2.2.1 : Nat)) ∧ w'.cell? ⟨w.heap.size + 1, 8, none⟩ = some (.string b.call.2.2.2.2.2.2) ∧ w'.cell? ⟨w.heap.size + 1, 9, none⟩ = some (.int .i64 b.rep.why) ∧ w'.cell? ⟨w.heap.size + 1, 10, none⟩ = some (.int .i64 b.rep.n) ∧ w'.cell? ⟨w.heap.size + 1, 11, none⟩ = some (.slice b.rep.A b.rep.l b.rep.c) ∧ w'.cell? ⟨w.heap.size + 1, 12, none⟩ = some (.int .i64 b.fr) ∧ w'.cell? ⟨w.heap.size + 1, 13, none⟩ = some (.int .i64 b.to)) (go_keep)
      (first
        | (go_at_call 16; refine (hbefore_any a b _).mono ?_; rintro e1 x1 ⟨rfl, hb⟩; have GA1 := Lib.hid (GA.out.drew.keep hb); have GB1 := Lib.hid (GB.out.drew.keep hb); have HB1 := Lib.hid (chain HB.out.drew hb); have I1 := Lib.hid (Ints.below (w := World.drew _) I.out hb); clear hb; obtain ⟨f1_0, f1_1, f1_2, f1_3, f1_4, f1_5, f1_6, f1_7, f1_8, f1_9, f1_10, f1_11, f1_12, f1_13⟩ := GA1.out.sp; obtain ⟨g1_0, g1_1, g1_2, g1_3, g1_4, g1_5, g1_6, g1_7, g1_8, g1_9, g1_10, g1_11, g1_12, g1_13⟩ := GB1.out.sp)
        | (go_at_call 17; refine (refBefore_any a b _).mono ?_; rintro e2 x2 ⟨rfl, hb⟩; have GA2 := Lib.hid (GA1.out.keep hb); have GB2 := Lib.hid (GB1.out.keep hb); have HB2 := Lib.hid (chain HB1.out hb); have I2 := Lib.hid (Ints.below I1.out hb); clear hb; obtain ⟨f2_0, f2_1, f2_2, f2_3, f2_4, f2_5, f2_6, f2_7, f2_8, f2_9, f2_10, f2_11, f2_12, f2_13⟩ := GA2.out.sp; obtain ⟨g2_0, g2_1, g2_2, g2_3, g2_4, g2_5, g2_6, g2_7, g2_8, g2_9, g2_10, g2_11, g2_12, g2_13⟩ := GB2.out.sp)
        | (go_at_call 11; refine (alive22_any _).mono ?_; rintro e3 x3 ⟨rfl, hb⟩; have GA3 := Lib.hid (GA2.out.keep hb); have GB3 := Lib.hid (GB2.out.keep hb); have HB3 := Lib.hid (chain HB2.out hb); have I3 := Lib.hid (Ints.below I2.out hb); clear hb; obtain ⟨f3_0, f3_1, f3_2, f3_3, f3_4, f3_5, f3_6, f3_7, f3_8, f3_9, f3_10, f3_11, f3_12, f3_13⟩ := GA3.out.sp; obtain ⟨g3_0, g3_1, g3_2, g3_3, g3_4, g3_5, g3_6, g3_7, g3_8, g3_9, g3_10, g3_11, g3_12, g3_13⟩ := GB3.out.sp))
    go_wp2_with fail
    refine (HR2.out _ (HT.out _ HB3.out)).mono ?_
    rintro e w5 ⟨rfl, hb⟩
    have HB := Lib.hid (chain HB3.out hb)
    have I := Lib.hid (Ints.below I3.out hb)
    clear hb
    go_wp2_with fail
    refine (HRA.out _ (HT.out _ HB.out)).mono ?_
    rintro e w6 ⟨rfl, hb⟩
    have HB := Lib.hid (chain HB.out hb)
    have I := Lib.hid (Ints.below I.out hb)
    clear hb
    go_wp2_with fail
    refine (HRO.out _ (HT.out _ HB.out)).mono ?_
    rintro e w7 ⟨A2, c2, rfl, q3, hb⟩
    have HB := Lib.hid (chain HB.out hb)
    have I := Lib.hid (Ints.below I.out hb)
    have J := Lib.hid q3
    clear hb q3
    have HSm := Lib.hid (show sameZ (natZ op) (natZ op) = true from by simp [sameZ])
    go_wp2_with fail
    refine (refNumbers_any A1 A2 _ c1 _ c2 _ _ _ I.out J.out (by omega) (by omega)).mono ?_
    rintro e w8 ⟨rfl, hb⟩
    have HB := Lib.hid (chain HB.out hb)
    rw [HSm.out]
    clear hb
    go_wp2_with fail
    go_ret
    exact ⟨rfl, HB.out⟩
end Go.Proofs.Ytmbmmfdobkbbfaa
