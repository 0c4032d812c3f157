/- Layer 22: the reference's Texts, Replies, Same: of what is the same. -/
import Derived.Test.YtmbmmfdobkbbfaaHiG
import Derived.Deep.RegionHeld3
namespace Go.Proofs.Ytmbmmfdobkbbfaa
set_option linter.unusedVariables false
set_option linter.unusedSimpArgs false
open Go.RowKit Go.Shelf
set_option maxRecDepth 100000
set_option maxHeartbeats 1000000 in
theorem refTexts_big (A B : Option Addr) (l c d : Nat) (ss : List ByteArray) (w : World) (hu : Texts w A l ss) (hv : Texts w B l ss) (hl : l ≤ maxLen) :
    Calls Try.prog 26 #[.slice A l c, .slice B l d] w fun e w' => e = .returned (.bool true) ∧ Below w.heap.size w w' := by
  have HU := Lib.hid hu
  have HV := Lib.hid hv
  unfold maxLen at hl
  clear hu hv
  have t2 : ((l : Int) != (l : Int)) = false := by simp
  go_enter Try.func26, Try.ntmps26
  go_wp2_with fail
  clear t2
  go_loopw [13] (fun i wr => ∃ j : Nat, j ≤ l ∧ i = .int .i64 j ∧ Below w.heap.size w wr) (fun i _ => l - (intOf i).toNat)
  case atStart => exact ⟨0, by omega, rfl, Below.refl _ _⟩
  case round =>
    obtain ⟨j, hj, rfl, hbel⟩ := hrel
    have HB := Lib.hid hbel
    clear hbel
    by_cases hlt : j < l
    · obtain ⟨p, o, rfl, lt1, hc1⟩ := HU.out.2.2 (by omega)
      obtain ⟨p2, o2, rfl, lt2, hc2⟩ := HV.out.2.2 (by omega)
      have cu := (HB.out.cell (p := ⟨p, o + j, none⟩) lt1).trans (hc1 j hlt)
      have cv := (HB.out.cell (p := ⟨p2, o2 + j, none⟩) lt2).trans (hc2 j hlt)
      generalize ss.getD j ByteArray.empty = s at *
      clear hc1 hc2
      have hlt' : (j : Int) < (l : Int) := by omega
      have hj0 : (0 : Int) ≤ (j : Int) := by omega
      have hj9 : (j : Int) < 9223372036854775807 := by omega
      go_wp2
      go_quiet (fail)
      go_wp2_with fail
      go_roundw
      case rel => exact ⟨j + 1, by omega, by go_num, bdN HB.out _⟩
      case measure => simp [intOf]; omega
    · obtain rfl : j = l := by omega
      go_wp2
      go_ret
      exact ⟨rfl, HB.out⟩
abbrev repA (r : RepR) : Array Value := #[.int .i64 r.why, .int .i64 r.n, .slice r.A r.l r.c]
set_option maxHeartbeats 1000000 in
theorem refReplies_same (r : RepR) (w : World) (h : RepOk w r) :
    Calls Try.prog 24 #[.agg (repA r), .agg (repA r)] w fun e w' => e = .returned (.bool true) ∧ Below w.heap.size w w' := by
  obtain ⟨ss, h1, h2, h3⟩ := h
  have hb : Below w.heap.size w ((w.alloc (.cells (repA r) 39)).alloc (.cells (repA r) 39)) := ((Below.refl _ _).alloc (Nat.le_refl _) _).alloc (by simp) _
  have HT := Lib.hid (refTexts_big r.A r.A r.l r.c r.c ss _ (h1.below hb) (h1.below hb) (Nat.le_trans h2 h3))
  have HB := Lib.hid hb
  have q0 := (Box.new w 39 (repA r)).alloc (.cells (repA r) 39)
  have q1 := Box.new (w.alloc (.cells (repA r) 39)) 39 (repA r)
  simp only [World.size_alloc] at q1
  have a0 := q0.cell 0
  have a1 := q0.cell 1
  have a2 := q0.cell 2
  have b0 := q1.cell 0
  have b1 := q1.cell 1
  have b2 := q1.cell 2
  simp only [List.getElem?_toArray, List.getElem?_cons_zero, List.getElem?_cons_succ] at a0 a1 a2 b0 b1 b2
  have t0 : (r.why == r.why) = true := by simp
  have t1 : (r.n == r.n) = true := by simp
  clear hb q0 q1 h1 h2 h3
  go_enter Try.func24, Try.ntmps24
  go_wp2_with fail
  refine HT.out.mono ?_
  rintro e w2 ⟨rfl, hb⟩
  have HB := Lib.hid (chain HB.out hb)
  clear hb HT
  go_wp2_with fail
  go_ret
  exact ⟨rfl, HB.out⟩
set_option maxHeartbeats 4000000 in
theorem refSame22_same (A B : Option Addr) (l c d : Nat) (ss : List SpR) (w : World) (hu : Sps w A l ss) (hv : Sps w B l ss) (hl : l ≤ 1000000) :
    Calls Try.prog 12 #[.slice A l c, .slice B l d] w fun e w' => e = .returned (.bool true) ∧ Below w.heap.size w w' := by
  have HU := Lib.hid hu
  have HV := Lib.hid hv
  clear hu hv
  have t2 : ((l : Int) != (l : Int)) = false := by simp
  go_enter Try.func12, Try.ntmps12
  go_wp2_with fail
  clear t2
  go_loopw [13] (fun i wr => ∃ j : Nat, j ≤ l ∧ i = .int .i64 j ∧ Below w.heap.size w wr) (fun i _ => l - (intOf i).toNat)
  case atStart => exact ⟨0, by omega, rfl, Below.refl _ _⟩
  case round =>
    obtain ⟨j, hj, rfl, hbel⟩ := hrel
    have HB := Lib.hid hbel
    clear hbel
    by_cases hlt : j < l
    · obtain ⟨p, o, rfl, lt1, d0, d1, d2, d3, d4, d5, d6, d7, d8, d9, d10, d11, d12, d13⟩ := HU.out.cells HB.out j hlt
      obtain ⟨p2, o2, rfl, lt2, e0, e1, e2, e3, e4, e5, e6, e7, e8, e9, e10, e11, e12, e13⟩ := HV.out.cells HB.out j hlt
      have HR := Lib.hid (show RepOk wr (spG ss j).rep from (HU.out.reps j).below HB.out)
      have HR := Lib.hid (show RepOk wr.drew (spG ss j).rep from HR.out)
      have hlt' : (j : Int) < (l : Int) := by omega
      have hj0 : (0 : Int) ≤ (j : Int) := by omega
      have hj5 : (j : Int) < 1000000 := by omega
      have HUc := Lib.hid (show ∀ x, Below w.heap.size w x → SpAt x p (o + j * 14) (spG ss j) from fun x hb => by obtain ⟨b', o', he, -, hc⟩ := HU.out.cells hb j hlt; injection he with he; injection he with he1 he2; subst he1 he2; exact hc)
      have HVc := Lib.hid (show ∀ x, Below w.heap.size w x → SpAt x p2 (o2 + j * 14) (spG ss j) from fun x hb => by obtain ⟨b', o', he, -, hc⟩ := HV.out.cells hb j hlt; injection he with he; injection he with he1 he2; subst he1 he2; exact hc)
      generalize spG ss j = s at *
      have HP := Lib.hid (fun w' (h : RepOk w' s.rep) => refReplies_same s.rep w' h)
      have t0 : (s.c != s.c) = false := by simp
      have t1 : (s.n != s.n) = false := by simp
      have t3 : (s.fr != s.fr) = false := by simp
      have t4 : (s.to != s.to) = false := by simp
      have hne : ∀ w, (binOp .neq 36 (.agg #[.int .i64 s.call.1, .int .u64 (s.call.2.1 : Nat), .int .i64 s.call.2.2.1, .int .i64 s.call.2.2.2.1, .int .i64 s.call.2.2.2.2.1, .int .u64 (s.call.2.2.2.2.2.1 : Nat), .string s.call.2.2.2.2.2.2]) (.agg #[.int .i64 s.call.1, .int .u64 (s.call.2.1 : Nat), .int .i64 s.call.2.2.1, .int .i64 s.call.2.2.2.1, .int .i64 s.call.2.2.2.2.1, .int .u64 (s.call.2.2.2.2.2.1 : Nat), .string s.call.2.2.2.2.2.2])).run Try.prog w = .ok (.bool false) w := fun w => by have := callA_neq s.call s.call w; simpa using this
      have hgd := fun x y w => call_guard .neq s.call s.call x y w
      dsimp only [callL, List.toArray] at hgd
      go_upto_region 6 with (fail)
      simp only [List.append_eq, List.cons_append, List.nil_append]
      go_region_held3 (fun (w' : World) => w'.cell? ⟨p, o + j * 14, none⟩ = some (.int .i64 s.c) ∧ w'.cell? ⟨p, o + j * 14 + 1, none⟩ = some (.int .i64 s.n) ∧ w'.cell? ⟨p, o + j * 14 + 2, none⟩ = some (.int .i64 s.call.1) ∧ w'.cell? ⟨p, o + j * 14 + 3, none⟩ = some (.int .u64 (s.call.2.1 : Nat)) ∧ w'.cell? ⟨p, o + j * 14 + 4, none⟩ = some (.int .i64 s.call.2.2.1) ∧ w'.cell? ⟨p, o + j * 14 + 5, none⟩ = some (.int .i64 s.call.2.2.2.1) ∧ w'.cell? ⟨p, o + j * 14 + 6, none⟩ = some (.int .i64 s.call.2.2.2.2.1) ∧ w'.cell? ⟨p, o + j * 14 + 7, none⟩ = some (.int .u64 (s.call.2.2.2.2.2.1 : Nat)) ∧ w'.cell? ⟨p, o + j * 14 + 8, none⟩ = some (.string s.call.2.2.2.2.2.2) ∧ w'.cell? ⟨p, o + j * 14 + 9, none⟩ = some (.int .i64 s.rep.why) ∧ w'.cell? ⟨p, o + j * 14 + 10, none⟩ = some (.int .i64 s.rep.n) ∧ w'.cell? ⟨p, o + j * 14 + 11, none⟩ = some (.slice s.rep.A s.rep.l s.rep.c) ∧ w'.cell? ⟨p, o + j * 14 + 12, none⟩ = some (.int .i64 s.fr) ∧ w'.cell? ⟨p, o + j * 14 + 13, none⟩ = some (.int .i64 s.to) ∧ w'.cell? ⟨p2, o2 + j * 14, none⟩ = some (.int .i64 s.c) ∧ w'.cell? ⟨p2, o2 + j * 14 + 1, none⟩ = some (.int .i64 s.n) ∧ w'.cell? ⟨p2, o2 + j * 14 + 2, none⟩ = some (.int .i64 s.call.1) ∧ w'.cell? ⟨p2, o2 + j * 14 + 3, none⟩ = some (.int .u64 (s.call.2.1 : Nat)) ∧ w'.cell? ⟨p2, o2 + j * 14 + 4, none⟩ = some (.int .i64 s.call.2.2.1) ∧ w'.cell? ⟨p2, o2 + j * 14 + 5, none⟩ = some (.int .i64 s.call.2.2.2.1) ∧ w'.cell? ⟨p2, o2 + j * 14 + 6, none⟩ = some (.int .i64 s.call.2.2.2.2.1) ∧ w'.cell? ⟨p2, o2 + j * 14 + 7, none⟩ = some (.int .u64 (s.call.2.2.2.2.2.1 : Nat)) ∧ w'.cell? ⟨p2, o2 + j * 14 + 8, none⟩ = some (.string s.call.2.2.2.2.2.2) ∧ w'.cell? ⟨p2, o2 + j * 14 + 9, none⟩ = some (.int .i64 s.rep.why) ∧ w'.cell? ⟨p2, o2 + j * 14 + 10, none⟩ = some (.int .i64 s.rep.n) ∧ w'.cell? ⟨p2, o2 + j * 14 + 11, none⟩ = some (.slice s.rep.A s.rep.l s.rep.c) ∧ w'.cell? ⟨p2, o2 + j * 14 + 12, none⟩ = some (.int .i64 s.fr) ∧ w'.cell? ⟨p2, o2 + j * 14 + 13, none⟩ = some (.int .i64 s.to)) (go_keep)
        (first
          | (go_at_call 24; refine (HP.out _ HR.out).mono ?_; rintro e w2 ⟨rfl, hb⟩; have HB2 := Lib.hid (chain HB.out.drew hb); clear hb; obtain ⟨f0, f1, f2, f3, f4, f5, f6, f7, f8, f9, f10, f11, f12, f13⟩ := HUc.out _ HB2.out; obtain ⟨g0, g1, g2, g3, g4, g5, g6, g7, g8, g9, g10, g11, g12, g13⟩ := HVc.out _ HB2.out))
      go_wp2_with fail
      go_roundw
      case rel => exact ⟨j + 1, by omega, by go_num, HB2.out⟩
      case measure => simp [intOf]; omega
    · obtain rfl : j = l := by omega
      have hlt' : ¬ (j : Int) < (j : Int) := Int.lt_irrefl _
      go_wp2_with fail
      go_ret
      exact ⟨rfl, HB.out⟩
end Go.Proofs.Ytmbmmfdobkbbfaa
