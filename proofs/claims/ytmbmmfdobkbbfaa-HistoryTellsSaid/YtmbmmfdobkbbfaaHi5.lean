/- Layer 22: history.Right. -/
import Derived.Test.YtmbmmfdobkbbfaaHi4
namespace Go.Proofs.Ytmbmmfdobkbbfaa
set_option linter.unusedVariables false
set_option linter.unusedSimpArgs false
open Go.RowKit Go.Shelf
set_option maxRecDepth 100000
/-- An event's cells from a place on. -/
def EvAt (x : World) (b o : Nat) (e : EvR) : Prop := x.cell? ⟨b, o, none⟩ = some (.int .i64 e.c) ∧ x.cell? ⟨b, o + 1, none⟩ = some (.int .i64 e.b) ∧ x.cell? ⟨b, o + 2, none⟩ = some (.int .i64 e.n) ∧ x.cell? ⟨b, o + 3, none⟩ = some (.int .i64 e.call.1) ∧ x.cell? ⟨b, o + 4, none⟩ = some (.int .u64 (e.call.2.1 : Nat)) ∧ x.cell? ⟨b, o + 5, none⟩ = some (.int .i64 e.call.2.2.1) ∧ x.cell? ⟨b, o + 6, none⟩ = some (.int .i64 e.call.2.2.2.1) ∧ x.cell? ⟨b, o + 7, none⟩ = some (.int .i64 e.call.2.2.2.2.1) ∧ x.cell? ⟨b, o + 8, none⟩ = some (.int .u64 (e.call.2.2.2.2.2.1 : Nat)) ∧ x.cell? ⟨b, o + 9, none⟩ = some (.string e.call.2.2.2.2.2.2) ∧ x.cell? ⟨b, o + 10, none⟩ = some (.int .i64 e.rep.why) ∧ x.cell? ⟨b, o + 11, none⟩ = some (.int .i64 e.rep.n) ∧ x.cell? ⟨b, o + 12, none⟩ = some (.slice e.rep.A e.rep.l e.rep.c)
theorem Evs.cells {w x : World} {A : Option Addr} {l : Nat} {xs : List EvR} (h : Evs w A l xs) (hb : Below w.heap.size w x) (j : Nat) (hj : j < l) : ∃ b off, A = some ⟨b, off, none⟩ ∧ b < w.heap.size ∧ EvAt x b (off + j * 13) (evAt xs j) := by
  obtain ⟨b, off, e, hlt, hc⟩ := h.at13 j hj
  have hc := fun k v (hv : (evA (evAt xs j)).toList[k]? = some v) => (hb.cell (p := ⟨b, off + j * 13 + k, none⟩) hlt).trans (hc k v hv)
  exact ⟨b, off, e, hlt, hc 0 _ rfl, hc 1 _ rfl, hc 2 _ rfl, hc 3 _ rfl, hc 4 _ rfl, hc 5 _ rfl, hc 6 _ rfl, hc 7 _ rfl, hc 8 _ rfl, hc 9 _ rfl, hc 10 _ rfl, hc 11 _ rfl, hc 12 _ rfl⟩
theorem Box.ev {w : World} {g : Nat} {t : TypeId} {e : EvR} (h : Box w g t (evA e)) : w.cell? ⟨g, 0, none⟩ = some (.int .i64 e.c) ∧ w.cell? ⟨g, 1, none⟩ = some (.int .i64 e.b) ∧ w.cell? ⟨g, 2, none⟩ = some (.int .i64 e.n) ∧ w.cell? ⟨g, 3, none⟩ = some (.int .i64 e.call.1) ∧ w.cell? ⟨g, 4, none⟩ = some (.int .u64 (e.call.2.1 : Nat)) ∧ w.cell? ⟨g, 5, none⟩ = some (.int .i64 e.call.2.2.1) ∧ w.cell? ⟨g, 6, none⟩ = some (.int .i64 e.call.2.2.2.1) ∧ w.cell? ⟨g, 7, none⟩ = some (.int .i64 e.call.2.2.2.2.1) ∧ w.cell? ⟨g, 8, none⟩ = some (.int .u64 (e.call.2.2.2.2.2.1 : Nat)) ∧ w.cell? ⟨g, 9, none⟩ = some (.string e.call.2.2.2.2.2.2) ∧ w.cell? ⟨g, 10, none⟩ = some (.int .i64 e.rep.why) ∧ w.cell? ⟨g, 11, none⟩ = some (.int .i64 e.rep.n) ∧ w.cell? ⟨g, 12, none⟩ = some (.slice e.rep.A e.rep.l e.rep.c) :=
  ⟨h.cell 0, h.cell 1, h.cell 2, h.cell 3, h.cell 4, h.cell 5, h.cell 6, h.cell 7, h.cell 8, h.cell 9, h.cell 10, h.cell 11, h.cell 12⟩
/-- Do all clients have a number? -/
def clientsB (h : List EvR) : Bool := h.all fun e => decide (0 ≤ e.c) && decide (e.c ≤ 3)
theorem clientsB_snoc (h : List EvR) (k : Nat) (hk : k < h.length) : clientsB (h.take (k + 1)) = (clientsB (h.take k) && (decide (0 ≤ (evAt h k).c) && decide ((evAt h k).c ≤ 3))) := by
  unfold clientsB; rw [take_snocD h k hk, List.all_append]; simp
theorem clientsB_up (h : List EvR) (k : Nat) (hk : clientsB (h.take k) = false) : clientsB h = false := by
  cases hh : clientsB h with
  | false => rfl
  | true =>
    unfold clientsB at hh hk
    rw [List.all_eq_true] at hh
    have : (h.take k).all (fun e => decide (0 ≤ e.c) && decide (e.c ≤ 3)) = true := List.all_eq_true.2 fun e he => hh e (List.mem_of_mem_take he)
    rw [this] at hk; cases hk
def clientB (h : List EvR) (c : Nat) : Bool := okL h (ixs h (c : Int) 0 h.length)
def allC (h : List EvR) (k : Nat) : Bool := (List.range k).all (clientB h)
/-- May a history be? -/
def rightH (h : List EvR) : Bool := decide (h.length ≤ 48) && clientsB h && allC h 4
theorem allC_succ (h : List EvR) (k : Nat) : allC h (k + 1) = (allC h k && clientB h k) := by unfold allC; rw [List.range_succ, List.all_append]; simp
theorem allC_up (h : List EvR) {k m : Nat} (hkm : k ≤ m) (hk : allC h k = false) : allC h m = false := by
  obtain ⟨d, rfl⟩ := Nat.le.dest hkm
  unfold allC at *
  rw [List.range_add, List.all_append, hk]; rfl
set_option maxHeartbeats 4000000 in
theorem hright_any (A : Option Addr) (l cp : Nat) (h : List EvR) (w : World) (hH : Evs w A l h) (hl : l ≤ maxLen) (hlm : l ≤ 1000000) :
    Calls Try.prog 9 #[.slice A l cp] w fun e w' => e = .returned (.bool (rightH h)) ∧ Below w.heap.size w w' := by
  have HH := Lib.hid hH
  have HL := Lib.hid hH.len
  clear hH hl
  go_enter Try.func9, Try.ntmps9
  by_cases h48 : l ≤ 48
  · have t1 : ¬ (48 : Int) < l := by omega
    have HD := Lib.hid (show rightH h = (clientsB h && allC h 4) by unfold rightH; rw [HL.out, decide_eq_true h48]; rfl)
    go_wp2_with fail
    go_loopw [11] (fun t wr => ∃ i : Nat, i ≤ l ∧ t = .int .i64 (i : Int) ∧ Hid (clientsB (h.take i) = true) ∧ Hid (Below w.heap.size w wr)) (fun t _ => l - (intOf t).toNat)
    case atStart => exact ⟨0, Nat.zero_le _, rfl, Lib.hid rfl, Lib.hid (Below.refl _ _)⟩
    case round =>
      obtain ⟨i, hi, rfl, HS, HB⟩ := hrel
      by_cases hlt : i < l
      · have hlt' : (i : Int) < (l : Int) := Int.ofNat_lt.2 hlt
        obtain ⟨b, off, rfl, hlb, d0, d1, d2, d3, d4, d5, d6, d7, d8, d9, d10, d11, d12⟩ := HH.out.cells HB.out i hlt
        have HN := Lib.hid (clientsB_snoc h i (by rw [HL.out]; exact hlt))
        have HU := Lib.hid (clientsB_up h (i + 1))
        have G := Lib.hid (Box.new wr 53 (evA (evAt h i)))
        have HB := Lib.hid (HB.out.alloc HB.out.size (.cells (evA (evAt h i)) 53))
        obtain ⟨g0, -⟩ := G.out.ev
        generalize evAt h i = e at *
        by_cases e0 : 0 ≤ e.c
        · have e0' : ¬ e.c < 0 := by omega
          by_cases e3 : e.c ≤ 3
          · have e3' : ¬ (4 : Int) ≤ e.c := by omega
            have HN2 := Lib.hid (show clientsB (h.take (i + 1)) = true by rw [HN.out, HS.out]; simp [e0, e3])
            go_wp2_with fail
            go_roundw
            case rel => exact ⟨i + 1, hlt, by go_num, HN2, HB⟩
            case measure => simp [intOf] <;> omega
          · have e3' : (4 : Int) ≤ e.c := by omega
            have HE := Lib.hid (show rightH h = false by rw [HD.out, HU.out (by rw [HN.out]; simp [e3])]; rfl)
            go_wp2_with fail
            go_ret
            exact ⟨by rw [HE.out]; rfl, HB.out⟩
        · have e0' : e.c < 0 := by omega
          have HE := Lib.hid (show rightH h = false by rw [HD.out, HU.out (by rw [HN.out]; simp [e0])]; rfl)
          go_wp2_with fail
          go_ret
          exact ⟨by rw [HE.out]; rfl, HB.out⟩
      · obtain rfl : i = l := Nat.le_antisymm hi (Nat.le_of_not_lt hlt)
        have hlt' : ¬ (i : Int) < (i : Int) := Int.lt_irrefl _
        have HD2 := Lib.hid (show rightH h = allC h 4 by have := HS.out; rw [List.take_of_length_le (by rw [HL.out]; exact Nat.le_refl _)] at this; rw [HD.out, this]; rfl)
        clear HD HS
        go_wp2_with fail
        go_loopw [24] (fun t wr => ∃ k : Nat, k ≤ 4 ∧ t = .int .i64 (k : Int) ∧ Hid (allC h k = true) ∧ Hid (Below w.heap.size w wr)) (fun t _ => 4 - (intOf t).toNat)
        case atStart => exact ⟨0, Nat.zero_le _, rfl, Lib.hid rfl, HB⟩
        case round =>
          obtain ⟨k, hk, rfl, HS, HB⟩ := hrel
          by_cases hk4 : k < 4
          · have hk4' : (k : Int) < 4 := by omega
            have HC := Lib.hid (fun (w' : World) (hw : Evs w' A i h) => callsIn_wide.1 (client_in A i cp (k : Int) h hlm w' hw))
            have HN := Lib.hid (show allC h (k + 1) = okL h (ixs h (k : Int) 0 i) by rw [allC_succ, HS.out, clientB, HL.out]; rfl)
            have HU := Lib.hid (fun hf => allC_up h (show k + 1 ≤ 4 from hk4) hf)
            go_wp2_with fail
            refine (HC.out _ (HH.out.below HB.out)).mono ?_
            rintro e w2 ⟨rfl, hb⟩
            have HB := Lib.hid (chain HB.out hb)
            clear hb HC
            cases ho : okL h (ixs h (k : Int) 0 i) with
            | true =>
              rw [ho] at HN
              go_wp2_with fail
              go_roundw
              case rel => exact ⟨k + 1, hk4, by go_num, HN, HB⟩
              case measure => simp [intOf] <;> omega
            | false =>
              rw [ho] at HN
              have HE := Lib.hid (HU.out HN.out)
              go_wp2_with fail
              go_ret
              exact ⟨by rw [HD2.out, HE.out]; rfl, HB.out⟩
          · obtain rfl : k = 4 := by omega
            go_wp2_with fail
            go_ret
            exact ⟨by rw [HD2.out, HS.out]; rfl, HB.out⟩
  · have t1 : (48 : Int) < l := by omega
    have HE := Lib.hid (show rightH h = false by unfold rightH; rw [HL.out, decide_eq_false h48]; rfl)
    go_wp2_with fail
    go_ret
    exact ⟨by rw [HE.out]; rfl, Below.refl _ _⟩
end Go.Proofs.Ytmbmmfdobkbbfaa
