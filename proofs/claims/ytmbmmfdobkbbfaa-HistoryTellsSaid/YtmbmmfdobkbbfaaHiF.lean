/- Layer 22: the reference's Open, Alone. -/
import Derived.Test.YtmbmmfdobkbbfaaHiE
namespace Go.Proofs.Ytmbmmfdobkbbfaa
set_option linter.unusedVariables false
set_option linter.unusedSimpArgs false
open Go.RowKit Go.Shelf
set_option maxRecDepth 100000
theorem Sps.grown_ne {w w' : World} {A : Option Addr} {l : Nat} {xs : List SpR} {row : Option Nat} (h : Sps w A l xs) (hg : w.grownBy w' row) (hb : ∀ b off, A = some ⟨b, off, none⟩ → row ≠ some b) (hr : ∀ j, RepOk w' (xs.getD j default).rep) : Sps w' A l xs := by
  refine ⟨⟨h.recs.1, fun hp => ?_⟩, hr⟩
  obtain ⟨b, off, e, hlt, hc⟩ := h.recs.2 hp
  refine ⟨b, off, e, Nat.lt_of_lt_of_le hlt hg.size, fun j hj k v hv => ?_⟩
  have e1 : w'.heap[b]? = w.heap[b]? := hg.block b hlt (Ne.symm (hb b off e))
  have := hc j hj k v hv
  rw [← this]
  simp only [World.cell?, e1]
theorem spansL_to (h : List EvR) (m j : Nat) (hj : j < (spansL h m).length) : (spG (spansL h m) j).to = -1 ∨ 0 ≤ (spG (spansL h m) j).to := by
  obtain ⟨e, h1, -⟩ := spansL_at h m j hj
  rw [e]
  rcases spanOf_to h ((begins h m).getD j 0) with h2 | h2
  · exact .inl h2
  · exact .inr (by omega)
/-- A row of numbers is returned. -/
def NumsOne (ys : List Nat) (w : World) (e : Ending) (w' : World) : Prop := ∃ A c, e = .returned (.slice A ys.length c) ∧ Ints w' A ys.length (natZ ys) ∧ Below w.heap.size w w'
set_option maxHeartbeats 4000000 in
theorem refOpen_any (A : Option Addr) (l cp : Nat) (h : List EvR) (w : World) (hH : Evs w A l h) (hlm : l ≤ 1000000) :
    Calls Try.prog 20 #[.slice A l cp] w (NumsOne (openL (spansL h l) (spansL h l).length) w) := by
  obtain ⟨i0, hi, hz0, hz1, hz2⟩ := info_parts int_infoH
  have HI := Lib.hid hi
  have HZ0 := Lib.hid hz0
  have HZ1 := Lib.hid hz1
  have HZ2 := Lib.hid hz2
  have hW : Below w.heap.size w (w.alloc (.cells #[] 3)) := (Below.refl _ _).alloc (Nat.le_refl _) _
  have HR := Lib.hid (refSpans_any A l cp h _ (hH.below hW) hlm)
  have HH := Lib.hid hH
  have HLn := Lib.hid (spansL_len h l)
  have HT := Lib.hid (spansL_to h l)
  have HRp := Lib.hid (fun (w' : World) (hw : Evs w' A l h) => spansL_rep hw l)
  have HOw := Lib.hid (own_empty w w.heap.size 3 (Nat.le_refl _))
  have HW := Lib.hid hW
  clear hH hi hz0 hz1 hz2 hW
  generalize spansL h l = ss at *
  go_enter Try.func20, Try.ntmps20
  go_wp2_with fail
  refine HR.out.mono ?_
  rintro e w2 ⟨A1, c1, rfl, q0, q1, hb⟩
  have HO2 := Lib.hid (own_keep HOw.out hb)
  have HB0 := Lib.hid (HW.out.trans (hb.mono HW.out.size))
  have HS0 := Lib.hid q1
  have hn := HLn.out
  have HFr := Lib.hid (show ∀ b off, A1 = some ⟨b, off, none⟩ → w.heap.size < b from fun b off e => by have := q0 b off e; rw [World.size_alloc] at this; omega)
  have HLt := Lib.hid (show 0 < ss.length → ∃ b off, A1 = some ⟨b, off, none⟩ ∧ b < w2.heap.size from fun hp => by
    obtain ⟨b, off, e, hlt, -⟩ := q1.recs.2 hp
    exact ⟨b, off, e, hlt⟩)
  have hsz : w.heap.size < w2.heap.size := by have := hb.size; rw [World.size_alloc] at this; omega
  generalize hnn : ss.length = n at *
  have HN := Lib.hid hnn
  clear hb HR q0 q1 hnn HOw HW
  go_wp2_with fail
  go_loopw [3, 10] (fun v t wr => ∃ i : Nat, i ≤ n ∧ t = .int .i64 (i : Int) ∧ wr.ownsRow w.heap.size 3 1 v (openL ss i).length ((openL ss i).map natV) ∧ (∀ g, v.ownBlock = some g → g = w.heap.size ∨ w2.heap.size ≤ g) ∧ Sps wr A1 n ss ∧ w2.heap.size ≤ wr.heap.size ∧ Below w.heap.size w wr) (fun _ t _ => n - (intOf t).toNat)
  case atStart => exact ⟨0, Nat.zero_le _, rfl, HO2.out, fun g hg => by injection hg with hg; exact .inl hg.symm, HS0.out, Nat.le_refl _, HB0.out⟩
  case round =>
    clear HO2 HS0 HB0
    obtain ⟨i, hi, rfl, hown, hloc, hsp, hws, hbel⟩ := hrel
    have HO := Lib.hid hown
    have HC := Lib.hid hbel
    have HLo := Lib.hid hloc
    have HSp := Lib.hid hsp
    have HWs := Lib.hid hws
    clear hown hbel hloc hsp hws
    by_cases hlt : i < n
    · have hlt' : (i : Int) < (n : Int) := Int.ofNat_lt.2 hlt
      have HD := Lib.hid (fun (g : Nat) (hg : g = w.heap.size ∨ w2.heap.size ≤ g) (b off : Nat) (e : A1 = some ⟨b, off, none⟩) => show g ≠ b by
        have h1 := HFr.out b off e
        obtain ⟨b', off', e', h2⟩ := HLt.out (by omega)
        rw [e] at e'; injection e' with e'; injection e' with e1 _; omega)
      obtain ⟨b, off, rfl, hlb, d0, d1, d2, d3, d4, d5, d6, d7, d8, d9, d10, d11, d12, d13⟩ := HSp.out.cells (Below.refl _ _) i hlt
      have HSy := Lib.hid (openL_yes ss i)
      have HSn := Lib.hid (openL_no ss i)
      have hsl := openL_len ss i
      have G := Lib.hid (Box.new wr 41 (spA (spG ss i)))
      have c1 := Lib.hid (show Below wr.heap.size wr (wr.alloc (.cells (spA (spG ss i)) 41)) from (Below.refl _ _).alloc (Nat.le_refl _) _)
      have c2 := Lib.hid (show Below wr.heap.size wr ((wr.alloc (.cells (spA (spG ss i)) 41)).alloc (.cells #[.int .i64 (i : Int)] 3)) from c1.out.alloc c1.out.size _)
      have YO := Lib.hid (own_keep HO.out c1.out)
      have YB := Lib.hid (HC.out.trans (c1.out.mono HC.out.size))
      have YS := Lib.hid (HSp.out.below c1.out)
      have YW := Lib.hid (show w2.heap.size ≤ (wr.alloc (.cells (spA (spG ss i)) 41)).heap.size from Nat.le_trans HWs.out c1.out.size)
      have XO := Lib.hid (own_keep HO.out c2.out)
      have XB := Lib.hid (HC.out.trans (c2.out.mono HC.out.size))
      have XS := Lib.hid (HSp.out.below c2.out)
      have XW := Lib.hid (show w2.heap.size ≤ ((wr.alloc (.cells (spA (spG ss i)) 41)).alloc (.cells #[.int .i64 (i : Int)] 3)).heap.size from Nat.le_trans HWs.out c2.out.size)
      have N2 := Lib.hid (fun g hg => (HO.out.lt g hg).1)
      have NW := Lib.hid (show ∀ j u, ([Value.int .i64 (i : Int)])[j]? = some u → ((wr.alloc (.cells (spA (spG ss i)) 41)).alloc (.cells #[.int .i64 (i : Int)] 3)).cell? ((⟨wr.heap.size + 1, 0, none⟩ : Addr).add j) = some u from by
        have := World.news_of_block (Box.new (wr.alloc (.cells (spA (spG ss i)) 41)) 3 #[.int .i64 (i : Int)])
        rw [World.size_alloc] at this
        exact this)
      obtain ⟨-, -, -, -, -, -, -, -, -, -, -, -, g12, g13⟩ := G.out.sp
      have hto := HT.out i hlt
      generalize spG ss i = s at *
      clear G c1 c2
      by_cases h1 : s.to = -1
      · have t1 : s.to < 0 := by omega
        have HS := Lib.hid (HSy.out h1)
        clear h1 HSy HSn hto
        go_wp2_with (at_builtin; refine wpList_append_own_at _ rfl _ _ 44 rfl w.heap.size 3 i0 (.int .i64 0) 1 8 Try.underlying44 HI.out HZ0.out HZ1.out HZ2.out rfl (by decide) _ _ _ rfl XO.out ⟨wr.heap.size + 1, 0, none⟩ 1 1 [.int .i64 (i : Int)] rfl rfl NW.out (by simp [Value.oneCell']) (by simp [maxLen]; omega) (by omega) XB.out.size ?_; intro v' w3 hown' hgrow _ hat; have HC2 := Lib.hid (XB.out.grown hgrow XB.out.size N2.out); have HO2 := Lib.hid hown'; have HS2 := Lib.hid (XS.out.grown_ne hgrow (fun b' off' e hg => HD.out b' (HLo.out b' hg) b' off' e rfl) (HRp.out _ (HH.out.below HC2.out))); have HL2 := Lib.hid (show ∀ g, v'.ownBlock = some g → g = w.heap.size ∨ w2.heap.size ≤ g from fun g hg => hat.elim (fun e => HLo.out g (e ▸ hg)) (fun e => by rw [e] at hg; injection hg with hg; exact .inr (hg ▸ XW.out))); have HW2 := Lib.hid (Nat.le_trans XW.out hgrow.size); clear hown' hgrow hat)
        go_roundw
        case rel =>
          refine ⟨i + 1, hlt, by go_num, ?_, HL2.out, HS2.out, HW2.out, HC2.out⟩
          rw [HS.out, List.length_append, List.map_append]
          exact HO2.out
        case measure => simp [intOf] <;> omega
      · have t1 : ¬ s.to < 0 := by omega
        have HS := Lib.hid (HSn.out h1)
        clear h1 HSy HSn hto
        go_wp2_with fail
        go_roundw
        case rel => exact ⟨i + 1, hlt, by go_num, by rw [HS.out]; exact YO.out, HLo.out, YS.out, YW.out, YB.out⟩
        case measure => simp [intOf] <;> omega
    · obtain rfl : i = n := Nat.le_antisymm hi (Nat.le_of_not_lt hlt)
      have hlt' : ¬ (i : Int) < (i : Int) := Int.lt_irrefl _
      obtain ⟨A7, c7, hv, hnil⟩ := own_form HO.out
      subst hv
      have HX := Lib.hid (own_nats HO.out (fun x hx => by have := openL_le ss i x hx; omega))
      go_wp2_with fail
      go_ret
      exact ⟨A7, c7, rfl, HX.out, HC.out⟩
end Go.Proofs.Ytmbmmfdobkbbfaa
