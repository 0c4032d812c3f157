/- Layer 14: drops as values and cells; drops that came in; two drops compared; few. -/
import Derived.Test.YtmfjbmojejplgaaRec
import Derived.Test.YtmfjbmojejplgaaOpenT
import Derived.Test.YtmfjbmojejplgaaSetL
import Derived.Deep.Slices
import Derived.Laws.StructEq
namespace Go.Proofs.Ytmfjbmojejplgaa
set_option linter.unusedVariables false
set_option linter.unusedSimpArgs false
open Go.RowKit Go.Joins Go.ChangeShapes Go.WideShapes
set_option maxRecDepth 100000
/-- A drop: its degree, its number. -/
abbrev DrR := Int × Nat
abbrev drA (x : DrR) : Array Value := #[.int .i64 x.1, .int .u64 (x.2 : Int)]
def encD (x : DrR) : List Value := (drA x).toList
theorem encD_len (x : DrR) : (encD x).length = 2 := rfl
theorem encD_one (x : DrR) : ∀ u ∈ encD x, u.oneCell' = true := by
  intro u hu
  simp [encD] at hu
  rcases hu with rfl | rfl <;> rfl
abbrev Drs (w : World) (A : Option Addr) (l : Nat) (xs : List DrR) : Prop := Recs encD 2 w A l xs
abbrev drAt (xs : List DrR) (j : Nat) : DrR := xs.getD j default
theorem Drs.cells {w x : World} {A : Option Addr} {l : Nat} {xs : List DrR} (h : Drs w A l xs) (hb : Below w.heap.size w x) (j : Nat) (hj : j < l) : ∃ b off, A = some ⟨b, off, none⟩ ∧ b < w.heap.size ∧ x.cell? ⟨b, off + j * 2, none⟩ = some (.int .i64 (drAt xs j).1) ∧ x.cell? ⟨b, off + j * 2 + 1, none⟩ = some (.int .u64 ((drAt xs j).2 : Int)) := by
  obtain ⟨b, off, e, hlt, hc⟩ := Recs.at h j hj
  have hc := fun k v (hv : (encD (drAt xs j))[k]? = some v) => (hb.cell (p := ⟨b, off + j * 2 + k, none⟩) hlt).trans (hc k v hv)
  exact ⟨b, off, e, hlt, hc 0 _ rfl, hc 1 _ rfl⟩
theorem cellsDrO : Try.prog.cellsOf 24 = 2 := by kernel_rfl
theorem u64_natR {a : Int} (h : (Lit.int .u64 a).wf = true) : ∃ n : Nat, a = (n : Int) ∧ n < 18446744073709551616 := by
  have := bounds_u64 h
  exact ⟨a.toNat, by omega, by omega⟩
section
variable {H : Type} {enc : TypeId × Value → H} {W : World} {fuel : Nat} {cs : List Value} {x : DataW H × List MemPlace}
theorem open_dropL (hl : cs.length = 2) (h : DataW.trod enc Try.prog W 0 (fun _ => true) true fuel 24 cs = some x) : ∃ c : DrR, cs = encD c := by
  match cs, hl with
  | [v0, v1], _ =>
  obtain ⟨z0, z1, n', -, -, k0, k1⟩ := trod_struct2 Try.underlying24 h
  have ei : Try.prog.cellsOf 3 = 1 := by kernel_rfl
  have eu : Try.prog.cellsOf 22 = 1 := by kernel_rfl
  simp [ei, eu] at k0 k1
  obtain ⟨a0, e0, -, w0⟩ := DataW.trod_int Try.underlying3 k0
  obtain ⟨a1, e1, -, w1⟩ := DataW.trod_int Try.underlying22 k1
  obtain ⟨q1, rfl, -⟩ := u64_natR w1
  simp at e0 e1
  subst e0 e1
  exact ⟨(a0, q1), rfl⟩
/-- A slice of drops that came in. -/
theorem open_drops (h : DataW.trod enc Try.prog W 0 (fun _ => true) true fuel 25 cs = some x) : ∃ A l c xs, cs = [.slice A l c] ∧ SliceOk A l c ∧ Drs W A l xs := by
  rcases Go.Deep.open_slice Try.underlying25 h with ⟨hcs, _⟩ | ⟨a, len, cap, m, n, D, Pl, hcs, _, hl, hm, hmm, _, hx⟩
  · exact ⟨none, 0, 0, [], hcs, ⟨Nat.le_refl _, Nat.zero_le _, fun _ => ⟨rfl, rfl⟩⟩, Recs.nil _ _⟩
  · have hmm' : m = cap := by simpa using hmm
    have each : ∀ i, i < len → ∃ e : DrR, ∀ k v, (encD e)[k]? = some v → W.cell? ((a.add (i * 2)).add k) = some v := fun i hi => by
      obtain ⟨cs', h1, h2⟩ := hx i (by omega)
      rw [cellsDrO] at h1
      obtain ⟨-, hlen, hcell⟩ := World.cells?_some h1
      obtain ⟨e, rfl⟩ := open_dropL hlen h2
      refine ⟨e, fun k v hv => ?_⟩
      have hk : k < 2 := by have := (List.getElem?_eq_some_iff.1 hv).1; rwa [encD_len] at this
      rw [hcell k hk, hv]
    obtain ⟨q, hq⟩ := Go.Deep.choose_lt each
    have hg : ∀ j, j < len → ((List.range len).map q).getD j default = q j := fun j hj => by simp [List.getD, hj]
    refine ⟨some a, len, cap, (List.range len).map q, hcs, ⟨hl, hm, fun h => by cases h⟩, ⟨by simp, fun hp => ?_⟩⟩
    have h00 := hq 0 hp 0 _ rfl
    have haa : ∀ i k, (a.add i).add k = a.add (i + k) := fun i k => Go.Deep.add_add a i k
    rw [haa] at h00
    obtain ⟨b, o, ha⟩ : ∃ b o, a = ⟨b, o, none⟩ := addr_at (by simpa using h00)
    subst ha
    refine ⟨b, o, rfl, ?_, fun j hj k v hv => ?_⟩
    · have := block_lt_of_cell h00
      rw [addP] at this
      exact this
    · rw [hg j hj] at hv
      have := hq j hj k v hv
      rw [haa, addP] at this
      rwa [Nat.add_assoc]
end
/-- A drop that came in. -/
theorem open_drop {H : Type} {enc : TypeId × Value → H} {W : World} {r : Reach} {b0 : Nat} {v : Value} {d : DataW H} {p : List MemPlace}
    (hv : Value.okWide Try.prog W r b0 24 v) (h : DataW.Trod enc Try.prog W 0 (fun _ => true) true 24 v d p) : ∃ s : DrR, v = .agg (drA s) := by
  obtain ⟨cs, rfl, hsz⟩ := okWide_struct Try.underlying24 hv
  obtain ⟨L, rfl, hL⟩ : ∃ L : List Value, cs = L.toArray ∧ L.length = 2 := ⟨cs.toList, by simp, by have := hsz.trans cellsDrO; simpa using this⟩
  obtain ⟨fuel, hf⟩ := h
  have hf' : DataW.trod enc Try.prog W 0 (fun _ => true) true fuel 24 L = some (d, p) := by simpa [Value.cells] using hf
  obtain ⟨c, hc⟩ := open_dropL hL hf'
  exact ⟨c, by rw [hc]; rfl⟩
/-- Does a drop come ahead of another one? -/
def befD (a b : DrR) : Bool := decide (a.1 < b.1) || (decide (a.1 = b.1) && decide (a.2 < b.2))
def cmpI (x y : Int) : Int := if x < y then -1 else if y < x then 1 else 0
/-- How two drops compare. -/
def cmpD (a b : DrR) : Int := if cmpI a.1 b.1 ≠ 0 then cmpI a.1 b.1 else cmpI (a.2 : Int) (b.2 : Int)
theorem cmpI_lt (x y : Int) : cmpI x y < 0 ↔ x < y := by unfold cmpI; split <;> (try split) <;> constructor <;> intro h <;> omega
theorem cmpI_zero (x y : Int) : cmpI x y = 0 ↔ x = y := by unfold cmpI; split <;> (try split) <;> constructor <;> intro h <;> omega
theorem cmpD_lt (a b : DrR) : decide (cmpD a b < 0) = befD a b := by
  unfold cmpD befD
  by_cases h : a.1 = b.1
  · have h0 := (cmpI_zero a.1 b.1).2 h
    rw [if_neg (by simp [h0])]
    have h1 : ¬ a.1 < b.1 := by omega
    rw [decide_eq_false h1, decide_eq_true h, Bool.false_or, Bool.true_and]
    exact decide_eq_decide.2 ((cmpI_lt _ _).trans Int.ofNat_lt)
  · have h0 : cmpI a.1 b.1 ≠ 0 := fun e => h ((cmpI_zero _ _).1 e)
    rw [if_pos h0, decide_eq_false h, Bool.false_and, Bool.or_false]
    exact decide_eq_decide.2 (cmpI_lt _ _)
theorem befD_iff (a b : DrR) : befD a b = true ↔ a.1 < b.1 ∨ (a.1 = b.1 ∧ a.2 < b.2) := by
  unfold befD; simp
theorem befD_no (a b : DrR) : befD a b = false ↔ ¬ (a.1 < b.1 ∨ (a.1 = b.1 ∧ a.2 < b.2)) := by
  rw [← befD_iff]; simp
set_option maxHeartbeats 1000000 in
theorem cmpInt_any (x y : Int) (w : World) : Calls Try.prog 22 #[.int .i64 x, .int .i64 y] w fun e w' => e = .returned (.int .i64 (cmpI x y)) ∧ w' = w := by
  have tx : (x != x) = false := by simp
  have ty : (y != y) = false := by simp
  go_enter Try.func22, Try.ntmps22
  by_cases h1 : x < y
  · have HE := Lib.hid (show cmpI x y = -1 from if_pos h1)
    go_wp2
    go_ret
    exact ⟨by rw [HE.out]; rfl, rfl⟩
  · by_cases h2 : y < x
    · have HE := Lib.hid (show cmpI x y = 1 by unfold cmpI; rw [if_neg h1, if_pos h2])
      go_wp2
      go_ret
      exact ⟨by rw [HE.out]; rfl, rfl⟩
    · have HE := Lib.hid (show cmpI x y = 0 by unfold cmpI; rw [if_neg h1, if_neg h2])
      go_wp2
      go_ret
      exact ⟨by rw [HE.out]; rfl, rfl⟩
set_option maxHeartbeats 1000000 in
theorem cmpNat_any (x y : Nat) (w : World) : Calls Try.prog 23 #[.int .u64 (x : Int), .int .u64 (y : Int)] w fun e w' => e = .returned (.int .i64 (cmpI x y)) ∧ w' = w := by
  have tx : ((x : Int) != x) = false := by simp
  have ty : ((y : Int) != y) = false := by simp
  go_enter Try.func23, Try.ntmps23
  by_cases h1 : (x : Int) < y
  · have HE := Lib.hid (show cmpI x y = -1 from if_pos h1)
    go_wp2
    go_ret
    exact ⟨by rw [HE.out]; rfl, rfl⟩
  · by_cases h2 : (y : Int) < x
    · have HE := Lib.hid (show cmpI x y = 1 by unfold cmpI; rw [if_neg h1, if_pos h2])
      go_wp2
      go_ret
      exact ⟨by rw [HE.out]; rfl, rfl⟩
    · have HE := Lib.hid (show cmpI x y = 0 by unfold cmpI; rw [if_neg h1, if_neg h2])
      go_wp2
      go_ret
      exact ⟨by rw [HE.out]; rfl, rfl⟩
def orI (a b : Int) : Int := if a ≠ 0 then a else b
set_option maxHeartbeats 1000000 in
theorem cmpOr_any (a b : Int) (g c : Nat) (w : World) (h0 : w.cell? ⟨g, 0, none⟩ = some (.int .i64 a)) (h1 : w.cell? ⟨g, 1, none⟩ = some (.int .i64 b)) :
    Calls Try.prog 21 #[.slice (some ⟨g, 0, none⟩) 2 c] w fun e w' => e = .returned (.int .i64 (orI a b)) ∧ w' = w := by
  go_enter Try.func21, Try.ntmps21
  go_wp2
  go_loop [8] (fun i => i = .int .i64 0 ∨ (i = .int .i64 1 ∧ a = 0) ∨ (i = .int .i64 2 ∧ a = 0 ∧ b = 0)) (fun i => 2 - (intOf i).toNat)
  case atStart => exact .inl rfl
  case round =>
    rcases hrel with rfl | ⟨rfl, rfl⟩ | ⟨rfl, rfl, rfl⟩
    · by_cases ha : a = 0
      · subst ha
        go_wp2
        go_round
        case rel => exact .inr (.inl ⟨rfl, by trivial⟩)
        case measure => simp [intOf]
      · have ta : (a != 0) = true := by simp [ha]
        have HE := Lib.hid (show orI a b = a from if_pos ha)
        clear ha
        go_wp2
        go_ret
        exact ⟨by rw [HE.out]; rfl, rfl⟩
    · by_cases hb : b = 0
      · subst hb
        go_wp2
        go_round
        case rel => exact .inr (.inr ⟨rfl, by trivial, by trivial⟩)
        case measure => simp [intOf]
      · have tb : (b != 0) = true := by simp [hb]
        clear hb
        go_wp2
        go_ret
        exact ⟨rfl, rfl⟩
    · go_wp2
      go_ret
      exact ⟨rfl, rfl⟩
end Go.Proofs.Ytmfjbmojejplgaa
