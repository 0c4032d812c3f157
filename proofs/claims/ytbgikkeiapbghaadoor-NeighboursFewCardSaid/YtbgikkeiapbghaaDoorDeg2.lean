/- Contracts of layer 7: tableMayBe, Pick, the law's alive. -/
import Derived.Test.YtbgikkeiapbghaaDoorDeg1
namespace Go.Proofs.YtbgikkeiapbghaaDoor
open Go.RowKit
def lastOf (ws : List Nat) (k : Nat) : Nat := if k = 0 then 0 else ws.getD (k - 1) 0
theorem lastOf_succ (ws : List Nat) (k : Nat) : lastOf ws (k + 1) = ws.getD k 0 := by simp [lastOf]
theorem rises_no (ws : List Nat) (k : Nat) (hk : k < ws.length) (h : ws.getD k 0 ≤ lastOf ws k) : risesFrom 0 ws = false := by
  refine rises_stop ws (k + 1) (by omega) ?_
  rw [rises_take ws 0 k hk]
  have : ¬ ((if k = 0 then 0 else ws.getD (k - 1) 0) < ws.getD k 0) := by unfold lastOf at h; omega
  simp only [this, decide_false, Bool.and_false]
theorem rises_go (ws : List Nat) (k : Nat) (hk : k < ws.length) (h : ¬ ws.getD k 0 ≤ lastOf ws k) (ht : risesFrom 0 (ws.take k) = true) : risesFrom 0 (ws.take (k + 1)) = true := by
  rw [rises_take ws 0 k hk, ht]
  have : ((if k = 0 then 0 else ws.getD (k - 1) 0) < ws.getD k 0) := by unfold lastOf at h; omega
  simp only [this, decide_true, Bool.and_self]
set_option maxHeartbeats 1000000 in
theorem table_any (A : Option Addr) (l c : Nat) (ws : List Nat) (w : World) (hw : Words w A l ws) (hl : l ≤ maxLen) :
    Calls Tryd.prog 29 #[.slice A l c] w fun e w' => e = .returned (.bool (tabB ws)) ∧ w = w' := by
  unfold maxLen at hl
  have hlen := hw.1
  by_cases h0 : l = 0
  · have e : tabB ws = false := by simp [tabB, hlen, h0]
    rw [e]; subst h0
    clear e hlen hw
    go_enter Tryd.func29, Tryd.ntmps29
    go_wp2
    go_ret
    exact ⟨rfl, rfl⟩
  · by_cases h64 : 64 < l
    · have e : tabB ws = false := by simp [tabB, hlen]; omega
      rw [e]
      clear e hlen hw
      have t1 : ((l : Int) == 0) = false := by simpa using h0
      have t2 : (64 : Int) < l := by omega
      go_enter Tryd.func29, Tryd.ntmps29
      go_wp2
      go_ret
      exact ⟨rfl, rfl⟩
    · have e : tabB ws = risesFrom 0 ws := by simp [tabB, hlen, show 1 ≤ l by omega, show l ≤ 64 by omega]
      rw [e]
      clear e
      have t1 : ((l : Int) == 0) = false := by simpa using h0
      have t2 : ¬ (64 : Int) < l := by omega
      have HL := Lib.hid hlen
      have HW := Lib.hid hw
      clear hlen hw
      go_enter Tryd.func29, Tryd.ntmps29
      go_wp2_with fail
      go_loop [3, 16] (fun v i => ∃ k : Nat, k ≤ l ∧ i = .int .i64 k ∧ v = .int .u64 (lastOf ws k : Nat) ∧ Hid (risesFrom 0 (ws.take k) = true)) (fun _ i => l - (intOf i).toNat)
      case atStart => exact ⟨0, by omega, rfl, rfl, Lib.hid (by simp [risesFrom])⟩
      case round =>
        obtain ⟨k, hk, rfl, rfl, HN⟩ := hrel
        by_cases hlt : k < l
        · have hkl' : (k : Int) < (l : Int) := by omega
          obtain ⟨b, off, rfl, hb, hc⟩ := HW.out.2.2 (by omega)
          have c1 := hc k hlt
          clear hc
          have HS := Lib.hid (lastOf_succ ws k)
          by_cases hx : ws.getD k 0 ≤ lastOf ws k
          · have HE := Lib.hid (rises_no ws k (by rw [HL.out]; exact hlt) hx)
            generalize ws.getD k 0 = x at *
            generalize lastOf ws k = y at *
            have t : (x : Int) ≤ (y : Int) := by omega
            go_wp2
            go_ret
            exact ⟨by rw [HE.out]; rfl, rfl⟩
          · have HE := Lib.hid (rises_go ws k (by rw [HL.out]; exact hlt) hx HN.out)
            generalize ws.getD k 0 = x at *
            generalize lastOf ws k = y at *
            have t : ¬ (x : Int) ≤ (y : Int) := by omega
            go_wp2
            go_round
            case rel => exact ⟨k + 1, by omega, by go_num, by rw [HS.out], HE⟩
            case measure => simp [intOf] <;> omega
        · obtain rfl : l = k := by omega
          have hkl' : ¬ (l : Int) < (l : Int) := by omega
          have HE := Lib.hid (show risesFrom 0 ws = true by have := HN.out; rwa [List.take_of_length_le (by rw [HL.out]; omega)] at this)
          go_wp2
          go_ret
          exact ⟨by rw [HE.out]; rfl, rfl⟩
/-- The degree that a number picks of a table. -/
def pickD (ws : List Nat) (n : Nat) : Nat := pickN ws (n % ws.getD (ws.length - 1) 0) + 1
theorem pick_no (A : Option Addr) (l c : Nat) (ws : List Nat) (n : Nat) (w : World) (hw : Words w A l ws) (hl : l ≤ maxLen) (ht : tabB ws = false) :
    Calls Tryd.prog 19 #[.slice A l c, .int .u64 n] w fun e w' => e = .returned (.tuple #[.int .i64 0, .int .i64 1]) ∧ Below w.heap.size w w' := by
  have H := Lib.hid (table_any A l c ws _ ((hw.alloc (.cells #[.slice A l c] 27)).alloc (.cells #[.int .u64 n] 22)) hl)
  rw [ht] at H
  clear hw ht
  go_enter Tryd.func19, Tryd.ntmps19
  go_wp2_with fail
  refine H.out.mono ?_
  rintro e w1 ⟨rfl, rfl⟩
  go_wp2_with fail
  go_ret2
  exact ⟨rfl, ((Below.refl _ _).alloc (Nat.le_refl _) _).alloc (by simp) _⟩
theorem tab_at {ws : List Nat} (h : tabB ws = true) : 1 ≤ ws.length ∧ ws.length ≤ 64 ∧ risesFrom 0 ws = true := by
  simp only [tabB, Bool.and_eq_true, decide_eq_true_eq] at h
  exact ⟨h.1.1, h.1.2, h.2⟩
theorem pickF_any (bt bn b off l c n i : Nat) (x : Nat) (W : World) (hi : i < l) (hl : l ≤ 64) (hlc : l ≤ c) (ht : W.cell? ⟨bt, 0, none⟩ = some (.slice (some ⟨b, off, none⟩) l c)) (hn : W.cell? ⟨bn, 0, none⟩ = some (.int .u64 n)) (hc : W.cell? ⟨b, off + i, none⟩ = some (.int .u64 x)) :
    Calls Tryd.prog 31 (#[.int .i64 i] ++ #[.pointer (some ⟨bt, 0, none⟩), .pointer (some ⟨bn, 0, none⟩)]) W fun e w' => e = .returned (.bool (decide (n < x))) ∧ ∃ q, w' = W.drewN q := by
  have e : decide (n < x) = decide ((n : Int) < (x : Int)) := decide_eq_decide.2 (by omega)
  have hiz : (i : Int) < (l : Int) := by omega
  rw [e]
  go_enter Tryd.func31, Tryd.ntmps31
  go_wp2
  go_region
  all_goals go_wp2
  all_goals go_ret
  all_goals exact ⟨by first | rfl | simp, 1, rfl⟩
theorem pickS_any (g1 g2 b off l c r : Nat) (ws : List Nat) (W : World) (t1 t2 : TypeId) (bt : Box W g1 t1 #[.slice (some ⟨b, off, none⟩) l c]) (bn : Box W g2 t2 #[.int .u64 (r : Int)]) (hb : b < W.heap.size)
    (hc : ∀ j, j < l → W.cell? ⟨b, off + j, none⟩ = some (.int .u64 (ws.getD j 0 : Nat))) (hl : ws.length = l) (h64 : l ≤ 64) (hlc : l ≤ c) (hm : ∀ a b, a ≤ b → b < ws.length → ws.getD a 0 ≤ ws.getD b 0) :
    Calls Tryd.prog 30 #[.int .i64 l, .func (.func 31) #[] #[.pointer (some ⟨g1, 0, none⟩), .pointer (some ⟨g2, 0, none⟩)]] W fun e w' => e = .returned (.int .i64 (pickN ws r : Nat)) ∧ Below W.heap.size W w' := by
  have eg : ∀ args w, (callFunc 31 args).run Tryd.prog w = .ok (.enter 31 args) w := enters_of Tryd.func31 (by kernel_rfl) rfl
  have hf : Asks Tryd.prog 31 #[.pointer (some ⟨g1, 0, none⟩), .pointer (some ⟨g2, 0, none⟩)] l (fun i => decide (r < ws.getD i 0)) W := fun W' i hi hb2 =>
    (pickF_any g1 g2 b off l c r i (ws.getD i 0) W' hi h64 hlc ((bt.keep hb2).cell 0) ((bn.keep hb2).cell 0) ((hb2.cell (p := ⟨b, off + i, none⟩) hb).trans (hc i hi))).mono fun _ _ ⟨he, q, hq⟩ => ⟨he, by rw [hq]; exact bdN hb2 q⟩
  have hS := search_any 31 _ l _ W eg (by omega) hf (fun a b hab hbl h => by
    have := hm a b hab (by omega)
    have h' : r < ws.getD a 0 := of_decide_eq_true h
    exact decide_eq_true (by omega))
  have e : (List.range l).countP (fun i => !decide (r < ws.getD i 0)) = pickN ws r := by rw [pickN, hl]
  rw [e] at hS
  exact hS
theorem pickN_le (ws : List Nat) (n : Nat) : pickN ws n ≤ ws.length := by
  have := List.countP_le_length (p := fun i => !decide (n < ws.getD i 0)) (l := List.range ws.length)
  simpa [pickN] using this
theorem last_pos {ws : List Nat} (h : tabB ws = true) : 0 < ws.getD (ws.length - 1) 0 := by
  obtain ⟨h1, _, h3⟩ := tab_at h
  exact (rises_at ws 0 (ws.length - 1) h3 (by omega)).1
set_option maxHeartbeats 1000000 in
theorem pick_yes (A : Option Addr) (l c : Nat) (ws : List Nat) (n : Nat) (w : World) (hw : Words w A l ws) (hl : l ≤ maxLen) (hlc : l ≤ c) (hn : n < 18446744073709551616) (ht : tabB ws = true) :
    Calls Tryd.prog 19 #[.slice A l c, .int .u64 n] w fun e w' => e = .returned (.tuple #[.int .i64 (pickD ws n : Nat), .int .i64 0]) ∧ Below w.heap.size w w' := by
  obtain ⟨h1, h64, hr⟩ := tab_at ht
  have hp := last_pos ht
  have H := Lib.hid (table_any A l c ws _ ((hw.alloc (.cells #[.slice A l c] 27)).alloc (.cells #[.int .u64 n] 22)) hl)
  rw [ht] at H
  have hlen := hw.1
  rw [hlen] at h1 h64 hp
  have hlt := hw.2.1 (l - 1)
  obtain ⟨b, off, rfl, hb, hc⟩ := hw.2.2 h1
  have c1 : ((w.alloc (.cells #[.slice (some ⟨b, off, none⟩) l c] 27)).alloc (.cells #[.int .u64 n] 22)).cell? ⟨b, off + (l - 1), none⟩ = some (.int .u64 (ws.getD (l - 1) 0 : Nat)) :=
    ((((Below.refl w.heap.size w).alloc (Nat.le_refl _) _).alloc (by simp) _).cell (p := ⟨b, off + (l - 1), none⟩) hb).trans (hc (l - 1) (by omega))
  have B1 : Below w.heap.size w ((w.alloc (.cells #[.slice (some ⟨b, off, none⟩) l c] 27)).alloc (.cells #[.int .u64 n] 22)) := ((Below.refl w.heap.size w).alloc (Nat.le_refl _) _).alloc (by simp) _
  have bt := (Box.new w 27 #[.slice (some ⟨b, off, none⟩) l c]).alloc (.cells #[.int .u64 n] 22)
  have bn := Box.new (w.alloc (.cells #[.slice (some ⟨b, off, none⟩) l c] 27)) 22 #[.int .u64 n]
  simp only [World.size_alloc] at bn
  have HM := Lib.hid (rises_mono ws hr)
  have HC := Lib.hid hc
  have HB := Lib.hid hb
  have HL := Lib.hid hlen
  clear hw hc hb hlen ht hr
  go_enter Tryd.func19, Tryd.ntmps19
  go_wp2_with fail
  refine H.out.mono ?_
  rintro e w1 ⟨rfl, rfl⟩
  clear H
  go_wp2_with fail
  generalize (w.alloc (.cells #[.slice (some ⟨b, off, none⟩) l c] 27)).alloc (.cells #[.int .u64 n] 22) = W1 at *
  have k1 := bt.cell 0
  have k2 := bn.cell 0
  have k3 := bn.free 0
  have g1 : (1 : Int) ≤ l := by omega
  have g2 : (l : Int) ≤ 64 := by omega
  have g3 : ((l : Int) - 1).toNat = l - 1 := by omega
  have HX := Lib.hid (show ws.getD (l - 1) 0 = ws.getD (ws.length - 1) 0 by rw [HL.out])
  have HT := Lib.hid bt
  have HN := Lib.hid bn
  have BB := Lib.hid B1
  clear bt bn B1
  generalize ws.getD (l - 1) 0 = x at *
  have g4 : (0 : Int) < x := by omega
  have g5 : (x : Int) ≠ 0 := by omega
  have P2 := HN.out.put 0 (.int .u64 ((n : Int) % (x : Int)))
  have P1 := HT.out.far (p := ⟨w.heap.size + 1, 0, none⟩) (by simp) (.int .u64 ((n : Int) % (x : Int)))
  have PB := BB.out.setCell (p := ⟨w.heap.size + 1, 0, none⟩) (by simp) (.int .u64 ((n : Int) % (x : Int)))
  have HS := Lib.hid (pickS_any w.heap.size (w.heap.size + 1) b off l c (n % x) ws _ _ _ P1.drew (by have := P2.drew; rw [← Int.natCast_emod] at this; exact this) (Nat.lt_of_lt_of_le HB.out PB.size)
    (fun j hj => (PB.cell (p := ⟨b, off + j, none⟩) HB.out).trans (HC.out j hj)) HL.out h64 hlc HM.out)
  have HPB := Lib.hid PB
  have HPD := Lib.hid (show pickD ws n = pickN ws (n % x) + 1 by rw [pickD, ← HX.out])
  have hle := pickN_le ws (n % x)
  rw [HL.out] at hle
  generalize pickN ws (n % x) = r at *
  clear P1 P2 PB
  go_region
  go_wp2_with fail
  refine HS.out.mono ?_
  rintro e w1 ⟨rfl, hbel⟩
  have B2 := Lib.hid (HPB.out.drew.trans (hbel.mono HPB.out.size))
  clear hbel HS HPB
  go_wp2_with fail
  go_ret2
  exact ⟨by rw [HPD.out]; rfl, B2.out⟩
theorem two_words (w : World) (t : TypeId) (a b : Nat) (ha : a < 18446744073709551616) (hb : b < 18446744073709551616) : Words (w.alloc (.cells #[.int .u64 a, .int .u64 b] t)) (some ⟨w.heap.size, 0, none⟩) 2 [a, b] := by
  have bx := Box.new w t #[.int .u64 a, .int .u64 b]
  refine ⟨rfl, fun j => ?_, fun _ => ⟨w.heap.size, 0, rfl, by simp, fun j hj => ?_⟩⟩
  · match j with
    | 0 => exact ha
    | 1 => exact hb
    | j + 2 => simp [List.getD]
  · rw [Nat.zero_add, bx.cell j]
    match j, hj with
    | 0, _ => rfl
    | 1, _ => rfl
end Go.Proofs.YtbgikkeiapbghaaDoor
