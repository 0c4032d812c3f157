/- Contracts of layer 7: sort.Search with a predicate that leaves old memory; Root. -/
import Derived.Test.YtbgikkeiapbghaaDoorRows
import Derived.Test.YtbgikkeiapbghaaDoorWords
import Derived.Test.YtbgikkeiapbghaaDoorDegM
import Derived.Deep.QuietTactic
import Derived.BigQuiet
import Derived.RegionTactic
import Derived.Deep.LoopGhost
import Derived.Shelf.Abstract
namespace Go.Proofs.YtbgikkeiapbghaaDoor
open Go.RowKit
/-- What a search asks of its predicate. -/
def Asks (P : Program) (g : Nat) (cb : Array Value) (n : Nat) (p : Nat → Bool) (w : World) : Prop :=
  ∀ (W : World) (i : Nat), i < n → Below w.heap.size w W → Calls P g (#[.int .i64 i] ++ cb) W fun e W' => e = .returned (.bool (p i)) ∧ Below w.heap.size w W'
def Parted (n : Nat) (p : Nat → Bool) (lo hi : Nat) : Prop := (∀ t, t < lo → p t = false) ∧ (∀ t, hi ≤ t → t < n → p t = true)
theorem parted_count (n : Nat) (p : Nat → Bool) (k : Nat) (hk : k ≤ n) (h : Parted n p k k) : (List.range n).countP (fun i => !p i) = k := by
  have : (List.range n).countP (fun i => !p i) = (List.range n).countP (fun i => decide (i < k)) := by
    apply List.countP_congr
    intro i hi
    have hi' : i < n := by simpa using hi
    by_cases e : i < k
    · simp [e, h.1 i e]
    · simp [e, h.2 i (by omega) hi']
  rw [this, countP_lt]; omega
set_option maxHeartbeats 2000000 in
theorem search_any (g : Nat) (cb : Array Value) (n : Nat) (p : Nat → Bool) (w : World) (eg : ∀ args w, (callFunc g args).run Tryd.prog w = .ok (.enter g args) w) (hsz : n < 4611686018427387904)
    (hf : Asks Tryd.prog g cb n p w) (hmono : ∀ a b, a ≤ b → b < n → p a = true → p b = true) :
    Calls Tryd.prog 30 #[.int .i64 n, .func (.func g) #[] cb] w fun e w' => e = .returned (.int .i64 ((List.range n).countP (fun i => !p i) : Nat)) ∧ Below w.heap.size w w' := by
  have M := Lib.hid hmono
  have CN := Lib.hid (parted_count n p)
  clear hmono
  generalize (List.range n).countP (fun i => !p i) = cnt at *
  go_enter Tryd.func30, Tryd.ntmps30
  go_wp2
  go_loopg [5, 6] n (fun kx s5 s6 wr => ∃ (lo hi : Nat), s5 = .int .i64 lo ∧ s6 = .int .i64 hi ∧ lo ≤ hi ∧ hi ≤ n ∧ hi - lo ≤ kx ∧ Below w.heap.size w wr ∧ Parted n p lo hi)
  case atStart => exact ⟨0, n, rfl, rfl, Nat.zero_le _, Nat.le_refl _, by omega, Below.refl _ _, ⟨fun t ht => absurd ht (Nat.not_lt_zero _), fun t h1 h2 => by omega⟩⟩
  case round =>
    obtain ⟨lo, hi, rfl, rfl, hlh, hin, hg, hbel, I⟩ := hrel
    by_cases hlt : lo < hi
    · have hc := hf _ ((lo + hi) / 2) (by omega) hbel
      rw [show (((lo + hi) / 2 : Nat) : Int) = ((lo : Int) + (hi : Int)) / 2 by omega] at hc
      cases hp : p ((lo + hi) / 2) <;> rw [hp] at hc
      · have HP := Lib.hid hp
        clear hp
        go_wp2_with (go_at_fn g; refine hc.mono ?_; rintro e w' ⟨rfl, hb2⟩)
        go_roundg (hi - ((lo + hi) / 2 + 1))
        case measure => omega
        case rel =>
          have I2 : Parted n p ((lo + hi) / 2 + 1) hi := ⟨fun t ht => (by
            cases h : p t with
            | false => rfl
            | true => have := M.out t ((lo + hi) / 2) (by omega) (by omega) h; rw [HP.out] at this; cases this), I.2⟩
          exact ⟨(lo + hi) / 2 + 1, hi, by rw [show ((lo : Int) + (hi : Int)) / 2 + 1 = (((lo + hi) / 2 + 1 : Nat) : Int) by omega], rfl, by omega, hin, Nat.le_refl _, hb2, I2⟩
      · have HP := Lib.hid hp
        clear hp
        go_wp2_with (go_at_fn g; refine hc.mono ?_; rintro e w' ⟨rfl, hb2⟩)
        go_roundg ((lo + hi) / 2 - lo)
        case measure => omega
        case rel =>
          have I2 : Parted n p lo ((lo + hi) / 2) := ⟨I.1, fun t ht htn => M.out ((lo + hi) / 2) t ht htn HP.out⟩
          exact ⟨lo, (lo + hi) / 2, rfl, by rw [show ((lo : Int) + (hi : Int)) / 2 = (((lo + hi) / 2 : Nat) : Int) by omega], by omega, by omega, Nat.le_refl _, hb2, I2⟩
    · obtain rfl : hi = lo := by omega
      have ecnt := CN.out hi hin I
      subst ecnt
      go_wp2
      go_ret
      exact ⟨rfl, hbel⟩
theorem sq_cast (i : Nat) : (i : Int) * (i : Int) = ((i * i : Nat) : Int) := by simp
theorem rootF_any (bk k i : Nat) (W : World) (hi : i < 65536) (hk : k ≤ 2147483647) (hc : W.cell? ⟨bk, 0, none⟩ = some (.int .i64 k)) :
    Calls Tryd.prog 45 (#[.int .i64 i] ++ #[.pointer (some ⟨bk, 0, none⟩)]) W fun e w' => e = .returned (.bool (decide (k < i * i))) ∧ ∃ q, w' = W.drewN q := by
  have h1 : i * i ≤ 4294836225 := Nat.mul_le_mul (show i ≤ 65535 by omega) (show i ≤ 65535 by omega)
  have h2 : (i : Int) * (i : Int) ≤ 4294836225 := by rw [sq_cast]; omega
  have h3 : 0 ≤ (i : Int) * (i : Int) := by rw [sq_cast]; omega
  have e : decide (k < i * i) = decide ((k : Int) < (i : Int) * (i : Int)) := decide_eq_decide.2 (by rw [sq_cast]; omega)
  rw [e]
  clear e h1
  go_enter Tryd.func45, Tryd.ntmps45
  go_wp2
  go_ret
  exact ⟨rfl, 0, rfl⟩
theorem root_no (k : Int) (h : k < 0 ∨ 2147483647 < k) (w : World) :
    Calls Tryd.prog 38 #[.int .i64 k] w fun e w' => e = .returned (.tuple #[.int .i64 0, .int .i64 2]) ∧ Below w.heap.size w w' := by
  rcases h with h | h
  · have t : decide (k < 0) = true := by simpa using h
    go_enter Tryd.func38, Tryd.ntmps38
    go_wp2
    go_ret2
    exact ⟨rfl, (Below.refl _ _).alloc (Nat.le_refl _) _⟩
  · have t : decide (k < 0) = false := by simp; omega
    have t2 : decide (2147483647 < k) = true := by simpa using h
    go_enter Tryd.func38, Tryd.ntmps38
    go_wp2
    go_ret2
    exact ⟨rfl, (Below.refl _ _).alloc (Nat.le_refl _) _⟩
theorem below_new {w W : World} {o : Obj} (h : Below (w.alloc o).heap.size (w.alloc o) W) : Below w.heap.size w W := chain ((Below.refl _ _).alloc (Nat.le_refl _) o) h
set_option maxHeartbeats 1000000 in
theorem root_yes (k : Nat) (hk : k ≤ 2147483647) (w : World) :
    Calls Tryd.prog 38 #[.int .i64 k] w fun e w' => e = .returned (.tuple #[.int .i64 (root k : Nat), .int .i64 0]) ∧ Below w.heap.size w w' := by
  obtain ⟨W0, hW0⟩ : ∃ W0, W0 = w.alloc (.cells #[.int .i64 k] 3) := ⟨_, rfl⟩
  have hB0 : Below w.heap.size w W0 := by rw [hW0]; exact (Below.refl _ _).alloc (Nat.le_refl _) _
  have bx : Box W0 w.heap.size 3 #[.int .i64 k] := by rw [hW0]; exact Box.new _ _ _
  have eg : ∀ args w, (callFunc 45 args).run Tryd.prog w = .ok (.enter 45 args) w := enters_of Tryd.func45 (by kernel_rfl) rfl
  have hf : Asks Tryd.prog 45 #[.pointer (some ⟨w.heap.size, 0, none⟩)] 65536 (fun i => decide (k < i * i)) W0 := fun W i hi hb =>
    (rootF_any w.heap.size k i W hi hk ((bx.keep hb).cell 0)).mono fun _ _ ⟨he, q, hq⟩ => ⟨he, by rw [hq]; exact bdN hb q⟩
  have hS := search_any 45 _ 65536 _ W0 eg (by omega) hf (fun a b hab _ h => by have := sq_le hab; simp at h ⊢; omega)
  have hc := (root_spec k hk).2.2
  rw [show (List.range 65536).countP (fun i => !decide (k < i * i)) = root k + 1 from hc.1] at hS
  have hr : root k < 65536 := hc.2
  have HS := Lib.hid hS
  have HW0 := Lib.hid hW0
  have HB := Lib.hid hB0
  generalize root k = r at *
  clear hc hS hf bx hB0 hW0
  have t2 : ¬ (2147483647 : Int) < k := by omega
  go_enter Tryd.func38, Tryd.ntmps38
  go_wp2_with fail
  rw [← HW0.out]
  refine HS.out.mono ?_
  rintro e w' ⟨rfl, hb⟩
  go_wp2_with fail
  go_ret2
  exact ⟨by simp, chain HB.out hb⟩
end Go.Proofs.YtbgikkeiapbghaaDoor
