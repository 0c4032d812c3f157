/- Parts: Of, Few, OwnR, Bitrow3, Order1, XorO, Ref1, From. -/
import Derived.Test.YtdfmogcgangdnaaZb
import Derived.Maps.AppendAt
namespace Go.Proofs.Ytdfmogcgangdnaa
section
/- Contracts of bitrow.New and bitrow.Of. -/
set_option linter.unusedVariables false
set_option linter.unusedSimpArgs false
open Go.RowKit
/-- A new row of words of the call's own. -/
def NewOut (n : Int) (zs : List Nat) (w : World) (e : Ending) (w' : World) : Prop :=
  ∃ g, e = .returned (.tuple #[.agg #[.int .i64 n, .slice (some ⟨g, 0, none⟩) zs.length zs.length], .int .i64 0]) ∧ Box w' g 68 (numsA zs) ∧ w.heap.size ≤ g ∧ Below w.heap.size w w'
theorem new_no (n : Int) (h : lmb n = false) (w : World) : Calls Try.prog 53 #[.int .i64 n] w (RowOut 0 [] 2 w) := by
  have q := Box.new w 40 #[.int .i64 0, .slice none 0 0]
  have Q := Lib.hid q
  clear q
  go_enter Try.func53, Try.ntmps53
  go_wp2_with fail
  refine (lengthMayBe_any n _).mono ?_
  rintro e w' ⟨rfl, rfl⟩
  go_wp2
  refine close_cell Try.results53 rfl rfl rfl Q.out Try.underlying40 rfl (by kernel_rfl) ⟨_, _, _, rfl, Words.nil _ _, (Below.refl _ _).alloc (Nat.le_refl _) _⟩
theorem new_yes (n : Nat) (h : lmb n = true) (w : World) : Calls Try.prog 53 #[.int .i64 n] w (NewOut n (List.replicate (nw n) 0) w) := by
  have hn := (lmb_iff n).1 h
  have hnw : nw n ≤ 8 := by unfold nw; omega
  have q := Box.new w 40 #[.int .i64 0, .slice none 0 0]
  have Q := Lib.hid q
  clear q
  have hmk := make_any (nw n) (by omega)
  go_enter Try.func53, Try.ntmps53
  go_wp2_with fail
  refine (lengthMayBe_any n _).mono ?_
  rintro e w' ⟨rfl, rfl⟩
  go_wp2_with fail
  refine (wordsFor_any n (by omega) _).mono ?_
  rintro e w' ⟨rfl, rfl⟩
  go_wp2
  have q := (Box.new w 40 #[.int .i64 n, .slice (some ⟨w.heap.size + 1, 0, none⟩) (nw n) (nw n)]).alloc (.cells (numsA (List.replicate (nw n) 0)) 68)
  have q2 := Box.new (w.alloc (.cells #[.int .i64 n, .slice (some ⟨w.heap.size + 1, 0, none⟩) (nw n) (nw n)] 40)) 68 (numsA (List.replicate (nw n) 0))
  simp only [World.size_alloc] at q2
  refine close_cell Try.results53 rfl rfl rfl q Try.underlying40 rfl (by kernel_rfl) ⟨w.heap.size + 1, by rw [List.length_replicate]; rfl, q2, by omega, ((Below.refl _ _).alloc (Nat.le_refl _) _).alloc (by simp) _⟩
def orBit (ws : List Nat) (p : Nat) : List Nat := ws.set (p / 64) (ws.getD (p / 64) 0 ||| 2 ^ (p % 64))
def ofBits (n : Nat) (ps : List Int) : List Nat := ps.foldl (fun ws p => orBit ws p.toNat) (List.replicate (nw n) 0)
def there (n : Int) (ps : List Int) : Bool := ps.all fun p => decide (0 ≤ p) && decide (p < n)
theorem orBit_length (ws : List Nat) (p : Nat) : (orBit ws p).length = ws.length := by simp [orBit]
theorem orBit_lt (ws : List Nat) (p : Nat) (h : ∀ j, ws.getD j 0 < 18446744073709551616) (j : Nat) : (orBit ws p).getD j 0 < 18446744073709551616 := by
  unfold orBit
  simp only [List.getD, List.getElem?_set]
  split
  · split
    · simp only [Option.getD_some]
      have := h (p / 64)
      exact Nat.or_lt_two_pow (n := 64) this (Nat.pow_lt_pow_right (by omega) (by omega))
    · simp
  · exact h j
theorem foldl_bits (ps : List Int) (ws : List Nat) (h : ∀ j, ws.getD j 0 < 18446744073709551616) : (ps.foldl (fun ws p => orBit ws p.toNat) ws).length = ws.length ∧ ∀ j, (ps.foldl (fun ws p => orBit ws p.toNat) ws).getD j 0 < 18446744073709551616 := by
  induction ps generalizing ws with
  | nil => exact ⟨rfl, h⟩
  | cons p ps ih =>
    have := ih (orBit ws p.toNat) (orBit_lt ws _ h)
    rw [orBit_length] at this
    exact this
theorem zeros_lt (n j : Nat) : (List.replicate n 0).getD j 0 < 18446744073709551616 := by
  simp [List.getD, List.getElem?_replicate]
  split <;> simp
theorem ofBits_len (n : Nat) (ps : List Int) : (ofBits n ps).length = nw n := by
  have := (foldl_bits ps (List.replicate (nw n) 0) (zeros_lt _)).1
  rw [List.length_replicate] at this
  exact this
theorem ofBits_lt (n : Nat) (ps : List Int) (j : Nat) : (ofBits n ps).getD j 0 < 18446744073709551616 := (foldl_bits ps _ (zeros_lt _)).2 j
theorem ofBits_snoc (n : Nat) (ps : List Int) (p : Int) : ofBits n (ps ++ [p]) = orBit (ofBits n ps) p.toNat := by simp [ofBits]
theorem take_one {α : Type} (l : List α) (k : Nat) (d : α) (h : k < l.length) : l.take (k + 1) = l.take k ++ [l.getD k d] := by
  rw [List.take_succ_eq_append_getElem h]; simp [List.getD, h]
def ofN (n : Int) (ps : List Int) : Int := if lmb n && there n ps then n else 0
def ofW (n : Int) (ps : List Int) : List Nat := if lmb n && there n ps then ofBits n.toNat ps else []
def ofE (n : Int) (ps : List Int) : Int := if lmb n then if there n ps then 0 else 3 else 2
theorem or_val (x r : Nat) (hx : x < 18446744073709551616) (hr : r < 64) : bits BinOp.or IntKind.u64 (x : Int) (IntKind.u64.wrap (2 ^ r)) = ((x ||| 2 ^ r : Nat) : Int) := by
  have hp : 2 ^ r < 2 ^ 64 := Nat.pow_lt_pow_right (by omega) hr
  have e : (2 : Int) ^ r % 18446744073709551616 = ((2 ^ r : Nat) : Int) := by
    have : (2 : Int) ^ r = ((2 ^ r : Nat) : Int) := by simp
    rw [this]
    generalize 2 ^ r = p at *
    omega
  rw [IntKind.wrap_u64, e, u64_or_nat _ _ hx hp]
end
section
/- Contract of the statements' few: a row with at most ten words. -/
set_option linter.unusedVariables false
set_option linter.unusedSimpArgs false
open Go.RowKit
/-- What a call that answers a row leaves. -/
def OneRow (n : Int) (zs : List Nat) (w : World) (e : Ending) (w' : World) : Prop :=
  ∃ A l c, e = .returned (.agg #[.int .i64 n, .slice A l c]) ∧ Words w' A l zs ∧ Below w.heap.size w w'
/-- A slice value as Go has it: nil is empty, without capacity. -/
def SliceOk (A : Option Addr) (l c : Nat) : Prop := l ≤ c ∧ c ≤ maxLen ∧ (A = none → l = 0 ∧ c = 0)
end
section
/- Rows of words that are a call's own: bitrow.Of so. -/
set_option linter.unusedVariables false
set_option linter.unusedSimpArgs false
open Go.RowKit
/-- A row of words in a block of words. -/
def OwnW (w : World) (A : Option Addr) (l c : Nat) (zs : List Nat) : Prop := w.ownsRow 0 68 1 (.slice A l c) l (zs.map u64V)
section
variable {w w' : World} {A : Option Addr} {l c : Nat} {zs : List Nat}
theorem OwnW.words (h : OwnW w A l c zs) (hz : ∀ j, zs.getD j 0 < 18446744073709551616) : Words w A l zs := own_words h hz
theorem OwnW.below (h : OwnW w A l c zs) (hb : Below w.heap.size w w') : OwnW w' A l c zs := own_keep h hb
theorem OwnW.alloc (h : OwnW w A l c zs) (o : Obj) : OwnW (w.alloc o) A l c zs := World.ownsRow.alloc h o
theorem OwnW.drew (h : OwnW w A l c zs) : OwnW w.drew A l c zs := h
theorem OwnW.far (h : OwnW w A l c zs) {g : Nat} {t : TypeId} {cs : Array Value} (hb : Box w g t cs) (hne : 68 ≠ t) (i : Nat) (u : Value) : OwnW (w.setCell ⟨g, i, none⟩ u) A l c zs := own_far h hb hne i u
theorem OwnW.put2 (h : OwnW w A l c zs) {g : Nat} {a b : Value} (hb : Box w g 40 #[a, b]) (u v : Value) : OwnW ((w.setCell ⟨g, 0, none⟩ u).setCell ⟨g, 1, none⟩ v) A l c zs :=
  (h.far hb (by decide) 0 u).far (hb.put 0 u) (by decide) 1 v
theorem OwnW.grown {v : Value} {base e size n : Nat} {xs : List Value} (h : OwnW w A l c zs) (ho : w.ownsRow base e size v n xs) (hne : e ≠ 68) (hg : w.grownBy w' v.ownBlock) : OwnW w' A l c zs := by
  refine World.ownsRow.kept h hg ?_
  rcases h.2 with ⟨h0, _⟩ | ⟨g, cap, cur, h0, _, hh, _⟩
  · left; rw [h0]; rfl
  · right
    rw [h0]
    exact fun e => own_ne ho hh hne e.symm
theorem Box.ownW {g n : Nat} (h : Box w g 68 (numsA zs)) (hl : zs.length = n) (hm : n ≤ maxLen) : OwnW w (some ⟨g, 0, none⟩) n n zs := by
  refine ⟨by simp [hl], .inr ⟨g, n, numsA zs, rfl, Nat.zero_le _, h, Nat.le_refl _, hm, by simp [numsA, hl], ?_⟩⟩
  have e1 : (numsA zs).toList = zs.map u64V := rfl
  rw [e1, List.take_of_length_le (by simp [hl])]
end
/-- What Of hands back, where each place is there. -/
def OwnOut (n : Int) (zs : List Nat) (w : World) (e : Ending) (w' : World) : Prop :=
  ∃ A l c, e = .returned (.tuple #[.agg #[.int .i64 n, .slice A l c], .int .i64 0]) ∧ OwnW w' A l c zs ∧ Below w.heap.size w w'
/-- What a function of one row hands back. -/
def OneOwn (n : Int) (zs : List Nat) (w : World) (e : Ending) (w' : World) : Prop :=
  ∃ A l c, e = .returned (.agg #[.int .i64 n, .slice A l c]) ∧ OwnW w' A l c zs ∧ Below w.heap.size w w'
end
section
/- Contracts of bitrow.And's join, and of bitrow.Xor and And. -/
set_option linter.unusedVariables false
set_option linter.unusedSimpArgs false
open Go.RowKit
theorem part_lt_and (us vs : List Nat) (j i : Nat) (hu : ∀ j, us.getD j 0 < 18446744073709551616) (hv : ∀ j, vs.getD j 0 < 18446744073709551616) : (part (· &&& ·) us vs j).getD i 0 < 18446744073709551616 := by
  unfold part
  simp only [List.getD, List.getElem?_append]
  split
  · rw [List.getElem?_take]
    split
    · rw [List.getElem?_zipWith]
      have h1 := hu i
      have h2 := hv i
      simp only [List.getD] at h1 h2
      cases e1 : us[i]? <;> cases e2 : vs[i]? <;> simp [e1, e2] at h1 h2 ⊢
      exact Nat.and_lt_two_pow (n := 64) _ h2
    · simp
  · rw [List.getElem?_replicate]
    split <;> simp
def joinN (n : Int) (us : List Nat) (m : Int) (vs : List Nat) : Int := if rightB n us && rightB m vs && n == m then n else 0
def joinW (g : Nat → Nat → Nat) (n : Int) (us : List Nat) (m : Int) (vs : List Nat) : List Nat := if rightB n us && rightB m vs && n == m then List.zipWith g us vs else []
def joinE (n : Int) (us : List Nat) (m : Int) (vs : List Nat) : Int := if rightB n us && rightB m vs then if n == m then 0 else 2 else 1
theorem joined_x (n m : Int) (A B : Option Addr) (l c k d : Nat) (us vs : List Nat) (w : World) (hu : Words w A l us) (hv : Words w B k vs) :
    Calls Try.prog 42 #[.agg #[.int .i64 n, .slice A l c], .agg #[.int .i64 m, .slice B k d], .func (.func 43) #[] #[]] w (RowOut (joinN n us m vs) (joinW (· ^^^ ·) n us m vs) (joinE n us m vs) w) := by
  unfold joinN joinW joinE
  cases h1 : rightB n us with
  | false => exact joined_arg _ n m A B l c k d us vs w hu hv (.inl h1)
  | true =>
    cases h2 : rightB m vs with
    | false => exact joined_arg _ n m A B l c k d us vs w hu hv (.inr h2)
    | true =>
      by_cases h : n = m
      · subst h
        have : (n == n) = true := by simp
        rw [this]
        exact joined_xor n A B l c k d us vs w hu hv h1 h2
      · have : (n == m) = false := by simpa using h
        rw [this]
        exact joined_size _ n m A B l c k d us vs w hu hv h1 h2 h
set_option maxHeartbeats 400000 in
theorem xor_any (n m : Int) (A B : Option Addr) (l c k d : Nat) (us vs : List Nat) (w : World) (hu : Words w A l us) (hv : Words w B k vs) :
    Calls Try.prog 19 #[.agg #[.int .i64 n, .slice A l c], .agg #[.int .i64 m, .slice B k d]] w (RowOut (joinN n us m vs) (joinW (· ^^^ ·) n us m vs) (joinE n us m vs) w) := by
  have q2 := Box.new ((w.alloc (.cells #[.int .i64 n, .slice A l c] 40)).alloc (.cells #[.int .i64 m, .slice B k d] 40)) 40 #[.int .i64 0, .slice none 0 0]
  have hW : Below w.heap.size w (((w.alloc (.cells #[.int .i64 n, .slice A l c] 40)).alloc (.cells #[.int .i64 m, .slice B k d] 40)).alloc (.cells #[.int .i64 0, .slice none 0 0] 40)) := (((Below.refl _ _).alloc (Nat.le_refl _) _).alloc (by simp) _).alloc (by simp; omega) _
  simp only [World.size_alloc] at q2
  have Q2 := Lib.hid q2
  have HW := Lib.hid hW
  have HU := Lib.hid (hu.below hW)
  have HV := Lib.hid (hv.below hW)
  clear q2 hW hu hv
  go_enter Try.func19, Try.ntmps19
  go_wp2_with fail
  refine (joined_x n m A B l c k d us vs _ HU.out HV.out).mono ?_
  rintro e x1 ⟨A1, l1, c1, rfl, hw, hb⟩
  have P2 := Lib.hid (Q2.out.keep hb)
  have HB := Lib.hid (chain HW.out hb)
  have HWo := Lib.hid hw
  clear hb hw
  obtain ⟨r0, r1, r2, r3⟩ := P2.out.two
  go_wp2
  refine close_cell Try.results19 rfl rfl rfl P2.out.put2 Try.underlying40 rfl (by kernel_rfl) ⟨_, _, _, rfl, ?_, ?_⟩
  · exact HWo.out.put2 P2.out _ _
  · exact (HB.out.setCell (p := ⟨w.heap.size + 1 + 1, 0, none⟩) (by simp; omega) _).setCell (p := ⟨w.heap.size + 1 + 1, 1, none⟩) (by simp; omega) _
end
section
/- Rows of one size that may be: what Xor and And of them are; the plain laws of both. -/
set_option linter.unusedVariables false
set_option linter.unusedSimpArgs false
open Go.RowKit
theorem right_len_eq {n : Int} {us : List Nat} (h : rightB n us = true) : us.length = nw n.toNat := by
  simp only [rightB, Bool.and_eq_true, beq_iff_eq] at h
  exact h.1.2
theorem right_lmb {n : Int} {us : List Nat} (h : rightB n us = true) : lmb n = true := by
  simp only [rightB, Bool.and_eq_true] at h
  exact h.1.1
theorem zip_last (g : Nat → Nat → Nat) (us vs : List Nat) (i : Nat) (hu : i < us.length) (hv : i < vs.length) : (List.zipWith g us vs).getD i 0 = g (us.getD i 0) (vs.getD i 0) := by
  simp [List.getD, List.getElem?_zipWith, hu, hv]
theorem right_zip (g : Nat → Nat → Nat) (hg : ∀ x y k, x / 2 ^ k = 0 → y / 2 ^ k = 0 → g x y / 2 ^ k = 0) {n : Int} {us vs : List Nat} (h1 : rightB n us = true) (h2 : rightB n vs = true) : rightB n (List.zipWith g us vs) = true := by
  have l1 := right_len_eq h1
  have l2 := right_len_eq h2
  have hl : (List.zipWith g us vs).length = us.length := by simp; omega
  simp only [rightB, Bool.and_eq_true, Bool.or_eq_true, beq_iff_eq] at h1 h2 ⊢
  refine ⟨⟨h1.1.1, by rw [hl]; exact h1.1.2⟩, ?_⟩
  rcases h1.2 with h | h
  · exact .inl h
  · rcases h2.2 with h' | h'
    · exact .inl h'
    · by_cases h0 : us.length = 0
      · left
        rw [l1] at h0
        unfold nw at h0
        omega
      · right
        rw [hl, zip_last g us vs _ (by omega) (by omega)]
        exact hg _ _ _ h (by rw [l2, ← l1] at h'; exact h')
theorem xor_div (x y k : Nat) (h : x / 2 ^ k = 0) (h' : y / 2 ^ k = 0) : (x ^^^ y) / 2 ^ k = 0 := by
  have p : 0 < 2 ^ k := Nat.two_pow_pos k
  rw [Nat.div_eq_zero_iff] at h h' ⊢
  right
  exact Nat.xor_lt_two_pow (by omega) (by omega)
theorem and_div (x y k : Nat) (h : x / 2 ^ k = 0) (_ : y / 2 ^ k = 0) : (x &&& y) / 2 ^ k = 0 := by
  have p : 0 < 2 ^ k := Nat.two_pow_pos k
  rw [Nat.div_eq_zero_iff] at h ⊢
  right
  have := Nat.and_le_left (n := x) (m := y)
  omega
def xorL (us vs : List Nat) : List Nat := List.zipWith (· ^^^ ·) us vs
def andL (us vs : List Nat) : List Nat := List.zipWith (· &&& ·) us vs
theorem right_xor {n : Int} {us vs : List Nat} (h1 : rightB n us = true) (h2 : rightB n vs = true) : rightB n (xorL us vs) = true := right_zip _ xor_div h1 h2
theorem right_and {n : Int} {us vs : List Nat} (h1 : rightB n us = true) (h2 : rightB n vs = true) : rightB n (andL us vs) = true := right_zip _ and_div h1 h2
theorem xor_ok (n : Int) (A B : Option Addr) (l c k d : Nat) (us vs : List Nat) (w : World) (hu : Words w A l us) (hv : Words w B k vs) (h1 : rightB n us = true) (h2 : rightB n vs = true) :
    Calls Try.prog 19 #[.agg #[.int .i64 n, .slice A l c], .agg #[.int .i64 n, .slice B k d]] w (RowOut n (xorL us vs) 0 w) := by
  have h := xor_any n n A B l c k d us vs w hu hv
  unfold joinN joinW joinE at h
  rw [h1, h2] at h
  simpa [xorL] using h
theorem joinE_ok {n m : Int} {us vs : List Nat} (h : joinE n us m vs = 0) : rightB n us = true ∧ rightB m vs = true ∧ n = m := by
  unfold joinE at h
  split at h
  · rename_i h1
    rw [Bool.and_eq_true] at h1
    split at h
    · rename_i h2
      exact ⟨h1.1, h1.2, by simpa using h2⟩
    · omega
  · omega
theorem joinE_no {n m : Int} {us vs : List Nat} (g : Nat → Nat → Nat) (h : joinE n us m vs ≠ 0) : joinN n us m vs = 0 ∧ joinW g n us m vs = [] := by
  unfold joinE at h
  unfold joinN joinW
  by_cases h1 : (rightB n us && rightB m vs) = true
  · rw [if_pos h1] at h
    by_cases h2 : (n == m) = true
    · rw [if_pos h2] at h; omega
    · rw [if_neg (by simp [h2]), if_neg (by simp [h2])]; exact ⟨rfl, rfl⟩
  · rw [if_neg (by simp [h1]), if_neg (by simp [h1])]; exact ⟨rfl, rfl⟩
theorem xorL_comm (us vs : List Nat) : xorL us vs = xorL vs us := by
  unfold xorL
  rw [List.zipWith_comm]
  congr 1
  funext x y
  exact Nat.xor_comm _ _
theorem andL_comm (us vs : List Nat) : andL us vs = andL vs us := by
  unfold andL
  rw [List.zipWith_comm]
  congr 1
  funext x y
  exact Nat.and_comm _ _
theorem xorL_assoc (us vs zs : List Nat) : xorL (xorL us vs) zs = xorL us (xorL vs zs) := by
  induction us generalizing vs zs with
  | nil => simp [xorL]
  | cons x us ih =>
    cases vs with
    | nil => simp [xorL]
    | cons y vs =>
      cases zs with
      | nil => simp [xorL]
      | cons z zs =>
        have := ih vs zs
        simp only [xorL, List.zipWith_cons_cons] at this ⊢
        rw [this, Nat.xor_assoc]
theorem andL_xor (us vs zs : List Nat) : andL us (xorL vs zs) = xorL (andL us vs) (andL us zs) := by
  induction us generalizing vs zs with
  | nil => simp [xorL, andL]
  | cons x us ih =>
    cases vs with
    | nil => simp [xorL, andL]
    | cons y vs =>
      cases zs with
      | nil => simp [xorL, andL]
      | cons z zs =>
        have := ih vs zs
        simp only [xorL, andL, List.zipWith_cons_cons] at this ⊢
        rw [this, Nat.and_xor_distrib_left]
end
section
/- bitrow.Xor and New: rows of words of the call's own. -/
set_option linter.unusedVariables false
set_option linter.unusedSimpArgs false
open Go.RowKit
set_option maxHeartbeats 400000 in
theorem joined_own (n : Int) (A B : Option Addr) (l c k d : Nat) (us vs : List Nat) (w : World) (hu : Words w A l us) (hv : Words w B k vs) (h1 : rightB n us = true) (h2 : rightB n vs = true) :
    Calls Try.prog 42 #[.agg #[.int .i64 n, .slice A l c], .agg #[.int .i64 n, .slice B k d], .func (.func 43) #[] #[]] w (OwnOut n (List.zipWith (· ^^^ ·) us vs) w) := by
  have hl : l ≤ 8 := rightB_len8 h1 hu.1
  have hkl : k = l := rightB_len h1 h2 hu.1 hv.1
  subst hkl
  have q0 := ((Box.new w 40 #[.int .i64 n, .slice A k c]).alloc (.cells #[.int .i64 n, .slice B k d] 40)).alloc (.cells #[.int .i64 0, .slice none 0 0] 40)
  have q1 := (Box.new (w.alloc (.cells #[.int .i64 n, .slice A k c] 40)) 40 #[.int .i64 n, .slice B k d]).alloc (.cells #[.int .i64 0, .slice none 0 0] 40)
  have q2 := Box.new ((w.alloc (.cells #[.int .i64 n, .slice A k c] 40)).alloc (.cells #[.int .i64 n, .slice B k d] 40)) 40 #[.int .i64 0, .slice none 0 0]
  have hW : Below w.heap.size w (((w.alloc (.cells #[.int .i64 n, .slice A k c] 40)).alloc (.cells #[.int .i64 n, .slice B k d] 40)).alloc (.cells #[.int .i64 0, .slice none 0 0] 40)) := (((Below.refl _ _).alloc (Nat.le_refl _) _).alloc (by simp) _).alloc (by simp; omega) _
  simp only [World.size_alloc] at q1 q2
  have hu1 := hu.below hW
  have hv1 := hv.below hW
  have Q0 := Lib.hid q0
  have Q1 := Lib.hid q1
  have Q2 := Lib.hid q2
  have HW := Lib.hid hW
  have HU := Lib.hid hu1
  have HV := Lib.hid hv1
  have HU0 := Lib.hid hu
  have HV0 := Lib.hid hv
  clear q0 q1 q2 hW hu1 hv1 hu hv
  go_enter Try.func42, Try.ntmps42
  go_wp2_with fail
  refine (right_any n A k c us _ HU.out).mono ?_
  rintro e x1 ⟨rfl, hb⟩
  have Q0 := Lib.hid (Q0.out.keep hb)
  have Q1 := Lib.hid (Q1.out.keep hb)
  have Q2 := Lib.hid (Q2.out.keep hb)
  have HV := Lib.hid (HV.out.below hb)
  have HW := Lib.hid (chain HW.out hb)
  clear HU hb
  obtain ⟨c0, c1, -, -⟩ := Q1.out.two
  go_wp2_with fail
  refine (right_any n B k d vs _ HV.out).mono ?_
  rintro e x2 ⟨rfl, hb⟩
  have Q0 := Lib.hid (Q0.out.keep hb)
  have Q1 := Lib.hid (Q1.out.keep hb)
  have Q2 := Lib.hid (Q2.out.keep hb)
  have HW := Lib.hid (chain HW.out hb)
  clear hb c0 c1 HV
  obtain ⟨r0, r1, r2, r3⟩ := Q2.out.two
  obtain ⟨a0, a1, -, -⟩ := Q0.out.two
  obtain ⟨b0, b1, -, -⟩ := Q1.out.two
  have t : (n != n) = false := by simp
  have hmk := make_any k (by omega) x2
  have HX2 := Lib.hid Q2.out.lt
  have Q3 := Lib.hid (Box.new x2 68 (numsA (List.replicate k 0)))
  have Q0 := Lib.hid (Q0.out.alloc (.cells (numsA (List.replicate k 0)) 68))
  have Q1 := Lib.hid (Q1.out.alloc (.cells (numsA (List.replicate k 0)) 68))
  have Q2 := Lib.hid (Q2.out.alloc (.cells (numsA (List.replicate k 0)) 68))
  have HW := Lib.hid (HW.out.alloc HW.out.size (.cells (numsA (List.replicate k 0)) 68))
  go_wp2
  clear hmk t h1 h2 a0 a1 b0 b1 r0 r1 r2 r3
  go_loopw [31] (fun i wr => ∃ j : Nat, j ≤ k ∧ i = .int .i64 j ∧ Box wr x2.heap.size 68 (numsA (part (· ^^^ ·) us vs j)) ∧ Box wr w.heap.size 40 #[.int .i64 n, .slice A k c] ∧ Box wr (w.heap.size + 1) 40 #[.int .i64 n, .slice B k d] ∧ Box wr (w.heap.size + 1 + 1) 40 #[.int .i64 0, .slice none 0 0] ∧ Below w.heap.size w wr)
    (fun i _ => k - (intOf i).toNat)
  case atStart => exact ⟨0, by omega, rfl, by rw [part_zero, HU0.out.1]; exact Q3.out, Q0.out, Q1.out, Q2.out, HW.out⟩
  case round =>
    obtain ⟨j, hj, rfl, B3, B0, B1, B2, hbel⟩ := hrel
    have R3 := Lib.hid B3
    have R0 := Lib.hid B0
    have R1 := Lib.hid B1
    have R2 := Lib.hid B2
    have HB := Lib.hid hbel
    clear B3 B0 B1 B2 hbel Q0 Q1 Q2 Q3 HW
    obtain ⟨a0, a1, -, -⟩ := R0.out.two
    obtain ⟨b0, b1, -, -⟩ := R1.out.two
    by_cases hlt : j < k
    · obtain ⟨p, o, rfl, lt1, hc1⟩ := HU0.out.2.2 (by omega)
      obtain ⟨p2, o2, rfl, lt2, hc2⟩ := HV0.out.2.2 (by omega)
      have cu := (HB.out.cell (p := ⟨p, o + j, none⟩) lt1).trans (hc1 j hlt)
      have cv := (HB.out.cell (p := ⟨p2, o2 + j, none⟩) lt2).trans (hc2 j hlt)
      have hx := HU0.out.2.1 j
      have hy := HV0.out.2.1 j
      obtain ⟨x, ex⟩ : ∃ x, x = us.getD j 0 := ⟨_, rfl⟩
      obtain ⟨y, ey⟩ : ∃ y, y = vs.getD j 0 := ⟨_, rfl⟩
      rw [← ex] at cu hx
      rw [← ey] at cv hy
      have hxy := Lib.hid (And.intro ex ey)
      clear ex ey
      have cg : wr.cell? ⟨x2.heap.size, j, none⟩ = some (.int .u64 0) := by rw [R3.out.cell j]; exact part_fresh _ us vs j k HU0.out.1 HV0.out.1 hlt
      have fg := R3.out.free j
      clear hc1 hc2
      have hz := HX2.out
      have n1 : ¬ x2.heap.size = w.heap.size := by omega
      have n2 : ¬ x2.heap.size = w.heap.size + 1 := by omega
      have n3 : ¬ x2.heap.size = p := by omega
      have n4 : ¬ x2.heap.size = p2 := by omega
      have n1' : ¬ w.heap.size = x2.heap.size := by omega
      have n2' : ¬ w.heap.size + 1 = x2.heap.size := by omega
      have n3' : ¬ p = x2.heap.size := by omega
      have n4' : ¬ p2 = x2.heap.size := by omega
      have n5' : ¬ w.heap.size + 1 + 1 = x2.heap.size := by omega
      go_wp2
      go_region_held3 (fun w' => w'.cell? ⟨w.heap.size, 1, none⟩ = some (.slice (some ⟨p, o, none⟩) k c) ∧ w'.cell? ⟨w.heap.size + 1, 1, none⟩ = some (.slice (some ⟨p2, o2, none⟩) k d) ∧ w'.cell? ⟨p, o + j, none⟩ = some (.int .u64 x) ∧ w'.cell? ⟨p2, o2 + j, none⟩ = some (.int .u64 y)) (go_keep) (first | (go_at_call 43; refine (xor1_any x y hx hy _).mono ?_; rintro e w' ⟨rfl, rfl⟩))
      have P1 := Lib.hid ((R3.out.put j (.int .u64 ((x ^^^ y : Nat) : Int))).drew)
      have P0 := Lib.hid ((R0.out.far (p := ⟨x2.heap.size, j, none⟩) n1' (.int .u64 ((x ^^^ y : Nat) : Int))).drew)
      have P2 := Lib.hid ((R1.out.far (p := ⟨x2.heap.size, j, none⟩) n2' (.int .u64 ((x ^^^ y : Nat) : Int))).drew)
      have P3 := Lib.hid ((R2.out.far (p := ⟨x2.heap.size, j, none⟩) n5' (.int .u64 ((x ^^^ y : Nat) : Int))).drew)
      have P4 := Lib.hid ((HB.out.setCell (p := ⟨x2.heap.size, j, none⟩) (by simp; omega) (.int .u64 ((x ^^^ y : Nat) : Int))).drew)
      clear cg fg cu cv n1 n2 n3 n4 n1' n2' n3' n4' a0 a1 b0 b1
      generalize (wr.setCell ⟨x2.heap.size, j, none⟩ (.int .u64 ((x ^^^ y : Nat) : Int))).drew = wn at *
      go_wp2
      go_roundw
      case rel => exact ⟨j + 1, by omega, by go_num, by have := P1.out; rw [numsA_set, hxy.out.1, hxy.out.2, part_set _ us vs j k HU0.out.1 HV0.out.1 hlt] at this; exact this, P0.out, P2.out, P3.out, P4.out⟩
      case measure => simp [intOf]; omega
    · obtain ⟨r0, r1, r2, r3⟩ := R2.out.two
      have hz := HX2.out
      have n5' : ¬ w.heap.size + 1 + 1 = x2.heap.size := by omega
      obtain rfl : j = k := by omega
      go_wp2
      refine close_cell Try.results42 rfl rfl rfl R2.out.put2 Try.underlying40 rfl (by kernel_rfl) ?_
      have hp : part (· ^^^ ·) us vs j = List.zipWith (· ^^^ ·) us vs := part_full _ us vs j HU0.out.1 HV0.out.1
      have hw := Box.ownW ((R3.out.far (p := ⟨w.heap.size + 1 + 1, 0, none⟩) (by simp; omega) (.int .i64 n)).far (p := ⟨w.heap.size + 1 + 1, 1, none⟩) (by simp; omega) (.slice (some ⟨x2.heap.size, 0, none⟩) j j)) (part_len _ us vs j j HU0.out.1 HV0.out.1) (by unfold maxLen; omega)
      rw [hp] at hw
      exact ⟨_, _, _, rfl, hw, (HB.out.setCell (p := ⟨w.heap.size + 1 + 1, 0, none⟩) (by simp; omega) _).setCell (p := ⟨w.heap.size + 1 + 1, 1, none⟩) (by simp; omega) _⟩
set_option maxHeartbeats 400000 in
theorem xor_own (n : Int) (A B : Option Addr) (l c k d : Nat) (us vs : List Nat) (w : World) (hu : Words w A l us) (hv : Words w B k vs) (h1 : rightB n us = true) (h2 : rightB n vs = true) :
    Calls Try.prog 19 #[.agg #[.int .i64 n, .slice A l c], .agg #[.int .i64 n, .slice B k d]] w (OwnOut n (xorL us vs) w) := by
  have q2 := Box.new ((w.alloc (.cells #[.int .i64 n, .slice A l c] 40)).alloc (.cells #[.int .i64 n, .slice B k d] 40)) 40 #[.int .i64 0, .slice none 0 0]
  have hW : Below w.heap.size w (((w.alloc (.cells #[.int .i64 n, .slice A l c] 40)).alloc (.cells #[.int .i64 n, .slice B k d] 40)).alloc (.cells #[.int .i64 0, .slice none 0 0] 40)) := (((Below.refl _ _).alloc (Nat.le_refl _) _).alloc (by simp) _).alloc (by simp; omega) _
  simp only [World.size_alloc] at q2
  have Q2 := Lib.hid q2
  have HW := Lib.hid hW
  have HU := Lib.hid (hu.below hW)
  have HV := Lib.hid (hv.below hW)
  clear q2 hW hu hv
  go_enter Try.func19, Try.ntmps19
  go_wp2_with fail
  refine (joined_own n A B l c k d us vs _ HU.out HV.out h1 h2).mono ?_
  rintro e x1 ⟨A1, l1, c1, rfl, hw, hb⟩
  have P2 := Lib.hid (Q2.out.keep hb)
  have HB := Lib.hid (chain HW.out hb)
  have HWo := Lib.hid hw
  clear hb hw
  obtain ⟨r0, r1, r2, r3⟩ := P2.out.two
  go_wp2
  refine close_cell Try.results19 rfl rfl rfl P2.out.put2 Try.underlying40 rfl (by kernel_rfl) ⟨_, _, _, rfl, ?_, ?_⟩
  · exact HWo.out.put2 P2.out _ _
  · exact (HB.out.setCell (p := ⟨w.heap.size + 1 + 1, 0, none⟩) (by simp; omega) _).setCell (p := ⟨w.heap.size + 1 + 1, 1, none⟩) (by simp; omega) _
theorem new_own (n : Nat) (h : lmb n = true) (w : World) : Calls Try.prog 53 #[.int .i64 n] w (OwnOut n (List.replicate (nw n) 0) w) := by
  refine (new_yes n h w).mono ?_
  rintro e w' ⟨g, rfl, hg, -, hb⟩
  have hn := (lmb_iff n).1 h
  have := Box.ownW hg (n := nw n) (by simp) (by unfold maxLen nw; omega)
  rw [List.length_replicate]
  exact ⟨_, _, _, rfl, this, hb⟩
end
section
/- Contracts of the reference's words, Bit and Right. -/
set_option linter.unusedVariables false
set_option linter.unusedSimpArgs false
open Go.RowKit
theorem refWords_any (n : Nat) (h : n ≤ 1000000) (w : World) : Calls Try.prog 40 #[.int .i64 n] w fun e w' => e = .returned (.int .i64 (nw n)) ∧ w = w' := by
  go_enter Try.func40, Try.ntmps40
  go_wp2
  go_ret
  exact ⟨congrArg (fun z => Ending.returned (.int .i64 z)) (by unfold nw; omega), rfl⟩
def bitAt (us : List Nat) (i : Nat) : Nat := us.getD (i / 64) 0 / 2 ^ (i % 64) % 2
theorem bit_any (n : Int) (A : Option Addr) (l c i : Nat) (us : List Nat) (w : World) (hu : Words w A l us) (hi : i < 64 * l) (hl : l ≤ 1000000) :
    Calls Try.prog 41 #[.agg #[.int .i64 n, .slice A l c], .int .i64 i] w fun e w' => e = .returned (.int .i64 (bitAt us i : Nat)) ∧ Below w.heap.size w w' := by
  obtain ⟨b, o, rfl, hlt, hc⟩ := hu.2.2 (by omega)
  have c1 := hc (i / 64) (by omega)
  have hx := hu.2.1 (i / 64)
  have HV : Hid ((((us.getD (i / 64) 0 : Nat) : Int) / 2 ^ (i % 64)) % 2 = ((bitAt us i : Nat) : Int)) := by
    show _ = _
    unfold bitAt
    have e : ((us.getD (i / 64) 0 : Nat) : Int) / 2 ^ (i % 64) = ((us.getD (i / 64) 0 / 2 ^ (i % 64) : Nat) : Int) := by simp [Int.natCast_ediv]
    rw [e]; omega
  generalize us.getD (i / 64) 0 = x at *
  have hle : (x : Int) / 2 ^ (i % 64) ≤ x := by
    have e : (x : Int) / 2 ^ (i % 64) = ((x / 2 ^ (i % 64) : Nat) : Int) := by simp [Int.natCast_ediv]
    rw [e]
    have := Nat.div_le_self x (2 ^ (i % 64))
    omega
  have hge : 0 ≤ (x : Int) / 2 ^ (i % 64) := by
    have e : (x : Int) / 2 ^ (i % 64) = ((x / 2 ^ (i % 64) : Nat) : Int) := by simp [Int.natCast_ediv]
    rw [e]; exact Int.natCast_nonneg _
  clear hc hu
  go_enter Try.func41, Try.ntmps41
  go_wp2
  go_ret
  exact ⟨congrArg (fun z => Ending.returned (.int .i64 z)) HV.out, (Below.refl _ _).alloc (Nat.le_refl _) _⟩
theorem rightB_core (n l : Nat) (us : List Nat) (h : lmb n = true) (hl : us.length = l) (hn : l = nw n) : rightB n us = (n % 64 == 0 || us.getD (l - 1) 0 / 2 ^ (n % 64) == 0) := by
  unfold rightB
  rw [h, Int.toNat_natCast, hl, hn]
  simp
theorem right_of_bits (n l : Nat) (us : List Nat) (h : lmb n = true) (hl : us.length = l) (hn : l = nw n) (hlt : ∀ j, us.getD j 0 < 18446744073709551616) (hb : ∀ i, n ≤ i → i < 64 * l → bitAt us i = 0) : rightB n us = true := by
  rw [rightB_core n l us h hl hn]
  by_cases h0 : n % 64 = 0
  · simp [h0]
  · have hp : 1 ≤ l := by rw [hn]; unfold nw; omega
    have hd : n / 64 = l - 1 := by rw [hn]; unfold nw; omega
    have : us.getD (l - 1) 0 < 2 ^ (n % 64) := by
      apply Nat.lt_pow_two_of_testBit
      intro i hi
      by_cases hi64 : i < 64
      · have := hb (64 * (l - 1) + i) (by omega) (by omega)
        unfold bitAt at this
        rw [show (64 * (l - 1) + i) / 64 = l - 1 by omega, show (64 * (l - 1) + i) % 64 = i by omega] at this
        rw [Nat.testBit_eq_decide_div_mod_eq, this]
        rfl
      · exact Nat.testBit_lt_two_pow (Nat.lt_of_lt_of_le (hlt (l - 1)) (show 2 ^ 64 ≤ 2 ^ i from Nat.pow_le_pow_right (by omega) (by omega)))
    have e : us.getD (l - 1) 0 / 2 ^ (n % 64) = 0 := Nat.div_eq_of_lt this
    rw [e]; simp
theorem not_right_of_bit (n l i : Nat) (us : List Nat) (h : lmb n = true) (hl : us.length = l) (hn : l = nw n) (h1 : n ≤ i) (h2 : i < 64 * l) (hb : bitAt us i = 1) : rightB n us = false := by
  rw [rightB_core n l us h hl hn]
  have hnw : nw n = (n + 63) / 64 := rfl
  have h0 : ¬ n % 64 = 0 := by omega
  have hd : i / 64 = l - 1 := by omega
  have hr : n % 64 ≤ i % 64 := by omega
  unfold bitAt at hb
  rw [hd] at hb
  have hne : us.getD (l - 1) 0 / 2 ^ (n % 64) ≠ 0 := by
    intro e
    have hp : 0 < 2 ^ (n % 64) := Nat.two_pow_pos _
    have hlt : us.getD (l - 1) 0 < 2 ^ (n % 64) := by
      rcases Nat.div_eq_zero_iff.1 e with h | h
      · omega
      · exact h
    have : us.getD (l - 1) 0 / 2 ^ (i % 64) = 0 := Nat.div_eq_of_lt (Nat.lt_of_lt_of_le hlt (Nat.pow_le_pow_right (by omega) hr))
    rw [this] at hb
    simp at hb
  have e1 : (n % 64 == 0) = false := by simpa using h0
  have e2 : (us.getD (l - 1) 0 / 2 ^ (n % 64) == 0) = false := by rw [beq_eq_false_iff_ne]; exact hne
  rw [e1, e2]; rfl
theorem bitAt_le (us : List Nat) (i : Nat) : bitAt us i = 0 ∨ bitAt us i = 1 := by unfold bitAt; omega
set_option maxHeartbeats 400000 in
theorem refRight_any (n : Int) (A : Option Addr) (l c : Nat) (us : List Nat) (w : World) (hw : Words w A l us) :
    Calls Try.prog 17 #[.agg #[.int .i64 n, .slice A l c]] w fun e w' => e = .returned (.bool (rightB n us)) ∧ Below w.heap.size w w' := by
  have Q := Lib.hid (Box.new w 40 #[.int .i64 n, .slice A l c])
  have HW := Lib.hid (show Below w.heap.size w (w.alloc (.cells #[.int .i64 n, .slice A l c] 40)) from (Below.refl _ _).alloc (Nat.le_refl _) _)
  have HU := Lib.hid hw
  clear hw
  by_cases h0 : n < 0
  · have HF : Hid (rightB n us = false) := by
      show rightB n us = false
      unfold rightB
      rw [(lmb_no n).2 (by omega)]; rfl
    have t : decide (n < 0) = true := by simpa using h0
    go_enter Try.func17, Try.ntmps17
    go_wp2_with fail
    go_quiet (fail)
    go_wp2
    go_ret
    exact ⟨by rw [HF.out]; rfl, bdN HW.out _⟩
  · have t : decide (n < 0) = false := by simpa using h0
    by_cases h1 : 512 < n
    · have HF : Hid (rightB n us = false) := by
        show rightB n us = false
        unfold rightB
        rw [(lmb_no n).2 (by omega)]; rfl
      have t1 : decide (512 < n) = true := by simpa using h1
      go_enter Try.func17, Try.ntmps17
      go_wp2_with fail
      go_quiet (fail)
      go_wp2
      go_ret
      exact ⟨by rw [HF.out]; rfl, bdN HW.out _⟩
    · obtain ⟨m, rfl⟩ := Int.eq_ofNat_of_zero_le (show 0 ≤ n by omega)
      have t1 : decide ((512 : Int) < (m : Int)) = false := by simpa using h1
      have hlm : lmb m = true := (lmb_iff m).2 ⟨by omega, by omega⟩
      have HLM := Lib.hid hlm
      have H2 := Lib.hid (refWords_any m (by omega))
      clear hlm
      by_cases hl : l = nw m
      · have t2 : ((l : Int) != (nw m : Int)) = false := by simp [hl]
        have hnw : nw m ≤ 8 := by unfold nw; omega
        have hl8 : l ≤ 8 := by omega
        have HL := Lib.hid hl
        clear hl hnw
        have hm64 : m ≤ 512 := by omega
        go_enter Try.func17, Try.ntmps17
        go_wp2_with fail
        go_quiet ((go_at_call 40; exact quiet_w (H2.out _)))
        go_wp2
        clear t t1 t2
        go_loopw [3] (fun s wr => ∃ i : Nat, m ≤ i ∧ i ≤ 64 * l + 1000 ∧ s = .int .i64 i ∧ (∀ k, m ≤ k → k < i → bitAt us k = 0) ∧ Box wr w.heap.size 40 #[.int .i64 m, .slice A l c] ∧ Below w.heap.size w wr)
          (fun s _ => 64 * l + 1000 - (intOf s).toNat)
        case atStart => exact ⟨m, Nat.le_refl _, by omega, rfl, fun k h1 h2 => by omega, Q.out.drewN _, bdN HW.out _⟩
        case round =>
          obtain ⟨i, hi1, hi2, rfl, hz, B0, hbel⟩ := hrel
          have R0 := Lib.hid B0
          have HB := Lib.hid hbel
          have HZ := Lib.hid hz
          clear B0 hbel hz Q HW
          obtain ⟨a0, a1, -, -⟩ := R0.out.two
          by_cases hlt : i < 64 * l
          · have hlt' : (i : Int) < 64 * (l : Int) := by omega
            go_wp2_with fail
            refine (bit_any _ A l c i us _ (HU.out.below HB.out) hlt (by omega)).mono ?_
            rintro e w1 ⟨rfl, hb⟩
            have R1 := Lib.hid (R0.out.keep hb)
            have HC := Lib.hid (chain HB.out hb)
            clear hb a0 a1
            rcases bitAt_le us i with hb | hb
            · have HV := Lib.hid hb
              rw [hb]
              clear hb
              go_wp2
              go_roundw
              case rel =>
                refine ⟨i + 1, by omega, by omega, by go_num, fun k h1 h2 => ?_, R1.out, HC.out⟩
                by_cases h : k = i
                · rw [h]; exact HV.out
                · exact HZ.out k h1 (by omega)
              case measure => simp [intOf]; omega
            · have HF := Lib.hid (not_right_of_bit m l i us HLM.out HU.out.1 HL.out hi1 hlt hb)
              rw [hb]
              clear hb
              go_wp2
              go_ret
              exact ⟨by rw [HF.out]; rfl, HC.out⟩
          · have hlt' : ¬ (i : Int) < 64 * (l : Int) := by omega
            have HF := Lib.hid (right_of_bits m l us HLM.out HU.out.1 HL.out HU.out.2.1 (fun k h1 h2 => HZ.out k h1 (by omega)))
            go_wp2
            go_ret
            exact ⟨by rw [HF.out]; rfl, HB.out⟩
      · have t2 : ((l : Int) != (nw m : Int)) = true := by rw [bne_iff_ne]; omega
        have HF : Hid (rightB m us = false) := by
          show rightB m us = false
          unfold rightB
          have : (us.length == nw m) = false := by rw [HU.out.1]; simpa using hl
          rw [HLM.out, Int.toNat_natCast, this]; rfl
        go_enter Try.func17, Try.ntmps17
        go_wp2_with fail
        go_quiet ((go_at_call 40; exact quiet_w (H2.out _)))
        go_wp2
        go_ret
        exact ⟨by rw [HF.out]; rfl, bdN HW.out _⟩
end
section
/- Contract of the reference's From: a row of bits. -/
set_option linter.unusedVariables false
set_option linter.unusedSimpArgs false
open Go.RowKit
def accM (b : Nat → Bool) (i : Nat) : Nat → Nat
  | 0 => 0
  | m + 1 => 2 * accM b i m + if b (64 * i + (63 - m)) then 1 else 0
theorem accM_lt (b : Nat → Bool) (i m : Nat) : accM b i m < 2 ^ m := by
  induction m with
  | zero => simp [accM]
  | succ m ih =>
    simp only [accM, Nat.pow_succ]
    split <;> omega
def bitsOf (zs : List Int) (j : Nat) : Bool := decide (j < zs.length) && zs.getD j 0 == 1
def fromL (b : Nat → Bool) (k : Nat) : List Nat := (List.range k).map fun i => accM b i 64
theorem fromL_lt (b : Nat → Bool) (k j : Nat) : (fromL b k).getD j 0 < 18446744073709551616 := by
  unfold fromL
  simp only [List.getD, List.getElem?_map, List.getElem?_range]
  by_cases h : j < k
  · simp [h]
    exact accM_lt b j 64
  · simp [h]
theorem fromL_succ (b : Nat → Bool) (k : Nat) : fromL b (k + 1) = fromL b k ++ [accM b k 64] := by simp [fromL, List.range_succ]
theorem fromL_len (b : Nat → Bool) (k : Nat) : (fromL b k).length = k := by simp [fromL]
theorem u64_info : (Try.prog.info? 68).map (fun i => (i.zero, i.size, i.bytes)) = some (some (.int .u64 0), 1, 8) := by kernel_rfl
set_option maxHeartbeats 1000000 in
theorem from_any (A : Option Addr) (l c : Nat) (zs : List Int) (w : World) (hz : Ints w A l zs) (hl : l ≤ 10000) :
    Calls Try.prog 68 #[.slice A l c] w (OneRow l (fromL (bitsOf zs) (nw l)) w) := by
  obtain ⟨i0, hi, hz0, hz1, hz2⟩ := info_parts u64_info
  have hnw : nw l ≤ 1000 := by unfold nw; omega
  have Q0 := Lib.hid ((Box.new w 40 #[.int .i64 0, .slice none 0 0]).alloc (.cells #[.int .i64 l, .slice none 0 0] 40))
  have q1 := Box.new (w.alloc (.cells #[.int .i64 0, .slice none 0 0] 40)) 40 #[.int .i64 l, .slice none 0 0]
  simp only [World.size_alloc] at q1
  have Q1 := Lib.hid q1
  have HW := Lib.hid (show Below w.heap.size w ((w.alloc (.cells #[.int .i64 0, .slice none 0 0] 40)).alloc (.cells #[.int .i64 l, .slice none 0 0] 40)) from ((Below.refl _ _).alloc (Nat.le_refl _) _).alloc (by simp) _)
  have HZ := Lib.hid hz
  clear hz q1
  have HI := Lib.hid hi
  have HZ0 := Lib.hid hz0
  have HZ1 := Lib.hid hz1
  have HZ2 := Lib.hid hz2
  clear hi hz0 hz1 hz2
  go_enter Try.func68, Try.ntmps68
  go_wp2
  go_loopw [4] (fun t wr => ∃ (i : Nat) (v : Value), i ≤ nw l ∧ t = .int .i64 i ∧ Box wr (w.heap.size + 1) 40 #[.int .i64 l, v] ∧ wr.ownsRow w.heap.size 68 1 v i ((fromL (bitsOf zs) i).map fun (x : Nat) => Value.int .u64 (x : Int)) ∧ Box wr w.heap.size 40 #[.int .i64 0, .slice none 0 0] ∧ Below w.heap.size w wr)
    (fun t _ => nw l - (intOf t).toNat)
  case atStart => exact ⟨0, _, by omega, rfl, Q1.out, World.ownsRow_nil _ _ _ _, Q0.out, HW.out⟩
  case round =>
    obtain ⟨i, v, hi, rfl, B1, hown, B0, hbel⟩ := hrel
    have R1 := Lib.hid B1
    have R0 := Lib.hid B0
    have HO := Lib.hid hown
    have HB := Lib.hid hbel
    clear B1 B0 hown hbel Q0 Q1 HW
    by_cases hlt : i < nw l
    · go_wp2_with fail
      refine (refWords_any l (by omega) _).mono ?_
      rintro e w' ⟨rfl, rfl⟩
      go_wp2
      go_loop [6, 5] (fun s x => ∃ k : Nat, k ≤ 64 ∧ s = .int .i64 ((k : Int) - 1) ∧ x = .int .u64 (accM (bitsOf zs) i (64 - k) : Nat)) (fun s _ => (intOf s + 1).toNat)
      case atStart => exact ⟨64, by omega, rfl, rfl⟩
      case round =>
        obtain ⟨k, hk, rfl, rfl⟩ := hrel
        cases k with
        | zero =>
          obtain ⟨A', c', rfl, hA'⟩ := own_form HO.out
          obtain ⟨a0, a1, f0, f1⟩ := R1.out.two
          have hz := R1.out.lt
          have hacc := accM_lt (bitsOf zs) i 64
          generalize hX : accM (bitsOf zs) i (64 - 0) = x at *
          have HX := Lib.hid hX
          clear hX
          have hi' := HI.out
          have hz0' := HZ0.out
          have hz1' := HZ1.out
          have hz2' := HZ2.out
          have hne : (68 : TypeId) ≠ 40 := by decide
          have X1 := Lib.hid (R1.out.alloc (.cells #[.int .u64 (x : Int)] 68))
          have X0 := Lib.hid (R0.out.alloc (.cells #[.int .u64 (x : Int)] 68))
          have XO := Lib.hid (HO.out.alloc (.cells #[.int .u64 (x : Int)] 68))
          have XB := Lib.hid (HB.out.alloc HB.out.size (.cells #[.int .u64 (x : Int)] 68))
          have N1 := Lib.hid (own_ne XO.out X1.out hne)
          have N0 := Lib.hid (own_ne XO.out X0.out hne)
          have hsz : w.heap.size ≤ (wr.alloc (.cells #[.int .u64 (x : Int)] 68)).heap.size := XB.out.size
          have HSZ := Lib.hid hsz
          have N2 := Lib.hid (fun k hk => (HO.out.lt k hk).1)
          clear hsz hne
          go_wp2_with (at_builtin; refine wpList_append_own _ rfl _ _ 38 rfl w.heap.size 68 i0 (.int .u64 0) 1 8 Try.underlying38 hi' hz0' hz1' hz2' rfl (by decide) _ _ _ rfl XO.out ⟨wr.heap.size, 0, none⟩ 1 1 [.int .u64 (x : Int)] rfl rfl (cell_one_new _ _ _) (by simp [Value.oneCell']) (by simp [maxLen]; omega) (by omega) HSZ.out ?_; intro v' w1 hown' hgrow _; obtain ⟨A2, c2, rfl, hA2⟩ := own_form hown'; have S1 := Lib.hid (X1.out.grown hgrow N1.out); have S0 := Lib.hid (X0.out.grown hgrow N0.out); have HC := Lib.hid (XB.out.grown hgrow HSZ.out N2.out); have HO2 := Lib.hid hown'; clear hown' hgrow hA2; obtain ⟨e0, e1, g0, g1⟩ := S1.out.two)
          go_roundw
          case rel =>
            refine ⟨i + 1, _, by omega, by go_num, S1.out.put 1 _, ?_, S0.out.far (p := ⟨w.heap.size + 1, 1, none⟩) (by simp) _, HC.out.setCell (p := ⟨w.heap.size + 1, 1, none⟩) (by simp) _⟩
            have h1 := HO2.out
            rw [fromL_succ, List.map_append]
            have h2 : (accM (bitsOf zs) i 64) = x := HX.out
            rw [List.map_cons, List.map_nil, h2]
            exact own_far h1 S1.out (by decide) 1 _
          case measure => simp [intOf] <;> omega
        | succ j =>
          rw [show (((j + 1 : Nat) : Int) - 1) = (j : Int) by omega]
          have hx := accM_lt (bitsOf zs) i (64 - (j + 1))
          have hp : 2 ^ (64 - (j + 1)) ≤ 2 ^ 63 := Nat.pow_le_pow_right (by omega) (by omega)
          have hx2 : accM (bitsOf zs) i (64 - (j + 1)) < 9223372036854775808 := by omega
          have HS : Hid (accM (bitsOf zs) i (64 - j) = 2 * accM (bitsOf zs) i (64 - (j + 1)) + if bitsOf zs (64 * i + j) then 1 else 0) := by
            show _ = _
            rw [show 64 - j = (64 - (j + 1)) + 1 by omega]
            simp only [accM]
            rw [show 63 - (64 - (j + 1)) = j by omega]
          clear hx hp
          generalize accM (bitsOf zs) i (64 - (j + 1)) = x at *
          by_cases hin : 64 * i + j < l
          · obtain ⟨b, o, rfl, hlb, hc⟩ := HZ.out.2.2 (by omega)
            have cz := (HB.out.cell (p := ⟨b, o + (64 * i + j), none⟩) hlb).trans (hc (64 * i + j) hin)
            have hin' : 64 * (i : Int) + j < l := by omega
            obtain ⟨y, ey⟩ : ∃ y, y = zs.getD (64 * i + j) 0 := ⟨_, rfl⟩
            rw [← ey] at cz
            have EY := Lib.hid ey
            clear ey hc
            by_cases hy : y = 1
            · have t1 : (y == 1) = true := by simpa using hy
              clear hy
              have HB1 : Hid (bitsOf zs (64 * i + j) = true) := by
                show bitsOf zs (64 * i + j) = true
                unfold bitsOf
                rw [← EY.out, t1, HZ.out.1]
                simpa using hin
              go_wp2
              go_round
              case rel => exact ⟨j, by omega, rfl, by rw [HS.out, HB1.out]; first | rfl | go_num⟩
              case measure => simp [intOf] <;> omega
            · have t1 : (y == 1) = false := by simpa using hy
              clear hy
              have HB1 : Hid (bitsOf zs (64 * i + j) = false) := by
                show bitsOf zs (64 * i + j) = false
                unfold bitsOf
                rw [← EY.out, t1]; simp
              go_wp2
              go_round
              case rel => exact ⟨j, by omega, rfl, by rw [HS.out, HB1.out]; first | rfl | go_num⟩
              case measure => simp [intOf] <;> omega
          · have hin' : ¬ 64 * (i : Int) + j < l := by omega
            have HB1 : Hid (bitsOf zs (64 * i + j) = false) := by
              show bitsOf zs (64 * i + j) = false
              unfold bitsOf
              rw [HZ.out.1]; simp; omega
            go_wp2
            go_round
            case rel => exact ⟨j, by omega, rfl, by rw [HS.out, HB1.out]; first | rfl | go_num⟩
            case measure => simp [intOf] <;> omega
    · obtain rfl : i = nw l := by omega
      obtain ⟨A', c', rfl, hA'⟩ := own_form HO.out
      obtain ⟨a0, a1, -, -⟩ := R1.out.two
      obtain ⟨b0, b1, f0, f1⟩ := R0.out.two
      go_wp2_with fail
      refine (refWords_any l (by omega) _).mono ?_
      rintro e w' ⟨rfl, rfl⟩
      go_wp2
      refine close_one Try.results68 rfl rfl R0.out.put2 Try.underlying40 rfl (by kernel_rfl) ⟨_, _, _, rfl, ?_, ?_⟩
      · exact (own_words HO.out (fromL_lt _ _)).put2 R0.out _ _
      · exact (HB.out.setCell (p := ⟨w.heap.size, 0, none⟩) (Nat.le_refl _) _).setCell (p := ⟨w.heap.size, 1, none⟩) (Nat.le_refl _) _
end
end Go.Proofs.Ytdfmogcgangdnaa
