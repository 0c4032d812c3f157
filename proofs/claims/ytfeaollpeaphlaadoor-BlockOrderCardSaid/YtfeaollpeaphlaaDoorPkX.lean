/- BlockPicks: the walk. -/
import Derived.Test.YtfeaollpeaphlaaDoorPick
import Derived.Test.YtfeaollpeaphlaaDoorRefSum
import Derived.Test.YtfeaollpeaphlaaDoorHTail
namespace Go.Proofs.YtfeaollpeaphlaaDoor
set_option linter.unusedVariables false
set_option linter.unusedSimpArgs false
open Go.RowKit
theorem sumL_snoc1 (n : Nat) (L : List ByteArray) (s : ByteArray) : sumL n (L ++ [s]) = bxL (sumL n L) s.data.toList := by simp [sumL]
theorem bxL_get (l t : List UInt8) (i : Nat) (h : i < l.length) : (bxL l t).getD i 0 = l.getD i 0 ^^^ t.getD i 0 := by simp [bxL, List.getD, h]
theorem bsum_bits (n : Nat) (ss : List ByteArray) (us : List Nat) (N i k : Nat) (hi : i < n) (hk : k ≤ N) : bsum ss (bitsL us N) i k = (sumL n (picks ss (plcN us k))).getD i 0 := by
  induction k with
  | zero => simp [bsum, plcN, picks, sumL, List.getD, hi]
  | succ k ih =>
    have ih := ih (by omega)
    have hb := bitsL_get us N k (by omega)
    rw [plcN_succ]
    simp only [bsum]
    rw [hb]
    rcases bitAt_le us k with h | h
    · rw [h, if_neg (by omega)]
      simpa using ih
    · rw [h, if_pos rfl, if_pos (by decide), show picks ss (plcN us k ++ [k]) = picks ss (plcN us k) ++ [ss.getD k ByteArray.empty] by simp [picks], sumL_snoc1, bxL_get _ _ _ (by rw [sumL_length]; exact hi), ih]
theorem bsums_bits (n : Nat) (ss : List ByteArray) (us : List Nat) (N : Nat) : bsums ss (bitsL us N) N n = sumL n (picks ss (plcN us N)) := by
  apply List.ext_getElem
  · simp [bsums, sumL_length]
  · intro i h1 h2
    have hi : i < n := by simpa [bsums] using h1
    have := bsum_bits n ss us N i N hi (Nat.le_refl _)
    simp only [bsums, List.getElem_map, List.getElem_range, this]
    simp [List.getD, h2]
theorem Texts.far {w : World} {A : Option Addr} {len : Nat} {ss : List ByteArray} {g : Nat} {t : TypeId} {x : Int} {S : Option Addr} {p q : Nat} (h : Texts w A len ss) (hb : Box w g t #[.int .i64 x, .slice S p q]) (i : Nat) (u : Value) : Texts (w.setCell ⟨g, i, none⟩ u) A len ss := by
  refine ⟨h.1, h.2.1, fun hp => ?_⟩
  obtain ⟨b, off, rfl, hlt, hc⟩ := h.2.2 hp
  have hne : b ≠ g := by
    intro e
    subst e
    have c := hc 0 hp
    rw [hb.cell] at c
    match off, c with
    | 0, c => simp at c
    | 1, c => simp at c
    | k + 2, c => simp at c
  refine ⟨b, off, rfl, by simpa [World.setCell] using hlt, fun j hj => ?_⟩
  rw [World.cell?_setCell_other _ _ _ _ (by intro e; injection e; omega)]
  exact hc j hj
theorem Texts.drewT {w : World} {A : Option Addr} {len : Nat} {ss : List ByteArray} (h : Texts w A len ss) : Texts w.drew A len ss := h
theorem strB_ne (l : List UInt8) (h : l ≠ []) : True := trivial
set_option maxRecDepth 100000 in
set_option maxHeartbeats 8000000 in
theorem picks_walk (n : Int) (A0 : Option Addr) (l0 c0 : Nat) (ss : List ByteArray) (N : Int) (Bw : Option Addr) (k0 d : Nat) (us : List Nat) (w : World)
    (s0 : SliceOk A0 l0 c0) (s1 : SliceOk Bw k0 d) (h0 : Texts w A0 l0 ss) (h1 : Words w Bw k0 us) (hT : TabAt w 0) :
    Calls Tryd.prog 5 #[.int .i64 n, .slice A0 l0 c0, .agg #[.int .i64 N, .slice Bw k0 d]] w fun e w' => e = .returned (.bool true) ∧ Below w.heap.size w w' := by
  have hW : Below w.heap.size w (w.alloc (.cells #[.int .i64 N, .slice Bw k0 d] 24)) := (Below.refl _ _).alloc (Nat.le_refl _) _
  have Q := Lib.hid (Box.new w 24 #[.int .i64 N, .slice Bw k0 d])
  have HF := Lib.hid (fewT_any A0 l0 c0 ss _ (h0.below hW).drewT s0)
  have HW := Lib.hid hW
  have HU := Lib.hid h1
  have HT := Lib.hid hT
  have HS1 := Lib.hid s1
  obtain ⟨r0, r1, -, -⟩ := Q.out.two
  clear hW h0 h1 hT s0 s1
  go_enter Tryd.func5, Tryd.ntmps5
  go_wp2_with fail
  go_cut [1] (fun v wx => ∃ A1 l1 c1 k1, v = .slice A1 l1 c1 ∧ l1 ≤ c1 ∧ c1 ≤ maxLen ∧ Texts wx A1 l1 (cuts ss 66) ∧ Box wx w.heap.size 24 #[.int .i64 N, .slice Bw k1 d] ∧ Words wx Bw k1 (us.take 10) ∧ Below w.heap.size w wx)
  case first =>
    obtain ⟨hs1, hs2, hs3⟩ := HS1.out
    unfold maxLen at hs2
    cases Bw with
    | none =>
      obtain ⟨rfl, rfl⟩ := hs3 rfl
      have hus : us = [] := List.length_eq_zero_iff.1 HU.out.1
      subst hus
      refine wp_held_tail (S := fun w' => w'.cell? ⟨w.heap.size, 1, none⟩ = some (.slice none 0 0)) 11 (by kernel_rfl) (by decide) ?_
      have hS : World.cell? (World.drew (w.alloc (.cells #[.int .i64 N, .slice none 0 0] 24))) ⟨w.heap.size, 1, none⟩ = some (.slice none 0 0) := r1
      refine headH_take (i := 0) (v := ?_) rfl (by kernel_rfl) (fun _ _ _ h => h) (fun _ _ _ h => seqB_ready h.1) (Or.inl ⟨by rfl, ?hy1⟩) hS ?rest1
      case hy1 => intro w hSw; (try dsimp only at hSw); go_simp; try (with_reducible rfl)
      case rest1 =>
      try simp only [Act.put, List.setIfInBounds_toArray, List.set_cons_zero, List.set_cons_succ]
      refine headH_take (i := 2) (v := ?_) rfl (by kernel_rfl) (fun _ _ _ h => h) (fun _ _ _ h => seqB_ready h.1) (Or.inl ⟨by rfl, ?hy2⟩) hS ?rest2
      case hy2 => intro w hSw; (try dsimp only at hSw); go_simp; try (with_reducible rfl)
      case rest2 =>
      try simp only [Act.put, List.setIfInBounds_toArray, List.set_cons_zero, List.set_cons_succ]
      refine headH_take (i := 3) (v := ?_) rfl (by kernel_rfl) (fun _ _ _ h => h) (fun _ _ _ h => seqB_ready h.1) (Or.inl ⟨by rfl, ?hy3⟩) hS ?rest3
      case hy3 => intro w hSw; (try dsimp only at hSw); go_simp; try (with_reducible rfl)
      case rest3 =>
      try simp only [Act.put, List.setIfInBounds_toArray, List.set_cons_zero, List.set_cons_succ]
      refine headH_take (i := 4) (v := ?_) rfl (by kernel_rfl) (fun _ _ _ h => h) (fun _ _ _ h => seqB_ready h.1) (Or.inl ⟨by rfl, ?hy4⟩) hS ?rest4
      case hy4 => intro w hSw; (try dsimp only at hSw); go_simp; try (with_reducible rfl)
      case rest4 =>
      try simp only [Act.put, List.setIfInBounds_toArray, List.set_cons_zero, List.set_cons_succ]
      refine headH_take (i := 5) (v := ?_) rfl (by kernel_rfl) (fun _ _ _ h => h) (fun _ _ _ h => seqB_ready h.1) (Or.inl ⟨by rfl, ?hy5⟩) hS ?rest5
      case hy5 => intro w hSw; (try dsimp only at hSw); go_simp; try (with_reducible rfl)
      case rest5 =>
      try simp only [Act.put, List.setIfInBounds_toArray, List.set_cons_zero, List.set_cons_succ]
      refine headH_take (i := 6) (v := ?_) rfl (by kernel_rfl) (fun _ _ _ h => h) (fun _ _ _ h => seqB_ready h.1) (Or.inl ⟨by rfl, ?hy6⟩) hS ?rest6
      case hy6 => intro w hSw; (try dsimp only at hSw); go_simp; try (with_reducible rfl)
      case rest6 =>
      try simp only [Act.put, List.setIfInBounds_toArray, List.set_cons_zero, List.set_cons_succ]
      refine headH_take (i := 7) (v := ?_) rfl (by kernel_rfl) (fun _ _ _ h => h) (fun _ _ _ h => seqB_ready h.1) (Or.inl ⟨by rfl, ?hy7⟩) hS ?rest7
      case hy7 => intro w hSw; (try dsimp only at hSw); go_simp; try (with_reducible rfl)
      case rest7 =>
      try simp only [Act.put, List.setIfInBounds_toArray, List.set_cons_zero, List.set_cons_succ]
      refine headH_take (i := 8) (v := ?_) rfl (by kernel_rfl) (fun _ _ _ h => h) (fun _ _ _ h => seqB_ready h.1) (Or.inl ⟨by rfl, ?hy8⟩) hS ?rest8
      case hy8 => intro w hSw; (try dsimp only at hSw); go_simp; try (with_reducible rfl)
      case rest8 =>
      try simp only [Act.put, List.setIfInBounds_toArray, List.set_cons_zero, List.set_cons_succ]
      refine headH_one (i := 1) (by kernel_rfl) rfl (fun K hK => ?_)
      go_simp
      refine HF.out.mono ?_
      rintro e1 x1 ⟨A1, c1, rfl, q1, q2, q3, hb⟩
      have P := Lib.hid (Q.out.drew.keep hb)
      have B1 := Lib.hid (chain HW.out.drew hb)
      have HX := Lib.hid q3
      clear hb q3 hS
      obtain ⟨p0, p1, f0, f1⟩ := P.out.two
      refine hK.out _ _ p1 (fun hS => ?_)
      clear hK K
      refine headH_take (i := 9) (v := ?_) rfl (by kernel_rfl) (fun _ _ _ h => h) (fun _ _ _ h => seqB_ready h.1) (Or.inl ⟨by rfl, ?hy9⟩) hS ?rest9
      case hy9 => intro w hSw; (try dsimp only at hSw); go_simp; try (with_reducible rfl)
      case rest9 =>
      try simp only [Act.put, List.setIfInBounds_toArray, List.set_cons_zero, List.set_cons_succ]
      refine headH_take (i := 10) (v := ?_) rfl (by kernel_rfl) (fun _ _ _ h => h) (fun _ _ _ h => seqB_ready h.1) (Or.inl ⟨by rfl, ?hy10⟩) hS ?rest10
      case hy10 => intro w hSw; (try dsimp only at hSw); go_simp; try (with_reducible rfl)
      case rest10 =>
      try simp only [Act.put, List.setIfInBounds_toArray, List.set_cons_zero, List.set_cons_succ]
      refine ⟨by kernel_rfl, ?_⟩
      go_wp2_with fail
      go_meet
      exact ⟨A1, _, c1, 0, rfl, q1, q2, HX.out.far P.out 1 _, P.out.put 1 _, Words.nil _ _, B1.out.setCell (p := ⟨w.heap.size, 1, none⟩) (Nat.le_refl _) _⟩
    | some ad =>
      by_cases h10 : k0 ≤ 10
      · have g1 : (k0 : Int) ≤ 10 := by omega
        have g2 : ¬ (10 : Int) < k0 := by omega
        refine wp_held_tail (S := fun w' => w'.cell? ⟨w.heap.size, 1, none⟩ = some (.slice (some ad) k0 d)) 11 (by kernel_rfl) (by decide) ?_
        have hS : World.cell? (World.drew (w.alloc (.cells #[.int .i64 N, .slice (some ad) k0 d] 24))) ⟨w.heap.size, 1, none⟩ = some (.slice (some ad) k0 d) := r1
        refine headH_take (i := 0) (v := ?_) rfl (by kernel_rfl) (fun _ _ _ h => h) (fun _ _ _ h => seqB_ready h.1) (Or.inl ⟨by rfl, ?hy11⟩) hS ?rest11
        case hy11 => intro w hSw; (try dsimp only at hSw); go_simp; try (with_reducible rfl)
        case rest11 =>
        try simp only [Act.put, List.setIfInBounds_toArray, List.set_cons_zero, List.set_cons_succ]
        refine headH_take (i := 2) (v := ?_) rfl (by kernel_rfl) (fun _ _ _ h => h) (fun _ _ _ h => seqB_ready h.1) (Or.inl ⟨by rfl, ?hy12⟩) hS ?rest12
        case hy12 => intro w hSw; (try dsimp only at hSw); go_simp; try (with_reducible rfl)
        case rest12 =>
        try simp only [Act.put, List.setIfInBounds_toArray, List.set_cons_zero, List.set_cons_succ]
        refine headH_take (i := 3) (v := ?_) rfl (by kernel_rfl) (fun _ _ _ h => h) (fun _ _ _ h => seqB_ready h.1) (Or.inl ⟨by rfl, ?hy13⟩) hS ?rest13
        case hy13 => intro w hSw; (try dsimp only at hSw); go_simp; try (with_reducible rfl)
        case rest13 =>
        try simp only [Act.put, List.setIfInBounds_toArray, List.set_cons_zero, List.set_cons_succ]
        refine headH_take (i := 4) (v := ?_) rfl (by kernel_rfl) (fun _ _ _ h => h) (fun _ _ _ h => seqB_ready h.1) (Or.inl ⟨by rfl, ?hy14⟩) hS ?rest14
        case hy14 => intro w hSw; (try dsimp only at hSw); go_simp; try (with_reducible rfl)
        case rest14 =>
        try simp only [Act.put, List.setIfInBounds_toArray, List.set_cons_zero, List.set_cons_succ]
        refine headH_take (i := 5) (v := ?_) rfl (by kernel_rfl) (fun _ _ _ h => h) (fun _ _ _ h => seqB_ready h.1) (Or.inl ⟨by rfl, ?hy15⟩) hS ?rest15
        case hy15 => intro w hSw; (try dsimp only at hSw); go_simp; try (with_reducible rfl)
        case rest15 =>
        try simp only [Act.put, List.setIfInBounds_toArray, List.set_cons_zero, List.set_cons_succ]
        refine headH_take (i := 6) (v := ?_) rfl (by kernel_rfl) (fun _ _ _ h => h) (fun _ _ _ h => seqB_ready h.1) (Or.inl ⟨by rfl, ?hy16⟩) hS ?rest16
        case hy16 => intro w hSw; (try dsimp only at hSw); go_simp; try (with_reducible rfl)
        case rest16 =>
        try simp only [Act.put, List.setIfInBounds_toArray, List.set_cons_zero, List.set_cons_succ]
        refine headH_take (i := 7) (v := ?_) rfl (by kernel_rfl) (fun _ _ _ h => h) (fun _ _ _ h => seqB_ready h.1) (Or.inl ⟨by rfl, ?hy17⟩) hS ?rest17
        case hy17 => intro w hSw; (try dsimp only at hSw); go_simp; try (with_reducible rfl)
        case rest17 =>
        try simp only [Act.put, List.setIfInBounds_toArray, List.set_cons_zero, List.set_cons_succ]
        refine headH_take (i := 8) (v := ?_) rfl (by kernel_rfl) (fun _ _ _ h => h) (fun _ _ _ h => seqB_ready h.1) (Or.inl ⟨by rfl, ?hy18⟩) hS ?rest18
        case hy18 => intro w hSw; (try dsimp only at hSw); go_simp; try (with_reducible rfl)
        case rest18 =>
        try simp only [Act.put, List.setIfInBounds_toArray, List.set_cons_zero, List.set_cons_succ]
        refine headH_one (i := 1) (by kernel_rfl) rfl (fun K hK => ?_)
        go_simp
        refine HF.out.mono ?_
        rintro e1 x1 ⟨A1, c1, rfl, q1, q2, q3, hb⟩
        have P := Lib.hid (Q.out.drew.keep hb)
        have B1 := Lib.hid (chain HW.out.drew hb)
        have HX := Lib.hid q3
        clear hb q3 hS
        obtain ⟨p0, p1, f0, f1⟩ := P.out.two
        refine hK.out _ _ p1 (fun hS => ?_)
        clear hK K
        refine headH_take (i := 9) (v := ?_) rfl (by kernel_rfl) (fun _ _ _ h => h) (fun _ _ _ h => seqB_ready h.1) (Or.inl ⟨by rfl, ?hy19⟩) hS ?rest19
        case hy19 => intro w hSw; (try dsimp only at hSw); go_simp; try (with_reducible rfl)
        case rest19 =>
        try simp only [Act.put, List.setIfInBounds_toArray, List.set_cons_zero, List.set_cons_succ]
        refine headH_take (i := 10) (v := ?_) rfl (by kernel_rfl) (fun _ _ _ h => h) (fun _ _ _ h => seqB_ready h.1) (Or.inl ⟨by rfl, ?hy20⟩) hS ?rest20
        case hy20 => intro w hSw; (try dsimp only at hSw); go_simp; try (with_reducible rfl)
        case rest20 =>
        try simp only [Act.put, List.setIfInBounds_toArray, List.set_cons_zero, List.set_cons_succ]
        refine ⟨by kernel_rfl, ?_⟩
        go_wp2_with fail
        go_meet
        exact ⟨A1, _, c1, k0, rfl, q1, q2, HX.out.far P.out 1 _, P.out.put 1 _, (by rw [List.take_of_length_le (by rw [HU.out.1]; omega)]; exact HU.out.below (B1.out.setCell (p := ⟨w.heap.size, 1, none⟩) (Nat.le_refl _) (.slice (some ad) k0 d))), B1.out.setCell (p := ⟨w.heap.size, 1, none⟩) (Nat.le_refl _) _⟩
      · have g1 : (10 : Int) < k0 := by omega
        have g3 : (10 : Int) ≤ d := by omega
        refine wp_held_tail (S := fun w' => w'.cell? ⟨w.heap.size, 1, none⟩ = some (.slice (some ad) k0 d)) 11 (by kernel_rfl) (by decide) ?_
        have hS : World.cell? (World.drew (w.alloc (.cells #[.int .i64 N, .slice (some ad) k0 d] 24))) ⟨w.heap.size, 1, none⟩ = some (.slice (some ad) k0 d) := r1
        refine headH_take (i := 0) (v := ?_) rfl (by kernel_rfl) (fun _ _ _ h => h) (fun _ _ _ h => seqB_ready h.1) (Or.inl ⟨by rfl, ?hy21⟩) hS ?rest21
        case hy21 => intro w hSw; (try dsimp only at hSw); go_simp; try (with_reducible rfl)
        case rest21 =>
        try simp only [Act.put, List.setIfInBounds_toArray, List.set_cons_zero, List.set_cons_succ]
        refine headH_take (i := 2) (v := ?_) rfl (by kernel_rfl) (fun _ _ _ h => h) (fun _ _ _ h => seqB_ready h.1) (Or.inl ⟨by rfl, ?hy22⟩) hS ?rest22
        case hy22 => intro w hSw; (try dsimp only at hSw); go_simp; try (with_reducible rfl)
        case rest22 =>
        try simp only [Act.put, List.setIfInBounds_toArray, List.set_cons_zero, List.set_cons_succ]
        refine headH_take (i := 3) (v := ?_) rfl (by kernel_rfl) (fun _ _ _ h => h) (fun _ _ _ h => seqB_ready h.1) (Or.inl ⟨by rfl, ?hy23⟩) hS ?rest23
        case hy23 => intro w hSw; (try dsimp only at hSw); go_simp; try (with_reducible rfl)
        case rest23 =>
        try simp only [Act.put, List.setIfInBounds_toArray, List.set_cons_zero, List.set_cons_succ]
        refine headH_take (i := 4) (v := ?_) rfl (by kernel_rfl) (fun _ _ _ h => h) (fun _ _ _ h => seqB_ready h.1) (Or.inl ⟨by rfl, ?hy24⟩) hS ?rest24
        case hy24 => intro w hSw; (try dsimp only at hSw); go_simp; try (with_reducible rfl)
        case rest24 =>
        try simp only [Act.put, List.setIfInBounds_toArray, List.set_cons_zero, List.set_cons_succ]
        refine headH_take (i := 5) (v := ?_) rfl (by kernel_rfl) (fun _ _ _ h => h) (fun _ _ _ h => seqB_ready h.1) (Or.inl ⟨by rfl, ?hy25⟩) hS ?rest25
        case hy25 => intro w hSw; (try dsimp only at hSw); go_simp; try (with_reducible rfl)
        case rest25 =>
        try simp only [Act.put, List.setIfInBounds_toArray, List.set_cons_zero, List.set_cons_succ]
        refine headH_take (i := 6) (v := ?_) rfl (by kernel_rfl) (fun _ _ _ h => h) (fun _ _ _ h => seqB_ready h.1) (Or.inl ⟨by rfl, ?hy26⟩) hS ?rest26
        case hy26 => intro w hSw; (try dsimp only at hSw); go_simp; try (with_reducible rfl)
        case rest26 =>
        try simp only [Act.put, List.setIfInBounds_toArray, List.set_cons_zero, List.set_cons_succ]
        refine headH_take (i := 7) (v := ?_) rfl (by kernel_rfl) (fun _ _ _ h => h) (fun _ _ _ h => seqB_ready h.1) (Or.inl ⟨by rfl, ?hy27⟩) hS ?rest27
        case hy27 => intro w hSw; (try dsimp only at hSw); go_simp; try (with_reducible rfl)
        case rest27 =>
        try simp only [Act.put, List.setIfInBounds_toArray, List.set_cons_zero, List.set_cons_succ]
        refine headH_take (i := 8) (v := ?_) rfl (by kernel_rfl) (fun _ _ _ h => h) (fun _ _ _ h => seqB_ready h.1) (Or.inl ⟨by rfl, ?hy28⟩) hS ?rest28
        case hy28 => intro w hSw; (try dsimp only at hSw); go_simp; try (with_reducible rfl)
        case rest28 =>
        try simp only [Act.put, List.setIfInBounds_toArray, List.set_cons_zero, List.set_cons_succ]
        refine headH_one (i := 1) (by kernel_rfl) rfl (fun K hK => ?_)
        go_simp
        refine HF.out.mono ?_
        rintro e1 x1 ⟨A1, c1, rfl, q1, q2, q3, hb⟩
        have P := Lib.hid (Q.out.drew.keep hb)
        have B1 := Lib.hid (chain HW.out.drew hb)
        have HX := Lib.hid q3
        clear hb q3 hS
        obtain ⟨p0, p1, f0, f1⟩ := P.out.two
        refine hK.out _ _ p1 (fun hS => ?_)
        clear hK K
        refine headH_take (i := 9) (v := ?_) rfl (by kernel_rfl) (fun _ _ _ h => h) (fun _ _ _ h => seqB_ready h.1) (Or.inl ⟨by rfl, ?hy29⟩) hS ?rest29
        case hy29 => intro w hSw; (try dsimp only at hSw); go_simp; try (with_reducible rfl)
        case rest29 =>
        try simp only [Act.put, List.setIfInBounds_toArray, List.set_cons_zero, List.set_cons_succ]
        refine headH_take (i := 10) (v := ?_) rfl (by kernel_rfl) (fun _ _ _ h => h) (fun _ _ _ h => seqB_ready h.1) (Or.inl ⟨by rfl, ?hy30⟩) hS ?rest30
        case hy30 => intro w hSw; (try dsimp only at hSw); go_simp; try (with_reducible rfl)
        case rest30 =>
        try simp only [Act.put, List.setIfInBounds_toArray, List.set_cons_zero, List.set_cons_succ]
        refine ⟨by kernel_rfl, ?_⟩
        go_wp2_with fail
        go_meet
        exact ⟨A1, _, c1, 10, rfl, q1, q2, HX.out.far P.out 1 _, P.out.put 1 _, ((HU.out.take 10 (by omega)).below (B1.out.setCell (p := ⟨w.heap.size, 1, none⟩) (Nat.le_refl _) (.slice (some ad) 10 d))), B1.out.setCell (p := ⟨w.heap.size, 1, none⟩) (Nat.le_refl _) _⟩
  case rest =>
    obtain ⟨A1, l1, c1, k1, rfl, q1, q2, hx, hbx, hu, hB⟩ := hcut
    have HT := Lib.hid (HT.out.below hB)
    have B := Lib.hid hB
    have Q := Lib.hid hbx
    have HX := Lib.hid hx
    have HU := Lib.hid hu
    clear hB hbx hx hu HW HF HS1 r0 r1
    generalize cuts ss 66 = ts at *
    generalize us.take 10 = us at *
    have hlen := HX.out.1
    have hq2 : l1 ≤ maxLen := by omega
    obtain ⟨r0, r1, -, -⟩ := Q.out.two
    cases hok : okS n ts with
    | false =>
      have HE := Lib.hid (show pickE n ts N us = 2 by simp [pickE, hok])
      have HSt := Lib.hid (show pickS n ts N us = ⟨#[]⟩ by simp [pickS, hok])
      have HWy := Lib.hid (sumE_no hok)
      clear hok hlen
      go_wp2_with fail
      refine (pick_any n A1 l1 c1 ts N Bw k1 d us _ HX.out q1 q2 HU.out HT.out).mono ?_
      rintro e x1 ⟨rfl, hb⟩
      rw [HE.out, HSt.out]
      clear r0 r1
      have Q := Lib.hid (Q.out.keep hb)
      have HU := Lib.hid (HU.out.below hb)
      have HX := Lib.hid (HX.out.below hb)
      have HT := Lib.hid (HT.out.below hb)
      have B := Lib.hid (chain B.out hb)
      clear hb
      obtain ⟨r0, r1, -, -⟩ := Q.out.two
      go_wp2_with fail
      refine (why_any n A1 l1 c1 ts _ HX.out hq2).mono ?_
      rintro e u2 ⟨rfl, rfl⟩
      rw [HWy.out]
      go_wp2_with fail
      refine (alive2_any _).mono ?_
      rintro e x3 ⟨rfl, hb⟩
      clear r0 r1
      have Q := Lib.hid (Q.out.keep hb)
      have HU := Lib.hid (HU.out.below hb)
      have HX := Lib.hid (HX.out.below hb)
      have HT := Lib.hid (HT.out.below hb)
      have B := Lib.hid (chain B.out hb)
      clear hb
      obtain ⟨r0, r1, -, -⟩ := Q.out.two
      go_wp2_with fail
      go_ret
      exact ⟨by first | rfl | simp, B.out⟩
    | true =>
      have HWy := Lib.hid (sumE_ok hok)
      cases hr : rightB N us with
      | false =>
        have HE := Lib.hid (show pickE n ts N us = 1 by simp [pickE, hok, hr])
        have HSt := Lib.hid (show pickS n ts N us = ⟨#[]⟩ by simp [pickS, hr])
        have HR := Lib.hid hr
        clear hok hlen hr
        go_wp2_with fail
        refine (pick_any n A1 l1 c1 ts N Bw k1 d us _ HX.out q1 q2 HU.out HT.out).mono ?_
        rintro e x1 ⟨rfl, hb⟩
        rw [HE.out, HSt.out]
        clear r0 r1
        have Q := Lib.hid (Q.out.keep hb)
        have HU := Lib.hid (HU.out.below hb)
        have HX := Lib.hid (HX.out.below hb)
        have HT := Lib.hid (HT.out.below hb)
        have B := Lib.hid (chain B.out hb)
        clear hb
        obtain ⟨r0, r1, -, -⟩ := Q.out.two
        go_wp2_with fail
        refine (why_any n A1 l1 c1 ts _ HX.out hq2).mono ?_
        rintro e u2 ⟨rfl, rfl⟩
        rw [HWy.out]
        go_wp2_with fail
        refine (refRight_any N Bw k1 d us _ HU.out).mono ?_
        rintro e x3 ⟨rfl, hb⟩
        rw [HR.out]
        clear r0 r1
        have Q := Lib.hid (Q.out.keep hb)
        have HU := Lib.hid (HU.out.below hb)
        have HX := Lib.hid (HX.out.below hb)
        have HT := Lib.hid (HT.out.below hb)
        have B := Lib.hid (chain B.out hb)
        clear hb
        obtain ⟨r0, r1, -, -⟩ := Q.out.two
        go_wp2_with fail
        refine (alive2_any _).mono ?_
        rintro e x4 ⟨rfl, hb⟩
        clear r0 r1
        have Q := Lib.hid (Q.out.keep hb)
        have HU := Lib.hid (HU.out.below hb)
        have HX := Lib.hid (HX.out.below hb)
        have HT := Lib.hid (HT.out.below hb)
        have B := Lib.hid (chain B.out hb)
        clear hb
        obtain ⟨r0, r1, -, -⟩ := Q.out.two
        go_wp2_with fail
        go_ret
        exact ⟨by first | rfl | simp, B.out⟩
      | true =>
        obtain ⟨M, rfl⟩ := Int.eq_ofNat_of_zero_le ((lmb_iff N).1 (right_lmb hr)).1
        have HR := Lib.hid hr
        have hl8 := rightB_len8 hr HU.out.1
        have hl64 : l1 ≤ 64 := by simp only [okS, Bool.and_eq_true, decide_eq_true_eq] at hok; omega
        by_cases hN : M = l1
        · have hM64 : M ≤ 64 * k1 := by
            have := right_len_eq hr
            rw [HU.out.1, Int.toNat_natCast] at this
            unfold nw at this; omega
          have eN : ((M : Int) == (ts.length : Int)) = true := by rw [hlen]; simp [hN]
          have hn : 0 ≤ n ∧ n ≤ 64 := by
            have h := hok
            simp only [okS, Bool.and_eq_true] at h
            exact (smb_iff n).1 h.1.1
          obtain ⟨m, rfl⟩ := Int.eq_ofNat_of_zero_le hn.1
          have HE := Lib.hid (show pickE m ts M us = 0 by simp only [pickE, hok, hr, eN]; rfl)
          have HSt := Lib.hid (show pickS m ts M us = ⟨(sumL m (picks ts (plcN us M))).toArray⟩ by
            have h2 : okS m (picks ts (plcN us M)) = true := by have := okS_picks hok us; rw [hlen, ← hN] at this; exact this
            simp only [pickS, hok, hr, eN, Bool.and_self, if_true, Int.toNat_natCast, sumS, h2])
          have HBs := Lib.hid (bsums_bits m ts us M)
          have HSz := Lib.hid (fun j (hj : j < l1) => okS_at hok j (by rw [hlen]; exact hj))
          have tne : ((M : Int) != (l1 : Int)) = false := by rw [bne_eq_false_iff_eq]; omega
          have hm64 : m ≤ 64 := by omega
          have hMl : M ≤ l1 := by omega
          have hlM : l1 ≤ M := by omega
          have HMl := Lib.hid hN
          clear hok hlen hr hN eN hn
          go_wp2_with fail
          refine (pick_any m A1 l1 c1 ts M Bw k1 d us _ HX.out q1 q2 HU.out HT.out).mono ?_
          rintro e x1 ⟨rfl, hb⟩
          rw [HE.out, HSt.out]
          clear r0 r1
          have Q := Lib.hid (Q.out.keep hb)
          have HU := Lib.hid (HU.out.below hb)
          have HX := Lib.hid (HX.out.below hb)
          have HT := Lib.hid (HT.out.below hb)
          have B := Lib.hid (chain B.out hb)
          clear hb
          obtain ⟨r0, r1, -, -⟩ := Q.out.two
          go_wp2_with fail
          refine (why_any m A1 l1 c1 ts _ HX.out hq2).mono ?_
          rintro e u2 ⟨rfl, rfl⟩
          rw [HWy.out]
          go_wp2_with fail
          refine (refRight_any M Bw k1 d us _ HU.out).mono ?_
          rintro e x3 ⟨rfl, hb⟩
          rw [HR.out]
          clear r0 r1
          have Q := Lib.hid (Q.out.keep hb)
          have HU := Lib.hid (HU.out.below hb)
          have HX := Lib.hid (HX.out.below hb)
          have HT := Lib.hid (HT.out.below hb)
          have B := Lib.hid (chain B.out hb)
          clear hb
          obtain ⟨r0, r1, -, -⟩ := Q.out.two
          go_wp2_with fail
          refine (alive2_any _).mono ?_
          rintro e x4 ⟨rfl, hb⟩
          clear r0 r1
          have Q := Lib.hid (Q.out.keep hb)
          have HU := Lib.hid (HU.out.below hb)
          have HX := Lib.hid (HX.out.below hb)
          have HT := Lib.hid (HT.out.below hb)
          have B := Lib.hid (chain B.out hb)
          clear hb
          obtain ⟨r0, r1, -, -⟩ := Q.out.two
          go_wp2_with fail
          refine (refBits_any M Bw k1 d us _ hM64 (by omega) HU.out).mono ?_
          rintro e x5 ⟨A9, c9, rfl, hz, hb⟩
          clear r0 r1
          have HZ := Lib.hid (hz)
          have Q := Lib.hid (Q.out.keep hb)
          have HU := Lib.hid (HU.out.below hb)
          have HX := Lib.hid (HX.out.below hb)
          have HT := Lib.hid (HT.out.below hb)
          have B := Lib.hid (chain B.out hb)
          clear hb
          clear hz
          obtain ⟨r0, r1, -, -⟩ := Q.out.two
          go_wp2_with fail
          refine (refSum_any m hm64 A1 A9 l1 c1 M c9 ts (bitsL us M) _ HX.out HZ.out (by omega) hlM (by omega) (fun j hj => by have := HSz.out j hj; omega)).mono ?_
          rintro e x6 ⟨rfl, hb⟩
          rw [← HMl.out, HBs.out]
          clear r0 r1
          have Q := Lib.hid (Q.out.keep hb)
          have HU := Lib.hid (HU.out.below hb)
          have HX := Lib.hid (HX.out.below hb)
          have HT := Lib.hid (HT.out.below hb)
          have HZ := Lib.hid (HZ.out.below hb)
          have B := Lib.hid (chain B.out hb)
          clear hb
          obtain ⟨r0, r1, -, -⟩ := Q.out.two
          go_wp2_with fail
          go_ret
          exact ⟨by simp, B.out⟩
        · have eN : ((M : Int) == (ts.length : Int)) = false := by rw [hlen]; simp; omega
          have HE := Lib.hid (show pickE n ts M us = 1 by simp only [pickE, hok, hr, eN]; rfl)
          have HSt := Lib.hid (show pickS n ts M us = ⟨#[]⟩ by simp only [pickS, hok, hr, eN]; rfl)
          have tne : ((M : Int) != (l1 : Int)) = true := by rw [bne_iff_ne]; omega
          clear hok hlen hr hN eN
          go_wp2_with fail
          refine (pick_any n A1 l1 c1 ts M Bw k1 d us _ HX.out q1 q2 HU.out HT.out).mono ?_
          rintro e x1 ⟨rfl, hb⟩
          rw [HE.out, HSt.out]
          clear r0 r1
          have Q := Lib.hid (Q.out.keep hb)
          have HU := Lib.hid (HU.out.below hb)
          have HX := Lib.hid (HX.out.below hb)
          have HT := Lib.hid (HT.out.below hb)
          have B := Lib.hid (chain B.out hb)
          clear hb
          obtain ⟨r0, r1, -, -⟩ := Q.out.two
          go_wp2_with fail
          refine (why_any n A1 l1 c1 ts _ HX.out hq2).mono ?_
          rintro e u2 ⟨rfl, rfl⟩
          rw [HWy.out]
          go_wp2_with fail
          refine (refRight_any M Bw k1 d us _ HU.out).mono ?_
          rintro e x3 ⟨rfl, hb⟩
          rw [HR.out]
          clear r0 r1
          have Q := Lib.hid (Q.out.keep hb)
          have HU := Lib.hid (HU.out.below hb)
          have HX := Lib.hid (HX.out.below hb)
          have HT := Lib.hid (HT.out.below hb)
          have B := Lib.hid (chain B.out hb)
          clear hb
          obtain ⟨r0, r1, -, -⟩ := Q.out.two
          go_wp2_with fail
          refine (alive2_any _).mono ?_
          rintro e x4 ⟨rfl, hb⟩
          clear r0 r1
          have Q := Lib.hid (Q.out.keep hb)
          have HU := Lib.hid (HU.out.below hb)
          have HX := Lib.hid (HX.out.below hb)
          have HT := Lib.hid (HT.out.below hb)
          have B := Lib.hid (chain B.out hb)
          clear hb
          obtain ⟨r0, r1, -, -⟩ := Q.out.two
          go_wp2_with fail
          go_ret
          exact ⟨by first | rfl | simp, B.out⟩
end Go.Proofs.YtfeaollpeaphlaaDoor
