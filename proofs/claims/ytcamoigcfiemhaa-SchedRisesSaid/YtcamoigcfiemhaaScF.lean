/- Layer 20: rows of rows of the call's own; copiedLists. -/
import Derived.Test.YtcamoigcfiemhaaScE
namespace Go.Proofs.Ytcamoigcfiemhaa
set_option linter.unusedVariables false
set_option linter.unusedSimpArgs false
open Go.RowKit Go.Lib
set_option maxRecDepth 100000
abbrev SlT := Option Addr × Nat × Nat
abbrev sl0 : SlT := (none, 0, 0)
abbrev slV (r : SlT) : Value := .slice r.1 r.2.1 r.2.2
/-- Two rows that share no block. -/
def NoSh (a b : Value) : Prop := ∀ g, a.ownBlock = some g → b.ownBlock ≠ some g
theorem NoSh.symm {a b : Value} (h : NoSh a b) : NoSh b a := fun g h1 h2 => h g h2 h1
theorem own_kind {w : World} {base size n : Nat} {e : TypeId} {v : Value} {xs : List Value} (h : w.ownsRow base e size v n xs) {g : Nat} (hg : v.ownBlock = some g) : ∃ c, w.heap[g]? = some (.cells c e (0, 0)) := by
  rcases h.2 with ⟨rfl, _⟩ | ⟨g', cap, cur, rfl, hb, hh, _⟩
  · simp [Value.ownBlock] at hg
  · simp [Value.ownBlock] at hg
    subst hg
    exact ⟨cur, hh⟩
theorem nosh_types {w : World} {b1 b2 s1 s2 n1 n2 : Nat} {e1 e2 : TypeId} {v1 v2 : Value} {xs1 xs2 : List Value} (h1 : w.ownsRow b1 e1 s1 v1 n1 xs1) (h2 : w.ownsRow b2 e2 s2 v2 n2 xs2) (hne : e1 ≠ e2) : NoSh v1 v2 := fun g hg hg2 => by
  obtain ⟨c1, k1⟩ := own_kind h1 hg
  obtain ⟨c2, k2⟩ := own_kind h2 hg2
  rw [k1] at k2
  injection k2 with k2
  injection k2 with _ k3
  exact hne k3
theorem own_keepB {w w' : World} {base size n : Nat} {e : TypeId} {v : Value} {xs : List Value} (h : w.ownsRow base e size v n xs) (hb : Below w.heap.size w w') : w'.ownsRow base e size v n xs :=
  World.ownsRow.kept (row := none) h ⟨hb.os, hb.tape, hb.output, hb.size, fun k hk _ => hb.block k hk⟩ (by cases v.ownBlock <;> simp)
theorem own_low {w : World} {base base' size n : Nat} {e : TypeId} {v : Value} {xs : List Value} (h : w.ownsRow base e size v n xs) (hb : base' ≤ base) : w.ownsRow base' e size v n xs := by
  refine ⟨h.1, ?_⟩
  rcases h.2 with h1 | ⟨g, cap, cur, hv, h1, h2⟩
  · exact .inl h1
  · exact .inr ⟨g, cap, cur, hv, Nat.le_trans hb h1, h2⟩
theorem nosh_new {w : World} {b1 b2 s1 s2 n1 n2 : Nat} {e1 e2 : TypeId} {v1 v2 : Value} {xs1 xs2 : List Value} {w1 : World} (h1 : w.ownsRow b1 e1 s1 v1 n1 xs1) (h2 : w1.ownsRow b2 e2 s2 v2 n2 xs2) (hb : w.heap.size ≤ b2) : NoSh v1 v2 := fun g hg hg2 => by
  have a := (h1.lt g hg).2
  have b := (h2.lt g hg2).1
  omega
theorem own_cap {w : World} {base size n c : Nat} {e : TypeId} {A : Option Addr} {xs : List Value} (h : w.ownsRow base e size (.slice A n c) n xs) : SliceOk A n c := by
  rcases h.2 with ⟨hv, h0⟩ | ⟨g, cap, cur, hv, h1, h2, h3, h4, h5⟩
  · injection hv with e1 e2 e3
    subst e1 e2 e3
    exact ⟨Nat.le_refl _, Nat.zero_le _, fun _ => ⟨rfl, rfl⟩⟩
  · injection hv with e1 e2 e3
    subst e1 e3
    exact ⟨h3, h4, fun h => by cases h⟩
theorem own_addr {w : World} {base size n c : Nat} {e : TypeId} {A : Option Addr} {xs : List Value} (h : w.ownsRow base e size (.slice A n c) n xs) (hn : 0 < n) : ∃ g, A = some ⟨g, 0, none⟩ ∧ base ≤ g ∧ g < w.heap.size := by
  rcases h.2 with ⟨hv, h0⟩ | ⟨g, cap, cur, hv, h1, h2, h3, h4, h5⟩
  · omega
  · injection hv with e1 e2 e3
    subst e1
    exact ⟨g, rfl, h1, (Array.getElem?_eq_some_iff.1 h2).1⟩
section
variable {α : Type}
/-- Rows of rows of the call's own. -/
def OwnRR (enc : α → List Value) (e1 e2 : TypeId) (sz base : Nat) (w : World) (v : Value) (xss : List (List α)) (rs : List SlT) : Prop :=
  rs.length = xss.length ∧ w.ownsRow base e1 1 v xss.length (rs.map slV) ∧ (∀ j, j < xss.length → (rs.getD j sl0).2.1 = (xss.getD j []).length ∧ w.ownsRow base e2 sz (slV (rs.getD j sl0)) (xss.getD j []).length ((xss.getD j []).flatMap enc)) ∧ ∀ i j, i < j → j < xss.length → NoSh (slV (rs.getD i sl0)) (slV (rs.getD j sl0))
theorem map_slV_at (rs : List SlT) (j : Nat) (h : j < rs.length) : (rs.map slV)[j]? = some (slV (rs.getD j sl0)) := by simp [List.getD, h]
theorem slV_one (rs : List SlT) : ∀ u ∈ rs.map slV, u.oneCell' = true := by
  intro u hu
  obtain ⟨r, -, rfl⟩ := List.mem_map.1 hu
  rfl
/-- The slices of a row of rows. -/
theorem RRow.rs {P : World → Option Addr → Nat → List α → Prop} {w : World} {A : Option Addr} {len : Nat} {xss : List (List α)} (h : RRow P w A len xss) :
    ∃ rs : List SlT, rs.length = len ∧ (∀ j, j < len → SliceOk (rs.getD j sl0).1 (rs.getD j sl0).2.1 (rs.getD j sl0).2.2 ∧ P w (rs.getD j sl0).1 (rs.getD j sl0).2.1 (xss.getD j [])) ∧ ∀ w', Below w.heap.size w w' → ∀ ad, A = some ad → ∀ j u, (rs.map slV)[j]? = some u → w'.cell? (ad.add j) = some u := by
  have each : ∀ j, j < len → ∃ r : SlT, (SliceOk r.1 r.2.1 r.2.2 ∧ P w r.1 r.2.1 (xss.getD j [])) ∧ ∃ b off, A = some ⟨b, off, none⟩ ∧ b < w.heap.size ∧ w.cell? ⟨b, off + j, none⟩ = some (slV r) := fun j hj => by
    obtain ⟨b, off, B, l, c, hA, hb, hc, hs, hp⟩ := h.at j hj
    exact ⟨(B, l, c), ⟨hs, hp⟩, b, off, hA, hb, hc⟩
  obtain ⟨q, hq⟩ := Go.Deep.choose_lt each
  have hg : ∀ j, j < len → ((List.range len).map q).getD j sl0 = q j := fun j hj => by simp [List.getD, hj]
  refine ⟨(List.range len).map q, by simp, fun j hj => by rw [hg j hj]; exact (hq j hj).1, fun w' hb ad hA j u hu => ?_⟩
  have hj : j < len := by
    have := (List.getElem?_eq_some_iff.1 hu).1
    simpa using this
  rw [map_slV_at _ _ (by simpa using hj), hg j hj] at hu
  obtain ⟨b, off, hA2, hlt, hc⟩ := (hq j hj).2
  rw [hA] at hA2
  injection hA2 with hA2
  subst hA2
  rw [addP, (hb.cell (p := ⟨b, off + j, none⟩) hlt), hc, ← hu]
/-- Read it. -/
theorem OwnRR.read [Inhabited α] {enc : α → List Value} {e1 e2 : TypeId} {sz base : Nat} {w : World} {A : Option Addr} {c : Nat} {xss : List (List α)} {rs : List SlT} (hsz : ∀ x, (enc x).length = sz) (h0 : 0 < sz) (h : OwnRR enc e1 e2 sz base w (.slice A xss.length c) xss rs) : RRow (Recs enc sz) w A xss.length xss := by
  obtain ⟨h1, h2, h3, -⟩ := h
  refine ⟨rfl, fun hp => ?_⟩
  obtain ⟨g, rfl, hb, hlt⟩ := own_addr h2 hp
  refine ⟨g, 0, rfl, hlt, fun j hj => ?_⟩
  obtain ⟨k1, k2⟩ := h3 j hj
  have hc := World.ownsRow.cellAt h2 j (by omega)
  rw [map_slV_at rs j (by omega)] at hc
  rw [← k1] at k2
  exact ⟨_, _, _, by rw [Nat.zero_add, hc], own_cap k2, own_recs hsz k2 h0⟩
end
def encZ (x : Int) : List Value := [.int .i64 x]
theorem encZ_len (x : Int) : (encZ x).length = 1 := rfl
theorem encZ_one (x : Int) : ∀ u ∈ encZ x, u.oneCell' = true := by
  intro u hu
  simp [encZ] at hu
  subst hu; rfl
theorem encZ_map (xs : List Int) : xs.flatMap encZ = xs.map (Value.int .i64) := by
  induction xs with
  | nil => rfl
  | cons x xs ih => rw [List.flatMap_cons, ih]; rfl
theorem Ints.recs {w : World} {A : Option Addr} {l : Nat} {zs : List Int} (h : Ints w A l zs) : Recs encZ 1 w A l zs := by
  refine ⟨h.1, fun hp => ?_⟩
  obtain ⟨b, off, rfl, hlt, hc⟩ := h.2.2 hp
  refine ⟨b, off, rfl, hlt, fun j hj k v hv => ?_⟩
  have hk : k = 0 := by have := (List.getElem?_eq_some_iff.1 hv).1; rw [encZ_len] at this; omega
  subst hk
  have : Value.int .i64 (zs.getD j default) = v := by simpa [encZ] using hv
  rw [← this, Nat.mul_one, Nat.add_zero]; exact hc j hj
theorem Recs.ints {w : World} {A : Option Addr} {l : Nat} {zs : List Int} (h : Recs encZ 1 w A l zs) (hz : ∀ j, -9223372036854775808 ≤ zs.getD j 0 ∧ zs.getD j 0 ≤ 9223372036854775807) : Ints w A l zs := by
  refine ⟨h.1, hz, fun hp => ?_⟩
  obtain ⟨b, off, rfl, hlt, hc⟩ := h.2 hp
  refine ⟨b, off, rfl, hlt, fun j hj => ?_⟩
  have := hc j hj 0 _ rfl
  rwa [Nat.mul_one, Nat.add_zero] at this
theorem RRow.mono {α : Type} {P Q : World → Option Addr → Nat → List α → Prop} {w : World} {A : Option Addr} {len : Nat} {xss : List (List α)} (h : RRow P w A len xss) (hPQ : ∀ j, j < len → ∀ A l, P w A l (xss.getD j []) → Q w A l (xss.getD j [])) : RRow Q w A len xss := by
  refine ⟨h.1, fun hp => ?_⟩
  obtain ⟨b, off, e, hlt, hc⟩ := h.2 hp
  refine ⟨b, off, e, hlt, fun j hj => ?_⟩
  obtain ⟨B, l, c, h1, h2, h3⟩ := hc j hj
  exact ⟨B, l, c, h1, h2, hPQ j hj _ _ h3⟩
/-- What copiedLists hands back. -/
def CopyS {α : Type} (enc : α → List Value) (e1 e2 : TypeId) (sz : Nat) (xss : List (List α)) (w : World) (en : Ending) (w' : World) : Prop := ∃ A c rs, en = .returned (.slice A xss.length c) ∧ OwnRR enc e1 e2 sz w.heap.size w' (.slice A xss.length c) xss rs ∧ Below w.heap.size w w'
set_option maxHeartbeats 4000000 in
theorem copyIns_any (A : Option Addr) (l cp : Nat) (xss : List (List InR)) (w : World) (hs : SliceOk A l cp) (h : RRow (Recs encIn 3) w A l xss) (hl : l ≤ 1000) (hl2 : ∀ j, j < l → (xss.getD j []).length ≤ 1000) :
    Calls Try.prog 54 #[.slice A l cp] w (CopyS encIn 55 57 3 xss w) := by
  obtain ⟨rs0, hr0, hr1, hr2⟩ := h.rs
  have HC := Lib.hid (clone_ins2 A l cp (rs0.map slV) w hs.2.2 (by simp [hr0]) (hr2 w (Below.refl _ _)) (slV_one rs0) (by omega))
  have HX := Lib.hid h.1
  have HR0 := Lib.hid hr0
  have HR1 := Lib.hid hr1
  have HL2 := Lib.hid hl2
  clear h hr0 hr1 hr2 hs hl2
  go_enter Try.func54, Try.ntmps54
  go_wp2_with fail
  refine HC.out.mono ?_
  rintro e w1 ⟨A1, c1, rfl, ho, hb⟩
  have HO := Lib.hid ho
  have HB := Lib.hid hb
  clear ho hb HC
  go_wp2_with fail
  go_loopw [8] (fun t wr => ∃ (k : Nat) (rs : List SlT), k ≤ l ∧ t = .int .i64 (k : Int) ∧ Hid (rs.length = l) ∧ Hid (wr.ownsRow w.heap.size 55 1 (.slice A1 l c1) l (rs.map slV)) ∧ Hid (∀ j, j < k → (rs.getD j sl0).2.1 = (xss.getD j []).length ∧ wr.ownsRow w.heap.size 57 3 (slV (rs.getD j sl0)) (xss.getD j []).length ((xss.getD j []).flatMap encIn)) ∧ Hid (∀ j, k ≤ j → rs.getD j sl0 = rs0.getD j sl0) ∧ Hid (∀ i j, i < j → j < k → NoSh (slV (rs.getD i sl0)) (slV (rs.getD j sl0))) ∧ Hid (Below w.heap.size w wr)) (fun t _ => l - (intOf t).toNat)
  case atStart => exact ⟨0, rs0, Nat.zero_le _, rfl, HR0, HO, Lib.hid (fun j h => absurd h (Nat.not_lt_zero _)), Lib.hid (fun _ _ => rfl), Lib.hid (fun i j _ h => absurd h (Nat.not_lt_zero _)), HB⟩
  case round =>
    obtain ⟨k, rs, hk, rfl, HRl, HO2, HJ, HE, HS, HB2⟩ := hrel
    clear HO HB
    by_cases hlt : k < l
    · have hlt' : (k : Int) < (l : Int) := by omega
      obtain ⟨g, rfl, hbg, hgl⟩ := own_addr HO2.out (by omega)
      have c0 := World.ownsRow.cellAt HO2.out k (by omega)
      have f0 := World.ownsRow.frozenAt HO2.out k
      rw [map_slV_at rs k (by rw [HRl.out]; exact hlt), HE.out k (Nat.le_refl _)] at c0
      obtain ⟨s1, p1⟩ := HR1.out k hlt
      obtain ⟨r, hr⟩ : ∃ r, r = rs0.getD k sl0 := ⟨_, rfl⟩
      obtain ⟨xs, hxs⟩ : ∃ x, x = xss.getD k [] := ⟨_, rfl⟩
      have HXS := Lib.hid hxs
      rw [← hr] at c0 s1 p1
      rw [← hxs] at p1
      obtain ⟨B, n, d⟩ := r
      have p1 : Recs encIn 3 w B n xs := p1
      have s1 : SliceOk B n d := s1
      have c0 : wr.cell? ⟨g, k, none⟩ = some (.slice B n d) := c0
      have hn : xs.length = n := p1.1
      have hn1 : n ≤ 1000 := by have := HL2.out k hlt; rw [← hxs, hn] at this; exact this
      have HN := Lib.hid hn
      have HC := Lib.hid (clone_ins B n d (xs.flatMap encIn) wr s1.2.2 (by rw [flat_len encIn_len, hn]) (Recs.news (Recs.below p1 HB2.out) encIn_len (by decide)) (flat_one encIn_one) (by omega))
      clear hr hxs p1 s1 hn
      have HG := Lib.hid hgl
      have HGb := Lib.hid hbg
      clear hgl hbg
      go_wp2_with fail
      refine HC.out.mono ?_
      rintro e w2 ⟨A2, c2, rfl, ho2, hb⟩
      have HN2 := Lib.hid ho2
      have HB3 := Lib.hid hb
      clear ho2 hb HC c0 f0
      have HO3 := Lib.hid (own_keepB HO2.out HB3.out)
      have c0 := World.ownsRow.cellAt HO3.out k (by omega)
      have f0 := World.ownsRow.frozenAt HO3.out k
      rw [map_slV_at rs k (by rw [HRl.out]; exact hlt)] at c0
      have st := World.ownsRow.stored HO3.out k (.slice A2 n c2)
      have ST1 := Lib.hid st.1
      have ST2 := Lib.hid st.2
      clear st
      go_wp2_with fail
      go_roundw
      case rel =>
        have hlen := HRl.out
        have g1 : ∀ j, j < k → (rs.set k (A2, n, c2)).getD j sl0 = rs.getD j sl0 := fun j hj => by simp only [List.getD]; rw [List.getElem?_set_ne (by omega)]
        have g2 : (rs.set k (A2, n, c2)).getD k sl0 = (A2, n, c2) := by simp [List.getD, hlen, hlt]
        refine ⟨k + 1, rs.set k (A2, n, c2), by omega, by go_num, Lib.hid (by rw [List.length_set]; exact hlen), Lib.hid ?_, Lib.hid (fun j hj => ?_), Lib.hid (fun j hj => ?_), Lib.hid (fun i j hij hj => ?_), Lib.hid ?_⟩
        · rw [List.map_set]; exact ST1.out
        · by_cases e : j < k
          · rw [g1 j e]
            obtain ⟨q1, q2⟩ := HJ.out j e
            exact ⟨q1, World.ownsRow.kept (own_keepB q2 HB3.out) ST2.out (.inr (nosh_types HO3.out (own_keepB q2 HB3.out) (by decide) g rfl))⟩
          · obtain rfl : j = k := by omega
            rw [g2, ← HXS.out]
            refine ⟨HN.out.symm, ?_⟩
            rw [HN.out]
            have hw : w.heap.size ≤ wr.heap.size := HB2.out.size
            exact World.ownsRow.kept (own_low HN2.out hw) ST2.out (.inr (nosh_types HO3.out HN2.out (by decide) g rfl))
        · rw [← HE.out j (by omega)]; simp only [List.getD]; rw [List.getElem?_set_ne (by omega)]
        · rw [g1 i (by omega)]
          by_cases e : j < k
          · rw [g1 j e]; exact HS.out i j hij e
          · obtain rfl : j = k := by omega
            rw [g2]
            exact nosh_new (HJ.out i hij).2 HN2.out (Nat.le_refl _)
        · exact (HB2.out.trans (HB3.out.mono HB2.out.size)).setCell (p := ⟨g, k, none⟩) HGb.out _
      case measure => simp [intOf] <;> omega
    · obtain rfl : k = l := by omega
      have hlt' : ¬ (k : Int) < (k : Int) := by omega
      go_wp2_with fail
      go_ret
      have e := HX.out
      subst e
      exact ⟨A1, c1, rs, rfl, ⟨HRl.out, HO2.out, HJ.out, HS.out⟩, HB2.out⟩
set_option maxHeartbeats 4000000 in
theorem copyInts_any (A : Option Addr) (l cp : Nat) (xss : List (List Int)) (w : World) (hs : SliceOk A l cp) (h : RRow (Recs encZ 1) w A l xss) (hl : l ≤ 1000) (hl2 : ∀ j, j < l → (xss.getD j []).length ≤ 1000) :
    Calls Try.prog 55 #[.slice A l cp] w (CopyS encZ 23 3 1 xss w) := by
  obtain ⟨rs0, hr0, hr1, hr2⟩ := h.rs
  have HC := Lib.hid (clone_ints2 A l cp (rs0.map slV) w hs.2.2 (by simp [hr0]) (hr2 w (Below.refl _ _)) (slV_one rs0) (by omega))
  have HX := Lib.hid h.1
  have HR0 := Lib.hid hr0
  have HR1 := Lib.hid hr1
  have HL2 := Lib.hid hl2
  clear h hr0 hr1 hr2 hs hl2
  go_enter Try.func55, Try.ntmps55
  go_wp2_with fail
  refine HC.out.mono ?_
  rintro e w1 ⟨A1, c1, rfl, ho, hb⟩
  have HO := Lib.hid ho
  have HB := Lib.hid hb
  clear ho hb HC
  go_wp2_with fail
  go_loopw [8] (fun t wr => ∃ (k : Nat) (rs : List SlT), k ≤ l ∧ t = .int .i64 (k : Int) ∧ Hid (rs.length = l) ∧ Hid (wr.ownsRow w.heap.size 23 1 (.slice A1 l c1) l (rs.map slV)) ∧ Hid (∀ j, j < k → (rs.getD j sl0).2.1 = (xss.getD j []).length ∧ wr.ownsRow w.heap.size 3 1 (slV (rs.getD j sl0)) (xss.getD j []).length ((xss.getD j []).flatMap encZ)) ∧ Hid (∀ j, k ≤ j → rs.getD j sl0 = rs0.getD j sl0) ∧ Hid (∀ i j, i < j → j < k → NoSh (slV (rs.getD i sl0)) (slV (rs.getD j sl0))) ∧ Hid (Below w.heap.size w wr)) (fun t _ => l - (intOf t).toNat)
  case atStart => exact ⟨0, rs0, Nat.zero_le _, rfl, HR0, HO, Lib.hid (fun j h => absurd h (Nat.not_lt_zero _)), Lib.hid (fun _ _ => rfl), Lib.hid (fun i j _ h => absurd h (Nat.not_lt_zero _)), HB⟩
  case round =>
    obtain ⟨k, rs, hk, rfl, HRl, HO2, HJ, HE, HS, HB2⟩ := hrel
    clear HO HB
    by_cases hlt : k < l
    · have hlt' : (k : Int) < (l : Int) := by omega
      obtain ⟨g, rfl, hbg, hgl⟩ := own_addr HO2.out (by omega)
      have c0 := World.ownsRow.cellAt HO2.out k (by omega)
      have f0 := World.ownsRow.frozenAt HO2.out k
      rw [map_slV_at rs k (by rw [HRl.out]; exact hlt), HE.out k (Nat.le_refl _)] at c0
      obtain ⟨s1, p1⟩ := HR1.out k hlt
      obtain ⟨r, hr⟩ : ∃ r, r = rs0.getD k sl0 := ⟨_, rfl⟩
      obtain ⟨xs, hxs⟩ : ∃ x, x = xss.getD k [] := ⟨_, rfl⟩
      have HXS := Lib.hid hxs
      rw [← hr] at c0 s1 p1
      rw [← hxs] at p1
      obtain ⟨B, n, d⟩ := r
      have p1 : Recs encZ 1 w B n xs := p1
      have s1 : SliceOk B n d := s1
      have c0 : wr.cell? ⟨g, k, none⟩ = some (.slice B n d) := c0
      have hn : xs.length = n := p1.1
      have hn1 : n ≤ 1000 := by have := HL2.out k hlt; rw [← hxs, hn] at this; exact this
      have HN := Lib.hid hn
      have HC := Lib.hid (clone_ints B n d (xs.flatMap encZ) wr s1.2.2 (by rw [flat_len encZ_len, hn]) (Recs.news (Recs.below p1 HB2.out) encZ_len (by decide)) (flat_one encZ_one) (by omega))
      clear hr hxs p1 s1 hn
      have HG := Lib.hid hgl
      have HGb := Lib.hid hbg
      clear hgl hbg
      go_wp2_with fail
      refine HC.out.mono ?_
      rintro e w2 ⟨A2, c2, rfl, ho2, hb⟩
      have HN2 := Lib.hid ho2
      have HB3 := Lib.hid hb
      clear ho2 hb HC c0 f0
      have HO3 := Lib.hid (own_keepB HO2.out HB3.out)
      have c0 := World.ownsRow.cellAt HO3.out k (by omega)
      have f0 := World.ownsRow.frozenAt HO3.out k
      rw [map_slV_at rs k (by rw [HRl.out]; exact hlt)] at c0
      have st := World.ownsRow.stored HO3.out k (.slice A2 n c2)
      have ST1 := Lib.hid st.1
      have ST2 := Lib.hid st.2
      clear st
      go_wp2_with fail
      go_roundw
      case rel =>
        have hlen := HRl.out
        have g1 : ∀ j, j < k → (rs.set k (A2, n, c2)).getD j sl0 = rs.getD j sl0 := fun j hj => by simp only [List.getD]; rw [List.getElem?_set_ne (by omega)]
        have g2 : (rs.set k (A2, n, c2)).getD k sl0 = (A2, n, c2) := by simp [List.getD, hlen, hlt]
        refine ⟨k + 1, rs.set k (A2, n, c2), by omega, by go_num, Lib.hid (by rw [List.length_set]; exact hlen), Lib.hid ?_, Lib.hid (fun j hj => ?_), Lib.hid (fun j hj => ?_), Lib.hid (fun i j hij hj => ?_), Lib.hid ?_⟩
        · rw [List.map_set]; exact ST1.out
        · by_cases e : j < k
          · rw [g1 j e]
            obtain ⟨q1, q2⟩ := HJ.out j e
            exact ⟨q1, World.ownsRow.kept (own_keepB q2 HB3.out) ST2.out (.inr (nosh_types HO3.out (own_keepB q2 HB3.out) (by decide) g rfl))⟩
          · obtain rfl : j = k := by omega
            rw [g2, ← HXS.out]
            refine ⟨HN.out.symm, ?_⟩
            rw [HN.out]
            have hw : w.heap.size ≤ wr.heap.size := HB2.out.size
            exact World.ownsRow.kept (own_low HN2.out hw) ST2.out (.inr (nosh_types HO3.out HN2.out (by decide) g rfl))
        · rw [← HE.out j (by omega)]; simp only [List.getD]; rw [List.getElem?_set_ne (by omega)]
        · rw [g1 i (by omega)]
          by_cases e : j < k
          · rw [g1 j e]; exact HS.out i j hij e
          · obtain rfl : j = k := by omega
            rw [g2]
            exact nosh_new (HJ.out i hij).2 HN2.out (Nat.le_refl _)
        · exact (HB2.out.trans (HB3.out.mono HB2.out.size)).setCell (p := ⟨g, k, none⟩) HGb.out _
      case measure => simp [intOf] <;> omega
    · obtain rfl : k = l := by omega
      have hlt' : ¬ (k : Int) < (k : Int) := by omega
      go_wp2_with fail
      go_ret
      have e := HX.out
      subst e
      exact ⟨A1, c1, rs, rfl, ⟨HRl.out, HO2.out, HJ.out, HS.out⟩, HB2.out⟩
end Go.Proofs.Ytcamoigcfiemhaa
