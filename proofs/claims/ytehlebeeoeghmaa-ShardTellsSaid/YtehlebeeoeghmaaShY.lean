/- ShardTells: the walk. -/
import Derived.Test.YtehlebeeoeghmaaShX
import Derived.Test.YtehlebeeoeghmaaKTail
import Derived.Test.YtehlebeeoeghmaaRefNums
namespace Go.Proofs.Ytehlebeeoeghmaa
set_option linter.unusedVariables false
set_option linter.unusedSimpArgs false
open Go.RowKit Go.Lib
set_option maxRecDepth 100000
theorem SpS.belowS {w0 w : World} {base g : Nat} {v : Value} {ls : List (List SymR)} (h : SpS w0 base w v ls) (hg : g < base) (i : Nat) (u : Value) : SpS w0 base (w.setCell ⟨g, i, none⟩ u) v ls := by
  obtain ⟨rs, e1, e2, e3⟩ := h
  exact ⟨rs, e1, ownsRow_setCell_below e2 (a := ⟨g, i, none⟩) hg u, fun j hj => ⟨(e3 j hj).1, (e3 j hj).2.imp id fun k => ownsRow_setCell_below k (a := ⟨g, i, none⟩) hg u⟩⟩
def set3 (w : World) (g : Nat) (a b c : Value) : World := ((w.setCell ⟨g, 0, none⟩ a).setCell ⟨g, 1, none⟩ b).setCell ⟨g, 2, none⟩ c
theorem Box.put3 {w : World} {g : Nat} {t : TypeId} {a b d u v x : Value} (h : Box w g t #[a, b, d]) : Box (set3 w g u v x) g t #[u, v, x] := h.put3S
theorem SpS.below3 {w0 w : World} {base g : Nat} {v : Value} {ls : List (List SymR)} (h : SpS w0 base w v ls) (hg : g < base) (a b c : Value) : SpS w0 base (set3 w g a b c) v ls := ((h.belowS hg 0 a).belowS hg 1 b).belowS hg 2 c
theorem below_set3 {m g : Nat} {w w' : World} (h : Below m w w') (hg : m ≤ g) (a b c : Value) : Below m w (set3 w' g a b c) := ((h.setCell hg a).setCell hg b).setCell hg c
theorem ShAt.rows {w : World} {q z : Int} {A : Option Addr} {c : Nat} {ls : List (List SymR)} (h : ShAt w (.agg #[.int .i64 q, .int .i64 z, .slice A ls.length c]) (q, z, ls)) : SliceOk A ls.length c ∧ Lsts w A ls.length ls := by
  obtain ⟨A', c', e, h1, h2⟩ := h
  cases e
  exact ⟨h1, h2⟩
set_option maxHeartbeats 16000000 in
theorem tells13_any (q z : Int) (A : Option Addr) (c : Nat) (ls : List (List SymR)) (id : Nat) (B : Option Addr) (l d : Nat) (ids : List Nat) (W : World)
    (ha : SliceOk A ls.length c) (hla : Lsts W A ls.length ls) (hia : IdsOk ls) (hi : Words W B l ids) (hs : SliceOk B l d) :
    Calls Try.prog 4 #[.agg #[.int .i64 q, .int .i64 z, .slice A ls.length c], .int .u64 (id : Int), .slice B l d] W fun e w' => e = .returned (.bool true) ∧ Below W.heap.size W w' := by
  have HB := Lib.hid ((Below.refl W.heap.size W).alloc (Nat.le_refl _) (.cells #[.int .i64 q, .int .i64 z, .slice A ls.length c] 24))
  have QA := Lib.hid (Box.new W 24 #[.int .i64 q, .int .i64 z, .slice A ls.length c])
  have H1 := Lib.hid (fun wy (hw : Below W.heap.size W wy) => few13_any q z A c ls wy ha (Lsts.below hla hw) W)
  have OA := Lib.hid (fewSh_ok hia)
  obtain ⟨fa, hfa⟩ : ∃ y, y = fewTo ls 18 := ⟨_, rfl⟩
  rw [← hfa] at H1 OA
  obtain ⟨m, hm⟩ : ∃ m : Nat, m = min l 40 := ⟨_, rfl⟩
  have hdm : min (l : Int) 40 = (m : Int) := by omega
  have hm1 : (m : Int) ≤ (d : Int) := by have := hs.1; omega
  have hm0 : (0 : Int) ≤ (m : Int) := by omega
  have hml : m ≤ l := by omega
  have hm40 : m ≤ 40 := by omega
  have HI := Lib.hid (hi.take m hml)
  obtain ⟨is, his⟩ : ∃ y, y = ids.take m := ⟨_, rfl⟩
  rw [← his] at HI
  clear ha hla hia hi hs hfa hm his hml
  obtain ⟨r0, r1, r2⟩ := QA.out.tri
  go_enter Try.func4, Try.ntmps4
  go_upto_region 1 with (fail)
  go_cut [2] (fun v wx => v = .slice B m d ∧ ∃ A3 c3, Hid (Box wx W.heap.size 24 #[.int .i64 q, .int .i64 z, .slice A3 fa.length c3]) ∧ Hid (SpS W W.heap.size wx (.slice A3 fa.length c3) fa) ∧ Hid (Below W.heap.size W wx))
  case first =>
    refine wp_heldK_bar [(7, (fun (w' : World) => w'.cell? ⟨W.heap.size, 0, none⟩ = some (.int .i64 q) ∧ w'.cell? ⟨W.heap.size, 1, none⟩ = some (.int .i64 z) ∧ w'.cell? ⟨W.heap.size, 2, none⟩ = some (.slice A ls.length c)))] 9 (by kernel_rfl) (by decide) ?_
    have hS0 := (show ((fun (w' : World) => w'.cell? ⟨W.heap.size, 0, none⟩ = some (.int .i64 q) ∧ w'.cell? ⟨W.heap.size, 1, none⟩ = some (.int .i64 z) ∧ w'.cell? ⟨W.heap.size, 2, none⟩ = some (.slice A ls.length c))) (W.alloc (.cells #[.int .i64 q, .int .i64 z, .slice A ls.length c] 24)).drew from ⟨r0, r1, r2⟩)
    refine headK_load 0 7 _ rfl (i := 0) (v := ?_) rfl (by kernel_rfl) (fun _ _ _ h => h) (fun _ _ _ h => passed_ready h.1) (Or.inl ⟨by rfl, ?hy1⟩) ⟨fun _ => hS0, trivial⟩ ?rest1
    case hy1 => intro w hSw; (try dsimp only at hSw); obtain ⟨hc0, hc1, hc2⟩ := hSw; go_simp; try (with_reducible rfl)
    case rest1 =>
    try simp only [Act.put, List.setIfInBounds_toArray, List.set_cons_zero, List.set_cons_succ]
    refine headK_take (i := 2) (v := ?_) rfl (by kernel_rfl) (fun _ _ _ h => h) (fun _ _ _ h => passed_ready h.1) (Or.inl ⟨by rfl, ?hy2⟩) ⟨fun _ => hS0, trivial⟩ ?rest2
    case hy2 => intro w _; go_simp; try (with_reducible rfl)
    case rest2 =>
    try simp only [Act.put, List.setIfInBounds_toArray, List.set_cons_zero, List.set_cons_succ]
    refine headK_take (i := 3) (v := ?_) rfl (by kernel_rfl) (fun _ _ _ h => h) (fun _ _ _ h => passed_ready h.1) (Or.inl ⟨by rfl, ?hy3⟩) ⟨fun _ => hS0, trivial⟩ ?rest3
    case hy3 => intro w _; go_simp; try (with_reducible rfl)
    case rest3 =>
    try simp only [Act.put, List.setIfInBounds_toArray, List.set_cons_zero, List.set_cons_succ]
    refine headK_take (i := 4) (v := ?_) rfl (by kernel_rfl) (fun _ _ _ h => h) (fun _ _ _ h => passed_ready h.1) (Or.inl ⟨by rfl, ?hy4⟩) ⟨fun _ => hS0, trivial⟩ ?rest4
    case hy4 => intro w _; go_simp; try (with_reducible rfl)
    case rest4 =>
    try simp only [Act.put, List.setIfInBounds_toArray, List.set_cons_zero, List.set_cons_succ]
    refine headK_take (i := 5) (v := ?_) rfl (by kernel_rfl) (fun _ _ _ h => h) (fun _ _ _ h => passed_ready h.1) (Or.inl ⟨by rfl, ?hy5⟩) ⟨fun _ => hS0, trivial⟩ ?rest5
    case hy5 => intro w _; go_simp; try (with_reducible rfl)
    case rest5 =>
    try simp only [Act.put, List.setIfInBounds_toArray, List.set_cons_zero, List.set_cons_succ]
    refine headK_take (i := 6) (v := ?_) rfl (by kernel_rfl) (fun _ _ _ h => h) (fun _ _ _ h => passed_ready h.1) (Or.inl ⟨by rfl, ?hy6⟩) ⟨fun _ => hS0, trivial⟩ ?rest6
    case hy6 => intro w _; go_simp; try (with_reducible rfl)
    case rest6 =>
    try simp only [Act.put, List.setIfInBounds_toArray, List.set_cons_zero, List.set_cons_succ]
    refine headK_one (i := 1) (by kernel_rfl) rfl (fun K hK => ?_)
    go_simp
    refine (H1.out _ HB.out.drew).mono ?_
    rintro e1 y1 ⟨A3, c3, rfl, hsp, hb⟩
    have PA := Lib.hid (QA.out.drew.keep hb)
    have HB1 := Lib.hid (HB.out.drew.trans (hb.mono HB.out.size))
    have SP3 := Lib.hid (hsp.low (base' := W.heap.size + 1) QA.out.lt)
    clear hb hsp hS0
    obtain ⟨a0, a1, a2⟩ := PA.out.tri
    have fa0 := PA.out.free 0
    have fa1 := PA.out.free 1
    have fa2 := PA.out.free 2
    have hS0 := (show ((fun (w' : World) => w'.cell? ⟨W.heap.size, 0, none⟩ = some (.int .i64 q) ∧ w'.cell? ⟨W.heap.size, 1, none⟩ = some (.int .i64 z) ∧ w'.cell? ⟨W.heap.size, 2, none⟩ = some (.slice A ls.length c))) y1 from ⟨a0, a1, a2⟩)
    refine hK.out _ _ ⟨fun _ => hS0, trivial⟩ ?_
    clear hK K
    try simp only [Act.put, List.setIfInBounds_toArray, List.set_cons_zero, List.set_cons_succ]
    refine headK_one (i := 7) (by kernel_rfl) rfl (fun K hK => ?_)
    go_simp
    refine hK.out _ _ ⟨fun h => Bool.noConfusion (show true = false from h), trivial⟩ ?_
    clear hK K
    try simp only [Act.put, List.setIfInBounds_toArray, List.set_cons_zero, List.set_cons_succ]
    refine headK_take (i := 8) (v := ?_) rfl (by kernel_rfl) (fun _ _ _ h => h) (fun _ _ _ h => passed_ready h.1) (Or.inl ⟨by rfl, ?hy7⟩) ⟨fun h => Bool.noConfusion (show true = false from h), trivial⟩ ?rest7
    case hy7 => intro w _; go_simp; try (with_reducible rfl)
    case rest7 =>
    try simp only [Act.put, List.setIfInBounds_toArray, List.set_cons_zero, List.set_cons_succ]
    refine ⟨by kernel_rfl, ?_⟩
    refine wpAny_done (by kernel_rfl) ?_ _
    go_wp2_with fail
    go_meet
    exact ⟨rfl, A3, c3, Lib.hid PA.out.put3, Lib.hid ((SP3.out.below3 (by omega) _ _ _).low (by omega)), Lib.hid (below_set3 HB1.out (Nat.le_refl _) _ _ _)⟩
  case rest =>
    obtain ⟨rfl, A3, c3, K0, K3, K5⟩ := hcut
    clear QA HB H1 r0 r1 r2
    obtain ⟨wa, rfl⟩ : ∃ x : World, x = wc := ⟨_, rfl⟩
    have HS := Lib.hid (fun wy (hw : Below wa.heap.size wa wy) => (K3.out.at K5.out q z).below hw)
    have HIw := Lib.hid (fun wy (hw : Below W.heap.size W wy) => HI.out.below hw)
    have HOf := Lib.hid (fun wy (hw : Below wa.heap.size wa wy) => shOf_any _ (q, z, fa) id wy (HS.out wy hw) OA.out)
    have HAl := Lib.hid (fun wy (hw : Below wa.heap.size wa wy) => shAll_any _ (q, z, fa) wy (HS.out wy hw) OA.out)
    have HLo := Lib.hid (fun wy (hw : Below wa.heap.size wa wy) => shLocks_any _ (q, z, fa) B m d is wy (HS.out wy hw) OA.out (HIw.out wy (K5.out.trans (hw.mono K5.out.size))) (by omega))
    have HRi := Lib.hid (fun wy (hw : Below wa.heap.size wa wy) => refRight13_any _ (q, z, fa) wy (HS.out wy hw) OA.out)
    have hn := OA.out.n
    have HH := Lib.hid (show rightSh (q, z, fa) = true → 0 < fa.length from fun h => by
      have h9 : (inK (fa.length : Int) 1 16 && (inK z 0 64 && inK q 1 64) && decide ((cntS fa : Int) ≤ q) && rowsB fa.length z fa fa.length) = true := h
      simp only [Bool.and_eq_true] at h9
      have := h9.1.1.1; unfold inK at this; simp at this; omega)
    cases hr : rightSh (q, z, fa) with
    | false =>
      rw [hr] at HOf HAl HLo HRi
      have hAlN : (if false = true then allS ((q, z, fa) : ShR).2.2 else []) = [] := rfl
      have hLoN : (if false = true then lockL ((q, z, fa) : ShR).2.2.length is ((q, z, fa) : ShR).2.2.length else []) = [] := rfl
      rw [hAlN] at HAl
      rw [hLoN] at HLo
      clear hAlN hLoN hr HH
      obtain ⟨r0, r1, r2⟩ := K0.out.tri
      go_wp2_with fail
      refine (HOf.out _ (Below.refl _ _)).mono ?_
      rintro e w1 ⟨rfl, hb⟩
      have B1 := Lib.hid hb
      clear hb r0 r1 r2
      obtain ⟨r0, r1, r2⟩ := (K0.out.keep B1.out).tri
      go_wp2_with fail
      refine (HAl.out _ B1.out).mono ?_
      rintro e w2 ⟨A5, c5, rfl, hx5, hb⟩
      have B2 := Lib.hid (chain B1.out hb)
      clear hb hx5 r0 r1 r2
      obtain ⟨r0, r1, r2⟩ := (K0.out.keep B2.out).tri
      go_wp2_with fail
      refine (HLo.out _ B2.out).mono ?_
      rintro e w3 ⟨A6, c6, rfl, hx6, hb⟩
      have B3 := Lib.hid (chain B2.out hb)
      clear hb hx6 r0 r1 r2
      obtain ⟨r0, r1, r2⟩ := (K0.out.keep B3.out).tri
      go_wp2_with fail
      refine (HRi.out _ B3.out).mono ?_
      rintro e w4 ⟨rfl, hb⟩
      have B4 := Lib.hid (chain B3.out hb)
      clear hb r0 r1 r2
      go_wp2_with fail
      refine (alive13_any _).mono ?_
      rintro e w5 ⟨rfl, hb⟩
      have B5 := Lib.hid (K5.out.trans ((chain B4.out hb).mono K5.out.size))
      clear hb
      go_wp2_with fail
      go_ret
      exact ⟨rfl, B5.out⟩
    | true =>
      rw [hr] at HOf HAl HLo HRi
      have h0 := HH.out hr
      have hAlN : (if true = true then allS ((q, z, fa) : ShR).2.2 else []) = allS fa := rfl
      have hLoN : (if true = true then lockL ((q, z, fa) : ShR).2.2.length is ((q, z, fa) : ShR).2.2.length else []) = lockL fa.length is fa.length := rfl
      rw [hAlN] at HAl
      rw [hLoN] at HLo
      have hln : (allS fa).length ≤ 100000 := by
        have h2 := fold_len fa.flatten []
        rw [flat_cnt] at h2
        have h3 := cntS_bd OA.out fa.length
        rw [List.take_length] at h3
        unfold allS
        simp only [List.length_nil] at h2
        omega
      have hll : (lockL fa.length is fa.length).length ≤ 100 := Nat.le_trans (lockL_len _ _ _) hn
      have HRO := Lib.hid (fun wy => refOf13_any q z A3 c3 fa.length id wy h0 hn)
      have HRA := Lib.hid (fun wy (hw : Below wa.heap.size wa wy) => refAll13_any q z A3 c3 fa wy (HS.out wy hw).rows.2 OA.out)
      have HRL := Lib.hid (fun wy (hw : Below W.heap.size W wy) => refLocks13_any q z A3 c3 fa.length B m d is wy hn (HIw.out wy hw) (by omega))
      obtain ⟨ys, hys⟩ : ∃ y, y = allS fa := ⟨_, rfl⟩
      obtain ⟨zs, hzs⟩ : ∃ y, y = lockL fa.length is fa.length := ⟨_, rfl⟩
      obtain ⟨k, hk⟩ : ∃ y : Int, y = ((id % fa.length : Nat) : Int) := ⟨_, rfl⟩
      have hkN : (if true = true then ((id % ((q, z, fa) : ShR).2.2.length : Nat) : Int) else 0) = k := hk.symm
      rw [hkN] at HOf
      rw [← hys] at HAl HRA hln
      rw [← hzs] at HLo HRL hll
      rw [← hk] at HRO
      clear hAlN hLoN hr HH hys hzs hk hkN
      obtain ⟨r0, r1, r2⟩ := K0.out.tri
      go_wp2_with fail
      refine (HOf.out _ (Below.refl _ _)).mono ?_
      rintro e w1 ⟨rfl, hb⟩
      have B1 := Lib.hid hb
      clear hb r0 r1 r2
      obtain ⟨r0, r1, r2⟩ := (K0.out.keep B1.out).tri
      go_wp2_with fail
      refine (HAl.out _ B1.out).mono ?_
      rintro e w2 ⟨A5, c5, rfl, hx5, hb⟩
      have B2 := Lib.hid (chain B1.out hb)
      have X5 := Lib.hid hx5
      clear hb hx5 r0 r1 r2
      obtain ⟨r0, r1, r2⟩ := (K0.out.keep B2.out).tri
      go_wp2_with fail
      refine (HLo.out _ B2.out).mono ?_
      rintro e w3 ⟨A6, c6, rfl, hx6, hb⟩
      have B3 := Lib.hid (chain B2.out hb)
      have X6 := Lib.hid hx6
      replace X5 := Lib.hid (Recs.below X5.out hb)
      clear hb hx6 r0 r1 r2
      obtain ⟨r0, r1, r2⟩ := (K0.out.keep B3.out).tri
      go_wp2_with fail
      refine (HRi.out _ B3.out).mono ?_
      rintro e w4 ⟨rfl, hb⟩
      have B4 := Lib.hid (chain B3.out hb)
      replace X5 := Lib.hid (Recs.below X5.out hb)
      replace X6 := Lib.hid (X6.out.below hb)
      clear hb r0 r1 r2
      go_wp2_with fail
      refine (alive13_any _).mono ?_
      rintro e w5 ⟨rfl, hb⟩
      have B5 := Lib.hid (chain B4.out hb)
      replace X5 := Lib.hid (Recs.below X5.out hb)
      replace X6 := Lib.hid (X6.out.below hb)
      clear hb
      obtain ⟨r0, r1, r2⟩ := (K0.out.keep B5.out).tri
      go_wp2_with fail
      refine (HRO.out _).mono ?_
      rintro e w6 ⟨rfl, hb⟩
      have B6 := Lib.hid (chain B5.out hb)
      replace X5 := Lib.hid (Recs.below X5.out hb)
      replace X6 := Lib.hid (X6.out.below hb)
      clear hb r0 r1 r2
      obtain ⟨r0, r1, r2⟩ := (K0.out.keep B6.out).tri
      go_wp2_with fail
      refine (HRA.out _ B6.out).mono ?_
      rintro e w7 ⟨A7, c7, rfl, -, hx7, hb⟩
      have B7 := Lib.hid (chain B6.out hb)
      replace X5 := Lib.hid (Recs.below X5.out hb)
      replace X6 := Lib.hid (X6.out.below hb)
      have X7 := Lib.hid hx7
      clear hb hx7 r0 r1 r2
      have HSa := Lib.hid (refSameL_any A5 A7 ys.length ys.length c5 c7 ys ys w7 X5.out X7.out (by unfold maxLen; omega) (by unfold maxLen; omega))
      have hsy : decide (ys = ys) = true := by simp
      rw [hsy] at HSa
      go_wp2_with fail
      refine HSa.out.mono ?_
      rintro e w8 ⟨rfl, hb⟩
      have B8 := Lib.hid (chain B7.out hb)
      replace X6 := Lib.hid (X6.out.below hb)
      clear hb HSa X7 X5
      obtain ⟨r0, r1, r2⟩ := (K0.out.keep B8.out).tri
      go_wp2_with fail
      refine (HRL.out _ (K5.out.trans (B8.out.mono K5.out.size))).mono ?_
      rintro e w9 ⟨A9, c9, rfl, hx9, hb⟩
      have B9 := Lib.hid (chain B8.out hb)
      replace X6 := Lib.hid (X6.out.below hb)
      have X9 := Lib.hid hx9
      clear hb hx9 r0 r1 r2
      have HNu := Lib.hid (refNumbers_any A6 A9 zs.length c6 zs.length c9 zs zs w9 X6.out X9.out (by omega) (by omega))
      have hsz : sameZ zs zs = true := by simp [sameZ]
      rw [hsz] at HNu
      go_wp2_with fail
      refine HNu.out.mono ?_
      rintro e w10 ⟨rfl, hb⟩
      have B10 := Lib.hid (K5.out.trans ((chain B9.out hb).mono K5.out.size))
      clear hb
      go_wp2_with fail
      go_ret
      exact ⟨rfl, B10.out⟩
end Go.Proofs.Ytehlebeeoeghmaa
