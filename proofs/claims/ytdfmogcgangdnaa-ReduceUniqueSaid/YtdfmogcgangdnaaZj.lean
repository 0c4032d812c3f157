/- Parts: Rd4, Rd5, Rd6. -/
import Derived.Test.YtdfmogcgangdnaaZi
import Derived.Deep.AppendLies
import Derived.Deep.RegionLaw
import Derived.RangeFuncCalls
namespace Go.Proofs.Ytdfmogcgangdnaa
section
/- Layer 4: workOn. -/
set_option linter.unusedVariables false
set_option linter.unusedSimpArgs false
open Go.RowKit
set_option maxRecDepth 100000
theorem mkM_take (N : Nat) (L : List Nat) (i : Nat) (h : i < L.length) : mkM N (L.take (i + 1)) = mkM N (L.take i) ++ [((N : Int), rowOf N (L.getD i 0))] := by
  unfold mkM
  rw [List.take_succ_eq_append_getElem h, List.map_append]
  simp [mkR, List.getD, h]
/-- A matrix that may be is that of numbers. -/
theorem mat_num {N : Int} {ms : List (Int × List Nat)} (h : rightM N ms = true) (hl : ∀ i j, ((ms.getD i (0, [])).2).getD j 0 < 18446744073709551616) : ∃ (n : Nat) (L : List Nat), N = n ∧ n ≤ 64 ∧ L.length ≤ 64 ∧ ms = mkM n L ∧ ∀ r ∈ L, r < 2 ^ n := by
  obtain ⟨h0, h1, h2⟩ := rightM_bd h
  obtain ⟨n, rfl⟩ := Int.eq_ofNat_of_zero_le h0
  refine ⟨n, ms.map fun r => valW r.2, rfl, by omega, by simpa using h2, ?_, fun r hr => ?_⟩
  · apply List.ext_getElem (by simp [mkM])
    intro j h3 h4
    obtain ⟨e1, e2⟩ := rightM_at h j h3
    have hr := row_of e2 (hl j)
    simp only [mkM, mkR, List.map_map, List.getElem_map, Function.comp_def]
    have g : ms.getD j (0, []) = ms[j] := by simp [List.getD, h3]
    rw [g] at e1 hr
    rw [← hr.1, ← e1]
  · obtain ⟨q, hq, rfl⟩ := List.mem_map.1 hr
    obtain ⟨j, hj, rfl⟩ := List.getElem_of_mem hq
    obtain ⟨e1, e2⟩ := rightM_at h j hj
    have hr := row_of e2 (hl j)
    have g : ms.getD j (0, []) = ms[j] := by simp [List.getD, hj]
    rw [g] at hr
    exact hr.2
/-- Rows that may be reduced. -/
def WorkOut (N : Nat) (L : List Nat) (w : World) (e : Ending) (w' : World) : Prop :=
  ∃ v, e = .returned (.pointer (some ⟨w.heap.size + 1, 0, none⟩)) ∧ Box w' (w.heap.size + 1) 67 #[.int .i64 (N : Int), v, .int .i64 0] ∧ RowsN w' (w.heap.size + 2) v N L ∧ Below w.heap.size w w'
set_option maxHeartbeats 4000000 in
theorem workOn_any (N : Nat) (hN : N ≤ 64) (L : List Nat) (hL : ∀ r ∈ L, r < 2 ^ N) (hlen : L.length ≤ 64) (A : Option Addr) (c lo : Nat) (w : World) (hm : MatAt w lo A L.length (mkM N L)) :
    Calls Try.prog 30 #[.agg #[.int .i64 (N : Int), .slice A L.length c]] w (WorkOut N L w) := by
  obtain ⟨i0, hi, hz0, hz1, hz2⟩ := info_parts row_infoM
  have HI := Lib.hid hi
  have HZ0 := Lib.hid hz0
  have HZ1 := Lib.hid hz1
  have HZ2 := Lib.hid hz2
  have HLt := Lib.hid (lt_all hL)
  have hlm : lmb (N : Int) = true := (lmb_iff N).2 (by omega)
  have HNew := Lib.hid (new_own N hlm)
  rw [← rowOf_zero] at HNew
  have Q0 := Lib.hid ((Box.new w 24 #[.int .i64 (N : Int), .slice A L.length c]).alloc (.cells #[.int .i64 (N : Int), .slice none 0 0, .int .i64 0] 67))
  have q1 := Box.new (w.alloc (.cells #[.int .i64 (N : Int), .slice A L.length c] 24)) 67 #[.int .i64 (N : Int), .slice none 0 0, .int .i64 0]
  have HW := Lib.hid (show Below w.heap.size w ((w.alloc (.cells #[.int .i64 (N : Int), .slice A L.length c] 24)).alloc (.cells #[.int .i64 (N : Int), .slice none 0 0, .int .i64 0] 67)) from ((Below.refl _ _).alloc (Nat.le_refl _) _).alloc (by simp) _)
  simp only [World.size_alloc] at q1
  have Q1 := Lib.hid q1
  have HM := Lib.hid hm
  clear hi hz0 hz1 hz2 q1 hlm hm
  go_enter Try.func30, Try.ntmps30
  go_wp2_with fail
  go_loopw [17] (fun t wr => ∃ (i : Nat) (v : Value), i ≤ L.length ∧ t = .int .i64 (i : Int) ∧ Box wr w.heap.size 24 #[.int .i64 (N : Int), .slice A L.length c] ∧ Box wr (w.heap.size + 1) 67 #[.int .i64 (N : Int), v, .int .i64 0] ∧ RowsN wr (w.heap.size + 2) v N (L.take i) ∧ Below w.heap.size w wr) (fun t _ => L.length - (intOf t).toNat)
  case atStart => exact ⟨0, _, Nat.zero_le _, rfl, Q0.out, Q1.out, RowsW.nil _ _, HW.out⟩
  case round =>
    obtain ⟨i, v, hi, rfl, B0, B1, hrw, hbel⟩ := hrel
    have R0 := Lib.hid B0
    have R1 := Lib.hid B1
    have HRw := Lib.hid hrw
    have HB := Lib.hid hbel
    clear B0 B1 hrw hbel Q0 Q1 HW
    obtain ⟨a0, a1, -, -⟩ := R0.out.two
    by_cases hlt : i < L.length
    · have hlt' : (i : Int) < (L.length : Int) := by omega
      obtain ⟨b, off, B, l1, c1, rfl, hbl, x0, x1, hs, hw⟩ := (HM.out.mono (Nat.le_refl _) HB.out).at i hlt
      rw [mkM_at N L i hlt] at x0 hw
      have HTK := Lib.hid (mkM_take N L i hlt)
      have HTL := Lib.hid (show (L.take i).length = i by rw [List.length_take]; omega)
      have hx := HLt.out i
      generalize L.getD i 0 = x at *
      have HX := Lib.hid hx
      simp only [mkR] at x0 hw
      have hal : Below wr.heap.size wr (wr.alloc (.cells #[.int .i64 (N : Int), .slice B l1 c1] 40)) := (Below.refl _ _).alloc (Nat.le_refl _) _
      have E := Lib.hid (Box.new wr 40 #[.int .i64 (N : Int), .slice B l1 c1])
      have R0 := Lib.hid (R0.out.keep hal)
      have R1 := Lib.hid (R1.out.keep hal)
      have HRw := Lib.hid (HRw.out.below hal)
      have HB := Lib.hid (chain HB.out hal)
      have HWx := Lib.hid (hw.below hal)
      clear hal hx hw hs a0 a1
      obtain ⟨a0, a1, -, -⟩ := R0.out.two
      go_wp2_with fail
      refine (HNew.out _).mono ?_
      rintro e w1 ⟨A1, l2, c2, rfl, hz, hb⟩
      have hal : Below w1.heap.size w1 (w1.alloc (.cells #[.int .i64 (N : Int), .slice A1 l2 c2] 40)) := (Below.refl _ _).alloc (Nat.le_refl _) _
      have E := Lib.hid ((E.out.keep hb).keep hal)
      have R0 := Lib.hid ((R0.out.keep hb).keep hal)
      have R1 := Lib.hid ((R1.out.keep hb).keep hal)
      have HRw := Lib.hid ((HRw.out.below hb).below hal)
      have HB := Lib.hid (chain (chain HB.out hb) hal)
      have HWx := Lib.hid ((HWx.out.below hb).below hal)
      have F := Lib.hid (Box.new w1 40 #[.int .i64 (N : Int), .slice A1 l2 c2])
      have HWz := Lib.hid ((hz.below hal).words (rowOf_lt N 0))
      clear hb hal hz x0 x1 a0 a1
      obtain ⟨e0, e1, -, -⟩ := E.out.two
      obtain ⟨f0, f1, -, -⟩ := F.out.two
      go_wp2_with fail
      refine (xor_num N 0 x (by omega) (Nat.two_pow_pos N) HX.out A1 B l2 c2 l1 c1 _ HWz.out HWx.out).mono ?_
      rw [Nat.zero_xor]
      rintro e w2 ⟨A3, l3, c3, rfl, ho, hb⟩
      have hal : Below w2.heap.size w2 (w2.alloc (.cells #[.int .i64 (N : Int), .slice A3 l3 c3] 40)) := (Below.refl _ _).alloc (Nat.le_refl _) _
      have R0 := Lib.hid ((R0.out.keep hb).keep hal)
      have R1 := Lib.hid ((R1.out.keep hb).keep hal)
      have HRw := Lib.hid ((HRw.out.below hb).below hal)
      have HB := Lib.hid (chain (chain HB.out hb) hal)
      have G := Lib.hid (Box.new w2 40 #[.int .i64 (N : Int), .slice A3 l3 c3])
      have OW := Lib.hid (ho.below hal)
      clear hb hal ho e0 e1 f0 f1 E F HWx HWz
      go_wp2_with fail
      generalize hW3 : w2.alloc (.cells #[.int .i64 (N : Int), .slice A3 l3 c3] 40) = w3 at *
      clear hW3
      obtain ⟨g0, g1, -, -⟩ := G.out.two
      obtain ⟨b0, b1, b2, bf0, bf1, bf2⟩ := R1.out.three
      obtain ⟨rs, hr1, hr2, hr3⟩ := HRw.out
      rw [mkM_len, HTL.out] at hr1 hr2 hr3
      have HOW := Lib.hid hr2
      have HRS := Lib.hid hr3
      have hb0 := HB.out.size
      have hb1 := R1.out.lt
      have hn0 := HOW.out.lt
      have T1 := Lib.hid (R1.out.alloc (.cells #[.int .i64 (N : Int), .slice A3 l3 c3] 40))
      have ki := HI.out
      have kz0 := HZ0.out
      have kz1 := HZ1.out
      have kz2 := HZ2.out
      clear hr2 hr3
      have XO := Lib.hid (own_drewM (World.ownsRow.alloc HOW.out (.cells #[.int .i64 (N : Int), .slice A3 l3 c3] 40)))
      have XN := Lib.hid (show ∀ j u, ([.int .i64 (N : Int), .slice A3 l3 c3] : List Value)[j]? = some u → (w3.alloc (.cells #[.int .i64 (N : Int), .slice A3 l3 c3] 40)).drew.cell? ((⟨w3.heap.size, 0, none⟩ : Addr).add j) = some u from World.news_of_block (Box.new w3 40 #[.int .i64 (N : Int), .slice A3 l3 c3]))
      have XL := Lib.hid (show w.heap.size + 2 ≤ (w3.alloc (.cells #[.int .i64 (N : Int), .slice A3 l3 c3] 40)).drew.heap.size by show _ ≤ (w3.alloc (.cells #[.int .i64 (N : Int), .slice A3 l3 c3] 40)).heap.size; simp; omega)
      have XT := Lib.hid (show Box (w3.alloc (.cells #[.int .i64 (N : Int), .slice A3 l3 c3] 40)).drew (w.heap.size + 1) 67 #[.int .i64 (N : Int), v, .int .i64 0] from T1.out)
      have a1 : i + 1 ≤ maxLen := by unfold maxLen; omega
      have a2 : (i + 1) * 32 ≤ 140737488355328 := by omega
      have x1c := Lib.hid (show ∀ u ∈ ([.int .i64 (N : Int), .slice A3 l3 c3] : List Value), u.oneCell' = true by simp [Value.oneCell'])
      have hne := Lib.hid (own_ne HOW.out R1.out (by decide))
      go_region_law (refine step_append_lies _ rfl (.tmp 37) (.tmp 39) 22 rfl (w.heap.size + 2) 40 i0 (.agg #[.int .i64 0, .slice none 0 0]) 2 32 Try.underlying22 ki kz0 kz1 kz2 rfl (by decide) v i (rowCells rs) ?_ XO.out ⟨w3.heap.size, 0, none⟩ 1 1 [.int .i64 (N : Int), .slice A3 l3 c3] ?_ rfl XN.out x1c.out (by omega) a1 a2 XL.out _ rfl ?_; simp [Act.eval, Act.put]; simp [Act.eval, Act.put]; intro g cap w4 hown hgrow _ _; have V1 := Lib.hid (XT.out.grown hgrow hne.out); have HO2 := Lib.hid hown; have HG := Lib.hid hgrow; clear hown hgrow; obtain ⟨v0, v1, v2, vf0, vf1, vf2⟩ := V1.out.three)
      all_goals
        have W0 := Lib.hid (Box.grown (show Box (w3.alloc (.cells #[.int .i64 (N : Int), .slice A3 l3 c3] 40)).drew w.heap.size 24 #[.int .i64 (N : Int), .slice (some ⟨b, off, none⟩) L.length c] from R0.out.alloc (.cells #[.int .i64 (N : Int), .slice A3 l3 c3] 40)) HG.out (own_ne HOW.out R0.out (by decide)))
        have WB := Lib.hid (Below.grown ((HB.out.alloc HB.out.size (.cells #[.int .i64 (N : Int), .slice A3 l3 c3] 40)).drew) HG.out (Nat.le_of_succ_le (Nat.le_of_succ_le XL.out)) (fun k hk => by have := (XO.out.lt k hk).1; omega))
        have WR := Lib.hid (fun j (hj : j < i) => And.intro (HRS.out j hj).1 (OwnW.grown (((HRS.out j hj).2.alloc (.cells #[.int .i64 (N : Int), .slice A3 l3 c3] 40)).drew) XO.out (by decide) HG.out))
        have WW := Lib.hid (OwnW.grown ((OW.out.alloc (.cells #[.int .i64 (N : Int), .slice A3 l3 c3] 40)).drew) XO.out (by decide) HG.out)
        have WM := Lib.hid (RowsW.snoc (ms := mkM N (L.take i)) (by rw [mkM_len]; exact HTL.out) hr1 HO2.out WR.out WW.out)
        rw [← HTK.out] at WM
        clear HG XO XN XL XT T1 HOW HRS HO2 WR WW HRw R1 R0 HB
        go_wp2_with fail
        go_roundw
        case rel => exact ⟨i + 1, _, by omega, by go_num, W0.out.far (p := ⟨w.heap.size + 1, 1, none⟩) (by simp) _, V1.out.put 1 _, RowsN.far WM.out V1.out (by decide) (by decide) 1 _, WB.out.setCell (p := ⟨w.heap.size + 1, 1, none⟩) (by simp) _⟩
        case measure => simp [intOf] <;> omega
    · obtain rfl : i = L.length := by omega
      have hlt' : ¬ (L.length : Int) < (L.length : Int) := by omega
      have hrw := HRw.out
      rw [List.take_length] at hrw
      go_wp2_with fail
      go_ret
      exact ⟨v, rfl, R1.out, hrw, HB.out⟩
end
section
/- Layer 4: Echelon: what stays where, while its loop runs. -/
set_option linter.unusedVariables false
set_option linter.unusedSimpArgs false
open Go.RowKit Go.Shelf
set_option maxRecDepth 100000
/-- All blocks of cells lie as they lay. -/
def KC (W W' : World) : Prop := ∀ (k : Nat) (o : Obj), W.heap[k]? = some o → o.isCells = true → W'.heap[k]? = some o
theorem kc_grown {W W' : World} {row : Option Nat} (hg : W.grownBy W' row) (hr : ∀ r, row = some r → ∃ o : Obj, W.heap[r]? = some o ∧ o.isCells = false) : KC W W' := fun k o hk ho => by
  rw [hg.block k (Array.getElem?_eq_some_iff.1 hk).1 ?_]
  · exact hk
  · intro e
    obtain ⟨o', h1, h2⟩ := hr k e.symm
    rw [hk] at h1
    obtain rfl := Option.some.inj h1
    rw [ho] at h2; cases h2
theorem box_kc {W W' : World} {g : Nat} {t : TypeId} {cs : Array Value} (h : Box W g t cs) (k : KC W W') : Box W' g t cs := k g _ h rfl
theorem own_kc {W W' : World} {base e size n : Nat} {v : Value} {xs : List Value} (h : W.ownsRow base e size v n xs) (k : KC W W') : W'.ownsRow base e size v n xs := by
  refine ⟨h.1, ?_⟩
  rcases h.2 with h0 | ⟨g, cap, cur, rfl, h1, hh, h3⟩
  · exact .inl h0
  · exact .inr ⟨g, cap, cur, rfl, h1, k g _ hh rfl, h3⟩
theorem RowsN.kc {W W' : World} {base : Nat} {v : Value} {N : Nat} {L : List Nat} (h : RowsN W base v N L) (k : KC W W') : RowsN W' base v N L := by
  obtain ⟨rs, h1, h2, h3⟩ := h
  exact ⟨rs, h1, own_kc h2 k, fun j hj => ⟨(h3 j hj).1, own_kc (h3 j hj).2 k⟩⟩
theorem RowsN.grown {W W' : World} {base b : Nat} {v u : Value} {N n e size : Nat} {L : List Nat} {xs : List Value} (h : RowsN W base v N L) (ho : W.ownsRow b e size u n xs) (he : e ≠ 68) (he2 : e ≠ 40) (hg : W.grownBy W' u.ownBlock) : RowsN W' base v N L := by
  obtain ⟨rs, h1, h2, h3⟩ := h
  refine ⟨rs, h1, World.ownsRow.kept h2 hg ?_, fun j hj => ⟨(h3 j hj).1, (h3 j hj).2.grown ho he hg⟩⟩
  rcases h2.2 with ⟨hv, -⟩ | ⟨g, cap, cur, hv, -, hh, -⟩
  · left; rw [hv]; rfl
  · right
    rw [hv]
    exact fun e => own_ne ho (show Box W g 40 cur from hh) he2 e.symm
theorem RowsN.block {W : World} {base : Nat} {v : Value} {N : Nat} {L : List Nat} (h : RowsN W base v N L) {g : Nat} (hv : v.ownBlock = some g) : base ≤ g ∧ g < W.heap.size ∧ ∃ cur, Box W g 40 cur := by
  obtain ⟨rs, h1, h2, h3⟩ := h
  rcases h2.2 with ⟨hv', -⟩ | ⟨g', cap, cur, hv', hb, hh, -⟩
  · rw [hv'] at hv; cases hv
  · rw [hv'] at hv
    obtain rfl : g' = g := Option.some.inj hv
    exact ⟨hb, (show Box W g' 40 cur from hh).lt, cur, hh⟩
def numV (x : Nat) : Value := .int .i64 (x : Int)
/-- What stays while the loop runs: the places so far; the boxes of the matrix, the result, the work. -/
def EchR (w : World) (N : Nat) (A : Option Addr) (l c wb xb S0 : Nat) (P : List Nat) (W : World) : Prop :=
  (∃ u, Box W (xb + 1) 26 #[u] ∧ W.ownsRow S0 3 1 u P.length (P.map numV)) ∧ Box W w.heap.size 24 #[.int .i64 (N : Int), .slice A l c] ∧ Box W (w.heap.size + 1) 24 #[.int .i64 0, .slice none 0 0] ∧
    Box W xb 62 #[.pointer (some ⟨wb, 0, none⟩)] ∧ Below w.heap.size w W ∧ S0 ≤ W.heap.size
section
variable {w : World} {N : Nat} {A : Option Addr} {l c wb xb S0 : Nat} {P : List Nat} {W W' : World}
theorem EchR.below (h : EchR w N A l c wb xb S0 P W) (hb : Below W.heap.size W W') (hw : w.heap.size ≤ W.heap.size) : EchR w N A l c wb xb S0 P W' := by
  obtain ⟨⟨u, h1, h2⟩, h3, h4, h5, h6, h7⟩ := h
  exact ⟨⟨u, h1.keep hb, own_keep h2 hb⟩, h3.keep hb, h4.keep hb, h5.keep hb, h6.trans (hb.mono hw), Nat.le_trans h7 hb.size⟩
theorem EchR.kc (h : EchR w N A l c wb xb S0 P W) (hk : KC W W') (hs : W.heap.size ≤ W'.heap.size) (hb : Below w.heap.size w W') : EchR w N A l c wb xb S0 P W' := by
  obtain ⟨⟨u, h1, h2⟩, h3, h4, h5, h6, h7⟩ := h
  exact ⟨⟨u, box_kc h1 hk, own_kc h2 hk⟩, box_kc h3 hk, box_kc h4 hk, box_kc h5 hk, hb, Nat.le_trans h7 hs⟩
theorem EchR.put (h : EchR w N A l c wb xb S0 P W) (g i : Nat) (v : Value) (hg : w.heap.size + 1 < g) (hx : g < xb) (hS : xb + 1 < S0) : EchR w N A l c wb xb S0 P (W.setCell ⟨g, i, none⟩ v) := by
  obtain ⟨⟨u, h1, h2⟩, h3, h4, h5, h6, h7⟩ := h
  refine ⟨⟨u, h1.far (by show xb + 1 ≠ g; omega) _, World.ownsRow.kept h2 (gk_set W g i v) ?_⟩, h3.far (by show w.heap.size ≠ g; omega) _, h4.far (by show w.heap.size + 1 ≠ g; omega) _, h5.far (by show xb ≠ g; omega) _, h6.setCell (by show w.heap.size ≤ g; omega) _, by simpa [World.setCell] using h7⟩
  cases hu : u.ownBlock with
  | none => exact .inl rfl
  | some k =>
    right
    have := (h2.lt k hu).1
    intro e
    have := Option.some.inj e
    omega
theorem EchR.gk (h : EchR w N A l c wb xb S0 P W) (g : Nat) (hk : W.grownBy W' (some g)) (hg : w.heap.size + 1 < g) (hx : g < xb) (hS : xb + 1 < S0) : EchR w N A l c wb xb S0 P W' := by
  obtain ⟨⟨u, h1, h2⟩, h3, h4, h5, h6, h7⟩ := h
  refine ⟨⟨u, gk_box h1 hk (by omega), World.ownsRow.kept h2 hk ?_⟩, gk_box h3 hk (by omega), gk_box h4 hk (by omega), gk_box h5 hk (by omega), h6.grown hk h6.size (fun k e => by have := Option.some.inj e; omega), Nat.le_trans h7 hk.size⟩
  cases hu : u.ownBlock with
  | none => exact .inl rfl
  | some k =>
    right
    have := (h2.lt k hu).1
    intro e
    have := Option.some.inj e
    omega
end
theorem ko_below {W W' : World} (h : Below W.heap.size W W') : KeepsOthers W W' := ⟨h.size, fun k o hk _ => (h.block k (Array.getElem?_eq_some_iff.1 hk).1).trans hk⟩
theorem ko_gk {W W' : World} {g : Nat} {t : TypeId} {cs : Array Value} (hb : Box W g t cs) (h : W.grownBy W' (some g)) : KeepsOthers W W' :=
  ⟨h.size, fun k o hk ho => (h.block k (Array.getElem?_eq_some_iff.1 hk).1 (fun e => by
    obtain rfl := Option.some.inj e
    rw [show W.heap[k]? = _ from hb] at hk
    obtain rfl := Option.some.inj hk
    cases ho)).trans hk⟩
theorem ko_grown {W W' : World} {tmp : Obj} {b e size n : Nat} {u : Value} {xs : List Value} (ho : W.ownsRow b e size u n xs) (hg : (W.alloc tmp).grownBy W' u.ownBlock) : KeepsOthers W W' :=
  ⟨by have := hg.size; simp at this; omega, fun k o hk hc => by
    have hl := (Array.getElem?_eq_some_iff.1 hk).1
    rw [hg.block k (by simp; omega) ?_, Below.heap_alloc W tmp k hl]
    · exact hk
    · intro e
      rcases ho.2 with ⟨hu, -⟩ | ⟨g, cap, cur, hu, -, hh, -⟩
      · rw [hu] at e; cases e
      · rw [hu] at e
        obtain rfl : k = g := Option.some.inj e
        rw [hh] at hk
        obtain rfl := Option.some.inj hk
        cases hc⟩
/-- The state of the work. -/
structure St where
  L : List Nat
  d : Nat
  c : Nat
  P : List Nat
def St.next (s : St) : St := ⟨clearL s.L s.d s.c, s.d + 1, s.c + 1, s.P ++ [s.c]⟩
def EchI (orig : List Nat) (w : World) (N : Nat) (A : Option Addr) (l c wb xb S0 base : Nat) (v : Value) (s : St) (W : World) : Prop :=
  Work orig s.L s.d s.c s.P ∧ Box W wb 67 #[.int .i64 (N : Int), v, .int .i64 (s.d : Int)] ∧ RowsN W base v N s.L ∧ EchR w N A l c wb xb S0 s.P W
def EchM (orig : List Nat) (w : World) (N : Nat) (A : Option Addr) (l c wb xb S0 base : Nat) (v : Value) (s : St) (W : World) : Prop :=
  (Work orig s.L s.d s.c s.P ∧ s.d < s.L.length ∧ (s.L.getD s.d 0).testBit s.c = true ∧ s.c < N) ∧ Box W wb 67 #[.int .i64 (N : Int), v, .int .i64 ((s.d : Int) + 1)] ∧ RowsN W base v N s.L ∧ EchR w N A l c wb xb S0 s.P W
theorem echI_own {orig : List Nat} {w : World} {N : Nat} {A : Option Addr} {l c wb xb S0 base : Nat} {v : Value} {B : Nat} (hB : w.heap.size ≤ B) : OwnFrom B (EchI orig w N A l c wb xb S0 base v) := fun s W W' row hs hg hr => by
  obtain ⟨h1, h2, h3, h4⟩ := hs
  have hk := kc_grown hg (fun r e => (hr r e).2)
  have hb := h4.2.2.2.2.1
  exact ⟨h1, box_kc h2 hk, h3.kc hk, h4.kc hk hg.size (hb.grown hg hb.size (fun k e => by have := (hr k e).1; omega))⟩
theorem echM_own {orig : List Nat} {w : World} {N : Nat} {A : Option Addr} {l c wb xb S0 base : Nat} {v : Value} {B : Nat} (hB : w.heap.size ≤ B) : OwnFrom B (EchM orig w N A l c wb xb S0 base v) := fun s W W' row hs hg hr => by
  obtain ⟨h1, h2, h3, h4⟩ := hs
  have hk := kc_grown hg (fun r e => (hr r e).2)
  have hb := h4.2.2.2.2.1
  exact ⟨h1, box_kc h2 hk, h3.kc hk, h4.kc hk hg.size (hb.grown hg hb.size (fun k e => by have := (hr k e).1; omega))⟩
end
section
/- Layer 4: Echelon, Rank. -/
set_option linter.unusedVariables false
set_option linter.unusedSimpArgs false
open Go.RowKit Go.Shelf
set_option maxRecDepth 100000
attribute [local go_sem] Oper.semAt_some
theorem int_infoR : (Try.prog.info? 3).map (fun i => (i.zero, i.size, i.bytes)) = some (some (.int .i64 0), 1, 8) := by kernel_rfl
/-- Reduced rows, and their places, are returned. -/
def EchOut (N : Nat) (orig : List Nat) (w : World) (e : Ending) (w' : World) : Prop :=
  ∃ (M P : List Nat) (A : Option Addr) (B : Option Addr) (k : Nat), e = .returned (.tuple #[.agg #[.int .i64 (N : Int), .slice A M.length M.length], .slice B M.length k, .int .i64 0]) ∧ Rref M P ∧ SameSp orig M ∧
    MatAt w' 0 A M.length (mkM N M) ∧ Ints w' B M.length (P.map fun x : Nat => (x : Int)) ∧ M.length ≤ k ∧ Below w.heap.size w w'
theorem results_cell2 {P : Program} {fn : Func} {tmps : Array Value} {W : World} {p q r : Tmp} {T : TypeId} {g : Nat} {cs : Array Value} {d : TypeDesc} {v u : Value} (hr : fn.results = #[.cell p T, .tmp q, .tmp r])
    (hp : tmps.getD p undef = .pointer (some ⟨g, 0, none⟩)) (hq : tmps.getD q undef = v) (hq2 : tmps.getD r undef = u) (hbox : Box W g T cs) (hu : P.underlying T = some d)
    (hk : (match d with | .struct _ | .array _ _ => true | _ => false) = true) (hi : (P.info? T).map (·.size) = some cs.size) :
    (results fn tmps).run P W = .ok (.tuple #[.agg cs, v, u]) W := by
  subst hq hq2
  have hp' : tmps[p]?.getD undef = .pointer (some ⟨g, 0, none⟩) := by simpa using hp
  simp [results, hr, hp', asAddr, run_loadVar_row W g T T cs (0, 0) d hbox hu hk hi]
theorem mkM_lt (N : Nat) (L : List Nat) (i j : Nat) : (((mkM N L).getD i (0, [])).2).getD j 0 < 18446744073709551616 := by
  by_cases h : i < L.length
  · rw [mkM_at N L i h]; exact rowOf_lt N _ j
  · have e : (mkM N L)[i]? = none := List.getElem?_eq_none (by rw [mkM_len]; omega)
    simp [List.getD, e]
theorem num_bd {orig L P : List Nat} {d N : Nat} (h : Work orig L d N P) (hN : N ≤ 64) (j : Nat) : -9223372036854775808 ≤ (P.map fun x : Nat => (x : Int)).getD j 0 ∧ (P.map fun x : Nat => (x : Int)).getD j 0 ≤ 9223372036854775807 := by
  by_cases hj : j < P.length
  · have h1 := h.lt j (by rw [← h.dp]; exact hj)
    have e : (P.map fun x : Nat => (x : Int)).getD j 0 = (P.getD j 0 : Nat) := by simp [List.getD, hj]
    rw [e]; omega
  · have e : (P.map fun x : Nat => (x : Int))[j]? = none := List.getElem?_eq_none (by simp; omega)
    simp [List.getD, e]
theorem wk_len {orig L P : List Nat} {d c : Nat} (h : Work orig L d c P) : (L.take d).length = d := by rw [List.length_take]; have := h.dl; omega
set_option maxHeartbeats 4000000 in
theorem echelon_in (N : Nat) (hN : N ≤ 64) (L : List Nat) (hL : ∀ r ∈ L, r < 2 ^ N) (hlen : L.length ≤ 64) (A : Option Addr) (c lo : Nat) (w : World) (hm : MatAt w lo A L.length (mkM N L)) (hr : rightM N (mkM N L) = true) :
    CallsIn Fence.wide 5 Try.prog 8 #[.agg #[.int .i64 (N : Int), .slice A L.length c]] w (EchOut N L w) := by
  obtain ⟨i0, hi, hz0, hz1, hz2⟩ := info_parts int_infoR
  have b0 : Below w.heap.size w (w.alloc (.cells #[.int .i64 (N : Int), .slice A L.length c] 24)) := (Below.refl _ _).alloc (Nat.le_refl _) _
  have b1 : Below w.heap.size w ((w.alloc (.cells #[.int .i64 (N : Int), .slice A L.length c] 24)).alloc (.cells #[.int .i64 0, .slice none 0 0] 24)) := b0.alloc (by simp) _
  have Q0 := Lib.hid ((Box.new w 24 #[.int .i64 (N : Int), .slice A L.length c]).alloc (.cells #[.int .i64 0, .slice none 0 0] 24))
  have q1 := Box.new (w.alloc (.cells #[.int .i64 (N : Int), .slice A L.length c] 24)) 24 #[.int .i64 0, .slice none 0 0]
  simp only [World.size_alloc] at q1
  have Q1 := Lib.hid q1
  have HB := Lib.hid b1
  have HM := Lib.hid (hm.below b1)
  have HR := Lib.hid (mright_any (N : Int) A L.length c lo (mkM N L) _ HM.out (by unfold maxLen; omega))
  rw [hr] at HR
  clear q1 b0 b1 hm hr
  refine callsIn_of_wp_marks Try.func8 rfl trivial ?_ rfl
  simp only [Try.ntmps8, List.size_toArray, List.length_cons, List.length_nil, Nat.reduceAdd, Nat.reduceSub, Array.replicate_succ, Array.replicate_zero, List.push_toArray, List.append_toArray, List.nil_append, List.cons_append]
  gi_wp2
  refine ⟨trivial, (callsIn_wide.2 HR.out).mono ?_⟩
  rintro e x1 ⟨rfl, hb⟩
  have Q0 := Lib.hid (Q0.out.keep hb)
  have Q1 := Lib.hid (Q1.out.keep hb)
  have HB := Lib.hid (chain HB.out hb)
  have HM := Lib.hid (HM.out.below hb)
  clear hb HR
  obtain ⟨r0, r1, -, -⟩ := Q0.out.two
  have hld := run_loadVar_row (P := Try.prog) x1 w.heap.size 24 24 #[.int .i64 (N : Int), .slice A L.length c] (0, 0) _ Q0.out Try.underlying24 rfl (by kernel_rfl)
  gi_wp2
  refine ⟨trivial, (callsIn_wide.2 (workOn_any N hN L hL hlen A c lo _ HM.out)).mono ?_⟩
  rintro e x2 ⟨v, rfl, hwb, hrw, hb⟩
  have hal1 : Below x2.heap.size x2 (x2.alloc (.cells #[.pointer (some ⟨x1.heap.size + 1, 0, none⟩)] 62)) := (Below.refl _ _).alloc (Nat.le_refl _) _
  have hal2 : Below x2.heap.size x2 ((x2.alloc (.cells #[.pointer (some ⟨x1.heap.size + 1, 0, none⟩)] 62)).alloc (.cells #[.slice none 0 0] 26)) := hal1.alloc (by simp) _
  have q5 := (Box.new x2 62 #[.pointer (some ⟨x1.heap.size + 1, 0, none⟩)]).alloc (.cells #[.slice none 0 0] 26)
  have q6 := Box.new (x2.alloc (.cells #[.pointer (some ⟨x1.heap.size + 1, 0, none⟩)] 62)) 26 #[.slice none 0 0]
  simp only [World.size_alloc] at q6
  have s1 : w.heap.size + 1 < x1.heap.size := Q1.out.lt
  have s2 : x1.heap.size + 1 < x2.heap.size := hwb.lt
  have hblk := Lib.hid (fun g (hg : v.ownBlock = some g) => And.intro (hrw.block hg).1 (hrw.block hg).2.1)
  have QW := Lib.hid (hwb.keep hal2)
  have QR := Lib.hid (hrw.below hal2)
  have Q0 := Lib.hid ((Q0.out.keep hb).keep hal2)
  have Q1 := Lib.hid ((Q1.out.keep hb).keep hal2)
  have Q5 := Lib.hid q5
  have Q6 := Lib.hid q6
  have HB := Lib.hid (chain (chain HB.out hb) hal2)
  clear hb hal1 hal2 q5 q6 hwb hrw r0 r1 hld
  gi_wp2
  generalize hw3 : (x2.alloc (.cells #[.pointer (some ⟨x1.heap.size + 1, 0, none⟩)] 62)).alloc (.cells #[.slice none 0 0] 26) = w3 at *
  have s3 : w3.heap.size = x2.heap.size + 2 := by rw [← hw3]; simp
  have HS3 := Lib.hid s3
  clear hw3 s3
  refine range_state rfl (by omega) (gf := 31) (la := #[.pointer (some ⟨x1.heap.size + 1, 0, none⟩)]) (lb := #[]) rfl trivial (enters_of Try.func31 (by kernel_rfl) rfl)
    (encs := fun s : St => #[.int .i64 (s.c : Int)]) St.next (fun s => s.c = N) (fun _ => rfl) ⟨L, 0, 0, []⟩ (EchI L w N A L.length c (x1.heap.size + 1) x2.heap.size w3.heap.size (x1.heap.size + 2) v) (EchM L w N A L.length c (x1.heap.size + 1) x2.heap.size w3.heap.size (x1.heap.size + 2) v)
    (echI_own HB.out.size) (echM_own HB.out.size) ?seq ?start ?a1 ?assign ?body ?done
  case seq =>
    intro l T hT hY s W1 hI hTW he
    subst he
    obtain ⟨-, h2, h3, h4⟩ := hI
    have h3s := HS3.out
    have key := columns_in 4 (by omega) l N hN L hL hlen (x1.heap.size + 2) (x1.heap.size + 1) v (by omega) (fun P W => EchR w N A L.length c (x1.heap.size + 1) x2.heap.size w3.heap.size P W ∧ T W)
      (fun P W W' h hb => ⟨h.1.below hb h.1.2.2.2.2.1.size, hT W W' h.2 (ko_below hb)⟩)
      (fun P W g i u h hg => ⟨h.1.put g i u (by rcases hg with rfl | hg; omega; have := hblk.out g hg; omega) (by rcases hg with rfl | hg; omega; have := hblk.out g hg; omega) (by omega), hT _ _ h.2 (KeepsOthers.setCell _ _ _)⟩)
      (fun L' d c' P W hw hd hb hc hbox hrows h => by
        obtain ⟨fn, tmps, assign, body, hy, hR⟩ := hY ⟨L', d, c', P⟩ W ⟨⟨hw, hd, hb, hc⟩, hbox, hrows, h.1⟩ h.2
        exact ⟨fn, tmps, assign, body, hy, hR.mono fun e W' h => ⟨h.1, by have := h.2.1.2.1; simpa [St.next] using this, h.2.1.2.2.1, h.2.1.2.2.2, h.2.2⟩⟩)
      W1 (by simpa using h2) h3 ⟨h4, hTW⟩
    refine key.mono fun e W' h => ?_
    obtain ⟨hv, L', d, P, k1, k2, k3, k4, k5⟩ := h
    exact ⟨hv, ⟨L', d, N, P⟩, rfl, ⟨k1, k2, k3, k4⟩, k5⟩
  case start =>
    exact ⟨work_start L, by simpa using QW.out, QR.out, ⟨_, Q6.out, World.ownsRow_nil _ _ _ _⟩, Q0.out, Q1.out, Q5.out, HB.out, Nat.le_refl _⟩
  case assign =>
    intro l s W K hK
    gi_wp2
    exact hK
  case body =>
    intro l s W hM
    obtain ⟨⟨hw, hd, hbit, hcN⟩, hbx, hrow, ⟨u, hu, hown⟩, m0, m1, m5, hb, hsz⟩ := hM
    have h3s := HS3.out
    have HBX := Lib.hid hbx
    have HRW := Lib.hid hrow
    have HU := Lib.hid hu
    have HO := Lib.hid hown
    have M0 := Lib.hid m0
    have M1 := Lib.hid m1
    have M5 := Lib.hid m5
    have HBw := Lib.hid hb
    have HWk := Lib.hid hw
    have HBit := Lib.hid hbit
    have hPl : s.P.length ≤ 64 := by rw [hw.dp]; have := hw.dl; have := hw.size; omega
    have cu := hu.cell 0
    have c5 := m5.cell 0
    simp only [List.getElem?_toArray, List.getElem?_cons_zero] at cu c5
    have XO := Lib.hid (hown.alloc (.cells #[.int .i64 (s.c : Int)] 3))
    have XN := Lib.hid (cell_one_new W (.int .i64 (s.c : Int)) 3)
    have XL := Lib.hid (show w3.heap.size ≤ (W.alloc (.cells #[.int .i64 (s.c : Int)] 3)).heap.size by simp; omega)
    have a1 : s.P.length + 1 ≤ maxLen := by unfold maxLen; omega
    have a2 : (s.P.length + 1) * 8 ≤ 140737488355328 := by omega
    clear hbx hrow hu hown m0 m1 m5 hb hw hbit h3s
    gi_wp2_with (gi_at_builtin; refine wpListIn_append_own _ rfl _ _ 26 rfl w3.heap.size 3 i0 (.int .i64 0) 1 8 Try.underlying26 hi hz0 hz1 hz2 rfl (by decide) _ _ _ rfl XO.out ⟨W.heap.size, 0, none⟩ 1 1 [.int .i64 (s.c : Int)] rfl rfl (cell_one_new _ _ _) (by simp [Value.oneCell']) a1 a2 XL.out ?_; intro v' w5 hown' hgrow _; obtain ⟨g', cap', rfl⟩ := ownsRow_succ hown'; have HO5 := Lib.hid hown'; have HG5 := Lib.hid hgrow; have BU := Lib.hid ((HU.out.alloc (.cells #[.int .i64 (s.c : Int)] 3)).grown hgrow (own_ne HO.out HU.out (by decide))); have B5 := Lib.hid ((M5.out.alloc (.cells #[.int .i64 (s.c : Int)] 3)).grown hgrow (own_ne HO.out M5.out (by decide))); clear hown' hgrow; have cu5 := BU.out.cell 0; have cf5 := BU.out.free 0; have c55 := B5.out.cell 0; simp only [List.getElem?_toArray, List.getElem?_cons_zero] at cu5 c55)
    obtain ⟨g, cap, hv, hgb, hgl, hcap, hcm⟩ := HRW.out.form (by omega)
    subst hv
    have hko := Lib.hid (ko_grown HO.out HG5.out)
    have h3s := HS3.out
    have hgx := hblk.out g rfl
    have C0 := Lib.hid ((M0.out.alloc (.cells #[.int .i64 (s.c : Int)] 3)).grown HG5.out (own_ne HO.out M0.out (by decide)))
    have C1 := Lib.hid ((M1.out.alloc (.cells #[.int .i64 (s.c : Int)] 3)).grown HG5.out (own_ne HO.out M1.out (by decide)))
    have CX := Lib.hid ((HBX.out.alloc (.cells #[.int .i64 (s.c : Int)] 3)).grown HG5.out (own_ne HO.out HBX.out (by decide)))
    have CR := Lib.hid ((HRW.out.below ((Below.refl _ _).alloc (Nat.le_refl _) (.cells #[.int .i64 (s.c : Int)] 3))).grown (HO.out.alloc (.cells #[.int .i64 (s.c : Int)] 3)) (by decide) (by decide) HG5.out)
    have CB := Lib.hid (Below.grown (HBw.out.alloc HBw.out.size (.cells #[.int .i64 (s.c : Int)] 3)) HG5.out (HBw.out.alloc HBw.out.size (.cells #[.int .i64 (s.c : Int)] 3)).size (fun k hk => by have := (HO.out.lt k hk).1; have := HB.out.size; omega))
    have hsz5 : w3.heap.size ≤ w5.heap.size := by have := HG5.out.size; simp at this; omega
    have np : ∀ k : Nat, k < x2.heap.size + 1 → k ≠ x2.heap.size + 1 := fun k hk => by omega
    have D0 := Lib.hid (C0.out.far (p := ⟨x2.heap.size + 1, 0, none⟩) (np _ (by omega)) (.slice (some ⟨g', 0, none⟩) (s.P.length + 1) cap'))
    have D1 := Lib.hid (C1.out.far (p := ⟨x2.heap.size + 1, 0, none⟩) (np _ (by omega)) (.slice (some ⟨g', 0, none⟩) (s.P.length + 1) cap'))
    have D5 := Lib.hid (B5.out.far (p := ⟨x2.heap.size + 1, 0, none⟩) (np _ (by omega)) (.slice (some ⟨g', 0, none⟩) (s.P.length + 1) cap'))
    have DX := Lib.hid (CX.out.far (p := ⟨x2.heap.size + 1, 0, none⟩) (np _ (by omega)) (.slice (some ⟨g', 0, none⟩) (s.P.length + 1) cap'))
    have DU := Lib.hid (BU.out.put 0 (.slice (some ⟨g', 0, none⟩) (s.P.length + 1) cap'))
    have DR := Lib.hid (CR.out.far BU.out (by decide) (by decide) 0 (.slice (some ⟨g', 0, none⟩) (s.P.length + 1) cap'))
    have DB := Lib.hid (CB.out.setCell (p := ⟨x2.heap.size + 1, 0, none⟩) (by show w.heap.size ≤ x2.heap.size + 1; omega) (.slice (some ⟨g', 0, none⟩) (s.P.length + 1) cap'))
    have hne' := Lib.hid (own_ne HO5.out BU.out (by decide))
    have DO := Lib.hid (World.ownsRow.kept HO5.out (gk_set w5 (x2.heap.size + 1) 0 (.slice (some ⟨g', 0, none⟩) (s.P.length + 1) cap')) (.inr hne'.out))
    have hko2 := Lib.hid (hko.out.trans (KeepsOthers.setCell w5 ⟨x2.heap.size + 1, 0, none⟩ (.slice (some ⟨g', 0, none⟩) (s.P.length + 1) cap')))
    have hsz6 : w3.heap.size ≤ (w5.setCell ⟨x2.heap.size + 1, 0, none⟩ (.slice (some ⟨g', 0, none⟩) (s.P.length + 1) cap')).heap.size := by simpa [World.setCell] using hsz5
    clear HO5 HG5 BU B5 C0 C1 CX CR CB hko hne' np cu c5 cu5 cf5 c55 XO XN XL
    generalize w5.setCell ⟨x2.heap.size + 1, 0, none⟩ (.slice (some ⟨g', 0, none⟩) (s.P.length + 1) cap') = w6 at *
    have c6 := D5.out.cell 0
    simp only [List.getElem?_toArray, List.getElem?_cons_zero] at c6
    have hL6 : s.L.length ≤ 64 := by have := HWk.out.size; omega
    gi_wp2_with fail
    refine ⟨trivial, (CallsIn.inRound l (callsIn_wide.2 (clear_any N (by omega) s.L (work_lt HWk.out hL) hL6 (x1.heap.size + 2) (x1.heap.size + 1) g cap s.d s.c hd hcN (by omega) _ DX.out DR.out (by omega)))).mono ?_⟩
    rintro e w7 ⟨⟨v7, rfl⟩, k1, k2, k3⟩
    have K1 := Lib.hid k1
    have K2 := Lib.hid k2
    have K3 := Lib.hid k3
    clear k1 k2 k3 c6
    gi_wp2_with fail
    obtain ⟨cur, hcur⟩ := (DR.out.block rfl).2.2
    have hER : EchR w N A L.length c (x1.heap.size + 1) x2.heap.size w3.heap.size (s.P ++ [s.c]) w6 := ⟨⟨_, DU.out, by rw [List.length_append, List.map_append]; exact DO.out⟩, D0.out, D1.out, D5.out, DB.out, hsz6⟩
    exact ⟨hko2.out.trans (ko_gk hcur K3.out), work_clear HWk.out hd HBit.out, K1.out, K2.out, hER.gk g K3.out (by omega) (by omega) (by omega)⟩
  case done =>
    intro D s W hD hf hI hK
    obtain ⟨hw, hbx, hrow, ⟨u, hu, hown⟩, m0, m1, m5, hb, hsz⟩ := hI
    have HWk := Lib.hid hw
    have HBX := Lib.hid hbx
    have HRW := Lib.hid hrow
    have HU := Lib.hid hu
    have HO := Lib.hid hown
    have M0 := Lib.hid m0
    have M1 := Lib.hid m1
    have M5 := Lib.hid m5
    have HBw := Lib.hid hb
    have HF := Lib.hid hf
    have hdl := hw.dl
    have hls := hw.size
    obtain ⟨B, kc, hub, hkcap⟩ : ∃ B kc, u = .slice B s.P.length kc ∧ s.P.length ≤ kc := by
      rcases hown.2 with ⟨hv', hz⟩ | ⟨g, cap, cur, hv', -, -, hc1, -⟩
      · exact ⟨none, 0, by rw [hv', hz], by omega⟩
      · exact ⟨_, cap, hv', hc1⟩
    rw [hw.dp] at hkcap
    obtain ⟨A0, c0, hvv, hcc, hcm⟩ : ∃ A0 c0, v = .slice A0 s.L.length c0 ∧ s.L.length ≤ c0 ∧ c0 ≤ maxLen := by
      obtain ⟨rs, h1, h2, -⟩ := hrow
      rw [mkM_len] at h2
      rcases h2.2 with ⟨hv', hz⟩ | ⟨g, cap, cur, hv', -, -, hc1, hc2, -⟩
      · exact ⟨none, 0, by rw [hv', hz], by omega, Nat.zero_le _⟩
      · exact ⟨_, cap, hv', hc1, hc2⟩
    have HVV := Lib.hid hvv
    subst hvv hub
    unfold maxLen at hcm
    obtain ⟨p0, p1, -, -⟩ := m0.two
    obtain ⟨q0, q1, qf0, qf1⟩ := m1.two
    obtain ⟨b0, b1, b2, -, -, -⟩ := hbx.three
    have c5 := m5.cell 0
    have cu := hu.cell 0
    simp only [List.getElem?_toArray, List.getElem?_cons_zero] at c5 cu
    have g1 : (s.d : Int) ≤ c0 := by omega
    have g2 : s.d ≤ c0 := by omega
    have hWs : x2.heap.size + 1 < W.heap.size := hu.lt
    clear hw hbx hrow hu hown m0 m1 m5 hb hf
    gi_wp2
    have hDb : w.heap.size + 1 < D := by have := HS3.out; omega
    clear HS3 hblk QW QR Q0 Q1 Q5 Q6 HB HM hlen hsz hD
    have n1 : ¬ x2.heap.size = w.heap.size + 1 := by omega
    have n2 : ¬ x1.heap.size = w.heap.size := by omega
    have n3 : ¬ x2.heap.size = w.heap.size := by omega
    have n4 : ¬ w.heap.size + 1 = x2.heap.size := by omega
    have n5 : ¬ w.heap.size = x1.heap.size := by omega
    have n6 : ¬ w.heap.size = x2.heap.size := by omega
    refine wpIn_wide.2 ?_
    go_region_held3 (fun w' => w'.cell? ⟨w.heap.size, 0, none⟩ = some (.int .i64 (N : Int)) ∧ w'.cell? ⟨x2.heap.size, 0, none⟩ = some (.pointer (some ⟨x1.heap.size + 1, 0, none⟩)) ∧ w'.cell? ⟨x1.heap.size + 1, 1, none⟩ = some (.slice A0 s.L.length c0) ∧ w'.cell? ⟨x1.heap.size + 1, 2, none⟩ = some (.int .i64 (s.d : Int)) ∧ w'.cell? ⟨x2.heap.size + 1, 0, none⟩ = some (.slice B s.P.length kc)) (go_keep) (fail)
    have HR1 := Lib.hid ((HRW.out.far M1.out (by decide) (by decide) 0 (.int .i64 (N : Int))).far (M1.out.put 0 (.int .i64 (N : Int))) (by decide) (by decide) 1 (.slice A0 s.d s.d)).drew
    have HP1 := Lib.hid (World.ownsRow.drew (own_far (own_far HO.out M1.out (by decide) 0 (.int .i64 (N : Int))) (M1.out.put 0 (.int .i64 (N : Int))) (by decide) 1 (.slice A0 s.d s.d)))
    have HX1 := Lib.hid (Box.drew (M1.out.put2 (u := .int .i64 (N : Int)) (v := .slice A0 s.d s.d)))
    have HB1 := Lib.hid (((HBw.out.setCell (p := ⟨w.heap.size + 1, 0, none⟩) (by simp) (.int .i64 (N : Int))).setCell (p := ⟨w.heap.size + 1, 1, none⟩) (by simp) (.slice A0 s.d s.d)).drew)
    have hDn : D ≠ w.heap.size + 1 := by omega
    have hDw : w.heap.size ≤ D := by omega
    have HK1 : ((W.setCell ⟨w.heap.size + 1, 0, none⟩ (.int .i64 (N : Int))).setCell ⟨w.heap.size + 1, 1, none⟩ (.slice A0 s.d s.d)).drew.heap[D]? = some (.deferred (some [])) := by
      show ((W.setCell ⟨w.heap.size + 1, 0, none⟩ (.int .i64 (N : Int))).setCell ⟨w.heap.size + 1, 1, none⟩ (.slice A0 s.d s.d)).heap[D]? = _
      rw [Below.heap_setCell _ _ _ _ hDn, Below.heap_setCell _ _ _ _ hDn]; exact hK
    generalize ((W.setCell ⟨w.heap.size + 1, 0, none⟩ (.int .i64 (N : Int))).setCell ⟨w.heap.size + 1, 1, none⟩ (.slice A0 s.d s.d)).drew = W7 at *
    gi_wp2
    refine ⟨by simp, .inl ⟨_, _, rfl, run_takeDeferred HK1, ?_⟩⟩
    have hgb := fun o' => grownBy_putObj' W7 D o'
    have hkc := fun o' => kc_grown (hgb o') (fun r e => by cases e; exact ⟨_, HK1, rfl⟩)
    refine ⟨_, results_cell2 Try.results8 rfl rfl rfl (box_kc HX1.out (hkc _)) Try.underlying24 rfl (by kernel_rfl), ?_⟩
    have hMl : (s.L.take s.d).length = s.d := wk_len HWk.out
    have hPd : s.P.length = s.d := HWk.out.dp
    have hwk : Work L s.L s.d N s.P := HF.out ▸ HWk.out
    obtain ⟨f1, f2⟩ := work_end hwk hL
    obtain ⟨A9, c9, e9, -, hmat⟩ := RowsW.mat (HR1.out.kc (hkc (.deferred none))) (mkM_lt N s.L)
    rw [mkM_len] at e9 hmat
    injection e9 with e91 e92 e93
    subst e91
    have hm9 := (hmat.take s.d (by have := hwk.dl; omega)).low (Nat.zero_le _)
    rw [show (mkM N s.L).take s.d = mkM N (s.L.take s.d) from List.map_take.symm] at hm9
    have hp9 := own_kc HP1.out (hkc (.deferred none))
    rw [hPd] at hp9
    have hi9 := own_ints (zs := s.P.map fun x : Nat => (x : Int)) (by rw [List.map_map]; exact hp9) (num_bd hwk hN)
    have e1 : Value.slice B s.P.length kc = Value.slice B s.d kc := by rw [hPd]
    refine ⟨s.L.take s.d, s.P, A0, B, kc, ?_, f1, f2, by rw [hMl]; exact hm9, by rw [hMl]; exact hi9, by rw [hMl]; exact hkcap, HB1.out.grown (hgb _) HB1.out.size (fun k e => by cases e; exact hDw)⟩
    rw [hMl, ← e1]
    rfl
end
end Go.Proofs.Ytdfmogcgangdnaa
