/- Parts: Rd6, Rd7, Rd8, Few4, RuM, RuX, Re1, Re2, Re3, Re4, Re5, BitT, Plc, Tz, Ones, OnesP, BackM, MmM. -/
import Derived.Test.YtmfhimeffmpgaaaZh
import Derived.BigQuiet
import Derived.Deep.DeepCutAuto
import Derived.Deep.QuietTactic
import Derived.Deep.RegionHeld3
import Derived.Deep.RegionWith
import Derived.IntWalk
import Derived.Laws.BitsAllLaws
import Derived.LoopIn
import Derived.LoopNIn
import Derived.Maps.AppendAt
import Derived.OwnWalkIn
import Derived.RangeFuncBound
import Derived.RangeFuncBox
import Derived.RangeFuncCalls
import Derived.RangeFuncLeaves
import Derived.RangeFuncNested
import Derived.Shelf.Abstract
import Derived.Shelf.RegionOpen
import Derived.TacticsInMore
namespace Go.Proofs.Ytmfhimeffmpgaaa
section
/- Layer 4: Echelon, Rank. -/
set_option linter.unusedVariables false
set_option linter.unusedSimpArgs false
open Go.RowKit Go.Shelf
set_option maxRecDepth 100000
attribute [local go_sem] Oper.semAt_some
theorem int_infoE : (Try.prog.info? 3).map (fun i => (i.zero, i.size, i.bytes)) = some (some (.int .i64 0), 1, 8) := by kernel_rfl
/-- Reduced rows, and their places, are returned. -/
def EchOut (N : Nat) (orig : List Nat) (w : World) (e : Ending) (w' : World) : Prop :=
  ∃ (M P : List Nat) (A : Option Addr) (B : Option Addr) (k : Nat), e = .returned (.tuple #[.agg #[.int .i64 (N : Int), .slice A M.length M.length], .slice B M.length k, .int .i64 0]) ∧ Rref M P ∧ SameSp orig M ∧
    MatAt w' 0 A M.length (mkM N M) ∧ Ints w' B M.length (P.map fun x : Nat => (x : Int)) ∧ M.length ≤ k ∧ Below w.heap.size w w'
/-- The same, with where its memory lies: behind all that was there. -/
def EchOut2 (N : Nat) (orig : List Nat) (w : World) (e : Ending) (w' : World) : Prop :=
  ∃ (M P : List Nat) (A : Option Addr) (B : Option Addr) (k : Nat), e = .returned (.tuple #[.agg #[.int .i64 (N : Int), .slice A M.length M.length], .slice B M.length k, .int .i64 0]) ∧ Rref M P ∧ SameSp orig M ∧
    MatAt w' w.heap.size A M.length (mkM N M) ∧ Ints w' B M.length (P.map fun x : Nat => (x : Int)) ∧ M.length ≤ k ∧ (∀ b o, 0 < M.length → B = some ⟨b, o, none⟩ → w.heap.size ≤ b) ∧ Below w.heap.size w w'
theorem EchOut2.one {N : Nat} {orig : List Nat} {w : World} {e : Ending} {w' : World} (h : EchOut2 N orig w e w') : EchOut N orig w e w' := by
  obtain ⟨M, P, A, B, k, h0, h1, h2, h3, h4, h5, -, h7⟩ := h
  exact ⟨M, P, A, B, k, h0, h1, h2, h3.low (Nat.zero_le _), h4, h5, h7⟩
theorem results_cell2 {P : Program} {fn : Func} {tmps : Array Value} {W : World} {p q r : Tmp} {T : TypeId} {g : Nat} {cs : Array Value} {d : TypeDesc} {v u : Value} (hr : fn.results = #[.cell p T, .tmp q, .tmp r])
    (hp : tmps.getD p undef = .pointer (some ⟨g, 0, none⟩)) (hq : tmps.getD q undef = v) (hq2 : tmps.getD r undef = u) (hbox : Box W g T cs) (hu : P.underlying T = some d)
    (hk : (match d with | .struct _ | .array _ _ => true | _ => false) = true) (hi : (P.info? T).map (·.size) = some cs.size) :
    (results fn tmps).run P W = .ok (.tuple #[.agg cs, v, u]) W := by
  subst hq hq2
  have hp' : tmps[p]?.getD undef = .pointer (some ⟨g, 0, none⟩) := by simpa using hp
  simp [results, hr, hp', asAddr, run_loadVar_row W g T T cs (0, 0) d hbox hu hk hi]
theorem mkM_lt (N : Nat) (L : List Nat) (i j : Nat) : (((mkM N L).getD i (0, [])).2).getD j 0 < 18446744073709551616 := by
  by_cases h : i < L.length
  · rw [mkM_at N L i h]; exact rowOf_lt N _ j
  · have e : (mkM N L)[i]? = none := List.getElem?_eq_none (by rw [mkM_len]; omega)
    simp [List.getD, e]
theorem num_bd {orig L P : List Nat} {d N : Nat} (h : Work orig L d N P) (hN : N ≤ 64) (j : Nat) : -9223372036854775808 ≤ (P.map fun x : Nat => (x : Int)).getD j 0 ∧ (P.map fun x : Nat => (x : Int)).getD j 0 ≤ 9223372036854775807 := by
  by_cases hj : j < P.length
  · have h1 := h.lt j (by rw [← h.dp]; exact hj)
    have e : (P.map fun x : Nat => (x : Int)).getD j 0 = (P.getD j 0 : Nat) := by simp [List.getD, hj]
    rw [e]; omega
  · have e : (P.map fun x : Nat => (x : Int))[j]? = none := List.getElem?_eq_none (by simp; omega)
    simp [List.getD, e]
theorem wk_len {orig L P : List Nat} {d c : Nat} (h : Work orig L d c P) : (L.take d).length = d := by rw [List.length_take]; have := h.dl; omega
set_option maxHeartbeats 4000000 in
theorem echelon_in (N : Nat) (hN : N ≤ 64) (L : List Nat) (hL : ∀ r ∈ L, r < 2 ^ N) (hlen : L.length ≤ 64) (A : Option Addr) (c lo : Nat) (w : World) (hm : MatAt w lo A L.length (mkM N L)) (hr : rightM N (mkM N L) = true) :
    CallsIn Fence.wide 5 Try.prog 43 #[.agg #[.int .i64 (N : Int), .slice A L.length c]] w (EchOut2 N L w) := by
  obtain ⟨i0, hi, hz0, hz1, hz2⟩ := info_parts int_infoE
  have b0 : Below w.heap.size w (w.alloc (.cells #[.int .i64 (N : Int), .slice A L.length c] 53)) := (Below.refl _ _).alloc (Nat.le_refl _) _
  have b1 : Below w.heap.size w ((w.alloc (.cells #[.int .i64 (N : Int), .slice A L.length c] 53)).alloc (.cells #[.int .i64 0, .slice none 0 0] 53)) := b0.alloc (by simp) _
  have Q0 := Lib.hid ((Box.new w 53 #[.int .i64 (N : Int), .slice A L.length c]).alloc (.cells #[.int .i64 0, .slice none 0 0] 53))
  have q1 := Box.new (w.alloc (.cells #[.int .i64 (N : Int), .slice A L.length c] 53)) 53 #[.int .i64 0, .slice none 0 0]
  simp only [World.size_alloc] at q1
  have Q1 := Lib.hid q1
  have HB := Lib.hid b1
  have HM := Lib.hid (hm.below b1)
  have HR := Lib.hid (mright_any (N : Int) A L.length c lo (mkM N L) _ HM.out (by unfold maxLen; omega))
  rw [hr] at HR
  clear q1 b0 b1 hm hr
  refine callsIn_of_wp_marks Try.func43 rfl trivial ?_ rfl
  simp only [Try.ntmps43, List.size_toArray, List.length_cons, List.length_nil, Nat.reduceAdd, Nat.reduceSub, Array.replicate_succ, Array.replicate_zero, List.push_toArray, List.append_toArray, List.nil_append, List.cons_append]
  gi_wp2
  refine ⟨trivial, (callsIn_wide.2 HR.out).mono ?_⟩
  rintro e x1 ⟨rfl, hb⟩
  have Q0 := Lib.hid (Q0.out.keep hb)
  have Q1 := Lib.hid (Q1.out.keep hb)
  have HB := Lib.hid (chain HB.out hb)
  have HM := Lib.hid (HM.out.below hb)
  clear hb HR
  obtain ⟨r0, r1, -, -⟩ := Q0.out.two
  have hld := run_loadVar_row (P := Try.prog) x1 w.heap.size 53 53 #[.int .i64 (N : Int), .slice A L.length c] (0, 0) _ Q0.out Try.underlying53 rfl (by kernel_rfl)
  gi_wp2
  refine ⟨trivial, (callsIn_wide.2 (workOn_any N hN L hL hlen A c lo _ HM.out)).mono ?_⟩
  rintro e x2 ⟨v, rfl, hwb, hrw, hb⟩
  have hal1 : Below x2.heap.size x2 (x2.alloc (.cells #[.pointer (some ⟨x1.heap.size + 1, 0, none⟩)] 71)) := (Below.refl _ _).alloc (Nat.le_refl _) _
  have hal2 : Below x2.heap.size x2 ((x2.alloc (.cells #[.pointer (some ⟨x1.heap.size + 1, 0, none⟩)] 71)).alloc (.cells #[.slice none 0 0] 62)) := hal1.alloc (by simp) _
  have q5 := (Box.new x2 71 #[.pointer (some ⟨x1.heap.size + 1, 0, none⟩)]).alloc (.cells #[.slice none 0 0] 62)
  have q6 := Box.new (x2.alloc (.cells #[.pointer (some ⟨x1.heap.size + 1, 0, none⟩)] 71)) 62 #[.slice none 0 0]
  simp only [World.size_alloc] at q6
  have s1 : w.heap.size + 1 < x1.heap.size := Q1.out.lt
  have s2 : x1.heap.size + 1 < x2.heap.size := hwb.lt
  have hblk := Lib.hid (fun g (hg : v.ownBlock = some g) => And.intro (hrw.block hg).1 (hrw.block hg).2.1)
  have QW := Lib.hid (hwb.keep hal2)
  have QR := Lib.hid (hrw.below hal2)
  have Q0 := Lib.hid ((Q0.out.keep hb).keep hal2)
  have Q1 := Lib.hid ((Q1.out.keep hb).keep hal2)
  have Q5 := Lib.hid q5
  have Q6 := Lib.hid q6
  have HB := Lib.hid (chain (chain HB.out hb) hal2)
  clear hb hal1 hal2 q5 q6 hwb hrw r0 r1 hld
  gi_wp2
  generalize hw3 : (x2.alloc (.cells #[.pointer (some ⟨x1.heap.size + 1, 0, none⟩)] 71)).alloc (.cells #[.slice none 0 0] 62) = w3 at *
  have s3 : w3.heap.size = x2.heap.size + 2 := by rw [← hw3]; simp
  have HS3 := Lib.hid s3
  clear hw3 s3
  refine range_state rfl (by omega) (gf := 49) (la := #[.pointer (some ⟨x1.heap.size + 1, 0, none⟩)]) (lb := #[]) rfl trivial (enters_of Try.func49 (by kernel_rfl) rfl)
    (encs := fun s : StE => #[.int .i64 (s.c : Int)]) StE.next (fun s => s.c = N) (fun _ => rfl) ⟨L, 0, 0, []⟩ (EchI L w N A L.length c (x1.heap.size + 1) x2.heap.size w3.heap.size (x1.heap.size + 2) v) (EchM L w N A L.length c (x1.heap.size + 1) x2.heap.size w3.heap.size (x1.heap.size + 2) v)
    (echI_own HB.out.size) (echM_own HB.out.size) ?seq ?start ?a1 ?assign ?body ?done
  case seq =>
    intro l T hT hY s W1 hI hTW he
    subst he
    obtain ⟨-, h2, h3, h4⟩ := hI
    have h3s := HS3.out
    have key := columns_in 4 (by omega) l N hN L hL hlen (x1.heap.size + 2) (x1.heap.size + 1) v (by omega) (fun P W => EchR w N A L.length c (x1.heap.size + 1) x2.heap.size w3.heap.size P W ∧ T W)
      (fun P W W' h hb => ⟨h.1.below hb h.1.2.2.2.2.1.size, hT W W' h.2 (ko_below hb)⟩)
      (fun P W g i u h hg => ⟨h.1.put g i u (by rcases hg with rfl | hg; omega; have := hblk.out g hg; omega) (by rcases hg with rfl | hg; omega; have := hblk.out g hg; omega) (by omega), hT _ _ h.2 (KeepsOthers.setCell _ _ _)⟩)
      (fun L' d c' P W hw hd hb hc hbox hrows h => by
        obtain ⟨fn, tmps, assign, body, hy, hR⟩ := hY ⟨L', d, c', P⟩ W ⟨⟨hw, hd, hb, hc⟩, hbox, hrows, h.1⟩ h.2
        exact ⟨fn, tmps, assign, body, hy, hR.mono fun e W' h => ⟨h.1, by have := h.2.1.2.1; simpa [StE.next] using this, h.2.1.2.2.1, h.2.1.2.2.2, h.2.2⟩⟩)
      W1 (by simpa using h2) h3 ⟨h4, hTW⟩
    refine key.mono fun e W' h => ?_
    obtain ⟨hv, L', d, P, k1, k2, k3, k4, k5⟩ := h
    exact ⟨hv, ⟨L', d, N, P⟩, rfl, ⟨k1, k2, k3, k4⟩, k5⟩
  case start =>
    exact ⟨work_start L, by simpa using QW.out, QR.out, ⟨_, Q6.out, World.ownsRow_nil _ _ _ _⟩, Q0.out, Q1.out, Q5.out, HB.out, Nat.le_refl _⟩
  case assign =>
    intro l s W K hK
    gi_wp2
    exact hK
  case body =>
    intro l s W hM
    obtain ⟨⟨hw, hd, hbit, hcN⟩, hbx, hrow, ⟨u, hu, hown⟩, m0, m1, m5, hb, hsz⟩ := hM
    have h3s := HS3.out
    have HBX := Lib.hid hbx
    have HRW := Lib.hid hrow
    have HU := Lib.hid hu
    have HO := Lib.hid hown
    have M0 := Lib.hid m0
    have M1 := Lib.hid m1
    have M5 := Lib.hid m5
    have HBw := Lib.hid hb
    have HWk := Lib.hid hw
    have HBit := Lib.hid hbit
    have hPl : s.P.length ≤ 64 := by rw [hw.dp]; have := hw.dl; have := hw.size; omega
    have cu := hu.cell 0
    have c5 := m5.cell 0
    simp only [List.getElem?_toArray, List.getElem?_cons_zero] at cu c5
    have XO := Lib.hid (hown.alloc (.cells #[.int .i64 (s.c : Int)] 3))
    have XN := Lib.hid (cell_one_new W (.int .i64 (s.c : Int)) 3)
    have XL := Lib.hid (show w3.heap.size ≤ (W.alloc (.cells #[.int .i64 (s.c : Int)] 3)).heap.size by simp; omega)
    have a1 : s.P.length + 1 ≤ maxLen := by unfold maxLen; omega
    have a2 : (s.P.length + 1) * 8 ≤ 140737488355328 := by omega
    clear hbx hrow hu hown m0 m1 m5 hb hw hbit h3s
    gi_wp2_with (gi_at_builtin; refine wpListIn_append_own _ rfl _ _ 62 rfl w3.heap.size 3 i0 (.int .i64 0) 1 8 Try.underlying62 hi hz0 hz1 hz2 rfl (by decide) _ _ _ rfl XO.out ⟨W.heap.size, 0, none⟩ 1 1 [.int .i64 (s.c : Int)] rfl rfl (cell_one_new _ _ _) (by simp [Value.oneCell']) a1 a2 XL.out ?_; intro v' w5 hown' hgrow _; obtain ⟨g', cap', rfl⟩ := ownsRow_succ hown'; have HO5 := Lib.hid hown'; have HG5 := Lib.hid hgrow; have BU := Lib.hid ((HU.out.alloc (.cells #[.int .i64 (s.c : Int)] 3)).grown hgrow (own_ne HO.out HU.out (by decide))); have B5 := Lib.hid ((M5.out.alloc (.cells #[.int .i64 (s.c : Int)] 3)).grown hgrow (own_ne HO.out M5.out (by decide))); clear hown' hgrow; have cu5 := BU.out.cell 0; have cf5 := BU.out.free 0; have c55 := B5.out.cell 0; simp only [List.getElem?_toArray, List.getElem?_cons_zero] at cu5 c55)
    obtain ⟨g, cap, hv, hgb, hgl, hcap, hcm⟩ := HRW.out.form (by omega)
    subst hv
    have hko := Lib.hid (ko_grown HO.out HG5.out)
    have h3s := HS3.out
    have hgx := hblk.out g rfl
    have C0 := Lib.hid ((M0.out.alloc (.cells #[.int .i64 (s.c : Int)] 3)).grown HG5.out (own_ne HO.out M0.out (by decide)))
    have C1 := Lib.hid ((M1.out.alloc (.cells #[.int .i64 (s.c : Int)] 3)).grown HG5.out (own_ne HO.out M1.out (by decide)))
    have CX := Lib.hid ((HBX.out.alloc (.cells #[.int .i64 (s.c : Int)] 3)).grown HG5.out (own_ne HO.out HBX.out (by decide)))
    have CR := Lib.hid ((HRW.out.below ((Below.refl _ _).alloc (Nat.le_refl _) (.cells #[.int .i64 (s.c : Int)] 3))).grown (HO.out.alloc (.cells #[.int .i64 (s.c : Int)] 3)) (by decide) (by decide) HG5.out)
    have CB := Lib.hid (Below.grown (HBw.out.alloc HBw.out.size (.cells #[.int .i64 (s.c : Int)] 3)) HG5.out (HBw.out.alloc HBw.out.size (.cells #[.int .i64 (s.c : Int)] 3)).size (fun k hk => by have := (HO.out.lt k hk).1; have := HB.out.size; omega))
    have hsz5 : w3.heap.size ≤ w5.heap.size := by have := HG5.out.size; simp at this; omega
    have np : ∀ k : Nat, k < x2.heap.size + 1 → k ≠ x2.heap.size + 1 := fun k hk => by omega
    have D0 := Lib.hid (C0.out.far (p := ⟨x2.heap.size + 1, 0, none⟩) (np _ (by omega)) (.slice (some ⟨g', 0, none⟩) (s.P.length + 1) cap'))
    have D1 := Lib.hid (C1.out.far (p := ⟨x2.heap.size + 1, 0, none⟩) (np _ (by omega)) (.slice (some ⟨g', 0, none⟩) (s.P.length + 1) cap'))
    have D5 := Lib.hid (B5.out.far (p := ⟨x2.heap.size + 1, 0, none⟩) (np _ (by omega)) (.slice (some ⟨g', 0, none⟩) (s.P.length + 1) cap'))
    have DX := Lib.hid (CX.out.far (p := ⟨x2.heap.size + 1, 0, none⟩) (np _ (by omega)) (.slice (some ⟨g', 0, none⟩) (s.P.length + 1) cap'))
    have DU := Lib.hid (BU.out.put 0 (.slice (some ⟨g', 0, none⟩) (s.P.length + 1) cap'))
    have DR := Lib.hid (CR.out.far BU.out (by decide) (by decide) 0 (.slice (some ⟨g', 0, none⟩) (s.P.length + 1) cap'))
    have DB := Lib.hid (CB.out.setCell (p := ⟨x2.heap.size + 1, 0, none⟩) (by show w.heap.size ≤ x2.heap.size + 1; omega) (.slice (some ⟨g', 0, none⟩) (s.P.length + 1) cap'))
    have hne' := Lib.hid (own_ne HO5.out BU.out (by decide))
    have DO := Lib.hid (World.ownsRow.kept HO5.out (gk_set w5 (x2.heap.size + 1) 0 (.slice (some ⟨g', 0, none⟩) (s.P.length + 1) cap')) (.inr hne'.out))
    have hko2 := Lib.hid (hko.out.trans (KeepsOthers.setCell w5 ⟨x2.heap.size + 1, 0, none⟩ (.slice (some ⟨g', 0, none⟩) (s.P.length + 1) cap')))
    have hsz6 : w3.heap.size ≤ (w5.setCell ⟨x2.heap.size + 1, 0, none⟩ (.slice (some ⟨g', 0, none⟩) (s.P.length + 1) cap')).heap.size := by simpa [World.setCell] using hsz5
    clear HO5 HG5 BU B5 C0 C1 CX CR CB hko hne' np cu c5 cu5 cf5 c55 XO XN XL
    generalize w5.setCell ⟨x2.heap.size + 1, 0, none⟩ (.slice (some ⟨g', 0, none⟩) (s.P.length + 1) cap') = w6 at *
    have c6 := D5.out.cell 0
    simp only [List.getElem?_toArray, List.getElem?_cons_zero] at c6
    have hL6 : s.L.length ≤ 64 := by have := HWk.out.size; omega
    gi_wp2_with fail
    refine ⟨trivial, (CallsIn.inRound l (callsIn_wide.2 (clear_any N (by omega) s.L (work_lt HWk.out hL) hL6 (x1.heap.size + 2) (x1.heap.size + 1) g cap s.d s.c hd hcN (by omega) _ DX.out DR.out (by omega)))).mono ?_⟩
    rintro e w7 ⟨⟨v7, rfl⟩, k1, k2, k3⟩
    have K1 := Lib.hid k1
    have K2 := Lib.hid k2
    have K3 := Lib.hid k3
    clear k1 k2 k3 c6
    gi_wp2_with fail
    obtain ⟨cur, hcur⟩ := (DR.out.block rfl).2.2
    have hER : EchR w N A L.length c (x1.heap.size + 1) x2.heap.size w3.heap.size (s.P ++ [s.c]) w6 := ⟨⟨_, DU.out, by rw [List.length_append, List.map_append]; exact DO.out⟩, D0.out, D1.out, D5.out, DB.out, hsz6⟩
    exact ⟨hko2.out.trans (ko_gk hcur K3.out), work_clear HWk.out hd HBit.out, K1.out, K2.out, hER.gk g K3.out (by omega) (by omega) (by omega)⟩
  case done =>
    intro D s W hD hf hI hK
    obtain ⟨hw, hbx, hrow, ⟨u, hu, hown⟩, m0, m1, m5, hb, hsz⟩ := hI
    have HWk := Lib.hid hw
    have HBX := Lib.hid hbx
    have HRW := Lib.hid hrow
    have HU := Lib.hid hu
    have HO := Lib.hid hown
    have M0 := Lib.hid m0
    have M1 := Lib.hid m1
    have M5 := Lib.hid m5
    have HBw := Lib.hid hb
    have HF := Lib.hid hf
    have hdl := hw.dl
    have hls := hw.size
    obtain ⟨B, kc, hub, hkcap⟩ : ∃ B kc, u = .slice B s.P.length kc ∧ s.P.length ≤ kc := by
      rcases hown.2 with ⟨hv', hz⟩ | ⟨g, cap, cur, hv', -, -, hc1, -⟩
      · exact ⟨none, 0, by rw [hv', hz], by omega⟩
      · exact ⟨_, cap, hv', hc1⟩
    rw [hw.dp] at hkcap
    obtain ⟨A0, c0, hvv, hcc, hcm⟩ : ∃ A0 c0, v = .slice A0 s.L.length c0 ∧ s.L.length ≤ c0 ∧ c0 ≤ maxLen := by
      obtain ⟨rs, h1, h2, -⟩ := hrow
      rw [mkM_len] at h2
      rcases h2.2 with ⟨hv', hz⟩ | ⟨g, cap, cur, hv', -, -, hc1, hc2, -⟩
      · exact ⟨none, 0, by rw [hv', hz], by omega, Nat.zero_le _⟩
      · exact ⟨_, cap, hv', hc1, hc2⟩
    have HVV := Lib.hid hvv
    subst hvv hub
    unfold maxLen at hcm
    obtain ⟨p0, p1, -, -⟩ := m0.two
    obtain ⟨q0, q1, qf0, qf1⟩ := m1.two
    obtain ⟨b0, b1, b2, -, -, -⟩ := hbx.three
    have c5 := m5.cell 0
    have cu := hu.cell 0
    simp only [List.getElem?_toArray, List.getElem?_cons_zero] at c5 cu
    have g1 : (s.d : Int) ≤ c0 := by omega
    have g2 : s.d ≤ c0 := by omega
    have hWs : x2.heap.size + 1 < W.heap.size := hu.lt
    clear hw hbx hrow hu hown m0 m1 m5 hb hf
    gi_wp2
    have hDb : w.heap.size + 1 < D := by have := HS3.out; omega
    have hw39 : w.heap.size ≤ w3.heap.size := HB.out.size
    clear HS3 hblk QW QR Q0 Q1 Q5 Q6 HB HM hlen hsz hD
    have n1 : ¬ x2.heap.size = w.heap.size + 1 := by omega
    have n2 : ¬ x1.heap.size = w.heap.size := by omega
    have n3 : ¬ x2.heap.size = w.heap.size := by omega
    have n4 : ¬ w.heap.size + 1 = x2.heap.size := by omega
    have n5 : ¬ w.heap.size = x1.heap.size := by omega
    have n6 : ¬ w.heap.size = x2.heap.size := by omega
    refine wpIn_wide.2 ?_
    go_region_held3 (fun w' => w'.cell? ⟨w.heap.size, 0, none⟩ = some (.int .i64 (N : Int)) ∧ w'.cell? ⟨x2.heap.size, 0, none⟩ = some (.pointer (some ⟨x1.heap.size + 1, 0, none⟩)) ∧ w'.cell? ⟨x1.heap.size + 1, 1, none⟩ = some (.slice A0 s.L.length c0) ∧ w'.cell? ⟨x1.heap.size + 1, 2, none⟩ = some (.int .i64 (s.d : Int)) ∧ w'.cell? ⟨x2.heap.size + 1, 0, none⟩ = some (.slice B s.P.length kc)) (go_keep) (fail)
    have HR1 := Lib.hid ((HRW.out.far M1.out (by decide) (by decide) 0 (.int .i64 (N : Int))).far (M1.out.put 0 (.int .i64 (N : Int))) (by decide) (by decide) 1 (.slice A0 s.d s.d)).drew
    have HP1 := Lib.hid (World.ownsRow.drew (own_far (own_far HO.out M1.out (by decide) 0 (.int .i64 (N : Int))) (M1.out.put 0 (.int .i64 (N : Int))) (by decide) 1 (.slice A0 s.d s.d)))
    have HX1 := Lib.hid (Box.drew (M1.out.put2 (u := .int .i64 (N : Int)) (v := .slice A0 s.d s.d)))
    have HB1 := Lib.hid (((HBw.out.setCell (p := ⟨w.heap.size + 1, 0, none⟩) (by simp) (.int .i64 (N : Int))).setCell (p := ⟨w.heap.size + 1, 1, none⟩) (by simp) (.slice A0 s.d s.d)).drew)
    have hDn : D ≠ w.heap.size + 1 := by omega
    have hDw : w.heap.size ≤ D := by omega
    have HK1 : ((W.setCell ⟨w.heap.size + 1, 0, none⟩ (.int .i64 (N : Int))).setCell ⟨w.heap.size + 1, 1, none⟩ (.slice A0 s.d s.d)).drew.heap[D]? = some (.deferred (some [])) := by
      show ((W.setCell ⟨w.heap.size + 1, 0, none⟩ (.int .i64 (N : Int))).setCell ⟨w.heap.size + 1, 1, none⟩ (.slice A0 s.d s.d)).heap[D]? = _
      rw [Below.heap_setCell _ _ _ _ hDn, Below.heap_setCell _ _ _ _ hDn]; exact hK
    generalize ((W.setCell ⟨w.heap.size + 1, 0, none⟩ (.int .i64 (N : Int))).setCell ⟨w.heap.size + 1, 1, none⟩ (.slice A0 s.d s.d)).drew = W7 at *
    gi_wp2
    refine ⟨by simp, .inl ⟨_, _, rfl, run_takeDeferred HK1, ?_⟩⟩
    have hgb := fun o' => grownBy_putObj' W7 D o'
    have hkc := fun o' => kc_grown (hgb o') (fun r e => by cases e; exact ⟨_, HK1, rfl⟩)
    refine ⟨_, results_cell2 Try.results43 rfl rfl rfl (box_kc HX1.out (hkc _)) Try.underlying53 rfl (by kernel_rfl), ?_⟩
    have hMl : (s.L.take s.d).length = s.d := wk_len HWk.out
    have hPd : s.P.length = s.d := HWk.out.dp
    have hwk : Work L s.L s.d N s.P := HF.out ▸ HWk.out
    obtain ⟨f1, f2⟩ := work_end hwk hL
    obtain ⟨A9, c9, e9, -, hmat⟩ := RowsW.mat (HR1.out.kc (hkc (.deferred none))) (mkM_lt N s.L)
    rw [mkM_len] at e9 hmat
    injection e9 with e91 e92 e93
    subst e91
    have hm9 := (hmat.take s.d (by have := hwk.dl; omega)).low (l2 := w.heap.size) (by omega)
    rw [show (mkM N s.L).take s.d = mkM N (s.L.take s.d) from List.map_take.symm] at hm9
    have hp9 := own_kc HP1.out (hkc (.deferred none))
    rw [hPd] at hp9
    have hlo9 : ∀ b o, B = some ⟨b, o, none⟩ → w.heap.size ≤ b := fun b o hbo => by have := (hp9.lt b (by rw [hbo]; rfl)).1; omega
    have hi9 := own_ints (zs := s.P.map fun x : Nat => (x : Int)) (by rw [List.map_map]; exact hp9) (num_bd hwk hN)
    have e1 : Value.slice B s.P.length kc = Value.slice B s.d kc := by rw [hPd]
    refine ⟨s.L.take s.d, s.P, A0, B, kc, ?_, f1, f2, by rw [hMl]; exact hm9, by rw [hMl]; exact hi9, by rw [hMl]; exact hkcap, fun b o _ hbo => (hlo9 b o hbo), HB1.out.grown (hgb _) HB1.out.size (fun k e => by cases e; exact hDw)⟩
    rw [hMl, ← e1]
    rfl
end
section
/- Layer 4: Echelon, Rank, whole. -/
set_option linter.unusedVariables false
set_option linter.unusedSimpArgs false
open Go.RowKit
set_option maxRecDepth 100000
theorem ech_yes (N : Nat) (hN : N ≤ 64) (L : List Nat) (hL : ∀ r ∈ L, r < 2 ^ N) (hlen : L.length ≤ 64) (A : Option Addr) (c lo : Nat) (w : World) (hm : MatAt w lo A L.length (mkM N L)) (hr : rightM N (mkM N L) = true) :
    Calls Try.prog 43 #[.agg #[.int .i64 (N : Int), .slice A L.length c]] w (EchOut N L w) := (callsIn_wide.1 (echelon_in N hN L hL hlen A c lo w hm hr)).mono fun _ _ h => h.one
theorem ech_two (N : Nat) (hN : N ≤ 64) (L : List Nat) (hL : ∀ r ∈ L, r < 2 ^ N) (hlen : L.length ≤ 64) (A : Option Addr) (c lo : Nat) (w : World) (hm : MatAt w lo A L.length (mkM N L)) (hr : rightM N (mkM N L) = true) :
    Calls Try.prog 43 #[.agg #[.int .i64 (N : Int), .slice A L.length c]] w (EchOut2 N L w) := callsIn_wide.1 (echelon_in N hN L hL hlen A c lo w hm hr)
theorem close_cell2 {P : Program} {fn : Func} {R : Ending → World → Prop} {a : Act} {W : World} {p q r : Tmp} {T : TypeId} {g : Nat} {cs : Array Value} {d : TypeDesc} {v u : Value} (hr : fn.results = #[.cell p T, .tmp q, .tmp r])
    (hp : a.tmps.getD p undef = .pointer (some ⟨g, 0, none⟩)) (hq : a.tmps.getD q undef = v) (hq2 : a.tmps.getD r undef = u) (hd : a.defers = []) (hbox : Box W g T cs) (hu : P.underlying T = some d)
    (hk : (match d with | .struct _ | .array _ _ => true | _ => false) = true) (hi : (P.info? T).map (·.size) = some cs.size)
    (hR : R (.returned (.tuple #[.agg cs, v, u])) W) : bodyPost P fn R .ret a W := bodyPost_ret (results_cell2 hr hp hq hq2 hbox hu hk hi) hd hR
/-- A refusal. -/
def EchNo (w : World) (e : Ending) (w' : World) : Prop := e = .returned (.tuple #[.agg #[.int .i64 0, .slice none 0 0], .slice none 0 0, .int .i64 1]) ∧ Below w.heap.size w w'
theorem ech_no (N : Int) (A : Option Addr) (l c lo : Nat) (ms : List (Int × List Nat)) (w : World) (hm : MatAt w lo A l ms) (hl : l ≤ maxLen) (hr : rightM N ms = false) :
    Calls Try.prog 43 #[.agg #[.int .i64 N, .slice A l c]] w (EchNo w) := by
  have b1 : Below w.heap.size w ((w.alloc (.cells #[.int .i64 N, .slice A l c] 53)).alloc (.cells #[.int .i64 0, .slice none 0 0] 53)) := ((Below.refl _ _).alloc (Nat.le_refl _) _).alloc (by simp) _
  have Q0 := Lib.hid ((Box.new w 53 #[.int .i64 N, .slice A l c]).alloc (.cells #[.int .i64 0, .slice none 0 0] 53))
  have q1 := Box.new (w.alloc (.cells #[.int .i64 N, .slice A l c] 53)) 53 #[.int .i64 0, .slice none 0 0]
  simp only [World.size_alloc] at q1
  have Q1 := Lib.hid q1
  have HB := Lib.hid b1
  have HR := Lib.hid (mright_any N A l c lo ms _ (hm.below b1) hl)
  rw [hr] at HR
  clear q1 b1 hm hr
  go_enter Try.func43, Try.ntmps43
  go_wp2_with fail
  refine HR.out.mono ?_
  rintro e x1 ⟨rfl, hb⟩
  have Q1 := Lib.hid (Q1.out.keep hb)
  have HB := Lib.hid (chain HB.out hb)
  clear hb HR Q0
  obtain ⟨r0, r1, f0, f1⟩ := Q1.out.two
  go_wp2_with fail
  refine close_cell2 Try.results43 rfl rfl rfl rfl Q1.out.put2 Try.underlying53 rfl (by kernel_rfl) ⟨rfl, ?_⟩
  exact (HB.out.setCell (p := ⟨w.heap.size + 1, 0, none⟩) (by simp) _).setCell (p := ⟨w.heap.size + 1, 1, none⟩) (by simp) _
/-- How many rows a matrix reduced has. -/
def RankOut (L : List Nat) (w : World) (e : Ending) (w' : World) : Prop := ∃ M P, Rref M P ∧ SameSp L M ∧ e = .returned (.tuple #[.int .i64 (M.length : Nat), .int .i64 0]) ∧ Below w.heap.size w w'
theorem rank_yes (N : Nat) (hN : N ≤ 64) (L : List Nat) (hL : ∀ r ∈ L, r < 2 ^ N) (hlen : L.length ≤ 64) (A : Option Addr) (c lo : Nat) (w : World) (hm : MatAt w lo A L.length (mkM N L)) (hr : rightM N (mkM N L) = true) :
    Calls Try.prog 39 #[.agg #[.int .i64 (N : Int), .slice A L.length c]] w (RankOut L w) := by
  have b1 : Below w.heap.size w (w.alloc (.cells #[.int .i64 (N : Int), .slice A L.length c] 53)) := (Below.refl _ _).alloc (Nat.le_refl _) _
  have Q0 := Lib.hid (Box.new w 53 #[.int .i64 (N : Int), .slice A L.length c])
  have HB := Lib.hid b1
  have HE := Lib.hid (ech_yes N hN L hL hlen A c lo _ (hm.below b1) hr)
  clear b1 hm hr
  obtain ⟨r0, r1, -, -⟩ := Q0.out.two
  go_enter Try.func39, Try.ntmps39
  go_wp2_with fail
  refine HE.out.mono ?_
  rintro e x1 ⟨M, P, A1, B1, k, rfl, h1, h2, h3, h4, h5, hb⟩
  have H1 := Lib.hid h1
  have H2 := Lib.hid h2
  have HB := Lib.hid (chain HB.out hb)
  clear h1 h2 h3 h4 h5 hb r0 r1
  go_wp2_with fail
  go_ret2
  exact ⟨M, P, H1.out, H2.out, rfl, HB.out.alloc HB.out.size _⟩
theorem rank_no (N : Int) (A : Option Addr) (l c lo : Nat) (ms : List (Int × List Nat)) (w : World) (hm : MatAt w lo A l ms) (hl : l ≤ maxLen) (hr : rightM N ms = false) :
    Calls Try.prog 39 #[.agg #[.int .i64 N, .slice A l c]] w fun e w' => e = .returned (.tuple #[.int .i64 0, .int .i64 1]) ∧ Below w.heap.size w w' := by
  have b1 : Below w.heap.size w (w.alloc (.cells #[.int .i64 N, .slice A l c] 53)) := (Below.refl _ _).alloc (Nat.le_refl _) _
  have Q0 := Lib.hid (Box.new w 53 #[.int .i64 N, .slice A l c])
  have HB := Lib.hid b1
  have HE := Lib.hid (ech_no N A l c lo ms _ (hm.below b1) hl hr)
  clear b1 hm hr
  obtain ⟨r0, r1, -, -⟩ := Q0.out.two
  go_enter Try.func39, Try.ntmps39
  go_wp2_with fail
  refine HE.out.mono ?_
  rintro e x1 ⟨rfl, hb⟩
  have HB := Lib.hid (chain HB.out hb)
  clear hb r0 r1
  go_wp2_with fail
  go_ret2
  exact ⟨rfl, HB.out.alloc HB.out.size _⟩
end
section
/- Law 04's alive. -/
set_option linter.unusedVariables false
set_option linter.unusedSimpArgs false
open Go.RowKit
set_option maxRecDepth 100000
theorem rref_three : Rref [3] [0] := by
  refine ⟨rfl, fun i hi => ?_, fun i j hi hj => ?_, fun i j hij hj => ?_⟩
  · obtain rfl : i = 0 := by simp at hi; omega
    exact ⟨by decide, fun q hq => absurd hq (Nat.not_lt_zero _)⟩
  · obtain rfl : i = 0 := by simp at hi; omega
    obtain rfl : j = 0 := by simp at hj; omega
    decide
  · simp at hj; omega
theorem rank_three {M P : List Nat} (h : Rref M P) (hs : SameSp [3, 3] M) : M.length = 1 := by
  have h3 : SameSp [3, 3] [3] := SameSp.of (fun r hr => by simp at hr; subst hr; exact sp_mem (by simp)) (fun r hr => by simp at hr; subst hr; exact sp_mem (by simp))
  obtain ⟨e, -⟩ := rref_uniq h rref_three (hs.symm.trans h3)
  rw [e]; rfl
theorem rowOf_three : rowOf 2 3 = [3] := by decide
/-- The world of alive's matrix. -/
def alW (w : World) : World := ((w.alloc (.cells #[.int .u64 3] 25)).alloc (.cells #[.int .u64 3] 25)).alloc (.cells #[.int .i64 2, .slice (some ⟨w.heap.size, 0, none⟩) 1 1, .int .i64 2, .slice (some ⟨w.heap.size + 1, 0, none⟩) 1 1] 69)
theorem alW_below (w : World) : Below w.heap.size w (alW w) := (((Below.refl _ _).alloc (Nat.le_refl _) _).alloc (by simp) _).alloc (by simp; omega) _
theorem alive_mat (w : World) : MatAt (alW w) 0 (some ⟨w.heap.size + 1 + 1, 0, none⟩) 2 (mkM 2 [3, 3]) := by
  have q0 : Box (alW w) w.heap.size 25 (numsA [3]) := ((Box.new w 25 #[.int .u64 3]).alloc _).alloc _
  have q1 : Box (alW w) (w.heap.size + 1) 25 (numsA [3]) := by
    have := (Box.new (w.alloc (.cells #[.int .u64 3] 25)) 25 #[.int .u64 3]).alloc (.cells #[.int .i64 2, .slice (some ⟨w.heap.size, 0, none⟩) 1 1, .int .i64 2, .slice (some ⟨w.heap.size + 1, 0, none⟩) 1 1] 69)
    simp only [World.size_alloc] at this
    exact this
  have q2 : Box (alW w) (w.heap.size + 1 + 1) 69 #[.int .i64 2, .slice (some ⟨w.heap.size, 0, none⟩) 1 1, .int .i64 2, .slice (some ⟨w.heap.size + 1, 0, none⟩) 1 1] := by
    have := Box.new ((w.alloc (.cells #[.int .u64 3] 25)).alloc (.cells #[.int .u64 3] 25)) 69 #[.int .i64 2, .slice (some ⟨w.heap.size, 0, none⟩) 1 1, .int .i64 2, .slice (some ⟨w.heap.size + 1, 0, none⟩) 1 1]
    simp only [World.size_alloc] at this
    exact this
  have hz : ∀ j, ([3] : List Nat).getD j 0 < 18446744073709551616 := fun j => by match j with | 0 => decide | j + 1 => simp
  have w0 : Words (alW w) (some ⟨w.heap.size, 0, none⟩) 1 (rowOf 2 3) := by rw [rowOf_three]; exact q0.words hz
  have w1 : Words (alW w) (some ⟨w.heap.size + 1, 0, none⟩) 1 (rowOf 2 3) := by rw [rowOf_three]; exact q1.words hz
  refine ⟨rfl, fun _ => ⟨_, 0, rfl, Nat.zero_le _, q2.lt, fun j hj => ?_⟩⟩
  match j, hj with
  | 0, _ => exact ⟨_, 1, 1, q2.cell 0, q2.cell 1, ⟨Nat.le_refl _, by decide, fun h => by cases h⟩, w0⟩
  | 1, _ => exact ⟨_, 1, 1, q2.cell 2, q2.cell 3, ⟨Nat.le_refl _, by decide, fun h => by cases h⟩, w1⟩
end
section
/- Contract of law 04's few: a matrix of at most 66 rows, of three words each. -/
set_option linter.unusedVariables false
set_option linter.unusedSimpArgs false
open Go.RowKit
end
section
/- Rows in another order, with the xor of two of them more, span the same. -/
set_option linter.unusedVariables false
set_option linter.unusedSimpArgs false
open Go.RowKit
def turnI (a k j : Nat) : Nat := if j ≤ a then a - j else a + k - j
theorem turnI_lt (a k j : Nat) (ha : a < k) (hj : j < k) : turnI a k j < k := by unfold turnI; split <;> omega
theorem turnI_mod (a k j : Nat) (ha : a < k) (hj : j < k) : ((a : Int) + (k : Int) - (j : Int)) % (k : Int) = ((turnI a k j : Nat) : Int) := by
  unfold turnI
  by_cases h : j ≤ a
  · rw [if_pos h, show (a : Int) + (k : Int) - (j : Int) = ((a - j : Nat) : Int) + (k : Int) by omega, Int.add_emod_right]
    exact Int.emod_eq_of_lt (by omega) (by omega)
  · rw [if_neg h, show (a : Int) + (k : Int) - (j : Int) = ((a + k - j : Nat) : Int) by omega]
    exact Int.emod_eq_of_lt (by omega) (by omega)
def turnK (L : List Nat) (x a i : Nat) : List Nat := x :: (List.range i).map fun j => L.getD (turnI a L.length j) 0
theorem turnK_len (L : List Nat) (x a i : Nat) : (turnK L x a i).length = i + 1 := by simp [turnK]
theorem turnK_succ (L : List Nat) (x a i : Nat) : turnK L x a (i + 1) = turnK L x a i ++ [L.getD (turnI a L.length i) 0] := by simp [turnK, List.range_succ]
theorem turn_span (L : List Nat) (a b : Nat) (ha : a < L.length) (hb : b < L.length) : SameSp L (turnK L (L.getD a 0 ^^^ L.getD b 0) a L.length) := by
  refine SameSp.of (fun r hr => ?_) (fun r hr => ?_)
  · obtain ⟨p, hp, rfl⟩ := mem_getD hr
    refine sp_mem ?_
    unfold turnK
    refine List.mem_cons_of_mem _ (List.mem_map.2 ⟨if p ≤ a then a - p else a + L.length - p, List.mem_range.2 (by split <;> omega), ?_⟩)
    congr 1
    unfold turnI
    split <;> split <;> omega
  · unfold turnK at hr
    rcases List.mem_cons.1 hr with rfl | hr
    · exact sp_xor (sp_mem (getD_mem ha)) (sp_mem (getD_mem hb))
    · obtain ⟨j, hj, rfl⟩ := List.mem_map.1 hr
      exact sp_mem (getD_mem (turnI_lt _ _ _ ha (List.mem_range.1 hj)))
theorem turn_lt {n : Nat} {L : List Nat} (h : ∀ r ∈ L, r < 2 ^ n) (a b i : Nat) : ∀ r ∈ turnK L (L.getD a 0 ^^^ L.getD b 0) a i, r < 2 ^ n := fun r hr => by
  unfold turnK at hr
  rcases List.mem_cons.1 hr with rfl | hr
  · exact Nat.xor_lt_two_pow (lt_all h a) (lt_all h b)
  · obtain ⟨j, hj, rfl⟩ := List.mem_map.1 hr
    exact lt_all h _
theorem right_mk (n : Nat) (hn : n ≤ 64) (L : List Nat) (hl : L.length ≤ 64) (h : ∀ r ∈ L, r < 2 ^ n) : rightM n (mkM n L) = true := by
  have h1 : smb (n : Int) = true := (smb_iff _).2 ⟨by omega, by omega⟩
  have h2 : rowsB (n : Int) (mkM n L) = true := List.all_eq_true.2 fun r hr => by
    obtain ⟨x, hx, rfl⟩ := List.mem_map.1 hr
    simp [mkR, rowOf_right n x (by omega) (h x hx)]
  simp [rightM, h1, h2, mkM_len, hl]
/-- Rows that may be anywhere. -/
theorem turn_same {L M P M2 P2 : List Nat} {a b : Nat} (ha : a < L.length) (hb : b < L.length) (h1 : Rref M P) (h2 : SameSp L M) (h3 : Rref M2 P2) (h4 : SameSp (turnK L (L.getD a 0 ^^^ L.getD b 0) a L.length) M2) : M2 = M :=
  (rref_uniq h3 h1 ((h4.symm.trans (turn_span L a b ha hb).symm).trans h2)).1
end
section
/- ReduceUnique: the walk. -/
set_option linter.unusedVariables false
set_option linter.unusedSimpArgs false
open Go.RowKit
theorem own_new2 (W : World) (base e : Nat) (cs : Array Value) (hb : base ≤ W.heap.size) (hn : cs.size = 2) : (W.alloc (.cells cs e)).ownsRow base e 2 (.slice (some ⟨W.heap.size, 0, none⟩) 1 1) 1 cs.toList := by
  refine ⟨by simp [hn], .inr ⟨W.heap.size, 1, cs, rfl, hb, heap_alloc_new W _, Nat.le_refl _, ?_, ?_, ?_⟩⟩
  · simp [maxLen]
  · simp [hn]
  · rw [List.take_of_length_le (by simp [hn])]
theorem rank_le {L M P : List Nat} (h1 : Rref M P) (h2 : SameSp L M) : M.length ≤ L.length := by
  obtain ⟨M', P', a, b, c⟩ := rref_exists L
  rw [(rref_uniq h1 a (h2.symm.trans b)).1]; exact c
def RowP (w : World) (n : Nat) (r : RowV) (x : Nat) : Prop := r.1 = (n : Int) ∧ SliceOk r.2.1 r.2.2.1 r.2.2.2 ∧ Words w r.2.1 r.2.2.1 (rowOf n x)
theorem rowsP_snoc {w : World} {n m : Nat} {rs : List RowV} {K : List Nat} {r : RowV} {x : Nat} (h1 : rs.length = m) (h2 : K.length = m) (h : ∀ j, j < m → RowP w n (rs.getD j (0, none, 0, 0)) (K.getD j 0)) (hr : RowP w n r x) : ∀ j, j < m + 1 → RowP w n ((rs ++ [r]).getD j (0, none, 0, 0)) ((K ++ [x]).getD j 0) := fun j hj => by
  by_cases hm : j < m
  · have e1 : (rs ++ [r]).getD j (0, none, 0, 0) = rs.getD j (0, none, 0, 0) := by simp only [List.getD]; rw [List.getElem?_append_left (by omega)]
    have e2 : (K ++ [x]).getD j 0 = K.getD j 0 := by simp only [List.getD]; rw [List.getElem?_append_left (by omega)]
    rw [e1, e2]; exact h j hm
  · obtain rfl : j = m := by omega
    have e1 : (rs ++ [r]).getD j (0, none, 0, 0) = r := by rw [← h1]; simp [List.getD]
    have e2 : (K ++ [x]).getD j 0 = x := by rw [← h2]; simp [List.getD]
    rw [e1, e2]; exact hr
theorem mk_short (n : Nat) (hn : n ≤ 64) (M : List Nat) (j : Nat) : ((mkM n M).getD j (0, [])).2.length ≤ 1000000 := by
  by_cases h : j < M.length
  · rw [mkM_at n M j h]
    simp only [mkR, rowOf_len]
    unfold nw; omega
  · have : (mkM n M)[j]? = none := List.getElem?_eq_none (by rw [mkM_len]; omega)
    simp [List.getD, this]
set_option maxRecDepth 100000
end
section
/- Contracts of layer 4's reference: First. -/
set_option linter.unusedVariables false
set_option linter.unusedSimpArgs false
open Go.RowKit
set_option maxRecDepth 100000
end
section
/- The reference's Xor: rows of the call's own. -/
set_option linter.unusedVariables false
set_option linter.unusedSimpArgs false
open Go.RowKit
set_option maxRecDepth 100000
end
section
/- The reference's Left. -/
set_option linter.unusedVariables false
set_option linter.unusedSimpArgs false
open Go.RowKit
set_option maxRecDepth 100000
theorem low_lt {N x p : Nat} (hx : x < 2 ^ N) (hp : IsLow x p) : p < N := by
  apply Classical.byContradiction
  intro h
  have := Nat.testBit_lt_two_pow (Nat.lt_of_lt_of_le hx (Nat.pow_le_pow_right (by omega) (show N ≤ p by omega)))
  rw [hp.1] at this; cases this
theorem leftN_lt {N : Nat} {L P : List Nat} (hL : ∀ i, L.getD i 0 < 2 ^ N) (x : Nat) (hx : x < 2 ^ N) : ∀ k, leftN L P x k < 2 ^ N
  | 0 => hx
  | k + 1 => by
    unfold leftN
    split
    · exact Nat.xor_lt_two_pow (leftN_lt hL x hx k) (hL k)
    · exact leftN_lt hL x hx k
/-- What Left leaves: a row, its words anywhere. -/
def LeftOut (N z : Nat) (w : World) (e : Ending) (w' : World) : Prop :=
  ∃ A l c, e = .returned (.agg #[.int .i64 (N : Int), .slice A l c]) ∧ SliceOk A l c ∧ Words w' A l (rowOf N z) ∧ Below w.heap.size w w'
end
section
/- The reference's with. -/
set_option linter.unusedVariables false
set_option linter.unusedSimpArgs false
open Go.RowKit
set_option maxRecDepth 100000
/-- A row of the reference's: its words are the argument's (at the world w0) or its own. -/
def RowQ (w0 w : World) (N : Nat) (r : RowV) (x : Nat) : Prop := r.1 = (N : Int) ∧ SliceOk r.2.1 r.2.2.1 r.2.2.2 ∧ (Words w0 r.2.1 r.2.2.1 (rowOf N x) ∨ OwnW w r.2.1 r.2.2.1 r.2.2.2 (rowOf N x))
def RowsQ (w0 w : World) (base : Nat) (v : Value) (N : Nat) (K : List Nat) : Prop :=
  ∃ rs : List RowV, rs.length = K.length ∧ w.ownsRow base 69 2 v K.length (rowCells rs) ∧ ∀ j, j < K.length → RowQ w0 w N (rs.getD j (0, none, 0, 0)) (K.getD j 0)
theorem RowQ.below {w0 w w' : World} {N : Nat} {r : RowV} {x : Nat} (h : RowQ w0 w N r x) (hb : Below w.heap.size w w') : RowQ w0 w' N r x := ⟨h.1, h.2.1, h.2.2.imp id (fun o => o.below hb)⟩
theorem RowsQ.below {w0 w w' : World} {base : Nat} {v : Value} {N : Nat} {K : List Nat} (h : RowsQ w0 w base v N K) (hb : Below w.heap.size w w') : RowsQ w0 w' base v N K := by
  obtain ⟨rs, h1, h2, h3⟩ := h
  exact ⟨rs, h1, own_keep h2 hb, fun j hj => (h3 j hj).below hb⟩
theorem RowsQ.appended {w0 w : World} {base : Nat} {v : Value} {N : Nat} {K : List Nat} {B : Option Addr} {l d y : Nat} (h : RowsQ w0 w base v N K) (hn : RowQ w0 w N ((N : Int), B, l, d) y) :
    ∃ rs : List RowV, (w.alloc (.cells #[.int .i64 (N : Int), .slice B l d] 69)).ownsRow base 69 2 v K.length (rowCells rs) ∧ ∀ v' w1, w1.ownsRow base 69 2 v' (K.length + 1) (rowCells rs ++ [.int .i64 (N : Int), .slice B l d]) → (w.alloc (.cells #[.int .i64 (N : Int), .slice B l d] 69)).grownBy w1 v.ownBlock → RowsQ w0 w1 base v' N (K ++ [y]) := by
  obtain ⟨rs, h1, h2, h3⟩ := h
  have h2' := World.ownsRow.alloc h2 (.cells #[.int .i64 (N : Int), .slice B l d] 69)
  have al : Below w.heap.size w (w.alloc (.cells #[.int .i64 (N : Int), .slice B l d] 69)) := (Below.refl _ _).alloc (Nat.le_refl _) _
  refine ⟨rs, h2', fun v' w1 ho hg => ⟨rs ++ [((N : Int), B, l, d)], by simp [h1], by rw [rowCells_snoc, List.length_append]; exact ho, fun j hj => ?_⟩⟩
  have gr : ∀ {r : RowV} {x : Nat}, RowQ w0 w N r x → RowQ w0 w1 N r x := fun q => ⟨q.1, q.2.1, q.2.2.imp id (fun o => (o.below al).grown h2' (by decide) hg)⟩
  rw [List.length_append] at hj
  by_cases hm : j < K.length
  · have e1 : (rs ++ [((N : Int), B, l, d)]).getD j (0, none, 0, 0) = rs.getD j (0, none, 0, 0) := by simp only [List.getD]; rw [List.getElem?_append_left (by omega)]
    have e2 : (K ++ [y]).getD j 0 = K.getD j 0 := by simp only [List.getD]; rw [List.getElem?_append_left (by omega)]
    rw [e1, e2]; exact gr (h3 j hm)
  · obtain rfl : j = K.length := by simp at hj; omega
    have e1 : (rs ++ [((N : Int), B, l, d)]).getD K.length (0, none, 0, 0) = ((N : Int), B, l, d) := by rw [← h1]; simp [List.getD]
    have e2 : (K ++ [y]).getD K.length 0 = y := by simp [List.getD]
    rw [e1, e2]; exact gr hn
theorem RowsQ.mat {w0 w : World} {base : Nat} {v : Value} {N : Nat} {K : List Nat} (h : RowsQ w0 w base v N K) {B : Nat} (hB : w0.heap.size ≤ B) (hb : Below B w0 w) : ∃ A c, v = .slice A K.length c ∧ K.length ≤ c ∧ MatAt w 0 A K.length (mkM N K) := by
  obtain ⟨rs, h1, h2, h3⟩ := h
  obtain ⟨A, c, e, hc, hm⟩ := own_mat h2 h1 (mkM N K) (mkM_len N K) (fun j hj => by
    obtain ⟨a1, a2, a3⟩ := h3 j hj
    rw [mkM_at N K j hj]
    exact ⟨a1, a2, by rcases a3 with a3 | a3; exact a3.mono hB hb; exact a3.words (rowOf_lt N _)⟩)
  exact ⟨A, c, e, hc, hm.low (Nat.zero_le _)⟩
/-- The rows ahead of the new one, i of the old ones looked at. -/
def withP (L : List Nat) (z a m i : Nat) : List Nat := (L.take (min i m)).map (fun x => if x.testBit a then x ^^^ z else x)
theorem withP_lt (L : List Nat) (z a m i : Nat) (hi : i < m) (hl : i < L.length) : withP L z a m (i + 1) = withP L z a m i ++ [if (L.getD i 0).testBit a then L.getD i 0 ^^^ z else L.getD i 0] := by
  unfold withP
  rw [Nat.min_eq_left (by omega), Nat.min_eq_left (by omega), List.take_succ_eq_append_getElem hl, List.map_append]
  simp [List.getD, hl]
theorem withP_ge (L : List Nat) (z a m i : Nat) (hi : m ≤ i) : withP L z a m (i + 1) = withP L z a m i := by
  unfold withP
  rw [Nat.min_eq_right (by omega), Nat.min_eq_right (by omega)]
theorem withP_len (L : List Nat) (z a m i : Nat) : (withP L z a m i).length ≤ L.length := by
  unfold withP; rw [List.length_map, List.length_take]; omega
/-- The rows behind it. -/
def withD (L : List Nat) (m i : Nat) : List Nat := (L.drop m).take (i - m)
theorem withD_lt (L : List Nat) (m i : Nat) (hi : i < m) : withD L m (i + 1) = withD L m i := by
  unfold withD; rw [show i + 1 - m = 0 by omega, show i - m = 0 by omega]
theorem withD_ge (L : List Nat) (m i : Nat) (hi : m ≤ i) (hl : i < L.length) : withD L m (i + 1) = withD L m i ++ [L.getD i 0] := by
  unfold withD
  rw [show i + 1 - m = (i - m) + 1 by omega, List.take_succ_eq_append_getElem (by rw [List.length_drop]; omega)]
  simp [List.getD, hl, show m + (i - m) = i by omega]
theorem withD_len (L : List Nat) (m i : Nat) : (withD L m i).length ≤ L.length := by
  unfold withD; rw [List.length_take, List.length_drop]; omega
theorem with_all (L : List Nat) (z a m : Nat) (hm : m ≤ L.length) : (withP L z a m L.length ++ [z]) ++ withD L m L.length = putW L z a m := by
  unfold withP withD putW
  have e : (L.drop m).take (L.length - m) = L.drop m := List.take_of_length_le (by rw [List.length_drop]; omega)
  rw [Nat.min_eq_right hm, e]
  simp
theorem own_empty4 (W : World) (base e : Nat) (hb : base ≤ W.heap.size) : (W.alloc (.cells #[] e)).ownsRow base e 2 (.slice (some ⟨W.heap.size, 0, none⟩) 0 0) 0 [] :=
  ⟨by simp, .inr ⟨W.heap.size, 0, #[], rfl, hb, heap_alloc_new W _, Nat.le_refl _, Nat.zero_le _, by simp, by simp⟩⟩
/-- What with hands back. -/
def WithOut (N : Nat) (K : List Nat) (w : World) (e : Ending) (w' : World) : Prop :=
  ∃ A c, e = .returned (.slice A K.length c) ∧ MatAt w' 0 A K.length (mkM N K) ∧ Below w.heap.size w w'
end
section
/- The reference's Echelon. -/
set_option linter.unusedVariables false
set_option linter.unusedSimpArgs false
open Go.RowKit
set_option maxRecDepth 100000
theorem same_lt {n : Nat} {L M : List Nat} (h : ∀ r ∈ L, r < 2 ^ n) (hs : SameSp L M) : ∀ r ∈ M, r < 2 ^ n := fun r hr => sp_lt h ((hs r).2 (sp_mem hr))
theorem take_lt' {n : Nat} {L : List Nat} (h : ∀ r ∈ L, r < 2 ^ n) (k : Nat) : ∀ r ∈ L.take k, r < 2 ^ n := fun r hr => h r (List.mem_of_mem_take hr)
theorem left_same {L P : List Nat} (h : Rref L P) (r : Nat) (h0 : leftN L P r L.length = 0) : SameSp (L ++ [r]) L := by
  have hs := (left_zero h r).1 h0
  refine SameSp.of (fun x hx => ?_) (fun x hx => sp_mem (List.mem_append.2 (.inl hx)))
  rcases List.mem_append.1 hx with hx | hx
  · exact sp_mem hx
  · simp at hx; subst hx; exact hs
theorem put_more {L P : List Nat} (h : Rref L P) (r a : Nat) (ha : IsLow (leftN L P r L.length) a) :
    ∃ m, m ≤ L.length ∧ (∀ i, i < m → P.getD i 0 < a) ∧ (∀ i, m ≤ i → i < L.length → a < P.getD i 0) ∧ Rref (putW L (leftN L P r L.length) a m) (putP P a m) ∧ SameSp (L ++ [r]) (putW L (leftN L P r L.length) a m) := by
  have hsp := leftN_span L P r L.length (Nat.le_refl _)
  have hz : ∀ j, j < L.length → (leftN L P r L.length).testBit (P.getD j 0) = false := fun j hj => by rw [leftN_bits h r _ (Nat.le_refl _) j hj, if_pos hj]
  generalize leftN L P r L.length = x at *
  have hn : a ∉ P := fun hp => by
    obtain ⟨j, hj, rfl⟩ := mem_getD hp
    have := hz j (by rw [h.len]; exact hj)
    rw [ha.1] at this; cases this
  obtain ⟨m, hm, h1, h2⟩ := cut_place h a hn
  refine ⟨m, hm, h1, h2, put_rref h x a m ha hz hm h1 h2, SameSp.trans ?_ (put_span x a m hm)⟩
  have liftL : ∀ y, ∀ v, Sp L v → Sp (L ++ [y]) v := fun y v hv => sp_sub (fun r hr => sp_mem (List.mem_append.2 (.inl hr))) hv
  refine SameSp.of (fun y hy => ?_) (fun y hy => ?_)
  · rcases List.mem_append.1 hy with hy | hy
    · exact sp_mem (List.mem_append.2 (.inl hy))
    · simp at hy; subst hy
      have := sp_xor (liftL x _ hsp) (sp_mem (show x ∈ L ++ [x] by simp))
      rw [xor_back] at this; exact this
  · rcases List.mem_append.1 hy with hy | hy
    · exact sp_mem (List.mem_append.2 (.inl hy))
    · simp at hy; subst hy
      have := sp_xor (sp_mem (show r ∈ L ++ [r] by simp)) (liftL r _ hsp)
      rw [← Nat.xor_assoc, Nat.xor_self, Nat.zero_xor] at this; exact this
theorem span_step {ms L M : List Nat} {k : Nat} (hk : k < ms.length) (hs : SameSp (ms.take k) L) (gs : SameSp (L ++ [ms.getD k 0]) M) : SameSp (ms.take (k + 1)) M := by
  refine SameSp.trans ?_ gs
  have e : ms.take (k + 1) = ms.take k ++ [ms.getD k 0] := by
    rw [List.take_succ_eq_append_getElem (by omega)]; simp [List.getD, hk]
  rw [e]
  refine SameSp.of (fun y hy => ?_) (fun y hy => ?_)
  · rcases List.mem_append.1 hy with hy | hy
    · exact sp_sub (fun r hr => sp_mem (List.mem_append.2 (.inl hr))) ((hs _).1 (sp_mem hy))
    · simp at hy; subst hy; exact sp_mem (by simp)
  · rcases List.mem_append.1 hy with hy | hy
    · exact sp_sub (fun r hr => sp_mem (List.mem_append.2 (.inl hr))) ((hs _).2 (sp_mem hy))
    · simp at hy; subst hy; exact sp_mem (by simp)
theorem rref_nil : Rref [] [] := ⟨rfl, fun _ h => absurd h (Nat.not_lt_zero _), fun _ _ h => absurd h (Nat.not_lt_zero _), fun _ _ _ h => absurd h (Nat.not_lt_zero _)⟩
/-- What the reference's Echelon hands back. -/
def RefEch (N : Nat) (orig : List Nat) (w : World) (e : Ending) (w' : World) : Prop :=
  ∃ (M P : List Nat) (A : Option Addr) (c : Nat), e = .returned (.slice A M.length c) ∧ Rref M P ∧ SameSp orig M ∧ MatAt w' 0 A M.length (mkM N M) ∧ Below w.heap.size w w'
end
section
/- The lowest bit of a word: how a word is cut at it. No program. -/
set_option linter.unusedVariables false
set_option linter.unusedSimpArgs false
theorem odd_form (x : Nat) (h : 0 < x) : ∃ i m, x = 2 ^ i * (2 * m + 1) := by
  induction x using Nat.strongRecOn with
  | ind x ih =>
    by_cases hp : x % 2 = 1
    · exact ⟨0, x / 2, by simp; omega⟩
    · obtain ⟨i, m, e⟩ := ih (x / 2) (by omega) (by omega)
      refine ⟨i + 1, m, ?_⟩
      have h2 : x = 2 * (x / 2) := by omega
      rw [h2, e, Nat.pow_succ, Nat.mul_comm (2 ^ i) 2, Nat.mul_assoc]
theorem odd_bit (i m j : Nat) : (2 ^ i * (2 * m + 1)).testBit j = if j < i then false else if j = i then true else m.testBit (j - i - 1) := by
  rw [Nat.testBit_two_pow_mul]
  by_cases h : j < i
  · simp [h, Nat.not_le.2 h]
  · by_cases e : j = i
    · subst e; simp
    · obtain ⟨d, rfl⟩ : ∃ d, j = i + (d + 1) := ⟨j - i - 1, by omega⟩
      have h1 : i + (d + 1) - i = d + 1 := by omega
      have h2 : d + 1 - 1 = d := by omega
      rw [h1, h2]
      simp [Nat.testBit_succ, show (2 * m + 1) / 2 = m by omega]
theorem odd_bit1 (i m j : Nat) : (2 ^ i * (2 * m + 1) - 1).testBit j = if j < i then true else if j = i then false else m.testBit (j - i - 1) := by
  have hp : 0 < 2 ^ i := Nat.two_pow_pos i
  have e : 2 ^ i * (2 * m + 1) - 1 = 2 ^ i * (2 * m) + (2 ^ i - 1) := by
    rw [Nat.mul_add, Nat.mul_one]; omega
  rw [e, Nat.testBit_two_pow_mul_add _ (by omega)]
  by_cases h : j < i
  · simp [h, Nat.testBit_two_pow_sub_one]
  · by_cases e : j = i
    · subst e; simp [Nat.testBit_zero]
    · obtain ⟨d, rfl⟩ : ∃ d, j = i + (d + 1) := ⟨j - i - 1, by omega⟩
      have h1 : i + (d + 1) - i = d + 1 := by omega
      have h2 : d + 1 - 1 = d := by omega
      rw [h1, h2]
      simp [Nat.testBit_succ, show 2 * m / 2 = m by omega]
/-- The lowest bit struck off. -/
theorem strike_low (i m : Nat) : (2 ^ i * (2 * m + 1)) &&& (2 ^ i * (2 * m + 1) - 1) = 2 ^ i * (2 * m) := by
  apply Nat.eq_of_testBit_eq
  intro j
  rw [Nat.testBit_and, odd_bit, odd_bit1, Nat.testBit_two_pow_mul]
  by_cases h : j < i
  · simp [h, Nat.not_le.2 h]
  · by_cases e : j = i
    · subst e; simp [Nat.testBit_zero]
    · obtain ⟨d, rfl⟩ : ∃ d, j = i + (d + 1) := ⟨j - i - 1, by omega⟩
      have h1 : i + (d + 1) - i = d + 1 := by omega
      have h2 : d + 1 - 1 = d := by omega
      rw [h1, h2]
      have h3 : ¬ i + (d + 1) < i := h
      simp only [h3, Bool.true_and, if_false, Bool.and_self, Nat.testBit_succ, e, show 2 * m / 2 = m by omega, show i + (d + 1) ≥ i by omega, decide_true]
/-- The lowest bit alone. -/
theorem only_low (i m : Nat) (hx : 2 ^ i * (2 * m + 1) < 18446744073709551616) : (2 ^ i * (2 * m + 1)) &&& (18446744073709551616 - 2 ^ i * (2 * m + 1)) = 2 ^ i := by
  have hp : 0 < 2 ^ i * (2 * m + 1) := Nat.mul_pos (Nat.two_pow_pos i) (by omega)
  have hi : i < 64 := by
    refine Nat.lt_of_not_le fun h => ?_
    have h1 : 2 ^ 64 ≤ 2 ^ i := Nat.pow_le_pow_right (by omega) h
    have h2 : 2 ^ i * 1 ≤ 2 ^ i * (2 * m + 1) := Nat.mul_le_mul_left _ (by omega)
    omega
  apply Nat.eq_of_testBit_eq
  intro j
  have e : 18446744073709551616 - 2 ^ i * (2 * m + 1) = 2 ^ 64 - (2 ^ i * (2 * m + 1) - 1 + 1) := by
    rw [show 2 ^ i * (2 * m + 1) - 1 + 1 = 2 ^ i * (2 * m + 1) by omega]
  rw [e, Nat.testBit_and, Nat.testBit_two_pow_sub_succ (by omega), odd_bit, odd_bit1, Nat.testBit_two_pow]
  by_cases h : j < i
  · simp [h]; omega
  · by_cases e : j = i
    · subst e; simp [hi]
    · have : ¬ i = j := fun h => e h.symm
      simp [h, e, this]
      intro h1 _
      exact h1
/-- The table of places by a de Bruijn word, as the library has it. -/
def dbTab : List Nat := [0, 1, 56, 2, 57, 49, 28, 3, 61, 58, 42, 50, 38, 29, 17, 4, 62, 47, 59, 36, 45, 43, 51, 22, 53, 39, 33, 30, 24, 18, 12, 5, 63, 55, 48, 27, 60, 41, 37, 16, 46, 35, 44, 21, 52, 32, 23, 11, 54, 26, 40, 15, 34, 20, 31, 10, 25, 14, 19, 9, 13, 8, 7, 6]
theorem db_at : ∀ i : Fin 64, dbTab.getD (2 ^ i.val * 285870213051353865 % 18446744073709551616 / 288230376151711744) 99 = i.val := by decide
end
section
/- The places of the bits 1 of words, and how they are found word by word, lowest bit first. No program. -/
set_option linter.unusedVariables false
set_option linter.unusedSimpArgs false
/-- Where bits are 1, of the first m. -/
def plcN (us : List Nat) (m : Nat) : List Nat := (List.range m).filter fun p => bitAt us p == 1
theorem plcN_succ (us : List Nat) (m : Nat) : plcN us (m + 1) = plcN us m ++ if bitAt us m = 1 then [m] else [] := by
  unfold plcN
  rw [List.range_succ, List.filter_append]
  by_cases h : bitAt us m = 1 <;> simp [h]
/-- A word without its low bits. -/
def hiW (x t : Nat) : Nat := 2 ^ t * (x / 2 ^ t)
theorem hiW_bit (x t j : Nat) : (hiW x t).testBit j = (decide (t ≤ j) && x.testBit j) := by
  unfold hiW
  rw [Nat.testBit_two_pow_mul, Nat.testBit_div_two_pow]
  by_cases h : t ≤ j
  · simp [h, Nat.sub_add_cancel h]
  · simp [h]
theorem bitAt_bit (us : List Nat) (i j : Nat) (h : j < 64) : (bitAt us (64 * i + j) = 1) = ((us.getD i 0).testBit j = true) := by
  unfold bitAt
  rw [show (64 * i + j) / 64 = i by omega, show (64 * i + j) % 64 = j by omega, Nat.testBit_eq_decide_div_mod_eq]
  simp
theorem plcN_skip (us : List Nat) (i t s : Nat) (hs : t + s ≤ 64) (h : ∀ j, t ≤ j → j < t + s → (us.getD i 0).testBit j = false) : plcN us (64 * i + (t + s)) = plcN us (64 * i + t) := by
  induction s with
  | zero => rfl
  | succ s ih =>
    rw [show 64 * i + (t + (s + 1)) = (64 * i + (t + s)) + 1 by omega, plcN_succ, ih (by omega) (fun j h1 h2 => h j h1 (by omega))]
    have : ¬ bitAt us (64 * i + (t + s)) = 1 := by
      rw [bitAt_bit us i (t + s) (by omega), h (t + s) (by omega) (by omega)]; simp
    rw [if_neg this, List.append_nil]
theorem hi_done (us : List Nat) (i t : Nat) (ht : t ≤ 64) (h : hiW (us.getD i 0) t = 0) : plcN us (64 * i + t) = plcN us (64 * (i + 1)) := by
  have := plcN_skip us i t (64 - t) (by omega) (fun j h1 h2 => by
    have := hiW_bit (us.getD i 0) t j
    rw [h] at this
    simpa [h1] using this.symm)
  rw [show t + (64 - t) = 64 by omega] at this
  rw [← this, show 64 * (i + 1) = 64 * i + 64 by omega]
theorem hi_step (us : List Nat) (i t : Nat) (hx : us.getD i 0 < 18446744073709551616) (h : hiW (us.getD i 0) t ≠ 0) :
    ∃ s m, t ≤ s ∧ s < 64 ∧ hiW (us.getD i 0) t = 2 ^ s * (2 * m + 1) ∧ hiW (us.getD i 0) (s + 1) = 2 ^ s * (2 * m) ∧ plcN us (64 * i + (s + 1)) = plcN us (64 * i + t) ++ [64 * i + s] := by
  obtain ⟨s, m, e⟩ := odd_form (hiW (us.getD i 0) t) (by omega)
  have hb : ∀ j, (decide (t ≤ j) && (us.getD i 0).testBit j) = if j < s then false else if j = s then true else m.testBit (j - s - 1) := fun j => by
    rw [← hiW_bit, e, odd_bit]
  have h0 := hb s
  simp only [Nat.lt_irrefl, if_false, if_true, Bool.and_eq_true, decide_eq_true_eq] at h0
  have hs : s < 64 := by
    refine Nat.lt_of_not_le fun h6 => ?_
    have := Nat.testBit_lt_two_pow (i := s) (Nat.lt_of_lt_of_le hx (show 2 ^ 64 ≤ 2 ^ s from Nat.pow_le_pow_right (by omega) h6))
    rw [this] at h0; exact absurd h0.2 (by decide)
  refine ⟨s, m, h0.1, hs, e, ?_, ?_⟩
  · apply Nat.eq_of_testBit_eq
    intro j
    rw [hiW_bit, Nat.testBit_two_pow_mul]
    have := hb j
    by_cases h1 : s + 1 ≤ j
    · have h2 : t ≤ j := by omega
      have h3 : ¬ j < s := by omega
      have h4 : ¬ j = s := by omega
      simp only [h2, h3, h4, decide_true, Bool.true_and, if_false] at this
      have h5 : s ≤ j := by omega
      obtain ⟨d, rfl⟩ : ∃ d, j = s + (d + 1) := ⟨j - s - 1, by omega⟩
      simp only [h1, h5, decide_true, Bool.true_and, this]
      rw [show s + (d + 1) - s = d + 1 by omega, show d + 1 - 1 = d by omega, Nat.testBit_succ, show 2 * m / 2 = m by omega]
    · have h6 : (decide (s + 1 ≤ j)) = false := by simpa using h1
      rw [h6, Bool.false_and]
      by_cases h7 : s ≤ j
      · obtain rfl : j = s := by omega
        simp [Nat.testBit_zero]
      · simp [h7]
  · rw [show 64 * i + (s + 1) = (64 * i + s) + 1 by omega, plcN_succ]
    have e1 : plcN us (64 * i + s) = plcN us (64 * i + t) := by
      have := plcN_skip us i t (s - t) (by omega) (fun j h1 h2 => by
        have := hb j
        have h3 : j < s := by omega
        simpa [h1, h3] using this)
      rwa [show t + (s - t) = s by omega] at this
    have e2 : bitAt us (64 * i + s) = 1 := by rw [bitAt_bit us i s hs]; exact h0.2
    rw [e1, if_pos e2]
theorem hiW_zero (x : Nat) : hiW x 0 = x := by simp [hiW]
theorem hiW_lt (x t : Nat) (hx : x < 18446744073709551616) : hiW x t < 18446744073709551616 := Nat.lt_of_le_of_lt (Nat.mul_div_le x (2 ^ t)) hx
end
section
/- math/bits.TrailingZeros64, where its table lies as the library has it. -/
set_option linter.unusedVariables false
set_option linter.unusedSimpArgs false
open Go.RowKit
/-- The library's table lies in block 0. -/
def TabAt (w : World) (g : Nat) : Prop := g < w.heap.size ∧ ∀ i, i < 64 → w.cell? ⟨g, i, none⟩ = some (.int .u8 (dbTab.getD i 99 : Nat))
theorem TabAt.below {w w' : World} {g : Nat} (h : TabAt w g) (hb : Below w.heap.size w w') : TabAt w' g := ⟨Nat.lt_of_lt_of_le h.1 hb.size, fun i hi => (hb.cell (p := ⟨g, i, none⟩) h.1).trans (h.2 i hi)⟩
theorem TabAt.same {w w' : World} {g : Nat} (h : TabAt w g) (hb : w'.heap[g]? = w.heap[g]?) : TabAt w' g := by
  refine ⟨?_, fun i hi => (World.cell?_of_block (a := ⟨g, i, none⟩) hb).trans (h.2 i hi)⟩
  rcases Nat.lt_or_ge g w'.heap.size with hl | hg
  · exact hl
  · have h1 := h.1
    rw [Array.getElem?_eq_none hg, Array.getElem?_eq_getElem h1] at hb; cases hb
theorem neg_in (x : Nat) (h1 : 0 < x) (hx : x < 18446744073709551616) : IntKind.u64.wrap (-(x : Int)) = ((18446744073709551616 - x : Nat) : Int) := by rw [IntKind.wrap_u64]; omega
theorem prod_in (y : Nat) : IntKind.u64.wrap ((y : Int) * 285870213051353865) / 288230376151711744 = ((y * 285870213051353865 % 18446744073709551616 / 288230376151711744 : Nat) : Int) := by rw [IntKind.wrap_u64]; omega
theorem quo_lt (y : Nat) : y * 285870213051353865 % 18446744073709551616 / 288230376151711744 < 64 := by omega
theorem exp_lt (s m : Nat) (hx : 2 ^ s * (2 * m + 1) < 18446744073709551616) : s < 64 := by
  refine Nat.lt_of_not_le fun h => ?_
  have h1 : 2 ^ 64 ≤ 2 ^ s := Nat.pow_le_pow_right (by omega) h
  have h2 : 2 ^ s * 1 ≤ 2 ^ s * (2 * m + 1) := Nat.mul_le_mul_left _ (by omega)
  omega
theorem tz_val (x s m : Nat) (hx : x < 18446744073709551616) (e : x = 2 ^ s * (2 * m + 1)) :
    ∃ q : Nat, q < 64 ∧ IntKind.u64.wrap (bits BinOp.and IntKind.u64 (x : Int) (IntKind.u64.wrap (-(x : Int))) * 285870213051353865) / 288230376151711744 = (q : Int) ∧ dbTab.getD q 99 = s := by
  have hp : 0 < x := by rw [e]; exact Nat.mul_pos (Nat.two_pow_pos s) (by omega)
  have hl := only_low s m (by rw [← e]; exact hx)
  rw [← e] at hl
  refine ⟨2 ^ s * 285870213051353865 % 18446744073709551616 / 288230376151711744, quo_lt _, ?_, db_at ⟨s, exp_lt s m (by rw [← e]; exact hx)⟩⟩
  rw [neg_in x hp hx, u64_and_nat x (18446744073709551616 - x) hx (by omega), hl, prod_in]
end
section
/- The iterator bitrow.ones: the places of the bits 1, rising. -/
set_option linter.unusedVariables false
set_option linter.unusedSimpArgs false
open Go.RowKit Go.Shelf
attribute [local go_sem] Oper.semAt_some
/-- What the iterator asks of a round: some blocks stay. -/
def KpS (S : Nat → Prop) (W W' : World) : Prop := ∀ b, S b → W'.heap[b]? = W.heap[b]?
theorem KpS.trans {S : Nat → Prop} {A B C : World} (h : KpS S A B) (k : KpS S B C) : KpS S A C := fun b hb => (k b hb).trans (h b hb)
theorem KpS.refl (S : Nat → Prop) (A : World) : KpS S A A := fun _ _ => rfl
/-- How a round of the iterator is left. -/
def RndS (S : Nat → Prop) (J Jx : List Nat → World → Prop) (ys : List Nat) (W : World) (b : Bool) (W' : World) : Prop := (b = true → J ys W' ∧ KpS S W W') ∧ (b = false → Jx ys W')
def RndSE (S : Nat → Prop) (J Jx : List Nat → World → Prop) (ys : List Nat) (W : World) (e : Ending) (W' : World) : Prop := ∃ b : Bool, e = .returned (.bool b) ∧ RndS S J Jx ys W b W'
theorem rndS_of {S : Nat → Prop} {J Jx : List Nat → World → Prop} {ys : List Nat} {W : World} (e : Ending) (W' : World) (h : (e = .returned (.bool true) ∧ J ys W' ∧ KpS S W W') ∨ (e = .returned (.bool false) ∧ Jx ys W')) : RndSE S J Jx ys W e W' := by
  rcases h with ⟨rfl, h1, h2⟩ | ⟨rfl, h1⟩
  · exact ⟨true, rfl, fun _ => ⟨h1, h2⟩, (fun h => by cases h)⟩
  · exact ⟨false, rfl, (fun h => by cases h), fun _ => h1⟩
theorem plcN_prefix (us : List Nat) (a b : Nat) (h : a ≤ b) : plcN us a <+: plcN us b := by
  obtain ⟨d, rfl⟩ := Nat.le.dest h
  unfold plcN
  rw [List.range_add, List.filter_append]
  exact List.prefix_append _ _
theorem plcN_len (us : List Nat) (m : Nat) : (plcN us m).length ≤ m := by
  have := List.length_filter_le (fun p => bitAt us p == 1) (List.range m)
  simpa [plcN] using this
theorem plcN_lt (us : List Nat) (m : Nat) {p : Nat} (h : p ∈ plcN us m) : p < m := by
  have := (List.mem_filter.1 h).1
  simpa using this
end
section
/- bitrow.ones, and bitrow.Places: the places of the bits 1. -/
set_option linter.unusedVariables false
set_option linter.unusedSimpArgs false
open Go.RowKit Go.Shelf
attribute [local go_sem] Oper.semAt_some
theorem ownP_low {w : World} {base base' e size n : Nat} {v : Value} {xs : List Value} (h : w.ownsRow base e size v n xs) (hb : base' ≤ base) : w.ownsRow base' e size v n xs := by
  refine ⟨h.1, ?_⟩
  rcases h.2 with h0 | ⟨g, cap, cur, rfl, h1, h2⟩
  · exact .inl h0
  · exact .inr ⟨g, cap, cur, rfl, Nat.le_trans hb h1, h2⟩
def plcV (x : Nat) : Value := .int .i64 (x : Int)
theorem int_infoP : (Try.prog.info? 3).map (fun i => (i.zero, i.size, i.bytes)) = some (some (.int .i64 0), 1, 8) := by kernel_rfl
theorem keepS {W w1 : World} {B n1 : Nat} {S : Nat → Prop} {v v' : Value} {e k : Nat} {xs : List Value} {tmp : Obj} (hrow : W.ownsRow n1 e 1 v k xs) (hgrow : (W.alloc tmp).grownBy w1 v.ownBlock) (hs : n1 ≤ W.heap.size)
    (hS : ∀ b, S b → b < n1 ∧ b ≠ B) : KpS S W (w1.setCell ⟨B, 0, none⟩ v') := by
  intro b hb
  have hbn := hS b hb
  have hne : some b ≠ v.ownBlock := fun e => by have := (hrow.lt b e.symm).1; omega
  rw [heap_setCell_other w1 ⟨B, 0, none⟩ b v' hbn.2, hgrow.block b (by simp; omega) hne, Below.heap_alloc W tmp b (by omega)]
theorem kpS_put {S : Nat → Prop} {w : World} (hS : ∀ b, S b → b < w.heap.size) (W : World) (l : Nat) (o o' : Obj) (hl : w.heap.size ≤ l) (_ : W.heap[l]? = some o) (_ : o.isCells = false) (_ : o.isWalk = false) : KpS S W (W.putObj l o') := by
  intro b hb
  exact World.putObj_heap_other (by have := hS b hb; omega)
theorem TabAt.put2 {w : World} {g : Nat} {t : TypeId} {a b : Value} (h : TabAt w 0) (hb : Box w g t #[a, b]) (hg : g ≠ 0) (u v : Value) : TabAt ((w.setCell ⟨g, 0, none⟩ u).setCell ⟨g, 1, none⟩ v) 0 := by
  refine h.same ?_
  rw [heap_setCell_other _ ⟨g, 1, none⟩ _ v (Ne.symm hg), heap_setCell_other _ ⟨g, 0, none⟩ _ u (Ne.symm hg)]
def plcZ (ys : List Nat) : List Int := ys.map fun x : Nat => (x : Int)
theorem plcZ_getD (ys : List Nat) (j : Nat) : (plcZ ys).getD j 0 = (ys.getD j 0 : Nat) := by
  simp only [plcZ, List.getD, List.getElem?_map]
  cases ys[j]? <;> simp
theorem own_plcInts {w : World} {base n : Nat} {A : Option Addr} {c : Nat} {ys : List Nat} (h : w.ownsRow base 3 1 (.slice A n c) n (ys.map plcV)) (hb : ∀ x ∈ ys, x ≤ 1000000) : Ints w A n (plcZ ys) := by
  have e : (plcZ ys).map (Value.int .i64) = ys.map plcV := by simp [plcZ, plcV, Function.comp_def]
  rw [← e] at h
  refine own_ints h fun j => ?_
  rw [plcZ_getD]
  have : ys.getD j 0 ≤ 1000000 := by
    simp only [List.getD]
    cases hx : ys[j]? with
    | none => simp
    | some y => simpa using hb y (List.mem_of_getElem? hx)
  omega
/-- A slice of numbers of its own, and no error, is returned. -/
def PlcOut (ys : List Nat) (w : World) (e : Ending) (w' : World) : Prop := ∃ v, e = .returned (.tuple #[v, .int .i64 0]) ∧ w'.ownsRow w.heap.size 3 1 v ys.length (ys.map plcV) ∧ Below w.heap.size w w'
end
section
/- Rows and their places: a row is that of its places; counts. No program. -/
set_option linter.unusedVariables false
set_option linter.unusedSimpArgs false
theorem plcZ_mem (us : List Nat) (m : Nat) (z : Int) (h : z ∈ plcZ (plcN us m)) : ∃ p : Nat, z = p ∧ p < m ∧ bitAt us p = 1 := by
  obtain ⟨p, hp, rfl⟩ := List.mem_map.1 h
  have := List.mem_filter.1 hp
  exact ⟨p, rfl, by simpa using this.1, by simpa using this.2⟩
theorem there_plc (us : List Nat) (N : Nat) : there (N : Int) (plcZ (plcN us N)) = true := by
  simp only [there, List.all_eq_true]
  intro z hz
  obtain ⟨p, rfl, h1, -⟩ := plcZ_mem us N z hz
  simp; omega
theorem ofBits_plc (us : List Nat) (N : Nat) (hr : rightB (N : Int) us = true) (hlt : ∀ j, us.getD j 0 < 18446744073709551616) : ofBits N (plcZ (plcN us N)) = us := by
  have hlen := right_len_eq hr
  rw [Int.toNat_natCast] at hlen
  apply List.ext_getElem (by rw [ofBits_len, hlen])
  intro i h1 h2
  have g1 : (ofBits N (plcZ (plcN us N)))[i] = (ofBits N (plcZ (plcN us N))).getD i 0 := by simp [List.getD, h1]
  have g2 : us[i] = us.getD i 0 := by simp [List.getD, h2]
  rw [g1, g2]
  rw [ofBits_len] at h1
  apply Nat.eq_of_testBit_eq
  intro j
  rw [ofBits_test N _ i j h1]
  by_cases hj : j < 64
  · rw [Bool.eq_iff_iff, ← bitAt_bit us i j hj]
    simp only [List.any_eq_true, Bool.and_eq_true, beq_iff_eq]
    constructor
    · rintro ⟨z, hz, e1, e2⟩
      obtain ⟨p, rfl, -, h4⟩ := plcZ_mem us N z hz
      rw [Int.toNat_natCast] at e1 e2
      rw [← h4]; congr 1; omega
    · intro h
      have hN : 64 * i + j < N := by
        refine Nat.lt_of_not_le fun hle => ?_
        have := right_bits hr (64 * i + j) hle (by omega)
        omega
      refine ⟨((64 * i + j : Nat) : Int), List.mem_map.2 ⟨64 * i + j, List.mem_filter.2 ⟨by simpa using hN, by simpa using h⟩, rfl⟩, ?_, ?_⟩
      · rw [Int.toNat_natCast]; omega
      · rw [Int.toNat_natCast]; omega
  · have : (us.getD i 0).testBit j = false := Nat.testBit_lt_two_pow (Nat.lt_of_lt_of_le (hlt i) (show 2 ^ 64 ≤ 2 ^ j from Nat.pow_le_pow_right (by omega) (by omega)))
    rw [this, List.any_eq_false]
    intro z _
    simp; omega
theorem zip_bit (f : Nat → Nat → Nat) (us vs : List Nat) (p : Nat) (hu : p / 64 < us.length) (hv : p / 64 < vs.length) : (bitAt (List.zipWith f us vs) p == 1) = (f (us.getD (p / 64) 0) (vs.getD (p / 64) 0)).testBit (p % 64) := by
  rw [bitAt_test, zip_last f us vs _ hu hv]
theorem count_join (us vs : List Nat) (hl : us.length = vs.length) (m : Nat) (hm : m ≤ 64 * us.length) :
    (plcN us m).length + (plcN vs m).length = (plcN (xorL us vs) m).length + 2 * (plcN (andL us vs) m).length := by
  induction m with
  | zero => simp [plcN]
  | succ m ih =>
    have ih := ih (by omega)
    have hx : (bitAt (xorL us vs) m == 1) = _ := zip_bit (· ^^^ ·) us vs m (by omega) (by omega)
    have ha : (bitAt (andL us vs) m == 1) = _ := zip_bit (· &&& ·) us vs m (by omega) (by omega)
    rw [Nat.testBit_xor, ← bitAt_test, ← bitAt_test] at hx
    rw [Nat.testBit_and, ← bitAt_test, ← bitAt_test] at ha
    rw [plcN_succ, plcN_succ, plcN_succ, plcN_succ]
    simp only [List.length_append]
    have b1 := bitAt_le us m
    have b2 := bitAt_le vs m
    have b3 := bitAt_le (xorL us vs) m
    have b4 := bitAt_le (andL us vs) m
    rcases b1 with b1 | b1 <;> rcases b2 with b2 | b2 <;> rcases b3 with b3 | b3 <;> rcases b4 with b4 | b4 <;> simp [b1, b2, b3, b4] at hx ha ⊢ <;> omega
theorem xor_backL (us vs : List Nat) (hl : us.length = vs.length) : xorL (xorL us vs) vs = us := by
  apply List.ext_getElem
  · simp [xorL, hl]
  · intro i h1 h2
    simp [xorL, Nat.xor_assoc]
end
section
/- Mathematics of a product of matrices. -/
set_option linter.unusedVariables false
set_option linter.unusedSimpArgs false
theorem bitAt_xor (us vs : List Nat) (p : Nat) (hu : p / 64 < us.length) (hv : p / 64 < vs.length) : bitAt (xorL us vs) p = (bitAt us p + bitAt vs p) % 2 := by
  have hx : (bitAt (xorL us vs) p == 1) = _ := zip_bit (· ^^^ ·) us vs p hu hv
  rw [Nat.testBit_xor, ← bitAt_test, ← bitAt_test] at hx
  have b1 := bitAt_le us p
  have b2 := bitAt_le vs p
  have b3 := bitAt_le (xorL us vs) p
  rcases b1 with b1 | b1 <;> rcases b2 with b2 | b2 <;> rcases b3 with b3 | b3 <;> simp [b1, b2, b3] at hx ⊢
theorem bitAt_zeros (n p : Nat) : bitAt (List.replicate n 0) p = 0 := by
  unfold bitAt
  have : (List.replicate n 0).getD (p / 64) 0 = 0 := by
    simp only [List.getD, List.getElem?_replicate]; split <;> rfl
  rw [this]; simp
theorem right_zeros (n : Nat) (h : lmb (n : Int) = true) : rightB (n : Int) (List.replicate (nw n) 0) = true := by
  simp only [rightB, h, Int.toNat_natCast, List.length_replicate, Bool.true_and, beq_self_eq_true]
  have : (List.replicate (nw n) 0).getD (nw n - 1) 0 = 0 := by
    simp only [List.getD, List.getElem?_replicate]; split <;> rfl
  rw [this]; simp
theorem xorL_lt (us vs : List Nat) (hu : ∀ j, us.getD j 0 < 18446744073709551616) (hv : ∀ j, vs.getD j 0 < 18446744073709551616) (j : Nat) : (xorL us vs).getD j 0 < 18446744073709551616 := by
  unfold xorL
  simp only [List.getD, List.getElem?_zipWith]
  have h1 := hu j
  have h2 := hv j
  simp only [List.getD] at h1 h2
  cases e1 : us[j]? <;> cases e2 : vs[j]? <;> simp [e1, e2] at h1 h2 ⊢
  exact Nat.xor_lt_two_pow (n := 64) h1 h2
/-- Two rows that may be, of the same bits, are the same. -/
theorem right_ext {n : Nat} {us vs : List Nat} (h1 : rightB (n : Int) us = true) (h2 : rightB (n : Int) vs = true) (hu : ∀ j, us.getD j 0 < 18446744073709551616) (hv : ∀ j, vs.getD j 0 < 18446744073709551616) (h : ∀ i, i < n → bitAt us i = bitAt vs i) : us = vs := by
  rw [← ofBits_plc us n h1 hu, ← ofBits_plc vs n h2 hv]
  have : plcN us n = plcN vs n := by
    unfold plcN
    apply List.filter_congr
    intro p hp
    rw [h p (by simpa using hp)]
  rw [this]
/-- The xor of those rows that stand at some places. -/
def xrowsF (ms : List (Int × List Nat)) (acc : List Nat) (ps : List Nat) : List Nat := ps.foldl (fun acc p => xorL acc (ms.getD p (0, [])).2) acc
def xrows (n : Nat) (ms : List (Int × List Nat)) (ps : List Nat) : List Nat := xrowsF ms (List.replicate (nw n) 0) ps
theorem xrows_snoc (n : Nat) (ms : List (Int × List Nat)) (ps : List Nat) (p : Nat) : xrows n ms (ps ++ [p]) = xorL (xrows n ms ps) (ms.getD p (0, [])).2 := by simp [xrows, xrowsF]
theorem xrowsF_right {n : Nat} {ms : List (Int × List Nat)} (hr : rightM n ms = true) (ps : List Nat) (hp : ∀ p ∈ ps, p < ms.length) (acc : List Nat) (ha : rightB (n : Int) acc = true) : rightB (n : Int) (xrowsF ms acc ps) = true := by
  induction ps generalizing acc with
  | nil => exact ha
  | cons p ps ih => exact ih (fun q hq => hp q (List.mem_cons_of_mem _ hq)) _ (right_xor ha (rightM_at hr p (hp p (List.mem_cons_self ..))).2)
theorem xrowsF_lt {ms : List (Int × List Nat)} (hz : ∀ i j, ((ms.getD i (0, [])).2).getD j 0 < 18446744073709551616) (ps : List Nat) (acc : List Nat) (ha : ∀ j, acc.getD j 0 < 18446744073709551616) (j : Nat) : (xrowsF ms acc ps).getD j 0 < 18446744073709551616 := by
  induction ps generalizing acc with
  | nil => exact ha j
  | cons p ps ih => exact ih _ (xorL_lt _ _ ha (hz p))
theorem rightM_lmb {n : Nat} {ms : List (Int × List Nat)} (hr : rightM n ms = true) : lmb (n : Int) = true := by
  have := rightM_bd hr
  exact (lmb_iff n).2 ⟨by omega, by omega⟩
theorem xrows_right {n : Nat} {ms : List (Int × List Nat)} (hr : rightM n ms = true) (ps : List Nat) (hp : ∀ p ∈ ps, p < ms.length) : rightB (n : Int) (xrows n ms ps) = true := xrowsF_right hr ps hp _ (right_zeros n (rightM_lmb hr))
theorem xrows_lt (n : Nat) {ms : List (Int × List Nat)} (hz : ∀ i j, ((ms.getD i (0, [])).2).getD j 0 < 18446744073709551616) (ps : List Nat) (j : Nat) : (xrows n ms ps).getD j 0 < 18446744073709551616 := xrowsF_lt hz ps _ (zeros_lt _) j
theorem right_has {n : Nat} {us : List Nat} (h : rightB (n : Int) us = true) {i : Nat} (hi : i < n) : i / 64 < us.length := by
  have := right_len_eq h
  rw [Int.toNat_natCast] at this
  unfold nw at this; omega
theorem xrowsF_bit {n : Nat} {ms : List (Int × List Nat)} (hr : rightM n ms = true) (ps : List Nat) (hp : ∀ p ∈ ps, p < ms.length) (acc : List Nat) (ha : rightB (n : Int) acc = true) (i : Nat) (hi : i < n) : bitAt (xrowsF ms acc ps) i = (bitAt acc i + (ps.map fun p => mbit ms p i).sum) % 2 := by
  induction ps generalizing acc with
  | nil =>
    have := bitAt_le acc i
    simp [xrowsF]; omega
  | cons p ps ih =>
    have hp0 := (rightM_at hr p (hp p (List.mem_cons_self ..))).2
    have := ih (fun q hq => hp q (List.mem_cons_of_mem _ hq)) _ (right_xor ha hp0)
    have e : xrowsF ms acc (p :: ps) = xrowsF ms (xorL acc (ms.getD p (0, [])).2) ps := rfl
    rw [e, this, bitAt_xor _ _ _ (right_has ha hi) (right_has hp0 hi), List.map_cons, List.sum_cons]
    show (_ % 2 + _) % 2 = (_ + (bitAt (ms.getD p (0, [])).2 i + _)) % 2
    omega
theorem xrows_bit {n : Nat} {ms : List (Int × List Nat)} (hr : rightM n ms = true) (ps : List Nat) (hp : ∀ p ∈ ps, p < ms.length) (i : Nat) (hi : i < n) : bitAt (xrows n ms ps) i = (ps.map fun p => mbit ms p i).sum % 2 := by
  unfold xrows
  rw [xrowsF_bit hr ps hp _ (right_zeros n (rightM_lmb hr)) i hi, bitAt_zeros, Nat.zero_add]
/-- The sum of products of bits. -/
def psum (us : List Nat) (ms : List (Int × List Nat)) (i : Nat) : Nat → Nat
  | 0 => 0
  | k + 1 => psum us ms i k + bitAt us k * mbit ms k i
theorem psum_le (us : List Nat) (ms : List (Int × List Nat)) (i k : Nat) : psum us ms i k ≤ k := by
  induction k with
  | zero => exact Nat.le_refl _
  | succ k ih =>
    simp only [psum]
    rcases bitAt_le us k with h | h <;> rcases mbit_le ms k i with h' | h' <;> rw [h, h'] <;> omega
theorem psum_plc (us : List Nat) (ms : List (Int × List Nat)) (i k : Nat) : ((plcN us k).map fun p => mbit ms p i).sum = psum us ms i k := by
  induction k with
  | zero => rfl
  | succ k ih =>
    rw [plcN_succ, List.map_append, List.sum_append, ih]
    simp only [psum]
    rcases bitAt_le us k with h | h <;> simp [h]
/-- A row times a matrix of n columns. -/
def mulW (n : Nat) (ms : List (Int × List Nat)) (us : List Nat) : List Nat := xrows n ms (plcN us ms.length)
theorem plc_lt {us : List Nat} {k : Nat} : ∀ p ∈ plcN us k, p < k := fun _ h => plcN_lt us k h
theorem mulW_right {n : Nat} {ms : List (Int × List Nat)} (hr : rightM n ms = true) (us : List Nat) : rightB (n : Int) (mulW n ms us) = true := xrows_right hr _ plc_lt
theorem mulW_lt (n : Nat) {ms : List (Int × List Nat)} (hz : ∀ i j, ((ms.getD i (0, [])).2).getD j 0 < 18446744073709551616) (us : List Nat) (j : Nat) : (mulW n ms us).getD j 0 < 18446744073709551616 := xrows_lt n hz _ j
theorem mulW_bit {n : Nat} {ms : List (Int × List Nat)} (hr : rightM n ms = true) (us : List Nat) (i : Nat) (hi : i < n) : bitAt (mulW n ms us) i = psum us ms i ms.length % 2 := by
  unfold mulW
  rw [xrows_bit hr _ plc_lt i hi, psum_plc]
/-- The row times the matrix as numbers. -/
def mulZ (us : List Nat) (ms : List (Int × List Nat)) (k : Nat) : List Int := (List.range k).map fun i => ((psum us ms i ms.length % 2 : Nat) : Int)
theorem mulZ_succ (us : List Nat) (ms : List (Int × List Nat)) (k : Nat) : mulZ us ms (k + 1) = mulZ us ms k ++ [((psum us ms k ms.length % 2 : Nat) : Int)] := by simp [mulZ, List.range_succ]
theorem mulZ_len (us : List Nat) (ms : List (Int × List Nat)) (k : Nat) : (mulZ us ms k).length = k := by simp [mulZ]
theorem mulZ_bound (us : List Nat) (ms : List (Int × List Nat)) (k j : Nat) : -9223372036854775808 ≤ (mulZ us ms k).getD j 0 ∧ (mulZ us ms k).getD j 0 ≤ 9223372036854775807 := by
  by_cases hj : j < k
  · have e : (mulZ us ms k).getD j 0 = ((psum us ms j ms.length % 2 : Nat) : Int) := by simp [mulZ, List.getD, hj]
    rw [e]; omega
  · have e : (mulZ us ms k)[j]? = none := List.getElem?_eq_none (by rw [mulZ_len]; omega)
    simp only [List.getD, e, Option.getD_none]; omega
theorem hasB_plcZ (l : List Nat) (j : Nat) : hasB (plcZ l) (j : Int) = l.contains j := by
  unfold hasB plcZ
  rw [Bool.eq_iff_iff]
  simp only [List.contains_iff_mem, List.mem_map]
  constructor
  · rintro ⟨a, h, e⟩
    obtain rfl : a = j := by omega
    exact h
  · exact fun h => ⟨j, h, rfl⟩
/-- A list of bits is read back as the row that has them. -/
theorem from_row {n : Nat} {us : List Nat} (h : rightB (n : Int) us = true) (hu : ∀ j, us.getD j 0 < 18446744073709551616) (zs : List Int) (hz : zs = (List.range n).map fun i => ((bitAt us i : Nat) : Int)) : fromL (bitsOf zs) (nw n) = us := by
  have e : zs = ofInts (plcZ (plcN us n)) n := by
    rw [hz]
    unfold ofInts
    apply List.map_congr_left
    intro j hj
    have hj' : j < n := by simpa using hj
    rw [hasB_plcZ]
    have e : (plcN us n).contains j = (bitAt us j == 1) := by
      rw [Bool.eq_iff_iff]
      simp [plcN, hj']
    rw [e]
    rcases bitAt_le us j with h | h <;> simp [h]
  rw [e, from_of n _ (there_plc us n), ofBits_plc us n h hu]
theorem from_mul {n : Nat} {ms : List (Int × List Nat)} (hr : rightM n ms = true) (hz : ∀ i j, ((ms.getD i (0, [])).2).getD j 0 < 18446744073709551616) (us : List Nat) : fromL (bitsOf (mulZ us ms n)) (nw n) = mulW n ms us := by
  refine from_row (mulW_right hr us) (mulW_lt n hz us) _ ?_
  unfold mulZ
  apply List.map_congr_left
  intro i hi
  rw [mulW_bit hr us i (by simpa using hi)]
def mulM (n : Nat) (ms rs : List (Int × List Nat)) : List (Int × List Nat) := (List.range rs.length).map fun i => ((n : Int), mulW n ms (rs.getD i (0, [])).2)
theorem mulM_len (n : Nat) (ms rs : List (Int × List Nat)) : (mulM n ms rs).length = rs.length := by simp [mulM]
theorem mulM_at (n : Nat) (ms rs : List (Int × List Nat)) (i : Nat) (h : i < rs.length) : (mulM n ms rs).getD i (0, []) = ((n : Int), mulW n ms (rs.getD i (0, [])).2) := by simp [mulM, List.getD, h]
theorem mulM_lt (n : Nat) {ms : List (Int × List Nat)} (rs : List (Int × List Nat)) (hz : ∀ i j, ((ms.getD i (0, [])).2).getD j 0 < 18446744073709551616) (i j : Nat) : (((mulM n ms rs).getD i (0, [])).2).getD j 0 < 18446744073709551616 := by
  by_cases h : i < rs.length
  · rw [mulM_at n ms rs i h]; exact mulW_lt n hz _ j
  · have e : (mulM n ms rs)[i]? = none := List.getElem?_eq_none (by rw [mulM_len]; omega)
    simp [List.getD, e]
theorem mulM_take (n : Nat) (ms rs : List (Int × List Nat)) (i : Nat) (h : i < rs.length) : (mulM n ms rs).take (i + 1) = (mulM n ms rs).take i ++ [((n : Int), mulW n ms (rs.getD i (0, [])).2)] := by
  rw [take_one (mulM n ms rs) i (0, []) (by rw [mulM_len]; exact h), mulM_at n ms rs i h]
end
end Go.Proofs.Ytmfhimeffmpgaaa
