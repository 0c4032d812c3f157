/- Parts: Bf6, Bs8, Bv1, Few5, RefNums, FewT, RefTx. -/
import Derived.Test.YtdfmogcgangdnaaZj
import Derived.BigRegion
import Derived.IntWalk
import Derived.RegionTactic
import Derived.Test.YtdfmogcgangdnaaChecked
namespace Go.Proofs.Ytdfmogcgangdnaa
section
/- The reference of layer 5: Known, walked. -/
set_option linter.unusedVariables false
set_option linter.unusedSimpArgs false
open Go.RowKit
set_option maxRecDepth 100000
theorem conv5 (w : World) (l : List UInt8) (n : Nat) (cs : Array Value) (hn : l.length = n) (hc : cs.toList = l.map fun (x : UInt8) => Value.int .u8 (x.toNat : Int)) : (convert 92 9 (.slice (some ⟨w.heap.size, 0, none⟩) n n)).run Try.prog (w.alloc (.cells cs 5)) = .ok (.string ⟨l.toArray⟩) (w.alloc (.cells cs 5)) := by
  subst hn
  refine run_convert_bytes_back (P := Try.prog) _ 92 9 5 ⟨w.heap.size, 0, none⟩ _ l Try.underlying92 Try.underlying5 Try.underlying9 ?_
  intro j hj
  have hadd : Addr.add { block := w.heap.size, off := 0 } j = ⟨w.heap.size, j, none⟩ := by
    by_cases h : j = 0 <;> simp [Addr.add, h]
  rw [hadd, (Box.new w 5 cs).cell j, ← Array.getElem?_toList, hc]
  simp [List.getElem?_eq_getElem hj]
theorem news_set (w : World) (p : Addr) (v : Value) (t : TypeId) (cs : Array Value) : ∀ j u, cs.toList[j]? = some u → ((w.setCell p v).alloc (.cells cs t)).cell? ((⟨w.heap.size, 0, none⟩ : Addr).add j) = some u := by
  have h := World.news_of_block (Box.new (w.setCell p v) t cs)
  rw [show (w.setCell p v).heap.size = w.heap.size by simp [World.setCell]] at h
  exact h
/-- Only block g of the old ones was written. -/
theorem gk_new {w wA wB : World} {g : Nat} {r : Option Nat} (h : w.grownBy wA (some g)) (k : wA.grownBy wB r) (hr : ∀ b, r = some b → w.heap.size ≤ b) : w.grownBy wB (some g) :=
  ⟨k.os.trans h.os, k.tape.trans h.tape, k.output.trans h.output, Nat.le_trans h.size k.size, fun b hb hne => (k.block b (Nat.lt_of_lt_of_le hb h.size) (fun e => by have := hr b e.symm; omega)).trans (h.block b hb hne)⟩
theorem Words.gk {w w1 : World} {A : Option Addr} {l : Nat} {us : List Nat} (h : Words w A l us) {g : Nat} {t : TypeId} {cs : Array Value} (hb : Box w g t cs) (hk : ∀ (i : Nat) (v : Value), cs[i]? = some v → ∀ k n, v ≠ Value.int k n) (hg : w.grownBy w1 (some g)) : Words w1 A l us := by
  refine ⟨h.1, h.2.1, fun hp => ?_⟩
  obtain ⟨b, off, rfl, hlt, hc⟩ := h.2.2 hp
  have hne : b ≠ g := fun e => by
    subst e
    have := hc 0 hp
    rw [hb.cell] at this
    exact hk _ _ this _ _ rfl
  refine ⟨b, off, rfl, Nat.lt_of_lt_of_le hlt hg.size, fun j hj => ?_⟩
  rw [hg.cell_far ⟨b, off + j, none⟩ hlt (fun e => hne (Option.some.inj e))]
  exact hc j hj
theorem MatAt.gk {w w1 : World} {lo : Nat} {A : Option Addr} {len : Nat} {ms : List (Int × List Nat)} (h : MatAt w lo A len ms) {g : Nat} {t : TypeId} {cs : Array Value} (hb : Box w g t cs) (hk : ∀ (i : Nat) (v : Value), cs[i]? = some v → ∀ k n, v ≠ Value.int k n) (hg : w.grownBy w1 (some g)) : MatAt w1 lo A len ms := by
  refine ⟨h.1, fun hp => ?_⟩
  obtain ⟨b, off, rfl, hlo, hlt, hc⟩ := h.2 hp
  have hne : b ≠ g := fun e => by
    subst e
    obtain ⟨B, l, c, r0, -⟩ := hc 0 hp
    rw [hb.cell] at r0
    exact hk _ _ r0 _ _ rfl
  refine ⟨b, off, rfl, hlo, Nat.lt_of_lt_of_le hlt hg.size, fun j hj => ?_⟩
  obtain ⟨B, l, c, r0, r1, r2, r3⟩ := hc j hj
  refine ⟨B, l, c, ?_, ?_, r2, r3.gk hb hk hg⟩
  · rw [hg.cell_far ⟨b, off + j * 2, none⟩ hlt (fun e => hne (Option.some.inj e))]; exact r0
  · rw [hg.cell_far ⟨b, off + j * 2 + 1, none⟩ hlt (fun e => hne (Option.some.inj e))]; exact r1
/-- Only cells of texts were written. -/
structure NS (w w1 : World) : Prop where
  size : w.heap.size ≤ w1.heap.size
  cell : ∀ p : Addr, p.block < w.heap.size → (∀ s, w.cell? p ≠ some (.string s)) → w1.cell? p = w.cell? p
theorem NS.refl (w : World) : NS w w := ⟨Nat.le_refl _, fun _ _ _ => rfl⟩
theorem NS.below {w w1 w2 : World} (h : NS w w1) (hb : Below w1.heap.size w1 w2) : NS w w2 :=
  ⟨Nat.le_trans h.size hb.size, fun p hp hs => by
    have e := h.cell p hp hs
    rw [← e]
    exact hb.cell (p := p) (Nat.lt_of_lt_of_le hp h.size)⟩
theorem NS.set {w w1 : World} (h : NS w w1) {g j : Nat} {s : ByteArray} (hc : w1.cell? ⟨g, j, none⟩ = some (.string s)) (u : Value) : NS w (w1.setCell ⟨g, j, none⟩ u) :=
  ⟨by simpa [World.setCell] using h.size, fun p hp hs => by
    have e := h.cell p hp hs
    rw [World.cell?_setCell_other _ _ _ _ (fun e2 => by
      subst e2
      rw [e] at hc
      exact hs _ hc)]
    exact e⟩
theorem Words.ns {w w1 : World} {A : Option Addr} {l : Nat} {us : List Nat} (h : Words w A l us) (k : NS w w1) : Words w1 A l us := by
  refine ⟨h.1, h.2.1, fun hp => ?_⟩
  obtain ⟨b, off, rfl, hlt, hc⟩ := h.2.2 hp
  refine ⟨b, off, rfl, Nat.lt_of_lt_of_le hlt k.size, fun j hj => ?_⟩
  rw [k.cell ⟨b, off + j, none⟩ hlt (fun s e => by rw [hc j hj] at e; cases e)]
  exact hc j hj
theorem MatAt.ns {w w1 : World} {lo : Nat} {A : Option Addr} {len : Nat} {ms : List (Int × List Nat)} (h : MatAt w lo A len ms) (k : NS w w1) : MatAt w1 lo A len ms := by
  refine ⟨h.1, fun hp => ?_⟩
  obtain ⟨b, off, rfl, hlo, hlt, hc⟩ := h.2 hp
  refine ⟨b, off, rfl, hlo, Nat.lt_of_lt_of_le hlt k.size, fun j hj => ?_⟩
  obtain ⟨B, l, c, r0, r1, r2, r3⟩ := hc j hj
  refine ⟨B, l, c, ?_, ?_, r2, r3.ns k⟩
  · rw [k.cell ⟨b, off + j * 2, none⟩ hlt (fun s e => by rw [r0] at e; cases e)]; exact r0
  · rw [k.cell ⟨b, off + j * 2 + 1, none⟩ hlt (fun s e => by rw [r1] at e; cases e)]; exact r1
theorem own_some {w : World} {base e size n c : Nat} {A : Option Addr} {xs : List Value} (h : w.ownsRow base e size (.slice A n c) n xs) (hn : 0 < n) : ∃ g, A = some ⟨g, 0, none⟩ ∧ base ≤ g ∧ g < w.heap.size := by
  rcases h.2 with ⟨hv, hz⟩ | ⟨g, cap, cur, hv, hb, hh, -⟩
  · omega
  · injection hv with hv
    exact ⟨g, hv, hb, (show Box w g e cur from hh).lt⟩
theorem own_str_at {w : World} {base g n c : Nat} {ts : List ByteArray} (h : w.ownsRow base 9 1 (.slice (some ⟨g, 0, none⟩) n c) n (ts.map Value.string)) (j : Nat) (hj : j < ts.length) : w.cell? ⟨g, j, none⟩ = some (.string (ts.getD j ByteArray.empty)) ∧ w.frozen? ⟨g, j, none⟩ = false := by
  have := World.ownsRow.cells h (g := g) rfl j (.string (ts.getD j ByteArray.empty)) (by simp [List.getD, hj])
  rw [add_zero0] at this
  exact ⟨this, h.frozenAt _⟩
/-- What the reference's Known tells. -/
def RKn (N n : Nat) (X Z : List Nat) (w : World) (e : Ending) (w' : World) : Prop :=
  ∃ (cols : List Nat) (blks : List ByteArray) (B1 B2 : Option Addr) (c1 c2 : Nat), e = .returned (.agg #[.slice B1 cols.length c1, .slice B2 blks.length c2]) ∧ Ints w' B1 cols.length (cols.map fun x : Nat => (x : Int)) ∧ Texts w' B2 blks.length blks ∧ KnownP N n X Z cols blks ∧ cols.length ≤ 64 ∧ Below w.heap.size w w'
set_option maxHeartbeats 8000000 in
theorem refKnown_any {N n : Nat} {X : List Nat} {ss : List ByteArray} {A S : Option Addr} {m c d : Nat} (w : World) (h : BkIn w N n X ss A S m c d) (hf : FitsP N (zs N X ss)) :
    Calls Try.prog 27 #[.agg #[.int .i64 (N : Int), .slice A m c], .int .i64 (n : Int), .slice S m d] w (RKn N n X (zs N X ss) w) := by
  obtain ⟨i0, ki, kz0, kz1, kz2⟩ := info_parts int_info5
  obtain ⟨j0, ji, jz0, jz1, jz2⟩ := info_parts str_info5
  have b1 : Below w.heap.size w (w.alloc (.cells #[.int .i64 (N : Int), .slice A m c] 24)) := (Below.refl _ _).alloc (Nat.le_refl _) _
  have b2 := b1.alloc (by simp) (.cells #[.slice none 0 0, .slice none 0 0] 59)
  have b3 := b2.alloc (by simp; omega) (.cells #[.slice none 0 0, .slice none 0 0] 59)
  have Q0 := Lib.hid (((Box.new w 24 #[.int .i64 (N : Int), .slice A m c]).alloc (.cells #[.slice none 0 0, .slice none 0 0] 59)).alloc (.cells #[.slice none 0 0, .slice none 0 0] 59))
  have r0 := (Box.new (w.alloc (.cells #[.int .i64 (N : Int), .slice A m c] 24)) 59 #[.slice none 0 0, .slice none 0 0]).alloc (.cells #[.slice none 0 0, .slice none 0 0] 59)
  have k0 := Box.new ((w.alloc (.cells #[.int .i64 (N : Int), .slice A m c] 24)).alloc (.cells #[.slice none 0 0, .slice none 0 0] 59)) 59 #[.slice none 0 0, .slice none 0 0]
  simp only [World.size_alloc] at r0 k0
  have R0 := Lib.hid r0
  have K0 := Lib.hid k0
  have HB := Lib.hid b3
  have HIn := Lib.hid h
  have hN := h.hN
  have hn := h.hn
  have hm64 := h.hm64
  have HZl := Lib.hid h.zlt
  have HLow := Lib.hid h.low
  have HF := Lib.hid hf
  have HXl := Lib.hid h.hX
  have HXm := Lib.hid h.hXm
  have HEc := Lib.hid (refEch_any N (by omega) X h.hX (by rw [h.hXm]; omega) A c 0 _ (by rw [h.hXm]; exact h.hm.below b3))
  rw [h.hXm] at HEc
  obtain ⟨q0, q1, -, -⟩ := Q0.out.two
  clear b1 b2 b3 h hf r0 k0
  go_enter Try.func27, Try.ntmps27
  go_wp2_with fail
  refine HEc.out.mono ?_
  rintro e w3 ⟨M, P, A9, c9, rfl, h1, h2, h3, hb⟩
  have HRr := Lib.hid h1
  have HSp := Lib.hid h2
  have HM3 := Lib.hid h3
  have HMl := Lib.hid (same_lt HXl.out h2)
  have Q3 := Lib.hid (Q0.out.keep hb)
  have R3 := Lib.hid (R0.out.keep hb)
  have K3 := Lib.hid (K0.out.keep hb)
  have B3 := Lib.hid (chain HB.out hb)
  have hM64 : M.length ≤ 64 := by have := rref_len2 h1 HMl.out; omega
  have HTd := Lib.hid (fun (W : World) (hW : MatAt W 0 A9 M.length (mkM N M)) (c : Nat) (hc : c < N) => told_any N hN M P h1 HMl.out A9 c9 0 W hW c hc)
  clear h1 h2 h3 hb q0 q1 HEc Q0 R0 K0 HB
  go_wp2_with fail
  have HN3 := Lib.hid (show ∀ (i : Nat) (v : Value), (#[Value.slice none 0 0, Value.slice none 0 0] : Array Value)[i]? = some v → ∀ k n, v ≠ Value.int k n by
    intro i v hv k n e
    subst e
    rcases i with _ | _ | i
    · cases hv
    · cases hv
    · simp at hv)
  have hk3 : w.heap.size + 1 + 1 < w3.heap.size := K3.out.lt
  go_loopw [9] (fun t wr => ∃ (i : Nat) (cs : List Nat) (v1 v2 : Value), i ≤ N ∧ t = .int .i64 (i : Int) ∧ Hid (ToldP X i cs) ∧ Hid (Box wr (w.heap.size + 1 + 1) 59 #[v1, v2]) ∧ Hid (wr.ownsRow w3.heap.size 3 1 v1 cs.length (cs.map numI)) ∧ Hid (wr.ownsRow w3.heap.size 9 1 v2 cs.length ((List.replicate cs.length (⟨#[]⟩ : ByteArray)).map Value.string)) ∧ Hid (w3.grownBy wr (some (w.heap.size + 1 + 1)))) (fun t _ => N - (intOf t).toNat)
  case atStart => exact ⟨0, [], _, _, Nat.zero_le _, rfl, Lib.hid (told_nil X), K3, Lib.hid (World.ownsRow_nil _ _ _ _), Lib.hid (World.ownsRow_nil _ _ _ _), Lib.hid (gk_refl _ _)⟩
  case round =>
    obtain ⟨i, cs, v1, v2, hi, rfl, HT, HK, H1, H2, HG⟩ := hrel
    have HQ := Lib.hid (gk_box Q3.out HG.out (by omega))
    have HM := Lib.hid (HM3.out.gk K3.out HN3.out HG.out)
    obtain ⟨k0, k1, kf0, kf1⟩ := HK.out.two
    obtain ⟨q0, q1, -, -⟩ := HQ.out.two
    have hg3 := HG.out.size
    by_cases hlt : i < N
    · have hlt' : (i : Int) < (N : Int) := by omega
      have HD := Lib.hid (HTd.out wr HM.out i hlt)
      have hcl := told_len HT.out
      go_wp2_with fail
      refine HD.out.mono ?_
      rintro e w5 ⟨bb, hbb, rfl, hb⟩
      have K5 := Lib.hid (HK.out.keep hb)
      have O1 := Lib.hid (own_keep H1.out hb)
      have O2 := Lib.hid (own_keep H2.out hb)
      have G5 := Lib.hid (gk_trans HG.out (gk_below hb))
      clear hb k0 k1 kf0 kf1 q0 q1 HK H1 H2 HQ HM HD HG
      cases bb with
      | false =>
        have HTn := Lib.hid (told_no HT.out (fun hs => by have := hbb.2 ((HSp.out _).1 hs); cases this))
        clear hbb
        go_wp2_with fail
        go_roundw
        case rel => exact ⟨i + 1, cs, v1, v2, by omega, by go_num, HTn, K5, O1, O2, G5⟩
        case measure => simp [intOf]; omega
      | true =>
        have HTy := Lib.hid (told_yes HT.out ((HSp.out _).2 (hbb.1 rfl)))
        clear hbb
        have al : Below w5.heap.size w5 (w5.alloc (.cells #[.int .i64 (i : Int)] 3)) := (Below.refl _ _).alloc (Nat.le_refl _) _
        have XO := Lib.hid (own_keep O1.out al)
        have X2 := Lib.hid (own_keep O2.out al)
        have XK := Lib.hid (K5.out.keep al)
        have XG := Lib.hid (gk_trans G5.out (gk_below al))
        have XS := Lib.hid (show w3.heap.size ≤ (w5.alloc (.cells #[.int .i64 (i : Int)] 3)).heap.size from XG.out.size)
        obtain ⟨k0, k1, kf0, kf1⟩ := K5.out.two
        clear al
        go_wp2_with (first
          | (at_builtin; refine wpList_append_lies _ rfl _ _ 26 rfl w3.heap.size 3 i0 (.int .i64 0) 1 8 Try.underlying26 ki kz0 kz1 kz2 rfl (by decide) v1 cs.length (cs.map numI) rfl XO.out ⟨w5.heap.size, 0, none⟩ 1 1 [.int .i64 (i : Int)] rfl rfl (cell_one_new _ _ _) (by simp [Value.oneCell']) (by omega) (by simp [maxLen]; omega) (by omega) XS.out _ rfl ?_; intro g1 cap1 w6 hown hgrow _ _; have HO1 := Lib.hid hown; have G6 := Lib.hid (gk_new XG.out hgrow (fun g e => (own_blk XO.out g e).1)); clear k0 k1 kf0 kf1; have hp6 : PC _ w6 3 := ⟨_, hgrow, fun g e => (own_blk XO.out g e).2⟩; have Y2 := Lib.hid (hp6.own X2.out (by decide)); have YK := Lib.hid (hp6.box XK.out (by decide)); have Z1 := Lib.hid (own_keep (own_far HO1.out YK.out (by decide) 0 (.slice (some ⟨g1, 0, none⟩) (cs.length + 1) cap1)) ((Below.refl (w6.setCell ⟨w.heap.size + 1 + 1, 0, none⟩ (.slice (some ⟨g1, 0, none⟩) (cs.length + 1) cap1)).heap.size _).alloc (Nat.le_refl _) (.cells #[.string ⟨#[]⟩] 9))); have Z2 := Lib.hid (own_keep (own_far Y2.out YK.out (by decide) 0 (.slice (some ⟨g1, 0, none⟩) (cs.length + 1) cap1)) ((Below.refl (w6.setCell ⟨w.heap.size + 1 + 1, 0, none⟩ (.slice (some ⟨g1, 0, none⟩) (cs.length + 1) cap1)).heap.size _).alloc (Nat.le_refl _) (.cells #[.string ⟨#[]⟩] 9))); have ZG := Lib.hid (gk_trans (gk_trans G6.out (gk_set w6 (w.heap.size + 1 + 1) 0 (.slice (some ⟨g1, 0, none⟩) (cs.length + 1) cap1))) (gk_below ((Below.refl (w6.setCell ⟨w.heap.size + 1 + 1, 0, none⟩ (.slice (some ⟨g1, 0, none⟩) (cs.length + 1) cap1)).heap.size _).alloc (Nat.le_refl _) (.cells #[.string ⟨#[]⟩] 9)))); have ZS := Lib.hid (show w3.heap.size ≤ ((w6.setCell ⟨w.heap.size + 1 + 1, 0, none⟩ (.slice (some ⟨g1, 0, none⟩) (cs.length + 1) cap1)).alloc (.cells #[.string ⟨#[]⟩] 9)).heap.size from ZG.out.size); have ZK := Lib.hid (YK.out.put 0 (.slice (some ⟨g1, 0, none⟩) (cs.length + 1) cap1)); clear hp6 hown hgrow; obtain ⟨k0, k1, kf0, kf1⟩ := YK.out.two)
          | (at_builtin; refine wpList_append_lies _ rfl _ _ 48 rfl w3.heap.size 9 j0 (.string ⟨#[]⟩) 1 16 Try.underlying48 ji jz0 jz1 jz2 rfl (by decide) v2 cs.length ((List.replicate cs.length (⟨#[]⟩ : ByteArray)).map Value.string) rfl Z2.out ⟨w6.heap.size, 0, none⟩ 1 1 [.string ⟨#[]⟩] rfl rfl (news_set _ _ _ _ _) (by simp [Value.oneCell']) (by omega) (by simp [maxLen]; omega) (by omega) ZS.out _ rfl ?_; intro g2 cap2 w7 hown hgrow _ _; have HO2 := Lib.hid hown; have G7 := Lib.hid (gk_new ZG.out hgrow (fun g e => (own_blk Z2.out g e).1)); clear k0 k1 kf0 kf1; have hp7 : PC _ w7 9 := ⟨_, hgrow, fun g e => (own_blk Z2.out g e).2⟩; have WK := Lib.hid (hp7.box (ZK.out.alloc (.cells #[.string ⟨#[]⟩] 9)) (by decide)); have W1 := Lib.hid (hp7.own Z1.out (by decide)); clear hp7 hown hgrow; obtain ⟨k0, k1, kf0, kf1⟩ := WK.out.two))
        have RK := Lib.hid (WK.out.put 1 (.slice (some ⟨g2, 0, none⟩) (cs.length + 1) cap2))
        have RG := Lib.hid (gk_trans G7.out (gk_set w7 (w.heap.size + 1 + 1) 1 (.slice (some ⟨g2, 0, none⟩) (cs.length + 1) cap2)))
        have R1 := Lib.hid (own_far W1.out WK.out (by decide) 1 (.slice (some ⟨g2, 0, none⟩) (cs.length + 1) cap2))
        have R2 := Lib.hid (own_far HO2.out WK.out (by decide) 1 (.slice (some ⟨g2, 0, none⟩) (cs.length + 1) cap2))
        clear WK G7 W1 HO2 ZK Z1 Z2 ZS ZG YK Y2 G6 HO1 XO X2 XK XG XS k0 k1 kf0 kf1 K5 O1 O2 G5
        go_roundw
        case rel =>
          refine ⟨i + 1, cs ++ [i], _, _, by omega, by go_num, HTy, RK, Lib.hid ?_, Lib.hid ?_, RG⟩
          · rw [List.length_append, List.map_append]; exact R1.out
          · rw [List.length_append, List.length_singleton, List.replicate_succ', List.map_append]; exact R2.out
        case measure => simp [intOf]; omega
    · obtain rfl : N = i := by omega
      have hlt' : ¬ (N : Int) < (N : Int) := by omega
      obtain ⟨VV, hVV⟩ := vals_ex HLow.out (fun c hc => ((HT.out.2 c).1 hc).2)
      have HVV := Lib.hid hVV
      have HVl := Lib.hid hVV.1
      have hcl : cs.length ≤ 64 := by have := told_len HT.out; omega
      obtain ⟨B1, c1, hv1, -⟩ := own_form H1.out
      obtain ⟨B2, c2, hv2, -⟩ := own_form H2.out
      subst hv1 hv2
      have HO2 := Lib.hid (show wr.ownsRow w3.heap.size 9 1 (.slice B2 cs.length c2) cs.length ((txA N 0 VV).map Value.string) by rw [txA_zero, HVl.out]; exact H2.out)
      clear hVV H2 HQ HM
      obtain ⟨wB, rfl⟩ : ∃ wB : World, wB = wr := ⟨_, rfl⟩
      go_wp2_with fail
      clear k0 k1 kf0 kf1 q0 q1
      go_loopw [10] (fun t wr => ∃ a : Nat, a ≤ n ∧ t = .int .i64 (a : Int) ∧ Hid (Box wr (w.heap.size + 1 + 1) 59 #[.slice B1 cs.length c1, .slice B2 cs.length c2]) ∧ Hid (wr.ownsRow w3.heap.size 3 1 (.slice B1 cs.length c1) cs.length (cs.map numI)) ∧ Hid (wr.ownsRow w3.heap.size 9 1 (.slice B2 cs.length c2) cs.length ((txA N a VV).map Value.string)) ∧ Hid (w3.grownBy wr (some (w.heap.size + 1 + 1)))) (fun t _ => n - (intOf t).toNat)
      case atStart => exact ⟨0, Nat.zero_le _, rfl, HK, H1, HO2, HG⟩
      case round =>
        obtain ⟨a, ha, rfl, JK, J1, J2, JG⟩ := hrel
        have JQ := Lib.hid (gk_box Q3.out JG.out (by omega))
        have JB := Lib.hid (gr_low B3.out B3.out.size JG.out (fun g e => by injection e with e; omega))
        obtain ⟨k0, k1, kf0, kf1⟩ := JK.out.two
        obtain ⟨q0, q1, -, -⟩ := JQ.out.two
        by_cases hal : a < n
        · have hal' : (a : Int) < (n : Int) := by omega
          have HPt := Lib.hid (part_any wr (HIn.out.below JB.out) a hal)
          go_wp2_with fail
          refine HPt.out.mono ?_
          rintro e w5 ⟨M2, P2, A5, c5, rfl, h1, h2, h3, hb⟩
          have HP := Lib.hid (show PartP N a (zs N X ss) M2 P2 from ⟨h1, h2⟩)
          have HM5 := Lib.hid h3
          have K5 := Lib.hid (JK.out.keep hb)
          have O1 := Lib.hid (own_keep J1.out hb)
          have O2 := Lib.hid (show w5.ownsRow w3.heap.size 9 1 (.slice B2 cs.length c2) cs.length ((txU N a VV 0).map Value.string) by rw [txU_zero]; exact own_keep J2.out hb)
          have G5 := Lib.hid (gk_trans JG.out (gk_below hb))
          clear h1 h2 h3 hb k0 k1 kf0 kf1 q0 q1 JK J1 J2 JG JQ JB HPt
          obtain ⟨k0, k1, kf0, kf1⟩ := K5.out.two
          obtain ⟨wC, rfl⟩ : ∃ wC : World, wC = wr := ⟨_, rfl⟩
          go_wp2_with fail
          clear k0 k1 kf0 kf1
          go_loopw [51] (fun u wr => ∃ j : Nat, j ≤ cs.length ∧ u = .int .i64 (j : Int) ∧ Hid (Box wr (w.heap.size + 1 + 1) 59 #[.slice B1 cs.length c1, .slice B2 cs.length c2]) ∧ Hid (wr.ownsRow w3.heap.size 3 1 (.slice B1 cs.length c1) cs.length (cs.map numI)) ∧ Hid (wr.ownsRow w3.heap.size 9 1 (.slice B2 cs.length c2) cs.length ((txU N a VV j).map Value.string)) ∧ Hid (w3.grownBy wr (some (w.heap.size + 1 + 1))) ∧ Hid (NS w5 wr)) (fun u _ => cs.length - (intOf u).toNat)
          case atStart => exact ⟨0, Nat.zero_le _, rfl, K5, O1, O2, G5, Lib.hid (NS.refl _)⟩
          case round =>
            obtain ⟨j, hj, rfl, LK, L1, L2, LG, LN⟩ := hrel
            clear K5 O1 O2 G5
            by_cases hjl : j < cs.length
            · have hjl' : (j : Int) < (cs.length : Int) := by omega
              have hcm : ∀ c ∈ cs, c < N := fun c hc => ((HT.out.2 c).1 hc).1
              have hin := own_ints (zs := cs.map fun x : Nat => (x : Int)) (by rw [List.map_map]; exact L1.out) (num_bdP cs (fun j hj => by have := hcm _ (getD_mem hj); omega))
              obtain ⟨b1, off1, hB1, hb1, x0⟩ := ints_cell hin j hjl
              obtain ⟨g2, hB2, hg2, hg2w⟩ := own_some L2.out (by omega)
              subst hB1 hB2
              obtain ⟨y0, yf0⟩ := own_str_at L2.out j (by rw [txU_len N a VV j (by rw [HVl.out]; exact hj), HVl.out]; exact hjl)
              rw [txU_here N a VV j (by rw [HVl.out]; exact hjl)] at y0
              have HNx := Lib.hid (txU_next N a VV j (by rw [HVl.out]; exact hjl))
              obtain ⟨hv1, hv2⟩ := HVV.out.2 j hjl
              have hcN := hcm _ (getD_mem hjl)
              obtain ⟨cv, hcv⟩ : ∃ cv, cv = cs.getD j 0 := ⟨_, rfl⟩
              rw [← hcv] at x0 hv2 hcN
              obtain ⟨v, hv⟩ : ∃ v, v = VV.getD j 0 := ⟨_, rfl⟩
              rw [← hv] at y0 hv1 hv2 HNx
              obtain ⟨j9, hj9, hPj, hMj⟩ := byte_row HP.out.1 HP.out.2 (fits_places HZl.out HF.out hal HP.out) hv1 hv2 hcN
              obtain ⟨V, hV⟩ : ∃ V : Nat, V = (v >>> (N + 8 * a)) % 256 := ⟨_, rfl⟩
              have hV256 : V < 256 := by rw [hV]; exact Nat.mod_lt _ (by omega)
              have hBy := fun W (hn : NS w5 W) => byteOf_any N hN M2 P2 HP.out.1 (partP_lt HP.out) A5 c5 0 W (HM5.out.ns hn) cv j9 (by rw [HP.out.1.len]; exact hj9) hPj
              rw [hMj, prat_high, ← hV] at hBy
              rw [← hV] at HNx
              have HBy := Lib.hid hBy
              have hTs : (⟨(byL N v a).toArray⟩ : ByteArray).size ≤ 64 := by simp [ByteArray.size, byL_len]; omega
              obtain ⟨T, hT⟩ : ∃ T : ByteArray, T = ⟨(byL N v a).toArray⟩ := ⟨_, rfl⟩
              rw [← hT] at y0 hTs HNx
              have hEs : (⟨[UInt8.ofNat V].toArray⟩ : ByteArray).size ≤ 1 := by simp [ByteArray.size]
              have hcnv := fun W => conv5 W [UInt8.ofNat V] 1 #[.int .u8 (V : Int)] rfl (by simp; omega)
              obtain ⟨E1, hE1⟩ : ∃ E1 : ByteArray, E1 = ⟨[UInt8.ofNat V].toArray⟩ := ⟨_, rfl⟩
              rw [← hE1] at hEs HNx hcnv
              have HCv := Lib.hid hcnv
              have hTE : ¬ 9223372036854775807 < T.size + E1.size := by omega
              have HQ := Lib.hid (gk_box Q3.out LG.out (by omega))
              obtain ⟨k0, k1, kf0, kf1⟩ := LK.out.two
              obtain ⟨q0, q1, -, -⟩ := HQ.out.two
              have hqw := HQ.out.lt
              have hkw := LK.out.lt
              clear hV hT hE1 hcnv hBy hMj hPj hj9 hv1 hv2 hv hcm hin hcv
              have n1 : ¬ w.heap.size + 1 + 1 = g2 := by omega
              have n2 : ¬ w.heap.size = g2 := by omega
              have n3 : ¬ g2 = w.heap.size + 1 + 1 := by omega
              have n4 : ¬ g2 = w.heap.size := by omega
              go_wp2_with fail
              refine wp_heldK_bar [(17, fun w' : World => w'.cell? ⟨w.heap.size + 1 + 1, 1, none⟩ = some (.slice (some ⟨g2, 0, none⟩) cs.length c2) ∧ w'.cell? ⟨w.heap.size, 0, none⟩ = some (.int .i64 (N : Int)) ∧ w'.cell? ⟨g2, j, none⟩ = some (.string T))] 18 (by kernel_rfl) (by decide) ?_
              have hS0 := (show (fun w' : World => w'.cell? ⟨w.heap.size + 1 + 1, 1, none⟩ = some (.slice (some ⟨g2, 0, none⟩) cs.length c2) ∧ w'.cell? ⟨w.heap.size, 0, none⟩ = some (.int .i64 (N : Int)) ∧ w'.cell? ⟨g2, j, none⟩ = some (.string T)) wr.drew from ⟨k1, q0, y0⟩)
              refine headK_take (i := 0) (v := ?_) rfl (by kernel_rfl) (fun _ _ _ h => h) (fun _ _ _ h => passed_ready h.1) (Or.inl ⟨by rfl, ?hy1⟩) ⟨fun _ => hS0, trivial⟩ ?rest1
              case hy1 => intro w _; go_simp; try (with_reducible rfl)
              case rest1 =>
              try simp only [Act.put, List.setIfInBounds_toArray, List.set_cons_zero, List.set_cons_succ]
              refine headK_load 0 17 _ rfl (i := 1) (v := ?_) rfl (by kernel_rfl) (fun _ _ _ h => h) (fun _ _ _ h => passed_ready h.1) (Or.inl ⟨by rfl, ?hy2⟩) ⟨fun _ => hS0, trivial⟩ ?rest2
              case hy2 => intro w hSw; (try dsimp only at hSw); obtain ⟨hc0, hc1, hc2⟩ := hSw; go_simp; try (with_reducible rfl)
              case rest2 =>
              try simp only [Act.put, List.setIfInBounds_toArray, List.set_cons_zero, List.set_cons_succ]
              refine headK_take (i := 2) (v := ?_) rfl (by kernel_rfl) (fun _ _ _ h => h) (fun _ _ _ h => passed_ready h.1) (Or.inl ⟨by rfl, ?hy3⟩) ⟨fun _ => hS0, trivial⟩ ?rest3
              case hy3 => intro w _; go_simp; try (with_reducible rfl)
              case rest3 =>
              try simp only [Act.put, List.setIfInBounds_toArray, List.set_cons_zero, List.set_cons_succ]
              refine headK_take (i := 3) (v := ?_) rfl (by kernel_rfl) (fun _ _ _ h => h) (fun _ _ _ h => passed_ready h.1) (Or.inl ⟨by rfl, ?hy4⟩) ⟨fun _ => hS0, trivial⟩ ?rest4
              case hy4 => intro w _; go_simp; try (with_reducible rfl)
              case rest4 =>
              try simp only [Act.put, List.setIfInBounds_toArray, List.set_cons_zero, List.set_cons_succ]
              refine headK_load 0 17 _ rfl (i := 4) (v := ?_) rfl (by kernel_rfl) (fun _ _ _ h => h) (fun _ _ _ h => passed_ready h.1) (Or.inl ⟨by rfl, ?hy5⟩) ⟨fun _ => hS0, trivial⟩ ?rest5
              case hy5 => intro w hSw; (try dsimp only at hSw); obtain ⟨hc0, hc1, hc2⟩ := hSw; go_simp; try (with_reducible rfl)
              case rest5 =>
              try simp only [Act.put, List.setIfInBounds_toArray, List.set_cons_zero, List.set_cons_succ]
              refine headK_take (i := 5) (v := ?_) rfl (by kernel_rfl) (fun _ _ _ h => h) (fun _ _ _ h => passed_ready h.1) (Or.inl ⟨by rfl, ?hy6⟩) ⟨fun _ => hS0, trivial⟩ ?rest6
              case hy6 => intro w _; go_simp; try (with_reducible rfl)
              case rest6 =>
              try simp only [Act.put, List.setIfInBounds_toArray, List.set_cons_zero, List.set_cons_succ]
              refine headK_take (i := 6) (v := ?_) rfl (by kernel_rfl) (fun _ _ _ h => h) (fun _ _ _ h => passed_ready h.1) (Or.inl ⟨by rfl, ?hy7⟩) ⟨fun _ => hS0, trivial⟩ ?rest7
              case hy7 => intro w _; go_simp; try (with_reducible rfl)
              case rest7 =>
              try simp only [Act.put, List.setIfInBounds_toArray, List.set_cons_zero, List.set_cons_succ]
              refine headK_load 0 17 _ rfl (i := 7) (v := ?_) rfl (by kernel_rfl) (fun _ _ _ h => h) (fun _ _ _ h => passed_ready h.1) (Or.inl ⟨by rfl, ?hy8⟩) ⟨fun _ => hS0, trivial⟩ ?rest8
              case hy8 => intro w hSw; (try dsimp only at hSw); obtain ⟨hc0, hc1, hc2⟩ := hSw; go_simp; try (with_reducible rfl)
              case rest8 =>
              try simp only [Act.put, List.setIfInBounds_toArray, List.set_cons_zero, List.set_cons_succ]
              refine headK_take (i := 8) (v := ?_) rfl (by kernel_rfl) (fun _ _ _ h => h) (fun _ _ _ h => passed_ready h.1) (Or.inl ⟨by rfl, ?hy9⟩) ⟨fun _ => hS0, trivial⟩ ?rest9
              case hy9 => intro w _; go_simp; try (with_reducible rfl)
              case rest9 =>
              try simp only [Act.put, List.setIfInBounds_toArray, List.set_cons_zero, List.set_cons_succ]
              refine headK_take (i := 9) (v := ?_) rfl (by kernel_rfl) (fun _ _ _ h => h) (fun _ _ _ h => passed_ready h.1) (Or.inl ⟨by rfl, ?hy10⟩) ⟨fun _ => hS0, trivial⟩ ?rest10
              case hy10 => intro w _; go_simp; try (with_reducible rfl)
              case rest10 =>
              try simp only [Act.put, List.setIfInBounds_toArray, List.set_cons_zero, List.set_cons_succ]
              refine headK_load 0 17 _ rfl (i := 10) (v := ?_) rfl (by kernel_rfl) (fun _ _ _ h => h) (fun _ _ _ h => passed_ready h.1) (Or.inl ⟨by rfl, ?hy11⟩) ⟨fun _ => hS0, trivial⟩ ?rest11
              case hy11 => intro w hSw; (try dsimp only at hSw); obtain ⟨hc0, hc1, hc2⟩ := hSw; go_simp; try (with_reducible rfl)
              case rest11 =>
              try simp only [Act.put, List.setIfInBounds_toArray, List.set_cons_zero, List.set_cons_succ]
              refine headK_take (i := 11) (v := ?_) rfl (by kernel_rfl) (fun _ _ _ h => h) (fun _ _ _ h => passed_ready h.1) (Or.inl ⟨by rfl, ?hy12⟩) ⟨fun _ => hS0, trivial⟩ ?rest12
              case hy12 => intro w _; go_simp; try (with_reducible rfl)
              case rest12 =>
              try simp only [Act.put, List.setIfInBounds_toArray, List.set_cons_zero, List.set_cons_succ]
              refine headK_one (i := 12) (by kernel_rfl) rfl (fun K hK => ?_)
              go_simp
              go_at_call 51
              refine (HBy.out _ (LN.out.below ((Below.refl _ _).drew))).mono ?_
              rintro e1 x1 ⟨rfl, hb⟩
              have HC := Lib.hid (bd_drew hb)
              have hx1 : wr.heap.size ≤ x1.heap.size := hb.size
              have k1' := (hb.cell (p := ⟨w.heap.size + 1 + 1, 1, none⟩) hkw).trans k1
              have q0' := (hb.cell (p := ⟨w.heap.size, 0, none⟩) hqw).trans q0
              have y0' := (hb.cell (p := ⟨g2, j, none⟩) hg2w).trans y0
              have yf0' := (hb.frozen (p := ⟨g2, j, none⟩) hg2w).trans yf0
              have cv' := HCv.out x1
              have hgx : g2 < x1.heap.size := by omega
              have hkx : w.heap.size + 1 + 1 < x1.heap.size := by omega
              have hqx : w.heap.size < x1.heap.size := by omega
              have alx : Below x1.heap.size x1 (x1.alloc (.cells #[.int .u8 (V : Int)] 5)) := (Below.refl _ _).alloc (Nat.le_refl _) _
              have y2 := (alx.cell (p := ⟨g2, j, none⟩) hgx).trans y0'
              have yf2 := (alx.frozen (p := ⟨g2, j, none⟩) hgx).trans yf0'
              have k2 := (alx.cell (p := ⟨w.heap.size + 1 + 1, 1, none⟩) hkx).trans k1'
              have q2 := (alx.cell (p := ⟨w.heap.size, 0, none⟩) hqx).trans q0'
              have HAx := Lib.hid alx
              clear hb alx
              have hS0 := (show (fun w' : World => w'.cell? ⟨w.heap.size + 1 + 1, 1, none⟩ = some (.slice (some ⟨g2, 0, none⟩) cs.length c2) ∧ w'.cell? ⟨w.heap.size, 0, none⟩ = some (.int .i64 (N : Int)) ∧ w'.cell? ⟨g2, j, none⟩ = some (.string T)) x1 from ⟨k1', q0', y0'⟩)
              refine hK.out _ _ ⟨fun _ => hS0, trivial⟩ ?_
              clear hK K
              try simp only [Act.put, List.setIfInBounds_toArray, List.set_cons_zero, List.set_cons_succ]
              refine headK_one (i := 13) (by kernel_rfl) rfl (fun K hK => ?_)
              go_simp
              have hS0 := (show (fun w' : World => w'.cell? ⟨w.heap.size + 1 + 1, 1, none⟩ = some (.slice (some ⟨g2, 0, none⟩) cs.length c2) ∧ w'.cell? ⟨w.heap.size, 0, none⟩ = some (.int .i64 (N : Int)) ∧ w'.cell? ⟨g2, j, none⟩ = some (.string T)) (x1.alloc (.cells #[.int .u8 (V : Int)] 5)) from ⟨k2, q2, y2⟩)
              refine hK.out _ _ ⟨fun _ => hS0, trivial⟩ ?_
              clear hK K
              try simp only [Act.put, List.setIfInBounds_toArray, List.set_cons_zero, List.set_cons_succ]
              refine headK_one (i := 14) (by kernel_rfl) rfl (fun K hK => ?_)
              go_simp
              have hS0 := (show (fun w' : World => w'.cell? ⟨w.heap.size + 1 + 1, 1, none⟩ = some (.slice (some ⟨g2, 0, none⟩) cs.length c2) ∧ w'.cell? ⟨w.heap.size, 0, none⟩ = some (.int .i64 (N : Int)) ∧ w'.cell? ⟨g2, j, none⟩ = some (.string T)) (x1.alloc (.cells #[.int .u8 (V : Int)] 5)) from ⟨k2, q2, y2⟩)
              refine hK.out _ _ ⟨fun _ => hS0, trivial⟩ ?_
              clear hK K
              try simp only [Act.put, List.setIfInBounds_toArray, List.set_cons_zero, List.set_cons_succ]
              refine headK_one (i := 15) (by kernel_rfl) rfl (fun K hK => ?_)
              go_simp
              have hS0 := (show (fun w' : World => w'.cell? ⟨w.heap.size + 1 + 1, 1, none⟩ = some (.slice (some ⟨g2, 0, none⟩) cs.length c2) ∧ w'.cell? ⟨w.heap.size, 0, none⟩ = some (.int .i64 (N : Int)) ∧ w'.cell? ⟨g2, j, none⟩ = some (.string T)) (x1.alloc (.cells #[.int .u8 (V : Int)] 5)) from ⟨k2, q2, y2⟩)
              refine hK.out _ _ ⟨fun _ => hS0, trivial⟩ ?_
              clear hK K
              try simp only [Act.put, List.setIfInBounds_toArray, List.set_cons_zero, List.set_cons_succ]
              refine headK_take (i := 16) (v := ?_) rfl (by kernel_rfl) (fun _ _ _ h => h) (fun _ _ _ h => passed_ready h.1) (Or.inl ⟨by rfl, ?hy13⟩) ⟨fun _ => hS0, trivial⟩ ?rest13
              case hy13 => intro w _; go_simp; try (with_reducible rfl)
              case rest13 =>
              try simp only [Act.put, List.setIfInBounds_toArray, List.set_cons_zero, List.set_cons_succ]
              refine headK_one (i := 17) (by kernel_rfl) rfl (fun K hK => ?_)
              go_simp
              refine hK.out _ _ ⟨fun h => Bool.noConfusion (show true = false from h), trivial⟩ ?_
              clear hK K
              try simp only [Act.put, List.setIfInBounds_toArray, List.set_cons_zero, List.set_cons_succ]
              refine ⟨by kernel_rfl, ?_⟩
              refine wpAny_done (by kernel_rfl) ?_ _
              go_wp2_with fail
              all_goals
                have alz : Below (x1.setCell ⟨g2, j, none⟩ (.string (T ++ E1))).heap.size (x1.setCell ⟨g2, j, none⟩ (.string (T ++ E1))) ((x1.setCell ⟨g2, j, none⟩ (.string (T ++ E1))).alloc (.cells #[.int .u8 (V : Int)] 5)) := (Below.refl _ _).alloc (Nat.le_refl _) _
                have LK1 := Lib.hid (LK.out.keep HC.out)
                have L11 := Lib.hid (own_keep L1.out HC.out)
                have L21 := Lib.hid (own_keep L2.out HC.out)
                have LG1 := Lib.hid (gk_trans LG.out (gk_below HC.out))
                have LN1 := Lib.hid (((LN.out.below HC.out).set y0' (.string (T ++ E1))).below alz)
                have RK := Lib.hid ((LK1.out.far (p := ⟨g2, j, none⟩) n1 (.string (T ++ E1))).keep alz)
                have RG := Lib.hid (gk_trans (gk_new LG1.out (gk_set _ g2 j (.string (T ++ E1))) (fun b e => by injection e with e; omega)) (gk_below alz))
                obtain ⟨cur2, hcur2⟩ := (own_blk L21.out g2 rfl).2
                have R1 := Lib.hid (own_keep (own_far L11.out hcur2 (by decide) j (.string (T ++ E1))) alz)
                have R2 := Lib.hid (show World.ownsRow _ w3.heap.size 9 1 (.slice (some ⟨g2, 0, none⟩) cs.length c2) cs.length ((txU N a VV (j + 1)).map Value.string) by
                  have := own_keep (L21.out.stored j (.string (T ++ E1))).1 alz
                  rw [HNx.out, List.map_set]
                  exact this)
                clear alz
                clear hcur2 LK1 L11 L21 LG1 LK L1 L2 LG LN HC HAx k0 k1 kf0 kf1 q0 q1 k1' k2 q0' y0' y2 yf0' yf2 y0 yf0
                go_wp2_with fail
                go_roundw
                case rel => exact ⟨j + 1, by omega, by go_num, RK, R1, R2, RG, LN1⟩
                case measure => simp [intOf]; omega
            · obtain rfl : j = cs.length := by omega
              have hjl' : ¬ (cs.length : Int) < (cs.length : Int) := by omega
              have L2' := Lib.hid (show wr.ownsRow w3.heap.size 9 1 (.slice B2 cs.length c2) cs.length ((txA N (a + 1) VV).map Value.string) by
                have := L2.out
                rw [← HVl.out, txU_all] at this
                rw [← HVl.out]; exact this)
              go_wp2_with fail
              go_roundw
              case rel => exact ⟨a + 1, by omega, by go_num, LK, L1, L2', LG⟩
              case measure => simp [intOf]; omega
        · obtain rfl : a = n := by omega
          have hal' : ¬ (a : Int) < (a : Int) := by omega
          have JR := Lib.hid (gk_box R3.out JG.out (by omega))
          obtain ⟨r0, r1, rf0, rf1⟩ := JR.out.two
          have hKn := known_of HZl.out HT.out HVV.out
          have hjk : w.heap.size + 1 < wr.heap.size := JR.out.lt
          have J1' := own_far (own_far J1.out JR.out (by decide) 0 (.slice B1 cs.length c1)) (JR.out.put 0 (.slice B1 cs.length c1)) (by decide) 1 (.slice B2 cs.length c2)
          have J2' := own_far (own_far J2.out JR.out (by decide) 0 (.slice B1 cs.length c1)) (JR.out.put 0 (.slice B1 cs.length c1)) (by decide) 1 (.slice B2 cs.length c2)
          have hi1 := own_ints (zs := cs.map fun x : Nat => (x : Int)) (by rw [List.map_map]; exact J1') (num_bdP cs (fun j hj => by have := ((HT.out.2 _).1 (getD_mem hj)).1; omega))
          have hlen : (txA N a VV).length = cs.length := by rw [txA_len, HVl.out]
          have hi2 := own_texts5 (ss := txA N a VV) (by rw [hlen]; exact J2') (fun s hs => by
            obtain ⟨v, -, rfl⟩ := List.mem_map.1 hs
            simp [ByteArray.size, byL_len, maxLen]; omega)
          have HI1 := Lib.hid hi1
          have HI2 := Lib.hid hi2
          have HKn := Lib.hid hKn
          have HLn := Lib.hid hlen
          have HBl := Lib.hid ((JB.out.setCell (p := ⟨w.heap.size + 1, 0, none⟩) (by simp) (.slice B1 cs.length c1)).setCell (p := ⟨w.heap.size + 1, 1, none⟩) (by simp) (.slice B2 cs.length c2))
          clear hi1 hi2 hKn hlen J1' J2'
          go_wp2_with fail
          refine close_one Try.results27 rfl rfl JR.out.put2 Try.underlying59 rfl (by kernel_rfl) ⟨cs, txA N a VV, B1, B2, c1, c2, by rw [HLn.out], HI1.out, HI2.out, HKn.out, hcl, HBl.out⟩
end
section
/- backsub: Known and Solve of what may not be; Solve. -/
set_option linter.unusedVariables false
set_option linter.unusedSimpArgs false
open Go.RowKit
set_option maxRecDepth 100000
theorem known_no (N n : Int) (A S : Option Addr) (lm c lo k d : Nat) (ms : List (Int × List Nat)) (ss : List ByteArray) (w : World) (hm : MatAt w lo A lm ms) (hl : lm ≤ maxLen) (ht : Texts w S k ss) (hkd : k ≤ d) (hd : d ≤ maxLen) (hE : bkE N ms n ss ≠ 0) :
    Calls Try.prog 22 #[.agg #[.int .i64 N, .slice A lm c], .int .i64 n, .slice S k d] w fun e w' => e = .returned (.tuple #[.slice none 0 0, .slice none 0 0, .int .i64 (bkE N ms n ss)]) ∧ Below w.heap.size w w' := by
  have b1 : Below w.heap.size w (w.alloc (.cells #[.int .i64 N, .slice A lm c] 24)) := (Below.refl _ _).alloc (Nat.le_refl _) _
  have Q0 := Lib.hid (Box.new w 24 #[.int .i64 N, .slice A lm c])
  have HB := Lib.hid b1
  have HF := Lib.hid (fault_any N n A S lm c lo k d ms ss _ (hm.below b1) hl (ht.below b1) hkd hd)
  obtain ⟨q0, q1, -, -⟩ := Q0.out.two
  obtain ⟨E, hEe⟩ : ∃ E, E = bkE N ms n ss := ⟨_, rfl⟩
  rw [← hEe] at HF hE ⊢
  have t : (E != 0) = true := by simpa using hE
  clear b1 hm ht hEe
  go_enter Try.func22, Try.ntmps22
  go_wp2_with fail
  refine HF.out.mono ?_
  rintro e x1 ⟨rfl, hb⟩
  have HB2 := Lib.hid (chain HB.out hb)
  clear hb
  go_wp2_with fail
  go_ret3
  exact ⟨rfl, HB2.out⟩
theorem solve_no (N n : Int) (A S : Option Addr) (lm c lo k d : Nat) (ms : List (Int × List Nat)) (ss : List ByteArray) (w : World) (hm : MatAt w lo A lm ms) (hl : lm ≤ maxLen) (ht : Texts w S k ss) (hkd : k ≤ d) (hd : d ≤ maxLen) (hE : bkE N ms n ss ≠ 0) :
    Calls Try.prog 21 #[.agg #[.int .i64 N, .slice A lm c], .int .i64 n, .slice S k d] w fun e w' => e = .returned (.tuple #[.slice none 0 0, .int .i64 (bkE N ms n ss)]) ∧ Below w.heap.size w w' := by
  have b1 : Below w.heap.size w (w.alloc (.cells #[.int .i64 N, .slice A lm c] 24)) := (Below.refl _ _).alloc (Nat.le_refl _) _
  have Q0 := Lib.hid (Box.new w 24 #[.int .i64 N, .slice A lm c])
  have HB := Lib.hid b1
  have HF := Lib.hid (known_no N n A S lm c lo k d ms ss _ (hm.below b1) hl (ht.below b1) hkd hd hE)
  obtain ⟨q0, q1, -, -⟩ := Q0.out.two
  obtain ⟨E, hEe⟩ : ∃ E, E = bkE N ms n ss := ⟨_, rfl⟩
  rw [← hEe] at HF hE ⊢
  have t : (E != 0) = true := by simpa using hE
  clear b1 hm ht hEe
  go_enter Try.func21, Try.ntmps21
  go_wp2_with fail
  refine HF.out.mono ?_
  rintro e x1 ⟨rfl, hb⟩
  have HB2 := Lib.hid (chain HB.out hb)
  clear hb
  go_wp2_with fail
  go_ret2
  exact ⟨rfl, HB2.out⟩
/-- What Solve tells. -/
def SvRes (N n : Nat) (X Z : List Nat) (E : Int) (blks : List ByteArray) : Prop :=
  (E = 10 ∧ ¬ FitsP N Z ∧ blks = []) ∨ (E = 9 ∧ FitsP N Z ∧ blks = [] ∧ ∃ cols bl, KnownP N n X Z cols bl ∧ cols.length < N) ∨ (E = 0 ∧ FitsP N Z ∧ ∃ cols, KnownP N n X Z cols blks ∧ ¬ cols.length < N)
def SvOut (N n : Nat) (X Z : List Nat) (w : World) (e : Ending) (w' : World) : Prop :=
  ∃ (E : Int) (blks : List ByteArray) (B : Option Addr) (c : Nat), e = .returned (.tuple #[.slice B blks.length c, .int .i64 E]) ∧ Texts w' B blks.length blks ∧ blks.length ≤ 64 ∧ blks.length ≤ c ∧ c ≤ maxLen ∧ SvRes N n X Z E blks ∧ Below w.heap.size w w'
theorem solve_yes {N n : Nat} {X : List Nat} {ss : List ByteArray} {A S : Option Addr} {m c d : Nat} (w : World) (h : BkIn w N n X ss A S m c d) :
    Calls Try.prog 21 #[.agg #[.int .i64 (N : Int), .slice A m c], .int .i64 (n : Int), .slice S m d] w (SvOut N n X (zs N X ss) w) := by
  have b1 : Below w.heap.size w (w.alloc (.cells #[.int .i64 (N : Int), .slice A m c] 24)) := (Below.refl _ _).alloc (Nat.le_refl _) _
  have Q0 := Lib.hid (Box.new w 24 #[.int .i64 (N : Int), .slice A m c])
  have HB := Lib.hid b1
  have HF := Lib.hid (known_yes _ (h.below b1))
  have hN := h.hN
  obtain ⟨q0, q1, -, -⟩ := Q0.out.two
  clear b1 h
  go_enter Try.func21, Try.ntmps21
  go_wp2_with fail
  refine HF.out.mono ?_
  rintro e x1 ⟨E, cols, blks, B1, B2, c1, c2, rfl, hi, ht, hl1, hl2, hc, hcm, hres, hb⟩
  have HB2 := Lib.hid (chain HB.out hb)
  have Q1 := Lib.hid (Q0.out.keep hb)
  have HT := Lib.hid ht
  have HC := Lib.hid hc
  have HCM := Lib.hid hcm
  clear hb q0 q1 ht hi HF HB Q0 hc hcm
  obtain ⟨q0, q1, -, -⟩ := Q1.out.two
  rcases hres with ⟨rfl, hf, hk⟩ | ⟨rfl, hf, rfl, rfl⟩
  · have HFt := Lib.hid hf
    have HK := Lib.hid hk
    clear hf hk
    by_cases hlt : cols.length < N
    · have hlt' : (cols.length : Int) < (N : Int) := by omega
      go_wp2_with fail
      go_ret2
      exact ⟨9, [], none, 0, rfl, Texts.nil _ _, by simp, by simp, by simp [maxLen], .inr (.inl ⟨rfl, HFt.out, rfl, cols, blks, HK.out, hlt⟩), HB2.out⟩
    · have hlt' : ¬ (cols.length : Int) < (N : Int) := by omega
      go_wp2_with fail
      go_ret2
      exact ⟨0, blks, B2, c2, rfl, HT.out, hl2, HC.out, HCM.out, .inr (.inr ⟨rfl, HFt.out, cols, HK.out, hlt⟩), HB2.out⟩
  · have HFt := Lib.hid hf
    clear hf
    go_wp2_with fail
    go_ret2
    exact ⟨10, [], none, 0, rfl, Texts.nil _ _, by simp, by simp, by simp [maxLen], .inl ⟨rfl, HFt.out, rfl⟩, HB2.out⟩
end
section
/- Law 05's alive. -/
set_option linter.unusedVariables false
set_option linter.unusedSimpArgs false
open Go.RowKit
set_option maxRecDepth 100000
theorem sp_two {a b v : Nat} : Sp [a, b] v ↔ v = 0 ∨ v = a ∨ v = b ∨ v = a ^^^ b := by
  constructor
  · intro h
    refine sp_ind (P := fun v => v = 0 ∨ v = a ∨ v = b ∨ v = a ^^^ b) (.inl rfl) ?_ h
    intro r u hr hu
    simp only [List.mem_cons, List.not_mem_nil, or_false] at hr
    rcases hr with rfl | rfl
    · rcases hu with rfl | rfl | rfl | rfl
      · simp
      · simp
      · simp
      · right; right; left; rw [← Nat.xor_assoc, Nat.xor_self, Nat.zero_xor]
    · rcases hu with rfl | rfl | rfl | rfl
      · simp
      · right; right; right; rw [Nat.xor_comm]
      · simp
      · right; left; rw [Nat.xor_comm, xor_back]
  · rintro (rfl | rfl | rfl | rfl)
    · exact sp_zero _
    · exact sp_mem (by simp)
    · exact sp_mem (by simp)
    · exact sp_xor (sp_mem (by simp)) (sp_mem (by simp))
def bA : ByteArray := ⟨#[97]⟩
def bB : ByteArray := ⟨#[98]⟩
def b3 : ByteArray := ⟨#[3]⟩
theorem al_z : zs 2 [3, 2] [bA, bB] = [391, 394] := by decide
theorem al_fits : FitsP 2 (zs 2 [3, 2] [bA, bB]) := by
  rw [al_z]
  intro v hv h0
  rcases sp_two.1 hv with rfl | rfl | rfl | rfl
  · rfl
  · exact absurd h0 (by decide)
  · exact absurd h0 (by decide)
  · exact absurd h0 (by decide)
theorem al_known : KnownP 2 1 [3, 2] (zs 2 [3, 2] [bA, bB]) [0, 1] [b3, bB] := by
  rw [al_z]
  refine ⟨by decide, fun c => ?_, rfl, fun j hj => ?_⟩
  · constructor
    · intro h
      simp only [List.mem_cons, List.not_mem_nil, or_false] at h
      rcases h with rfl | rfl
      · exact ⟨by omega, sp_two.2 (by decide)⟩
      · exact ⟨by omega, sp_two.2 (by decide)⟩
    · rintro ⟨h, -⟩
      match c, h with
      | 0, _ => simp
      | 1, _ => simp
  · match j, hj with
    | 0, _ => exact ⟨by decide, 13, sp_two.2 (by decide), by decide, by decide⟩
    | 1, _ => exact ⟨by decide, 394, sp_two.2 (by decide), by decide, by decide⟩
/-- The world of alive's equations. -/
def alV (w : World) : World := (((w.alloc (.cells #[.int .u64 3] 68)).alloc (.cells #[.int .u64 2] 68)).alloc (.cells #[.int .i64 2, .slice (some ⟨w.heap.size, 0, none⟩) 1 1, .int .i64 2, .slice (some ⟨w.heap.size + 1, 0, none⟩) 1 1] 40)).alloc (.cells #[.string ⟨#[97]⟩, .string ⟨#[98]⟩] 9)
theorem alV_below (w : World) : Below w.heap.size w (alV w) := ((((Below.refl _ _).alloc (Nat.le_refl _) _).alloc (by simp) _).alloc (by simp; omega) _).alloc (by simp; omega) _
theorem alV_mat (w : World) : MatAt (alV w) 0 (some ⟨w.heap.size + 1 + 1, 0, none⟩) 2 (mkM 2 [3, 2]) := by
  have q0 : Box (alV w) w.heap.size 68 (numsA [3]) := (((Box.new w 68 #[.int .u64 3]).alloc _).alloc _).alloc _
  have q1 : Box (alV w) (w.heap.size + 1) 68 (numsA [2]) := by
    have := ((Box.new (w.alloc (.cells #[.int .u64 3] 68)) 68 #[.int .u64 2]).alloc (.cells #[.int .i64 2, .slice (some ⟨w.heap.size, 0, none⟩) 1 1, .int .i64 2, .slice (some ⟨w.heap.size + 1, 0, none⟩) 1 1] 40)).alloc (.cells #[.string ⟨#[97]⟩, .string ⟨#[98]⟩] 9)
    simp only [World.size_alloc] at this
    exact this
  have q2 : Box (alV w) (w.heap.size + 1 + 1) 40 #[.int .i64 2, .slice (some ⟨w.heap.size, 0, none⟩) 1 1, .int .i64 2, .slice (some ⟨w.heap.size + 1, 0, none⟩) 1 1] := by
    have := (Box.new ((w.alloc (.cells #[.int .u64 3] 68)).alloc (.cells #[.int .u64 2] 68)) 40 #[.int .i64 2, .slice (some ⟨w.heap.size, 0, none⟩) 1 1, .int .i64 2, .slice (some ⟨w.heap.size + 1, 0, none⟩) 1 1]).alloc (.cells #[.string ⟨#[97]⟩, .string ⟨#[98]⟩] 9)
    simp only [World.size_alloc] at this
    exact this
  have hz : ∀ j, ([3] : List Nat).getD j 0 < 18446744073709551616 := fun j => by match j with | 0 => decide | j + 1 => simp
  have hz2 : ∀ j, ([2] : List Nat).getD j 0 < 18446744073709551616 := fun j => by match j with | 0 => decide | j + 1 => simp
  have w0 : Words (alV w) (some ⟨w.heap.size, 0, none⟩) 1 (rowOf 2 3) := by rw [show rowOf 2 3 = [3] by decide]; exact q0.words hz
  have w1 : Words (alV w) (some ⟨w.heap.size + 1, 0, none⟩) 1 (rowOf 2 2) := by rw [show rowOf 2 2 = [2] by decide]; exact q1.words hz2
  refine ⟨rfl, fun _ => ⟨_, 0, rfl, Nat.zero_le _, q2.lt, fun j hj => ?_⟩⟩
  match j, hj with
  | 0, _ => exact ⟨_, 1, 1, q2.cell 0, q2.cell 1, ⟨Nat.le_refl _, by decide, fun h => by cases h⟩, w0⟩
  | 1, _ => exact ⟨_, 1, 1, q2.cell 2, q2.cell 3, ⟨Nat.le_refl _, by decide, fun h => by cases h⟩, w1⟩
theorem alV_texts (w : World) : Texts (alV w) (some ⟨w.heap.size + 1 + 1 + 1, 0, none⟩) 2 [bA, bB] := by
  have := pair_texts (((w.alloc (.cells #[.int .u64 3] 68)).alloc (.cells #[.int .u64 2] 68)).alloc (.cells #[.int .i64 2, .slice (some ⟨w.heap.size, 0, none⟩) 1 1, .int .i64 2, .slice (some ⟨w.heap.size + 1, 0, none⟩) 1 1] 40)) 9 bA bB (by decide) (by decide)
  simp only [World.size_alloc] at this
  exact this
theorem alV_in (w : World) : BkIn (alV w) 2 1 [3, 2] [bA, bB] (some ⟨w.heap.size + 1 + 1, 0, none⟩) (some ⟨w.heap.size + 1 + 1 + 1, 0, none⟩) 2 2 2 :=
  ⟨by omega, by omega, fun r hr => by simp only [List.mem_cons, List.not_mem_nil, or_false] at hr; rcases hr with rfl | rfl <;> decide, rfl, by omega, fun s hs => by simp only [List.mem_cons, List.not_mem_nil, or_false] at hs; rcases hs with rfl | rfl <;> decide, ⟨Nat.le_refl _, by decide, fun h => by cases h⟩, alV_mat w, by decide +kernel, alV_texts w, Nat.le_refl _, by decide⟩
theorem alive5_any (w : World) : Calls Try.prog 25 #[] w fun e w' => e = .returned (.bool true) ∧ Below w.heap.size w w' := by
  have HB := Lib.hid (alV_below w)
  have HS := Lib.hid (solve_yes (alV w) (alV_in w))
  unfold alV at HS HB
  go_enter Try.func25, Try.ntmps25
  go_wp2_with fail
  refine HS.out.mono ?_
  rintro e x1 ⟨E, blks, B, c, rfl, ht, h64, hc, hcm, hres, hb⟩
  have HB := Lib.hid (HB.out.trans (hb.mono HB.out.size))
  obtain ⟨rfl, hbk⟩ : E = 0 ∧ blks = [b3, bB] := by
    rcases hres with ⟨-, h, -⟩ | ⟨-, -, -, cols, bl, hk, hl⟩ | ⟨rfl, -, cols, hk, -⟩
    · exact absurd al_fits h
    · have := (known_uniq al_fits hk al_known).1
      rw [this] at hl
      simp at hl
    · exact ⟨rfl, (known_uniq al_fits hk al_known).2⟩
  subst hbk
  obtain ⟨b2, o2, hB2, hlt2, hc2⟩ := ht.2.2 (by simp)
  subst hB2
  have c0 := hc2 0 (by simp)
  have c1 := hc2 1 (by simp)
  simp only [Nat.add_zero] at c0
  change x1.cell? ⟨b2, o2, none⟩ = some (.string ⟨#[3]⟩) at c0
  change x1.cell? ⟨b2, o2 + 1, none⟩ = some (.string ⟨#[98]⟩) at c1
  clear hb HS hres ht hc2 hc hcm
  go_wp2_with fail
  go_ret
  exact ⟨by simp, HB.out⟩
end
section
/- Contract of law 05's few: a matrix of at most 66 rows, of three words each, and at most 66 blocks. -/
set_option linter.unusedVariables false
set_option linter.unusedSimpArgs false
open Go.RowKit
set_option maxRecDepth 100000
/-- The first texts, 66 bytes each. -/
def cutT (s : ByteArray) : ByteArray := s.extract 0 (min s.size 66)
def fewT (ss : List ByteArray) (k : Nat) : List ByteArray := (ss.take k).map cutT
theorem cutT_size (s : ByteArray) : (cutT s).size ≤ 66 := by simp [cutT, ByteArray.size_extract]; omega
theorem fewT_succ (ss : List ByteArray) (k : Nat) (h : k < ss.length) : fewT ss (k + 1) = fewT ss k ++ [cutT (ss.getD k ByteArray.empty)] := by
  unfold fewT; rw [List.take_succ_eq_append_getElem h, List.map_append]; simp only [List.getD, List.getElem?_eq_getElem h, Option.getD_some, List.map_cons, List.map_nil]
theorem fewT_len (ss : List ByteArray) (k : Nat) (h : k ≤ ss.length) : (fewT ss k).length = k := by simp [fewT]; omega
theorem own_slok {w : World} {base e size : Nat} {A : Option Addr} {n c : Nat} {xs : List Value} (h : w.ownsRow base e size (.slice A n c) n xs) : SliceOk A n c := by
  rcases h.2 with ⟨hv, hz⟩ | ⟨g, cap, cur, hv, hb, hh, hc, hm, -⟩
  · injection hv with h1 _ h3; subst h3; exact ⟨by omega, by simp [maxLen], fun _ => ⟨hz, rfl⟩⟩
  · injection hv with h1 _ h3; subst h3; exact ⟨hc, hm, fun e => by rw [h1] at e; cases e⟩
theorem own_some5 {w : World} {base e size n c : Nat} {A : Option Addr} {xs : List Value} (h : w.ownsRow base e size (.slice A n c) n xs) (hn : 0 < n) : ∃ g, A = some ⟨g, 0, none⟩ ∧ base ≤ g ∧ g < w.heap.size := by
  rcases h.2 with ⟨hv, hz⟩ | ⟨g, cap, cur, hv, hb, hh, -⟩
  · omega
  · injection hv with hv
    exact ⟨g, hv, hb, (show Box w g e cur from hh).lt⟩
theorem texts_put {w : World} {A : Option Addr} {ss : List ByteArray} (h : Texts w A ss.length ss) {B : Nat} {t : TypeId} {cs : Array Value} (hb : Box w B t cs) (hne : ∀ b o, A = some ⟨b, o, none⟩ → 0 < ss.length → b ≠ B) (u v : Value) : Texts ((w.setCell ⟨B, 0, none⟩ u).setCell ⟨B, 1, none⟩ v) A ss.length ss := by
  refine ⟨h.1, h.2.1, fun hp => ?_⟩
  obtain ⟨b, o, hA, hlt, hc⟩ := h.2.2 hp
  have hn := hne b o hA hp
  refine ⟨b, o, hA, by simpa [World.setCell] using hlt, fun j hj => ?_⟩
  rw [World.cell?_setCell_other _ _ _ _ (by intro e; injection e; omega), World.cell?_setCell_other _ _ _ _ (by intro e; injection e; omega)]
  exact hc j hj
def Few5Out (N : Int) (ms : List (Int × List Nat)) (ts : List ByteArray) (w : World) (e : Ending) (w' : World) : Prop :=
  ∃ (A S : Option Addr) (c d : Nat), e = .returned (.tuple #[.agg #[.int .i64 N, .slice A ms.length c], .slice S ts.length d]) ∧ SliceOk A ms.length c ∧ SliceOk S ts.length d ∧ MatAt w' w.heap.size A ms.length ms ∧ Texts w' S ts.length ts ∧ (∀ b o, S = some ⟨b, o, none⟩ → 0 < ts.length → w.heap.size ≤ b) ∧ Below w.heap.size w w'
set_option maxHeartbeats 8000000 in
theorem few5_any (N : Int) (A S : Option Addr) (l c k d : Nat) (ms : List (Int × List Nat)) (ss : List ByteArray) (w : World) (hs : SliceOk A l c) (hm : MatAt w 0 A l ms) (hs2 : SliceOk S k d) (ht : Texts w S k ss) :
    Calls Try.prog 20 #[.agg #[.int .i64 N, .slice A l c], .slice S k d] w (Few5Out N (fewM ms) (fewT ss (min k 66)) w) := by
  obtain ⟨i0, hi, hz0, hz1, hz2⟩ := info_parts row_infoM
  obtain ⟨j0, ji, jz0, jz1, jz2⟩ := info_parts str_info5
  have HM := Lib.hid hm
  have HT := Lib.hid ht
  have HL := Lib.hid hm.1
  have HK := Lib.hid ht.1
  have b1 : Below w.heap.size w ((w.alloc (.cells #[.int .i64 N, .slice A l c] 24)).alloc (.cells #[.int .i64 0, .slice none 0 0] 24)) := ((Below.refl _ _).alloc (Nat.le_refl _) _).alloc (by simp) _
  have Q0 := Lib.hid ((Box.new w 24 #[.int .i64 N, .slice A l c]).alloc (.cells #[.int .i64 0, .slice none 0 0] 24))
  have q1 := Box.new (w.alloc (.cells #[.int .i64 N, .slice A l c] 24)) 24 #[.int .i64 0, .slice none 0 0]
  simp only [World.size_alloc] at q1
  have Q1 := Lib.hid q1
  have HB := Lib.hid b1
  clear hm ht q1 b1
  obtain ⟨r0, r1, -, -⟩ := Q0.out.two
  obtain ⟨hs1, hs2', hs3⟩ := hs
  obtain ⟨ht1, ht2, ht3⟩ := hs2
  unfold maxLen at hs2' ht2
  have hfl := fewM_len ms
  rw [HL.out] at hfl
  obtain ⟨kk, ekk⟩ : ∃ k, k = min l 66 := ⟨_, rfl⟩
  rw [← ekk] at hfl
  have HFL := Lib.hid hfl
  have hkk1 : kk ≤ l := by omega
  have hkk2 : kk ≤ 66 := by omega
  have hkk3 : kk ≤ c := by omega
  have mkk : (if (66 : Int) < (l : Int) then 66 else (l : Int)) = (kk : Int) := by split <;> omega
  obtain ⟨tt, ett⟩ : ∃ t, t = min k 66 := ⟨_, rfl⟩
  rw [← ett]
  have htt1 : tt ≤ k := by omega
  have htt2 : tt ≤ 66 := by omega
  have htt3 : tt ≤ d := by omega
  have mtt : (if (66 : Int) < (k : Int) then 66 else (k : Int)) = (tt : Int) := by split <;> omega
  clear ekk ett hfl hs3 ht3
  go_enter Try.func20, Try.ntmps20
  go_wp2_with fail
  clear r0 r1 mkk
  go_loopw [20, 6] (fun t v wr => ∃ (i : Nat) (rs : List RowV), i ≤ kk ∧ t = .int .i64 (i : Int) ∧ Hid (rs.length = i) ∧ Hid (wr.ownsRow (w.heap.size + 2) 40 2 v i (rowCells rs)) ∧ Hid (∀ j, j < i → (rs.getD j (0, none, 0, 0)).1 = (ms.getD j (0, [])).1 ∧ SliceOk (rs.getD j (0, none, 0, 0)).2.1 (rs.getD j (0, none, 0, 0)).2.2.1 (rs.getD j (0, none, 0, 0)).2.2.2 ∧ Words w (rs.getD j (0, none, 0, 0)).2.1 (rs.getD j (0, none, 0, 0)).2.2.1 ((ms.getD j (0, [])).2.take 3)) ∧ Hid (Box wr w.heap.size 24 #[.int .i64 N, .slice A l c]) ∧ Hid (Box wr (w.heap.size + 1) 24 #[.int .i64 0, .slice none 0 0]) ∧ Hid (Below w.heap.size w wr)) (fun t _ _ => kk - (intOf t).toNat)
  case atStart => exact ⟨0, [], by omega, rfl, Lib.hid rfl, Lib.hid (World.ownsRow_nil _ _ _ _), Lib.hid (fun j hj => absurd hj (Nat.not_lt_zero _)), Q0, Q1, HB⟩
  case round =>
    obtain ⟨i, rs, hi', rfl, HRL, HO, HR, R0, R1, HBr⟩ := hrel
    by_cases hlt : i < kk
    · have hlt' : (i : Int) < (kk : Int) := by omega
      obtain ⟨g1, o1, B1, l1, c1, hA, hg1, x1, y1, s1, u1⟩ := HM.out.at i (by omega)
      subst hA
      have x1 := (HBr.out.cell (p := ⟨g1, o1 + i * 2, none⟩) hg1).trans x1
      have y1 := (HBr.out.cell (p := ⟨g1, o1 + i * 2 + 1, none⟩) hg1).trans y1
      obtain ⟨n, hn⟩ : ∃ n, n = (ms.getD i (0, [])).1 := ⟨_, rfl⟩
      obtain ⟨us, hus⟩ : ∃ us, us = (ms.getD i (0, [])).2 := ⟨_, rfl⟩
      rw [← hn] at x1
      rw [← hus] at u1
      have HP := Lib.hid (show ms.getD i (0, []) = (n, us) by rw [hn, hus])
      obtain ⟨ha, hb, hc⟩ := s1
      unfold maxLen at hb
      obtain ⟨k1, ek⟩ : ∃ k, k = min l1 3 := ⟨_, rfl⟩
      have hk1 : k1 ≤ l1 := by omega
      have hk2 : k1 ≤ 3 := by omega
      have hk3 : k1 ≤ c1 := by omega
      have mk : (if (3 : Int) < (l1 : Int) then 3 else (l1 : Int)) = (k1 : Int) := by split <;> omega
      have hKt : us.take k1 = us.take 3 := by
        rw [ek]
        by_cases h : l1 ≤ 3
        · rw [Nat.min_eq_left h, List.take_of_length_le (by rw [u1.1]; omega), List.take_of_length_le (by rw [u1.1]; omega)]
        · rw [Nat.min_eq_right (by omega)]
      have HWd := Lib.hid (show (n : Int) = n ∧ SliceOk B1 k1 c1 ∧ Words w B1 k1 (us.take 3) from ⟨rfl, ⟨hk3, by unfold maxLen; omega, fun h => by have := hc h; omega⟩, by rw [← hKt]; exact u1.take k1 hk1⟩)
      clear hn hus ek hKt u1 hc
      have al : Below wr.heap.size wr (wr.alloc (.cells #[.int .i64 n, .slice B1 k1 c1] 40)) := (Below.refl _ _).alloc (Nat.le_refl _) _
      have al2 := (al.alloc al.size (.cells #[.int .i64 n, .slice B1 k1 c1] 40))
      have XO := Lib.hid (own_keep HO.out al2)
      have X0 := Lib.hid (R0.out.keep al2)
      have X1 := Lib.hid (R1.out.keep al2)
      have XB := Lib.hid (chain HBr.out al2)
      have BN := Box.new (wr.alloc (.cells #[.int .i64 n, .slice B1 k1 c1] 40)) 40 #[.int .i64 n, .slice B1 k1 c1]
      simp only [World.size_alloc] at BN
      have HNW := Lib.hid (World.news_of_block BN)
      have hws := HBr.out.size
      have hrs := R1.out.lt
      have XS := Lib.hid (show w.heap.size + 2 ≤ ((wr.alloc (.cells #[.int .i64 n, .slice B1 k1 c1] 40)).alloc (.cells #[.int .i64 n, .slice B1 k1 c1] 40)).heap.size by simp; omega)
      have PB := Lib.hid (Box.new wr 40 #[.int .i64 n, .slice B1 k1 c1])
      obtain ⟨p0, p1, p2, p3⟩ := (Box.new wr 40 #[.int .i64 n, .slice B1 l1 c1]).two
      obtain ⟨z0, z1, -, -⟩ := PB.out.two
      clear al al2 BN
      go_wp2_with (at_builtin; refine wpList_append_own _ rfl _ _ 22 rfl (w.heap.size + 2) 40 i0 (.agg #[.int .i64 0, .slice none 0 0]) 2 32 Try.underlying22 hi hz0 hz1 hz2 rfl (by decide) _ _ _ rfl XO.out ⟨wr.heap.size + 1, 0, none⟩ 1 1 [.int .i64 n, .slice B1 k1 c1] rfl rfl HNW.out (by simp [Value.oneCell']) (by simp [maxLen]; omega) (by omega) XS.out ?_; intro v' w1 hown' hgrow _; have HO2 := Lib.hid hown'; have HG2 := Lib.hid hgrow; clear hown' hgrow)
      have hpc : PC _ w1 40 := ⟨_, HG2.out, fun g e => (own_blk XO.out g e).2⟩
      have Z0 := Lib.hid (hpc.box X0.out (by decide))
      have Z1 := Lib.hid (hpc.box X1.out (by decide))
      have ZB := Lib.hid (gr_low XB.out XB.out.size HG2.out (fun g e => by have := (own_blk XO.out g e).1; omega))
      have ZO := Lib.hid (show w1.ownsRow (w.heap.size + 2) 40 2 v' (i + 1) (rowCells (rs ++ [(n, B1, k1, c1)])) by rw [rowCells_snoc]; exact HO2.out)
      have ZR := Lib.hid (fun j (hj : j < i + 1) => show ((rs ++ [(n, B1, k1, c1)]).getD j (0, none, 0, 0)).1 = (ms.getD j (0, [])).1 ∧ SliceOk ((rs ++ [(n, B1, k1, c1)]).getD j (0, none, 0, 0)).2.1 ((rs ++ [(n, B1, k1, c1)]).getD j (0, none, 0, 0)).2.2.1 ((rs ++ [(n, B1, k1, c1)]).getD j (0, none, 0, 0)).2.2.2 ∧ Words w ((rs ++ [(n, B1, k1, c1)]).getD j (0, none, 0, 0)).2.1 ((rs ++ [(n, B1, k1, c1)]).getD j (0, none, 0, 0)).2.2.1 ((ms.getD j (0, [])).2.take 3) by
        by_cases hji : j < i
        · have e1 : (rs ++ [(n, B1, k1, c1)]).getD j (0, none, 0, 0) = rs.getD j (0, none, 0, 0) := by simp only [List.getD]; rw [List.getElem?_append_left (by rw [HRL.out]; exact hji)]
          rw [e1]; exact HR.out j hji
        · obtain rfl : j = i := by omega
          have e1 : (rs ++ [(n, B1, k1, c1)]).getD j (0, none, 0, 0) = (n, B1, k1, c1) := by rw [← HRL.out]; simp [List.getD]
          rw [e1, HP.out]
          exact HWd.out)
      have ZL := Lib.hid (show (rs ++ [(n, B1, k1, c1)]).length = i + 1 by rw [List.length_append, HRL.out]; rfl)
      clear hpc HO2 HG2 XO X0 X1 XB HNW XS PB p0 p1 p2 p3 z0 z1 x1 y1 HO HR R0 R1 HBr HRL
      go_roundw
      case rel => exact ⟨i + 1, _, by omega, by go_num, ZL, ZO, ZR, Z0, Z1, ZB⟩
      case measure => simp [intOf]; omega
    · obtain rfl : i = kk := by omega
      have hlt' : ¬ (i : Int) < (i : Int) := by omega
      obtain ⟨A', c', hv, hc', hmat⟩ := own_mat HO.out HRL.out (fewM ms) HFL.out (fun j hj => by
        obtain ⟨a1, a2, a3⟩ := HR.out j hj
        rw [fewM_at ms j (by rw [HL.out]; omega) (by omega)]
        exact ⟨a1, a2, a3.below HBr.out⟩)
      subst hv
      have HSl := Lib.hid (own_slok HO.out)
      have hlo : 0 < i → ∀ b o, A' = some ⟨b, o, none⟩ → b ≠ w.heap.size ∧ b ≠ w.heap.size + 1 := fun h0 b o hA => by
        obtain ⟨g, hg, hg2, -⟩ := own_some5 HO.out h0
        rw [hg] at hA
        injection hA with hA
        injection hA with hA
        omega
      have hMat := hmat.farB (B := w.heap.size) (fun b o hA h0 => (hlo h0 b o hA).1) R0.out 1 (.slice A' i c')
      have P0 := Lib.hid (R0.out.put 1 (.slice A' i c'))
      have P1 := Lib.hid (R1.out.far (p := ⟨w.heap.size, 1, none⟩) (by simp) (.slice A' i c'))
      have PB := Lib.hid (HBr.out.setCell (p := ⟨w.heap.size, 1, none⟩) (Nat.le_refl _) (.slice A' i c'))
      have HMat := Lib.hid hMat
      have HLo := Lib.hid hlo
      have hrs := R1.out.lt
      have HSz := Lib.hid (show (wr.setCell ⟨w.heap.size, 1, none⟩ (.slice A' i c')).heap.size = wr.heap.size by simp [World.setCell])
      obtain ⟨s0, s1, s2, s3⟩ := R0.out.two
      obtain ⟨p0, p1, p2, p3⟩ := P0.out.two
      clear hmat hMat hlo HO HR
      go_wp2_with fail
      clear s0 s1 s2 s3 p0 p1 p2 p3 mtt
      generalize hW2 : wr.setCell ⟨w.heap.size, 1, none⟩ (.slice A' i c') = w2 at *
      have P0' := Lib.hid (show Box w2 w.heap.size 24 #[.int .i64 N, .slice A' i c'] from P0.out)
      clear hW2 P0
      obtain ⟨wA, rfl⟩ : ∃ wA : World, wA = wr := ⟨_, rfl⟩
      go_loopw [45, 9] (fun u v wr => ∃ j : Nat, j ≤ tt ∧ u = .int .i64 (j : Int) ∧ Hid (wr.ownsRow w2.heap.size 9 1 v j ((fewT ss j).map Value.string)) ∧ Hid (Below w2.heap.size w2 wr)) (fun u _ _ => tt - (intOf u).toNat)
      case atStart => exact ⟨0, by omega, rfl, Lib.hid (by simpa [fewT] using World.ownsRow_nil _ _ _ _), Lib.hid (Below.refl _ _)⟩
      case round =>
        obtain ⟨j, hj, rfl, JO, JB⟩ := hrel
        have hjb := JB.out.size
        by_cases hjl : j < tt
        · have hjl' : (j : Int) < (tt : Int) := by omega
          obtain ⟨b2, o2, hS, hb2, hc2⟩ := HT.out.2.2 (by omega)
          subst hS
          have hww : w.heap.size ≤ w2.heap.size := PB.out.size
          have y0 := ((chainN PB.out hww JB.out).cell (p := ⟨b2, o2 + j, none⟩) hb2).trans (hc2 j (by omega))
          have hsz := HT.out.2.1 j
          have HS := Lib.hid (fewT_succ ss j (by rw [HK.out]; omega))
          obtain ⟨s, hse⟩ : ∃ s, s = ss.getD j ByteArray.empty := ⟨_, rfl⟩
          rw [← hse] at y0 hsz HS
          unfold maxLen at hsz
          obtain ⟨q, hq⟩ : ∃ q, q = min s.size 66 := ⟨_, rfl⟩
          have hq1 : q ≤ s.size := by omega
          have hq2 : q ≤ 66 := by omega
          have mq : (if (66 : Int) < (s.size : Int) then 66 else (s.size : Int)) = (q : Int) := by split <;> omega
          have HE := Lib.hid (show cutT s = s.extract 0 q by rw [cutT, ← hq])
          clear hse hq hc2
          have XO := Lib.hid (JO.out.alloc (.cells #[.string (s.extract 0 q)] 9))
          have al : Below wr.heap.size wr (wr.alloc (.cells #[.string (s.extract 0 q)] 9)) := (Below.refl _ _).alloc (Nat.le_refl _) _
          have XB := Lib.hid (chainN JB.out hjb al)
          clear al
          go_wp2_with (at_builtin; refine wpList_append_own _ rfl _ _ 48 rfl w2.heap.size 9 j0 (.string ⟨#[]⟩) 1 16 Try.underlying48 ji jz0 jz1 jz2 rfl (by decide) _ _ _ rfl XO.out ⟨wr.heap.size, 0, none⟩ 1 1 [.string (s.extract 0 q)] rfl rfl (cell_one_new _ _ _) (by simp [Value.oneCell']) (by simp [maxLen]; omega) (by omega) XB.out.size ?_; intro v' w1 hown' hgrow _; have HO2 := Lib.hid hown'; have HG2 := Lib.hid hgrow; clear hown' hgrow)
          have RB := Lib.hid (gr_low XB.out XB.out.size HG2.out (fun g e => (own_blk XO.out g e).1))
          have RO := Lib.hid (show w1.ownsRow w2.heap.size 9 1 v' (j + 1) ((fewT ss (j + 1)).map Value.string) by rw [HS.out, List.map_append, HE.out]; exact HO2.out)
          clear XO XB HO2 HG2 JO JB y0
          go_roundw
          case rel => exact ⟨j + 1, by omega, by go_num, RO, RB⟩
          case measure => simp [intOf]; omega
        · obtain rfl : j = tt := by omega
          have hjl' : ¬ (j : Int) < (j : Int) := by omega
          have hTl : (fewT ss j).length = j := fewT_len ss j (by rw [HK.out]; omega)
          have HTl := Lib.hid hTl
          obtain ⟨S', d', hv, -⟩ := own_form JO.out
          subst hv
          have HS2 := Lib.hid (own_slok JO.out)
          have HTx := Lib.hid (own_texts5 (ss := fewT ss j) (by rw [hTl]; exact JO.out) (fun s hs => by
            obtain ⟨x, -, rfl⟩ := List.mem_map.1 hs
            have := cutT_size x
            unfold maxLen; omega))
          have hww : w.heap.size ≤ w2.heap.size := PB.out.size
          have R0' := Lib.hid (P0'.out.below JB.out P0'.out.lt)
          have R1' := Lib.hid (P1.out.below JB.out P1.out.lt)
          have hM2 := HMat.out.mono (Nat.le_refl _) JB.out
          have hMx := (hM2.farB (B := w.heap.size + 1) (fun b o hA h0 => (HLo.out h0 b o hA).2) R1'.out 0 (.int .i64 N)).farB (B := w.heap.size + 1) (fun b o hA h0 => (HLo.out h0 b o hA).2) (R1'.out.put 0 (.int .i64 N)) 1 (.slice A' i c')
          have HMx := Lib.hid hMx
          have HBl := Lib.hid (((chainN PB.out hww JB.out).setCell (p := ⟨w.heap.size + 1, 0, none⟩) (by simp) (.int .i64 N)).setCell (p := ⟨w.heap.size + 1, 1, none⟩) (by simp) (.slice A' i c'))
          have HTy := Lib.hid (texts_put HTx.out R1'.out (fun b o hA h0 => by
            obtain ⟨g, hg, hg2, -⟩ := own_some5 JO.out (by rw [← hTl]; exact h0)
            rw [hg] at hA
            injection hA with hA
            injection hA with hA
            have := P1.out.lt
            omega) (.int .i64 N) (.slice A' i c'))
          have HLoS := Lib.hid (show ∀ b o, S' = some ⟨b, o, none⟩ → 0 < (fewT ss j).length → w.heap.size ≤ b from fun b o hA h0 => by
            obtain ⟨g, hg, hg2, -⟩ := own_some5 JO.out (by rw [← hTl]; exact h0)
            rw [hg] at hA
            injection hA with hA
            injection hA with hA
            omega)
          obtain ⟨s0, s1, s2, s3⟩ := R0'.out.two
          obtain ⟨p0, p1, p2, p3⟩ := R1'.out.two
          clear hM2 hMx hTl
          go_wp2_with fail
          refine close_cell Try.results20 rfl rfl rfl R1'.out.put2 Try.underlying24 rfl (by kernel_rfl) ⟨A', S', c', d', by rw [HFL.out, HTl.out]; rfl, by rw [HFL.out]; exact HSl.out, by rw [HTl.out]; exact HS2.out, by rw [HFL.out]; exact HMx.out.low (by omega), HTy.out, HLoS.out, HBl.out⟩
end
section
/- Contract of the reference's Numbers: are two rows the same? -/
set_option linter.unusedVariables false
set_option linter.unusedSimpArgs false
open Go.RowKit
theorem take_eq_succ {xs ys : List Int} {i : Nat} (ha : i < xs.length) (hb : i < ys.length) (h : xs.take i = ys.take i) (e : xs.getD i 0 = ys.getD i 0) : xs.take (i + 1) = ys.take (i + 1) := by
  rw [List.take_succ_eq_append_getElem ha, List.take_succ_eq_append_getElem hb, h]
  have h1 : xs.getD i 0 = xs[i] := by simp [List.getD, ha]
  have h2 : ys.getD i 0 = ys[i] := by simp [List.getD, hb]
  rw [h1, h2] at e
  rw [e]
/-- Are two rows of numbers the same? -/
def sameZ (xs ys : List Int) : Bool := decide (xs = ys)
set_option maxHeartbeats 1000000 in
theorem refNumbers_any (A B : Option Addr) (la ca lb cb : Nat) (xs ys : List Int) (w : World) (ha : Ints w A la xs) (hb : Ints w B lb ys) (h1 : la ≤ 100000) (h2 : lb ≤ 100000) :
    Calls Try.prog 14 #[.slice A la ca, .slice B lb cb] w fun e w' => e = .returned (.bool (sameZ xs ys)) ∧ Below w.heap.size w w' := by
  have HA := Lib.hid ha
  have HB := Lib.hid hb
  clear ha hb
  by_cases hl : la = lb
  · subst hl
    have t0 : (((la : Nat) : Int) != ((la : Nat) : Int)) = false := by simp
    rcases Nat.eq_zero_or_pos la with h0 | hp
    · subst h0
      have HS := Lib.hid (show sameZ xs ys = true from by
        have e1 := List.eq_nil_of_length_eq_zero HA.out.1
        have e2 := List.eq_nil_of_length_eq_zero HB.out.1
        rw [e1, e2]; rfl)
      have hlt : ¬ (0 : Int) < 0 := by omega
      go_enter Try.func14, Try.ntmps14
      go_wp2_with fail
      go_loop [13] (fun i => i = .int .i64 0) (fun i => 0)
      case atStart => rfl
      case round =>
        subst hrel
        go_wp2
        go_ret
        exact ⟨by rw [HS.out]; rfl, Below.refl _ _⟩
    · obtain ⟨ba, oa, rfl, hba, hca⟩ := HA.out.2.2 hp
      obtain ⟨bb, ob, rfl, hbb, hcb⟩ := HB.out.2.2 hp
      have HCA := Lib.hid hca
      have HCB := Lib.hid hcb
      have HLA := Lib.hid HA.out.1
      have HLB := Lib.hid HB.out.1
      clear hca hcb HA HB
      go_enter Try.func14, Try.ntmps14
      go_wp2_with fail
      go_loopw [13] (fun i wr => ∃ j : Nat, j ≤ la ∧ i = .int .i64 j ∧ Hid (xs.take j = ys.take j) ∧ Hid (Below w.heap.size w wr)) (fun i _ => la - (intOf i).toNat)
      case atStart => exact ⟨0, by omega, rfl, Lib.hid rfl, Lib.hid (Below.refl _ _)⟩
      case round =>
        obtain ⟨j, hj, rfl, HE, HBL⟩ := hrel
        by_cases hjl : j < la
        · have hjl' : (j : Int) < la := by omega
          have c1 := (HBL.out.cell (p := ⟨ba, oa + j, none⟩) hba).trans (HCA.out j hjl)
          have c2 := (HBL.out.cell (p := ⟨bb, ob + j, none⟩) hbb).trans (HCB.out j hjl)
          have HST := Lib.hid (fun e => take_eq_succ (xs := xs) (ys := ys) (i := j) (by rw [HLA.out]; exact hjl) (by rw [HLB.out]; exact hjl) HE.out e)
          have HNE := Lib.hid (show xs.getD j 0 ≠ ys.getD j 0 → sameZ xs ys = false from fun h => decide_eq_false (fun e => h (by rw [e])))
          generalize xs.getD j 0 = x at *
          generalize ys.getD j 0 = y at *
          by_cases hxy : x = y
          · have t1 : (x != y) = false := by simp [hxy]
            have HS2 := Lib.hid (HST.out hxy)
            clear hxy
            go_wp2
            go_region
            go_wp2
            go_roundw
            case rel => exact ⟨j + 1, by omega, by go_num, HS2, Lib.hid HBL.out.drew⟩
            case measure => simp [intOf] <;> omega
          · have t1 : (x != y) = true := by simp [hxy]
            have HR := Lib.hid (HNE.out hxy)
            clear hxy
            go_wp2
            go_region
            go_wp2
            go_ret
            exact ⟨by rw [HR.out]; rfl, HBL.out.drew⟩
        · obtain rfl : j = la := by omega
          have hjl' : ¬ (j : Int) < j := by omega
          have HR := Lib.hid (show sameZ xs ys = true from decide_eq_true (by
            have := HE.out
            rw [List.take_of_length_le (Nat.le_of_eq HLA.out), List.take_of_length_le (Nat.le_of_eq HLB.out)] at this
            exact this))
          go_wp2
          go_ret
          exact ⟨by rw [HR.out]; rfl, HBL.out⟩
  · have t0 : (((la : Nat) : Int) != ((lb : Nat) : Int)) = true := by rw [bne_iff_ne]; omega
    have HS := Lib.hid (show sameZ xs ys = false from decide_eq_false (fun e => hl (by rw [← HA.out.1, ← HB.out.1, e])))
    go_enter Try.func14, Try.ntmps14
    go_wp2_with fail
    go_ret
    exact ⟨by rw [HS.out]; rfl, Below.refl _ _⟩
end
section
/- Contract of law 02's few: the first 66 texts, each cut. -/
set_option linter.unusedVariables false
set_option linter.unusedSimpArgs false
open Go.RowKit
theorem string_info : (Try.prog.info? 9).map (fun i => (i.zero, i.size, i.bytes)) = some (some (.string ⟨#[]⟩), 1, 16) := by kernel_rfl
theorem own_texts {w : World} {base e n : Nat} {v : Value} {ss : List ByteArray} (h : w.ownsRow base e 1 v n (ss.map Value.string)) (hz : ∀ j, (ss.getD j ByteArray.empty).size ≤ maxLen) : ∃ A c, v = .slice A n c ∧ n ≤ c ∧ c ≤ maxLen ∧ Texts w A n ss := by
  have hl : ss.length = n := by have := h.1; simpa using this
  rcases h.2 with ⟨rfl, h0⟩ | ⟨g, cap, cur, rfl, hb, hh, hn, hm, hs, hx⟩
  · subst h0
    obtain rfl : ss = [] := List.length_eq_zero_iff.1 hl
    exact ⟨none, 0, rfl, Nat.le_refl _, Nat.zero_le _, Texts.nil _ _⟩
  · refine ⟨_, _, rfl, hn, hm, hl, hz, fun hp => ?_⟩
    have hbx : Box w g e cur := hh
    refine ⟨g, 0, rfl, hbx.lt, fun j hj => ?_⟩
    rw [Nat.zero_add, hbx.cell j]
    have e1 : (cur.toList.take (n * 1))[j]? = (ss.map Value.string)[j]? := by rw [hx]
    rw [Nat.mul_one, List.getElem?_take, if_pos hj] at e1
    have hjz : j < ss.length := by omega
    simp only [List.getElem?_map, List.getElem?_eq_getElem hjz, Option.map_some] at e1
    rw [← Array.getElem?_toList, e1]
    simp [List.getD, hjz]
def cuts (ss : List ByteArray) (k : Nat) : List ByteArray := (ss.take k).map cutB
theorem cuts_succ (ss : List ByteArray) (k : Nat) (h : k < ss.length) : cuts ss (k + 1) = cuts ss k ++ [cutB (ss.getD k ByteArray.empty)] := by
  unfold cuts
  rw [List.take_succ_eq_append_getElem h, List.map_append]
  simp [List.getD, h]
theorem cuts_le (ss : List ByteArray) (k j : Nat) : ((cuts ss k).getD j ByteArray.empty).size ≤ maxLen := by
  unfold cuts
  simp only [List.getD, List.getElem?_map]
  cases (ss.take k)[j]? with
  | none => simp [maxLen]
  | some s => have := cutB_size s; simp [maxLen]; omega
/-- A slice of texts is returned. -/
def TextsOut (ss : List ByteArray) (w : World) (e : Ending) (w' : World) : Prop :=
  ∃ A c, e = .returned (.slice A ss.length c) ∧ ss.length ≤ c ∧ c ≤ maxLen ∧ Texts w' A ss.length ss ∧ Below w.heap.size w w'
theorem cuts_all (ss : List ByteArray) (k : Nat) (h : ss.length = k) (h2 : k ≤ 66) : cuts ss k = cuts ss 66 := by
  unfold cuts
  rw [List.take_of_length_le (by omega), List.take_of_length_le (by omega)]
end
section
/- The reference's Texts: two rows of texts that are the same. -/
set_option linter.unusedVariables false
set_option linter.unusedSimpArgs false
open Go.RowKit
set_option maxHeartbeats 1000000 in
theorem refTexts_same (A B : Option Addr) (l c d : Nat) (ss : List ByteArray) (w : World) (hu : Texts w A l ss) (hv : Texts w B l ss) (hl : l ≤ 1000000) :
    Calls Try.prog 28 #[.slice A l c, .slice B l d] w fun e w' => e = .returned (.bool true) ∧ Below w.heap.size w w' := by
  have HU := Lib.hid hu
  have HV := Lib.hid hv
  clear hu hv
  have t2 : ((l : Int) != (l : Int)) = false := by simp
  go_enter Try.func28, Try.ntmps28
  go_wp2_with fail
  clear t2
  go_loopw [13] (fun i wr => ∃ j : Nat, j ≤ l ∧ i = .int .i64 j ∧ Below w.heap.size w wr) (fun i _ => l - (intOf i).toNat)
  case atStart => exact ⟨0, by omega, rfl, Below.refl _ _⟩
  case round =>
    obtain ⟨j, hj, rfl, hbel⟩ := hrel
    have HB := Lib.hid hbel
    clear hbel
    by_cases hlt : j < l
    · obtain ⟨p, o, rfl, lt1, hc1⟩ := HU.out.2.2 (by omega)
      obtain ⟨p2, o2, rfl, lt2, hc2⟩ := HV.out.2.2 (by omega)
      have cu := (HB.out.cell (p := ⟨p, o + j, none⟩) lt1).trans (hc1 j hlt)
      have cv := (HB.out.cell (p := ⟨p2, o2 + j, none⟩) lt2).trans (hc2 j hlt)
      generalize ss.getD j ByteArray.empty = s at *
      clear hc1 hc2
      have hlt' : (j : Int) < (l : Int) := by omega
      have hj0 : (0 : Int) ≤ (j : Int) := by omega
      go_wp2
      go_quiet (fail)
      go_wp2_with fail
      go_roundw
      case rel => exact ⟨j + 1, by omega, by go_num, bdN HB.out _⟩
      case measure => simp [intOf]; omega
    · obtain rfl : j = l := by omega
      go_wp2
      go_ret
      exact ⟨rfl, HB.out⟩
end
end Go.Proofs.Ytdfmogcgangdnaa
