/- Parts: GTail, RsX, Open. -/
import Derived.Test.YtdfmogcgangdnaaZj
import Derived.Lib.SmallJoins
import Derived.OpenShut
import Derived.ProofKit
namespace Go.Proofs.Ytdfmogcgangdnaa
section
/- The law of HTail where one store of the head (number k) writes what earlier loads have read: some cells are held till it has come, others to the head's end. No program. -/
set_option linter.unusedVariables false
set_option linter.unusedSimpArgs false
section
variable {P : Program} {ops : Array Oper} {Q : Exit → Act → World → Prop} {md : Region.Mode} {Sa Sb : World → Prop} {k : Nat}
/-- What is held: Sb, and, while number k has not come, Sa. -/
def heldG (Sa Sb : World → Prop) (k : Nat) (listed : Array Bool) (w : World) : Prop := Sb w ∧ (listed.getD k false = false → Sa w)
theorem heldG_set {listed : Array Bool} {w : World} {i : Nat} (hik : i ≠ k) : heldG Sa Sb k (listed.setIfInBounds i true) w ↔ heldG Sa Sb k listed w := by
  unfold heldG; rw [getD_set_ne false hik]
def headG (P : Program) (md : Region.Mode) (ops : Array Oper) (Q : Exit → Act → World → Prop) (Sa Sb : World → Prop) (k m : Nat) (L : Array Bool → Act → World → Prop) : Nat → Array Bool → Act → World → Prop
  | 0, listed, a, w => L listed a w
  | f + 1, listed, a, w => Region.ready md ops listed ≠ [] ∧ ∀ i ∈ Region.ready md ops listed, i < m ∧ wpOp P ops Q i (fun a' w' => heldG Sa Sb k (listed.setIfInBounds i true) w' ∧ headG P md ops Q Sa Sb k m L f (listed.setIfInBounds i true) a' w') a w
theorem any_of_headG {m g : Nat} {L : Array Bool → Act → World → Prop} (hL : ∀ listed a w, L listed a w → wpAny P md ops Q g listed a w) :
    ∀ (f : Nat) (listed : Array Bool) (a : Act) (w : World), headG P md ops Q Sa Sb k m L f listed a w → wpAny P md ops Q (f + g) listed a w
  | 0, listed, a, w, h => by rw [Nat.zero_add]; exact hL _ _ _ h
  | f + 1, listed, a, w, h => by
    rw [show f + 1 + g = (f + g) + 1 by omega]
    exact ⟨fun h0 => absurd h0 h.1, fun i hi => wpOp_mono (fun a' w' h' => any_of_headG hL f _ a' w' h'.2) (h.2 i hi).2⟩
theorem headG_first {m i : Nat} {oi : Oper} {v : Value} {L : Array Bool → Act → World → Prop} {T : World → Prop} (hi : ops[i]? = some oi) (hsel : ∀ (j : Nat) (o : Oper) cs b, ops[j]? = some o → o.op ≠ .select cs b)
    (hik : i ≠ k) (hT : ∀ listed, HeadInv md ops m listed → listed.getD i true = false → ∀ w, heldG Sa Sb k listed w → T w)
    (hw : ∀ listed, HeadInv md ops m listed → ∀ i, i < m → listed.getD i true = false → ∀ t, m ≤ t → t ∉ Region.ready md ops listed) (him : i < m)
    (hQ : ∀ c a w, Q (.panic c) (a.put oi.dst v) w → Q (.panic c) a w) (hdone : ∀ listed a w, L listed a w → ∀ j ∈ Region.ready md ops listed, m ≤ j) :
    ∀ (f : Nat) (listed : Array Bool) (a : Act) (w : World), HeadInv md ops m listed →
      (∀ j oj, ops[j]? = some oj → j ≠ i → listed.getD j true = false → (∀ e ∈ oj.after, Region.binds md e = true → e.on ≠ i) → oi.apart ops oj = true) →
      i ∈ Region.ready md ops listed → YieldsIf P ops T oi v a → heldG Sa Sb k listed w →
      headG P md ops Q Sa Sb k m L f (listed.setIfInBounds i true) (a.put oi.dst v) w → headG P md ops Q Sa Sb k m L (f + 1) listed a w := by
  intro f
  induction f with
  | zero =>
    intro listed a w inv _ hr hy hS H
    have hun := (mem_ready.1 hr).1
    refine ⟨fun h => (by rw [h] at hr; cases hr), fun j hj => ?_⟩
    have hjm : j < m := by
      rcases Nat.lt_or_ge j m with h | h
      · exact h
      · exact absurd hj (hw listed inv i him hun j h)
    refine ⟨hjm, ?_⟩
    by_cases hji : j = i
    · subst hji; exact hy.wpOp hi (hT listed inv hun w hS) ⟨(heldG_set hik).2 hS, H⟩
    · have := hdone _ _ _ H j (ready_mono hj hji)
      omega
  | succ f ih =>
    intro listed a w inv hfree hr hy hS H
    have hun := (mem_ready.1 hr).1
    refine ⟨fun h => (by rw [h] at hr; cases hr), fun j hj => ?_⟩
    have hjm : j < m := by
      rcases Nat.lt_or_ge j m with h | h
      · exact h
      · exact absurd hj (hw listed inv i him hun j h)
    refine ⟨hjm, ?_⟩
    by_cases hji : j = i
    · subst hji; exact hy.wpOp hi (hT listed inv hun w hS) ⟨(heldG_set hik).2 hS, H⟩
    · have h1 := (H.2 j (ready_mono hj hji)).2
      obtain ⟨hjun, oj, hoj, hall⟩ := mem_ready.1 hj
      have hnot : ∀ e ∈ oj.after, Region.binds md e = true → e.on ≠ i := fun e he hb heq => by
        have h1 := hall e he hb
        rw [heq, getD_both hun] at h1
        cases h1
      have h2 := wpOp_putIf hoj (hfree j oj hoj hji hjun hnot) (fun cs b => hsel i oi cs b hi) (fun cs b => hsel j oj cs b hoj) hQ hy h1
      have hfree' : ∀ l ol, ops[l]? = some ol → l ≠ i → (listed.setIfInBounds j true).getD l true = false →
          (∀ e ∈ ol.after, Region.binds md e = true → e.on ≠ i) → oi.apart ops ol = true := fun l ol hl hli hun hno => by
        refine hfree l ol hl hli ?_ hno
        by_cases hjl : j = l
        · subst hjl; exact hjun
        · rw [getD_set_ne true hjl] at hun; exact hun
      refine wpOp_mono (fun a' w' h3 => ?_) h2
      have h4 := h3.2.1
      rw [Array.setIfInBounds_comm _ _ (Ne.symm hji)] at h4
      have h5 := (heldG_set hik).1 h4
      refine ⟨h5, ih (listed.setIfInBounds j true) a' w' (inv.set hj hjm) hfree' (ready_mono hr (Ne.symm hji)) h3.1 h5 ?_⟩
      rw [Array.setIfInBounds_comm _ _ hji]
      exact h3.2.2
/-- Take number i first, ahead of a bar; b says that number k waits for it, so that Sa may be used. -/
theorem headG_take {m i : Nat} {oi : Oper} {v : Value} {f : Nat} {listed : Array Bool} {a : Act} {w : World} {L : Array Bool → Act → World → Prop} (b : Bool) (hi : ops[i]? = some oi)
    (hall : (Region.noSelect ops && barB md ops m && decide (i < m) && headB md ops m listed && Region.free md ops listed i && (Region.ready md ops listed).contains i && decide (i ≠ k) && (!b || Region.waitsFor md ops k i)) = true)
    (hQ : ∀ c a w, Q (.panic c) (a.put oi.dst v) w → Q (.panic c) a w) (hdone : ∀ listed a w, L listed a w → ∀ j ∈ Region.ready md ops listed, m ≤ j)
    (hy : YieldsIf P ops (fun w => Sb w ∧ (b = true → Sa w)) oi v a) (hS : heldG Sa Sb k listed w) (h : headG P md ops Q Sa Sb k m L f (listed.setIfInBounds i true) (a.put oi.dst v) w) : headG P md ops Q Sa Sb k m L (f + 1) listed a w := by
  simp only [Bool.and_eq_true, decide_eq_true_eq] at hall
  obtain ⟨⟨⟨⟨⟨⟨⟨h1, h2⟩, h5⟩, h6⟩, h7⟩, h8⟩, h9⟩, h10⟩ := hall
  refine headG_first hi (Region.noSelect_spec h1) h9 (fun listed inv hun w hw => ⟨hw.1, fun hb => hw.2 ?_⟩) (fun listed _ i him hun t ht => bar_waits h2 listed i him hun t ht) h5 hQ hdone f listed a w (headB_inv h6) (Region.free_spec hi h7) (by simpa using h8) hy hS h
  subst hb
  simp only [Bool.not_true, Bool.false_or] at h10
  obtain ⟨ok, hok, e, he, hbd, hon⟩ := Region.waitsFor_spec h10
  cases hl : listed.getD k false with
  | false => rfl
  | true =>
    have := inv.closed k ok hok hl e he hbd
    rw [hon, getD_both hun] at this
    cases this
/-- Only number i may come up: behind it what is held is to be shown anew. -/
theorem headG_one {m i : Nat} {o : Oper} {f : Nat} {listed : Array Bool} {a : Act} {w : World} {L : Array Bool → Act → World → Prop} (hr : (Region.ready md ops listed == [i] && decide (i < m)) = true) (ho : ops[i]? = some o)
    (h : ∀ K' : Act → World → Prop, Shut (∀ a w, heldG Sa Sb k (listed.setIfInBounds i true) w → headG P md ops Q Sa Sb k m L f (listed.setIfInBounds i true) a w → K' a w) → if Region.wanted o (yielded ops a.tmps) = true then Oper.wp P o a w K' Q else K' (a.put o.dst undef) w) : headG P md ops Q Sa Sb k m L (f + 1) listed a w := by
  simp only [Bool.and_eq_true, beq_iff_eq, decide_eq_true_eq] at hr
  refine ⟨by rw [hr.1]; simp, fun j hj => ?_⟩
  rw [hr.1] at hj
  have hji : j = i := by simpa using hj
  subst hji
  exact ⟨hr.2, wpOp_step ho (fun K' hK => h K' (fun a w hS hW => hK a w ⟨hS, hW⟩))⟩
theorem wp_heldG_bar {id : Nat} {a : Act} {w : World} {l : List Oper} (m k : Nat) (hmx : P.follows .mixedOrders = true) (hm : m ≤ l.length)
    (h : headG P .any l.toArray Q Sa Sb k m (fun listed a w => passedB m listed = true ∧ wpAny P .any l.toArray Q (l.length - m) listed a w) m (Array.replicate l.toArray.size false) a w.drew) : (Code.region id l.toArray true).wp P Q a w := by
  refine wp_region_any hmx ?_
  have := any_of_headG (g := l.length - m) (fun listed a' w' hL => hL.2) _ _ _ _ h
  rw [show m + (l.length - m) = l.toArray.size by simp; omega] at this
  exact this
end
end
section
/- ReduceSpans: the walk. -/
set_option linter.unusedVariables false
set_option linter.unusedSimpArgs false
open Go.RowKit
set_option maxRecDepth 100000
theorem rightI_nat {n : Int} {us : List Nat} (h : rightB n us = true) : ∃ k : Nat, n = (k : Int) ∧ k ≤ 512 := by
  unfold rightB at h
  simp only [Bool.and_eq_true] at h
  obtain ⟨h0, h1⟩ := (lmb_iff n).1 h.1.1
  exact ⟨n.toNat, by omega, by omega⟩
theorem Words.far1 {w : World} {A : Option Addr} {len : Nat} {ws : List Nat} {g : Nat} {t : TypeId} {x : Int} {S : Option Addr} {p q : Nat} (h : Words w A len ws) (hb : Box w g t #[.int .i64 x, .slice S p q]) (i : Nat) (v : Value) :
    Words (w.setCell ⟨g, i, none⟩ v) A len ws := by
  refine ⟨h.1, h.2.1, fun hp => ?_⟩
  obtain ⟨b, off, rfl, hlt, hc⟩ := h.2.2 hp
  have hn := h.off hb b off rfl hp
  refine ⟨b, off, rfl, by simpa [World.setCell] using hlt, fun j hj => ?_⟩
  rw [World.cell?_setCell_other _ _ _ _ (by intro e; injection e; omega)]
  exact hc j hj
/-- Behind both stores: the matrix cut, the row cut. -/
theorem cut_two {x : World} {g1 g2 : Nat} {N n : Int} {A A1 B : Option Addr} {l c l1 c1 k d k1 : Nat} {lo : Nat} {ms : List (Int × List Nat)} {us : List Nat} {w : World}
    (h1 : Box x g1 24 #[.int .i64 N, .slice A l c]) (h2 : Box x g2 40 #[.int .i64 n, .slice B k d]) (n12 : g1 ≠ g2) (hm : MatAt x lo A1 l1 ms) (k1' : g1 < lo) (k2' : g2 < lo) (hu : Words x B k1 us)
    (hb : Below w.heap.size w x) (b1 : w.heap.size ≤ g1) (b2 : w.heap.size ≤ g2) :
    let y := ((x.setCell ⟨g1, 0, none⟩ (.int .i64 N)).setCell ⟨g1, 1, none⟩ (.slice A1 l1 c1)).setCell ⟨g2, 1, none⟩ (.slice B k1 d)
    Box y g1 24 #[.int .i64 N, .slice A1 l1 c1] ∧ Box y g2 40 #[.int .i64 n, .slice B k1 d] ∧ MatAt y 0 A1 l1 ms ∧ Words y B k1 us ∧ Below w.heap.size w y := by
  have r1 : Box ((x.setCell ⟨g1, 0, none⟩ (.int .i64 N)).setCell ⟨g1, 1, none⟩ (.slice A1 l1 c1)) g1 24 #[.int .i64 N, .slice A1 l1 c1] := h1.put2
  have r2 := (h2.far (p := ⟨g1, 0, none⟩) n12.symm (.int .i64 N)).far (p := ⟨g1, 1, none⟩) n12.symm (.slice A1 l1 c1)
  have v1 := hm.put2 (y := N) h1 k1' (.slice A1 l1 c1)
  have v2 := hu.put2 h1 (.int .i64 N) (.slice A1 l1 c1)
  have v3 := v2.far1 r2 1 (.slice B k1 d)
  exact ⟨r1.far (p := ⟨g2, 1, none⟩) n12 _, r2.put 1 _, (v1.far r2 k2' 1 (.slice B k1 d)).low (Nat.zero_le _), v3,
    ((hb.setCell (p := ⟨g1, 0, none⟩) b1 _).setCell (p := ⟨g1, 1, none⟩) b1 _).setCell (p := ⟨g2, 1, none⟩) b2 _⟩
set_option maxHeartbeats 16000000 in
theorem rspans_walk (N : Int) (A : Option Addr) (l c : Nat) (ms : List (Int × List Nat)) (n : Int) (Bw : Option Addr) (k0 d : Nat) (us : List Nat) (W : World) (s0 : SliceOk A l c) (s1 : SliceOk Bw k0 d) (h0 : MatAt W 0 A l ms) (h1 : Words W Bw k0 us) :
    Calls Try.prog 4 #[.agg #[.int .i64 N, .slice A l c], .agg #[.int .i64 n, .slice Bw k0 d]] W fun e w' => e = .returned (.bool true) ∧ Below W.heap.size W w' := by
  have b1 : Below W.heap.size W ((W.alloc (.cells #[.int .i64 N, .slice A l c] 24)).alloc (.cells #[.int .i64 n, .slice Bw k0 d] 40)) := ((Below.refl _ _).alloc (Nat.le_refl _) _).alloc (by simp) _
  have Q0 := Lib.hid ((Box.new W 24 #[.int .i64 N, .slice A l c]).alloc (.cells #[.int .i64 n, .slice Bw k0 d] 40))
  have q1 := Box.new (W.alloc (.cells #[.int .i64 N, .slice A l c] 24)) 40 #[.int .i64 n, .slice Bw k0 d]
  simp only [World.size_alloc] at q1
  have Q1 := Lib.hid q1
  have HB := Lib.hid b1
  have HF := Lib.hid (few4_any N A l c ms _ s0 (h0.below b1).drew)
  have HU := Lib.hid (h1.below b1)
  have hl66 : (fewM ms).length ≤ 66 := by have := fewM_len ms; omega
  have HSh := Lib.hid (fewM_short ms)
  have HS1 := Lib.hid s1
  generalize fewM ms = fs at *
  clear b1 q1 h0 h1 s0 s1
  obtain ⟨r0, r1, -, -⟩ := Q0.out.two
  obtain ⟨t0, t1, -, -⟩ := Q1.out.two
  go_enter Try.func4, Try.ntmps4
  go_wp2_with fail
  go_cut [] (fun wx => ∃ A1 c1 k1, Box wx W.heap.size 24 #[.int .i64 N, .slice A1 fs.length c1] ∧ Box wx (W.heap.size + 1) 40 #[.int .i64 n, .slice Bw k1 d] ∧ MatAt wx 0 A1 fs.length fs ∧ Words wx Bw k1 (us.take 10) ∧ SliceOk Bw k1 d ∧ Below W.heap.size W wx)
  case first =>
    obtain ⟨hs1, hs2, hs3⟩ := HS1.out
    unfold maxLen at hs2
    cases Bw with
    | none =>
      obtain ⟨rfl, rfl⟩ := hs3 rfl
      have hus : us = [] := List.length_eq_zero_iff.1 HU.out.1
      subst hus
      refine wp_heldG_bar (Sa := (fun w' => w'.cell? ⟨W.heap.size, 0, none⟩ = some (.int .i64 N) ∧ w'.cell? ⟨W.heap.size, 1, none⟩ = some (.slice A l c))) (Sb := (fun w' => w'.cell? ⟨W.heap.size + 1, 1, none⟩ = some (.slice none 0 0))) 10 9 (by kernel_rfl) (by decide) ?_
      have hSa := (show (fun w' => w'.cell? ⟨W.heap.size, 0, none⟩ = some (.int .i64 N) ∧ w'.cell? ⟨W.heap.size, 1, none⟩ = some (.slice A l c)) (World.drew ((W.alloc (.cells #[.int .i64 N, .slice A l c] 24)).alloc (.cells #[.int .i64 n, .slice none 0 0] 40))) from ⟨r0, r1⟩)
      have hSb := (show (fun w' => w'.cell? ⟨W.heap.size + 1, 1, none⟩ = some (.slice none 0 0)) (World.drew ((W.alloc (.cells #[.int .i64 N, .slice A l c] 24)).alloc (.cells #[.int .i64 n, .slice none 0 0] 40))) from t1)
      refine headG_take (i := 0) (v := ?_) true rfl (by kernel_rfl) (fun _ _ _ h => h) (fun _ _ _ h => passed_ready h.1) (Or.inl ⟨by rfl, ?hy1⟩) ⟨hSb, fun _ => hSa⟩ ?rest1
      case hy1 => intro w hSw; obtain ⟨sw2, sw1⟩ := hSw; (try dsimp only at sw2); obtain ⟨sa0, sa1⟩ := sw1 rfl; go_simp; try (with_reducible rfl)
      case rest1 =>
      try simp only [Act.put, List.setIfInBounds_toArray, List.set_cons_zero, List.set_cons_succ]
      refine headG_take (i := 2) (v := ?_) false rfl (by kernel_rfl) (fun _ _ _ h => h) (fun _ _ _ h => passed_ready h.1) (Or.inl ⟨by rfl, ?hy2⟩) ⟨hSb, fun _ => hSa⟩ ?rest2
      case hy2 => intro w hSw; obtain ⟨sw2, sw1⟩ := hSw; (try dsimp only at sw2); clear sw1; go_simp; try (with_reducible rfl)
      case rest2 =>
      try simp only [Act.put, List.setIfInBounds_toArray, List.set_cons_zero, List.set_cons_succ]
      refine headG_take (i := 3) (v := ?_) false rfl (by kernel_rfl) (fun _ _ _ h => h) (fun _ _ _ h => passed_ready h.1) (Or.inl ⟨by rfl, ?hy3⟩) ⟨hSb, fun _ => hSa⟩ ?rest3
      case hy3 => intro w hSw; obtain ⟨sw2, sw1⟩ := hSw; (try dsimp only at sw2); clear sw1; go_simp; try (with_reducible rfl)
      case rest3 =>
      try simp only [Act.put, List.setIfInBounds_toArray, List.set_cons_zero, List.set_cons_succ]
      refine headG_take (i := 4) (v := ?_) false rfl (by kernel_rfl) (fun _ _ _ h => h) (fun _ _ _ h => passed_ready h.1) (Or.inl ⟨by rfl, ?hy4⟩) ⟨hSb, fun _ => hSa⟩ ?rest4
      case hy4 => intro w hSw; obtain ⟨sw2, sw1⟩ := hSw; (try dsimp only at sw2); clear sw1; go_simp; try (with_reducible rfl)
      case rest4 =>
      try simp only [Act.put, List.setIfInBounds_toArray, List.set_cons_zero, List.set_cons_succ]
      refine headG_take (i := 5) (v := ?_) false rfl (by kernel_rfl) (fun _ _ _ h => h) (fun _ _ _ h => passed_ready h.1) (Or.inl ⟨by rfl, ?hy5⟩) ⟨hSb, fun _ => hSa⟩ ?rest5
      case hy5 => intro w hSw; obtain ⟨sw2, sw1⟩ := hSw; (try dsimp only at sw2); clear sw1; go_simp; try (with_reducible rfl)
      case rest5 =>
      try simp only [Act.put, List.setIfInBounds_toArray, List.set_cons_zero, List.set_cons_succ]
      refine headG_take (i := 6) (v := ?_) false rfl (by kernel_rfl) (fun _ _ _ h => h) (fun _ _ _ h => passed_ready h.1) (Or.inl ⟨by rfl, ?hy6⟩) ⟨hSb, fun _ => hSa⟩ ?rest6
      case hy6 => intro w hSw; obtain ⟨sw2, sw1⟩ := hSw; (try dsimp only at sw2); clear sw1; go_simp; try (with_reducible rfl)
      case rest6 =>
      try simp only [Act.put, List.setIfInBounds_toArray, List.set_cons_zero, List.set_cons_succ]
      refine headG_take (i := 7) (v := ?_) false rfl (by kernel_rfl) (fun _ _ _ h => h) (fun _ _ _ h => passed_ready h.1) (Or.inl ⟨by rfl, ?hy7⟩) ⟨hSb, fun _ => hSa⟩ ?rest7
      case hy7 => intro w hSw; obtain ⟨sw2, sw1⟩ := hSw; (try dsimp only at sw2); clear sw1; go_simp; try (with_reducible rfl)
      case rest7 =>
      try simp only [Act.put, List.setIfInBounds_toArray, List.set_cons_zero, List.set_cons_succ]
      refine headG_take (i := 8) (v := ?_) false rfl (by kernel_rfl) (fun _ _ _ h => h) (fun _ _ _ h => passed_ready h.1) (Or.inl ⟨by rfl, ?hy8⟩) ⟨hSb, fun _ => hSa⟩ ?rest8
      case hy8 => intro w hSw; obtain ⟨sw2, sw1⟩ := hSw; (try dsimp only at sw2); clear sw1; go_simp; try (with_reducible rfl)
      case rest8 =>
      try simp only [Act.put, List.setIfInBounds_toArray, List.set_cons_zero, List.set_cons_succ]
      refine headG_one (i := 1) (by kernel_rfl) rfl (fun K hK => ?_)
      go_simp
      refine HF.out.mono ?_
      rintro e1 x1 ⟨A1, c1, rfl, q1, hb⟩
      have P0 := Lib.hid (Q0.out.drew.keep hb)
      have P1 := Lib.hid (Q1.out.drew.keep hb)
      have PB := Lib.hid (chain HB.out.drew hb)
      have PU := Lib.hid (HU.out.drew.below hb)
      have PM := Lib.hid q1
      clear hb q1 hSa hSb
      obtain ⟨u0, u1, u2, u3⟩ := P0.out.two
      obtain ⟨v0, v1, v2, v3⟩ := P1.out.two
      have hSa := (show (fun w' => w'.cell? ⟨W.heap.size, 0, none⟩ = some (.int .i64 N) ∧ w'.cell? ⟨W.heap.size, 1, none⟩ = some (.slice A l c)) x1 from ⟨u0, u1⟩)
      have hSb := (show (fun w' => w'.cell? ⟨W.heap.size + 1, 1, none⟩ = some (.slice none 0 0)) x1 from v1)
      refine hK.out _ _ ⟨hSb, fun _ => hSa⟩ ?_
      clear hK K
      try simp only [Act.put, List.setIfInBounds_toArray, List.set_cons_zero, List.set_cons_succ]
      refine headG_one (i := 9) (by kernel_rfl) rfl (fun K hK => ?_)
      go_simp
      refine hK.out _ _ ⟨((P1.out.far (p := ⟨W.heap.size, 0, none⟩) (by simp) (.int .i64 N)).far (p := ⟨W.heap.size, 1, none⟩) (by simp) (.slice A1 fs.length c1)).cell 1, fun h => Bool.noConfusion (show true = false from h)⟩ ?_
      clear hK K
      refine ⟨by kernel_rfl, ?_⟩
      refine wpAny_take (i := 10) (v := ?_) rfl (by kernel_rfl) (by kernel_rfl) (by kernel_rfl) (fun _ _ _ h => h) (Or.inl ⟨by rfl, ?hy9⟩) ?rest9
      case hy9 => intro w; go_simp; try (with_reducible rfl)
      case rest9 =>
      try simp only [Act.put, List.setIfInBounds_toArray, List.set_cons_zero, List.set_cons_succ]
      refine wpAny_ready (rs := [11]) (by kernel_rfl) (by simp) ?_
      refine AllReady.cons rfl (fun K hK => ?_) AllReady.nil
      go_simp
      refine hK _ _ ?_
      clear hK K
      refine wpAny_done (by kernel_rfl) ?_ _
      go_wp2_with fail
      go_meet
      obtain ⟨e1, e2, e3, e4, e5⟩ := cut_two (A1 := A1) (c1 := c1) (k1 := 0) P0.out P1.out (by simp) PM.out (by simp <;> omega) (by simp <;> omega) (Words.nil x1 none) PB.out (Nat.le_refl _) (by simp)
      exact ⟨A1, c1, 0, e1, e2, e3, e4, HS1.out, e5⟩
    | some ad =>
      by_cases h10 : k0 ≤ 10
      · have g1 : (k0 : Int) ≤ 10 := by omega
        have g2 : ¬ (10 : Int) < k0 := by omega
        refine wp_heldG_bar (Sa := (fun w' => w'.cell? ⟨W.heap.size, 0, none⟩ = some (.int .i64 N) ∧ w'.cell? ⟨W.heap.size, 1, none⟩ = some (.slice A l c))) (Sb := (fun w' => w'.cell? ⟨W.heap.size + 1, 1, none⟩ = some (.slice (some ad) k0 d))) 10 9 (by kernel_rfl) (by decide) ?_
        have hSa := (show (fun w' => w'.cell? ⟨W.heap.size, 0, none⟩ = some (.int .i64 N) ∧ w'.cell? ⟨W.heap.size, 1, none⟩ = some (.slice A l c)) (World.drew ((W.alloc (.cells #[.int .i64 N, .slice A l c] 24)).alloc (.cells #[.int .i64 n, .slice (some ad) k0 d] 40))) from ⟨r0, r1⟩)
        have hSb := (show (fun w' => w'.cell? ⟨W.heap.size + 1, 1, none⟩ = some (.slice (some ad) k0 d)) (World.drew ((W.alloc (.cells #[.int .i64 N, .slice A l c] 24)).alloc (.cells #[.int .i64 n, .slice (some ad) k0 d] 40))) from t1)
        refine headG_take (i := 0) (v := ?_) true rfl (by kernel_rfl) (fun _ _ _ h => h) (fun _ _ _ h => passed_ready h.1) (Or.inl ⟨by rfl, ?hy10⟩) ⟨hSb, fun _ => hSa⟩ ?rest10
        case hy10 => intro w hSw; obtain ⟨sw2, sw1⟩ := hSw; (try dsimp only at sw2); obtain ⟨sa0, sa1⟩ := sw1 rfl; go_simp; try (with_reducible rfl)
        case rest10 =>
        try simp only [Act.put, List.setIfInBounds_toArray, List.set_cons_zero, List.set_cons_succ]
        refine headG_take (i := 2) (v := ?_) false rfl (by kernel_rfl) (fun _ _ _ h => h) (fun _ _ _ h => passed_ready h.1) (Or.inl ⟨by rfl, ?hy11⟩) ⟨hSb, fun _ => hSa⟩ ?rest11
        case hy11 => intro w hSw; obtain ⟨sw2, sw1⟩ := hSw; (try dsimp only at sw2); clear sw1; go_simp; try (with_reducible rfl)
        case rest11 =>
        try simp only [Act.put, List.setIfInBounds_toArray, List.set_cons_zero, List.set_cons_succ]
        refine headG_take (i := 3) (v := ?_) false rfl (by kernel_rfl) (fun _ _ _ h => h) (fun _ _ _ h => passed_ready h.1) (Or.inl ⟨by rfl, ?hy12⟩) ⟨hSb, fun _ => hSa⟩ ?rest12
        case hy12 => intro w hSw; obtain ⟨sw2, sw1⟩ := hSw; (try dsimp only at sw2); clear sw1; go_simp; try (with_reducible rfl)
        case rest12 =>
        try simp only [Act.put, List.setIfInBounds_toArray, List.set_cons_zero, List.set_cons_succ]
        refine headG_take (i := 4) (v := ?_) false rfl (by kernel_rfl) (fun _ _ _ h => h) (fun _ _ _ h => passed_ready h.1) (Or.inl ⟨by rfl, ?hy13⟩) ⟨hSb, fun _ => hSa⟩ ?rest13
        case hy13 => intro w hSw; obtain ⟨sw2, sw1⟩ := hSw; (try dsimp only at sw2); clear sw1; go_simp; try (with_reducible rfl)
        case rest13 =>
        try simp only [Act.put, List.setIfInBounds_toArray, List.set_cons_zero, List.set_cons_succ]
        refine headG_take (i := 5) (v := ?_) false rfl (by kernel_rfl) (fun _ _ _ h => h) (fun _ _ _ h => passed_ready h.1) (Or.inl ⟨by rfl, ?hy14⟩) ⟨hSb, fun _ => hSa⟩ ?rest14
        case hy14 => intro w hSw; obtain ⟨sw2, sw1⟩ := hSw; (try dsimp only at sw2); clear sw1; go_simp; try (with_reducible rfl)
        case rest14 =>
        try simp only [Act.put, List.setIfInBounds_toArray, List.set_cons_zero, List.set_cons_succ]
        refine headG_take (i := 6) (v := ?_) false rfl (by kernel_rfl) (fun _ _ _ h => h) (fun _ _ _ h => passed_ready h.1) (Or.inl ⟨by rfl, ?hy15⟩) ⟨hSb, fun _ => hSa⟩ ?rest15
        case hy15 => intro w hSw; obtain ⟨sw2, sw1⟩ := hSw; (try dsimp only at sw2); clear sw1; go_simp; try (with_reducible rfl)
        case rest15 =>
        try simp only [Act.put, List.setIfInBounds_toArray, List.set_cons_zero, List.set_cons_succ]
        refine headG_take (i := 7) (v := ?_) false rfl (by kernel_rfl) (fun _ _ _ h => h) (fun _ _ _ h => passed_ready h.1) (Or.inl ⟨by rfl, ?hy16⟩) ⟨hSb, fun _ => hSa⟩ ?rest16
        case hy16 => intro w hSw; obtain ⟨sw2, sw1⟩ := hSw; (try dsimp only at sw2); clear sw1; go_simp; try (with_reducible rfl)
        case rest16 =>
        try simp only [Act.put, List.setIfInBounds_toArray, List.set_cons_zero, List.set_cons_succ]
        refine headG_take (i := 8) (v := ?_) false rfl (by kernel_rfl) (fun _ _ _ h => h) (fun _ _ _ h => passed_ready h.1) (Or.inl ⟨by rfl, ?hy17⟩) ⟨hSb, fun _ => hSa⟩ ?rest17
        case hy17 => intro w hSw; obtain ⟨sw2, sw1⟩ := hSw; (try dsimp only at sw2); clear sw1; go_simp; try (with_reducible rfl)
        case rest17 =>
        try simp only [Act.put, List.setIfInBounds_toArray, List.set_cons_zero, List.set_cons_succ]
        refine headG_one (i := 1) (by kernel_rfl) rfl (fun K hK => ?_)
        go_simp
        refine HF.out.mono ?_
        rintro e1 x1 ⟨A1, c1, rfl, q1, hb⟩
        have P0 := Lib.hid (Q0.out.drew.keep hb)
        have P1 := Lib.hid (Q1.out.drew.keep hb)
        have PB := Lib.hid (chain HB.out.drew hb)
        have PU := Lib.hid (HU.out.drew.below hb)
        have PM := Lib.hid q1
        clear hb q1 hSa hSb
        obtain ⟨u0, u1, u2, u3⟩ := P0.out.two
        obtain ⟨v0, v1, v2, v3⟩ := P1.out.two
        have hSa := (show (fun w' => w'.cell? ⟨W.heap.size, 0, none⟩ = some (.int .i64 N) ∧ w'.cell? ⟨W.heap.size, 1, none⟩ = some (.slice A l c)) x1 from ⟨u0, u1⟩)
        have hSb := (show (fun w' => w'.cell? ⟨W.heap.size + 1, 1, none⟩ = some (.slice (some ad) k0 d)) x1 from v1)
        refine hK.out _ _ ⟨hSb, fun _ => hSa⟩ ?_
        clear hK K
        try simp only [Act.put, List.setIfInBounds_toArray, List.set_cons_zero, List.set_cons_succ]
        refine headG_one (i := 9) (by kernel_rfl) rfl (fun K hK => ?_)
        go_simp
        refine hK.out _ _ ⟨((P1.out.far (p := ⟨W.heap.size, 0, none⟩) (by simp) (.int .i64 N)).far (p := ⟨W.heap.size, 1, none⟩) (by simp) (.slice A1 fs.length c1)).cell 1, fun h => Bool.noConfusion (show true = false from h)⟩ ?_
        clear hK K
        refine ⟨by kernel_rfl, ?_⟩
        refine wpAny_take (i := 10) (v := ?_) rfl (by kernel_rfl) (by kernel_rfl) (by kernel_rfl) (fun _ _ _ h => h) (Or.inl ⟨by rfl, ?hy18⟩) ?rest18
        case hy18 => intro w; go_simp; try (with_reducible rfl)
        case rest18 =>
        try simp only [Act.put, List.setIfInBounds_toArray, List.set_cons_zero, List.set_cons_succ]
        refine wpAny_ready (rs := [11]) (by kernel_rfl) (by simp) ?_
        refine AllReady.cons rfl (fun K hK => ?_) AllReady.nil
        go_simp
        refine hK _ _ ?_
        clear hK K
        refine wpAny_done (by kernel_rfl) ?_ _
        go_wp2_with fail
        go_meet
        have PT := Lib.hid (show Words x1 (some ad) k0 (us.take 10) by rw [List.take_of_length_le (by rw [PU.out.1]; omega)]; exact PU.out)
        obtain ⟨e1, e2, e3, e4, e5⟩ := cut_two (A1 := A1) (c1 := c1) (k1 := k0) P0.out P1.out (by simp) PM.out (by simp <;> omega) (by simp <;> omega) PT.out PB.out (Nat.le_refl _) (by simp)
        exact ⟨A1, c1, k0, e1, e2, e3, e4, HS1.out, e5⟩
      · have g1 : (10 : Int) < k0 := by omega
        have g3 : (10 : Int) ≤ d := by omega
        refine wp_heldG_bar (Sa := (fun w' => w'.cell? ⟨W.heap.size, 0, none⟩ = some (.int .i64 N) ∧ w'.cell? ⟨W.heap.size, 1, none⟩ = some (.slice A l c))) (Sb := (fun w' => w'.cell? ⟨W.heap.size + 1, 1, none⟩ = some (.slice (some ad) k0 d))) 10 9 (by kernel_rfl) (by decide) ?_
        have hSa := (show (fun w' => w'.cell? ⟨W.heap.size, 0, none⟩ = some (.int .i64 N) ∧ w'.cell? ⟨W.heap.size, 1, none⟩ = some (.slice A l c)) (World.drew ((W.alloc (.cells #[.int .i64 N, .slice A l c] 24)).alloc (.cells #[.int .i64 n, .slice (some ad) k0 d] 40))) from ⟨r0, r1⟩)
        have hSb := (show (fun w' => w'.cell? ⟨W.heap.size + 1, 1, none⟩ = some (.slice (some ad) k0 d)) (World.drew ((W.alloc (.cells #[.int .i64 N, .slice A l c] 24)).alloc (.cells #[.int .i64 n, .slice (some ad) k0 d] 40))) from t1)
        refine headG_take (i := 0) (v := ?_) true rfl (by kernel_rfl) (fun _ _ _ h => h) (fun _ _ _ h => passed_ready h.1) (Or.inl ⟨by rfl, ?hy19⟩) ⟨hSb, fun _ => hSa⟩ ?rest19
        case hy19 => intro w hSw; obtain ⟨sw2, sw1⟩ := hSw; (try dsimp only at sw2); obtain ⟨sa0, sa1⟩ := sw1 rfl; go_simp; try (with_reducible rfl)
        case rest19 =>
        try simp only [Act.put, List.setIfInBounds_toArray, List.set_cons_zero, List.set_cons_succ]
        refine headG_take (i := 2) (v := ?_) false rfl (by kernel_rfl) (fun _ _ _ h => h) (fun _ _ _ h => passed_ready h.1) (Or.inl ⟨by rfl, ?hy20⟩) ⟨hSb, fun _ => hSa⟩ ?rest20
        case hy20 => intro w hSw; obtain ⟨sw2, sw1⟩ := hSw; (try dsimp only at sw2); clear sw1; go_simp; try (with_reducible rfl)
        case rest20 =>
        try simp only [Act.put, List.setIfInBounds_toArray, List.set_cons_zero, List.set_cons_succ]
        refine headG_take (i := 3) (v := ?_) false rfl (by kernel_rfl) (fun _ _ _ h => h) (fun _ _ _ h => passed_ready h.1) (Or.inl ⟨by rfl, ?hy21⟩) ⟨hSb, fun _ => hSa⟩ ?rest21
        case hy21 => intro w hSw; obtain ⟨sw2, sw1⟩ := hSw; (try dsimp only at sw2); clear sw1; go_simp; try (with_reducible rfl)
        case rest21 =>
        try simp only [Act.put, List.setIfInBounds_toArray, List.set_cons_zero, List.set_cons_succ]
        refine headG_take (i := 4) (v := ?_) false rfl (by kernel_rfl) (fun _ _ _ h => h) (fun _ _ _ h => passed_ready h.1) (Or.inl ⟨by rfl, ?hy22⟩) ⟨hSb, fun _ => hSa⟩ ?rest22
        case hy22 => intro w hSw; obtain ⟨sw2, sw1⟩ := hSw; (try dsimp only at sw2); clear sw1; go_simp; try (with_reducible rfl)
        case rest22 =>
        try simp only [Act.put, List.setIfInBounds_toArray, List.set_cons_zero, List.set_cons_succ]
        refine headG_take (i := 5) (v := ?_) false rfl (by kernel_rfl) (fun _ _ _ h => h) (fun _ _ _ h => passed_ready h.1) (Or.inl ⟨by rfl, ?hy23⟩) ⟨hSb, fun _ => hSa⟩ ?rest23
        case hy23 => intro w hSw; obtain ⟨sw2, sw1⟩ := hSw; (try dsimp only at sw2); clear sw1; go_simp; try (with_reducible rfl)
        case rest23 =>
        try simp only [Act.put, List.setIfInBounds_toArray, List.set_cons_zero, List.set_cons_succ]
        refine headG_take (i := 6) (v := ?_) false rfl (by kernel_rfl) (fun _ _ _ h => h) (fun _ _ _ h => passed_ready h.1) (Or.inl ⟨by rfl, ?hy24⟩) ⟨hSb, fun _ => hSa⟩ ?rest24
        case hy24 => intro w hSw; obtain ⟨sw2, sw1⟩ := hSw; (try dsimp only at sw2); clear sw1; go_simp; try (with_reducible rfl)
        case rest24 =>
        try simp only [Act.put, List.setIfInBounds_toArray, List.set_cons_zero, List.set_cons_succ]
        refine headG_take (i := 7) (v := ?_) false rfl (by kernel_rfl) (fun _ _ _ h => h) (fun _ _ _ h => passed_ready h.1) (Or.inl ⟨by rfl, ?hy25⟩) ⟨hSb, fun _ => hSa⟩ ?rest25
        case hy25 => intro w hSw; obtain ⟨sw2, sw1⟩ := hSw; (try dsimp only at sw2); clear sw1; go_simp; try (with_reducible rfl)
        case rest25 =>
        try simp only [Act.put, List.setIfInBounds_toArray, List.set_cons_zero, List.set_cons_succ]
        refine headG_take (i := 8) (v := ?_) false rfl (by kernel_rfl) (fun _ _ _ h => h) (fun _ _ _ h => passed_ready h.1) (Or.inl ⟨by rfl, ?hy26⟩) ⟨hSb, fun _ => hSa⟩ ?rest26
        case hy26 => intro w hSw; obtain ⟨sw2, sw1⟩ := hSw; (try dsimp only at sw2); clear sw1; go_simp; try (with_reducible rfl)
        case rest26 =>
        try simp only [Act.put, List.setIfInBounds_toArray, List.set_cons_zero, List.set_cons_succ]
        refine headG_one (i := 1) (by kernel_rfl) rfl (fun K hK => ?_)
        go_simp
        refine HF.out.mono ?_
        rintro e1 x1 ⟨A1, c1, rfl, q1, hb⟩
        have P0 := Lib.hid (Q0.out.drew.keep hb)
        have P1 := Lib.hid (Q1.out.drew.keep hb)
        have PB := Lib.hid (chain HB.out.drew hb)
        have PU := Lib.hid (HU.out.drew.below hb)
        have PM := Lib.hid q1
        clear hb q1 hSa hSb
        obtain ⟨u0, u1, u2, u3⟩ := P0.out.two
        obtain ⟨v0, v1, v2, v3⟩ := P1.out.two
        have hSa := (show (fun w' => w'.cell? ⟨W.heap.size, 0, none⟩ = some (.int .i64 N) ∧ w'.cell? ⟨W.heap.size, 1, none⟩ = some (.slice A l c)) x1 from ⟨u0, u1⟩)
        have hSb := (show (fun w' => w'.cell? ⟨W.heap.size + 1, 1, none⟩ = some (.slice (some ad) k0 d)) x1 from v1)
        refine hK.out _ _ ⟨hSb, fun _ => hSa⟩ ?_
        clear hK K
        try simp only [Act.put, List.setIfInBounds_toArray, List.set_cons_zero, List.set_cons_succ]
        refine headG_one (i := 9) (by kernel_rfl) rfl (fun K hK => ?_)
        go_simp
        refine hK.out _ _ ⟨((P1.out.far (p := ⟨W.heap.size, 0, none⟩) (by simp) (.int .i64 N)).far (p := ⟨W.heap.size, 1, none⟩) (by simp) (.slice A1 fs.length c1)).cell 1, fun h => Bool.noConfusion (show true = false from h)⟩ ?_
        clear hK K
        refine ⟨by kernel_rfl, ?_⟩
        refine wpAny_take (i := 10) (v := ?_) rfl (by kernel_rfl) (by kernel_rfl) (by kernel_rfl) (fun _ _ _ h => h) (Or.inl ⟨by rfl, ?hy27⟩) ?rest27
        case hy27 => intro w; go_simp; try (with_reducible rfl)
        case rest27 =>
        try simp only [Act.put, List.setIfInBounds_toArray, List.set_cons_zero, List.set_cons_succ]
        refine wpAny_ready (rs := [11]) (by kernel_rfl) (by simp) ?_
        refine AllReady.cons rfl (fun K hK => ?_) AllReady.nil
        go_simp
        refine hK _ _ ?_
        clear hK K
        refine wpAny_done (by kernel_rfl) ?_ _
        go_wp2_with fail
        go_meet
        obtain ⟨e1, e2, e3, e4, e5⟩ := cut_two (A1 := A1) (c1 := c1) (k1 := 10) P0.out P1.out (by simp) PM.out (by simp <;> omega) (by simp <;> omega) (PU.out.take 10 (by omega)) PB.out (Nat.le_refl _) (by simp)
        exact ⟨A1, c1, 10, e1, e2, e3, e4, ⟨by omega, by unfold maxLen; omega, fun h => by cases h⟩, e5⟩
  case rest =>
    obtain ⟨A1, c1, k1, hq0, hq1, hm, hu, hs, hb⟩ := hcut
    clear HF HS1 HU Q0 Q1 HB r0 r1 t0 t1
    have Q0 := Lib.hid hq0
    have Q1 := Lib.hid hq1
    have HM := Lib.hid hm
    have HU := Lib.hid hu
    have HS := Lib.hid hs
    have HB := Lib.hid hb
    have HRt := Lib.hid (fun w' (h : MatAt w' 0 A1 fs.length fs) => refRightM_any N A1 fs.length c1 0 fs w' h (by unfold maxLen; omega))
    have HRr := Lib.hid (fun w' (h : Words w' Bw k1 (us.take 10)) => refRight_any n Bw k1 d (us.take 10) w' h)
    generalize us.take 10 = vs at *
    clear hq0 hq1 hm hu hs hb
    obtain ⟨r0, r1, -, -⟩ := Q0.out.two
    obtain ⟨t0, t1, -, -⟩ := Q1.out.two
    cases hr : rightM N fs with
    | false =>
      rw [hr] at HRt
      have HSp := Lib.hid (spans_argM N n A1 Bw fs.length c1 k1 d 0 fs _ HM.out (by unfold maxLen; omega) hr)
      clear hr
      go_wp2_with fail
      refine (HSp.out).mono ?_
      rintro e x11 ⟨rfl, hb⟩
      clear r0 r1 t0 t1
      have Q0 := Lib.hid (Q0.out.keep hb)
      have Q1 := Lib.hid (Q1.out.keep hb)
      have HM := Lib.hid (HM.out.below hb)
      have HU := Lib.hid (HU.out.below hb)
      have HB := Lib.hid (chain HB.out hb)
      clear hb
      obtain ⟨r0, r1, -, -⟩ := Q0.out.two
      obtain ⟨t0, t1, -, -⟩ := Q1.out.two
      go_wp2_with fail
      refine (HRt.out _ HM.out).mono ?_
      rintro e x12 ⟨rfl, hb⟩
      clear r0 r1 t0 t1
      have Q0 := Lib.hid (Q0.out.keep hb)
      have Q1 := Lib.hid (Q1.out.keep hb)
      have HM := Lib.hid (HM.out.below hb)
      have HU := Lib.hid (HU.out.below hb)
      have HB := Lib.hid (chain HB.out hb)
      clear hb
      obtain ⟨r0, r1, -, -⟩ := Q0.out.two
      obtain ⟨t0, t1, -, -⟩ := Q1.out.two
      go_wp2_with fail
      refine (alive4_any _).mono ?_
      rintro e x13 ⟨rfl, hb⟩
      clear r0 r1 t0 t1
      have Q0 := Lib.hid (Q0.out.keep hb)
      have Q1 := Lib.hid (Q1.out.keep hb)
      have HM := Lib.hid (HM.out.below hb)
      have HU := Lib.hid (HU.out.below hb)
      have HB := Lib.hid (chain HB.out hb)
      clear hb
      obtain ⟨r0, r1, -, -⟩ := Q0.out.two
      obtain ⟨t0, t1, -, -⟩ := Q1.out.two
      go_wp2_with fail
      go_ret
      exact ⟨by simp, HB.out⟩
    | true =>
      rw [hr] at HRt
      obtain ⟨a, L, rfl, hn, hL64, rfl, hL⟩ := mat_num hr (fun i j => HM.out.lt i j)
      rw [mkM_len] at *
      cases hrr : rightB n vs with
      | false =>
        rw [hrr] at HRr
        have HSp := Lib.hid (spans_argR a hn L hL hL64 A1 c1 0 n Bw k1 d vs _ HM.out hr HU.out hrr)
        clear hr hrr hL
        go_wp2_with fail
        refine (HSp.out).mono ?_
        rintro e x11 ⟨rfl, hb⟩
        clear r0 r1 t0 t1
        have Q0 := Lib.hid (Q0.out.keep hb)
        have Q1 := Lib.hid (Q1.out.keep hb)
        have HM := Lib.hid (HM.out.below hb)
        have HU := Lib.hid (HU.out.below hb)
        have HB := Lib.hid (chain HB.out hb)
        clear hb
        obtain ⟨r0, r1, -, -⟩ := Q0.out.two
        obtain ⟨t0, t1, -, -⟩ := Q1.out.two
        go_wp2_with fail
        refine (HRt.out _ HM.out).mono ?_
        rintro e x12 ⟨rfl, hb⟩
        clear r0 r1 t0 t1
        have Q0 := Lib.hid (Q0.out.keep hb)
        have Q1 := Lib.hid (Q1.out.keep hb)
        have HM := Lib.hid (HM.out.below hb)
        have HU := Lib.hid (HU.out.below hb)
        have HB := Lib.hid (chain HB.out hb)
        clear hb
        obtain ⟨r0, r1, -, -⟩ := Q0.out.two
        obtain ⟨t0, t1, -, -⟩ := Q1.out.two
        go_wp2_with fail
        refine (HRr.out _ HU.out).mono ?_
        rintro e x13 ⟨rfl, hb⟩
        clear r0 r1 t0 t1
        have Q0 := Lib.hid (Q0.out.keep hb)
        have Q1 := Lib.hid (Q1.out.keep hb)
        have HM := Lib.hid (HM.out.below hb)
        have HU := Lib.hid (HU.out.below hb)
        have HB := Lib.hid (chain HB.out hb)
        clear hb
        obtain ⟨r0, r1, -, -⟩ := Q0.out.two
        obtain ⟨t0, t1, -, -⟩ := Q1.out.two
        go_wp2_with fail
        refine (alive4_any _).mono ?_
        rintro e x14 ⟨rfl, hb⟩
        clear r0 r1 t0 t1
        have Q0 := Lib.hid (Q0.out.keep hb)
        have Q1 := Lib.hid (Q1.out.keep hb)
        have HM := Lib.hid (HM.out.below hb)
        have HU := Lib.hid (HU.out.below hb)
        have HB := Lib.hid (chain HB.out hb)
        clear hb
        obtain ⟨r0, r1, -, -⟩ := Q0.out.two
        obtain ⟨t0, t1, -, -⟩ := Q1.out.two
        go_wp2_with fail
        go_ret
        exact ⟨by simp, HB.out⟩
      | true =>
        rw [hrr] at HRr
        cases hne : (n == (a : Int)) with
        | false =>
          have HSp := Lib.hid (spans_size a hn L hL hL64 A1 c1 0 n Bw k1 d vs _ HM.out hr HU.out hrr hne)
          have HN1 := Lib.hid hne
          have HN2 := Lib.hid (show (n != (a : Int)) = true by simp [bne, hne])
          clear hr hrr hL hne
          go_wp2_with fail
          refine (HSp.out).mono ?_
          rintro e x11 ⟨rfl, hb⟩
          clear r0 r1 t0 t1
          have Q0 := Lib.hid (Q0.out.keep hb)
          have Q1 := Lib.hid (Q1.out.keep hb)
          have HM := Lib.hid (HM.out.below hb)
          have HU := Lib.hid (HU.out.below hb)
          have HB := Lib.hid (chain HB.out hb)
          clear hb
          obtain ⟨r0, r1, -, -⟩ := Q0.out.two
          obtain ⟨t0, t1, -, -⟩ := Q1.out.two
          go_wp2_with fail
          refine (HRt.out _ HM.out).mono ?_
          rintro e x12 ⟨rfl, hb⟩
          clear r0 r1 t0 t1
          have Q0 := Lib.hid (Q0.out.keep hb)
          have Q1 := Lib.hid (Q1.out.keep hb)
          have HM := Lib.hid (HM.out.below hb)
          have HU := Lib.hid (HU.out.below hb)
          have HB := Lib.hid (chain HB.out hb)
          clear hb
          obtain ⟨r0, r1, -, -⟩ := Q0.out.two
          obtain ⟨t0, t1, -, -⟩ := Q1.out.two
          go_wp2_with fail
          refine (HRr.out _ HU.out).mono ?_
          rintro e x13 ⟨rfl, hb⟩
          clear r0 r1 t0 t1
          have Q0 := Lib.hid (Q0.out.keep hb)
          have Q1 := Lib.hid (Q1.out.keep hb)
          have HM := Lib.hid (HM.out.below hb)
          have HU := Lib.hid (HU.out.below hb)
          have HB := Lib.hid (chain HB.out hb)
          clear hb
          have hn1 := HN1.out
          have hn2 := HN2.out
          obtain ⟨r0, r1, -, -⟩ := Q0.out.two
          obtain ⟨t0, t1, -, -⟩ := Q1.out.two
          go_wp2_with fail
          refine (alive4_any _).mono ?_
          rintro e x14 ⟨rfl, hb⟩
          clear r0 r1 t0 t1
          have Q0 := Lib.hid (Q0.out.keep hb)
          have Q1 := Lib.hid (Q1.out.keep hb)
          have HM := Lib.hid (HM.out.below hb)
          have HU := Lib.hid (HU.out.below hb)
          have HB := Lib.hid (chain HB.out hb)
          clear hb
          obtain ⟨r0, r1, -, -⟩ := Q0.out.two
          obtain ⟨t0, t1, -, -⟩ := Q1.out.two
          go_wp2_with fail
          go_ret
          exact ⟨by simp, HB.out⟩
        | true =>
          obtain rfl : n = (a : Int) := by simpa using hne
          obtain ⟨y, rfl, hy⟩ : ∃ y, vs = rowOf a y ∧ y < 2 ^ a := ⟨_, row_of hrr HU.out.2.1⟩
          have HSp := Lib.hid (spans_yes a hn L hL hL64 A1 c1 0 y hy Bw k1 d _ HM.out hr HU.out HS.out)
          have HRS := Lib.hid (fun w' (h1 : MatAt w' 0 A1 L.length (mkM a L)) (h2 : Words w' Bw k1 (rowOf a y)) => refSpans_any a (by omega) L hL (by omega) A1 c1 0 y hy Bw k1 d w' h1 h2 HS.out)
          have hn1 : ((a : Int) != (a : Int)) = false := by simp
          clear hr hrr hL hne hy
          go_wp2_with fail
          refine (HSp.out).mono ?_
          rintro e x11 ⟨b, hbs, rfl, hb⟩
          clear r0 r1 t0 t1
          have Q0 := Lib.hid (Q0.out.keep hb)
          have Q1 := Lib.hid (Q1.out.keep hb)
          have HM := Lib.hid (HM.out.below hb)
          have HU := Lib.hid (HU.out.below hb)
          have HB := Lib.hid (chain HB.out hb)
          clear hb
          have HBs := Lib.hid hbs
          clear hbs
          obtain ⟨r0, r1, -, -⟩ := Q0.out.two
          obtain ⟨t0, t1, -, -⟩ := Q1.out.two
          go_wp2_with fail
          refine (HRt.out _ HM.out).mono ?_
          rintro e x12 ⟨rfl, hb⟩
          clear r0 r1 t0 t1
          have Q0 := Lib.hid (Q0.out.keep hb)
          have Q1 := Lib.hid (Q1.out.keep hb)
          have HM := Lib.hid (HM.out.below hb)
          have HU := Lib.hid (HU.out.below hb)
          have HB := Lib.hid (chain HB.out hb)
          clear hb
          obtain ⟨r0, r1, -, -⟩ := Q0.out.two
          obtain ⟨t0, t1, -, -⟩ := Q1.out.two
          go_wp2_with fail
          refine (HRr.out _ HU.out).mono ?_
          rintro e x13 ⟨rfl, hb⟩
          clear r0 r1 t0 t1
          have Q0 := Lib.hid (Q0.out.keep hb)
          have Q1 := Lib.hid (Q1.out.keep hb)
          have HM := Lib.hid (HM.out.below hb)
          have HU := Lib.hid (HU.out.below hb)
          have HB := Lib.hid (chain HB.out hb)
          clear hb
          obtain ⟨r0, r1, -, -⟩ := Q0.out.two
          obtain ⟨t0, t1, -, -⟩ := Q1.out.two
          go_wp2_with fail
          refine (alive4_any _).mono ?_
          rintro e x14 ⟨rfl, hb⟩
          clear r0 r1 t0 t1
          have Q0 := Lib.hid (Q0.out.keep hb)
          have Q1 := Lib.hid (Q1.out.keep hb)
          have HM := Lib.hid (HM.out.below hb)
          have HU := Lib.hid (HU.out.below hb)
          have HB := Lib.hid (chain HB.out hb)
          clear hb
          obtain ⟨r0, r1, -, -⟩ := Q0.out.two
          obtain ⟨t0, t1, -, -⟩ := Q1.out.two
          go_wp2_with fail
          refine (HRS.out _ HM.out HU.out).mono ?_
          rintro e x15 ⟨b2, hb2, rfl, hb⟩
          clear r0 r1 t0 t1
          have Q0 := Lib.hid (Q0.out.keep hb)
          have Q1 := Lib.hid (Q1.out.keep hb)
          have HM := Lib.hid (HM.out.below hb)
          have HU := Lib.hid (HU.out.below hb)
          have HB := Lib.hid (chain HB.out hb)
          clear hb
          obtain rfl : b = b2 := by
            rw [Bool.eq_iff_iff]; exact HBs.out.trans hb2.symm
          clear hb2
          obtain ⟨r0, r1, -, -⟩ := Q0.out.two
          obtain ⟨t0, t1, -, -⟩ := Q1.out.two
          go_wp2_with fail
          go_ret
          exact ⟨by simp, HB.out⟩
end
section
/- How a row (a struct with a slice of words) and a slice of ints that came in are opened. -/
set_option linter.unusedVariables false
set_option linter.unusedSimpArgs false
open Go.RowKit Go.Joins Go.ChangeShapes Go.WideShapes
theorem cellsRow : Try.prog.cellsOf 40 = 2 := by kernel_rfl
set_option maxRecDepth 100000 in
theorem open_row {H : Type} {enc : TypeId × Value → H} {W : World} {r : Reach} {b0 : Nat} {v : Value} {d : DataW H} {p : List MemPlace}
    (hv : Value.okWide Try.prog W r b0 40 v) (h : DataW.Trod enc Try.prog W 0 (fun _ => true) true 40 v d p) :
    ∃ n A l c us, v = .agg #[.int .i64 n, .slice A l c] ∧ (Lit.int .i64 n).wf = true ∧ SliceOk A l c ∧ Words W A l us := by
  obtain ⟨c0, c1, y0, y1, m, rfl, rfl, rfl, hy0, hy1⟩ := open_agg2 Try.underlying40 (by kernel_rfl) cellsRow hv h
  obtain ⟨a, e0, -, wa⟩ := DataW.trod_int Try.underlying3 hy0
  obtain ⟨A, l, c, us, e1, hs, hw⟩ := open_words hy1
  simp at e0 e1
  subst e0 e1
  exact ⟨a, A, l, c, us, rfl, wa, hs, hw⟩
end
end Go.Proofs.Ytdfmogcgangdnaa
