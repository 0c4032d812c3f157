/- Layer 22: clientMayBe: whether one client's events may be. -/
import Derived.Test.YtmbmmfdobkbbfaaHi2
import Derived.Test.YtmbmmfdobkbbfaaSetL
namespace Go.Proofs.Ytmbmmfdobkbbfaa
set_option linter.unusedVariables false
set_option linter.unusedSimpArgs false
open Go.RowKit Go.Shelf
attribute [local go_sem] Oper.semAt_some
set_option maxRecDepth 100000
abbrev evAt (h : List EvR) (j : Nat) : EvR := h.getD j default
def zeroC : CallR := (0, 0, 0, 0, 0, 0, ⟨#[]⟩)
/-- The call of the last of some events; the empty one, if there is none. -/
def callOf (h : List EvR) (pre : List Nat) : CallR := match pre.getLast? with | none => zeroC | some j => (evAt h j).call
def stepOk (h : List EvR) (pre : List Nat) (x : Nat) : Bool :=
  (evAt h x).b == ((pre.length % 2 : Nat) : Int) && (evAt h x).n == ((pre.length / 2 : Nat) : Int) && (!((evAt h x).b == 1) || decide ((evAt h x).call = callOf h pre))
/-- May events, in this order, be one client's? -/
def okL (h : List EvR) (ys : List Nat) : Bool := (List.range ys.length).all fun i => stepOk h (ys.take i) (ys.getD i 0)
theorem okL_snoc (h : List EvR) (pre : List Nat) (x : Nat) : okL h (pre ++ [x]) = (okL h pre && stepOk h pre x) := by
  unfold okL
  rw [List.length_append, List.length_cons, List.length_nil, List.range_succ, List.all_append]
  congr 1
  · rw [Bool.eq_iff_iff]
    simp only [List.all_eq_true, List.mem_range]
    constructor
    · intro hh i hi
      have := hh i hi
      rw [List.take_append_of_le_length (by omega)] at this
      simpa [List.getD, List.getElem?_append_left hi] using this
    · intro hh i hi
      have := hh i hi
      rw [List.take_append_of_le_length (by omega)]
      simpa [List.getD, List.getElem?_append_left hi] using this
  · simp [List.getD]
theorem okL_prefix (h : List EvR) {pre ys : List Nat} (hp : pre <+: ys) (hf : okL h pre = false) : okL h ys = false := by
  obtain ⟨t, rfl⟩ := hp
  cases hh : okL h (pre ++ t) with
  | false => rfl
  | true =>
    have : okL h pre = true := by
      unfold okL at hh ⊢
      simp only [List.all_eq_true, List.mem_range] at hh ⊢
      intro i hi
      have := hh i (by simp; omega)
      rw [List.take_append_of_le_length (by omega)] at this
      simpa [List.getD, List.getElem?_append_left hi] using this
    rw [this] at hf; cases hf
theorem okL_nil (h : List EvR) : okL h [] = true := rfl
theorem callOf_snoc (h : List EvR) (pre : List Nat) (x : Nat) : callOf h (pre ++ [x]) = (evAt h x).call := by unfold callOf; rw [List.getLast?_concat]
abbrev callA (c : CallR) : Array Value := #[.int .i64 c.1, .int .u64 (c.2.1 : Nat), .int .i64 c.2.2.1, .int .i64 c.2.2.2.1, .int .i64 c.2.2.2.2.1, .int .u64 (c.2.2.2.2.2.1 : Nat), .string c.2.2.2.2.2.2]
theorem callA_neq (p q : CallR) (w : World) : (binOp .neq 36 (.agg (callA p)) (.agg (callA q))).run Try.prog w = .ok (.bool (!decide (p = q))) w := call_neq p q w
/-- The three boxes of clientMayBe. -/
abbrev cmW (w : World) : World := ((w.alloc (.cells #[.bool false] 4)).alloc (.cells #[.int .i64 0] 3)).alloc (.cells (callA zeroC) 36)
theorem cmW_three (w : World) : Box (cmW w) w.heap.size 4 #[.bool false] ∧ Box (cmW w) (w.heap.size + 1) 3 #[.int .i64 0] ∧ Box (cmW w) (w.heap.size + 2) 36 (callA zeroC) ∧ Below w.heap.size w (cmW w) ∧ (cmW w).heap.size = w.heap.size + 3 := by
  refine ⟨((Box.new w _ _).alloc _).alloc _, ?_, ?_, (((Below.refl _ _).alloc (Nat.le_refl _) _).alloc (by simp) _).alloc (by simp; omega) _, by simp⟩
  · have q := (Box.new (w.alloc (.cells #[.bool false] 4)) 3 #[.int .i64 0]).alloc (.cells (callA zeroC) 36)
    simpa only [World.size_alloc] using q
  · have q := Box.new ((w.alloc (.cells #[.bool false] 4)).alloc (.cells #[.int .i64 0] 3)) 36 (callA zeroC)
    simpa only [World.size_alloc] using q
set_option maxHeartbeats 4000000 in
theorem client_in (A : Option Addr) (len cp : Nat) (c : Int) (h : List EvR) (hlm : len ≤ 1000000) (w : World) (hH : Evs w A len h) :
    CallsIn Fence.wide 5 Try.prog 22 #[.slice A len cp, .int .i64 c] w fun e w' => e = .returned (.bool (okL h (ixs h c 0 len))) ∧ Below w.heap.size w w' := by
  obtain ⟨p0, p1, p2, pb, psz⟩ := cmW_three w
  have HLt := Lib.hid (show ∀ b off, 0 < len → A = some ⟨b, off, none⟩ → b < w.heap.size from fun b off hl e => by
    obtain ⟨b', off', e', hlt, _⟩ := hH.recs.2 hl
    rw [e] at e'; injection e' with e'; injection e' with e1 _; omega)
  have HH := Lib.hid (hH.below pb)
  have HP := Lib.hid (And.intro p0 (And.intro p1 (And.intro p2 (And.intro pb psz))))
  clear p0 p1 p2 pb psz hH
  refine callsIn_of_wp_marks Try.func22 rfl trivial ?_ rfl
  simp only [Try.ntmps22, List.size_toArray, List.length_cons, List.length_nil, Nat.reduceAdd, Nat.reduceSub, Array.replicate_succ, Array.replicate_zero, List.push_toArray, List.append_toArray, List.nil_append, List.cons_append]
  gi_wp2
  refine ⟨trivial, (callsIn_wide.2 (eventsOf_any c 0 A len cp _)).mono ?_⟩
  rintro e w1 ⟨B0, rfl, b1, b2, b3, hge, hb⟩
  have hsz : (cmW w).heap.size = w.heap.size + 3 := HP.out.2.2.2.2
  have hge' : w.heap.size + 3 ≤ B0 := hsz ▸ hge
  have l1 := b1.lt
  have q0 : Box w1 w.heap.size 4 #[.bool false] := HP.out.1.keep hb
  have q1 : Box w1 (w.heap.size + 1) 3 #[.int .i64 0] := HP.out.2.1.keep hb
  have q2 : Box w1 (w.heap.size + 2) 36 (callA zeroC) := HP.out.2.2.1.keep hb
  have hB0 : Below w.heap.size w w1 := chain HP.out.2.2.2.1 hb
  have hH1 := HH.out.below hb
  clear hb hge HP HH
  gi_wp2
  refine wpIn_rangeFunc_ownH rfl (by omega) (gf := 27) rfl trivial (enters_of Try.func27 (by kernel_rfl) rfl)
    (events_stops (5 - 1) (by omega) B0 c 0 A len cp h (Nat.zero_le _) hlm (fun b => b < w1.heap.size ∧ b ≠ w.heap.size ∧ b ≠ w.heap.size + 1 ∧ b ≠ w.heap.size + 2) ⟨by omega, by omega, by omega, by omega⟩ ⟨by omega, by omega, by omega, by omega⟩ ⟨by omega, by omega, by omega, by omega⟩ (fun b off hl e => by have := HLt.out b off hl e; omega) w1 b1 b2 b3 hH1) KpS.trans (kpS_put (fun b h => h.1)) (Below.refl _ _) (fun _ => rfl)
    (fun pre W => (Box W w.heap.size 4 #[.bool false] ∧ Box W (w.heap.size + 1) 3 #[.int .i64 (pre.length : Nat)] ∧ Box W (w.heap.size + 2) 36 (callA (callOf h pre)) ∧ okL h pre = true) ∧ Below w.heap.size w W ∧ w1.heap.size ≤ W.heap.size)
    (fun cd pre W => (cd = .ret ∧ Box W w.heap.size 4 #[.bool false] ∧ okL h pre = false) ∧ Below w.heap.size w W ∧ w1.heap.size ≤ W.heap.size)
    ?hI ?hIx ⟨⟨q0, q1, q2, rfl⟩, hB0, Nat.le_refl _⟩
    (fun x a' W => ∃ g, w1.heap.size ≤ g ∧ Box W g 53 (evA (evAt h x)) ∧ a' = { tmps := #[Value.slice A len cp, Value.int IntKind.i64 c, undef, undef, Value.pointer (some { block := w.heap.size, off := 0 }), Value.pointer (some { block := w.heap.size + 1, off := 0 }), Value.pointer (some { block := w.heap.size + 2, off := 0 }), undef, Value.pointer (some { block := g, off := 0 }), Value.slice A len cp, Value.int IntKind.i64 c, Value.func (Fn.func 27) #[] #[Value.pointer (some { block := B0 + 2, off := 0 }), Value.pointer (some { block := B0, off := 0 }), Value.pointer (some { block := B0 + 1, off := 0 })], .int .i64 (x : Int), .agg (evA (evAt h x)), undef, undef, undef, undef, undef, undef, undef, undef, undef, undef, undef, undef, undef, undef, undef, undef, undef, undef, undef, undef, undef, undef, undef, undef, undef], defers := [] }) ?hAx ?assign ?body ?done ?stop
  case hI =>
    refine OwnFrom.and ?_ (OwnFrom.and (ownFrom_below (Nat.le_refl _) (by omega)) (fun _ _ _ _ hs hg _ => Nat.le_trans hs hg.size))
    exact OwnFrom.and (Own.from (box_own w.heap.size 4 (fun _ : List Nat => #[.bool false])) _) (OwnFrom.and (Own.from (box_own (w.heap.size + 1) 3 (fun pre : List Nat => #[.int .i64 (pre.length : Nat)])) _) (OwnFrom.and (Own.from (box_own (w.heap.size + 2) 36 (fun pre : List Nat => callA (callOf h pre))) _) (fun _ _ _ _ hs _ _ => hs)))
  case hIx =>
    intro cd
    refine OwnFrom.and ?_ (OwnFrom.and (ownFrom_below (Nat.le_refl _) (by omega)) (fun _ _ _ _ hs hg _ => Nat.le_trans hs hg.size))
    exact OwnFrom.and (fun _ _ _ _ hs _ _ => hs) (OwnFrom.and (Own.from (box_own w.heap.size 4 (fun _ : List Nat => #[.bool false])) _) (fun _ _ _ _ hs _ _ => hs))
  case hAx =>
    rintro x a' s W W' row ⟨g, h1, h2, h3⟩ hg hr
    exact ⟨g, h1, Own.from (box_own g 53 (fun _ : Unit => evA (evAt h x))) _ s W W' row h2 hg hr, h3⟩
  case assign =>
    rintro l pre x W K ⟨⟨h0, h1, h2, hok⟩, hB, hs⟩ hK
    gi_wp2
    have hal : Below W.heap.size W (W.alloc (.cells (evA (evAt h x)) 53)) := (Below.refl _ _).alloc (Nat.le_refl _) _
    refine hK _ _ ⟨by simp, fun k o hk ho _ => (Below.heap_alloc _ _ _ (Array.getElem?_eq_some_iff.1 ho).1).trans ho⟩ (fun b hb => Below.heap_alloc _ _ _ (by have := hb.1; omega)) ⟨⟨h0.keep hal, h1.keep hal, h2.keep hal, hok⟩, chain hB hal, by simp; omega⟩ ⟨W.heap.size, hs, Box.new _ _ _, rfl⟩
  case body =>
    rintro l pre x a' W hl hr ⟨⟨h0, h1, h2, hok⟩, hB, hs⟩ ⟨g, hg, hbx, rfl⟩ hlt
    have HX := Lib.hid (show okL h (pre ++ [x]) = stepOk h pre x by rw [okL_snoc, hok]; rfl)
    have HC := Lib.hid (callOf_snoc h pre x)
    have HB := Lib.hid hB
    have HL := Lib.hid (show (pre ++ [x]).length = pre.length + 1 by simp)
    have HS := Lib.hid (show stepOk h pre x = ((evAt h x).b == ((pre.length % 2 : Nat) : Int) && (evAt h x).n == ((pre.length / 2 : Nat) : Int) && (!((evAt h x).b == 1) || decide ((evAt h x).call = callOf h pre))) from rfl)
    have f2 : ((pre.length : Nat) : Int).tmod 2 = ((pre.length % 2 : Nat) : Int) := by rw [Int.tmod_eq_emod_of_nonneg (by omega)]; omega
    have f3 : ((pre.length : Nat) : Int).tdiv 2 = ((pre.length / 2 : Nat) : Int) := by rw [Int.tdiv_eq_ediv_of_nonneg (by omega)]; omega
    have f4 : ((pre.length : Nat) : Int) % 2 = ((pre.length % 2 : Nat) : Int) := by omega
    have f5 : ((pre.length : Nat) : Int) / 2 = ((pre.length / 2 : Nat) : Int) := by omega
    have hm : ((pre.length : Nat) : Int) < 1000000 := by omega
    have hm0 : (0 : Int) ≤ ((pre.length : Nat) : Int) := by omega
    have H0 := Lib.hid h0
    have H1 := Lib.hid h1
    have H2 := Lib.hid h2
    generalize evAt h x = e at *
    generalize callOf h pre = q at *
    generalize stepOk h pre x = st at *
    generalize ((pre.length % 2 : Nat) : Int) = m2 at *
    generalize ((pre.length / 2 : Nat) : Int) = mq at *
    generalize pre.length = m at *
    have hne : ∀ w, (binOp .neq 36 (.agg #[.int .i64 e.call.1, .int .u64 (e.call.2.1 : Nat), .int .i64 e.call.2.2.1, .int .i64 e.call.2.2.2.1, .int .i64 e.call.2.2.2.2.1, .int .u64 (e.call.2.2.2.2.2.1 : Nat), .string e.call.2.2.2.2.2.2]) (.agg #[.int .i64 q.1, .int .u64 (q.2.1 : Nat), .int .i64 q.2.2.1, .int .i64 q.2.2.2.1, .int .i64 q.2.2.2.2.1, .int .u64 (q.2.2.2.2.2.1 : Nat), .string q.2.2.2.2.2.2])).run Try.prog w = .ok (.bool (!decide (e.call = q))) w := fun w => callA_neq e.call q w
    have hgd := fun x y w => call_guard .neq e.call q x y w
    dsimp only [callL, List.toArray] at hgd
    have d1 := hbx.cell 1
    have d2 := hbx.cell 2
    have d3 := hbx.cell 3
    have d4 := hbx.cell 4
    have d5 := hbx.cell 5
    have d6 := hbx.cell 6
    have d7 := hbx.cell 7
    have d8 := hbx.cell 8
    have d9 := hbx.cell 9
    have c0 := h2.cell 0
    have c1 := h2.cell 1
    have c2 := h2.cell 2
    have c3 := h2.cell 3
    have c4 := h2.cell 4
    have c5 := h2.cell 5
    have c6 := h2.cell 6
    have n0 := h1.cell 0
    have o0 := h1.free 0
    have z0 := h0.free 0
    have z1 := h0.cell 0
    have u0 := h2.free 0
    have u1 := h2.free 1
    have u2 := h2.free 2
    have u3 := h2.free 3
    have u4 := h2.free 4
    have u5 := h2.free 5
    have u6 := h2.free 6
    simp at d1 d2 d3 d4 d5 d6 d7 d8 d9 c0 c1 c2 c3 c4 c5 c6 n0 z1
    clear hok h0 h1 h2 hB hbx hr hl hlt
    by_cases e1 : e.b = m2
    · have t1 : (e.b != m2) = false := by simp [e1]
      by_cases e2 : e.n = mq
      · have t2 : (e.n != mq) = false := by simp [e2]
        by_cases e3 : e.b = 1
        · have t3 : (e.b == 1) = true := by simp [e3]
          by_cases e4 : e.call = q
          · have t4 : (!decide (e.call = q)) = false := by simp [e4]
            have ES := Lib.hid (show st = true by rw [HS.out]; simp [e1, e2, e4])
            simp only [t4] at hne
            clear e1 e2 e3 e4 HS
            gi_wp2
            have P1 := HB.out
            refine ⟨((keeps_setL [_, _, _, _, _, _, _] W 0).trans (KeepsOthers.setCell _ _ _)).from _, fun b hb => ?_, ⟨⟨?_, ?_, ?_, ?_⟩, ?_, ?_⟩⟩
            · exact (heap_setCell_other _ ⟨w.heap.size + 1, 0, none⟩ b _ (fun e => hb.2.2.1 e)).trans (heap_setL (g := w.heap.size + 2) hb.2.2.2 [_, _, _, _, _, _, _] W 0)
            · exact (H0.out.farL (g' := w.heap.size + 2) (by omega) [_, _, _, _, _, _, _] 0).far (p := ⟨w.heap.size + 1, 0, none⟩) (by show w.heap.size ≠ w.heap.size + 1; omega) _
            · rw [HL.out]; exact (H1.out.farL (g' := w.heap.size + 2) (by omega) [_, _, _, _, _, _, _] 0).put 0 _
            · rw [HC.out]; exact (H2.out.putL [_, _, _, _, _, _, _] 0).far (p := ⟨w.heap.size + 1, 0, none⟩) (by show w.heap.size + 2 ≠ w.heap.size + 1; omega) _
            · rw [HX.out]; exact ES.out
            · exact (below_setL (g := w.heap.size + 2) (by omega) [_, _, _, _, _, _, _] 0 HB.out).setCell (p := ⟨w.heap.size + 1, 0, none⟩) (by show w.heap.size ≤ w.heap.size + 1; omega) _
            · exact Nat.le_trans hs ((keeps_setL [_, _, _, _, _, _, _] W 0).trans (KeepsOthers.setCell _ _ _)).size
          · have t4 : (!decide (e.call = q)) = true := by simp [e4]
            have ES := Lib.hid (show st = false by rw [HS.out]; simp [e3, e4])
            simp only [t4] at hne
            clear e1 e2 e3 e4 HS
            gi_wp2
            exact ⟨(KeepsOthers.setCell _ _ _).from _, ⟨rfl, H0.out.put 0 _, by rw [HX.out]; exact ES.out⟩, HB.out.setCell (p := ⟨w.heap.size, 0, none⟩) (Nat.le_refl _) _, Nat.le_trans hs (KeepsOthers.setCell _ _ _).size⟩
        · have t3 : (e.b == 1) = false := by simp [e3]
          have ES := Lib.hid (show st = true by rw [HS.out]; rw [show (e.b == m2) = true by simp [e1], show (e.n == mq) = true by simp [e2], t3]; rfl)
          clear e1 e2 e3 HS
          gi_wp2
          have P1 := HB.out
          refine ⟨((keeps_setL [_, _, _, _, _, _, _] W 0).trans (KeepsOthers.setCell _ _ _)).from _, fun b hb => ?_, ⟨⟨?_, ?_, ?_, ?_⟩, ?_, ?_⟩⟩
          · exact (heap_setCell_other _ ⟨w.heap.size + 1, 0, none⟩ b _ (fun e => hb.2.2.1 e)).trans (heap_setL (g := w.heap.size + 2) hb.2.2.2 [_, _, _, _, _, _, _] W 0)
          · exact (H0.out.farL (g' := w.heap.size + 2) (by omega) [_, _, _, _, _, _, _] 0).far (p := ⟨w.heap.size + 1, 0, none⟩) (by show w.heap.size ≠ w.heap.size + 1; omega) _
          · rw [HL.out]; exact (H1.out.farL (g' := w.heap.size + 2) (by omega) [_, _, _, _, _, _, _] 0).put 0 _
          · rw [HC.out]; exact (H2.out.putL [_, _, _, _, _, _, _] 0).far (p := ⟨w.heap.size + 1, 0, none⟩) (by show w.heap.size + 2 ≠ w.heap.size + 1; omega) _
          · rw [HX.out]; exact ES.out
          · exact (below_setL (g := w.heap.size + 2) (by omega) [_, _, _, _, _, _, _] 0 HB.out).setCell (p := ⟨w.heap.size + 1, 0, none⟩) (by show w.heap.size ≤ w.heap.size + 1; omega) _
          · exact Nat.le_trans hs ((keeps_setL [_, _, _, _, _, _, _] W 0).trans (KeepsOthers.setCell _ _ _)).size
      · have t2 : (e.n != mq) = true := by simp [e2]
        have ES := Lib.hid (show st = false by rw [HS.out]; simp [e2])
        clear e1 e2 HS
        gi_wp2
        exact ⟨(KeepsOthers.setCell _ _ _).from _, ⟨rfl, H0.out.put 0 _, by rw [HX.out]; exact ES.out⟩, HB.out.setCell (p := ⟨w.heap.size, 0, none⟩) (Nat.le_refl _) _, Nat.le_trans hs (KeepsOthers.setCell _ _ _).size⟩
    · have t1 : (e.b != m2) = true := by simp [e1]
      have ES := Lib.hid (show st = false by rw [HS.out]; simp [e1])
      clear e1 HS

      gi_wp2
      exact ⟨(KeepsOthers.setCell _ _ _).from _, ⟨rfl, H0.out.put 0 _, by rw [HX.out]; exact ES.out⟩, HB.out.setCell (p := ⟨w.heap.size, 0, none⟩) (Nat.le_refl _) _, Nat.le_trans hs (KeepsOthers.setCell _ _ _).size⟩
  case done =>
    rintro D ys W hD rfl ⟨⟨h0, h1, h2, hok⟩, hB, hs⟩ hK
    have HB := Lib.hid hB
    have HK := Lib.hid hK
    have HOK := Lib.hid hok
    have H0 := Lib.hid h0
    have hD0 : D ≠ w.heap.size := by omega
    have z0 := h0.free 0
    have n0 := h0.cell 0
    simp at n0
    clear h0 h1 h2 hok hB hK
    gi_wp2
    have hK2 : (W.setCell ⟨w.heap.size, 0, none⟩ (.bool true)).heap[D]? = some (.deferred (some [])) := by
      rw [heap_setCell_other _ ⟨w.heap.size, 0, none⟩ D _ hD0]; exact HK.out
    refine ⟨by simp, .inl ⟨_, _, rfl, run_takeDeferred hK2, ?_⟩⟩
    have P1 : Box ((W.setCell ⟨w.heap.size, 0, none⟩ (.bool true)).putObj D (.deferred none)) w.heap.size 4 #[.bool true] := boxed_putObj hD0 (H0.out.put 0 (.bool true))
    have e1 := P1.cell 0
    simp at e1
    refine ⟨.bool true, by simp [results, Try.results22, go_sem, e1], by rw [HOK.out], ?_⟩
    exact (HB.out.setCell (p := ⟨w.heap.size, 0, none⟩) (Nat.le_refl _) (.bool true)).trans (belowK_b (w := w) (Nat.le_refl _) _ D _ _ (by omega) hK2 rfl rfl)
  case stop =>
    rintro D cd pre W hD hpre ⟨⟨rfl, h0, hok⟩, hB, hs⟩ hK
    have HB := Lib.hid hB
    have HK := Lib.hid hK
    have HOK := Lib.hid (okL_prefix h hpre.1 hok)
    have H0 := Lib.hid h0
    have hD0 : D ≠ w.heap.size := by omega
    have n0 := h0.cell 0
    simp at n0
    clear h0 hok hB hK
    gi_wp2
    refine ⟨by simp, .inl ⟨_, _, rfl, run_takeDeferred HK.out, ?_⟩⟩
    have P1 : Box (W.putObj D (.deferred none)) w.heap.size 4 #[.bool false] := boxed_putObj hD0 H0.out
    have e1 := P1.cell 0
    simp at e1
    refine ⟨.bool false, by simp [results, Try.results22, go_sem, e1], by rw [HOK.out], ?_⟩
    exact HB.out.trans (belowK_b (w := w) (Nat.le_refl _) _ D _ _ (by omega) HK.out rfl rfl)
end Go.Proofs.Ytmbmmfdobkbbfaa
