/- Layer 13: slices.Clone at symbols, shard.New, the reference's Add. -/
import Derived.Test.YtehlebeeoeghmaaShF
import Derived.Lib.SliceRun
import Derived.Laws.OwnMore
namespace Go.Proofs.Ytehlebeeoeghmaa
set_option linter.unusedVariables false
set_option linter.unusedSimpArgs false
open Go.RowKit Go.Lib
set_option maxRecDepth 100000
/-- What slices.Clone hands back. -/
def CloneS (e size n : Nat) (news : List Value) (w : World) (en : Ending) (w' : World) : Prop := ∃ A c, en = .returned (.slice A n c) ∧ w'.ownsRow w.heap.size e size (.slice A n c) n news ∧ Below w.heap.size w w'
set_option maxHeartbeats 1000000 in
theorem clone_syms (A : Option Addr) (l cp : Nat) (news : List Value) (w : World) (hA : A = none → l = 0 ∧ cp = 0) (hn : news.length = l * 2) (hc : ∀ ad, A = some ad → ∀ j u, news[j]? = some u → w.cell? (ad.add j) = some u) (h1 : ∀ u ∈ news, u.oneCell' = true) (hl : l ≤ 1000000) :
    Calls Try.prog 31 #[.slice A l cp] w (CloneS 27 2 l news w) := by
  cases A with
  | none =>
    obtain ⟨rfl, rfl⟩ := hA rfl
    obtain rfl : news = [] := List.eq_nil_of_length_eq_zero (by simpa using hn)
    have q22 : ∀ (w : World) (a : Option Addr) (n c n' c' : Nat), (binOp .eql 43 (.slice a n c) (.slice none n' c')).run Try.prog w = .ok (.bool a.isNone) w := fun w a n c n' c' => Lib.run_eql_slice_nil w _ _ a n c n' c' Try.underlying43
    clear hA hn hc h1 hl
    go_enter Try.func31, Try.ntmps31
    go_wp2_with fail
    go_ret
    exact ⟨none, 0, rfl, World.ownsRow_nil _ _ _ _, Below.refl _ _⟩
  | some ad =>
    obtain ⟨i0, hi, hz0, hz1, hz2⟩ := info_parts sym13_info
    have hb1 : Below w.heap.size w (w.alloc (.cells #[] 27)) := (Below.refl _ _).alloc (Nat.le_refl _) _
    have ZO := Lib.hid (own_emptyS w w.heap.size 27 (Nat.le_refl _))
    have HI := Lib.hid hi
    have HZ0 := Lib.hid hz0
    have HZ1 := Lib.hid hz1
    have HZ2 := Lib.hid hz2
    have HB := Lib.hid hb1
    have HN := Lib.hid hn
    have HO1 := Lib.hid h1
    have NW := Lib.hid (show ∀ j u, news[j]? = some u → (w.alloc (.cells #[] 27)).cell? (ad.add j) = some u from fun j u hu => by
      have h := hc ad rfl j u hu
      exact (hb1.cell (block_lt_of_cell h)).trans h)
    clear hA hn hc h1 hi hz0 hz1 hz2 hb1
    have q22 : ∀ (w : World) (a : Option Addr) (n c n' c' : Nat), (binOp .eql 43 (.slice a n c) (.slice none n' c')).run Try.prog w = .ok (.bool a.isNone) w := fun w a n c n' c' => Lib.run_eql_slice_nil w _ _ a n c n' c' Try.underlying43
    go_enter Try.func31, Try.ntmps31
    go_wp2_with (at_builtin; refine wpList_append_own _ rfl _ _ 43 rfl w.heap.size 27 i0 (.agg #[.int .u64 0, .string ⟨#[]⟩]) 2 24 Try.underlying43 HI.out HZ0.out HZ1.out HZ2.out rfl (by decide) _ _ _ rfl ZO.out ad l cp news rfl HN.out NW.out HO1.out (by simp [maxLen]; omega) (by omega) HB.out.size ?_; intro v' w2 hown' hgrow hnil; have HC2 := Lib.hid (HB.out.grown hgrow HB.out.size (fun g hg => (ZO.out.lt g hg).1)); have HO2 := Lib.hid hown'; clear hown' hgrow hnil)
    have HO3 := HO2.out
    rw [Nat.zero_add, List.nil_append] at HO3
    obtain ⟨A', c', hv, -⟩ := own_form HO3
    subst hv
    go_ret
    exact ⟨A', c', rfl, HO3, HC2.out⟩
theorem size_setS (w : World) (p : Addr) (u : Value) : (w.setCell p u).heap.size = w.heap.size := by simp [World.setCell]
theorem Box.aside {w : World} {g g' : Nat} {t : TypeId} {cs : Array Value} (h : Box w g t cs) (hne : g ≠ g') (i : Nat) (u : Value) : Box (w.setCell ⟨g', i, none⟩ u) g t cs := (Below.heap_setCell _ _ _ _ hne).trans h
theorem Box.put3S {w : World} {g : Nat} {t : TypeId} {a b d u v x : Value} (h : Box w g t #[a, b, d]) : Box (((w.setCell ⟨g, 0, none⟩ u).setCell ⟨g, 1, none⟩ v).setCell ⟨g, 2, none⟩ x) g t #[u, v, x] := ((h.put 0 u).put 1 v).put 2 x
theorem below3 {B g : Nat} {a w : World} (h : Below B a w) (hB : B ≤ g) (u v x : Value) : Below B a (((w.setCell ⟨g, 0, none⟩ u).setCell ⟨g, 1, none⟩ v).setCell ⟨g, 2, none⟩ x) := ((h.setCell (p := ⟨g, 0, none⟩) hB u).setCell (p := ⟨g, 1, none⟩) hB v).setCell (p := ⟨g, 2, none⟩) hB x
theorem syl_info : (Try.prog.info? 43).map (fun i => (i.zero, i.size, i.bytes)) = some (some (.slice none 0 0), 1, 24) := by kernel_rfl
theorem makeR_any (n : Nat) (hn : n ≤ 1000000) (w : World) :
    (Instr.makeSlice 22 (.int .i64 (n : Int)) (.int .i64 (n : Int))).run Try.prog w = .ok (.slice (some ⟨w.heap.size, 0, none⟩) n n) (w.alloc (.cells (Array.replicate n (.slice none 0 0)) 43)) := by
  obtain ⟨i0, hi, hz0, hz1, hz2⟩ := info_parts syl_info
  have hr := run_make (P := Try.prog) w _ _ i0 _ Try.underlying22 hi hz0 .i64 .i64 n n (by omega) (by omega) (by rw [hz2]; omega) (by omega)
  simp only [Int.toNat_natCast, hz1, Nat.mul_one] at hr
  rw [hr]
  have : madeCells (Value.slice none 0 0).cells n = Array.replicate n (Value.slice none 0 0) := by
    apply Array.toList_inj.1
    have := toList_madeCells_one (Value.slice none 0 0) n
    simpa [Value.cells] using this
  rw [this]
theorem box_ownS {w : World} {g n base : Nat} {e : TypeId} {cs : Array Value} (h : Box w g e cs) (hb : base ≤ g) (hn : cs.size = n) (hm : n ≤ maxLen) : w.ownsRow base e 1 (.slice (some ⟨g, 0, none⟩) n n) n cs.toList := by
  refine ⟨by simp [hn], .inr ⟨g, n, cs, rfl, hb, h, Nat.le_refl _, hm, ?_, ?_⟩⟩
  · simp [hn]
  · subst hn; rw [Nat.mul_one, List.take_of_length_le (by simp)]
/-- A row of so many nil rows. -/
theorem SpS.made {w0 w : World} {g n base : Nat} (h : Box w g 43 (Array.replicate n (.slice none 0 0))) (hb : base ≤ g) (hn : n ≤ 1000) : SpS w0 base w (.slice (some ⟨g, 0, none⟩) n n) (List.replicate n []) := by
  refine ⟨List.replicate n sl0, by simp, ?_, fun j hj => ?_⟩
  · have h1 := box_ownS h hb (n := n) (by simp) (by unfold maxLen; omega)
    rw [List.length_replicate]
    have e : (List.replicate n sl0).map slV = (Array.replicate n (Value.slice none 0 0)).toList := by simp
    rw [e]
    exact h1
  · rw [List.length_replicate] at hj
    have e1 : (List.replicate n sl0).getD j sl0 = sl0 := by simp [List.getD, hj]
    have e2 : (List.replicate n ([] : List SymR)).getD j [] = [] := by simp [List.getD, hj]
    rw [e1, e2]
    exact ⟨rfl, .inr (World.ownsRow_nil _ _ _ _)⟩
theorem shAt_zero (w : World) : ShAt w (.agg #[.int .i64 0, .int .i64 0, .slice none 0 0]) (0, 0, []) := ⟨none, 0, rfl, ⟨Nat.le_refl _, Nat.zero_le _, fun _ => ⟨rfl, rfl⟩⟩, RRow.nil _ _⟩
theorem SpS.at {w0 w : World} {base : Nat} {v : Value} {ls : List (List SymR)} (h : SpS w0 base w v ls) (hb : Below w0.heap.size w0 w) (q z : Int) : ShAt w (.agg #[.int .i64 q, .int .i64 z, v]) (q, z, ls) := by
  obtain ⟨A, c, rfl⟩ := h.form
  exact ⟨A, c, rfl, (h.read hb).1, (h.read hb).2⟩
def newSh (n z q : Int) : ShR := if inK n 1 16 && szB z q then (q, z, List.replicate n.toNat []) else (0, 0, [])
def ShOut (s : ShR) (er : Int) (w : World) (e : Ending) (w' : World) : Prop := ∃ v, e = .returned (.tuple #[.agg #[.int .i64 s.1, .int .i64 s.2.1, v], .int .i64 er]) ∧ SpS w w.heap.size w' v s.2.2 ∧ Below w.heap.size w w'
set_option maxHeartbeats 4000000 in
theorem shNew_any (n z q : Int) (w : World) : Calls Try.prog 6 #[.int .i64 n, .int .i64 z, .int .i64 q] w (ShOut (newSh n z q) (if inK n 1 16 && szB z q then 0 else 2) w) := by
  have H1 := Lib.hid (fun w => stripesMayBe_any n w)
  have H2 := Lib.hid (fun w => sizesMayBe_any z q w)
  have Q := Lib.hid (Box.new w 24 #[.int .i64 0, .int .i64 0, .slice none 0 0])
  have HB := Lib.hid ((Below.refl w.heap.size w).alloc (Nat.le_refl _) (.cells #[.int .i64 0, .int .i64 0, .slice none 0 0] 24))
  cases e1 : inK n 1 16 with
  | false =>
    rw [e1] at H1
    have HE := Lib.hid (show newSh n z q = (0, 0, []) by unfold newSh; rw [e1]; rfl)
    clear e1
    go_enter Try.func6, Try.ntmps6
    go_wp2_with fail
    refine (H1.out _).mono ?_
    rintro e w1 ⟨rfl, rfl⟩
    go_wp2_with fail
    refine close_cell Try.results6 rfl rfl rfl Q.out Try.underlying24 rfl (by kernel_rfl) ?_
    rw [HE.out]
    exact ⟨.slice none 0 0, rfl, SpS.nil _ _ _, HB.out⟩
  | true =>
    rw [e1] at H1
    cases e2 : szB z q with
    | false =>
      rw [e2] at H2
      have HE := Lib.hid (show newSh n z q = (0, 0, []) by unfold newSh; rw [e1, e2]; rfl)
      clear e1 e2
      go_enter Try.func6, Try.ntmps6
      go_wp2_with fail
      refine (H1.out _).mono ?_
      rintro e w1 ⟨rfl, rfl⟩
      go_wp2_with fail
      refine (H2.out _).mono ?_
      rintro e w1 ⟨rfl, rfl⟩
      go_wp2_with fail
      refine close_cell Try.results6 rfl rfl rfl Q.out Try.underlying24 rfl (by kernel_rfl) ?_
      rw [HE.out]
      exact ⟨.slice none 0 0, rfl, SpS.nil _ _ _, HB.out⟩
    | true =>
      rw [e2] at H2
      have hn : 1 ≤ n ∧ n ≤ 16 := by unfold inK at e1; simpa using e1
      obtain ⟨k, rfl⟩ := Int.eq_ofNat_of_zero_le (show 0 ≤ n by omega)
      have HE := Lib.hid (show newSh (k : Int) z q = (q, z, List.replicate k []) by unfold newSh; rw [e1, e2]; rfl)
      have hk : k ≤ 16 := by omega
      have hmk := fun w => makeR_any k (by omega) w
      have hb0 : Below w.heap.size w (w.alloc (.cells #[.int .i64 q, .int .i64 z, .slice (some ⟨w.heap.size + 1, 0, none⟩) k k] 24)) := (Below.refl w.heap.size w).alloc (Nat.le_refl _) _
      have HB2 := Lib.hid (hb0.alloc hb0.size (.cells (Array.replicate k (.slice none 0 0)) 43))
      have Q2 := Lib.hid ((Box.new w 24 #[.int .i64 q, .int .i64 z, .slice (some ⟨w.heap.size + 1, 0, none⟩) k k]).alloc (.cells (Array.replicate k (.slice none 0 0)) 43))
      have QR := Box.new (w.alloc (.cells #[.int .i64 q, .int .i64 z, .slice (some ⟨w.heap.size + 1, 0, none⟩) k k] 24)) 43 (Array.replicate k (.slice none 0 0))
      simp only [World.size_alloc] at QR
      have SP := Lib.hid (SpS.made (w0 := w) QR (Nat.le_succ _) (by omega))
      clear e1 e2 QR hn hb0
      go_enter Try.func6, Try.ntmps6
      go_wp2_with fail
      refine (H1.out _).mono ?_
      rintro e w1 ⟨rfl, rfl⟩
      go_wp2_with fail
      refine (H2.out _).mono ?_
      rintro e w1 ⟨rfl, rfl⟩
      go_wp2_with fail
      refine close_cell Try.results6 rfl rfl rfl Q2.out Try.underlying24 rfl (by kernel_rfl) ?_
      rw [HE.out]
      exact ⟨_, rfl, SP.out, HB2.out⟩
def addF (ls : List (List SymR)) (x : SymR) (k : Nat) : List SymR := if k = x.1 % ls.length then withS (ls.getD k []) x else ls.getD k []
def addTo (ls : List (List SymR)) (x : SymR) (i : Nat) : List (List SymR) := (List.range i).map (addF ls x)
theorem addTo_len (ls : List (List SymR)) (x : SymR) (i : Nat) : (addTo ls x i).length = i := by simp [addTo]
theorem addTo_succ (ls : List (List SymR)) (x : SymR) (i : Nat) : addTo ls x (i + 1) = addTo ls x i ++ [addF ls x i] := by unfold addTo; rw [List.range_succ, List.map_append]; rfl
def addSh (s : ShR) (x : SymR) : ShR := (s.1, s.2.1, addTo s.2.2 x s.2.2.length)
set_option maxHeartbeats 8000000 in
theorem refAdd13_any (q z : Int) (A : Option Addr) (c : Nat) (ls : List (List SymR)) (x : SymR) (w : World) (h : Lsts w A ls.length ls) (ho : OkSh ls) :
    Calls Try.prog 15 #[.agg #[.int .i64 q, .int .i64 z, .slice A ls.length c], .agg (smA x)] w fun e w' => ∃ v, e = .returned v ∧ ShAt w' v (addSh (q, z, ls) x) ∧ Below w.heap.size w w' := by
  obtain ⟨i0, hi, hz0, hz1, hz2⟩ := info_parts syl_info
  have HI := Lib.hid hi
  have HZ0 := Lib.hid hz0
  have HZ1 := Lib.hid hz1
  have HZ2 := Lib.hid hz2
  have HO := Lib.hid ho
  have hn := ho.n
  have b1 : Below w.heap.size w (w.alloc (.cells #[.int .i64 q, .int .i64 z, .slice A ls.length c] 24)) := (Below.refl w.heap.size w).alloc (Nat.le_refl _) _
  have b2 := b1.alloc b1.size (.cells (smA x) 27)
  have b3 := b2.alloc b2.size (.cells #[.int .i64 0, .int .i64 0, .slice none 0 0] 24)
  have b4 := b3.alloc b3.size (.cells #[.int .i64 q, .int .i64 z, .slice none 0 0] 24)
  obtain ⟨w1, hw1⟩ : ∃ y, y = (((w.alloc (.cells #[.int .i64 q, .int .i64 z, .slice A ls.length c] 24)).alloc (.cells (smA x) 27)).alloc (.cells #[.int .i64 0, .int .i64 0, .slice none 0 0] 24)).alloc (.cells #[.int .i64 q, .int .i64 z, .slice none 0 0] 24) := ⟨_, rfl⟩
  have G0 : Box w1 w.heap.size 24 #[.int .i64 q, .int .i64 z, .slice A ls.length c] := by rw [hw1]; exact (((Box.new w _ _).alloc _).alloc _).alloc _
  have G1 : Box w1 (w.heap.size + 1) 27 (smA x) := by
    rw [hw1]
    have := ((Box.new (w.alloc (.cells #[.int .i64 q, .int .i64 z, .slice A ls.length c] 24)) 27 (smA x)).alloc (.cells #[.int .i64 0, .int .i64 0, .slice none 0 0] 24)).alloc (.cells #[.int .i64 q, .int .i64 z, .slice none 0 0] 24)
    simpa only [World.size_alloc] using this
  have G2 : Box w1 (w.heap.size + 1 + 1) 24 #[.int .i64 0, .int .i64 0, .slice none 0 0] := by
    rw [hw1]
    have := (Box.new ((w.alloc (.cells #[.int .i64 q, .int .i64 z, .slice A ls.length c] 24)).alloc (.cells (smA x) 27)) 24 #[.int .i64 0, .int .i64 0, .slice none 0 0]).alloc (.cells #[.int .i64 q, .int .i64 z, .slice none 0 0] 24)
    simpa only [World.size_alloc] using this
  have G3 : Box w1 (w.heap.size + 1 + 1 + 1) 24 #[.int .i64 q, .int .i64 z, .slice none 0 0] := by
    rw [hw1]
    have := Box.new (((w.alloc (.cells #[.int .i64 q, .int .i64 z, .slice A ls.length c] 24)).alloc (.cells (smA x) 27)).alloc (.cells #[.int .i64 0, .int .i64 0, .slice none 0 0] 24)) 24 #[.int .i64 q, .int .i64 z, .slice none 0 0]
    simpa only [World.size_alloc] using this
  have hsz : w1.heap.size = w.heap.size + 4 := by rw [hw1]; simp only [World.size_alloc]
  have HSz := Lib.hid hsz
  rw [← hw1] at b4
  have HB1 := Lib.hid b4
  have HL := Lib.hid h
  have S0 := Lib.hid (SpS.nil w w1.heap.size w1)
  have HG0 := Lib.hid G0
  have HG1 := Lib.hid G1
  have HG2 := Lib.hid G2
  have HG3 := Lib.hid G3
  have HOf := Lib.hid (fun wy (h0 : 0 < ls.length) => refOf13_any q z A c ls.length x.1 wy h0 hn)
  obtain ⟨x0, x1⟩ := x
  clear h ho hi hz0 hz1 hz2 b1 b2 b3 b4 G0 G1 G2 G3 hsz
  have HW1 := Lib.hid hw1
  clear hw1
  go_enter Try.func15, Try.ntmps15
  have hw1 := HW1.out
  go_upto_region 2 with (fail)
  rw [← hw1]
  clear hw1 HW1
  have HW1 := Lib.hid (show w.heap.size ≤ w1.heap.size by have := HSz.out; omega)
  obtain ⟨k0, k1, k2⟩ := HG0.out.tri
  go_wp2_with fail
  clear k0 k1 k2
  go_loopw [16] (fun t wr => ∃ i : Nat, i ≤ ls.length ∧ t = .int .i64 (i : Int) ∧ ∃ v : Value, Hid (SpS w w1.heap.size wr v (addTo ls (x0, x1) i)) ∧ Hid (Box wr w.heap.size 24 #[.int .i64 q, .int .i64 z, .slice A ls.length c]) ∧ Hid (Box wr (w.heap.size + 1) 27 (smA (x0, x1))) ∧ Hid (Box wr (w.heap.size + 1 + 1) 24 #[.int .i64 0, .int .i64 0, .slice none 0 0]) ∧ Hid (Box wr (w.heap.size + 1 + 1 + 1) 24 #[.int .i64 q, .int .i64 z, v]) ∧ Hid (Below w.heap.size w wr) ∧ Hid (w1.heap.size ≤ wr.heap.size)) (fun t _ => ls.length - (Go.RowKit.intOf t).toNat)
  case atStart => exact ⟨0, Nat.zero_le _, rfl, _, S0, HG0, HG1, HG2, HG3, HB1, Lib.hid (Nat.le_refl _)⟩
  case round =>
    obtain ⟨i, hi, rfl, v, SP, G0, G1, G2, G3, HB, HSw⟩ := hrel
    clear S0 HG0 HG1 HG2 HG3 HB1
    obtain ⟨r0, r1, r2⟩ := G0.out.tri
    obtain ⟨s0, s1, -, -⟩ := G1.out.two
    by_cases hlt : i < ls.length
    · have hlt' : (i : Int) < (ls.length : Int) := Int.ofNat_lt.2 hlt
      have hi5 : (i : Int) < 1000000 := by omega
      obtain ⟨b, off, B, l, d, rfl, hb, y0, hk, hS⟩ := RRow.at HL.out i hlt
      have y0 := (HB.out.cell (p := ⟨b, off + i, none⟩) hb).trans y0
      have HK := Lib.hid hk
      have HS := Lib.hid hS
      have hl2 := HO.out.r i
      have hl1 : (ls.getD i []).length = l := hS.1
      have HSu := Lib.hid (addTo_succ ls (x0, x1) i)
      have HOi := Lib.hid (HOf.out wr (by omega))
      clear hk hS
      by_cases hm : i = x0 % ls.length
      · have HSv := Lib.hid (show addF ls (x0, x1) i = withS (ls.getD i []) (x0, x1) from if_pos hm)
        have tm : ((i : Int) == (i : Int)) = true := by simp
        rw [← hm] at HOi
        clear hm
        go_upto_region 5 with (fail)
        go_wp2_with fail
        refine HOi.out.mono ?_
        rintro e w2 ⟨rfl, hb2⟩
        have SPw := Lib.hid (SP.out.keepB hb2)
        have G0w := Lib.hid (G0.out.keep hb2)
        have G1w := Lib.hid (G1.out.keep hb2)
        have G2w := Lib.hid (G2.out.keep hb2)
        have G3w := Lib.hid (G3.out.keep hb2)
        have HBw := Lib.hid (HB.out.trans (hb2.mono HB.out.size))
        have HSw2 := Lib.hid (Nat.le_trans HSw.out hb2.size)
        clear hb2 SP G0 G1 G2 G3 HB r0 r1 r2 s0 s1 y0 HOi
        have HWt := Lib.hid (refWith13_any B l d (ls.getD i []) (x0, x1) w2 (Recs.below HS.out HBw.out) (by omega))
        obtain ⟨s0, s1, -, -⟩ := G1w.out.two
        go_wp2_with fail
        refine HWt.out.mono ?_
        rintro e w3 ⟨A4, c4, rfl, ho4, hb3⟩
        have HS7 := Lib.hid (HSu.out.trans (by rw [HSv.out]))
        obtain ⟨ys, hys⟩ : ∃ y, y = withS (ls.getD i []) (x0, x1) := ⟨_, rfl⟩
        rw [← hys] at ho4 HS7 ⊢
        have hw12 : w1.heap.size ≤ w2.heap.size := HSw2.out
        have RX := Lib.hid (show RowS w w1.heap.size w3 (A4, ys.length, c4) ys from ⟨rfl, .inr (own_low2 ho4 hw12)⟩)
        obtain ⟨yl, hyl⟩ : ∃ y, y = ys.length := ⟨_, rfl⟩
        rw [← hyl] at RX ⊢
        clear hys hyl ho4 HWt HSv HSu s0 s1 hw12 tm
        replace SPw := Lib.hid (SPw.out.keepB hb3)
        replace G0w := Lib.hid (G0w.out.keep hb3)
        replace G1w := Lib.hid (G1w.out.keep hb3)
        replace G2w := Lib.hid (G2w.out.keep hb3)
        replace G3w := Lib.hid (G3w.out.keep hb3)
        replace HBw := Lib.hid (HBw.out.trans (hb3.mono HBw.out.size))
        replace HSw2 := Lib.hid (Nat.le_trans HSw2.out hb3.size)
        clear hb3
        go_upto_region 7 with (fail)
        have hbq : Below w3.heap.size w3 (w3.alloc (.cells #[.slice A4 yl c4] 43)) := (Below.refl _ _).alloc (Nat.le_refl _) _
        obtain ⟨rs, o1, o2, o3⟩ := SPw.out
        have HO1 := Lib.hid o1
        have HOl := Lib.hid (show ∀ k, Value.ownBlock _ = some k → w1.heap.size ≤ k from fun k hk => (o2.lt k hk).1)
        have ZO := Lib.hid (own_keepB o2 hbq)
        have ZR := Lib.hid (show ∀ j, j < (addTo ls (x0, x1) i).length → RowS w w1.heap.size (w3.alloc (.cells #[.slice A4 yl c4] 43)) (rs.getD j sl0) ((addTo ls (x0, x1) i).getD j []) from fun j hj => (o3 j hj).keepB hbq)
        have ZX := Lib.hid (RX.out.keepB hbq)
        have ZB := Lib.hid (HBw.out.trans (hbq.mono HBw.out.size))
        have G0z := Lib.hid (G0w.out.keep hbq)
        have G1z := Lib.hid (G1w.out.keep hbq)
        have G2z := Lib.hid (G2w.out.keep hbq)
        have G3z := Lib.hid (G3w.out.keep hbq)
        have HZz := Lib.hid (Nat.le_trans HSw2.out hbq.size)
        have NW := Lib.hid (World.news_of_block (Box.new w3 43 #[.slice A4 yl c4]))
        obtain ⟨q0, q1, q2⟩ := G3w.out.tri
        have HAl := addTo_len ls (x0, x1) i
        obtain ⟨al, hal⟩ : ∃ a, a = addTo ls (x0, x1) i := ⟨_, rfl⟩
        rw [← hal] at ZO ZR HAl HS7 HO1
        clear hal hbq o1 o2 o3 SPw HBw G0w G1w G2w G3w RX
        have hal1 : al.length ≤ 100 := by omega
        clear HAl hl1 hl2
        obtain ⟨k0, k1, k2⟩ := G3z.out.tri
        go_wp2_with (at_builtin; go_loud (refine wpList_append_own _ rfl _ _ 22 rfl w1.heap.size 43 i0 (.slice none 0 0) 1 24 Try.underlying22 HI.out HZ0.out HZ1.out HZ2.out rfl (by decide) _ _ _ rfl ZO.out ⟨w3.heap.size, 0, none⟩ 1 1 [.slice A4 yl c4] rfl rfl NW.out (by simp [Value.oneCell']) (by simp only [maxLen]; omega) (by omega) HZz.out ?_); intro v' w9 hown hgrow _; go_loud (have HO9 := Lib.hid (SpS.snoc HO1.out ZO.out ZR.out ZX.out hgrow hown); have HB9 := Lib.hid (ZB.out.grown hgrow ZB.out.size (fun k hk => Nat.le_trans HW1.out (HOl.out k hk))); have HSz9 := Lib.hid (Nat.le_trans HZz.out hgrow.size); have G09 := Lib.hid (Box.grown G0z.out hgrow (own_ne ZO.out G0z.out (by decide))); have G19 := Lib.hid (Box.grown G1z.out hgrow (own_ne ZO.out G1z.out (by decide))); have G29 := Lib.hid (Box.grown G2z.out hgrow (own_ne ZO.out G2z.out (by decide))); have G39 := Lib.hid (Box.grown G3z.out hgrow (own_ne ZO.out G3z.out (by decide)))); clear hown hgrow; obtain ⟨A9, c9, hv9⟩ := HO9.out.form; subst hv9; obtain ⟨n0, n1, n2⟩ := G39.out.tri; have f2 := G39.out.free 2)
        have hS9 := HO9.out.far G39.out (by decide) (by decide) 2 (.slice A9 (al ++ [ys]).length c9)
        have HS9 := Lib.hid hS9
        clear hS9
        go_roundw
        case rel =>
          refine ⟨i + 1, hlt, by go_num, _, Lib.hid ?_, Lib.hid (G09.out.aside (by omega) 2 _), Lib.hid (G19.out.aside (by omega) 2 _), Lib.hid (G29.out.aside (by omega) 2 _), Lib.hid (G39.out.put 2 _), Lib.hid (HB9.out.setCell (p := ⟨w.heap.size + 1 + 1 + 1, 2, none⟩) (by show _ ≤ w.heap.size + 1 + 1 + 1; omega) _), Lib.hid (by rw [size_setS]; exact HSz9.out)⟩
          rw [HS7.out]
          have h9 := HS9.out
          rw [List.length_append, List.length_singleton] at h9
          exact h9
        case measure => simp [Go.RowKit.intOf] <;> omega
      · have HSv := Lib.hid (show addF ls (x0, x1) i = ls.getD i [] from if_neg hm)
        have tm : ((i : Int) == ((x0 % ls.length : Nat) : Int)) = false := by simp; omega
        generalize x0 % ls.length = mm at *
        go_upto_region 5 with (fail)
        go_wp2_with fail
        refine HOi.out.mono ?_
        rintro e w2 ⟨rfl, hb2⟩
        have SPw := Lib.hid (SP.out.keepB hb2)
        have G0w := Lib.hid (G0.out.keep hb2)
        have G1w := Lib.hid (G1.out.keep hb2)
        have G2w := Lib.hid (G2.out.keep hb2)
        have G3w := Lib.hid (G3.out.keep hb2)
        have HBw := Lib.hid (HB.out.trans (hb2.mono HB.out.size))
        have HSw2 := Lib.hid (Nat.le_trans HSw.out hb2.size)
        clear hb2 SP G0 G1 G2 G3 HB r0 r1 r2 s0 s1 y0 HOi
        have HS7 := Lib.hid (HSu.out.trans (by rw [HSv.out]))
        have RX := Lib.hid (show RowS w w1.heap.size w2 (B, l, d) (ls.getD i []) from ⟨hl1.symm, .inl ⟨HK.out, HS.out⟩⟩)
        clear HSv HSu hm
        go_upto_region 7 with (fail)
        have hbq : Below w2.heap.size w2 (w2.alloc (.cells #[.slice B l d] 43)) := (Below.refl _ _).alloc (Nat.le_refl _) _
        obtain ⟨rs, o1, o2, o3⟩ := SPw.out
        have HO1 := Lib.hid o1
        have HOl := Lib.hid (show ∀ k, Value.ownBlock _ = some k → w1.heap.size ≤ k from fun k hk => (o2.lt k hk).1)
        have ZO := Lib.hid (own_keepB o2 hbq)
        have ZR := Lib.hid (show ∀ j, j < (addTo ls (x0, x1) i).length → RowS w w1.heap.size (w2.alloc (.cells #[.slice B l d] 43)) (rs.getD j sl0) ((addTo ls (x0, x1) i).getD j []) from fun j hj => (o3 j hj).keepB hbq)
        have ZX := Lib.hid (RX.out.keepB hbq)
        have ZB := Lib.hid (HBw.out.trans (hbq.mono HBw.out.size))
        have G0z := Lib.hid (G0w.out.keep hbq)
        have G1z := Lib.hid (G1w.out.keep hbq)
        have G2z := Lib.hid (G2w.out.keep hbq)
        have G3z := Lib.hid (G3w.out.keep hbq)
        have HZz := Lib.hid (Nat.le_trans HSw2.out hbq.size)
        have NW := Lib.hid (World.news_of_block (Box.new w2 43 #[.slice B l d]))
        obtain ⟨q0, q1, q2⟩ := G3w.out.tri
        have HAl := addTo_len ls (x0, x1) i
        obtain ⟨al, hal⟩ : ∃ a, a = addTo ls (x0, x1) i := ⟨_, rfl⟩
        rw [← hal] at ZO ZR HAl HS7 HO1
        clear hal hbq o1 o2 o3 SPw HBw G0w G1w G2w G3w RX
        have hal1 : al.length ≤ 100 := by omega
        clear HAl hl1 hl2
        obtain ⟨k0, k1, k2⟩ := G3z.out.tri
        go_wp2_with (at_builtin; go_loud (refine wpList_append_own _ rfl _ _ 22 rfl w1.heap.size 43 i0 (.slice none 0 0) 1 24 Try.underlying22 HI.out HZ0.out HZ1.out HZ2.out rfl (by decide) _ _ _ rfl ZO.out ⟨w2.heap.size, 0, none⟩ 1 1 [.slice B l d] rfl rfl NW.out (by simp [Value.oneCell']) (by simp only [maxLen]; omega) (by omega) HZz.out ?_); intro v' w9 hown hgrow _; go_loud (have HO9 := Lib.hid (SpS.snoc HO1.out ZO.out ZR.out ZX.out hgrow hown); have HB9 := Lib.hid (ZB.out.grown hgrow ZB.out.size (fun k hk => Nat.le_trans HW1.out (HOl.out k hk))); have HSz9 := Lib.hid (Nat.le_trans HZz.out hgrow.size); have G09 := Lib.hid (Box.grown G0z.out hgrow (own_ne ZO.out G0z.out (by decide))); have G19 := Lib.hid (Box.grown G1z.out hgrow (own_ne ZO.out G1z.out (by decide))); have G29 := Lib.hid (Box.grown G2z.out hgrow (own_ne ZO.out G2z.out (by decide))); have G39 := Lib.hid (Box.grown G3z.out hgrow (own_ne ZO.out G3z.out (by decide)))); clear hown hgrow; obtain ⟨A9, c9, hv9⟩ := HO9.out.form; subst hv9; obtain ⟨n0, n1, n2⟩ := G39.out.tri; have f2 := G39.out.free 2)
        have hS9 := HO9.out.far G39.out (by decide) (by decide) 2 (.slice A9 (al ++ [ls.getD i []]).length c9)
        have HS9 := Lib.hid hS9
        clear hS9
        go_roundw
        case rel =>
          refine ⟨i + 1, hlt, by go_num, _, Lib.hid ?_, Lib.hid (G09.out.aside (by omega) 2 _), Lib.hid (G19.out.aside (by omega) 2 _), Lib.hid (G29.out.aside (by omega) 2 _), Lib.hid (G39.out.put 2 _), Lib.hid (HB9.out.setCell (p := ⟨w.heap.size + 1 + 1 + 1, 2, none⟩) (by show _ ≤ w.heap.size + 1 + 1 + 1; omega) _), Lib.hid (by rw [size_setS]; exact HSz9.out)⟩
          rw [HS7.out]
          have h9 := HS9.out
          rw [List.length_append, List.length_singleton] at h9
          exact h9
        case measure => simp [Go.RowKit.intOf] <;> omega
    · obtain rfl : i = ls.length := Nat.le_antisymm hi (Nat.le_of_not_lt hlt)
      have hlt' : ¬ (ls.length : Int) < (ls.length : Int) := Int.lt_irrefl _
      obtain ⟨k0, k1, k2⟩ := G3.out.tri
      have p0 := G2.out.cell 0
      have p1 := G2.out.cell 1
      have p2 := G2.out.cell 2
      have f0 := G2.out.free 0
      have f1 := G2.out.free 1
      have f2 := G2.out.free 2
      obtain ⟨A9, c9, rfl⟩ := SP.out.form
      have S1 := SP.out.far G2.out (by decide) (by decide) 0 (.int .i64 q)
      have S2 := S1.far (G2.out.put 0 (.int .i64 q)) (by decide) (by decide) 1 (.int .i64 z)
      have HS3 := Lib.hid (S2.far ((G2.out.put 0 (.int .i64 q)).put 1 (.int .i64 z)) (by decide) (by decide) 2 (.slice A9 (addTo ls (x0, x1) ls.length).length c9))
      have HB3 := Lib.hid (below3 HB.out (show w.heap.size ≤ w.heap.size + 1 + 1 by omega) (.int .i64 q) (.int .i64 z) (.slice A9 (addTo ls (x0, x1) ls.length).length c9))
      have GP := Lib.hid (G2.out.put3S (u := .int .i64 q) (v := .int .i64 z) (x := .slice A9 (addTo ls (x0, x1) ls.length).length c9))
      clear S1 S2
      have HAl := Lib.hid (addTo_len ls (x0, x1) ls.length)
      obtain ⟨al, hal⟩ : ∃ a, a = addTo ls (x0, x1) ls.length := ⟨_, rfl⟩
      rw [← hal] at k2 HS3 HB3 GP
      have HE := Lib.hid (show addSh (q, z, ls) (x0, x1) = (q, z, al) by rw [hal]; rfl)
      obtain ⟨an, han⟩ : ∃ a, a = al.length := ⟨_, rfl⟩
      have HAn := Lib.hid han
      rw [← han] at k2 HS3 HB3 GP
      clear hal han HAl
      go_wp2_with fail
      refine close_one Try.results15 rfl rfl GP.out Try.underlying24 rfl (by kernel_rfl) ?_
      refine ⟨_, rfl, ?_, HB3.out⟩
      rw [HE.out]
      exact HS3.out.at HB3.out q z
end Go.Proofs.Ytehlebeeoeghmaa
