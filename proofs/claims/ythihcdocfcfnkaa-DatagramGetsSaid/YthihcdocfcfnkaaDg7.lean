/- Contracts of layer 11: the reader, at any text; read. -/
import Derived.Test.YthihcdocfcfnkaaDg5
namespace Go.Proofs.Ythihcdocfcfnkaa
open Go.RowKit
/-- What the reader's number answers, and what is left behind it. -/
def numR (s : ByteArray) (m : Nat) : Nat := if s.size < m then 0 else numB (s.data.toList.take m)
def restR (s : ByteArray) (m : Nat) : ByteArray := if s.size < m then ⟨#[]⟩ else s.extract m s.size
def shortR (s : ByteArray) (m : Nat) : Bool := decide (s.size < m)
theorem restR_size (s : ByteArray) (m : Nat) : (restR s m).size ≤ s.size := by
  unfold restR; split
  · exact Nat.zero_le _
  · simp
theorem numR_lt1 (s : ByteArray) : numR s 1 < 256 := by
  unfold numR; split
  · omega
  · have := numB_lt 1 (s.data.toList.take 1) (by simp; omega); simpa using this
theorem numR_lt8 (s : ByteArray) : numR s 8 < 18446744073709551616 := by
  unfold numR; split
  · omega
  · have := numB_lt 8 (s.data.toList.take 8) (by simp; omega); simpa using this
/-- The reader behind a number. -/
def ReadOut (g : Nat) (s : ByteArray) (sh : Bool) (m : Nat) (w : World) (e : Ending) (w' : World) : Prop :=
  e = .returned (.int .u64 (numR s m : Nat)) ∧ Box w' g 60 #[.string (restR s m), .bool (sh || shortR s m)] ∧ Below g w w' ∧ ∀ b, b ≠ g → w'.heap[b]? = w.heap[b]?
theorem number_any (g m : Nat) (s : ByteArray) (sh : Bool) (w : World) (bx : Box w g 60 #[.string s, .bool sh]) (hm2 : m ≤ 8) (hs : s.size ≤ 1000000) :
    Calls Try.prog 32 #[.pointer (some ⟨g, 0, none⟩), .int .i64 m] w (ReadOut g s sh m w) := by
  by_cases h : s.size < m
  · refine (number_short g m s sh w bx h hm2).mono ?_
    rintro e w' ⟨rfl, rfl⟩
    refine ⟨by rw [numR, if_pos h]; rfl, ?_, ((Below.refl g w).setCell (p := ⟨g, 0, none⟩) (Nat.le_refl _) _).setCell (p := ⟨g, 1, none⟩) (Nat.le_refl _) _, fun b hb => (heap_setCell_other _ ⟨g, 1, none⟩ b _ hb).trans (heap_setCell_other _ ⟨g, 0, none⟩ b _ hb)⟩
    rw [restR, if_pos h, shortR, decide_eq_true h, Bool.or_true]
    exact bx.put2
  · refine (number_yes g m s sh w bx (by omega) hm2 hs).mono ?_
    rintro e w' ⟨rfl, rfl⟩
    refine ⟨by rw [numR, if_neg h], ?_, (Below.refl g w).setCell (p := ⟨g, 0, none⟩) (Nat.le_refl _) _, fun b hb => heap_setCell_other _ ⟨g, 0, none⟩ b _ hb⟩
    rw [restR, if_neg h, shortR, decide_eq_false h, Bool.or_false]
    exact bx.put 0 _
/-- What read answers: a datagram, and whether it is one. -/
def readD (t : ByteArray) : Value × Bool :=
  let t1 := restR t 1
  let t2 := restR t1 1
  let t3 := restR t2 8
  let t4 := restR t3 8
  let t5 := restR t4 1
  let t6 := restR t5 1
  if numR t 1 = 68 ∧ numR t1 1 = 1 then
    (dgV (numR t2 8 : Nat) (numR t4 1 : Nat) (numR t5 1 : Nat) (numR t3 8 : Nat) t6, !(((((false || shortR t 1) || shortR t1 1) || shortR t2 8) || shortR t3 8) || shortR t4 1 || shortR t5 1))
  else (dgV 0 0 0 0 ⟨#[]⟩, false)
theorem readD_no (t : ByteArray) (h : ¬ (numR t 1 = 68 ∧ numR (restR t 1) 1 = 1)) : readD t = (dgV 0 0 0 0 ⟨#[]⟩, false) := by
  unfold readD; simp only; rw [if_neg h]
theorem readD_yes (t : ByteArray) (h1 : numR t 1 = 68) (h2 : numR (restR t 1) 1 = 1) :
    readD t = (dgV (numR (restR (restR t 1) 1) 8 : Nat) (numR (restR (restR (restR (restR t 1) 1) 8) 8) 1 : Nat) (numR (restR (restR (restR (restR (restR t 1) 1) 8) 8) 1) 1 : Nat) (numR (restR (restR (restR t 1) 1) 8) 8 : Nat) (restR (restR (restR (restR (restR (restR t 1) 1) 8) 8) 1) 1),
      !(((((false || shortR t 1) || shortR (restR t 1) 1) || shortR (restR (restR t 1) 1) 8) || shortR (restR (restR (restR t 1) 1) 8) 8) || shortR (restR (restR (restR (restR t 1) 1) 8) 8) 1 || shortR (restR (restR (restR (restR (restR t 1) 1) 8) 8) 1) 1)) := by
  unfold readD; simp only; rw [if_pos ⟨h1, h2⟩]
theorem Box.put0 {w : World} {g : Nat} {ty : TypeId} {a b c d e : Value} (h : Box w g ty #[a, b, c, d, e]) (u : Value) : Box (w.setCell ⟨g, 0, none⟩ u) g ty #[u, b, c, d, e] := h.put 0 u
theorem Box.put1 {w : World} {g : Nat} {ty : TypeId} {a b c d e : Value} (h : Box w g ty #[a, b, c, d, e]) (u : Value) : Box (w.setCell ⟨g, 1, none⟩ u) g ty #[a, u, c, d, e] := h.put 1 u
theorem Box.put2' {w : World} {g : Nat} {ty : TypeId} {a b c d e : Value} (h : Box w g ty #[a, b, c, d, e]) (u : Value) : Box (w.setCell ⟨g, 2, none⟩ u) g ty #[a, b, u, d, e] := h.put 2 u
theorem Box.put3 {w : World} {g : Nat} {ty : TypeId} {a b c d e : Value} (h : Box w g ty #[a, b, c, d, e]) (u : Value) : Box (w.setCell ⟨g, 3, none⟩ u) g ty #[a, b, c, u, e] := h.put 3 u
theorem Box.put4 {w : World} {g : Nat} {ty : TypeId} {a b c d e : Value} (h : Box w g ty #[a, b, c, d, e]) (u : Value) : Box (w.setCell ⟨g, 4, none⟩ u) g ty #[a, b, c, d, u] := h.put 4 u
theorem Box.putAll {w : World} {g : Nat} {ty : TypeId} {a b c d e a' b' c' d' e' : Value} (h : Box w g ty #[a, b, c, d, e]) : Box (((((w.setCell ⟨g, 0, none⟩ a').setCell ⟨g, 1, none⟩ b').setCell ⟨g, 2, none⟩ c').setCell ⟨g, 3, none⟩ d').setCell ⟨g, 4, none⟩ e') g ty #[a', b', c', d', e'] :=
  ((((h.put0 a').put1 b').put2' c').put3 d').put4 e'
theorem Box.ten {w : World} {g : Nat} {ty : TypeId} {a b c d e : Value} (h : Box w g ty #[a, b, c, d, e]) : (w.cell? ⟨g, 0, none⟩ = some a ∧ w.cell? ⟨g, 1, none⟩ = some b ∧ w.cell? ⟨g, 2, none⟩ = some c ∧ w.cell? ⟨g, 3, none⟩ = some d ∧ w.cell? ⟨g, 4, none⟩ = some e) ∧
    (w.frozen? ⟨g, 0, none⟩ = false ∧ w.frozen? ⟨g, 1, none⟩ = false ∧ w.frozen? ⟨g, 2, none⟩ = false ∧ w.frozen? ⟨g, 3, none⟩ = false ∧ w.frozen? ⟨g, 4, none⟩ = false) :=
  ⟨⟨h.cell 0, h.cell 1, h.cell 2, h.cell 3, h.cell 4⟩, ⟨h.free 0, h.free 1, h.free 2, h.free 3, h.free 4⟩⟩
theorem below_five {B : Nat} {a w : World} (h : Below B a w) {g : Nat} (hg : B ≤ g) (u0 u1 u2 u3 u4 : Value) : Below B a (((((w.setCell ⟨g, 0, none⟩ u0).setCell ⟨g, 1, none⟩ u1).setCell ⟨g, 2, none⟩ u2).setCell ⟨g, 3, none⟩ u3).setCell ⟨g, 4, none⟩ u4) :=
  ((((h.setCell (p := ⟨g, 0, none⟩) hg _).setCell (p := ⟨g, 1, none⟩) hg _).setCell (p := ⟨g, 2, none⟩) hg _).setCell (p := ⟨g, 3, none⟩) hg _).setCell (p := ⟨g, 4, none⟩) hg _
set_option maxHeartbeats 4000000 in
theorem read_any (t : ByteArray) (hs : t.size ≤ 1000) (w : World) :
    Calls Try.prog 30 #[.string t] w fun e w' => e = .returned (.tuple #[(readD t).1, .bool (readD t).2]) ∧ Below w.heap.size w w' := by
  have Z := Lib.hid ((Box.new w 39 #[.int .u64 0, .int .i64 0, .int .i64 0, .int .u64 0, .string ⟨#[]⟩]).alloc (.cells #[.string t, .bool false] 60))
  have Q := Lib.hid (Box.new (w.alloc (.cells #[.int .u64 0, .int .i64 0, .int .i64 0, .int .u64 0, .string ⟨#[]⟩] 39)) 60 #[.string t, .bool false])
  have B := Lib.hid (((Below.refl w.heap.size w).alloc (Nat.le_refl _) (.cells #[.int .u64 0, .int .i64 0, .int .i64 0, .int .u64 0, .string ⟨#[]⟩] 39)).alloc (by simp) (.cells #[.string t, .bool false] 60))
  simp only [World.size_alloc] at Q
  have s1 := restR_size t 1
  have HE0 := Lib.hid (readD_no t)
  have HE1 := Lib.hid (readD_yes t)
  generalize readD t = R at *
  go_enter Try.func30, Try.ntmps30
  go_wp2_with fail
  refine (number_any (w.heap.size + 1) 1 t false _ Q.out (by omega) (by omega)).mono ?_
  rintro e w1 ⟨rfl, q1, b1, -⟩
  have Z1 := Lib.hid (Z.out.below b1 (by omega))
  have Q1 := Lib.hid q1
  have B1 := Lib.hid (B.out.trans (b1.mono (by omega)))
  clear q1 b1 Q Z B
  generalize restR t 1 = t1 at *
  by_cases h1 : numR t 1 = 68
  · have HH1 := Lib.hid h1
    have c1 : (((numR t 1 : Nat) : Int) != 68) = false := by rw [h1]; rfl
    clear h1
    generalize numR t 1 = x1 at *
    go_wp2_with fail
    refine (number_any (w.heap.size + 1) 1 t1 _ _ Q1.out (by omega) (by omega)).mono ?_
    rintro e w2 ⟨rfl, q1, b1, -⟩
    have Z2 := Lib.hid (Z1.out.below b1 (by omega))
    have Q2 := Lib.hid q1
    have B2 := Lib.hid (B1.out.trans (b1.mono (by omega)))
    clear q1 b1 Q1 Z1 B1
    have s2 := restR_size t1 1
    by_cases h2 : numR t1 1 = 1
    · have HE := Lib.hid (HE1.out HH1.out h2)
      have c2 : (((numR t1 1 : Nat) : Int) != 1) = false := by rw [h2]; rfl
      clear h2 HE0 HE1
      generalize numR t1 1 = x2 at *
      generalize restR t1 1 = t2 at *
      have s3 := restR_size t2 8
      have s4 := restR_size (restR t2 8) 8
      have s5 := restR_size (restR (restR t2 8) 8) 1
      have Y2 := Lib.hid (Box.new w2 39 #[.int .u64 0, .int .i64 0, .int .i64 0, .int .u64 0, .string ⟨#[]⟩])
      have hz2 : w.heap.size + 2 ≤ w2.heap.size := Q2.out.lt
      have Q2 := Lib.hid (Q2.out.alloc (.cells #[.int .u64 0, .int .i64 0, .int .i64 0, .int .u64 0, .string ⟨#[]⟩] 39))
      have Z2 := Lib.hid (Z2.out.alloc (.cells #[.int .u64 0, .int .i64 0, .int .i64 0, .int .u64 0, .string ⟨#[]⟩] 39))
      have B2 := Lib.hid (B2.out.alloc (by omega) (.cells #[.int .u64 0, .int .i64 0, .int .i64 0, .int .u64 0, .string ⟨#[]⟩] 39))
      go_wp2_with fail
      generalize hG : w2.heap.size = G at *
      clear hG
      generalize w2.alloc (.cells #[.int .u64 0, .int .i64 0, .int .i64 0, .int .u64 0, .string ⟨#[]⟩] 39) = w2 at *
      refine (number_any (w.heap.size + 1) 8 t2 _ _ Q2.out (by omega) (by omega)).mono ?_
      rintro e w3 ⟨rfl, q1, b1, ot⟩
      have Z3 := Lib.hid (Z2.out.below b1 (by omega))
      have Y3' := Lib.hid (show Box w3 G _ _ from (ot G (by omega)).trans Y2.out)
      have Q3' := Lib.hid q1
      have B3' := Lib.hid (B2.out.trans (b1.mono (by omega)))
      clear q1 b1 ot Q2 Z2 B2 Y2
      obtain ⟨⟨k0, k1, k2, k3, k4⟩, ⟨f0, f1, f2, f3, f4⟩⟩ := Y3'.out.ten
      generalize numR t2 8 = n3 at *
      generalize restR t2 8 = t3 at *
      go_wp2_with fail
      have Y3 := Lib.hid (Y3'.out.put0 (.int .u64 (n3 : Int)))
      have Q3 := Lib.hid (Q3'.out.far (p := ⟨G, 0, none⟩) (by show w.heap.size + 1 ≠ G; omega) (.int .u64 (n3 : Int)))
      have Z3 := Lib.hid (Z3.out.far (p := ⟨G, 0, none⟩) (by show w.heap.size ≠ G; omega) (.int .u64 (n3 : Int)))
      have B3 := Lib.hid (B3'.out.setCell (p := ⟨G, 0, none⟩) (by show w.heap.size ≤ G; omega) (.int .u64 (n3 : Int)))
      clear k0 k1 k2 k3 k4 f0 f1 f2 f3 f4 Y3' Q3' B3'
      generalize w3.setCell ⟨G, 0, none⟩ (.int .u64 (n3 : Int)) = v3 at *
      refine (number_any (w.heap.size + 1) 8 t3 _ _ Q3.out (by omega) (by omega)).mono ?_
      rintro e w4 ⟨rfl, q1, b1, ot⟩
      have Z4 := Lib.hid (Z3.out.below b1 (by omega))
      have Y4' := Lib.hid (show Box w4 G _ _ from (ot G (by omega)).trans Y3.out)
      have Q4' := Lib.hid q1
      have B4' := Lib.hid (B3.out.trans (b1.mono (by omega)))
      clear q1 b1 ot Q3 Z3 B3 Y3
      obtain ⟨⟨k0, k1, k2, k3, k4⟩, ⟨f0, f1, f2, f3, f4⟩⟩ := Y4'.out.ten
      generalize numR t3 8 = n4 at *
      generalize restR t3 8 = t4 at *
      go_wp2_with fail
      have Y4 := Lib.hid (Y4'.out.put3 (.int .u64 (n4 : Int)))
      have Q4 := Lib.hid (Q4'.out.far (p := ⟨G, 3, none⟩) (by show w.heap.size + 1 ≠ G; omega) (.int .u64 (n4 : Int)))
      have Z4 := Lib.hid (Z4.out.far (p := ⟨G, 3, none⟩) (by show w.heap.size ≠ G; omega) (.int .u64 (n4 : Int)))
      have B4 := Lib.hid (B4'.out.setCell (p := ⟨G, 3, none⟩) (by show w.heap.size ≤ G; omega) (.int .u64 (n4 : Int)))
      clear k0 k1 k2 k3 k4 f0 f1 f2 f3 f4 Y4' Q4' B4'
      generalize w4.setCell ⟨G, 3, none⟩ (.int .u64 (n4 : Int)) = v4 at *
      refine (number_any (w.heap.size + 1) 1 t4 _ _ Q4.out (by omega) (by omega)).mono ?_
      rintro e w5 ⟨rfl, q1, b1, ot⟩
      have Z5 := Lib.hid (Z4.out.below b1 (by omega))
      have Y5' := Lib.hid (show Box w5 G _ _ from (ot G (by omega)).trans Y4.out)
      have Q5' := Lib.hid q1
      have B5' := Lib.hid (B4.out.trans (b1.mono (by omega)))
      clear q1 b1 ot Q4 Z4 B4 Y4
      obtain ⟨⟨k0, k1, k2, k3, k4⟩, ⟨f0, f1, f2, f3, f4⟩⟩ := Y5'.out.ten
      have g5 := numR_lt1 t4
      generalize numR t4 1 = n5 at *
      generalize restR t4 1 = t5 at *
      go_wp2_with fail
      have Y5 := Lib.hid (Y5'.out.put1 (.int .i64 (n5 : Int)))
      have Q5 := Lib.hid (Q5'.out.far (p := ⟨G, 1, none⟩) (by show w.heap.size + 1 ≠ G; omega) (.int .i64 (n5 : Int)))
      have Z5 := Lib.hid (Z5.out.far (p := ⟨G, 1, none⟩) (by show w.heap.size ≠ G; omega) (.int .i64 (n5 : Int)))
      have B5 := Lib.hid (B5'.out.setCell (p := ⟨G, 1, none⟩) (by show w.heap.size ≤ G; omega) (.int .i64 (n5 : Int)))
      clear k0 k1 k2 k3 k4 f0 f1 f2 f3 f4 Y5' Q5' B5'
      generalize w5.setCell ⟨G, 1, none⟩ (.int .i64 (n5 : Int)) = v5 at *
      refine (number_any (w.heap.size + 1) 1 t5 _ _ Q5.out (by omega) (by omega)).mono ?_
      rintro e w6 ⟨rfl, q1, b1, ot⟩
      have Z6 := Lib.hid (Z5.out.below b1 (by omega))
      have Y6' := Lib.hid (show Box w6 G _ _ from (ot G (by omega)).trans Y5.out)
      have Q6' := Lib.hid q1
      have B6' := Lib.hid (B5.out.trans (b1.mono (by omega)))
      clear q1 b1 ot Q5 Z5 B5 Y5
      obtain ⟨⟨k0, k1, k2, k3, k4⟩, ⟨f0, f1, f2, f3, f4⟩⟩ := Y6'.out.ten
      have g6 := numR_lt1 t5
      generalize numR t5 1 = n6 at *
      generalize restR t5 1 = t6 at *
      obtain ⟨r0, r1, -, -⟩ := Q6'.out.two
      go_wp2_with fail
      have Y6 := Lib.hid ((Y6'.out.put2' (.int .i64 (n6 : Int))).put4 (.string t6))
      have Q6 := Lib.hid ((Q6'.out.far (p := ⟨G, 2, none⟩) (by show w.heap.size + 1 ≠ G; omega) (.int .i64 (n6 : Int))).far (p := ⟨G, 4, none⟩) (by show w.heap.size + 1 ≠ G; omega) (.string t6))
      have Z6 := Lib.hid ((Z6.out.far (p := ⟨G, 2, none⟩) (by show w.heap.size ≠ G; omega) (.int .i64 (n6 : Int))).far (p := ⟨G, 4, none⟩) (by show w.heap.size ≠ G; omega) (.string t6))
      have B6 := Lib.hid ((B6'.out.setCell (p := ⟨G, 2, none⟩) (by show w.heap.size ≤ G; omega) (.int .i64 (n6 : Int))).setCell (p := ⟨G, 4, none⟩) (by show w.heap.size ≤ G; omega) (.string t6))
      clear k0 k1 k2 k3 k4 f0 f1 f2 f3 f4 Y6' Q6' B6'
      generalize (w6.setCell ⟨G, 2, none⟩ (.int .i64 (n6 : Int))).setCell ⟨G, 4, none⟩ (.string t6) = v6 at *
      clear r0 r1
      obtain ⟨⟨k0, k1, k2, k3, k4⟩, -⟩ := Y6.out.ten
      obtain ⟨⟨m0, m1, m2, m3, m4⟩, ⟨f0, f1, f2, f3, f4⟩⟩ := Z6.out.ten
      obtain ⟨r0, r1, -, -⟩ := Q6.out.two
      have e1 : G ≠ w.heap.size := by omega
      have e2 : w.heap.size ≠ G := by omega
      have e3 : w.heap.size ≠ w.heap.size + 1 := by omega
      have e4 : w.heap.size + 1 ≠ w.heap.size := by omega
      generalize w.heap.size + 1 = H at *
      go_region
      go_wp2_with fail
      refine close_cell Try.results30 rfl rfl rfl Z6.out.putAll.drew Try.underlying39 rfl (by kernel_rfl) ⟨by rw [HE.out]; simp, (below_five B6.out (Nat.le_refl _) _ _ _ _ _).drew⟩
    · have HE := Lib.hid (HE0.out (fun h => h2 h.2))
      have c2 : (((numR t1 1 : Nat) : Int) != 1) = true := by rw [bne_iff_ne]; omega
      clear h2 HE0 HE1
      generalize numR t1 1 = x2 at *
      obtain ⟨⟨k0, k1, k2, k3, k4⟩, ⟨f0, f1, f2, f3, f4⟩⟩ := Z2.out.ten
      go_wp2_with fail
      refine close_cell Try.results30 rfl rfl rfl Z2.out.putAll Try.underlying39 rfl (by kernel_rfl) ⟨by rw [HE.out]; rfl, below_five B2.out (Nat.le_refl _) _ _ _ _ _⟩
  · have HE := Lib.hid (HE0.out (fun h => h1 h.1))
    have c1 : (((numR t 1 : Nat) : Int) != 68) = true := by rw [bne_iff_ne]; omega
    clear h1 HE0 HE1
    generalize numR t 1 = x1 at *
    obtain ⟨⟨k0, k1, k2, k3, k4⟩, ⟨f0, f1, f2, f3, f4⟩⟩ := Z1.out.ten
    go_wp2_with fail
    refine close_cell Try.results30 rfl rfl rfl Z1.out.putAll Try.underlying39 rfl (by kernel_rfl) ⟨by rw [HE.out]; rfl, below_five B1.out (Nat.le_refl _) _ _ _ _ _⟩
end Go.Proofs.Ythihcdocfcfnkaa
