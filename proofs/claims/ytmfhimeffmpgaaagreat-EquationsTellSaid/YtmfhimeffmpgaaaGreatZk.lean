/- Parts: EqV, EtX. -/
import Derived.Test.YtmfhimeffmpgaaaGreatZj
import Derived.Deep.AppendLies
import Derived.Deep.DeepCutAuto
import Derived.Deep.RegionHeld3
import Derived.Deep.RegionLaw
namespace Go.Proofs.YtmfhimeffmpgaaaGreat
section
/- Contracts of layer 12: equations.Sums; the reference's Rows, Sums, Rank and Bytes. -/
set_option linter.unusedVariables false
set_option linter.unusedSimpArgs false
open Go.RowKit
set_option maxRecDepth 100000
theorem row_infoV : (Tryz.prog.info? 56).map (fun i => (i.zero, i.size, i.bytes)) = some (some (.agg #[.int .i64 0, .slice none 0 0]), 2, 32) := by kernel_rfl
def dtL (xs : List SymR) : List ByteArray := xs.map (·.2)
theorem dtL_len (xs : List SymR) : (dtL xs).length = xs.length := by simp [dtL]
theorem dtL_snoc (xs : List SymR) (k : Nat) (h : k < xs.length) : (dtL (xs.take (k + 1))).map Value.string = (dtL (xs.take k)).map Value.string ++ [Value.string (xs.getD k default).2] := by
  unfold dtL
  rw [take_snocD xs k h]; simp
theorem dtL_le {k s c : Int} {xs : List SymR} (h : storeB k s c xs = true) (j : Nat) : ((dtL xs).getD j ByteArray.empty).size ≤ maxLen := by
  by_cases hj : j < xs.length
  · have e : (dtL xs).getD j ByteArray.empty = (xs[j]).2 := by simp [dtL, List.getD, hj]
    rw [e]
    have hb := storeB_bd h
    unfold storeB at h
    simp only [Bool.and_eq_true] at h
    have ha := h.1.2
    unfold allB at ha
    rw [List.all_eq_true] at ha
    have := ha _ (List.getElem_mem hj)
    have : (((xs[j]).2.size : Nat) : Int) = s := by simpa using this
    unfold maxLen
    omega
  · have e : (dtL xs).getD j ByteArray.empty = ByteArray.empty := by simp [dtL, List.getD, List.getElem?_eq_none (Nat.le_of_not_lt hj)]
    rw [e]; exact Nat.zero_le _
theorem own_empty1 (W : World) (base e : Nat) (hb : base ≤ W.heap.size) : (W.alloc (.cells #[] e)).ownsRow base e 1 (.slice (some ⟨W.heap.size, 0, none⟩) 0 0) 0 [] :=
  ⟨by simp, .inr ⟨W.heap.size, 0, #[], rfl, hb, heap_alloc_new W _, Nat.le_refl _, Nat.zero_le _, by simp, by simp⟩⟩
theorem esums_no (k s c : Int) (A : Option Addr) (l d : Nat) (xs : List SymR) (w : World) (hx : Syms w A l xs) (hl : l ≤ d) (hd : d ≤ maxLen) (hs : storeB k s c xs = false) :
    Calls Tryz.prog 6 #[.agg #[.int .i64 k, .int .i64 s, .int .i64 c, .slice A l d]] w fun e w' => e = .returned (.tuple #[.slice none 0 0, .int .i64 1]) ∧ Below w.heap.size w w' := by
  have b1 : Below w.heap.size w (w.alloc (.cells #[.int .i64 k, .int .i64 s, .int .i64 c, .slice A l d] 24)) := (Below.refl _ _).alloc (Nat.le_refl _) _
  have HR := Lib.hid (eright_any k s c A l d xs _ (hx.below b1) hl hd)
  rw [hs] at HR
  have HB := Lib.hid b1
  obtain ⟨r0, r1, r2, r3, -, -, -, -⟩ := (Box.new w 24 #[.int .i64 k, .int .i64 s, .int .i64 c, .slice A l d]).four
  clear hx b1 hs
  go_enter Tryz.func6, Tryz.ntmps6
  go_wp2_with fail
  refine HR.out.mono ?_
  rintro e w1 ⟨rfl, hb⟩
  replace HB := Lib.hid (chain HB.out hb)
  clear hb r0 r1 r2 r3
  go_wp2_with fail
  go_ret2
  exact ⟨rfl, HB.out⟩
theorem esums_yes (k s c : Int) (A : Option Addr) (l d : Nat) (xs : List SymR) (w : World) (hx : Syms w A l xs) (hl : l ≤ d) (hd : d ≤ maxLen) (hs : storeB k s c xs = true) :
    Calls Tryz.prog 6 #[.agg #[.int .i64 k, .int .i64 s, .int .i64 c, .slice A l d]] w fun e w' => ∃ A' c', e = .returned (.tuple #[.slice A' l c', .int .i64 0]) ∧ Texts w' A' l (dtL xs) ∧ Below w.heap.size w w' := by
  obtain ⟨hk, -, hc, hlc⟩ := storeB_bd hs
  obtain ⟨i0, hi, hz0, hz1, hz2⟩ := info_parts string_info
  have HI := Lib.hid hi
  have HZ0 := Lib.hid hz0
  have HZ1 := Lib.hid hz1
  have HZ2 := Lib.hid hz2
  have b1 : Below w.heap.size w (w.alloc (.cells #[.int .i64 k, .int .i64 s, .int .i64 c, .slice A l d] 24)) := (Below.refl _ _).alloc (Nat.le_refl _) _
  have Q := Lib.hid (Box.new w 24 #[.int .i64 k, .int .i64 s, .int .i64 c, .slice A l d])
  have HB := Lib.hid b1
  have HXl := Lib.hid hx.1
  have HLE := Lib.hid (dtL_le hs)
  have hl64 : l ≤ 64 := by have := hx.1; omega
  have HX := Lib.hid (hx.below b1)
  have HR := Lib.hid (eright_any k s c A l d xs _ (hx.below b1) hl hd)
  rw [hs] at HR
  obtain ⟨r0, r1, r2, r3, -, -, -, -⟩ := Q.out.four
  clear hx b1 hs hi hz0 hz1 hz2
  go_enter Tryz.func6, Tryz.ntmps6
  go_wp2_with fail
  refine HR.out.mono ?_
  rintro e w1 ⟨rfl, hb⟩
  replace HB := Lib.hid (chain HB.out hb)
  replace Q := Lib.hid (Q.out.keep hb)
  replace HX := Lib.hid (HX.out.below hb)
  clear hb r0 r1 r2 r3 HR
  obtain ⟨r0, r1, r2, r3, -, -, -, -⟩ := Q.out.four
  go_wp2_with fail
  clear r0 r1 r2 r3
  go_loopw [4, 13] (fun v t wr => ∃ i : Nat, i ≤ l ∧ t = .int .i64 i ∧ wr.ownsRow w1.heap.size 9 1 v i ((dtL (xs.take i)).map Value.string) ∧ Below w1.heap.size w1 wr) (fun _ t _ => l - (intOf t).toNat)
  case atStart => exact ⟨0, Nat.zero_le _, rfl, World.ownsRow_nil _ _ _ _, Below.refl _ _⟩
  case round =>
    obtain ⟨i, hi, rfl, hown, hbel⟩ := hrel
    have HO := Lib.hid hown
    have HC := Lib.hid hbel
    clear hown hbel
    by_cases hlt : i < l
    · have hlt' : (i : Int) < (l : Int) := Int.ofNat_lt.2 hlt
      obtain ⟨b, off, rfl, hb, x0, x1⟩ := Syms.two HX.out i hlt
      have x0 := (HC.out.cell (p := ⟨b, off + i * 2, none⟩) hb).trans x0
      have x1 := (HC.out.cell (p := ⟨b, off + i * 2 + 1, none⟩) hb).trans x1
      have HS := Lib.hid (dtL_snoc xs i (by rw [HXl.out]; exact hlt))
      generalize xs.getD i default = p at *
      obtain ⟨p0, p1⟩ := p
      dsimp only at x0 x1 HS
      have G := Lib.hid (Box.new wr 46 #[.int .u64 (p0 : Nat), .string p1])
      have c1 := Lib.hid (show Below wr.heap.size wr (wr.alloc (.cells #[.int .u64 (p0 : Nat), .string p1] 46)) from (Below.refl _ _).alloc (Nat.le_refl _) _)
      have c2 := Lib.hid (show Below wr.heap.size wr ((wr.alloc (.cells #[.int .u64 (p0 : Nat), .string p1] 46)).alloc (.cells #[.string p1] 9)) from c1.out.alloc c1.out.size _)
      have XO := Lib.hid (own_keep HO.out c2.out)
      have XB := Lib.hid (HC.out.trans (c2.out.mono HC.out.size))
      have N2 := Lib.hid (fun g hg => (HO.out.lt g hg).1)
      have NW := Lib.hid (show ∀ j u, ([Value.string p1])[j]? = some u → ((wr.alloc (.cells #[.int .u64 (p0 : Nat), .string p1] 46)).alloc (.cells #[.string p1] 9)).cell? ((⟨wr.heap.size + 1, 0, none⟩ : Addr).add j) = some u from by
        have := World.news_of_block (Box.new (wr.alloc (.cells #[.int .u64 (p0 : Nat), .string p1] 46)) 9 #[.string p1])
        rw [World.size_alloc] at this
        exact this)
      obtain ⟨g0, g1, -, -⟩ := G.out.two
      clear G c1
      go_wp2_with (at_builtin; refine wpList_append_own _ rfl _ _ 32 rfl w1.heap.size 9 i0 (.string ⟨#[]⟩) 1 16 Tryz.underlying32 HI.out HZ0.out HZ1.out HZ2.out rfl (by decide) _ _ _ rfl XO.out ⟨wr.heap.size + 1, 0, none⟩ 1 1 [.string p1] rfl rfl NW.out (by simp [Value.oneCell']) (by simp [maxLen]; omega) (by omega) (XB.out.size) ?_; intro v' w2 hown' hgrow _; have HC2 := Lib.hid (XB.out.grown hgrow XB.out.size N2.out); have HO2 := Lib.hid hown'; clear hown' hgrow)
      go_roundw
      case rel =>
        refine ⟨i + 1, hlt, by go_num, ?_, HC2.out⟩
        rw [HS.out]
        exact HO2.out
      case measure => simp [intOf] <;> omega
    · obtain rfl : l = i := by omega
      have hlt' : ¬ (l : Int) < (l : Int) := Int.lt_irrefl _
      have HTK := Lib.hid (show xs.take l = xs from List.take_of_length_le (by rw [HXl.out]; exact Nat.le_refl _))
      rw [HTK.out] at HO
      obtain ⟨A7, c7, hv, e1, e2, ht⟩ := own_texts HO.out HLE.out
      subst hv
      have HT := Lib.hid ht
      have BB := Lib.hid (chain HB.out HC.out)
      clear HO HTK HC ht
      go_wp2_with fail
      go_ret2
      exact ⟨A7, ⟨c7, rfl⟩, HT.out, BB.out⟩
theorem refSums12_any (k s c : Int) (A : Option Addr) (l d : Nat) (xs : List SymR) (w : World) (hx : Syms w A l xs) (hl : l ≤ d) (hd : d ≤ maxLen) (hs : storeB k s c xs = true) :
    Calls Tryz.prog 14 #[.agg #[.int .i64 k, .int .i64 s, .int .i64 c, .slice A l d]] w fun e w' => ∃ A' c', e = .returned (.slice A' l c') ∧ Texts w' A' l (dtL xs) ∧ Below w.heap.size w w' := by
  obtain ⟨hk, -, hc, hlc⟩ := storeB_bd hs
  obtain ⟨i0, hi, hz0, hz1, hz2⟩ := info_parts string_info
  have HI := Lib.hid hi
  have HZ0 := Lib.hid hz0
  have HZ1 := Lib.hid hz1
  have HZ2 := Lib.hid hz2
  have b1 : Below w.heap.size w (w.alloc (.cells #[.int .i64 k, .int .i64 s, .int .i64 c, .slice A l d] 24)) := (Below.refl _ _).alloc (Nat.le_refl _) _
  have Q := Lib.hid ((Box.new w 24 #[.int .i64 k, .int .i64 s, .int .i64 c, .slice A l d]).alloc (.cells #[] 9))
  have HO0 := Lib.hid (own_empty1 (w.alloc (.cells #[.int .i64 k, .int .i64 s, .int .i64 c, .slice A l d] 24)) w.heap.size 9 (by simp))
  have HB := Lib.hid (b1.alloc b1.size (.cells #[] 9))
  have HXl := Lib.hid hx.1
  have HLE := Lib.hid (dtL_le hs)
  have hl64 : l ≤ 64 := by have := hx.1; omega
  have HX0 := Lib.hid hx
  have HX := Lib.hid (hx.below (b1.alloc b1.size (.cells #[] 9)))
  simp only [World.size_alloc] at HO0
  obtain ⟨r0, r1, r2, r3, -, -, -, -⟩ := Q.out.four
  clear hx b1 hs hi hz0 hz1 hz2
  go_enter Tryz.func14, Tryz.ntmps14
  go_wp2_with fail
  clear r0 r1 r2 r3
  go_loopw [3, 10] (fun v t wr => ∃ i : Nat, i ≤ l ∧ t = .int .i64 i ∧ wr.ownsRow w.heap.size 9 1 v i ((dtL (xs.take i)).map Value.string) ∧ Below w.heap.size w wr) (fun _ t _ => l - (intOf t).toNat)
  case atStart => exact ⟨0, Nat.zero_le _, rfl, HO0.out, HB.out⟩
  case round =>
    obtain ⟨i, hi, rfl, hown, hbel⟩ := hrel
    have HO := Lib.hid hown
    have HC := Lib.hid hbel
    clear hown hbel
    by_cases hlt : i < l
    · have hlt' : (i : Int) < (l : Int) := Int.ofNat_lt.2 hlt
      obtain ⟨b, off, rfl, hb, x0, x1⟩ := Syms.two HX0.out i hlt
      have x0 := (HC.out.cell (p := ⟨b, off + i * 2, none⟩) hb).trans x0
      have x1 := (HC.out.cell (p := ⟨b, off + i * 2 + 1, none⟩) hb).trans x1
      have HS := Lib.hid (dtL_snoc xs i (by rw [HXl.out]; exact hlt))
      generalize xs.getD i default = p at *
      obtain ⟨p0, p1⟩ := p
      dsimp only at x0 x1 HS
      have G := Lib.hid (Box.new wr 46 #[.int .u64 (p0 : Nat), .string p1])
      have c1 := Lib.hid (show Below wr.heap.size wr (wr.alloc (.cells #[.int .u64 (p0 : Nat), .string p1] 46)) from (Below.refl _ _).alloc (Nat.le_refl _) _)
      have c2 := Lib.hid (show Below wr.heap.size wr ((wr.alloc (.cells #[.int .u64 (p0 : Nat), .string p1] 46)).alloc (.cells #[.string p1] 9)) from c1.out.alloc c1.out.size _)
      have XO := Lib.hid (own_keep HO.out c2.out)
      have XB := Lib.hid (HC.out.trans (c2.out.mono HC.out.size))
      have N2 := Lib.hid (fun g hg => (HO.out.lt g hg).1)
      have NW := Lib.hid (show ∀ j u, ([Value.string p1])[j]? = some u → ((wr.alloc (.cells #[.int .u64 (p0 : Nat), .string p1] 46)).alloc (.cells #[.string p1] 9)).cell? ((⟨wr.heap.size + 1, 0, none⟩ : Addr).add j) = some u from by
        have := World.news_of_block (Box.new (wr.alloc (.cells #[.int .u64 (p0 : Nat), .string p1] 46)) 9 #[.string p1])
        rw [World.size_alloc] at this
        exact this)
      obtain ⟨g0, g1, -, -⟩ := G.out.two
      clear G c1
      go_wp2_with (at_builtin; refine wpList_append_own _ rfl _ _ 32 rfl w.heap.size 9 i0 (.string ⟨#[]⟩) 1 16 Tryz.underlying32 HI.out HZ0.out HZ1.out HZ2.out rfl (by decide) _ _ _ rfl XO.out ⟨wr.heap.size + 1, 0, none⟩ 1 1 [.string p1] rfl rfl NW.out (by simp [Value.oneCell']) (by simp [maxLen]; omega) (by omega) (XB.out.size) ?_; intro v' w2 hown' hgrow _; have HC2 := Lib.hid (XB.out.grown hgrow XB.out.size N2.out); have HO2 := Lib.hid hown'; clear hown' hgrow)
      go_roundw
      case rel =>
        refine ⟨i + 1, hlt, by go_num, ?_, HC2.out⟩
        rw [HS.out]
        exact HO2.out
      case measure => simp [intOf] <;> omega
    · obtain rfl : l = i := by omega
      have hlt' : ¬ (l : Int) < (l : Int) := Int.lt_irrefl _
      have HTK := Lib.hid (show xs.take l = xs from List.take_of_length_le (by rw [HXl.out]; exact Nat.le_refl _))
      rw [HTK.out] at HO
      obtain ⟨A7, c7, hv, e1, e2, ht⟩ := own_texts HO.out HLE.out
      subst hv
      have HT := Lib.hid ht
      have HC9 := HC
      clear HO HTK HC ht
      go_wp2_with fail
      go_ret
      exact ⟨A7, ⟨c7, rfl⟩, HT.out, HC9.out⟩
theorem bytes_step (i s k : Nat) (hi : i ≤ 64) (hs : s ≤ 64) (hk : k ≤ 64) : bytesI (i + 1) s k = bytesI i s k + s + (k + 7) / 8 := by
  unfold bytesI; rw [Nat.add_mul]; omega
theorem refBytes12_any (k s : Nat) (c : Int) (A : Option Addr) (l d : Nat) (xs : List SymR) (w : World) (hx : Syms w A l xs) (hl : l ≤ d) (hd : d ≤ maxLen) (hs : storeB k s c xs = true) :
    Calls Tryz.prog 16 #[.agg #[.int .i64 k, .int .i64 s, .int .i64 c, .slice A l d]] w fun e w' => e = .returned (.int .i64 (bytesI l s k : Nat)) ∧ Below w.heap.size w w' := by
  obtain ⟨hk, hsz, hc, hlc⟩ := storeB_bd hs
  have HB := Lib.hid (show Below w.heap.size w (w.alloc (.cells #[.int .i64 k, .int .i64 s, .int .i64 c, .slice A l d] 24)) from (Below.refl _ _).alloc (Nat.le_refl _) _)
  have Q := Lib.hid (Box.new w 24 #[.int .i64 k, .int .i64 s, .int .i64 c, .slice A l d])
  have hl64 : l ≤ 64 := by have := hx.1; omega
  have k64 : k ≤ 64 := by omega
  have s64 : s ≤ 64 := by omega
  have HP := Lib.hid (fun i hi => bytes_step i s k hi s64 k64)
  have HM := Lib.hid (fun i (hi : i ≤ 64) => show bytesI i s k ≤ 64 * 72 from Nat.mul_le_mul hi (by omega))
  obtain ⟨r0, r1, r2, r3, -, -, -, -⟩ := Q.out.four
  clear hx hs
  go_enter Tryz.func16, Tryz.ntmps16
  go_wp2_with fail
  go_loopw [3, 7] (fun v t wr => ∃ i : Nat, i ≤ l ∧ t = .int .i64 i ∧ v = .int .i64 (bytesI i s k : Nat) ∧ wr = w.alloc (.cells #[.int .i64 k, .int .i64 s, .int .i64 c, .slice A l d] 24)) (fun _ t _ => l - (intOf t).toNat)
  case atStart => exact ⟨0, Nat.zero_le _, rfl, by simp [bytesI], rfl⟩
  case round =>
    obtain ⟨i, hi, rfl, rfl, rfl⟩ := hrel
    by_cases hlt : i < l
    · have hlt' : (i : Int) < (l : Int) := Int.ofNat_lt.2 hlt
      have hp := HP.out i (by omega)
      have hm := HM.out i (by omega)
      have hp' : ((bytesI (i + 1) s k : Nat) : Int) = (bytesI i s k : Nat) + (s : Int) + ((k : Int) + 7) / 8 := by rw [hp]; push_cast; rfl
      have HP9 := Lib.hid hp'
      clear hp hp'
      generalize bytesI i s k = b0 at *
      have q1 : (b0 : Int) ≤ 4608 := by omega
      go_wp2_with fail
      go_roundw
      case rel => exact ⟨i + 1, hlt, by go_num, by rw [HP9.out], trivial⟩
      case measure => simp [intOf] <;> omega
    · obtain rfl : l = i := by omega
      have hlt' : ¬ (l : Int) < (l : Int) := Int.lt_irrefl _
      go_wp2_with fail
      go_ret
      exact ⟨rfl, HB.out⟩
set_option maxHeartbeats 4000000 in
theorem refRows12_any (k : Nat) (s c : Int) (A : Option Addr) (l d : Nat) (xs : List SymR) (w : World) (hx : Syms w A l xs) (hl : l ≤ d) (hd : d ≤ maxLen) (h1 : 1 ≤ k) (h2 : k ≤ 64) (hl64 : l ≤ 64) (hid : ∀ j, (xs.getD j default).1 < 18446744073709551616) :
    Calls Tryz.prog 12 #[.agg #[.int .i64 k, .int .i64 s, .int .i64 c, .slice A l d]] w fun e w' => ∃ A' c', e = .returned (.agg #[.int .i64 k, .slice A' l c']) ∧ MatW w' w.heap.size k (.slice A' l c') ((idN xs).map (nbRow k)) ∧ Below w.heap.size w w' := by
  have HS := Lib.hid (fun id hi w => refRow_own k id h1 h2 hi w)
  have HX := Lib.hid hx
  have HXl := Lib.hid hx.1
  have HID := Lib.hid hid
  obtain ⟨i0, hi, hz0, hz1, hz2⟩ := info_parts row_infoV
  have HI := Lib.hid hi
  have HZ0 := Lib.hid hz0
  have HZ1 := Lib.hid hz1
  have HZ2 := Lib.hid hz2
  clear hi hz0 hz1 hz2 hx hid
  have QS := Lib.hid (((Box.new w 24 #[.int .i64 k, .int .i64 s, .int .i64 c, .slice A l d]).alloc (.cells #[.int .i64 0, .slice none 0 0] 28)).alloc (.cells #[.int .i64 k, .slice none 0 0] 28))
  have q0 := (Box.new (w.alloc (.cells #[.int .i64 k, .int .i64 s, .int .i64 c, .slice A l d] 24)) 28 #[.int .i64 0, .slice none 0 0]).alloc (.cells #[.int .i64 k, .slice none 0 0] 28)
  have q1 := Box.new ((w.alloc (.cells #[.int .i64 k, .int .i64 s, .int .i64 c, .slice A l d] 24)).alloc (.cells #[.int .i64 0, .slice none 0 0] 28)) 28 #[.int .i64 k, .slice none 0 0]
  have HW := Lib.hid (show Below w.heap.size w (((w.alloc (.cells #[.int .i64 k, .int .i64 s, .int .i64 c, .slice A l d] 24)).alloc (.cells #[.int .i64 0, .slice none 0 0] 28)).alloc (.cells #[.int .i64 k, .slice none 0 0] 28)) from (((Below.refl _ _).alloc (Nat.le_refl _) _).alloc (by simp) _).alloc (by simp; omega) _)
  simp only [World.size_alloc] at q0 q1
  have Q0 := Lib.hid q0
  have Q1 := Lib.hid q1
  clear q0 q1
  obtain ⟨r0, r1, r2, r3, -, -, -, -⟩ := QS.out.four
  have QS0 := Lib.hid ((Box.new w 24 #[.int .i64 k, .int .i64 s, .int .i64 c, .slice A l d]).alloc (.cells #[.int .i64 0, .slice none 0 0] 28))
  obtain ⟨u0, u1, u2, u3, -, -, -, -⟩ := QS0.out.four
  go_enter Tryz.func12, Tryz.ntmps12
  go_wp2_with fail
  clear r0 r1 r2 r3 u0 u1 u2 u3 QS0
  go_loopw [12] (fun t wr => ∃ (i : Nat) (v : Value), i ≤ l ∧ t = .int .i64 i ∧ Box wr (w.heap.size + 2) 28 #[.int .i64 k, v] ∧ MatW wr w.heap.size k v ((idN (xs.take i)).map (nbRow k)) ∧ Box wr (w.heap.size + 1) 28 #[.int .i64 0, .slice none 0 0] ∧ Box wr w.heap.size 24 #[.int .i64 k, .int .i64 s, .int .i64 c, .slice A l d] ∧ Below w.heap.size w wr) (fun t _ => l - (intOf t).toNat)
  case atStart => exact ⟨0, _, by omega, rfl, Q1.out, MatW.nil _ _ _, Q0.out, QS.out, HW.out⟩
  case round =>
    obtain ⟨i, v, hi, rfl, B1, hmat, B0, BS, hbel⟩ := hrel
    have R1 := Lib.hid B1
    have R0 := Lib.hid B0
    have RS := Lib.hid BS
    have HMa := Lib.hid hmat
    have HB := Lib.hid hbel
    clear B1 B0 BS hmat hbel Q0 Q1 QS HW
    by_cases hlt : i < l
    · have hlt' : (i : Int) < (l : Int) := by omega
      obtain ⟨b, off, rfl, hb, x0, x1⟩ := Syms.two HX.out i hlt
      have x0 := (HB.out.cell (p := ⟨b, off + i * 2, none⟩) hb).trans x0
      have x1 := (HB.out.cell (p := ⟨b, off + i * 2 + 1, none⟩) hb).trans x1
      have HTK := Lib.hid (show (idN (xs.take (i + 1))).map (nbRow k) = (idN (xs.take i)).map (nbRow k) ++ [nbRow k (xs.getD i default).1] by unfold idN; rw [take_snocD xs i (by rw [HXl.out]; exact hlt)]; simp)
      have HTL := Lib.hid (show ((idN (xs.take i)).map (nbRow k)).length = i by have := HXl.out; simp [idN]; omega)
      have HXi := Lib.hid (HID.out i)
      generalize xs.getD i default = p at *
      obtain ⟨p0, p1⟩ := p
      dsimp only at x0 x1 HTK HXi
      have G := Lib.hid (Box.new wr 46 #[.int .u64 (p0 : Nat), .string p1])
      replace R1 := Lib.hid (R1.out.alloc (.cells #[.int .u64 (p0 : Nat), .string p1] 46))
      replace R0 := Lib.hid (R0.out.alloc (.cells #[.int .u64 (p0 : Nat), .string p1] 46))
      replace RS := Lib.hid (RS.out.alloc (.cells #[.int .u64 (p0 : Nat), .string p1] 46))
      replace HMa := Lib.hid (HMa.out.alloc (.cells #[.int .u64 (p0 : Nat), .string p1] 46))
      replace HB := Lib.hid (HB.out.alloc HB.out.size (.cells #[.int .u64 (p0 : Nat), .string p1] 46))
      obtain ⟨g0, g1, -, -⟩ := G.out.two
      obtain ⟨a0, a1, f0, f1⟩ := R1.out.two
      obtain ⟨r0, r1, r2, r3, -, -, -, -⟩ := RS.out.four
      obtain ⟨rs, hr1, hr2, hr3⟩ := HMa.out
      rw [HTL.out] at hr1 hr2 hr3
      have HOW := Lib.hid hr2
      have HRS := Lib.hid hr3
      clear hr2 hr3
      go_wp2_with fail
      generalize wr.alloc (.cells #[.int .u64 (p0 : Nat), .string p1] 46) = W9 at *
      go_region_law (first
        | (go_simp; go_at_call 24; refine (HS.out p0 HXi.out _).mono ?_; rintro e1 x9 ⟨A1, l1, c1, rfl, hw, hb⟩; have S1 := Lib.hid (R1.out.drew.keep hb); have S0 := Lib.hid (R0.out.drew.keep hb); have SS := Lib.hid (RS.out.drew.keep hb); have SO := Lib.hid (own_keep (own_drew HOW.out) hb); have SR := Lib.hid (fun j hj => (HRS.out j hj).drew.below hb); have SB := Lib.hid (chain HB.out.drew hb); have SW := Lib.hid hw; clear hb hw; have T1 := Lib.hid (S1.out.alloc (.cells #[.int .i64 k, .slice A1 l1 c1] 56)); obtain ⟨s0, s1, sf0, sf1⟩ := S1.out.two; obtain ⟨t0, t1, tf0, tf1⟩ := T1.out.two; have hb0 := SB.out.size; have hn0 := SO.out.lt)
        | (refine step_append_lies _ rfl (.tmp 17) (.tmp 23) 26 rfl w.heap.size 56 i0 (.agg #[.int .i64 0, .slice none 0 0]) 2 32 Tryz.underlying26 HI.out HZ0.out HZ1.out HZ2.out rfl (by decide) v i (flatR k rs) (by simp [Act.eval, Act.put]) (World.ownsRow.alloc SO.out (.cells #[.int .i64 k, .slice A1 l1 c1] 56)) ⟨x9.heap.size, 0, none⟩ 1 1 [.int .i64 k, .slice A1 l1 c1] (by simp [Act.eval, Act.put]) rfl (World.news_of_block (Box.new x9 56 #[.int .i64 k, .slice A1 l1 c1])) (by simp [Value.oneCell']) (by omega) (by simp [maxLen]; omega) (by omega) (by simp; omega) _ rfl ?_; intro g cap w1 hown hgrow _ _; have V1 := Lib.hid (T1.out.grown hgrow (own_ne SO.out S1.out (by decide))); have HO2 := Lib.hid hown; have HG := Lib.hid hgrow; clear hown hgrow; obtain ⟨v0, v1, vf0, vf1⟩ := V1.out.two))
      all_goals
        have W0 := Lib.hid ((S0.out.alloc (.cells #[.int .i64 k, .slice A1 l1 c1] 56)).grown HG.out (own_ne SO.out S0.out (by decide)))
        have WS := Lib.hid ((SS.out.alloc (.cells #[.int .i64 k, .slice A1 l1 c1] 56)).grown HG.out (own_ne SO.out SS.out (by decide)))
        have WB := Lib.hid ((SB.out.alloc SB.out.size (.cells #[.int .i64 k, .slice A1 l1 c1] 56)).grown HG.out (SB.out.alloc SB.out.size (.cells #[.int .i64 k, .slice A1 l1 c1] 56)).size (fun k hk => (SO.out.lt k hk).1))
        have WR := Lib.hid (fun j hj => OwnW.grown ((SR.out j hj).alloc (.cells #[.int .i64 k, .slice A1 l1 c1] 56)) (World.ownsRow.alloc SO.out (.cells #[.int .i64 k, .slice A1 l1 c1] 56)) (by decide) HG.out)
        have WW := Lib.hid (OwnW.grown (SW.out.alloc (.cells #[.int .i64 k, .slice A1 l1 c1] 56)) (World.ownsRow.alloc SO.out (.cells #[.int .i64 k, .slice A1 l1 c1] 56)) (by decide) HG.out)
        have WM := Lib.hid (MatW.snoc (ls := (idN (xs.take i)).map (nbRow k)) (by rw [HTL.out]; exact hr1) (by rw [HTL.out]; exact HO2.out) (by rw [HTL.out]; exact WR.out) WW.out)
        clear HG SO SR SB SW S0 S1 T1 HOW HRS HO2 WR WW HMa R1 R0 RS SS HB
        go_wp2_with fail
        go_roundw
        case rel => exact ⟨i + 1, _, by omega, by go_num, V1.out.put 1 _, by rw [HTK.out]; exact WM.out.far V1.out (by decide) (by decide) 1 _, W0.out.far (p := ⟨w.heap.size + 2, 1, none⟩) (by simp) _, WS.out.far (p := ⟨w.heap.size + 2, 1, none⟩) (by simp) _, WB.out.setCell (p := ⟨w.heap.size + 2, 1, none⟩) (by simp) _⟩
        case measure => simp [intOf] <;> omega
    · obtain rfl : l = i := by omega
      have hlt' : ¬ (l : Int) < (l : Int) := by omega
      have HTK := Lib.hid (show (idN (xs.take l)).map (nbRow k) = (idN xs).map (nbRow k) by rw [show xs.take l = xs from List.take_of_length_le (by rw [HXl.out]; omega)])
      rw [HTK.out] at HMa
      obtain ⟨A', c', hv⟩ := MatW.form HMa.out (show ((idN xs).map (nbRow k)).length = l by rw [List.length_map, idN_len, HXl.out])
      subst hv
      obtain ⟨a0, a1, -, -⟩ := R1.out.two
      obtain ⟨b0, b1, f0, f1⟩ := R0.out.two
      go_wp2_with fail
      refine close_one Tryz.results12 rfl rfl R0.out.put2 Tryz.underlying28 rfl (by kernel_rfl) ⟨A', c', rfl, ?_, ?_⟩
      · exact (HMa.out.far R0.out (by decide) (by decide) 0 _).far (R0.out.put 0 _) (by decide) (by decide) 1 _
      · exact (HB.out.setCell (p := ⟨w.heap.size + 1, 0, none⟩) (by simp) _).setCell (p := ⟨w.heap.size + 1, 1, none⟩) (by simp) _
theorem refRank12_any (k : Nat) (s c : Int) (A : Option Addr) (l d : Nat) (xs : List SymR) (w : World) (hx : Syms w A l xs) (hl : l ≤ d) (hd : d ≤ maxLen) (h1 : 1 ≤ k) (h2 : k ≤ 64) (hl64 : l ≤ 64) (hid : ∀ j, (xs.getD j default).1 < 18446744073709551616) :
    Calls Tryz.prog 15 #[.agg #[.int .i64 k, .int .i64 s, .int .i64 c, .slice A l d]] w fun e w' => ∃ n : Nat, e = .returned (.int .i64 n) ∧ RkIs (rowsN k xs) n ∧ Below w.heap.size w w' := by
  have b1 : Below w.heap.size w (w.alloc (.cells #[.int .i64 k, .int .i64 s, .int .i64 c, .slice A l d] 24)) := (Below.refl _ _).alloc (Nat.le_refl _) _
  have HR := Lib.hid (refRows12_any k s c A l d xs _ (hx.below b1) hl hd h1 h2 hl64 hid)
  have HE := Lib.hid (fun A c lo w hm => refEch_any k (by omega) (rowsN k xs) (rowsN_lt k xs h1 h2) (by rw [rowsN_len, hx.1]; omega) A c lo w hm)
  have HXl := Lib.hid hx.1
  have HB := Lib.hid b1
  obtain ⟨r0, r1, r2, r3, -, -, -, -⟩ := (Box.new w 24 #[.int .i64 k, .int .i64 s, .int .i64 c, .slice A l d]).four
  clear hx b1 hid
  go_enter Tryz.func15, Tryz.ntmps15
  go_wp2_with fail
  refine HR.out.mono ?_
  rintro e w1 ⟨A3, c3, rfl, hm, hb⟩
  obtain ⟨A4, c4, hv, hmat⟩ := MatW.mat h1 h2 hm
  rw [rowsN_len, HXl.out] at hv
  injection hv with e1 e2 e3
  subst e1 e3
  replace HB := Lib.hid (chain HB.out hb)
  have HKK := Lib.hid (HE.out A3 c3 _ _ hmat)
  rw [rowsN_len, HXl.out] at HKK
  clear hb r0 r1 r2 r3 hm hmat
  go_wp2_with fail
  refine HKK.out.mono ?_
  rintro e w2 ⟨M, P, A5, c5, rfl, g1, g2, g3, hb⟩
  have HG := Lib.hid (show RkIs (rowsN k xs) M.length from ⟨M, P, g1, g2, rfl⟩)
  replace HB := Lib.hid (chain HB.out hb)
  clear hb g1 g2 g3
  go_wp2_with fail
  go_ret
  exact ⟨M.length, rfl, HG.out, HB.out⟩
end
section
/- EquationsTell: the walk. -/
set_option linter.unusedVariables false
set_option linter.unusedSimpArgs false
open Go.RowKit
set_option maxRecDepth 100000
set_option maxHeartbeats 16000000 in
theorem eqtell_walk (k s c : Int) (A1 : Option Addr) (l1 d1 : Nat) (xs1 : List SymR) (W : World)
    (z1 : SliceOk A1 l1 d1) (h1 : Syms W A1 l1 xs1) (hid : ∀ j, (xs1.getD j default).1 < 18446744073709551616) :
    Calls Tryz.prog 3 #[.agg #[.int .i64 k, .int .i64 s, .int .i64 c, .slice A1 l1 d1]] W fun e w' => e = .returned (.bool true) ∧ Below W.heap.size W w' := by
  have b1 : Below W.heap.size W (W.alloc (.cells #[.int .i64 k, .int .i64 s, .int .i64 c, .slice A1 l1 d1] 24)) := (Below.refl _ _).alloc (Nat.le_refl _) _
  have Q0 := Lib.hid (Box.new W 24 #[.int .i64 k, .int .i64 s, .int .i64 c, .slice A1 l1 d1])
  have HB := Lib.hid b1
  have H1 := Lib.hid (h1.below b1)
  have HFa := Lib.hid (fun w' h => few12_any k s c A1 l1 d1 xs1 w' h z1.1 z1.2.1 (fun e => (z1.2.2 e).2))
  have L1 := Lib.hid (show (fewS xs1 66).length ≤ 66 by rw [fewS_len]; omega)
  have HID := Lib.hid (fewS_id xs1 hid 66)
  generalize fewS xs1 66 = fs at *
  clear h1 b1 z1 hid
  obtain ⟨r0, r1, r2, r3, -, -, -, -⟩ := Q0.out.four
  go_enter Tryz.func3, Tryz.ntmps3
  go_wp2_with fail
  refine (HFa.out _ H1.out).mono ?_
  rintro e x1 ⟨A3, d3, rfl, ha, hl, hd, hn, hlow, hb⟩
  have P0 := Lib.hid (Q0.out.keep hb)
  have PB := Lib.hid (chain HB.out hb)
  have HA := Lib.hid (Recs.far4 ha (g := W.heap.size) (fun b off h _ => by have h9 := hlow b off h; simp at h9; omega) (.int .i64 k) (.int .i64 s) (.int .i64 c) (.slice A3 fs.length d3))
  clear ha hlow hb r0 r1 r2 r3 H1 HFa
  obtain ⟨u0, u1, u2, u3, i0, i1, i2, i3⟩ := P0.out.four
  have S0 := Lib.hid (P0.out.put4 (a' := .int .i64 k) (b' := .int .i64 s) (c' := .int .i64 c) (d' := .slice A3 fs.length d3))
  have B := Lib.hid (below_set4 PB.out (Nat.le_refl _) (.int .i64 k) (.int .i64 s) (.int .i64 c) (.slice A3 fs.length d3))
  obtain ⟨r0, r1, r2, r3, -, -, -, -⟩ := S0.out.four
  cases hsb : storeB k s c fs with
  | false =>
    go_wp2_with fail
    clear u0 u1 u2 u3 i0 i1 i2 i3 P0 PB Q0 HB
    refine (erows_no k s c A3 fs.length d3 fs _ HA.out hl hd hsb).mono ?_
    rintro e x1 ⟨rfl, hb⟩
    clear r0 r1 r2 r3
    replace S0 := Lib.hid (S0.out.keep hb)
    replace HA := Lib.hid (HA.out.below hb)
    replace B := Lib.hid (chain B.out hb)
    clear hb
    have hal : Below x1.heap.size x1 (x1.alloc (.cells #[.int .i64 0, .slice none 0 0] 28)) := (Below.refl _ _).alloc (Nat.le_refl _) _
    replace S0 := Lib.hid (S0.out.keep hal)
    replace HA := Lib.hid (HA.out.below hal)
    replace B := Lib.hid (chain B.out hal)
    have QM := Lib.hid (Box.new x1 28 #[.int .i64 0, .slice none 0 0])
    clear hal
    obtain ⟨r0, r1, r2, r3, -, -, -, -⟩ := S0.out.four
    obtain ⟨m0, m1, -, -⟩ := QM.out.two
    go_wp2_with fail
    refine (esums_no k s c A3 fs.length d3 fs _ HA.out hl hd hsb).mono ?_
    rintro e x2 ⟨rfl, hb⟩
    clear r0 r1 r2 r3 m0 m1
    replace S0 := Lib.hid (S0.out.keep hb)
    replace HA := Lib.hid (HA.out.below hb)
    replace QM := Lib.hid (QM.out.keep hb)
    replace B := Lib.hid (chain B.out hb)
    clear hb
    obtain ⟨r0, r1, r2, r3, -, -, -, -⟩ := S0.out.four
    obtain ⟨m0, m1, -, -⟩ := QM.out.two
    go_wp2_with fail
    refine (erank_no k s c A3 fs.length d3 fs _ HA.out hl hd hsb).mono ?_
    rintro e x3 ⟨rfl, hb⟩
    clear r0 r1 r2 r3 m0 m1
    replace S0 := Lib.hid (S0.out.keep hb)
    replace HA := Lib.hid (HA.out.below hb)
    replace QM := Lib.hid (QM.out.keep hb)
    replace B := Lib.hid (chain B.out hb)
    clear hb
    obtain ⟨r0, r1, r2, r3, -, -, -, -⟩ := S0.out.four
    obtain ⟨m0, m1, -, -⟩ := QM.out.two
    go_wp2_with fail
    refine (ebytes_no k s c A3 fs.length d3 fs _ HA.out hl hd hsb).mono ?_
    rintro e x4 ⟨rfl, hb⟩
    clear r0 r1 r2 r3 m0 m1
    replace S0 := Lib.hid (S0.out.keep hb)
    replace HA := Lib.hid (HA.out.below hb)
    replace QM := Lib.hid (QM.out.keep hb)
    replace B := Lib.hid (chain B.out hb)
    clear hb
    obtain ⟨r0, r1, r2, r3, -, -, -, -⟩ := S0.out.four
    obtain ⟨m0, m1, -, -⟩ := QM.out.two
    go_wp2_with fail
    refine (refRight12_any k s c A3 fs.length d3 fs _ HA.out hl hd).mono ?_
    rintro e x5 ⟨rfl, hb⟩
    rw [hsb]
    clear r0 r1 r2 r3 m0 m1
    replace S0 := Lib.hid (S0.out.keep hb)
    replace HA := Lib.hid (HA.out.below hb)
    replace QM := Lib.hid (QM.out.keep hb)
    replace B := Lib.hid (chain B.out hb)
    clear hb
    obtain ⟨r0, r1, r2, r3, -, -, -, -⟩ := S0.out.four
    obtain ⟨m0, m1, -, -⟩ := QM.out.two
    go_wp2_with fail
    refine (alive12_any _).mono ?_
    rintro e x6 ⟨rfl, hb⟩
    clear r0 r1 r2 r3 m0 m1
    replace S0 := Lib.hid (S0.out.keep hb)
    replace HA := Lib.hid (HA.out.below hb)
    replace QM := Lib.hid (QM.out.keep hb)
    replace B := Lib.hid (chain B.out hb)
    clear hb
    obtain ⟨r0, r1, r2, r3, -, -, -, -⟩ := S0.out.four
    obtain ⟨m0, m1, -, -⟩ := QM.out.two
    go_wp2_with fail
    refine (same3_yes 0 0 0 0 0 0 none none [] _ (MatW.nil _ _ _) (MatW.nil _ _ _) rfl (by intro j i; simp) (by intro j; simp) (by decide)).mono ?_
    rintro e x7 ⟨rfl, hb⟩
    clear r0 r1 r2 r3 m0 m1
    replace S0 := Lib.hid (S0.out.keep hb)
    replace HA := Lib.hid (HA.out.below hb)
    replace QM := Lib.hid (QM.out.keep hb)
    replace B := Lib.hid (chain B.out hb)
    clear hb
    obtain ⟨r0, r1, r2, r3, -, -, -, -⟩ := S0.out.four
    obtain ⟨m0, m1, -, -⟩ := QM.out.two
    go_wp2_with fail
    go_ret
    exact ⟨rfl, B.out⟩
  | true =>
    obtain ⟨bk, bs, bc, bl⟩ := storeB_bd hsb
    obtain ⟨kn, rfl⟩ : ∃ n : Nat, k = n := Int.eq_ofNat_of_zero_le (by omega)
    obtain ⟨sn, rfl⟩ : ∃ n : Nat, s = n := Int.eq_ofNat_of_zero_le (by omega)
    obtain ⟨cn, rfl⟩ : ∃ n : Nat, c = n := Int.eq_ofNat_of_zero_le (by omega)
    have K1 : 1 ≤ kn := by omega
    have K2 : kn ≤ 64 := by omega
    have l64 : fs.length ≤ 64 := by omega
    go_wp2_with fail
    clear u0 u1 u2 u3 i0 i1 i2 i3 P0 PB Q0 HB bk bs bc bl
    refine (erows_yes kn sn cn A3 fs.length d3 fs _ HA.out hl hd hsb HID.out).mono ?_
    rintro e x1 ⟨A4, c4, b4, rfl, q5, hb⟩
    clear r0 r1 r2 r3
    have HM := Lib.hid (q5)
    replace S0 := Lib.hid (S0.out.keep hb)
    replace HA := Lib.hid (HA.out.below hb)
    replace B := Lib.hid (chain B.out hb)
    clear hb
    clear q5
    have hal : Below x1.heap.size x1 (x1.alloc (.cells #[.int .i64 (kn : Nat), .slice A4 fs.length c4] 28)) := (Below.refl _ _).alloc (Nat.le_refl _) _
    replace S0 := Lib.hid (S0.out.keep hal)
    replace HA := Lib.hid (HA.out.below hal)
    replace HM := Lib.hid (HM.out.below hal)
    replace B := Lib.hid (chain B.out hal)
    have QM := Lib.hid (Box.new x1 28 #[.int .i64 (kn : Nat), .slice A4 fs.length c4])
    clear hal
    obtain ⟨r0, r1, r2, r3, -, -, -, -⟩ := S0.out.four
    obtain ⟨m0, m1, -, -⟩ := QM.out.two
    go_wp2_with fail
    refine (esums_yes kn sn cn A3 fs.length d3 fs _ HA.out hl hd hsb).mono ?_
    rintro e x2 ⟨A5, c5, rfl, q5, hb⟩
    clear r0 r1 r2 r3 m0 m1
    have HT := Lib.hid (q5)
    replace S0 := Lib.hid (S0.out.keep hb)
    replace HA := Lib.hid (HA.out.below hb)
    replace HM := Lib.hid (HM.out.below hb)
    replace QM := Lib.hid (QM.out.keep hb)
    replace B := Lib.hid (chain B.out hb)
    clear hb
    clear q5
    obtain ⟨r0, r1, r2, r3, -, -, -, -⟩ := S0.out.four
    obtain ⟨m0, m1, -, -⟩ := QM.out.two
    go_wp2_with fail
    refine (erank_yes kn sn cn A3 fs.length d3 fs _ HA.out hl hd hsb HID.out).mono ?_
    rintro e x3 ⟨n, rfl, q5, hb⟩
    clear r0 r1 r2 r3 m0 m1
    replace S0 := Lib.hid (S0.out.keep hb)
    replace HA := Lib.hid (HA.out.below hb)
    replace HM := Lib.hid (HM.out.below hb)
    replace QM := Lib.hid (QM.out.keep hb)
    replace HT := Lib.hid (HT.out.below hb)
    replace B := Lib.hid (chain B.out hb)
    clear hb
    have RK := Lib.hid q5
    clear q5
    obtain ⟨r0, r1, r2, r3, -, -, -, -⟩ := S0.out.four
    obtain ⟨m0, m1, -, -⟩ := QM.out.two
    go_wp2_with fail
    refine (ebytes_yes kn sn cn A3 fs.length d3 fs _ HA.out hl hd hsb).mono ?_
    rintro e x4 ⟨rfl, hb⟩
    clear r0 r1 r2 r3 m0 m1
    replace S0 := Lib.hid (S0.out.keep hb)
    replace HA := Lib.hid (HA.out.below hb)
    replace HM := Lib.hid (HM.out.below hb)
    replace QM := Lib.hid (QM.out.keep hb)
    replace HT := Lib.hid (HT.out.below hb)
    replace B := Lib.hid (chain B.out hb)
    clear hb
    obtain ⟨r0, r1, r2, r3, -, -, -, -⟩ := S0.out.four
    obtain ⟨m0, m1, -, -⟩ := QM.out.two
    have HRR := Lib.hid (fun w' h => refRows12_any kn sn cn A3 fs.length d3 fs w' h hl hd K1 K2 l64 HID.out)
    have HRS := Lib.hid (fun w' h => refSums12_any kn sn cn A3 fs.length d3 fs w' h hl hd hsb)
    have HRK := Lib.hid (fun w' h => refRank12_any kn sn cn A3 fs.length d3 fs w' h hl hd K1 K2 l64 HID.out)
    have HRB := Lib.hid (fun w' h => refBytes12_any kn sn cn A3 fs.length d3 fs w' h hl hd hsb)
    have HLM := Lib.hid (show ((idN fs).map (nbRow kn)).length = fs.length by rw [List.length_map, idN_len])
    have HLT := Lib.hid (show ∀ j i, (((idN fs).map (nbRow kn)).getD j []).getD i 0 < 18446744073709551616 from fun j i => rowsRows_lt kn _ j i)
    have HLL := Lib.hid (show ∀ j, (((idN fs).map (nbRow kn)).getD j []).length ≤ 1000 from fun j => rowsRows_len kn K2 _ j)
    generalize bytesI fs.length sn kn = by_ at *
    go_wp2_with fail
    refine (refRight12_any kn sn cn A3 fs.length d3 fs _ HA.out hl hd).mono ?_
    rintro e x5 ⟨rfl, hb⟩
    rw [hsb]
    clear r0 r1 r2 r3 m0 m1
    replace S0 := Lib.hid (S0.out.keep hb)
    replace HA := Lib.hid (HA.out.below hb)
    replace HM := Lib.hid (HM.out.below hb)
    replace QM := Lib.hid (QM.out.keep hb)
    replace HT := Lib.hid (HT.out.below hb)
    replace B := Lib.hid (chain B.out hb)
    clear hb
    obtain ⟨r0, r1, r2, r3, -, -, -, -⟩ := S0.out.four
    obtain ⟨m0, m1, -, -⟩ := QM.out.two
    go_wp2_with fail
    have HL9 := Lib.hid (show fs.length ≤ 1000 by omega)
    have HL8 := Lib.hid (show fs.length ≤ 1000000 by omega)
    go_region_held3 (fun (w' : World) => w'.cell? ⟨W.heap.size, 0, none⟩ = some (.int .i64 (kn : Nat)) ∧ w'.cell? ⟨W.heap.size, 1, none⟩ = some (.int .i64 (sn : Nat)) ∧ w'.cell? ⟨W.heap.size, 2, none⟩ = some (.int .i64 (cn : Nat)) ∧ w'.cell? ⟨W.heap.size, 3, none⟩ = some (.slice A3 fs.length d3) ∧ w'.cell? ⟨x1.heap.size, 0, none⟩ = some (.int .i64 (kn : Nat)) ∧ w'.cell? ⟨x1.heap.size, 1, none⟩ = some (.slice A4 fs.length c4)) (go_keep)
      (first
        | (go_at_call 10; refine (alive12_any _).mono ?_; rintro f1 w1 ⟨rfl, hb⟩; have S0_1 := Lib.hid (S0.out.drew.keep hb); have QM_1 := Lib.hid (QM.out.drew.keep hb); have HA_1 := Lib.hid (Recs.below HA.out.drew hb); have HM_1 := Lib.hid (MatW.below (w := World.drew _) HM.out hb); have HT_1 := Lib.hid (Texts.below (w := World.drew _) HT.out hb); have B_1 := Lib.hid (chain B.out.drew hb); clear hb; obtain ⟨y10, y11, y12, y13, -, -, -, -⟩ := S0_1.out.four; obtain ⟨z10, z11, -, -⟩ := QM_1.out.two)
        | (go_at_call 12; refine (HRR.out _ HA_1.out).mono ?_; rintro f2 w2 ⟨A7, c7, rfl, q5, hb⟩; have S0_2 := Lib.hid (S0_1.out.keep hb); have QM_2 := Lib.hid (QM_1.out.keep hb); have HA_2 := Lib.hid (Recs.below HA_1.out hb); have HM_2 := Lib.hid (HM_1.out.below hb); have HT_2 := Lib.hid (HT_1.out.below hb); have B_2 := Lib.hid (chain B_1.out hb); have HX_2 := Lib.hid q5; clear q5; clear hb; obtain ⟨y20, y21, y22, y23, -, -, -, -⟩ := S0_2.out.four; obtain ⟨z20, z21, -, -⟩ := QM_2.out.two)
        | (go_at_call 11; refine (same3_yes kn _ _ fs.length c4 c7 A4 A7 _ _ HM_2.out HX_2.out HLM.out HLT.out HLL.out HL9.out).mono ?_; rintro f3 w3 ⟨rfl, hb⟩; have S0_3 := Lib.hid (S0_2.out.keep hb); have QM_3 := Lib.hid (QM_2.out.keep hb); have HA_3 := Lib.hid (Recs.below HA_2.out hb); have HM_3 := Lib.hid (HM_2.out.below hb); have HT_3 := Lib.hid (HT_2.out.below hb); have B_3 := Lib.hid (chain B_2.out hb); clear hb; obtain ⟨y30, y31, y32, y33, -, -, -, -⟩ := S0_3.out.four; obtain ⟨z30, z31, -, -⟩ := QM_3.out.two)
        | (go_at_call 14; refine (HRS.out _ HA_3.out).mono ?_; rintro f4 w4 ⟨A8, c8, rfl, q5, hb⟩; have S0_4 := Lib.hid (S0_3.out.keep hb); have QM_4 := Lib.hid (QM_3.out.keep hb); have HA_4 := Lib.hid (Recs.below HA_3.out hb); have HM_4 := Lib.hid (HM_3.out.below hb); have HT_4 := Lib.hid (HT_3.out.below hb); have B_4 := Lib.hid (chain B_3.out hb); have HY_4 := Lib.hid q5; clear q5; clear hb; obtain ⟨y40, y41, y42, y43, -, -, -, -⟩ := S0_4.out.four; obtain ⟨z40, z41, -, -⟩ := QM_4.out.two)
        | (go_at_call 13; refine (refTexts_same A5 A8 fs.length c5 c8 _ _ HT_4.out HY_4.out HL8.out).mono ?_; rintro f5 w5 ⟨rfl, hb⟩; have S0_5 := Lib.hid (S0_4.out.keep hb); have QM_5 := Lib.hid (QM_4.out.keep hb); have HA_5 := Lib.hid (Recs.below HA_4.out hb); have HM_5 := Lib.hid (HM_4.out.below hb); have HT_5 := Lib.hid (HT_4.out.below hb); have B_5 := Lib.hid (chain B_4.out hb); clear hb; obtain ⟨y50, y51, y52, y53, -, -, -, -⟩ := S0_5.out.four; obtain ⟨z50, z51, -, -⟩ := QM_5.out.two)
        | (go_at_call 15; refine (HRK.out _ HA_5.out).mono ?_; rintro f6 w6 ⟨n2, rfl, q5, hb⟩; have S0_6 := Lib.hid (S0_5.out.keep hb); have QM_6 := Lib.hid (QM_5.out.keep hb); have HA_6 := Lib.hid (Recs.below HA_5.out hb); have HM_6 := Lib.hid (HM_5.out.below hb); have HT_6 := Lib.hid (HT_5.out.below hb); have B_6 := Lib.hid (chain B_5.out hb); obtain rfl := rk_fun RK.out q5; clear q5; clear hb; obtain ⟨y60, y61, y62, y63, -, -, -, -⟩ := S0_6.out.four; obtain ⟨z60, z61, -, -⟩ := QM_6.out.two)
        | (go_at_call 16; refine (HRB.out _ HA_6.out).mono ?_; rintro f7 w7 ⟨rfl, hb⟩; have S0_7 := Lib.hid (S0_6.out.keep hb); have QM_7 := Lib.hid (QM_6.out.keep hb); have HA_7 := Lib.hid (Recs.below HA_6.out hb); have HM_7 := Lib.hid (HM_6.out.below hb); have HT_7 := Lib.hid (HT_6.out.below hb); have B_7 := Lib.hid (chain B_6.out hb); clear hb; obtain ⟨y70, y71, y72, y73, -, -, -, -⟩ := S0_7.out.four; obtain ⟨z70, z71, -, -⟩ := QM_7.out.two))
    go_wp2_with fail
    go_ret
    exact ⟨rfl, B_7.out⟩
end
end Go.Proofs.YtmfhimeffmpgaaaGreat
