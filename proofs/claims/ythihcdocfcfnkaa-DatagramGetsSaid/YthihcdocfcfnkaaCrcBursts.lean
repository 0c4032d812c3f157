/- For all texts s, t, every place and every 32 bits: the sum of both texts is that of the first behind the second; what is sealed is opened as it was, and with bits changed within 32 in a row is refused (the statement CrcBursts). No conditions. -/
import Derived.Test.YthihcdocfcfnkaaOpen
import Derived.Test.YthihcdocfcfnkaaBurst
import Derived.Lib.Strings
import Derived.OpenShut
import Derived.ProofKit
import Derived.ShutString
namespace Go.Proofs.Ythihcdocfcfnkaa.crcBursts
open Go.ChangeShapes Go.WideShapes Go.ChangeAt Go.RowKit
open Go.ChangeMaps (open_string shut_string)
set_option linter.unusedVariables false
theorem own : ownKnob Try.prog.godebug = none := by kernel_rfl
theorem sealB_list (s : ByteArray) : (sealB s).data.toList = s.data.toList ++ Crc.t4 (Crc.more 0 s.data.toList) := by
  unfold sealB
  simp [ByteArray.data_append]; rfl
theorem sealB_size (s : ByteArray) : (sealB s).size = s.size + 4 := by
  unfold sealB
  rw [ByteArray.size_append]; rfl
theorem sealB_back (s : ByteArray) : (sealB s).extract 0 ((sealB s).size - 4) = s := by
  apply ByteArray.ext
  apply Array.toList_inj.1
  rw [Lib.extract_data, sealB_size, sealB_list]
  simp
theorem sealed_fold (s : ByteArray) (h : 4 ≤ s.size) (he : sealB (s.extract 0 (s.size - 4)) = s) : Crc.fold s.data.toList 4294967295 = Crc.hsN 32 4294967295 := by
  rw [← he, sealB_list]
  exact Crc.fold_sealed _
theorem rem_any (a : Int) (n : Nat) (hn : 0 < n) : ∃ r : Int, a.tmod (n : Int) = r ∧ -(n : Int) < r ∧ r < n := by
  refine ⟨_, rfl, ?_, ?_⟩
  · have := Int.lt_tmod_of_pos a (b := (n : Int)) (by omega); omega
  · have := Int.tmod_lt_of_pos a (b := (n : Int)) (by omega); omega
def BytesAt (w : World) (g : Nat) (l : List UInt8) : Prop := ∀ j, j < l.length → w.cell? ⟨g, j, none⟩ = some (.int .u8 ((l.getD j 0).toNat : Int)) ∧ w.frozen? ⟨g, j, none⟩ = false
theorem bytesAt_new (w : World) (s : ByteArray) (e : TypeId) (cap : Nat) : BytesAt (w.drew.alloc (.cells (bytesRow s cap) e ((bytesRow s cap).size, (bytesRow s cap).size + 1))) w.heap.size s.data.toList := by
  intro j hj
  have hj' : j < s.data.size := by simpa using hj
  refine ⟨?_, ?_⟩
  · show (World.alloc w.drew _).cell? ⟨w.drew.heap.size, j, none⟩ = _
    rw [World.cell?_alloc_mark, bytesRow_at s cap j hj']
    simp [List.getD, hj', Array.getElem?_eq_getElem hj']
  · show (World.alloc w.drew _).frozen? ⟨w.drew.heap.size, j, none⟩ = _
    rw [World.frozen?_alloc_mark]
    have : (bytesRow s cap).size ≥ s.data.size := by simp [bytesRow]
    have h2 : ¬ (bytesRow s cap).size ≤ j := by omega
    simp [h2]
theorem bytesAt_set {w : World} {g : Nat} {l : List UInt8} (h : BytesAt w g l) (i : Nat) (hi : i < l.length) (u : UInt8) : BytesAt (w.setCell ⟨g, i, none⟩ (.int .u8 (u.toNat : Int))).drew g (l.set i u) := by
  intro j hj
  have hj' : j < l.length := by simpa using hj
  obtain ⟨h1, h2⟩ := h j hj'
  refine ⟨?_, ?_⟩
  · show (w.setCell ⟨g, i, none⟩ (.int .u8 (u.toNat : Int))).cell? ⟨g, j, none⟩ = _
    by_cases e : i = j
    · subst e
      rw [World.cell?_setCell_same' _ _ _ (by rw [h1]; rfl)]
      simp [List.getD, hi]
    · rw [World.cell?_setCell_other _ _ _ _ (by intro h; injection h; omega), h1]
      simp [List.getD, List.getElem?_set, e]
  · show (w.setCell ⟨g, i, none⟩ (.int .u8 (u.toNat : Int))).frozen? ⟨g, j, none⟩ = _
    rw [World.frozen?_setCell]; exact h2
theorem flip_val (v : UInt8) (r : Nat) (hr : r < 8) : bits BinOp.xor IntKind.u8 (v.toNat : Int) (2 ^ r % 256) = ((UInt8.ofNat (v.toNat ^^^ 2 ^ r)).toNat : Int) := by
  have hv := v.toNat_lt
  have hp : 2 ^ r < 2 ^ 8 := Nat.pow_lt_pow_right (by omega) hr
  have e : (2 : Int) ^ r % 256 = ((2 ^ r : Nat) : Int) := by
    have : (2 : Int) ^ r = ((2 ^ r : Nat) : Int) := by simp
    rw [this]
    generalize 2 ^ r = p at *
    omega
  rw [e, u8_xor_nat _ _ (by omega) (by omega), Crc.xor8 v r hr]
theorem bit_val (B k : Nat) (h : B < 4294967296) : bits BinOp.and IntKind.u32 ((B : Int) / 2 ^ k) 1 = ((B / 2 ^ k % 2 : Nat) : Int) := by
  have e : (B : Int) / 2 ^ k = ((B / 2 ^ k : Nat) : Int) := by simp [Int.natCast_ediv]
  have hl : B / 2 ^ k ≤ B := Nat.div_le_self _ _
  have := u32_and_nat (B / 2 ^ k) 1 (by omega) (by omega)
  rw [nat_mask1] at this
  rw [e]
  exact this
theorem bit_yes (B k : Nat) (h : B < 4294967296) (hb : B.testBit k = true) : bits BinOp.and IntKind.u32 ((B : Int) / 2 ^ k) 1 = 1 := by
  rw [bit_val B k h]
  have : B / 2 ^ k % 2 = 1 := by
    rw [Nat.testBit_eq_decide_div_mod_eq] at hb
    exact of_decide_eq_true hb
  rw [this]; rfl
theorem bit_not (B k : Nat) (h : B < 4294967296) (hb : B.testBit k = false) : bits BinOp.and IntKind.u32 ((B : Int) / 2 ^ k) 1 = 0 := by
  rw [bit_val B k h]
  have : B / 2 ^ k % 2 = 0 := by
    rw [Nat.testBit_eq_decide_div_mod_eq] at hb
    have := of_decide_eq_false hb
    omega
  rw [this]; rfl
set_option maxHeartbeats 800000 in
theorem walk (a0 a1 : ByteArray) (a2 a3 : Int) (w0 : a0.size ≤ maxLen) (w1 : a1.size ≤ maxLen) (w2 : (Lit.int .i64 a2).wf = true) (w3 : (Lit.int .u32 a3).wf = true) (w : World) :
    Calls Try.prog 5 #[.string a0, .string a1, .int .i64 a2, .int .u32 a3] w fun e w' => e = .returned (.bool true) ∧ Below w.heap.size w w' := by
  have ⟨p0, p1⟩ : 0 ≤ a3 ∧ a3 < 4294967296 := by have := bounds_u32 w3; omega
  go_enter Try.func5, Try.ntmps5
  go_wp2_with fail
  refine (cut_any _ w0 _).mono ?_
  rintro e w' ⟨rfl, rfl⟩
  have hz := cutS_size a0
  generalize cutS a0 = s at *
  go_wp2_with fail
  refine (cut_any _ w1 _).mono ?_
  rintro e w' ⟨rfl, rfl⟩
  have hy := cutS_size a1
  generalize cutS a1 = t at *
  go_wp2_with fail
  refine (seal_any _ (by omega) _).mono ?_
  rintro e x1 ⟨rfl, hb⟩
  have HB := Lib.hid hb
  clear hb
  have hSz := sealB_size s
  have HS := Lib.hid (sealed_fold (sealB s) (by omega) (by rw [sealB_back]))
  have HBk := Lib.hid (sealB_back s)
  generalize hS : sealB s = S at *
  have HSe := Lib.hid hS
  clear hS
  have hS1 : S.size ≤ s.size + 4 := by omega
  have hS2 : s.size + 4 ≤ S.size := by omega
  clear hSz
  go_wp2_with fail
  refine (open_yes _ (by omega) (by omega) (by rw [HBk.out, HSe.out]) _).mono ?_
  rintro e x2 ⟨rfl, hb⟩
  have HB := Lib.hid (HB.out.trans (hb.mono HB.out.size))
  clear hb
  rw [HBk.out]
  go_wp2_with fail
  refine (sum_any _ (by simp [maxLen, ByteArray.size_append]; omega) _).mono ?_
  rintro e x3 ⟨rfl, hb⟩
  have HB := Lib.hid (HB.out.trans (hb.mono HB.out.size))
  clear hb
  have HM : Hid (Crc.more (Crc.more 0 s.data.toList) t.data.toList = Crc.more 0 (s ++ t).data.toList) := Lib.hid (by rw [Crc.more_more]; simp [ByteArray.data_append])
  generalize Crc.more 0 (s ++ t).data.toList = m at *
  go_wp2_with fail
  refine (sum_any _ (by simp [maxLen]; omega) _).mono ?_
  rintro e x4 ⟨rfl, hb⟩
  have HB := Lib.hid (HB.out.trans (hb.mono HB.out.size))
  clear hb
  go_wp2_with fail
  refine (more_any _ (by omega) (Int.ofNat_lt.2 (Crc.more_lt _ _)) _ (by simp [maxLen]; omega) _).mono ?_
  rintro e x5 ⟨rfl, hb⟩
  have HB := Lib.hid (HB.out.trans (hb.mono HB.out.size))
  clear hb
  rw [Int.toNat_natCast, HM.out]
  have tl : ((S.size : Int) != (s.size : Int) + 4) = false := by simp; omega
  go_wp2_with fail
  refine (alive_any _).mono ?_
  rintro e x6 ⟨rfl, hb⟩
  have HB := Lib.hid (HB.out.trans (hb.mono HB.out.size))
  clear hb tl
  obtain ⟨B, eB, hB1, hB2⟩ : ∃ B : Nat, bits BinOp.or IntKind.u32 a3 1 = (B : Int) ∧ B < 4294967296 ∧ Hid (B % 2 = 1) := by
    refine ⟨a3.toNat ||| 1, ?_, Nat.or_lt_two_pow (n := 32) (by omega) (by omega), ?_⟩
    · have := u32_or a3 1 p0 p1 (by omega) (by omega)
      exact this
    · show (a3.toNat ||| 1) % 2 = 1
      have h := Nat.testBit_or a3.toNat 1 0
      simp only [Nat.testBit_zero] at h
      exact of_decide_eq_true (by rw [h]; simp)
  obtain ⟨r, er, hr1, hr2⟩ := rem_any a2 (8 * S.size) (by omega)
  rw [show ((8 * S.size : Nat) : Int) = 8 * (S.size : Int) by omega] at er hr1 hr2
  obtain ⟨A, eA, hA⟩ : ∃ A : Nat, (r + 8 * (S.size : Int)) % (8 * (S.size : Int)) = (A : Int) ∧ A < 8 * S.size := by
    have h1 := Int.emod_nonneg (r + 8 * (S.size : Int)) (b := 8 * (S.size : Int)) (by omega)
    have h2 := Int.emod_lt_of_pos (r + 8 * (S.size : Int)) (b := 8 * (S.size : Int)) (by omega)
    exact ⟨((r + 8 * (S.size : Int)) % (8 * (S.size : Int))).toNat, by omega, by omega⟩
  have hcv := run_bytes_of_string (P := Try.prog) x6 9 32 5 S Try.underlying9 Try.underlying32 Try.underlying5
  go_wp2_with fail
  rw [eA]
  clear hcv er eA eB
  have HB6 := HB.out.size
  have hNew := bytesAt_new x6 S 5 (grownCap x6 S.size 0 5)
  have hBn : Below x6.heap.size x6 (x6.drew.alloc (.cells (bytesRow S (grownCap x6 S.size 0 5)) 5 ((bytesRow S (grownCap x6 S.size 0 5)).size, (bytesRow S (grownCap x6 S.size 0 5)).size + 1))) := ((Below.refl _ _).drew).alloc (Nat.le_refl _) _
  have HNew := Lib.hid hNew
  have HB := Lib.hid (HB.out.trans (hBn.mono HB.out.size))
  have HB6 := Lib.hid HB6
  clear hNew hBn
  go_loopw [75] (fun i wr => ∃ (k : Nat) (l : List UInt8), k ≤ 32 ∧ i = .int .i64 k ∧ l.length = S.size ∧ BytesAt wr x6.heap.size l ∧ Crc.num l = Crc.num S.data.toList ^^^ Crc.err (8 * S.size) A B k ∧ Below w.heap.size w wr)
    (fun i _ => 32 - (intOf i).toNat)
  case atStart => exact ⟨0, S.data.toList, by omega, rfl, by simp, HNew.out, by rw [Crc.err_zero, Nat.xor_zero], HB.out⟩
  case round =>
    obtain ⟨k, l, hk, rfl, hl, hbytes, hnum, hbel⟩ := hrel
    have HL := Lib.hid hl
    have HBy := Lib.hid hbytes
    have HN := Lib.hid hnum
    have HBl := Lib.hid hbel
    clear hl hbytes hnum hbel
    have hAk : A + k < 9000000 := by omega
    by_cases hlt : k < 32
    · by_cases hbit : B.testBit k = true
      · have t1 : bits BinOp.and IntKind.u32 ((B : Int) / 2 ^ k) 1 = 1 := bit_yes B k hB1 hbit
        by_cases hin : A + k < 8 * S.size
        · obtain ⟨hc, hf⟩ := HBy.out ((A + k) / 8) (by rw [HL.out]; omega)
          generalize hv : l.getD ((A + k) / 8) 0 = v at hc
          have t2 : (A : Int) + k < 8 * S.size := by omega
          go_wp2
          rw [show ((A : Int) + k) = ((A + k : Nat) : Int) by omega]
          generalize hq : A + k = q at *
          have HQ := Lib.hid hq
          have HV := Lib.hid hv
          clear hq hv
          have hq8 : q / 8 < l.length := by rw [HL.out]; omega
          have P1 := Lib.hid (bytesAt_set HBy.out (q / 8) hq8 (UInt8.ofNat (v.toNat ^^^ 2 ^ (q % 8))))
          have P2 : Crc.num (l.set (q / 8) (UInt8.ofNat (v.toNat ^^^ 2 ^ (q % 8)))) = Crc.num S.data.toList ^^^ Crc.err (8 * S.size) A B (k + 1) := by
            rw [← HV.out, Crc.num_flip l q (by rw [HL.out]; omega), HN.out, Nat.xor_assoc, Crc.err_succ_flip _ _ _ _ hbit (by rw [HQ.out]; exact hin), HQ.out]
          have P2 := Lib.hid P2
          have P3 := Lib.hid (HBl.out.setCell (p := ⟨x6.heap.size, q / 8, none⟩) HB6.out (.int .u8 ((UInt8.ofNat (v.toNat ^^^ 2 ^ (q % 8))).toNat : Int))).drew
          have P4 : (l.set (q / 8) (UInt8.ofNat (v.toNat ^^^ 2 ^ (q % 8)))).length = S.size := by rw [List.length_set, HL.out]
          have P4 := Lib.hid P4
          have HW := Lib.hid (flip_val v (q % 8) (by omega))
          have f1 : (q : Int).tdiv 8 = ((q / 8 : Nat) : Int) := by rw [Int.tdiv_eq_ediv_of_nonneg (by omega)]; omega
          have f2 : (q : Int).tmod 8 = ((q % 8 : Nat) : Int) := by rw [Int.tmod_eq_emod_of_nonneg (by omega)]; omega
          have f3 : IntKind.i64.wrap ((q / 8 : Nat) : Int) = ((q / 8 : Nat) : Int) := IntWalk.i64_in _ (by omega)
          have f4 : (0 : Int) ≤ ((q / 8 : Nat) : Int) := by omega
          have f5 : ((q / 8 : Nat) : Int) < (S.size : Int) := by omega
          have f6 : q / 8 < S.size := by omega
          go_region
          rw [HW.out]
          clear f1 f2 f3 f4 f5 f6 hc hf t1 t2
          generalize l.set (q / 8) (UInt8.ofNat (v.toNat ^^^ 2 ^ (q % 8))) = l' at *
          generalize (wr.setCell ⟨x6.heap.size, q / 8, none⟩ (.int .u8 ((UInt8.ofNat (v.toNat ^^^ 2 ^ (q % 8))).toNat : Int))).drew = wn at *
          go_wp2
          go_roundw
          case rel => exact ⟨k + 1, l', by omega, by go_num, P4.out, P1.out, P2.out, P3.out⟩
          case measure => simp [intOf]; omega
        · have t2 : ¬ (A : Int) + k < 8 * S.size := by omega
          go_wp2
          go_roundw
          case rel => exact ⟨k + 1, l, by omega, by go_num, HL.out, HBy.out, by rw [HN.out, Crc.err_succ_same _ _ _ _ (.inr (by omega))], HBl.out⟩
          case measure => simp [intOf]; omega
      · have t1 : bits BinOp.and IntKind.u32 ((B : Int) / 2 ^ k) 1 = 0 := bit_not B k hB1 (by simpa using hbit)
        go_wp2
        go_roundw
        case rel => exact ⟨k + 1, l, by omega, by go_num, HL.out, HBy.out, by rw [HN.out, Crc.err_succ_same _ _ _ _ (.inl (by simpa using hbit))], HBl.out⟩
        case measure => simp [intOf]; omega
    · obtain rfl : k = 32 := by omega
      have hcv2 : (convert 32 9 (.slice (some ⟨x6.heap.size, 0, none⟩) S.size (grownCap x6 S.size 0 5))).run Try.prog wr = .ok (.string ⟨l.toArray⟩) wr := by
        rw [← HL.out]
        refine run_convert_bytes_back (P := Try.prog) wr 32 9 5 ⟨x6.heap.size, 0, none⟩ _ l Try.underlying32 Try.underlying5 Try.underlying9 ?_
        intro j hj
        have hadd : Addr.add { block := x6.heap.size, off := 0 } j = ⟨x6.heap.size, j, none⟩ := by
          by_cases h : j = 0 <;> simp [Addr.add, h]
        rw [hadd, (HBy.out j hj).1]
        simp [List.getD, hj]
      have hsz : (⟨l.toArray⟩ : ByteArray).size = S.size := by
        have : (⟨l.toArray⟩ : ByteArray).size = l.length := rfl
        rw [this, HL.out]
      have HZ := Lib.hid hsz
      clear hsz
      go_wp2_with fail
      have hz := HZ.out
      refine (open_no _ (by omega) (by omega) ?_ _).mono ?_
      · intro h
        have h1 := sealed_fold _ (by omega) h
        refine Crc.burst_seen S.data.toList l A B hB1 hB2 (by simp [HL.out]) (by simpa using hA) ?_ HS.out h1
        rw [HN.out]; simp
      · rintro e x7 ⟨rfl, hb⟩
        have HB := Lib.hid (HBl.out.trans (hb.mono HBl.out.size))
        clear hb hz hcv2
        go_wp2
        go_ret
        exact ⟨rfl, HB.out⟩

set_option maxRecDepth 100000 in
theorem lifted (os : Os) (started : os.Started) (H : Type) (enc : TypeId × Value → H) :
    ReturnsInHanded {} Try.checked os 5 .any (Rows.crcBurstsSpec.pre6 enc Try.prog Try.f5 Rows.crcBurstsRow.domain false) (Rows.crcBurstsSpec.post enc Try.prog Try.f5 false true false false) := by
  refine returnsInHanded_of_change (C := Try.checked) own started (by kernel_rfl) Try.func5
    (ChangeSpec.witness6 (enc := enc) (C := Try.checked) false ⟨#[], #[.string ByteArray.empty, .string ByteArray.empty, .int .i64 0, .int .u32 0], []⟩ 8 (by kernel_rfl) (by kernel_rfl) (by kernel_rfl) (by kernel_rfl)) ?_
  intro W base args ds gs before hval0 hW hcnd _
  have hval : ∀ (j : Nat) t v, Try.f5.params[j]? = some t → args[j]? = some v → Value.okWide Try.prog W .any base t v := hval0
  have hW' := hW
  obtain ⟨p, q, hA0, hV, rfl, hfz, hnd⟩ := hW
  have hA : DataW.TrodAll enc Try.prog W 0 (fun _ => true) true Try.f5.params.toList args.toList ds p := hA0
  rw [Try.params5] at hA hval
  obtain ⟨v0, vs0, d0, ds0, p0, q0, hargs, rfl, rfl, h0, r0⟩ := trodAll_cons hA
  obtain ⟨v1, vs1, d1, ds1, p1, q1, rfl, rfl, rfl, h1, r1⟩ := trodAll_cons r0
  obtain ⟨v2, vs2, d2, ds2, p2, q2, rfl, rfl, rfl, h2, r2⟩ := trodAll_cons r1
  obtain ⟨v3, vs3, d3, ds3, p3, q3, rfl, rfl, rfl, h3, r3⟩ := trodAll_cons r2
  obtain ⟨rfl, rfl, rfl⟩ := trodAll_nil r3
  obtain rfl : args = #[v0, v1, v2, v3] := by cases args; simp_all
  obtain ⟨rfl, rfl⟩ := trodVars_none hV
  obtain ⟨a0, rfl, rfl, rfl, w0⟩ := open_string Try.underlying9 (hval 0 9 v0 rfl rfl) h0
  obtain ⟨a1, rfl, rfl, rfl, w1⟩ := open_string Try.underlying9 (hval 1 9 v1 rfl rfl) h1
  obtain ⟨a2, rfl, rfl, rfl, w2⟩ := open_int Try.underlying3 (hval 2 3 v2 rfl rfl) h2
  obtain ⟨a3, rfl, rfl, rfl, w3⟩ := open_int Try.underlying22 (hval 3 22 v3 rfl rfl) h3
  clear hA0 hval0
  simp only [List.append_nil] at hW'
  refine (walk a0 a1 a2 a3 w0 w1 w2 w3 W).mono fun e W' ⟨he, bel⟩ => ?_
  subst he
  exact ⟨_, rfl, _, _, _, [], [], [], hW', trodAll_mk1 (shut_bool Try.underlying4 _), (trodAll_cons_mk (shut_string Try.underlying9 w0) (trodAll_cons_mk (shut_string Try.underlying9 w1) (trodAll_cons_mk (shut_int Try.underlying3 w2) (trodAll_cons_mk (shut_int Try.underlying22 w3) trodAll_mk0)))), rfl, bel.frame _, fun h => by cases h⟩

theorem over : Rows.crcBurstsRow.holds Try.pinned (OpenSpec.ofChange Rows.crcBurstsSpec) :=
  OpenClaim.holds_of_wide 5 Try.f5 rfl rfl rfl rfl rfl rfl rfl ⟨rfl, rfl, rfl, rfl, rfl⟩ rfl rfl rfl rfl rfl (by kernel_rfl) Try.func5 (by kernel_rfl)
    (of_decide_eq_true (by kernel_rfl)) (by unfold Func.isWrapper; first | (rw [if_pos (by decide +kernel)]; kernel_rfl) | (rw [if_neg (by decide +kernel)]; exact ⟨rfl, rfl⟩))
    (fun os started H enc _ => lifted os started H enc)

theorem proved : Rows.CrcBurstsSaid := over
#print axioms proved
end Go.Proofs.Ythihcdocfcfnkaa.crcBursts
