/- For every sum c, text s and integers i, j: crc.More over the three parts of the cut text is crc.More over the whole; nothing more leaves a sum; crc.Sum is More from 0 (the statement CrcParts). No conditions. -/
import Derived.Test.YthihcdocfcfnkaaSum
import Derived.OpenShut
import Derived.Deep.RegionWith
import Derived.Deep.RegionHeld3
import Derived.Deep.DeepCutAuto
import Derived.ProofKit
import Derived.ShutString
namespace Go.Proofs.Ythihcdocfcfnkaa.crcParts
open Go.ChangeShapes Go.WideShapes Go.ChangeAt Go.RowKit
open Go.ChangeMaps (open_string shut_string)
set_option linter.unusedVariables false
theorem own : ownKnob Try.prog.godebug = none := by kernel_rfl
theorem rem_of (a : Int) (n : Nat) : ∃ r : Int, a.tmod ((n : Int) + 1) = r ∧ -(n : Int) ≤ r ∧ r ≤ n := by
  refine ⟨_, rfl, ?_, ?_⟩
  · have := Int.lt_tmod_of_pos a (b := (n : Int) + 1) (by omega); omega
  · have := Int.tmod_lt_of_pos a (b := (n : Int) + 1) (by omega); omega
set_option maxHeartbeats 400000 in
theorem walk (a0 : Int) (a1 : ByteArray) (a2 : Int) (a3 : Int) (w0 : (Lit.int .u32 a0).wf = true) (w1 : a1.size ≤ maxLen) (w2 : (Lit.int .i64 a2).wf = true) (w3 : (Lit.int .i64 a3).wf = true) (w : World) :
    Calls Try.prog 6 #[.int .u32 a0, .string a1, .int .i64 a2, .int .i64 a3] w fun e w' => e = .returned (.bool true) ∧ Below w.heap.size w w' := by
  have ⟨p0, p1⟩ : 0 ≤ a0 ∧ a0 < 4294967296 := by have := bounds_u32 w0; omega
  go_enter Try.func6, Try.ntmps6
  go_wp2_with fail
  refine (cut_any _ w1 _).mono ?_
  rintro e w' ⟨rfl, rfl⟩
  have hz := cutS_size a1
  generalize cutS a1 = s at *
  obtain ⟨r1, e1, b1, b2⟩ := rem_of a2 s.size
  obtain ⟨i, e2, b3⟩ : ∃ i : Nat, (r1 + s.size + 1) % ((s.size : Int) + 1) = i ∧ i ≤ s.size := by
    have h1 := Int.emod_nonneg (r1 + s.size + 1) (b := (s.size : Int) + 1) (by omega)
    have h2 := Int.emod_lt_of_pos (r1 + s.size + 1) (b := (s.size : Int) + 1) (by omega)
    exact ⟨((r1 + s.size + 1) % ((s.size : Int) + 1)).toNat, by omega, by omega⟩
  obtain ⟨r2, e3, b4, b5⟩ := rem_of a3 (s.size - i)
  rw [show (((s.size - i : Nat) : Int) + 1) = (s.size : Int) - i + 1 by omega] at e3
  obtain ⟨j, e4, b6⟩ : ∃ j : Nat, (r2 + s.size - i + 1) % ((s.size : Int) - i + 1) = j ∧ j ≤ s.size - i := by
    have h1 := Int.emod_nonneg (r2 + s.size - i + 1) (b := (s.size : Int) - i + 1) (by omega)
    have h2 := Int.emod_lt_of_pos (r2 + s.size - i + 1) (b := (s.size : Int) - i + 1) (by omega)
    exact ⟨((r2 + s.size - i + 1) % ((s.size : Int) - i + 1)).toNat, by omega, by omega⟩
  go_wp2_with fail
  rw [e2, e4]
  clear e1 e2 e3 e4
  have f0 : (0 : Int) ≤ (i : Int) := by omega
  have f1 : (i : Int) ≤ (s.size : Int) := by omega
  have f2 : IntKind.i64.wrap ((i : Int) + j) = (i : Int) + j := IntWalk.i64_in _ (by omega)
  have f3 : (0 : Int) ≤ (i : Int) + j := by omega
  have f4 : ((i : Int) + j).toNat = i + j := by omega
  have f5 : (i : Int) + j ≤ (s.size : Int) := by omega
  have f6 : (i : Int) ≤ (i : Int) + j := by omega
  go_cut [9] (fun s9 wx => s9 = .int .u32 (Crc.more a0.toNat s.data.toList : Nat) ∧ Below w.heap.size w wx)
  case first =>
    have hB : Below w.heap.size w w.drew := (Below.refl _ _).drew
    go_region_held3 (fun _ => True) (trivial) (first | (go_at_call 14; refine (more_any _ (by omega) (by first | omega | exact Int.ofNat_lt.2 (Crc.more_lt _ _)) _ (by simp [maxLen]; omega) _).mono ?_; rintro e w' ⟨rfl, hb⟩; have hB := hB.trans (hb.mono hB.size)))
    go_wp2_with fail
    go_meet
    refine ⟨?_, hB⟩
    rw [Crc.more_more, Crc.more_more]
    have e : List.take i s.data.toList ++ (List.take j (List.drop i s.data.toList) ++ List.take (s.size - (i + j)) (List.drop (i + j) s.data.toList)) = s.data.toList := by
      rw [List.take_of_length_le (l := List.drop (i + j) s.data.toList) (by simp), ← List.drop_drop, List.take_append_drop, List.take_append_drop]
    rw [e]
  case rest =>
    obtain ⟨rfl, hB⟩ := hcut
    have HB := Lib.hid hB
    clear hB
    clear f0 f1 f2 f3 f4 f5 f6
    go_wp2_with fail
    refine (alive_any _).mono ?_
    rintro e w1 ⟨rfl, hb⟩
    have HB := Lib.hid (HB.out.trans (hb.mono HB.out.size))
    clear hb
    go_wp2_with fail
    refine (more_any _ p0 p1 _ (by simp [maxLen]; omega) _).mono ?_
    rintro e w2 ⟨rfl, hb⟩
    have HB := Lib.hid (HB.out.trans (hb.mono HB.out.size))
    clear hb
    go_wp2_with fail
    refine (more_any _ p0 p1 _ (by decide) _).mono ?_
    rintro e w3 ⟨rfl, hb⟩
    have HB := Lib.hid (HB.out.trans (hb.mono HB.out.size))
    clear hb
    have hn := Crc.more_nil a0.toNat (by omega)
    have e0 : ((a0.toNat : Nat) : Int) = a0 := by omega
    rw [show ({ data := #[] } : ByteArray).data.toList = [] from rfl, hn, e0]
    clear hn e0
    go_wp2_with fail
    refine (sum_any _ (by simp [maxLen]; omega) _).mono ?_
    rintro e w4 ⟨rfl, hb⟩
    have HB := Lib.hid (HB.out.trans (hb.mono HB.out.size))
    clear hb
    go_wp2_with fail
    refine (more_any _ (by omega) (by omega) _ (by simp [maxLen]; omega) _).mono ?_
    rintro e w5 ⟨rfl, hb⟩
    have HB := Lib.hid (HB.out.trans (hb.mono HB.out.size))
    clear hb
    go_wp2
    go_ret
    exact ⟨by simp, HB.out⟩
set_option maxRecDepth 100000 in
theorem lifted (os : Os) (started : os.Started) (H : Type) (enc : TypeId × Value → H) :
    ReturnsInHanded {} Try.checked os 6 .any (Rows.crcPartsSpec.pre6 enc Try.prog Try.f6 Rows.crcPartsRow.domain false) (Rows.crcPartsSpec.post enc Try.prog Try.f6 false true false false) := by
  refine returnsInHanded_of_change (C := Try.checked) own started (by kernel_rfl) Try.func6
    (ChangeSpec.witness6 (enc := enc) (C := Try.checked) false ⟨#[], #[.int .u32 0, .string ByteArray.empty, .int .i64 0, .int .i64 0], []⟩ 8 (by kernel_rfl) (by kernel_rfl) (by kernel_rfl) (by kernel_rfl)) ?_
  intro W base args ds gs before hval0 hW hcnd _
  have hval : ∀ (j : Nat) t v, Try.f6.params[j]? = some t → args[j]? = some v → Value.okWide Try.prog W .any base t v := hval0
  have hW' := hW
  obtain ⟨p, q, hA0, hV, rfl, hfz, hnd⟩ := hW
  have hA : DataW.TrodAll enc Try.prog W 0 (fun _ => true) true Try.f6.params.toList args.toList ds p := hA0
  rw [Try.params6] at hA hval
  obtain ⟨v0, vs0, d0, ds0, p0, q0, hargs, rfl, rfl, h0, r0⟩ := trodAll_cons hA
  obtain ⟨v1, vs1, d1, ds1, p1, q1, rfl, rfl, rfl, h1, r1⟩ := trodAll_cons r0
  obtain ⟨v2, vs2, d2, ds2, p2, q2, rfl, rfl, rfl, h2, r2⟩ := trodAll_cons r1
  obtain ⟨v3, vs3, d3, ds3, p3, q3, rfl, rfl, rfl, h3, r3⟩ := trodAll_cons r2
  obtain ⟨rfl, rfl, rfl⟩ := trodAll_nil r3
  obtain rfl : args = #[v0, v1, v2, v3] := by cases args; simp_all
  obtain ⟨rfl, rfl⟩ := trodVars_none hV
  obtain ⟨a0, rfl, rfl, rfl, w0⟩ := open_int Try.underlying22 (hval 0 22 v0 rfl rfl) h0
  obtain ⟨a1, rfl, rfl, rfl, w1⟩ := open_string Try.underlying9 (hval 1 9 v1 rfl rfl) h1
  obtain ⟨a2, rfl, rfl, rfl, w2⟩ := open_int Try.underlying3 (hval 2 3 v2 rfl rfl) h2
  obtain ⟨a3, rfl, rfl, rfl, w3⟩ := open_int Try.underlying3 (hval 3 3 v3 rfl rfl) h3
  clear hA0 hval0
  simp only [List.append_nil] at hW'
  refine (walk a0 a1 a2 a3 w0 w1 w2 w3 W).mono fun e W' ⟨he, bel⟩ => ?_
  subst he
  exact ⟨_, rfl, _, _, _, [], [], [], hW', trodAll_mk1 (shut_bool Try.underlying4 _), (trodAll_cons_mk (shut_int Try.underlying22 w0) (trodAll_cons_mk (shut_string Try.underlying9 w1) (trodAll_cons_mk (shut_int Try.underlying3 w2) (trodAll_cons_mk (shut_int Try.underlying3 w3) trodAll_mk0)))), rfl, bel.frame _, fun h => by cases h⟩

theorem over : Rows.crcPartsRow.holds Try.pinned (OpenSpec.ofChange Rows.crcPartsSpec) :=
  OpenClaim.holds_of_wide 6 Try.f6 rfl rfl rfl rfl rfl rfl rfl ⟨rfl, rfl, rfl, rfl, rfl⟩ rfl rfl rfl rfl rfl (by kernel_rfl) Try.func6 (by kernel_rfl)
    (of_decide_eq_true (by kernel_rfl)) (by unfold Func.isWrapper; first | (rw [if_pos (by decide +kernel)]; kernel_rfl) | (rw [if_neg (by decide +kernel)]; exact ⟨rfl, rfl⟩))
    (fun os started H enc _ => lifted os started H enc)

theorem proved : Rows.CrcPartsSaid := over
#print axioms proved
end Go.Proofs.Ythihcdocfcfnkaa.crcParts
