/- Contracts of the reference's layer 8: Places, Row. -/
import Derived.Test.YtbgikkeiapbghaaNb1
import Derived.Test.YtbgikkeiapbghaaRefD5
import Derived.Test.YtbgikkeiapbghaaDeg3
import Derived.Test.YtbgikkeiapbghaaRefOf
namespace Go.Proofs.Ytbgikkeiapbghaa
open Go.RowKit
def RPlOut (k id : Nat) (w : World) (e : Ending) (w' : World) : Prop :=
  ∃ v, e = .returned v ∧ w'.ownsRow w.heap.size 3 1 v (nbMany k id) ((nbL k id).map natV) ∧ Below w.heap.size w w'
set_option maxRecDepth 100000 in
set_option maxHeartbeats 1000000 in
theorem refPlaces_any (k id : Nat) (h1 : 1 ≤ k) (h2 : k ≤ 64) (hi : id < 18446744073709551616) (w : World) : Calls Try.prog 10 #[.int .i64 k, .int .u64 id] w (RPlOut k id w) := by
  have HST := Lib.hid (refMixed_any id hi)
  have HTB := Lib.hid (refTable_any k h1 h2)
  have HR := Lib.hid (nbMany_range k id h1 h2)
  have HTK := Lib.hid (tab_k k h1 h2)
  have HTL := Lib.hid (show (tbl (wgts k k)).length = k by rw [tbl_len, wgts_len])
  have HTW := Lib.hid (tbl_lt (wgts k k))
  have HSM := Lib.hid (refSome_any (nbState id) k (nbMany k id) (nbState_lt id) h1 (by omega) HR.out.2)
  have HX := Lib.hid (refMixed_any (nbState id) (nbState_lt id))
  have HXL := Lib.hid (mixN_lt (nbState id))
  have HNL := Lib.hid (nb_len k id h1 h2)
  have HPK := Lib.hid (show nbMany k id = pickD (tbl (wgts k k)) (mixN (nbState id)) from rfl)
  have HE := Lib.hid (show IntKind.u64.wrap (((mixN id : Nat) : Int) + 11400714819323198485) = ((nbState id : Nat) : Int) by rw [IntKind.wrap_u64, nbState, nextS]; rfl)
  have HF : ∀ (x v : Value) (w : World), (Instr.field 53 (.agg #[x, v]) 1).run Try.prog w = .ok v w := fun _ _ _ => by kernel_rfl
  go_enter Try.func10, Try.ntmps10
  go_wp2_with fail
  refine (HST.out _).mono ?_
  rintro e w1 ⟨rfl, rfl⟩
  go_wp2_with fail
  refine (HTB.out _).mono ?_
  rintro e w1 ⟨v, rfl, hown, hb⟩
  rw [HTL.out] at hown
  obtain ⟨A, c, rfl, hlc, hcm, hw⟩ := own_slice hown HTW.out
  have HW := Lib.hid hw
  have B := Lib.hid hb
  clear hown hw hb HST HTB
  go_wp2_with fail
  try rw [HE.out]
  refine (HX.out _).mono ?_
  rintro e w2 ⟨rfl, rfl⟩
  go_wp2_with fail
  refine (refPick_any A k c _ _ _ HW.out (by unfold maxLen; omega) hlc HXL.out HTK.out).mono ?_
  rintro e w2 ⟨rfl, q, rfl⟩
  rw [← HPK.out]
  have B := Lib.hid (bdN B.out q)
  clear HW
  go_wp2_with fail
  try rw [HE.out]
  refine (HSM.out _).mono ?_
  rintro e w3 ⟨v, rfl, hown, hb⟩
  have B3 := Lib.hid (chain B.out hb)
  have hsz := B.out.size
  have hf := HF (.int .u64 ((shufN k (nbState id)).1 : Nat)) v
  go_wp2_with fail
  go_ret
  refine ⟨v, rfl, ?_, B3.out⟩
  have h := own_low hown hsz
  rw [show (someN k (nbMany k id) (nbState id)).length = nbMany k id from HNL.out] at h
  exact h
set_option maxHeartbeats 1000000 in
theorem refRow_any (k id : Nat) (h1 : 1 ≤ k) (h2 : k ≤ 64) (hi : id < 18446744073709551616) (w : World) : Calls Try.prog 11 #[.int .i64 k, .int .u64 id] w (OneRow k (nbRow k id) w) := by
  have HS := Lib.hid (refPlaces_any k id h1 h2 hi)
  have HM := Lib.hid (nbMany_range k id h1 h2)
  have HT := Lib.hid (nb_there k id)
  have q0 := Box.new w 29 #[.int .i64 0, .slice none 0 0]
  have Q0 := Lib.hid q0
  have HW := Lib.hid (show Below w.heap.size w (w.alloc (.cells #[.int .i64 0, .slice none 0 0] 29)) from (Below.refl _ _).alloc (Nat.le_refl _) _)
  clear q0
  go_enter Try.func11, Try.ntmps11
  go_wp2_with fail
  refine (HS.out _).mono ?_
  rintro e w1 ⟨v, rfl, hown, hb⟩
  obtain ⟨A, c, rfl, hA⟩ := own_form hown
  have Q0 := Lib.hid (Q0.out.keep hb)
  have HW := Lib.hid (chain HW.out hb)
  have HI := Lib.hid (own_natInts hown (some_bound k _ _ (by omega)))
  clear hown hb
  go_wp2_with fail
  refine (refOf_any k A (nbMany k id) c _ _ HI.out (by have := HM.out.2; omega) (by omega) HT.out).mono ?_
  rintro e w2 ⟨A2, l, c2, rfl, hw, hb⟩
  have P0 := Lib.hid (Q0.out.keep hb)
  have T1 := Lib.hid (chain HW.out hb)
  have HWo := Lib.hid hw
  clear hw hb
  obtain ⟨r0, r1, r2, r3⟩ := P0.out.two
  go_wp2
  refine close_one Try.results11 rfl rfl P0.out.put2 Try.underlying29 rfl (by kernel_rfl) ⟨_, _, _, rfl, HWo.out.put2 P0.out _ _, ?_⟩
  exact (T1.out.setCell (p := ⟨w.heap.size, 0, none⟩) (Nat.le_refl _) _).setCell (p := ⟨w.heap.size, 1, none⟩) (Nat.le_refl _) _
end Go.Proofs.Ytbgikkeiapbghaa
