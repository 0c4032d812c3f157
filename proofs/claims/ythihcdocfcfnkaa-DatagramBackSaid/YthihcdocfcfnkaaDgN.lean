/- Layer 11: what is put is got; one bit changed is seen. -/
import Derived.Test.YthihcdocfcfnkaaDgM
namespace Go.Proofs.Ythihcdocfcfnkaa
open Go.RowKit
open crcBursts (sealB_list sealB_size sealB_back sealed_fold)
theorem dgL_len (o k z i : Nat) (t : ByteArray) : (dgL o k z i t).length = 20 + t.size := by
  simp [dgL, be_len]; omega
theorem put_get (o k z i : Nat) (t : ByteArray) (ho : o < 18446744073709551616) (hi : i < 18446744073709551616) (h : dgB k z t = true) (x : ByteArray) (hx : sealB ⟨(dgL o k z i t).toArray⟩ = x) :
    getOk x ∧ gO x.data.toList = o ∧ gI x.data.toList = i ∧ gK x.data.toList = k ∧ gZ x.data.toList = z ∧ x.extract 20 (x.size - 4) = t ∧ x.size = 24 + z := by
  have hd := of_decide_eq_true h
  have hz : t.size = z := by omega
  have hll : x.data.toList = dgL o k z i t ++ Crc.t4 (Crc.more 0 (dgL o k z i t)) := by rw [← hx, sealB_list]
  have hlen := dgL_len o k z i t
  have hsz : x.size = 24 + z := by
    rw [← hx, sealB_size]
    have : (⟨(dgL o k z i t).toArray⟩ : ByteArray).size = (dgL o k z i t).length := by simp [ByteArray.size]
    omega
  have hb : x.extract 0 (x.size - 4) = ⟨(dgL o k z i t).toArray⟩ := by
    have := sealB_back ⟨(dgL o k z i t).toArray⟩
    rwa [hx] at this
  have e0 : x.data.toList.take (x.size - 4) = dgL o k z i t := by
    have := congrArg (fun y : ByteArray => y.data.toList) hb
    simp only at this
    rwa [ext_list, List.drop_zero] at this
  have b1 := be_len o 8
  have b2 := be_len i 8
  have g1 : gO (dgL o k z i t) = o := by
    have : ((dgL o k z i t).drop 2).take 8 = be o 8 := by
      simp [dgL, List.append_assoc, List.take_append, b1]
    rw [gO, this, numB_be_aux o ho]
  have g2 : gI (dgL o k z i t) = i := by
    have : ((dgL o k z i t).drop 10).take 8 = be i 8 := by
      simp [dgL, List.append_assoc, List.drop_append, List.take_append, b1, b2]
    rw [gI, this, numB_be_aux i hi]
  have g3 : (dgL o k z i t).drop 18 = UInt8.ofNat k :: UInt8.ofNat z :: t.data.toList := by
    simp [dgL, List.append_assoc, List.drop_append, b1, b2]
  have gd : ∀ j, (dgL o k z i t).getD (18 + j) 0 = (UInt8.ofNat k :: UInt8.ofNat z :: t.data.toList).getD j 0 := fun j => by
    rw [← g3]; simp [List.getD]
  have g4 : gK (dgL o k z i t) = k := by
    have := gd 0
    simp only [Nat.add_zero] at this
    rw [gK, this]; simp; omega
  have g5 : gZ (dgL o k z i t) = z := by
    have := gd 1
    simp only [Nat.reduceAdd] at this
    rw [gZ, this]; simp; omega
  have e1 : gO x.data.toList = gO (dgL o k z i t) := by rw [← e0]; unfold gO; rw [slice_take _ _ _ _ (by omega)]
  have e2 : gI x.data.toList = gI (dgL o k z i t) := by rw [← e0]; unfold gI; rw [slice_take _ _ _ _ (by omega)]
  have e3 : gK x.data.toList = gK (dgL o k z i t) := by rw [← e0]; unfold gK; rw [getD_take _ _ _ (by omega)]
  have e4 : gZ x.data.toList = gZ (dgL o k z i t) := by rw [← e0]; unfold gZ; rw [getD_take _ _ _ (by omega)]
  have e5 : x.extract 20 (x.size - 4) = t := by
    apply bytes_ext
    rw [ext_list, e0]
    have : (dgL o k z i t).drop 20 = ((dgL o k z i t).drop 18).drop 2 := by rw [List.drop_drop]
    rw [this, g3]; rfl
  refine ⟨⟨by omega, by rw [hb]; exact hx, ?_, ?_, ?_⟩, by rw [e1, g1], by rw [e2, g2], by rw [e3, g4], by rw [e4, g5], e5, hsz⟩
  · rw [hll]; rfl
  · rw [hll]; rfl
  · rw [e3, e4, g4, g5, e5]; exact h
theorem flip_not (x : ByteArray) (hx : getOk x) (q : Nat) (hq : q < 8 * x.size) (l : List UInt8) (hl : l = x.data.toList.set (q / 8) (UInt8.ofNat ((x.data.toList.getD (q / 8) 0).toNat ^^^ 2 ^ (q % 8)))) : ¬ getOk ⟨l.toArray⟩ := by
  intro h
  have hlx := list_len x
  have hll : l.length = x.size := by rw [hl, List.length_set, hlx]
  have h1 := sealed_fold _ (by have := h.1; omega) h.2.1
  have h2 := sealed_fold x (by have := hx.1; omega) hx.2.1
  refine Crc.burst_seen x.data.toList l q 1 (by omega) (by omega) (by rw [hll, hlx]) (by rw [hlx]; exact hq) ?_ h2 (by simpa using h1)
  rw [hl, Crc.num_flip _ q (by rw [hlx]; exact hq), hlx]
  congr 1
  unfold Crc.err
  rw [Nat.mod_eq_of_lt (show 1 < 2 ^ 32 by omega), Nat.mul_one, Nat.mod_eq_of_lt (Nat.pow_lt_pow_right (by omega) hq)]
theorem short_not (x : ByteArray) (h : x.size < 24) : ¬ getOk x := fun y => by have := y.1; omega
end Go.Proofs.Ythihcdocfcfnkaa
