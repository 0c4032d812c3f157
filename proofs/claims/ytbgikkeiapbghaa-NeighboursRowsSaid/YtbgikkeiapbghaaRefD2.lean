/- Contracts of layer 7's reference: Weight. -/
import Derived.Test.YtbgikkeiapbghaaRefD1
namespace Go.Proofs.Ytbgikkeiapbghaa
open Go.RowKit
theorem dd_cast (d : Nat) (h : 1 ≤ d) : (d : Int) * ((d : Int) - 1) = ((d * (d - 1) : Nat) : Int) := by
  obtain ⟨c, rfl⟩ : ∃ c, d = c + 1 := ⟨d - 1, by omega⟩
  simp
set_option maxHeartbeats 4000000 in
theorem refWeight_any (k d : Nat) (h1 : 1 ≤ k) (h2 : k ≤ 64) (h3 : 1 ≤ d) (h4 : d ≤ 64) (w : World) : Calls Try.prog 46 #[.int .i64 k, .int .i64 d] w fun e w' => e = .returned (.int .u64 (wgt k d : Nat)) ∧ w = w' := by
  have hr := root_small ⟨k, by omega⟩ h1
  simp only at hr
  have HR := Lib.hid (refRoot_any k (by omega) w)
  have HD := Lib.hid (digits_any (root k) (by omega) w)
  have HW := Lib.hid (show wgt k d = plainN d k + moreN d (k / root k) (root k) k from rfl)
  have hp := Nat.div_le_self k (root k)
  have hbl := bitLen_le (root k) (by omega)
  have hX : (k : Int) / (root k : Int) = ((k / root k : Nat) : Int) := by simp
  have hMd : moreN d (k / root k) (root k) k = if d < k / root k then 4294967296 * root k / (d * k) else if d = k / root k then 4294967296 * root k * Lib.bitLen (root k) / k else 0 := rfl
  have hPd : plainN d k = if d = 1 then 4294967296 / k else 4294967296 / (d * (d - 1)) := rfl
  generalize Lib.bitLen (root k) = z at *
  generalize k / root k = p at *
  generalize root k = t at *
  generalize moreN d p t k = M at *
  generalize plainN d k = P at *
  obtain ⟨g1, g2⟩ := hr
  have gk : (1 : Int) ≤ k := by omega
  have gt : (1 : Int) ≤ t := by omega
  have dk1 : 1 * 1 ≤ d * k := Nat.mul_le_mul h3 h1
  have dk2 : d * k ≤ 64 * 64 := Nat.mul_le_mul h4 h2
  have q1 : 1 ≤ (d : Int) * (k : Int) := by rw [mul_cast]; omega
  have q2 : (d : Int) * (k : Int) ≤ 4096 := by rw [mul_cast]; omega
  have tz : t * z ≤ 8 * 8 := Nat.mul_le_mul g2 hbl
  have hz3 : 4294967296 * (t : Int) * (z : Int) = ((4294967296 * (t * z) : Nat) : Int) := by rw [Int.mul_assoc, mul_cast]; simp
  have q3 : 0 ≤ 4294967296 * (t : Int) * (z : Int) := by rw [hz3]; omega
  have q4 : 4294967296 * (t : Int) * (z : Int) ≤ 274877906944 := by rw [hz3]; omega
  have HZ3 := Lib.hid hz3
  have HPd := Lib.hid hPd
  have HMd := Lib.hid hMd
  clear hz3 hPd hMd tz dk1 dk2
  by_cases hd1 : d = 1
  · rcases Nat.lt_trichotomy d p with hdp | hdp | hdp
    · have HP := Lib.hid (show P = 4294967296 / k by rw [HPd.out, if_pos hd1])
      have eP : (4294967296 : Int) / (k : Int) = (P : Int) := by rw [HP.out]; simp
      have gP : P ≤ 4294967296 := by rw [HP.out]; exact Nat.div_le_self _ _
      have gd : ¬ (1 : Int) < d := by omega
      have HM := Lib.hid (show M = 4294967296 * t / (d * k) by rw [HMd.out, if_pos hdp])
      have eM : 4294967296 * (t : Int) / ((d : Int) * (k : Int)) = (M : Int) := by rw [HM.out, mul_cast]; simp
      have gM : M ≤ 4294967296 * t := by rw [HM.out]; exact Nat.div_le_self _ _
      have c1 : (d : Int) < p := by omega
      have c2 : ((d : Int) == (p : Int)) = false := beq_eq_false_iff_ne.2 (by omega)
      clear hd1 hdp
      go_enter Try.func46, Try.ntmps46
      go_wp2_with fail
      refine HR.out.mono ?_
      rintro e w1 ⟨rfl, rfl⟩
      go_wp2_with fail
      go_ret
      exact ⟨by rw [HW.out]; simp, rfl⟩
    · have HP := Lib.hid (show P = 4294967296 / k by rw [HPd.out, if_pos hd1])
      have eP : (4294967296 : Int) / (k : Int) = (P : Int) := by rw [HP.out]; simp
      have gP : P ≤ 4294967296 := by rw [HP.out]; exact Nat.div_le_self _ _
      have gd : ¬ (1 : Int) < d := by omega
      have HM := Lib.hid (show M = 4294967296 * t * z / k by rw [HMd.out, if_neg (by omega), if_pos hdp])
      have eM : 4294967296 * (t : Int) * (z : Int) / (k : Int) = (M : Int) := by rw [HM.out]; simp
      have gM : M ≤ 274877906944 := by have := HZ3.out; have h9 : 4294967296 * t * z / k ≤ 4294967296 * t * z := Nat.div_le_self _ _; rw [HM.out]; rw [Nat.mul_assoc] at h9 ⊢; omega
      have c1 : ¬ (d : Int) < p := by omega
      have c2 : ((d : Int) == (p : Int)) = true := beq_iff_eq.2 (by omega)
      clear hd1 hdp
      go_enter Try.func46, Try.ntmps46
      go_wp2_with fail
      refine HR.out.mono ?_
      rintro e w1 ⟨rfl, rfl⟩
      go_wp2_with fail
      refine HD.out.mono ?_
      rintro e w1 ⟨rfl, rfl⟩
      go_wp2_with fail
      go_ret
      exact ⟨by rw [HW.out]; simp, rfl⟩
    · have HP := Lib.hid (show P = 4294967296 / k by rw [HPd.out, if_pos hd1])
      have eP : (4294967296 : Int) / (k : Int) = (P : Int) := by rw [HP.out]; simp
      have gP : P ≤ 4294967296 := by rw [HP.out]; exact Nat.div_le_self _ _
      have gd : ¬ (1 : Int) < d := by omega
      have HM := Lib.hid (show M = 0 by rw [HMd.out, if_neg (by omega), if_neg (by omega)])
      have c1 : ¬ (d : Int) < p := by omega
      have c2 : ((d : Int) == (p : Int)) = false := beq_eq_false_iff_ne.2 (by omega)
      clear hd1 hdp
      go_enter Try.func46, Try.ntmps46
      go_wp2_with fail
      refine HR.out.mono ?_
      rintro e w1 ⟨rfl, rfl⟩
      go_wp2_with fail
      go_ret
      exact ⟨by rw [HW.out, HM.out, Nat.add_zero]; exact congrArg (fun x => Ending.returned (Value.int .u64 x)) eP, rfl⟩
  · rcases Nat.lt_trichotomy d p with hdp | hdp | hdp
    · have HP := Lib.hid (show P = 4294967296 / (d * (d - 1)) by rw [HPd.out, if_neg hd1])
      have u1 : 1 * 1 ≤ d * (d - 1) := Nat.mul_le_mul (by omega) (by omega)
      have u2 : d * (d - 1) ≤ 64 * 63 := Nat.mul_le_mul (by omega) (by omega)
      have v1 : 1 ≤ (d : Int) * ((d : Int) - 1) := by rw [dd_cast d h3]; omega
      have v2 : (d : Int) * ((d : Int) - 1) ≤ 4032 := by rw [dd_cast d h3]; omega
      have eP : (4294967296 : Int) / ((d : Int) * ((d : Int) - 1)) = (P : Int) := by rw [HP.out, dd_cast d h3]; simp
      have gP : P ≤ 4294967296 := by rw [HP.out]; exact Nat.div_le_self _ _
      have gd : (1 : Int) < d := by omega
      clear u1 u2
      have HM := Lib.hid (show M = 4294967296 * t / (d * k) by rw [HMd.out, if_pos hdp])
      have eM : 4294967296 * (t : Int) / ((d : Int) * (k : Int)) = (M : Int) := by rw [HM.out, mul_cast]; simp
      have gM : M ≤ 4294967296 * t := by rw [HM.out]; exact Nat.div_le_self _ _
      have c1 : (d : Int) < p := by omega
      have c2 : ((d : Int) == (p : Int)) = false := beq_eq_false_iff_ne.2 (by omega)
      clear hd1 hdp
      go_enter Try.func46, Try.ntmps46
      go_wp2_with fail
      refine HR.out.mono ?_
      rintro e w1 ⟨rfl, rfl⟩
      go_wp2_with fail
      go_ret
      exact ⟨by rw [HW.out]; simp, rfl⟩
    · have HP := Lib.hid (show P = 4294967296 / (d * (d - 1)) by rw [HPd.out, if_neg hd1])
      have u1 : 1 * 1 ≤ d * (d - 1) := Nat.mul_le_mul (by omega) (by omega)
      have u2 : d * (d - 1) ≤ 64 * 63 := Nat.mul_le_mul (by omega) (by omega)
      have v1 : 1 ≤ (d : Int) * ((d : Int) - 1) := by rw [dd_cast d h3]; omega
      have v2 : (d : Int) * ((d : Int) - 1) ≤ 4032 := by rw [dd_cast d h3]; omega
      have eP : (4294967296 : Int) / ((d : Int) * ((d : Int) - 1)) = (P : Int) := by rw [HP.out, dd_cast d h3]; simp
      have gP : P ≤ 4294967296 := by rw [HP.out]; exact Nat.div_le_self _ _
      have gd : (1 : Int) < d := by omega
      clear u1 u2
      have HM := Lib.hid (show M = 4294967296 * t * z / k by rw [HMd.out, if_neg (by omega), if_pos hdp])
      have eM : 4294967296 * (t : Int) * (z : Int) / (k : Int) = (M : Int) := by rw [HM.out]; simp
      have gM : M ≤ 274877906944 := by have := HZ3.out; have h9 : 4294967296 * t * z / k ≤ 4294967296 * t * z := Nat.div_le_self _ _; rw [HM.out]; rw [Nat.mul_assoc] at h9 ⊢; omega
      have c1 : ¬ (d : Int) < p := by omega
      have c2 : ((d : Int) == (p : Int)) = true := beq_iff_eq.2 (by omega)
      clear hd1 hdp
      go_enter Try.func46, Try.ntmps46
      go_wp2_with fail
      refine HR.out.mono ?_
      rintro e w1 ⟨rfl, rfl⟩
      go_wp2_with fail
      refine HD.out.mono ?_
      rintro e w1 ⟨rfl, rfl⟩
      go_wp2_with fail
      go_ret
      exact ⟨by rw [HW.out]; simp, rfl⟩
    · have HP := Lib.hid (show P = 4294967296 / (d * (d - 1)) by rw [HPd.out, if_neg hd1])
      have u1 : 1 * 1 ≤ d * (d - 1) := Nat.mul_le_mul (by omega) (by omega)
      have u2 : d * (d - 1) ≤ 64 * 63 := Nat.mul_le_mul (by omega) (by omega)
      have v1 : 1 ≤ (d : Int) * ((d : Int) - 1) := by rw [dd_cast d h3]; omega
      have v2 : (d : Int) * ((d : Int) - 1) ≤ 4032 := by rw [dd_cast d h3]; omega
      have eP : (4294967296 : Int) / ((d : Int) * ((d : Int) - 1)) = (P : Int) := by rw [HP.out, dd_cast d h3]; simp
      have gP : P ≤ 4294967296 := by rw [HP.out]; exact Nat.div_le_self _ _
      have gd : (1 : Int) < d := by omega
      clear u1 u2
      have HM := Lib.hid (show M = 0 by rw [HMd.out, if_neg (by omega), if_neg (by omega)])
      have c1 : ¬ (d : Int) < p := by omega
      have c2 : ((d : Int) == (p : Int)) = false := beq_eq_false_iff_ne.2 (by omega)
      clear hd1 hdp
      go_enter Try.func46, Try.ntmps46
      go_wp2_with fail
      refine HR.out.mono ?_
      rintro e w1 ⟨rfl, rfl⟩
      go_wp2_with fail
      go_ret
      exact ⟨by rw [HW.out, HM.out, Nat.add_zero]; exact congrArg (fun x => Ending.returned (Value.int .u64 x)) eP, rfl⟩
end Go.Proofs.Ytbgikkeiapbghaa
