/- Parts: PopM, Oc, OnesQ, OnesF, RefPl, TellsX, Ms1, Ms2, Ms3, Ms4, RefOnes, Pick, RefSum, PkX, Ms5, BorderM, MrM, KeM, NfM, EqR, EqT, EqV, BsM, ZeroX, BsN, BsP, Bs1, Bs2. -/
import Derived.Test.YtcikoaeiopbbbaaGreatZf
import Derived.ArgAppend
import Derived.Deep.AppendLies
import Derived.Deep.RegionLaw
import Derived.Deep.RegionLawGrows
import Derived.IntWalk
import Derived.Laws.BitsAllLaws
import Derived.OpenShut
namespace Go.Proofs.YtcikoaeiopbbbaaGreat
section
/- How many bits of a word are 1, byte by byte, and folded. No program. -/
set_option linter.unusedVariables false
set_option linter.unusedSimpArgs false
/-- A number by its bytes, the lowest first. -/
def valB : List Nat → Nat
  | [] => 0
  | c :: cs => c + 256 * valB cs
theorem valB_and (m : Nat) (hm : m < 256) : ∀ cs : List Nat, (∀ c ∈ cs, c < 256) → valB cs &&& valB (List.replicate cs.length m) = valB (cs.map (· &&& m))
  | [], _ => by simp [valB]
  | c :: cs, h => by
    have hc : c < 256 := h c (by simp)
    have ih := valB_and m hm cs (fun x hx => h x (by simp [hx]))
    have e1 : (valB (c :: cs) &&& valB (List.replicate (c :: cs).length m)) / 2 ^ 8 = valB (c :: cs) / 2 ^ 8 &&& valB (List.replicate (c :: cs).length m) / 2 ^ 8 := Nat.and_div_two_pow
    have e2 : (valB (c :: cs) &&& valB (List.replicate (c :: cs).length m)) % 2 ^ 8 = (valB (c :: cs) % 2 ^ 8) &&& (valB (List.replicate (c :: cs).length m) % 2 ^ 8) := Nat.and_mod_two_pow
    simp only [List.length_cons, List.replicate_succ, valB] at *
    rw [show (c + 256 * valB cs) / 2 ^ 8 = valB cs by omega, show (m + 256 * valB (List.replicate cs.length m)) / 2 ^ 8 = valB (List.replicate cs.length m) by omega, ih] at e1
    rw [show (c + 256 * valB cs) % 2 ^ 8 = c by omega, show (m + 256 * valB (List.replicate cs.length m)) % 2 ^ 8 = m by omega] at e2
    have := Nat.div_add_mod ((c + 256 * valB cs) &&& (m + 256 * valB (List.replicate cs.length m))) (2 ^ 8)
    rw [e1, e2] at this
    simp only [List.map_cons, valB]
    omega
/-- Bytes shifted down by k bits. -/
def shrB (p q : Nat) : List Nat → List Nat
  | [] => []
  | [c] => [c / p]
  | c :: d :: r => (c / p + d % p * q) :: shrB p q (d :: r)
theorem div_cut (c p q y : Nat) (hp : 0 < p) (e : p * q = 256) : (c + 256 * y) / p = c / p + q * y := by
  rw [← e, Nat.mul_assoc, Nat.add_mul_div_left _ _ hp]
theorem shrB_val (p q : Nat) (hp : 0 < p) (e : p * q = 256) : ∀ cs : List Nat, valB (shrB p q cs) = valB cs / p
  | [] => by simp [shrB, valB]
  | [c] => by simp [shrB, valB]
  | c :: d :: r => by
    have ih := shrB_val p q hp e (d :: r)
    show c / p + d % p * q + 256 * valB (shrB p q (d :: r)) = (c + 256 * valB (d :: r)) / p
    rw [ih, div_cut c p q _ hp e, ← e]
    have h1 := Nat.div_add_mod (valB (d :: r)) p
    have h2 : valB (d :: r) % p = d % p := by
      simp only [valB]
      rw [← e, Nat.mul_assoc, Nat.add_mul_mod_self_left]
    rw [h2] at h1
    have h3 : q * valB (d :: r) = q * (p * (valB (d :: r) / p) + d % p) := by rw [h1]
    rw [h3, Nat.mul_add, Nat.mul_comm (d % p) q, ← Nat.mul_assoc q p, Nat.mul_comm q p]
    omega
theorem shrB_len (p q : Nat) : ∀ cs : List Nat, (shrB p q cs).length = cs.length
  | [] => rfl
  | [c] => rfl
  | c :: d :: r => by simp only [shrB, List.length_cons]; rw [shrB_len p q (d :: r)]; rfl
theorem shrB_lt (p q : Nat) (hp : 0 < p) (e : p * q = 256) : ∀ cs : List Nat, (∀ c ∈ cs, c < 256) → ∀ c ∈ shrB p q cs, c < 256
  | [], _ => by simp [shrB]
  | [c], h => by
    intro x hx
    have : x = c / p := by simpa [shrB] using hx
    have := h c (by simp)
    have := Nat.div_le_self c p
    omega
  | c :: d :: r, h => by
    intro x hx
    rcases List.mem_cons.1 (show x ∈ (c / p + d % p * q) :: shrB p q (d :: r) from hx) with rfl | hx
    · have h1 := h c (by simp)
      have h2 : c / p < q := by rw [Nat.div_lt_iff_lt_mul hp, Nat.mul_comm, e]; exact h1
      have h3 : d % p < p := Nat.mod_lt _ hp
      have h4 : (d % p + 1) * q ≤ p * q := Nat.mul_le_mul_right _ h3
      rw [Nat.add_mul, Nat.one_mul, e] at h4
      omega
    · exact shrB_lt p q hp e (d :: r) (fun y hy => h y (by simp [hy])) x hx
theorem valB_add : ∀ xa bs : List Nat, xa.length = bs.length → valB xa + valB bs = valB (List.zipWith (· + ·) xa bs)
  | [], [], _ => rfl
  | a :: xa, b :: bs, h => by
    have ih := valB_add xa bs (by simpa using h)
    simp only [valB, List.zipWith_cons_cons]
    omega
  | [], _ :: _, h => by simp at h
  | _ :: _, [], h => by simp at h
/-- Two masked halves put together, byte by byte. -/
theorem half_map (p q m : Nat) (f : Nat → Nat) (hf : ∀ c, c < 256 → ∀ z, z < p → ((c / p + z * q) &&& m) + (c &&& m) = f c) (hf0 : ∀ c, c < 256 → ((c / p) &&& m) + (c &&& m) = f c) (hp : 0 < p) :
    ∀ cs : List Nat, (∀ c ∈ cs, c < 256) → List.zipWith (· + ·) ((shrB p q cs).map (· &&& m)) (cs.map (· &&& m)) = cs.map f
  | [], _ => rfl
  | [c], h => by simp [shrB, hf0 c (h c (by simp))]
  | c :: d :: r, h => by
    have ih := half_map p q m f hf hf0 hp (d :: r) (fun y hy => h y (by simp [hy]))
    simp only [shrB, List.map_cons, List.zipWith_cons_cons] at *
    rw [ih, hf c (h c (by simp)) (d % p) (Nat.mod_lt _ hp)]
/-- Two halves put together, and masked, byte by byte. -/
theorem both_map : ∀ cs : List Nat, (List.zipWith (· + ·) (shrB 16 16 cs) cs).map (· &&& 15) = cs.map fun c => (c / 16 + c) % 16
  | [] => rfl
  | [c] => by
    simp only [shrB, List.zipWith_cons_cons, List.zipWith_nil_left, List.map_cons, List.map_nil]
    exact congrArg (fun y => [y]) (Nat.and_two_pow_sub_one_eq_mod (c / 16 + c) 4)
  | c :: d :: r => by
    have ih := both_map (d :: r)
    simp only [shrB, List.map_cons, List.zipWith_cons_cons] at *
    rw [ih, show (c / 16 + d % 16 * 16 + c) &&& 15 = (c / 16 + d % 16 * 16 + c) % 2 ^ 4 from Nat.and_two_pow_sub_one_eq_mod _ 4, show (c / 16 + d % 16 * 16 + c) % 2 ^ 4 = (c / 16 + c) % 16 by omega]
theorem both_lt : ∀ cs : List Nat, (∀ c ∈ cs, c / 16 ≤ 4 ∧ c % 16 ≤ 4) → ∀ x ∈ List.zipWith (· + ·) (shrB 16 16 cs) cs, x < 256
  | [], _ => by simp [shrB]
  | [c], h => by
    intro x hx
    have := h c (by simp)
    have : x = c / 16 + c := by simpa [shrB] using hx
    omega
  | c :: d :: r, h => by
    intro x hx
    simp only [shrB, List.zipWith_cons_cons] at hx
    rcases List.mem_cons.1 hx with rfl | hx
    · have h1 := h c (by simp)
      have h2 := h d (by simp)
      omega
    · exact both_lt (d :: r) (fun y hy => h y (by simp [hy])) x hx
def f1 (c : Nat) : Nat := ((c / 2) &&& 85) + (c &&& 85)
def f2 (c : Nat) : Nat := ((c / 4) &&& 51) + (c &&& 51)
/-- How many bits of a byte are 1. -/
def pop8 (c : Nat) : Nat := ((List.range 8).filter c.testBit).length
theorem f1_ok : ∀ c : Fin 256, ∀ z : Fin 2, ((c.val / 2 + z.val * 128) &&& 85) + (c.val &&& 85) = f1 c.val := by decide +kernel
theorem f1_lt : ∀ c : Fin 256, f1 c.val < 171 := by decide +kernel
theorem f2_ok : ∀ c : Fin 256, ∀ z : Fin 4, ((c.val / 4 + z.val * 64) &&& 51) + (c.val &&& 51) = f2 c.val := by decide +kernel
theorem f2_lt : ∀ c : Fin 256, f2 (f1 c.val) / 16 ≤ 4 ∧ f2 (f1 c.val) % 16 ≤ 4 := by decide +kernel
theorem pop_ok : ∀ c : Fin 256, (f2 (f1 c.val) / 16 + f2 (f1 c.val)) % 16 = pop8 c.val := by decide +kernel
theorem pop_le : ∀ c : Fin 256, pop8 c.val ≤ 8 := by decide +kernel
/-- The three steps that count within bytes. -/
def stepA (x : Nat) : Nat := ((x / 2) &&& 6148914691236517205) + (x &&& 6148914691236517205)
def stepB (x : Nat) : Nat := ((x / 4) &&& 3689348814741910323) + (x &&& 3689348814741910323)
def stepC (x : Nat) : Nat := (x / 16 + x) &&& 1085102592571150095
theorem step_half (p q m : Nat) (f : Nat → Nat) (M : Nat) (hm : m < 256) (hp : 0 < p) (e : p * q = 256) (hf : ∀ c : Fin 256, ∀ z : Fin p, ((c.val / p + z.val * q) &&& m) + (c.val &&& m) = f c.val) (cs : List Nat) (h : ∀ c ∈ cs, c < 256) (hM : M = valB (List.replicate cs.length m)) :
    ((valB cs / p) &&& M) + (valB cs &&& M) = valB (cs.map f) := by
  have l1 := shrB_len p q cs
  have e1 := valB_and m hm (shrB p q cs) (shrB_lt p q hp e cs h)
  have e2 := valB_and m hm cs h
  rw [l1, shrB_val p q hp e] at e1
  rw [hM, e1, e2, valB_add _ _ (by simp [l1]), half_map p q m f (fun c hc z hz => hf ⟨c, hc⟩ ⟨z, hz⟩) (fun c hc => by have := hf ⟨c, hc⟩ ⟨0, hp⟩; simpa using this) hp cs h]
theorem steps (cs : List Nat) (h : ∀ c ∈ cs, c < 256) (h8 : cs.length = 8) : stepC (stepB (stepA (valB cs))) = valB (cs.map pop8) ∧ stepA (valB cs) = valB (cs.map f1) ∧ stepB (stepA (valB cs)) = valB (cs.map fun c => f2 (f1 c)) := by
  have a1 : stepA (valB cs) = valB (cs.map f1) := step_half 2 128 85 f1 _ (by decide) (by decide) rfl f1_ok cs h (by rw [h8]; decide)
  have hb : ∀ c ∈ cs.map f1, c < 256 := by
    intro x hx
    obtain ⟨c, hc, rfl⟩ := List.mem_map.1 hx
    have := f1_lt ⟨c, h c hc⟩
    simp only at this
    omega
  have a2 : stepB (valB (cs.map f1)) = valB ((cs.map f1).map f2) := step_half 4 64 51 f2 _ (by decide) (by decide) rfl f2_ok _ hb (by rw [List.length_map, h8]; decide)
  rw [List.map_map] at a2
  refine ⟨?_, a1, by rw [a1, a2]; rfl⟩
  rw [a1, a2]
  unfold stepC
  have hc : ∀ x ∈ cs.map (f2 ∘ f1), x / 16 ≤ 4 ∧ x % 16 ≤ 4 := by
    intro x hx
    obtain ⟨c, hc, rfl⟩ := List.mem_map.1 hx
    exact f2_lt ⟨c, h c hc⟩
  rw [← shrB_val 16 16 (by decide) rfl, valB_add _ _ (by rw [shrB_len])]
  have e3 := valB_and 15 (by decide) _ (both_lt _ hc)
  have hl : (List.zipWith (· + ·) (shrB 16 16 (cs.map (f2 ∘ f1))) (cs.map (f2 ∘ f1))).length = 8 := by simp [shrB_len, h8]
  rw [hl, both_map, List.map_map] at e3
  rw [show (1085102592571150095 : Nat) = valB (List.replicate 8 15) by decide, e3]
  congr 1
  apply List.map_congr_left
  intro c hc
  exact pop_ok ⟨c, h c hc⟩
/-- The bytes of a word. -/
def bytesW (x : Nat) : List Nat := (List.range 8).map fun i => x / 256 ^ i % 256
theorem bytesW_eq (x : Nat) : bytesW x = [x % 256, x / 256 % 256, x / 65536 % 256, x / 16777216 % 256, x / 4294967296 % 256, x / 1099511627776 % 256, x / 281474976710656 % 256, x / 72057594037927936 % 256] := by simp [bytesW, List.range_succ]
theorem bytesW_val (x : Nat) (h : x < 18446744073709551616) : valB (bytesW x) = x := by
  rw [bytesW_eq]
  simp only [valB]
  omega
/-- The sums of bytes, folded. -/
theorem fold_sum (a b c d e f g i : Nat) (h : a ≤ 8 ∧ b ≤ 8 ∧ c ≤ 8 ∧ d ≤ 8 ∧ e ≤ 8 ∧ f ≤ 8 ∧ g ≤ 8 ∧ i ≤ 8) (z t u v : Nat) (hz : z = valB [a, b, c, d, e, f, g, i]) (ht : t = z + z / 256) (hu : u = t + t / 65536) (hv : v = u + u / 4294967296) :
    v % 128 = a + b + c + d + e + f + g + i ∧ v < 18446744073709551616 := by
  simp only [valB] at hz
  have t1 : t = (a + b) + 256 * ((b + c) + 256 * ((c + d) + 256 * ((d + e) + 256 * ((e + f) + 256 * ((f + g) + 256 * ((g + i) + 256 * i)))))) := by omega
  clear ht hz
  have u1 : u = (a + b + c + d) + 256 * ((b + c + d + e) + 256 * ((c + d + e + f) + 256 * ((d + e + f + g) + 256 * ((e + f + g + i) + 256 * ((f + g + i) + 256 * ((g + i) + 256 * i)))))) := by omega
  clear hu t1
  have v1 : u / 4294967296 = (e + f + g + i) + 256 * ((f + g + i) + 256 * ((g + i) + 256 * i)) := by omega
  rw [v1, u1] at hv
  omega
/-- How many of the first m bits are 1. -/
def popW (x m : Nat) : Nat := ((List.range m).filter x.testBit).length
theorem popW_step (x m : Nat) : popW x (m + 8) = popW x m + pop8 (x / 2 ^ m % 256) := by
  unfold popW pop8
  rw [List.range_add, List.filter_append, List.length_append, List.filter_map, List.length_map]
  congr 2
  apply List.filter_congr
  intro j hj
  have hj : j < 8 := by simpa using hj
  show x.testBit (m + j) = _
  rw [show (256 : Nat) = 2 ^ 8 from rfl, Nat.testBit_mod_two_pow, Nat.testBit_div_two_pow, Nat.add_comm]
  simp [hj]
theorem popW_bytes (x : Nat) : popW x 64 = pop8 (x % 256) + pop8 (x / 256 % 256) + pop8 (x / 65536 % 256) + pop8 (x / 16777216 % 256) + pop8 (x / 4294967296 % 256) + pop8 (x / 1099511627776 % 256) + pop8 (x / 281474976710656 % 256) + pop8 (x / 72057594037927936 % 256) := by
  have s0 := popW_step x 0
  have s1 := popW_step x 8
  have s2 := popW_step x 16
  have s3 := popW_step x 24
  have s4 := popW_step x 32
  have s5 := popW_step x 40
  have s6 := popW_step x 48
  have s7 := popW_step x 56
  have z : popW x 0 = 0 := rfl
  simp only [Nat.reduceAdd, Nat.reducePow, Nat.div_one] at s0 s1 s2 s3 s4 s5 s6 s7
  omega
/-- The library's count of a word's bits, step by step. -/
theorem count_word (x : Nat) (hx : x < 18446744073709551616) (z t u v : Nat) (hz : z = stepC (stepB (stepA x))) (ht : t = z + z / 256) (hu : u = t + t / 65536) (hv : v = u + u / 4294967296) : v % 128 = popW x 64 ∧ v < 18446744073709551616 := by
  have hb : ∀ c ∈ bytesW x, c < 256 := by
    intro c hc
    rw [bytesW] at hc
    obtain ⟨i, -, rfl⟩ := List.mem_map.1 hc
    exact Nat.mod_lt _ (by omega)
  have h1 := (steps (bytesW x) hb (by simp [bytesW])).1
  rw [bytesW_val x hx] at h1
  rw [h1, bytesW_eq] at hz
  rw [popW_bytes]
  have hp : ∀ y : Nat, pop8 (y % 256) ≤ 8 := fun y => pop_le ⟨y % 256, Nat.mod_lt _ (by omega)⟩
  exact fold_sum _ _ _ _ _ _ _ _ ⟨hp x, hp _, hp _, hp _, hp _, hp _, hp _, hp _⟩ z t u v hz ht hu hv
end
section
/- math/bits.OnesCount64, bitrow.Count. -/
set_option linter.unusedVariables false
set_option linter.unusedSimpArgs false
open Go.RowKit
theorem ofInt_i64N (a : Nat) (ha : a < 9223372036854775808) : (BitVec.ofInt 64 (a : Int)).toNat = a := by
  rw [BitVec.ofInt_natCast, BitVec.toNat_ofNat]; exact Nat.mod_eq_of_lt (by omega)
theorem i64_and_nat (a b : Nat) (ha : a < 9223372036854775808) (hb : b < 9223372036854775808) : bits .and .i64 (a : Int) (b : Int) = ((a &&& b : Nat) : Int) := by
  have hx : a &&& b < 2 ^ 63 := Nat.and_lt_two_pow _ (by omega)
  show IntKind.i64.wrap ((BitVec.ofInt 64 (a : Int) &&& BitVec.ofInt 64 (b : Int)).toNat : Int) = _
  rw [BitVec.toNat_and, ofInt_i64N a ha, ofInt_i64N b hb]
  exact IntWalk.i64_in _ (by omega)
theorem low7 (v : Nat) : v &&& 127 = v % 128 := Nat.and_two_pow_sub_one_eq_mod v 7
set_option maxHeartbeats 1000000 in
theorem ones64_any (x : Nat) (hx : x < 18446744073709551616) (w : World) :
    Calls Tryz.prog 189 #[.int .u64 x] w fun e w' => e = .returned (.int .i64 (popW x 64 : Nat)) ∧ w = w' := by
  obtain ⟨a1, ea1⟩ : ∃ a, a = (x / 2) &&& 6148914691236517205 := ⟨_, rfl⟩
  obtain ⟨a2, ea2⟩ : ∃ a, a = x &&& 6148914691236517205 := ⟨_, rfl⟩
  obtain ⟨b1, eb1⟩ : ∃ a, a = ((a1 + a2) / 4) &&& 3689348814741910323 := ⟨_, rfl⟩
  obtain ⟨b2, eb2⟩ : ∃ a, a = (a1 + a2) &&& 3689348814741910323 := ⟨_, rfl⟩
  obtain ⟨z, ez⟩ : ∃ a, a = ((b1 + b2) / 16 + (b1 + b2)) &&& 1085102592571150095 := ⟨_, rfl⟩
  have la1 : a1 ≤ 6148914691236517205 := by rw [ea1]; exact Nat.and_le_right
  have la2 : a2 ≤ 6148914691236517205 := by rw [ea2]; exact Nat.and_le_right
  have lb1 : b1 ≤ 3689348814741910323 := by rw [eb1]; exact Nat.and_le_right
  have lb2 : b2 ≤ 3689348814741910323 := by rw [eb2]; exact Nat.and_le_right
  have lz : z ≤ 1085102592571150095 := by rw [ez]; exact Nat.and_le_right
  have hv := (count_word x hx z (z + z / 256) ((z + z / 256) + (z + z / 256) / 65536) _ (by rw [ez, eb1, eb2, ea1, ea2]; rfl) rfl rfl rfl).1
  have s1 : bits BinOp.and IntKind.u64 ((x : Int) / 2) 6148914691236517205 = (a1 : Int) := by
    have := u64_and_nat (x / 2) 6148914691236517205 (by omega) (by omega)
    rw [← ea1] at this; exact this
  have s2 : bits BinOp.and IntKind.u64 (x : Int) 6148914691236517205 = (a2 : Int) := by
    have := u64_and_nat x 6148914691236517205 hx (by omega)
    rw [← ea2] at this; exact this
  have s3 : bits BinOp.and IntKind.u64 (((a1 : Int) + (a2 : Int)) / 4) 3689348814741910323 = (b1 : Int) := by
    have := u64_and_nat ((a1 + a2) / 4) 3689348814741910323 (by omega) (by omega)
    rw [← eb1] at this; exact this
  have s4 : bits BinOp.and IntKind.u64 ((a1 : Int) + (a2 : Int)) 3689348814741910323 = (b2 : Int) := by
    have := u64_and_nat (a1 + a2) 3689348814741910323 (by omega) (by omega)
    rw [← eb2] at this; exact this
  have s5 : bits BinOp.and IntKind.u64 (((b1 : Int) + (b2 : Int)) / 16 + ((b1 : Int) + (b2 : Int))) 1085102592571150095 = (z : Int) := by
    have := u64_and_nat ((b1 + b2) / 16 + (b1 + b2)) 1085102592571150095 (by omega) (by omega)
    rw [← ez] at this; exact this
  have s6 : bits BinOp.and IntKind.i64 (((z : Int) + (z : Int) / 256) + ((z : Int) + (z : Int) / 256) / 65536 + (((z : Int) + (z : Int) / 256) + ((z : Int) + (z : Int) / 256) / 65536) / 4294967296) 127 = ((popW x 64 : Nat) : Int) := by
    have := i64_and_nat (((z + z / 256) + (z + z / 256) / 65536) + ((z + z / 256) + (z + z / 256) / 65536) / 4294967296) 127 (by omega) (by omega)
    rw [low7, hv] at this; exact this
  clear hv ea1 ea2 eb1 eb2 ez
  go_enter Tryz.func189, Tryz.ntmps189
  go_wp2
  go_ret
  exact ⟨rfl, rfl⟩
end
section
/- bitrow.Count, bitrow.Get. -/
set_option linter.unusedVariables false
set_option linter.unusedSimpArgs false
open Go.RowKit
theorem plcN_word (us : List Nat) (j : Nat) : (plcN us (64 * (j + 1))).length = (plcN us (64 * j)).length + popW (us.getD j 0) 64 := by
  unfold plcN popW
  rw [show 64 * (j + 1) = 64 * j + 64 by omega, List.range_add, List.filter_append, List.length_append, List.filter_map, List.length_map]
  congr 2
  apply List.filter_congr
  intro p hp
  have hp : p < 64 := by simpa using hp
  show (bitAt us (64 * j + p) == 1) = _
  rw [Bool.eq_iff_iff, beq_iff_eq, bitAt_bit us j p hp]
set_option maxHeartbeats 1000000 in
theorem count_yes (N : Int) (A : Option Addr) (len c : Nat) (us : List Nat) (w : World) (hr : rightB N us = true) (hW : Words w A len us) :
    Calls Tryz.prog 168 #[.agg #[.int .i64 N, .slice A len c]] w fun e w' => e = .returned (.tuple #[.int .i64 ((plcN us (64 * len)).length : Nat), .int .i64 0]) ∧ Below w.heap.size w w' := by
  have hl8 := rightB_len8 hr hW.1
  have Q := Lib.hid (Box.new w 139 #[.int .i64 N, .slice A len c])
  have HB := Lib.hid (show Below w.heap.size w (w.alloc (.cells #[.int .i64 N, .slice A len c] 139)) from (Below.refl _ _).alloc (Nat.le_refl _) _)
  have HW := Lib.hid (hW.alloc (.cells #[.int .i64 N, .slice A len c] 139))
  have HR := Lib.hid (right_any N A len c us _ HW.out)
  rw [hr] at HR
  obtain ⟨r0, r1, -, -⟩ := Q.out.two
  clear hW hr
  go_enter Tryz.func168, Tryz.ntmps168
  go_wp2_with fail
  refine HR.out.mono ?_
  rintro e w1 ⟨rfl, hb⟩
  have B := Lib.hid (chain HB.out hb)
  have HW := Lib.hid (HW.out.below hb)
  have Q := Lib.hid (Q.out.keep hb)
  clear hb HR HB r0 r1
  obtain ⟨r0, r1, -, -⟩ := Q.out.two
  go_wp2
  clear r0 r1
  go_loop [13, 4, 6] (fun i m _ => ∃ j : Nat, j ≤ len ∧ i = .int .i64 j ∧ m = .int .i64 ((plcN us (64 * j)).length : Nat)) (fun i _ _ => len - (intOf i).toNat)
  case atStart => exact ⟨0, by omega, rfl, rfl⟩
  case round =>
    obtain ⟨j, hj, rfl, rfl⟩ := hrel
    have hm := plcN_len us (64 * j)
    have HN := Lib.hid (plcN_word us j)
    generalize hme : (plcN us (64 * j)).length = m at *
    have HE := Lib.hid hme
    clear hme
    by_cases hlt : j < len
    · obtain ⟨b, off, rfl, hlb, hc⟩ := HW.out.2.2 (by omega)
      have c1 := hc j hlt
      have hx := HW.out.2.1 j
      have hp : popW (us.getD j 0) 64 ≤ 64 := by
        have := List.length_filter_le (us.getD j 0).testBit (List.range 64)
        simpa [popW] using this
      have HC := Lib.hid (ones64_any (us.getD j 0) hx)
      generalize popW (us.getD j 0) 64 = p at *
      generalize us.getD j 0 = x at *
      clear hc
      go_wp2_with fail
      refine (HC.out _).mono ?_
      rintro e w2 ⟨rfl, rfl⟩
      clear HC c1
      go_wp2
      go_round
      case rel => exact ⟨j + 1, by omega, by go_num, by rw [HN.out]; go_num⟩
      case measure => simp [intOf]; omega
    · obtain rfl : j = len := by omega
      go_wp2
      go_ret2
      exact ⟨by rw [HE.out]; rfl, B.out⟩
end
section
/- bitrow.First: the first place of a bit 1. -/
set_option linter.unusedVariables false
set_option linter.unusedSimpArgs false
open Go.RowKit Go.Shelf
attribute [local go_sem] Oper.semAt_some
end
section
/- The reference's Places: where a row's bits are 1. -/
set_option linter.unusedVariables false
set_option linter.unusedSimpArgs false
open Go.RowKit
end
section
/- BitrowTells: the walk. -/
set_option linter.unusedVariables false
set_option linter.unusedSimpArgs false
open Go.RowKit
end
section
/- Contracts of layer 3: table.sum. -/
set_option linter.unusedVariables false
set_option linter.unusedSimpArgs false
open Go.RowKit
theorem Ints.far2 {w : World} {A : Option Addr} {len : Nat} {zs : List Int} (h : Ints w A len zs) {g : Nat} (hne : ∀ b off, 0 < len → A = some ⟨b, off, none⟩ → b ≠ g) (u v : Value) : Ints ((w.setCell ⟨g, 0, none⟩ u).setCell ⟨g, 1, none⟩ v) A len zs := by
  refine ⟨h.1, h.2.1, fun hp => ?_⟩
  obtain ⟨b, off, rfl, hlt, hc⟩ := h.2.2 hp
  have hn := hne b off hp rfl
  refine ⟨b, off, rfl, by simpa [World.setCell] using hlt, fun j hj => ?_⟩
  rw [World.cell?_setCell_other _ _ _ _ (by intro e; injection e; omega), World.cell?_setCell_other _ _ _ _ (by intro e; injection e; omega)]
  exact hc j hj
end
section
/- Contracts of layer 3: rowsOf, Mul. -/
set_option linter.unusedVariables false
set_option linter.unusedSimpArgs false
open Go.RowKit
theorem Box.one {w : World} {g : Nat} {t : TypeId} {a : Value} (h : Box w g t #[a]) : w.cell? ⟨g, 0, none⟩ = some a := h.cell 0
end
section
/- Contracts of layer 3: Mul; the reference's bit. -/
set_option linter.unusedVariables false
set_option linter.unusedSimpArgs false
open Go.RowKit
end
section
/- Layer 3's reference: Mul. -/
set_option linter.unusedVariables false
set_option linter.unusedSimpArgs false
open Go.RowKit
end
section
/- Contract of layer 2's reference: Ones. -/
set_option linter.unusedVariables false
set_option linter.unusedSimpArgs false
open Go.RowKit
def ones (k : Nat) : List Int := List.replicate k 1
end
section
/- block.Pick: the sum of those blocks that a row names; the reference's Bits. -/
set_option linter.unusedVariables false
set_option linter.unusedSimpArgs false
open Go.RowKit
/-- The texts at some places. -/
def picks (ss : List ByteArray) (ps : List Nat) : List ByteArray := ps.map fun p => ss.getD p ByteArray.empty
end
section
/- Contract of layer 2's reference: Sum. -/
set_option linter.unusedVariables false
set_option linter.unusedSimpArgs false
open Go.RowKit
end
section
/- BlockPicks: the walk. -/
set_option linter.unusedVariables false
set_option linter.unusedSimpArgs false
open Go.RowKit
theorem Texts.far {w : World} {A : Option Addr} {len : Nat} {ss : List ByteArray} {g : Nat} {t : TypeId} {x : Int} {S : Option Addr} {p q : Nat} (h : Texts w A len ss) (hb : Box w g t #[.int .i64 x, .slice S p q]) (i : Nat) (u : Value) : Texts (w.setCell ⟨g, i, none⟩ u) A len ss := by
  refine ⟨h.1, h.2.1, fun hp => ?_⟩
  obtain ⟨b, off, rfl, hlt, hc⟩ := h.2.2 hp
  have hne : b ≠ g := by
    intro e
    subst e
    have c := hc 0 hp
    rw [hb.cell] at c
    match off, c with
    | 0, c => simp at c
    | 1, c => simp at c
    | k + 2, c => simp at c
  refine ⟨b, off, rfl, by simpa [World.setCell] using hlt, fun j hj => ?_⟩
  rw [World.cell?_setCell_other _ _ _ _ (by intro e; injection e; omega)]
  exact hc j hj
end
section
/- Contracts of layer 3: Apply, the reference's Apply; law 03's blocks; the reference's Texts. -/
set_option linter.unusedVariables false
set_option linter.unusedSimpArgs false
open Go.RowKit
/-- Texts as cells. -/
def strCells (ss : List ByteArray) : Array Value := (ss.map Value.string).toArray
theorem strCells_get (ss : List ByteArray) (j : Nat) (h : j < ss.length) : (strCells ss)[j]? = some (.string (ss.getD j ByteArray.empty)) := by simp [strCells, List.getD, h]
theorem Box.texts {w : World} {g : Nat} {t : TypeId} {ss : List ByteArray} (h : Box w g t (strCells ss)) (hz : ∀ j, (ss.getD j ByteArray.empty).size ≤ maxLen) : Texts w (some ⟨g, 0, none⟩) ss.length ss :=
  ⟨rfl, hz, fun _ => ⟨g, 0, rfl, h.lt, fun j hj => by rw [Nat.zero_add, h.cell j, strCells_get ss j hj]⟩⟩
end
section
/- Sums of blocks do not hang on order; what stands there twice is out of it; what two rows' Xor picks. No program. -/
set_option linter.unusedVariables false
set_option linter.unusedSimpArgs false
end
section
/- Mathematics of matrices turned, multiplied and applied. -/
set_option linter.unusedVariables false
set_option linter.unusedSimpArgs false
theorem ofBits_has (n : Nat) (l : List Nat) (p : Nat) (hp : p / 64 < nw n) : bitAt (ofBits n (castP l)) p = 1 ↔ p ∈ l := by
  have h : (bitAt (ofBits n (castP l)) p == 1) = (castP l).any fun q => q.toNat / 64 == p / 64 && q.toNat % 64 == p % 64 := by
    rw [bitAt_test, ofBits_test n _ _ _ hp]
  rw [← beq_iff_eq, h, List.any_eq_true]
  constructor
  · rintro ⟨q, hq, e⟩
    obtain ⟨r, hr, rfl⟩ := List.mem_map.1 hq
    simp only [Bool.and_eq_true, beq_iff_eq, Int.toNat_natCast] at e
    obtain rfl : r = p := by omega
    exact hr
  · intro hpl
    exact ⟨(p : Int), List.mem_map.2 ⟨p, hpl, rfl⟩, by simp⟩
theorem right_ofBits (n : Nat) (l : List Nat) (hl : ∀ p ∈ l, p < n) (hn : lmb (n : Int) = true) : rightB (n : Int) (ofBits n (castP l)) = true := by
  refine right_of_bits n _ _ hn rfl (ofBits_len n _) (ofBits_lt n _) fun i h1 h2 => ?_
  rw [ofBits_len] at h2
  rcases bitAt_le (ofBits n (castP l)) i with h | h
  · exact h
  · have := hl i ((ofBits_has n l i (by omega)).1 h)
    omega
theorem bit_iff {x y : Nat} (hx : x = 0 ∨ x = 1) (hy : y = 0 ∨ y = 1) (h : x = 1 ↔ y = 1) : x = y := by
  rcases hx with h1 | h1 <;> rcases hy with h2 | h2 <;> simp [h1, h2] at h ⊢
theorem rightM_of {N : Nat} {ms : List (Int × List Nat)} (hN : N ≤ 64) (hl : ms.length ≤ 64) (h : ∀ i, i < ms.length → (ms.getD i (0, [])).1 = N ∧ rightB N (ms.getD i (0, [])).2 = true) : rightM N ms = true := by
  simp only [rightM, Bool.and_eq_true, decide_eq_true_eq]
  refine ⟨⟨(smb_iff N).2 ⟨by omega, by omega⟩, hl⟩, ?_⟩
  unfold rowsB
  rw [List.all_eq_true]
  intro r hr
  obtain ⟨i, hi, rfl⟩ := List.mem_iff_getElem.1 hr
  have := h i hi
  rw [show ms.getD i (0, []) = ms[i] by simp [List.getD, hi]] at this
  rw [this.1, this.2]; simp
theorem mat_ext {ms ks : List (Int × List Nat)} (hl : ms.length = ks.length) (h : ∀ i, i < ms.length → ms.getD i (0, []) = ks.getD i (0, [])) : ms = ks := by
  apply List.ext_getElem hl
  intro i h1 h2
  have := h i h1
  simpa [List.getD, h1, h2] using this
theorem oneL_atM (n i : Nat) (h : i < n) : (oneL n).getD i (0, []) = ((n : Int), ofBits n [(i : Int)]) := by simp [oneL, List.getD, h]
theorem one_right (n : Nat) (hn : n ≤ 64) : rightM n (oneL n) = true := by
  refine rightM_of hn (by rw [oneL_len]; exact hn) fun i hi => ?_
  rw [oneL_len] at hi
  rw [oneL_atM n i hi]
  exact ⟨rfl, right_ofBits n [i] (by simp; exact hi) ((lmb_iff n).2 ⟨by omega, by omega⟩)⟩
theorem one_bit (n k i : Nat) (hk : k < n) (hi : i < n) : mbit (oneL n) k i = if k = i then 1 else 0 := by
  have e : mbit (oneL n) k i = bitAt (ofBits n (castP [k])) i := by
    unfold mbit; rw [oneL_atM n k hk]; rfl
  rw [e]
  refine bit_iff (bitAt_le _ _) (by split <;> simp) ?_
  rw [ofBits_has _ _ _ (by unfold nw; omega)]
  by_cases h : k = i
  · simp [h]
  · simp [h]; omega
theorem psum_one (n : Nat) (us : List Nat) (i : Nat) (hi : i < n) : ∀ k, k ≤ n → psum us (oneL n) i k = if i < k then bitAt us i else 0
  | 0, _ => by simp [psum]
  | k + 1, hk => by
    simp only [psum]
    rw [psum_one n us i hi k (by omega), one_bit n k i (by omega) hi]
    by_cases h : k = i
    · subst h
      simp
    · by_cases h2 : i < k
      · simp [h, h2, show i < k + 1 by omega]
      · simp [h, h2, show ¬ i < k + 1 by omega]
theorem mul_one {n : Nat} {ms : List (Int × List Nat)} (hr : rightM n ms = true) (hz : ∀ i j, ((ms.getD i (0, [])).2).getD j 0 < 18446744073709551616) : mulM n (oneL n) ms = ms := by
  have hbd := rightM_bd hr
  refine mat_ext (mulM_len _ _ _) fun j hj => ?_
  rw [mulM_len] at hj
  rw [mulM_at _ _ _ j hj]
  obtain ⟨h1, h2⟩ := rightM_at hr j hj
  have h1r := one_right n (by omega)
  have : mulW n (oneL n) (ms.getD j (0, [])).2 = (ms.getD j (0, [])).2 := by
    refine right_ext (mulW_right h1r _) h2 (mulW_lt n (oneL_lt n) _) (hz j) fun i hi => ?_
    rw [mulW_bit h1r _ i hi, oneL_len, psum_one n _ i hi n (Nat.le_refl _), if_pos hi]
    rcases bitAt_le (ms.getD j (0, [])).2 i with h | h <;> rw [h]
  rw [this, ← h1]
end
section
/- The mathematics of ranks: as many rows as columns. No program. -/
set_option linter.unusedVariables false
set_option linter.unusedSimpArgs false
/-- Those of the first k of the columns at P whose row of M has a bit at i. -/
def cols (T M P : List Nat) (i : Nat) : Nat → Nat
  | 0 => 0
  | k + 1 => if (M.getD k 0).testBit i then cols T M P i k ^^^ T.getD (P.getD k 0) 0 else cols T M P i k
end
section
/- The places of a symbol's row are its blocks. -/
set_option linter.unusedVariables false
set_option linter.unusedSimpArgs false
theorem filter_wide (k m : Nat) (c : Nat → Bool) (h : k ≤ m) : ((List.range m).filter fun p => decide (p ∈ (List.range k).filter c)) = (List.range k).filter c := by
  obtain ⟨d, rfl⟩ := Nat.le.dest h
  rw [List.range_add, List.filter_append]
  have e1 : ((List.range k).filter fun p => decide (p ∈ (List.range k).filter c)) = (List.range k).filter c := by
    apply List.filter_congr
    intro x hx
    rw [Bool.eq_iff_iff]
    simp only [List.mem_filter, decide_eq_true_eq]
    exact ⟨fun h => h.2, fun h => ⟨hx, h⟩⟩
  have e2 : (((List.range d).map fun x => k + x).filter fun p => decide (p ∈ (List.range k).filter c)) = [] := by
    rw [List.filter_eq_nil_iff]
    intro x hx
    obtain ⟨y, -, rfl⟩ := List.mem_map.1 hx
    simp only [List.mem_filter, decide_eq_true_eq, List.mem_range]
    omega
  rw [e1, e2, List.append_nil]
theorem bitAt_small (us : List Nat) (p : Nat) (h : p < 64) : (bitAt us p == 1) = (us.getD 0 0).testBit p := by
  rw [Bool.eq_iff_iff, beq_iff_eq, ← bitAt_bit us 0 p h, Nat.mul_zero, Nat.zero_add]
theorem nb_lt (k id x : Nat) (h : x ∈ nbL k id) : x < k := by
  have := (List.mem_filter.1 h).1
  simpa using this
theorem nb_plc (k id : Nat) (h1 : 1 ≤ k) (h2 : k ≤ 64) : plcN (nbRow k id) 64 = nbL k id := by
  have e : plcN (nbRow k id) 64 = (List.range 64).filter fun p => decide (p ∈ nbL k id) := by
    unfold plcN
    apply List.filter_congr
    intro p hp
    have hp : p < 64 := by simpa using hp
    rw [bitAt_small _ p hp, nbRow, ofBits_test k _ 0 p (by unfold nw; omega), Bool.eq_iff_iff]
    simp only [List.any_eq_true, nbZ, castZ, List.mem_map, decide_eq_true_eq, Bool.and_eq_true, beq_iff_eq]
    constructor
    · rintro ⟨z, ⟨y, hy, rfl⟩, h3, h4⟩
      rw [Int.toNat_natCast] at h3 h4
      have : y = p := by omega
      rwa [← this]
    · intro hy
      refine ⟨(p : Int), ⟨p, hy, rfl⟩, ?_, ?_⟩
      · rw [Int.toNat_natCast]; omega
      · rw [Int.toNat_natCast]; omega
  rw [e]
  exact filter_wide k 64 _ h2
theorem nb_right (k id : Nat) (h1 : 1 ≤ k) (h2 : k ≤ 64) : rightB (k : Int) (nbRow k id) = true := by
  have hlen : (nbRow k id).length = 1 := by rw [nbRow, ofBits_len]; unfold nw; omega
  refine right_of_bits k 1 _ (lmb_k k h1 h2) hlen (by unfold nw; omega) (ofBits_lt k _) fun i h3 h4 => ?_
  have h : plcN (nbRow k id) 64 = nbL k id := nb_plc k id h1 h2
  rcases bitAt_le (nbRow k id) i with h0 | h0
  · exact h0
  · exfalso
    have : i ∈ plcN (nbRow k id) 64 := by
      unfold plcN
      exact List.mem_filter.2 ⟨by simp; omega, by simpa using h0⟩
    rw [h] at this
    have := nb_lt k id i this
    omega
end
section
/- Layer 12: the rank as a number; rows as numbers. -/
set_option linter.unusedVariables false
set_option linter.unusedSimpArgs false
open Go.RowKit
def RkIs (L : List Nat) (n : Nat) : Prop := ∃ M P, Rref M P ∧ SameSp L M ∧ n = M.length
theorem rk_fun {L : List Nat} {n m : Nat} (h : RkIs L n) (h' : RkIs L m) : n = m := by
  obtain ⟨M, P, a, b, rfl⟩ := h
  obtain ⟨M', P', a', b', rfl⟩ := h'
  rw [(rref_uniq a a' (b.symm.trans b')).1]
/-- A symbol's row as a number. -/
def numR (k id : Nat) : Nat := valW (nbRow k id)
theorem numR_row (k id : Nat) (h1 : 1 ≤ k) (h2 : k ≤ 64) : nbRow k id = rowOf k (numR k id) ∧ numR k id < 2 ^ k := row_of (nb_right k id h1 h2) (nbRow_lt k id)
def rowsN (k : Nat) (xs : List SymR) : List Nat := xs.map fun x => numR k x.1
theorem rowsN_len (k : Nat) (xs : List SymR) : (rowsN k xs).length = xs.length := by simp [rowsN]
theorem rowsN_lt (k : Nat) (xs : List SymR) (h1 : 1 ≤ k) (h2 : k ≤ 64) : ∀ r ∈ rowsN k xs, r < 2 ^ k := fun r hr => by
  obtain ⟨x, -, rfl⟩ := List.mem_map.1 hr
  exact (numR_row k x.1 h1 h2).2
theorem rowsN_mk (k : Nat) (xs : List SymR) (h1 : 1 ≤ k) (h2 : k ≤ 64) (j : Nat) (hj : j < xs.length) : (mkM k (rowsN k xs)).getD j (0, []) = ((k : Int), ((xs.map (·.1)).map (nbRow k)).getD j []) := by
  rw [mkM_at k _ j (by rw [rowsN_len]; exact hj)]
  have e : (rowsN k xs).getD j 0 = numR k (xs[j]).1 := by simp [rowsN, List.getD, hj]
  have e2 : ((xs.map (·.1)).map (nbRow k)).getD j [] = nbRow k (xs[j]).1 := by simp [List.getD, hj]
  rw [e, e2, (numR_row k (xs[j]).1 h1 h2).1]
  rfl
theorem MatW.mat {w : World} {base k : Nat} {v : Value} {xs : List SymR} (h1 : 1 ≤ k) (h2 : k ≤ 64) (h : MatW w base k v ((xs.map (·.1)).map (nbRow k))) : ∃ A c, v = .slice A (rowsN k xs).length c ∧ MatAt w base A (rowsN k xs).length (mkM k (rowsN k xs)) := by
  obtain ⟨rs, a, b, c⟩ := h
  rw [List.length_map, List.length_map] at a b c
  have e : flatR k rs = rowCells (rs.map fun r => ((k : Int), r)) := by simp [flatR, rowCells, List.flatMap_map]
  rw [e] at b
  obtain ⟨A, d, hv, -, hm⟩ := own_mat b (by simp [a]) (mkM k (rowsN k xs)) (by rw [mkM_len, rowsN_len]) (fun j hj => by
    have hr : (rs.map fun r => ((k : Int), r)).getD j (0, none, 0, 0) = ((k : Int), rs.getD j (none, 0, 0)) := by
      have : j < rs.length := by omega
      simp [List.getD, this]
    rw [hr, rowsN_mk k xs h1 h2 j hj]
    have := c j hj
    exact ⟨rfl, this.ok, this.words (fun i => rowsRows_lt k (xs.map (·.1)) j i)⟩)
  rw [← rowsN_len k xs] at hv hm
  exact ⟨A, d, hv, hm⟩
end
section
/- Contracts of layer 12: Rows, Rank, Bytes. -/
set_option linter.unusedVariables false
set_option linter.unusedSimpArgs false
open Go.RowKit
set_option maxRecDepth 100000
theorem u64_info12 : (Tryz.prog.info? 22).map (fun i => (i.zero, i.size, i.bytes)) = some (some (.int .u64 0), 1, 8) := by kernel_rfl
theorem storeB_bd {k s c : Int} {xs : List SymR} (h : storeB k s c xs = true) : (1 ≤ k ∧ k ≤ 64) ∧ (0 ≤ s ∧ s ≤ 64) ∧ (1 ≤ c ∧ c ≤ 64) ∧ (xs.length : Int) ≤ c := by
  unfold storeB kB at h
  simp only [Bool.and_eq_true, decide_eq_true_eq] at h
  exact ⟨h.1.1.1.1.1, h.1.1.1.1.2, h.1.1.1.2, h.1.1.2⟩
def idN (xs : List SymR) : List Nat := xs.map (·.1)
theorem idN_len (xs : List SymR) : (idN xs).length = xs.length := by simp [idN]
theorem idN_at (xs : List SymR) (h : ∀ j, (xs.getD j default).1 < 18446744073709551616) (j : Nat) : (idN xs).getD j 0 < 18446744073709551616 := by
  by_cases hj : j < xs.length
  · have e : (idN xs).getD j 0 = (xs.getD j default).1 := by simp [idN, List.getD, hj]
    rw [e]; exact h j
  · have e : (idN xs).getD j 0 = 0 := by simp [idN, List.getD, List.getElem?_eq_none (Nat.le_of_not_lt hj)]
    rw [e]; decide
theorem idN_snoc (xs : List SymR) (k : Nat) (h : k < xs.length) : (idN (xs.take (k + 1))).map (fun (x : Nat) => Value.int .u64 (x : Int)) = (idN (xs.take k)).map (fun (x : Nat) => Value.int .u64 (x : Int)) ++ [Value.int .u64 ((xs.getD k default).1 : Nat)] := by
  unfold idN
  rw [take_snocD xs k h]; simp
abbrev erW (k s c : Int) (A : Option Addr) (l d : Nat) (w : World) : World :=
  (w.alloc (.cells #[.int .i64 k, .int .i64 s, .int .i64 c, .slice A l d] 25)).alloc (.cells #[.int .i64 0, .slice none 0 0] 102)
theorem erW_two (k s c : Int) (A : Option Addr) (l d : Nat) (w : World) :
    Box (erW k s c A l d w) w.heap.size 25 #[.int .i64 k, .int .i64 s, .int .i64 c, .slice A l d] ∧ Box (erW k s c A l d w) (w.heap.size + 1) 102 #[.int .i64 0, .slice none 0 0] ∧ Below w.heap.size w (erW k s c A l d w) := by
  refine ⟨(Box.new w _ _).alloc _, ?_, ((Below.refl _ _).alloc (Nat.le_refl _) _).alloc (by simp) _⟩
  have q := Box.new (w.alloc (.cells #[.int .i64 k, .int .i64 s, .int .i64 c, .slice A l d] 25)) 102 #[.int .i64 0, .slice none 0 0]
  simpa only [World.size_alloc] using q
/-- A matrix of the symbols' rows. -/
def RowsOut (k : Nat) (xs : List SymR) (w : World) (e : Ending) (w' : World) : Prop :=
  ∃ A c b0, e = .returned (.tuple #[.agg #[.int .i64 k, .slice A xs.length c], .int .i64 0]) ∧ MatW w' b0 k (.slice A xs.length c) ((idN xs).map (nbRow k)) ∧ Below w.heap.size w w'
set_option maxHeartbeats 4000000 in
theorem erows_yes (k : Nat) (s c : Int) (A : Option Addr) (l d : Nat) (xs : List SymR) (w : World) (hx : Syms w A l xs) (hl : l ≤ d) (hd : d ≤ maxLen) (hs : storeB k s c xs = true) (hid : ∀ j, (xs.getD j default).1 < 18446744073709551616) :
    Calls Tryz.prog 117 #[.agg #[.int .i64 k, .int .i64 s, .int .i64 c, .slice A l d]] w (RowsOut k xs w) := by
  obtain ⟨hk, -, hc, hlc⟩ := storeB_bd hs
  have k1 : 1 ≤ k := by omega
  have k2 : k ≤ 64 := by omega
  obtain ⟨i0, hi, hz0, hz1, hz2⟩ := info_parts u64_info12
  have HI := Lib.hid hi
  have HZ0 := Lib.hid hz0
  have HZ1 := Lib.hid hz1
  have HZ2 := Lib.hid hz2
  obtain ⟨q0, q1, b1⟩ := erW_two k s c A l d w
  have Q0 := Lib.hid q0
  have Q1 := Lib.hid q1
  have HB := Lib.hid b1
  have HXl := Lib.hid hx.1
  have hl64 : l ≤ 64 := by have := hx.1; omega
  have HX := Lib.hid (hx.below b1)
  have HID := Lib.hid (idN_at xs hid)
  have HR := Lib.hid (eright_any k s c A l d xs _ (hx.below b1) hl hd)
  rw [hs] at HR
  have HRW := Lib.hid (fun A' c' w' h => rows_yes k k1 k2 A' l c' (idN xs) w' h hl64)
  obtain ⟨r0, r1, r2, r3, -, -, -, -⟩ := q0.four
  clear hx b1 q0 q1 hs hi hz0 hz1 hz2 hid
  go_enter Tryz.func117, Tryz.ntmps117
  go_wp2_with fail
  refine HR.out.mono ?_
  rintro e w1 ⟨rfl, hb⟩
  replace HB := Lib.hid (chain HB.out hb)
  replace Q0 := Lib.hid (Q0.out.keep hb)
  replace Q1 := Lib.hid (Q1.out.keep hb)
  replace HX := Lib.hid (HX.out.below hb)
  clear hb r0 r1 r2 r3 HR
  obtain ⟨r0, r1, r2, r3, -, -, -, -⟩ := Q0.out.four
  go_wp2_with fail
  clear r0 r1 r2 r3
  go_loopw [4, 14] (fun v t wr => ∃ i : Nat, i ≤ l ∧ t = .int .i64 i ∧ wr.ownsRow w1.heap.size 22 1 v i ((idN (xs.take i)).map fun (x : Nat) => Value.int .u64 (x : Int)) ∧ Below w1.heap.size w1 wr) (fun _ t _ => l - (intOf t).toNat)
  case atStart => exact ⟨0, Nat.zero_le _, rfl, World.ownsRow_nil _ _ _ _, Below.refl _ _⟩
  case round =>
    obtain ⟨i, hi, rfl, hown, hbel⟩ := hrel
    have HO := Lib.hid hown
    have HC := Lib.hid hbel
    clear hown hbel
    by_cases hlt : i < l
    · have hlt' : (i : Int) < (l : Int) := Int.ofNat_lt.2 hlt
      obtain ⟨b, off, rfl, hb, x0, x1⟩ := Syms.two HX.out i hlt
      have x0 := (HC.out.cell (p := ⟨b, off + i * 2, none⟩) hb).trans x0
      have x1 := (HC.out.cell (p := ⟨b, off + i * 2 + 1, none⟩) hb).trans x1
      have HS := Lib.hid (idN_snoc xs i (by rw [HXl.out]; exact hlt))
      generalize xs.getD i default = p at *
      obtain ⟨p0, p1⟩ := p
      dsimp only at x0 x1 HS
      have G := Lib.hid (Box.new wr 29 #[.int .u64 (p0 : Nat), .string p1])
      have c1 := Lib.hid (show Below wr.heap.size wr (wr.alloc (.cells #[.int .u64 (p0 : Nat), .string p1] 29)) from (Below.refl _ _).alloc (Nat.le_refl _) _)
      have c2 := Lib.hid (show Below wr.heap.size wr ((wr.alloc (.cells #[.int .u64 (p0 : Nat), .string p1] 29)).alloc (.cells #[.int .u64 (p0 : Nat)] 22)) from c1.out.alloc c1.out.size _)
      have XO := Lib.hid (own_keep HO.out c2.out)
      have XB := Lib.hid (HC.out.trans (c2.out.mono HC.out.size))
      have N2 := Lib.hid (fun g hg => (HO.out.lt g hg).1)
      have NW := Lib.hid (show ∀ j u, ([Value.int .u64 (p0 : Nat)])[j]? = some u → ((wr.alloc (.cells #[.int .u64 (p0 : Nat), .string p1] 29)).alloc (.cells #[.int .u64 (p0 : Nat)] 22)).cell? ((⟨wr.heap.size + 1, 0, none⟩ : Addr).add j) = some u from by
        have := World.news_of_block (Box.new (wr.alloc (.cells #[.int .u64 (p0 : Nat), .string p1] 29)) 22 #[.int .u64 (p0 : Nat)])
        rw [World.size_alloc] at this
        exact this)
      obtain ⟨g0, g1, -, -⟩ := G.out.two
      clear G c1
      go_wp2_with (at_builtin; refine wpList_append_own _ rfl _ _ 137 rfl w1.heap.size 22 i0 (.int .u64 0) 1 8 Tryz.underlying137 HI.out HZ0.out HZ1.out HZ2.out rfl (by decide) _ _ _ rfl XO.out ⟨wr.heap.size + 1, 0, none⟩ 1 1 [.int .u64 (p0 : Nat)] rfl rfl NW.out (by simp [Value.oneCell']) (by simp [maxLen]; omega) (by omega) XB.out.size ?_; intro v' w2 hown' hgrow _; have HC2 := Lib.hid (XB.out.grown hgrow XB.out.size N2.out); have HO2 := Lib.hid hown'; clear hown' hgrow)
      go_roundw
      case rel =>
        refine ⟨i + 1, hlt, by go_num, ?_, HC2.out⟩
        rw [HS.out]
        exact HO2.out
      case measure => simp [intOf] <;> omega
    · obtain rfl : l = i := by omega
      have hlt' : ¬ (l : Int) < (l : Int) := Int.lt_irrefl _
      have HTK := Lib.hid (show xs.take l = xs from List.take_of_length_le (by rw [HXl.out]; exact Nat.le_refl _))
      rw [HTK.out] at HO
      obtain ⟨A7, c7, hv, -⟩ := own_form HO.out
      subst hv
      have HWd := Lib.hid (own_words HO.out HID.out)
      have Q0 := Lib.hid (Q0.out.keep HC.out)
      have Q1 := Lib.hid (Q1.out.keep HC.out)
      have BB := Lib.hid (chain HB.out HC.out)
      clear HO HTK HC
      obtain ⟨r0, r1, r2, r3, -, -, -, -⟩ := Q0.out.four
      go_wp2_with fail
      refine (HRW.out A7 c7 _ HWd.out).mono ?_
      rintro e w3 ⟨v3, rfl, hm, hb⟩
      obtain ⟨A3, c3, rfl⟩ := MatW.form hm (show ((idN xs).map (nbRow k)).length = l by rw [List.length_map, idN_len, HXl.out])
      have HM := Lib.hid hm
      replace BB := Lib.hid (chain BB.out hb)
      replace Q1 := Lib.hid (Q1.out.keep hb)
      clear hb hm r0 r1 r2 r3
      obtain ⟨z0, z1, z2, z3⟩ := Q1.out.two
      go_wp2_with fail
      refine close_cell Tryz.results117 rfl rfl rfl Q1.out.put2 Tryz.underlying102 rfl (by kernel_rfl) ⟨A3, c3, wr.heap.size, by rw [HXl.out]; rfl, ?_, ?_⟩
      · rw [HXl.out]
        exact (HM.out.far Q1.out (by decide) (by decide) 0 _).far (Q1.out.put 0 _) (by decide) (by decide) 1 _
      · exact (BB.out.setCell (p := ⟨w.heap.size + 1, 0, none⟩) (by show w.heap.size ≤ w.heap.size + 1; omega) _).setCell (p := ⟨w.heap.size + 1, 1, none⟩) (by show w.heap.size ≤ w.heap.size + 1; omega) _
theorem erank_yes (k : Nat) (s c : Int) (A : Option Addr) (l d : Nat) (xs : List SymR) (w : World) (hx : Syms w A l xs) (hl : l ≤ d) (hd : d ≤ maxLen) (hs : storeB k s c xs = true) (hid : ∀ j, (xs.getD j default).1 < 18446744073709551616) :
    Calls Tryz.prog 116 #[.agg #[.int .i64 k, .int .i64 s, .int .i64 c, .slice A l d]] w fun e w' => ∃ n : Nat, e = .returned (.tuple #[.int .i64 n, .int .i64 0]) ∧ RkIs (rowsN k xs) n ∧ Below w.heap.size w w' := by
  obtain ⟨hk, -, hc, hlc⟩ := storeB_bd hs
  have k1 : 1 ≤ k := by omega
  have k2 : k ≤ 64 := by omega
  have b1 : Below w.heap.size w (w.alloc (.cells #[.int .i64 k, .int .i64 s, .int .i64 c, .slice A l d] 25)) := (Below.refl _ _).alloc (Nat.le_refl _) _
  have HR := Lib.hid (erows_yes k s c A l d xs _ (hx.below b1) hl hd hs hid)
  have HB := Lib.hid b1
  have HK := Lib.hid (fun A c lo w hm => rank_yes k k2 (rowsN k xs) (rowsN_lt k xs k1 k2) (by rw [rowsN_len]; omega) A c lo w hm (right_mk k k2 (rowsN k xs) (by rw [rowsN_len]; omega) (rowsN_lt k xs k1 k2)))
  obtain ⟨r0, r1, r2, r3, -, -, -, -⟩ := (Box.new w 25 #[.int .i64 k, .int .i64 s, .int .i64 c, .slice A l d]).four
  clear hx b1 hs hid
  go_enter Tryz.func116, Tryz.ntmps116
  go_wp2_with fail
  refine HR.out.mono ?_
  rintro e w1 ⟨A3, c3, b0, rfl, hm, hb⟩
  obtain ⟨A4, c4, hv, hmat⟩ := MatW.mat k1 k2 hm
  rw [rowsN_len] at hv
  injection hv with e1 e2 e3
  subst e1 e3
  have Q := Lib.hid (Box.new w1 102 #[.int .i64 k, .slice A3 xs.length c3])
  have HM := Lib.hid (hmat.below ((Below.refl _ _).alloc (Nat.le_refl _) (.cells #[.int .i64 k, .slice A3 xs.length c3] 102)))
  replace HB := Lib.hid ((chain HB.out hb).alloc (chain HB.out hb).size (.cells #[.int .i64 k, .slice A3 xs.length c3] 102))
  clear hb r0 r1 r2 r3 hm hmat
  obtain ⟨z0, z1, -, -⟩ := Q.out.two
  have HKK := Lib.hid (HK.out A3 c3 _ _ HM.out)
  rw [rowsN_len] at HKK
  go_wp2_with fail
  refine HKK.out.mono ?_
  rintro e w2 ⟨M, P, g1, g2, rfl, hb⟩
  have HG := Lib.hid (show RkIs (rowsN k xs) M.length from ⟨M, P, g1, g2, rfl⟩)
  replace HB := Lib.hid (chain HB.out hb)
  clear hb g1 g2
  go_wp2_with fail
  go_ret2
  exact ⟨M.length, rfl, HG.out, HB.out⟩
end
section
/- Contracts of layer 12: equations.Sums; the reference's Rows, Sums, Rank and Bytes. -/
set_option linter.unusedVariables false
set_option linter.unusedSimpArgs false
open Go.RowKit
set_option maxRecDepth 100000
theorem row_infoV : (Tryz.prog.info? 139).map (fun i => (i.zero, i.size, i.bytes)) = some (some (.agg #[.int .i64 0, .slice none 0 0]), 2, 32) := by kernel_rfl
def dtL (xs : List SymR) : List ByteArray := xs.map (·.2)
theorem dtL_snoc (xs : List SymR) (k : Nat) (h : k < xs.length) : (dtL (xs.take (k + 1))).map Value.string = (dtL (xs.take k)).map Value.string ++ [Value.string (xs.getD k default).2] := by
  unfold dtL
  rw [take_snocD xs k h]; simp
theorem dtL_le {k s c : Int} {xs : List SymR} (h : storeB k s c xs = true) (j : Nat) : ((dtL xs).getD j ByteArray.empty).size ≤ maxLen := by
  by_cases hj : j < xs.length
  · have e : (dtL xs).getD j ByteArray.empty = (xs[j]).2 := by simp [dtL, List.getD, hj]
    rw [e]
    have hb := storeB_bd h
    unfold storeB at h
    simp only [Bool.and_eq_true] at h
    have ha := h.1.2
    unfold allB at ha
    rw [List.all_eq_true] at ha
    have := ha _ (List.getElem_mem hj)
    have : (((xs[j]).2.size : Nat) : Int) = s := by simpa using this
    unfold maxLen
    omega
  · have e : (dtL xs).getD j ByteArray.empty = ByteArray.empty := by simp [dtL, List.getD, List.getElem?_eq_none (Nat.le_of_not_lt hj)]
    rw [e]; exact Nat.zero_le _
theorem own_empty1 (W : World) (base e : Nat) (hb : base ≤ W.heap.size) : (W.alloc (.cells #[] e)).ownsRow base e 1 (.slice (some ⟨W.heap.size, 0, none⟩) 0 0) 0 [] :=
  ⟨by simp, .inr ⟨W.heap.size, 0, #[], rfl, hb, heap_alloc_new W _, Nat.le_refl _, Nat.zero_le _, by simp, by simp⟩⟩
set_option maxHeartbeats 4000000 in
theorem refRows12_any (k : Nat) (s c : Int) (A : Option Addr) (l d : Nat) (xs : List SymR) (w : World) (hx : Syms w A l xs) (hl : l ≤ d) (hd : d ≤ maxLen) (h1 : 1 ≤ k) (h2 : k ≤ 64) (hl64 : l ≤ 64) (hid : ∀ j, (xs.getD j default).1 < 18446744073709551616) :
    Calls Tryz.prog 60 #[.agg #[.int .i64 k, .int .i64 s, .int .i64 c, .slice A l d]] w fun e w' => ∃ A' c', e = .returned (.agg #[.int .i64 k, .slice A' l c']) ∧ MatW w' w.heap.size k (.slice A' l c') ((idN xs).map (nbRow k)) ∧ Below w.heap.size w w' := by
  have HS := Lib.hid (fun id hi w => refRow_own k id h1 h2 hi w)
  have HX := Lib.hid hx
  have HXl := Lib.hid hx.1
  have HID := Lib.hid hid
  obtain ⟨i0, hi, hz0, hz1, hz2⟩ := info_parts row_infoV
  have HI := Lib.hid hi
  have HZ0 := Lib.hid hz0
  have HZ1 := Lib.hid hz1
  have HZ2 := Lib.hid hz2
  clear hi hz0 hz1 hz2 hx hid
  have QS := Lib.hid (((Box.new w 25 #[.int .i64 k, .int .i64 s, .int .i64 c, .slice A l d]).alloc (.cells #[.int .i64 0, .slice none 0 0] 102)).alloc (.cells #[.int .i64 k, .slice none 0 0] 102))
  have q0 := (Box.new (w.alloc (.cells #[.int .i64 k, .int .i64 s, .int .i64 c, .slice A l d] 25)) 102 #[.int .i64 0, .slice none 0 0]).alloc (.cells #[.int .i64 k, .slice none 0 0] 102)
  have q1 := Box.new ((w.alloc (.cells #[.int .i64 k, .int .i64 s, .int .i64 c, .slice A l d] 25)).alloc (.cells #[.int .i64 0, .slice none 0 0] 102)) 102 #[.int .i64 k, .slice none 0 0]
  have HW := Lib.hid (show Below w.heap.size w (((w.alloc (.cells #[.int .i64 k, .int .i64 s, .int .i64 c, .slice A l d] 25)).alloc (.cells #[.int .i64 0, .slice none 0 0] 102)).alloc (.cells #[.int .i64 k, .slice none 0 0] 102)) from (((Below.refl _ _).alloc (Nat.le_refl _) _).alloc (by simp) _).alloc (by simp; omega) _)
  simp only [World.size_alloc] at q0 q1
  have Q0 := Lib.hid q0
  have Q1 := Lib.hid q1
  clear q0 q1
  obtain ⟨r0, r1, r2, r3, -, -, -, -⟩ := QS.out.four
  have QS0 := Lib.hid ((Box.new w 25 #[.int .i64 k, .int .i64 s, .int .i64 c, .slice A l d]).alloc (.cells #[.int .i64 0, .slice none 0 0] 102))
  obtain ⟨u0, u1, u2, u3, -, -, -, -⟩ := QS0.out.four
  go_enter Tryz.func60, Tryz.ntmps60
  go_wp2_with fail
  clear r0 r1 r2 r3 u0 u1 u2 u3 QS0
  go_loopw [12] (fun t wr => ∃ (i : Nat) (v : Value), i ≤ l ∧ t = .int .i64 i ∧ Box wr (w.heap.size + 2) 102 #[.int .i64 k, v] ∧ MatW wr w.heap.size k v ((idN (xs.take i)).map (nbRow k)) ∧ Box wr (w.heap.size + 1) 102 #[.int .i64 0, .slice none 0 0] ∧ Box wr w.heap.size 25 #[.int .i64 k, .int .i64 s, .int .i64 c, .slice A l d] ∧ Below w.heap.size w wr) (fun t _ => l - (intOf t).toNat)
  case atStart => exact ⟨0, _, by omega, rfl, Q1.out, MatW.nil _ _ _, Q0.out, QS.out, HW.out⟩
  case round =>
    obtain ⟨i, v, hi, rfl, B1, hmat, B0, BS, hbel⟩ := hrel
    have R1 := Lib.hid B1
    have R0 := Lib.hid B0
    have RS := Lib.hid BS
    have HMa := Lib.hid hmat
    have HB := Lib.hid hbel
    clear B1 B0 BS hmat hbel Q0 Q1 QS HW
    by_cases hlt : i < l
    · have hlt' : (i : Int) < (l : Int) := by omega
      obtain ⟨b, off, rfl, hb, x0, x1⟩ := Syms.two HX.out i hlt
      have x0 := (HB.out.cell (p := ⟨b, off + i * 2, none⟩) hb).trans x0
      have x1 := (HB.out.cell (p := ⟨b, off + i * 2 + 1, none⟩) hb).trans x1
      have HTK := Lib.hid (show (idN (xs.take (i + 1))).map (nbRow k) = (idN (xs.take i)).map (nbRow k) ++ [nbRow k (xs.getD i default).1] by unfold idN; rw [take_snocD xs i (by rw [HXl.out]; exact hlt)]; simp)
      have HTL := Lib.hid (show ((idN (xs.take i)).map (nbRow k)).length = i by have := HXl.out; simp [idN]; omega)
      have HXi := Lib.hid (HID.out i)
      generalize xs.getD i default = p at *
      obtain ⟨p0, p1⟩ := p
      dsimp only at x0 x1 HTK HXi
      have G := Lib.hid (Box.new wr 29 #[.int .u64 (p0 : Nat), .string p1])
      replace R1 := Lib.hid (R1.out.alloc (.cells #[.int .u64 (p0 : Nat), .string p1] 29))
      replace R0 := Lib.hid (R0.out.alloc (.cells #[.int .u64 (p0 : Nat), .string p1] 29))
      replace RS := Lib.hid (RS.out.alloc (.cells #[.int .u64 (p0 : Nat), .string p1] 29))
      replace HMa := Lib.hid (HMa.out.alloc (.cells #[.int .u64 (p0 : Nat), .string p1] 29))
      replace HB := Lib.hid (HB.out.alloc HB.out.size (.cells #[.int .u64 (p0 : Nat), .string p1] 29))
      obtain ⟨g0, g1, -, -⟩ := G.out.two
      obtain ⟨a0, a1, f0, f1⟩ := R1.out.two
      obtain ⟨r0, r1, r2, r3, -, -, -, -⟩ := RS.out.four
      obtain ⟨rs, hr1, hr2, hr3⟩ := HMa.out
      rw [HTL.out] at hr1 hr2 hr3
      have HOW := Lib.hid hr2
      have HRS := Lib.hid hr3
      clear hr2 hr3
      go_wp2_with fail
      generalize wr.alloc (.cells #[.int .u64 (p0 : Nat), .string p1] 29) = W9 at *
      go_region_law (first
        | (go_simp; go_at_call 99; refine (HS.out p0 HXi.out _).mono ?_; rintro e1 x9 ⟨A1, l1, c1, rfl, hw, hb⟩; have S1 := Lib.hid (R1.out.drew.keep hb); have S0 := Lib.hid (R0.out.drew.keep hb); have SS := Lib.hid (RS.out.drew.keep hb); have SO := Lib.hid (own_keep (own_drew HOW.out) hb); have SR := Lib.hid (fun j hj => (HRS.out j hj).drew.below hb); have SB := Lib.hid (chain HB.out.drew hb); have SW := Lib.hid hw; clear hb hw; have T1 := Lib.hid (S1.out.alloc (.cells #[.int .i64 k, .slice A1 l1 c1] 139)); obtain ⟨s0, s1, sf0, sf1⟩ := S1.out.two; obtain ⟨t0, t1, tf0, tf1⟩ := T1.out.two; have hb0 := SB.out.size; have hn0 := SO.out.lt)
        | (refine step_append_lies _ rfl (.tmp 17) (.tmp 23) 99 rfl w.heap.size 139 i0 (.agg #[.int .i64 0, .slice none 0 0]) 2 32 Tryz.underlying99 HI.out HZ0.out HZ1.out HZ2.out rfl (by decide) v i (flatR k rs) (by simp [Act.eval, Act.put]) (World.ownsRow.alloc SO.out (.cells #[.int .i64 k, .slice A1 l1 c1] 139)) ⟨x9.heap.size, 0, none⟩ 1 1 [.int .i64 k, .slice A1 l1 c1] (by simp [Act.eval, Act.put]) rfl (World.news_of_block (Box.new x9 139 #[.int .i64 k, .slice A1 l1 c1])) (by simp [Value.oneCell']) (by omega) (by simp [maxLen]; omega) (by omega) (by simp; omega) _ rfl ?_; intro g cap w1 hown hgrow _ _; have V1 := Lib.hid (T1.out.grown hgrow (own_ne SO.out S1.out (by decide))); have HO2 := Lib.hid hown; have HG := Lib.hid hgrow; clear hown hgrow; obtain ⟨v0, v1, vf0, vf1⟩ := V1.out.two))
      all_goals
        have W0 := Lib.hid ((S0.out.alloc (.cells #[.int .i64 k, .slice A1 l1 c1] 139)).grown HG.out (own_ne SO.out S0.out (by decide)))
        have WS := Lib.hid ((SS.out.alloc (.cells #[.int .i64 k, .slice A1 l1 c1] 139)).grown HG.out (own_ne SO.out SS.out (by decide)))
        have WB := Lib.hid ((SB.out.alloc SB.out.size (.cells #[.int .i64 k, .slice A1 l1 c1] 139)).grown HG.out (SB.out.alloc SB.out.size (.cells #[.int .i64 k, .slice A1 l1 c1] 139)).size (fun k hk => (SO.out.lt k hk).1))
        have WR := Lib.hid (fun j hj => OwnW.grown ((SR.out j hj).alloc (.cells #[.int .i64 k, .slice A1 l1 c1] 139)) (World.ownsRow.alloc SO.out (.cells #[.int .i64 k, .slice A1 l1 c1] 139)) (by decide) HG.out)
        have WW := Lib.hid (OwnW.grown (SW.out.alloc (.cells #[.int .i64 k, .slice A1 l1 c1] 139)) (World.ownsRow.alloc SO.out (.cells #[.int .i64 k, .slice A1 l1 c1] 139)) (by decide) HG.out)
        have WM := Lib.hid (MatW.snoc (ls := (idN (xs.take i)).map (nbRow k)) (by rw [HTL.out]; exact hr1) (by rw [HTL.out]; exact HO2.out) (by rw [HTL.out]; exact WR.out) WW.out)
        clear HG SO SR SB SW S0 S1 T1 HOW HRS HO2 WR WW HMa R1 R0 RS SS HB
        go_wp2_with fail
        go_roundw
        case rel => exact ⟨i + 1, _, by omega, by go_num, V1.out.put 1 _, by rw [HTK.out]; exact WM.out.far V1.out (by decide) (by decide) 1 _, W0.out.far (p := ⟨w.heap.size + 2, 1, none⟩) (by simp) _, WS.out.far (p := ⟨w.heap.size + 2, 1, none⟩) (by simp) _, WB.out.setCell (p := ⟨w.heap.size + 2, 1, none⟩) (by simp) _⟩
        case measure => simp [intOf] <;> omega
    · obtain rfl : l = i := by omega
      have hlt' : ¬ (l : Int) < (l : Int) := by omega
      have HTK := Lib.hid (show (idN (xs.take l)).map (nbRow k) = (idN xs).map (nbRow k) by rw [show xs.take l = xs from List.take_of_length_le (by rw [HXl.out]; omega)])
      rw [HTK.out] at HMa
      obtain ⟨A', c', hv⟩ := MatW.form HMa.out (show ((idN xs).map (nbRow k)).length = l by rw [List.length_map, idN_len, HXl.out])
      subst hv
      obtain ⟨a0, a1, -, -⟩ := R1.out.two
      obtain ⟨b0, b1, f0, f1⟩ := R0.out.two
      go_wp2_with fail
      refine close_one Tryz.results60 rfl rfl R0.out.put2 Tryz.underlying102 rfl (by kernel_rfl) ⟨A', c', rfl, ?_, ?_⟩
      · exact (HMa.out.far R0.out (by decide) (by decide) 0 _).far (R0.out.put 0 _) (by decide) (by decide) 1 _
      · exact (HB.out.setCell (p := ⟨w.heap.size + 1, 0, none⟩) (by simp) _).setCell (p := ⟨w.heap.size + 1, 1, none⟩) (by simp) _
theorem refRank12_any (k : Nat) (s c : Int) (A : Option Addr) (l d : Nat) (xs : List SymR) (w : World) (hx : Syms w A l xs) (hl : l ≤ d) (hd : d ≤ maxLen) (h1 : 1 ≤ k) (h2 : k ≤ 64) (hl64 : l ≤ 64) (hid : ∀ j, (xs.getD j default).1 < 18446744073709551616) :
    Calls Tryz.prog 32 #[.agg #[.int .i64 k, .int .i64 s, .int .i64 c, .slice A l d]] w fun e w' => ∃ n : Nat, e = .returned (.int .i64 n) ∧ RkIs (rowsN k xs) n ∧ Below w.heap.size w w' := by
  have b1 : Below w.heap.size w (w.alloc (.cells #[.int .i64 k, .int .i64 s, .int .i64 c, .slice A l d] 25)) := (Below.refl _ _).alloc (Nat.le_refl _) _
  have HR := Lib.hid (refRows12_any k s c A l d xs _ (hx.below b1) hl hd h1 h2 hl64 hid)
  have HE := Lib.hid (fun A c lo w hm => refEch_any k (by omega) (rowsN k xs) (rowsN_lt k xs h1 h2) (by rw [rowsN_len, hx.1]; omega) A c lo w hm)
  have HXl := Lib.hid hx.1
  have HB := Lib.hid b1
  obtain ⟨r0, r1, r2, r3, -, -, -, -⟩ := (Box.new w 25 #[.int .i64 k, .int .i64 s, .int .i64 c, .slice A l d]).four
  clear hx b1 hid
  go_enter Tryz.func32, Tryz.ntmps32
  go_wp2_with fail
  refine HR.out.mono ?_
  rintro e w1 ⟨A3, c3, rfl, hm, hb⟩
  obtain ⟨A4, c4, hv, hmat⟩ := MatW.mat h1 h2 hm
  rw [rowsN_len, HXl.out] at hv
  injection hv with e1 e2 e3
  subst e1 e3
  replace HB := Lib.hid (chain HB.out hb)
  have HKK := Lib.hid (HE.out A3 c3 _ _ hmat)
  rw [rowsN_len, HXl.out] at HKK
  clear hb r0 r1 r2 r3 hm hmat
  go_wp2_with fail
  refine HKK.out.mono ?_
  rintro e w2 ⟨M, P, A5, c5, rfl, g1, g2, g3, hb⟩
  have HG := Lib.hid (show RkIs (rowsN k xs) M.length from ⟨M, P, g1, g2, rfl⟩)
  replace HB := Lib.hid (chain HB.out hb)
  clear hb g1 g2 g3
  go_wp2_with fail
  go_ret
  exact ⟨M.length, rfl, HG.out, HB.out⟩
end
section
/- Equations with their blocks as numbers: what is owned, what is free, what is told. No program. -/
set_option linter.unusedVariables false
set_option linter.unusedSimpArgs false
/-- What a linear image spans. -/
theorem sp_map (f : Nat → Nat) (h0 : f 0 = 0) (hx : ∀ a b, f (a ^^^ b) = f a ^^^ f b) (L : List Nat) (v : Nat) : Sp (L.map f) v ↔ ∃ u, Sp L u ∧ v = f u := by
  constructor
  · intro h
    refine sp_ind (P := fun v => ∃ u, Sp L u ∧ v = f u) ⟨0, sp_zero L, h0.symm⟩ ?_ h
    rintro r u hr ⟨t, ht, rfl⟩
    obtain ⟨a, ha, rfl⟩ := List.mem_map.1 hr
    exact ⟨a ^^^ t, sp_xor (sp_mem ha) ht, (hx a t).symm⟩
  · rintro ⟨u, hu, rfl⟩
    refine sp_ind (P := fun u => Sp (L.map f) (f u)) (by rw [h0]; exact sp_zero _) ?_ hu
    intro r u hr hu
    rw [hx]
    exact sp_xor (sp_mem (List.mem_map.2 ⟨r, hr, rfl⟩)) hu
theorem sp_app {O F : List Nat} {v : Nat} (h : Sp (O ++ F) v) : ∃ a u, Sp O a ∧ Sp F u ∧ v = a ^^^ u := by
  refine sp_ind (P := fun v => ∃ a u, Sp O a ∧ Sp F u ∧ v = a ^^^ u) ⟨0, 0, sp_zero _, sp_zero _, by simp⟩ ?_ h
  rintro r w hr ⟨a, u, ha, hu, rfl⟩
  rcases List.mem_append.1 hr with hr | hr
  · exact ⟨r ^^^ a, u, sp_xor (sp_mem hr) ha, hu, (Nat.xor_assoc _ _ _).symm⟩
  · refine ⟨a, r ^^^ u, ha, sp_xor (sp_mem hr) hu, ?_⟩
    rw [← Nat.xor_assoc, ← Nat.xor_assoc, Nat.xor_comm r a]
theorem sp_left {O F : List Nat} {v : Nat} (h : Sp O v) : Sp (O ++ F) v := sp_sub (fun r hr => sp_mem (List.mem_append.2 (.inl hr))) h
theorem sp_right {O F : List Nat} {v : Nat} (h : Sp F v) : Sp (O ++ F) v := sp_sub (fun r hr => sp_mem (List.mem_append.2 (.inr hr))) h
theorem sp_bit {F : List Nat} {p : Nat} (hF : ∀ f, f ∈ F → f.testBit p = false) {u : Nat} (h : Sp F u) : u.testBit p = false :=
  sp_ind (P := fun u => u.testBit p = false) (by simp) (fun r u hr hu => by rw [Nat.testBit_xor, hF r hr, hu]; rfl) h
theorem sp_nought {F : List Nat} (hF : ∀ f, f ∈ F → f = 0) {u : Nat} (h : Sp F u) : u = 0 :=
  sp_ind (P := fun u => u = 0) rfl (fun r u hr hu => by rw [hF r hr, hu]; rfl) h
/-- Owned and free, after k columns. -/
structure Elim (Z P : List Nat) (k : Nat) (O F : List Nat) : Prop where
  span : SameSp (O ++ F) Z
  len : O.length = k
  one : ∀ i j, i < k → j < k → (O.getD i 0).testBit (P.getD j 0) = decide (i = j)
  no : ∀ f, f ∈ F → ∀ j, j < k → f.testBit (P.getD j 0) = false
theorem elim_start (Z P : List Nat) : Elim Z P 0 [] Z := ⟨SameSp.refl _, rfl, fun _ _ h => absurd h (Nat.not_lt_zero _), fun _ _ _ h => absurd h (Nat.not_lt_zero _)⟩
/-- A column put out of all. -/
def clr (c f : Nat) (L : List Nat) : List Nat := L.map fun x => if x.testBit c then x ^^^ f else x
theorem clr_at (c f : Nat) (L : List Nat) (i : Nat) (h : i < L.length) : (clr c f L).getD i 0 = if (L.getD i 0).testBit c then L.getD i 0 ^^^ f else L.getD i 0 := by
  simp [clr, List.getD, h]
theorem comb_row' {L P : List Nat} (k0 : Nat) (one : ∀ i j, i < k0 → j < k0 → (L.getD i 0).testBit (P.getD j 0) = decide (i = j)) (i : Nat) (hi : i < k0) : ∀ k, k ≤ k0 → comb L P (L.getD i 0) k = if i < k then L.getD i 0 else 0
  | 0, _ => by simp [comb]
  | k + 1, hk => by
    rw [comb, comb_row' k0 one i hi k (by omega), one i k hi (by omega)]
    by_cases e : i = k
    · subst e; simp
    · by_cases hl : i < k
      · simp [e, hl, show i < k + 1 by omega]
      · simp [e, hl, show ¬ i < k + 1 by omega]
/-- What owned ones span is told by its bits at their columns. -/
theorem own_comb {O P : List Nat} {k : Nat} (hlen : O.length = k) (one : ∀ i j, i < k → j < k → (O.getD i 0).testBit (P.getD j 0) = decide (i = j)) {v : Nat} (hv : Sp O v) : v = comb O P v k := by
  refine sp_ind (P := fun v => v = comb O P v k) ?_ ?_ hv
  · exact (comb_zero O P 0 _ (fun _ _ => by simp)).symm
  · intro r u hr hu
    obtain ⟨i, hi, rfl⟩ := mem_getD hr
    rw [comb_xor, ← hu, comb_row' k one i (by omega) _ (Nat.le_refl _), if_pos (by omega)]
theorem mem_erase {F : List Nat} {i x : Nat} (h : x ∈ F.eraseIdx i) : x ∈ F := List.mem_of_mem_eraseIdx h
theorem mem_keep {F : List Nat} {i x : Nat} (h : x ∈ F) : x ∈ F.eraseIdx i ∨ x = F.getD i 0 := by
  obtain ⟨j, hj, rfl⟩ := List.getElem_of_mem h
  by_cases e : j = i
  · subst e; right; simp [List.getD, hj]
  · left; rw [List.mem_eraseIdx_iff_getElem]; exact ⟨j, hj, e, rfl⟩
theorem Elim.step {Z P : List Nat} {k : Nat} {O F : List Nat} (h : Elim Z P k O F) (i : Nat) (hi : i < F.length) (hb : (F.getD i 0).testBit (P.getD k 0) = true) :
    Elim Z P (k + 1) (clr (P.getD k 0) (F.getD i 0) O ++ [F.getD i 0]) (clr (P.getD k 0) (F.getD i 0) (F.eraseIdx i)) := by
  have hlen := h.len
  have hf : ∀ j, j < k → (F.getD i 0).testBit (P.getD j 0) = false := h.no _ (getD_mem hi)
  have hcl : (clr (P.getD k 0) (F.getD i 0) O).length = k := by simp [clr, hlen]
  have own : Sp ((clr (P.getD k 0) (F.getD i 0) O ++ [F.getD i 0]) ++ clr (P.getD k 0) (F.getD i 0) (F.eraseIdx i)) (F.getD i 0) := sp_mem (by simp)
  have keep : ∀ x, ((if x.testBit (P.getD k 0) then x ^^^ F.getD i 0 else x) ∈ (clr (P.getD k 0) (F.getD i 0) O ++ [F.getD i 0]) ++ clr (P.getD k 0) (F.getD i 0) (F.eraseIdx i)) → Sp ((clr (P.getD k 0) (F.getD i 0) O ++ [F.getD i 0]) ++ clr (P.getD k 0) (F.getD i 0) (F.eraseIdx i)) x := fun x hx => by
    have m := sp_mem hx
    split at m
    · have := sp_xor m own
      rw [xor_back] at this; exact this
    · exact m
  have back : ∀ x, Sp (O ++ F) x → Sp (O ++ F) (if x.testBit (P.getD k 0) then x ^^^ F.getD i 0 else x) := fun x hx => by
    split
    · exact sp_xor hx (sp_mem (List.mem_append.2 (.inr (getD_mem hi))))
    · exact hx
  refine ⟨SameSp.trans (SameSp.of (fun r hr => ?_) (fun r hr => ?_)) h.span, by rw [List.length_append, hcl]; rfl, fun a b ha hb' => ?_, fun f hf' j hj => ?_⟩
  · rcases List.mem_append.1 hr with hr | hr
    · rcases List.mem_append.1 hr with hr | hr
      · obtain ⟨x, hx, rfl⟩ := List.mem_map.1 hr
        exact back x (sp_mem (List.mem_append.2 (.inl hx)))
      · simp only [List.mem_singleton] at hr; subst hr
        exact sp_mem (List.mem_append.2 (.inr (getD_mem hi)))
    · obtain ⟨x, hx, rfl⟩ := List.mem_map.1 hr
      exact back x (sp_mem (List.mem_append.2 (.inr (mem_erase hx))))
  · rcases List.mem_append.1 hr with hr | hr
    · exact keep r (List.mem_append.2 (.inl (List.mem_append.2 (.inl (List.mem_map.2 ⟨r, hr, rfl⟩)))))
    · rcases mem_keep (i := i) hr with hr | hr
      · exact keep r (List.mem_append.2 (.inr (List.mem_map.2 ⟨r, hr, rfl⟩)))
      · subst hr; exact own
  · have at_ : ∀ a, (clr (P.getD k 0) (F.getD i 0) O ++ [F.getD i 0]).getD a 0 = if a < k then (clr (P.getD k 0) (F.getD i 0) O).getD a 0 else if a = k then F.getD i 0 else 0 := fun a => by rw [getD_snoc, hcl]
    rw [at_]
    by_cases ea : a < k
    · rw [if_pos ea, clr_at _ _ _ _ (by omega)]
      by_cases eb : b < k
      · have := h.one a b ea eb
        split
        · rw [Nat.testBit_xor, this, hf b eb]; simp
        · exact this
      · obtain rfl : b = k := by omega
        split
        · rename_i e; rw [Nat.testBit_xor, e, hb]; simp; omega
        · rename_i e; rw [Bool.eq_false_iff.2 e]; simp; omega
    · obtain rfl : a = k := by omega
      rw [if_neg ea, if_pos rfl]
      by_cases eb : b < a
      · rw [hf b eb]; simp; omega
      · obtain rfl : b = a := by omega
        rw [hb]; simp
  · obtain ⟨x, hx, rfl⟩ := List.mem_map.1 hf'
    by_cases ej : j < k
    · have := h.no x (mem_erase hx) j ej
      split
      · rw [Nat.testBit_xor, this, hf j ej]; rfl
      · exact this
    · obtain rfl : j = k := by omega
      split
      · rename_i e; rw [Nat.testBit_xor, e, hb]; rfl
      · rename_i e; exact Bool.eq_false_iff.2 e
/-- What is spanned and has no bit at an owned column is spanned by the free ones. -/
theorem Elim.free {Z P : List Nat} {k : Nat} {O F : List Nat} (h : Elim Z P k O F) {v : Nat} (hv : Sp Z v) (hz : ∀ j, j < k → v.testBit (P.getD j 0) = false) : Sp F v := by
  obtain ⟨a, u, ha, hu, rfl⟩ := sp_app ((h.span _).2 hv)
  have hub : ∀ j, j < k → u.testBit (P.getD j 0) = false := fun j hj => sp_bit (fun f hf => h.no f hf j hj) hu
  have ha0 : a = 0 := by
    rw [own_comb h.len h.one ha]
    refine comb_zero _ _ _ _ fun j hj => ?_
    have := hz j hj
    rw [Nat.testBit_xor, hub j hj] at this
    simpa using this
  rw [ha0, Nat.zero_xor]; exact hu
/-- The row part of a number. -/
def lowN (N z : Nat) : Nat := z % 2 ^ N
theorem lowN_zero (N : Nat) : lowN N 0 = 0 := by simp [lowN]
theorem lowN_xor (N a b : Nat) : lowN N (a ^^^ b) = lowN N a ^^^ lowN N b := Nat.xor_mod_two_pow
theorem lowN_lt (N z : Nat) : lowN N z < 2 ^ N := Nat.mod_lt _ (Nat.two_pow_pos N)
theorem lowN_bit {N z p : Nat} (h : p < N) : (lowN N z).testBit p = z.testBit p := by simp [lowN, Nat.testBit_mod_two_pow, h]
section
variable {N : Nat} {Z M P O F : List Nat}
theorem place_lt (hM : ∀ r, r ∈ M → r < 2 ^ N) (h : Rref M P) (j : Nat) (hj : j < P.length) : P.getD j 0 < N := by
  rcases Nat.lt_or_ge (P.getD j 0) N with hl | hg
  · exact hl
  · have h1 := (h.low j (by rw [h.len]; exact hj)).1
    rw [Nat.testBit_lt_two_pow (Nat.lt_of_lt_of_le (hM _ (getD_mem (by rw [h.len]; exact hj))) (Nat.pow_le_pow_right (by omega) hg))] at h1
    cases h1
theorem rows_lt (hs : SameSp (Z.map (lowN N)) M) : ∀ r, r ∈ M → r < 2 ^ N := fun r hr => sp_lt (fun x hx => by obtain ⟨z, -, rfl⟩ := List.mem_map.1 hx; exact lowN_lt N z) ((hs r).2 (sp_mem hr))
theorem low_sp (hs : SameSp (Z.map (lowN N)) M) {v : Nat} (h : Sp Z v) : Sp M (lowN N v) := (hs _).1 ((sp_map _ (lowN_zero N) (lowN_xor N) Z _).2 ⟨v, h, rfl⟩)
/-- Some free one has the next column. -/
theorem Elim.some {k : Nat} (h : Elim Z P k O F) (hr : Rref M P) (hs : SameSp (Z.map (lowN N)) M) (hk : k < P.length) : ∃ i, i < F.length ∧ (F.getD i 0).testBit (P.getD k 0) = true := by
  have hkM : k < M.length := by rw [hr.len]; exact hk
  obtain ⟨v, hv, he⟩ := (sp_map _ (lowN_zero N) (lowN_xor N) Z _).1 ((hs _).2 (sp_mem (getD_mem hkM)))
  have hlt := place_lt (rows_lt hs) hr
  have hb : ∀ j, j < P.length → v.testBit (P.getD j 0) = decide (k = j) := fun j hj => by
    rw [← lowN_bit (hlt j hj), ← he, hr.one k j hkM (by rw [hr.len]; exact hj)]
  have hf := h.free hv (fun j hj => by rw [hb j (by omega)]; simp; omega)
  by_cases hn : ∃ i, i < F.length ∧ (F.getD i 0).testBit (P.getD k 0) = true
  · exact hn
  · have := sp_bit (p := P.getD k 0) (fun f hfm => by
      obtain ⟨i, hi, rfl⟩ := mem_getD hfm
      cases hb' : (F.getD i 0).testBit (P.getD k 0) with
      | false => rfl
      | true => exact absurd ⟨i, hi, hb'⟩ hn) hf
    rw [hb k hk] at this; simp at this
/-- At the end free ones have no row part. -/
theorem Elim.free_low (h : Elim Z P P.length O F) (hr : Rref M P) (hs : SameSp (Z.map (lowN N)) M) {f : Nat} (hf : f ∈ F) : lowN N f = 0 :=
  hr.zero (low_sp hs ((h.span f).1 (sp_right (sp_mem hf)))) fun j hj => by
    rw [hr.len] at hj
    rw [lowN_bit (place_lt (rows_lt hs) hr j hj)]; exact h.no f hf j hj
theorem Elim.own_low (h : Elim Z P P.length O F) (hr : Rref M P) (hs : SameSp (Z.map (lowN N)) M) (i : Nat) (hi : i < P.length) : lowN N (O.getD i 0) = M.getD i 0 := by
  have hiO : i < O.length := by rw [h.len]; exact hi
  have hiM : i < M.length := by rw [hr.len]; exact hi
  apply xor_cancel
  refine hr.zero (sp_xor (low_sp hs ((h.span _).1 (sp_left (sp_mem (getD_mem hiO))))) (sp_mem (getD_mem hiM))) fun j hj => ?_
  have hj' := hj
  rw [hr.len] at hj'
  rw [Nat.testBit_xor, lowN_bit (place_lt (rows_lt hs) hr j hj'), h.one i j hi hj', hr.one i j hiM hj]; simp
/-- Can they be so? -/
def FitsP (N : Nat) (Z : List Nat) : Prop := ∀ v, Sp Z v → lowN N v = 0 → v = 0
theorem Elim.fits (h : Elim Z P P.length O F) (hr : Rref M P) (hs : SameSp (Z.map (lowN N)) M) : (∀ f, f ∈ F → f = 0) ↔ FitsP N Z := by
  constructor
  · intro hF v hv h0
    refine sp_nought hF (h.free hv fun j hj => ?_)
    rw [← lowN_bit (place_lt (rows_lt hs) hr j hj), h0]; simp
  · intro hfit f hf
    exact hfit f ((h.span f).1 (sp_right (sp_mem hf))) (h.free_low hr hs hf)
/-- A column is told just if the row that owns it is it alone. -/
theorem told_iff (hr : Rref M P) (c : Nat) : Sp M (2 ^ c) ↔ ∃ j, j < P.length ∧ P.getD j 0 = c ∧ M.getD j 0 = 2 ^ c := by
  constructor
  · intro h
    have hl : IsLow (2 ^ c) c := ⟨by simp [Nat.testBit_two_pow], fun q hq => by simp [Nat.testBit_two_pow]; omega⟩
    obtain ⟨j, hj, hc⟩ := mem_getD ((hr.place c).2 ⟨_, h, hl⟩)
    refine ⟨j, hj, hc, ?_⟩
    have hjM : j < M.length := by rw [hr.len]; exact hj
    apply xor_cancel
    refine hr.zero (sp_xor (sp_mem (getD_mem hjM)) h) fun i hi => ?_
    rw [Nat.testBit_xor, hr.one j i hjM hi]
    by_cases e : j = i
    · subst e; rw [Nat.testBit_two_pow, hc]; simp
    · have hne : P.getD i 0 ≠ c := fun e2 => by
        rw [← hc] at e2
        rcases Nat.lt_or_gt_of_ne e with hl | hl
        · have := hr.rise j i hl hi; omega
        · have := hr.rise i j hl hjM; omega
      rw [Nat.testBit_two_pow]; simp only [e, decide_false, Ne.symm hne, Bool.xor_self]
  · rintro ⟨j, hj, -, hM⟩
    rw [← hM]; exact sp_mem (getD_mem (by rw [hr.len]; exact hj))
end
end
section
/- BlockZero: the walk. -/
set_option linter.unusedVariables false
set_option linter.unusedSimpArgs false
open Go.RowKit
theorem size_list (s : ByteArray) : s.data.toList.length = s.size := by simp
theorem back_list (s : ByteArray) : (⟨s.data.toList.toArray⟩ : ByteArray) = s := by apply ByteArray.ext; simp
theorem okS_of (n : Nat) (ss : List ByteArray) (hn : n ≤ 64) (h : ∀ s ∈ ss, s.size = n) (hl : ss.length ≤ 64) : okS n ss = true := by
  have h1 : smb n = true := (smb_iff _).2 ⟨by omega, by omega⟩
  have h2 : allL n ss = true := List.all_eq_true.2 fun s hs => by simp [h s hs]
  simp [okS, h1, h2, hl]
end
section
/- Blocks as numbers; rows with their blocks. No program. -/
set_option linter.unusedVariables false
set_option linter.unusedSimpArgs false
/-- Bytes as a number, the first one lowest. -/
def bn : List UInt8 → Nat
  | [] => 0
  | b :: bs => b.toNat + 256 * bn bs
theorem bn_bit (b : UInt8) (bs : List UInt8) (p : Nat) : (bn (b :: bs)).testBit p = if p < 8 then b.toNat.testBit p else (bn bs).testBit (p - 8) := by
  have hb : b.toNat < 2 ^ 8 := b.toNat_lt
  rw [bn, Nat.add_comm, show (256 : Nat) = 2 ^ 8 by rfl, Nat.testBit_two_pow_mul_add _ hb]
theorem bxL_cons (x y : UInt8) (a b : List UInt8) : bxL (x :: a) (y :: b) = (x ^^^ y) :: bxL a b := by
  unfold bxL
  rw [List.length_cons, List.range_succ_eq_map, List.map_cons, List.map_map]
  simp [Function.comp_def]
theorem bn_xor : ∀ (a b : List UInt8), a.length = b.length → bn (bxL a b) = bn a ^^^ bn b
  | [], [], _ => rfl
  | x :: a, y :: b, h => by
    rw [bxL_cons]
    apply Nat.eq_of_testBit_eq
    intro p
    rw [Nat.testBit_xor, bn_bit, bn_bit, bn_bit, bn_xor a b (by simpa using h)]
    split
    · rw [UInt8.toNat_xor, Nat.testBit_xor]
    · rw [Nat.testBit_xor]
theorem bn_byte : ∀ (l : List UInt8) (i k : Nat), k < 8 → (bn l).testBit (8 * i + k) = (l.getD i 0).toNat.testBit k
  | [], i, k, _ => by simp [bn]
  | b :: bs, 0, k, hk => by rw [bn_bit, if_pos (by omega)]; simp
  | b :: bs, i + 1, k, hk => by rw [bn_bit, if_neg (by omega), show 8 * (i + 1) + k - 8 = 8 * i + k by omega, bn_byte bs i k hk, List.getD_cons_succ]
theorem bn_zero : ∀ (l : List UInt8), bn l = 0 ↔ noughtL l = true
  | [] => by simp [bn, noughtL]
  | b :: bs => by
    have ih := bn_zero bs
    simp only [noughtL, List.all_cons, Bool.and_eq_true, beq_iff_eq] at ih ⊢
    rw [← ih, bn]
    have : b = 0 ↔ b.toNat = 0 := ⟨fun h => by rw [h]; rfl, fun h => UInt8.toNat_inj.1 (by rw [h]; rfl)⟩
    rw [this]; omega
theorem bn_inj : ∀ (a b : List UInt8), a.length = b.length → bn a = bn b → a = b
  | [], [], _, _ => rfl
  | x :: a, y :: b, h, he => by
    have h1 : x.toNat < 256 := x.toNat_lt
    have h2 : y.toNat < 256 := y.toNat_lt
    rw [bn, bn] at he
    have e1 : x.toNat = y.toNat := by omega
    have e2 : bn a = bn b := by omega
    rw [UInt8.toNat_inj.1 e1, bn_inj a b (by simpa using h) e2]
/-- A row and its block. -/
abbrev PV := Nat × ByteArray
def pv0 : PV := (0, ⟨#[]⟩)
def plusP (p q : PV) : PV := (p.1 ^^^ q.1, ⟨(bxL p.2.data.toList q.2.data.toList).toArray⟩)
def GoodP (N n : Nat) (p : PV) : Prop := p.1 < 2 ^ N ∧ p.2.size = n
def zOf (N : Nat) (p : PV) : Nat := p.1 + 2 ^ N * bn p.2.data.toList
theorem plus_good {N n : Nat} {p q : PV} (hp : GoodP N n p) (hq : GoodP N n q) : GoodP N n (plusP p q) :=
  ⟨Nat.xor_lt_two_pow hp.1 hq.1, by
    have h1 := hp.2
    have h2 := hq.2
    show (bxL p.2.data.toList q.2.data.toList).toArray.size = n
    rw [List.size_toArray, xorL_length, size_list]; exact h1⟩
theorem z_bit {N n : Nat} {p : PV} (h : GoodP N n p) (i : Nat) : (zOf N p).testBit i = if i < N then p.1.testBit i else (bn p.2.data.toList).testBit (i - N) := by
  rw [zOf, Nat.add_comm, Nat.testBit_two_pow_mul_add _ h.1]
theorem z_low {N n : Nat} {p : PV} (h : GoodP N n p) : lowN N (zOf N p) = p.1 := by
  rw [lowN, zOf, Nat.add_mul_mod_self_left]; exact Nat.mod_eq_of_lt h.1
theorem z_high {N n : Nat} {p : PV} (h : GoodP N n p) : zOf N p >>> N = bn p.2.data.toList := by
  apply Nat.eq_of_testBit_eq
  intro i
  rw [Nat.testBit_shiftRight, z_bit h, if_neg (by omega), show N + i - N = i by omega]
theorem z_plus {N n : Nat} {p q : PV} (hp : GoodP N n p) (hq : GoodP N n q) : zOf N (plusP p q) = zOf N p ^^^ zOf N q := by
  apply Nat.eq_of_testBit_eq
  intro i
  have hl : p.2.data.toList.length = q.2.data.toList.length := by
    rw [size_list, size_list, hp.2, hq.2]
  have hx := bn_xor _ _ hl
  rw [Nat.testBit_xor, z_bit (plus_good hp hq), z_bit hp, z_bit hq]
  split
  · rw [plusP, Nat.testBit_xor]
  · rw [← Nat.testBit_xor, ← hx]; simp [plusP]
theorem z_nought {N n : Nat} {p : PV} (h : GoodP N n p) : zOf N p = 0 ↔ p.1 = 0 ∧ noughtL p.2.data.toList = true := by
  rw [← bn_zero, zOf]
  have hp := Nat.two_pow_pos N
  constructor
  · intro he
    have h1 : p.1 = 0 := by omega
    refine ⟨h1, ?_⟩
    have h2 : 2 ^ N * bn p.2.data.toList = 0 := by omega
    rcases Nat.mul_eq_zero.1 h2 with h3 | h3
    · omega
    · exact h3
  · rintro ⟨h1, h2⟩; rw [h1, h2]; rfl
/-- A column put out of rows with their blocks. -/
def clrP (c : Nat) (f : PV) (L : List PV) : List PV := L.map fun x => if x.1.testBit c then plusP x f else x
theorem clrP_len (c : Nat) (f : PV) (L : List PV) : (clrP c f L).length = L.length := by simp [clrP]
theorem clrP_good {N n c : Nat} {f : PV} {L : List PV} (hf : GoodP N n f) (hL : ∀ p ∈ L, GoodP N n p) : ∀ p ∈ clrP c f L, GoodP N n p := fun p hp => by
  obtain ⟨x, hx, rfl⟩ := List.mem_map.1 hp
  split
  · exact plus_good (hL x hx) hf
  · exact hL x hx
theorem clrP_z {N n c : Nat} {f : PV} {L : List PV} (hc : c < N) (hf : GoodP N n f) (hL : ∀ p ∈ L, GoodP N n p) : (clrP c f L).map (zOf N) = clr c (zOf N f) (L.map (zOf N)) := by
  unfold clrP clr
  rw [List.map_map, List.map_map]
  apply List.map_congr_left
  intro x hx
  have hb : (zOf N x).testBit c = x.1.testBit c := by rw [z_bit (hL x hx), if_pos hc]
  simp only [Function.comp_apply, hb]
  split
  · exact z_plus (hL x hx) hf
  · rfl
theorem mapz_at (N : Nat) (L : List PV) (i : Nat) (h : i < L.length) : (L.map (zOf N)).getD i 0 = zOf N (L.getD i pv0) := by simp [List.getD, h]
theorem getD_memP {L : List PV} {i : Nat} (h : i < L.length) : L.getD i pv0 ∈ L := by
  have : L.getD i pv0 = L[i] := by simp [List.getD, h]
  rw [this]; exact List.getElem_mem _
theorem erase_z (N : Nat) (L : List PV) (i : Nat) : (L.eraseIdx i).map (zOf N) = (L.map (zOf N)).eraseIdx i := by
  induction L generalizing i with
  | nil => rfl
  | cons a L ih => cases i with
    | zero => rfl
    | succ i => simp [ih]
theorem plus_sum {n : Nat} {a b : ByteArray} (ha : a.size = n) (hb : b.size = n) (hn : n ≤ 64) : sumS a.size [a, b] = ⟨(bxL a.data.toList b.data.toList).toArray⟩ := by
  have ho := okS_of n [a, b] hn (by intro s hs; simp at hs; rcases hs with rfl | rfl <;> assumption) (by simp)
  rw [ha, sumS, if_pos ho]
  simp only [sumL, Int.toNat_natCast, List.foldl_cons, List.foldl_nil]
  rw [xorL_zero n a ha]
end
section
/- Rows with their blocks in memory: pairs and owners. -/
set_option linter.unusedVariables false
set_option linter.unusedSimpArgs false
open Go.RowKit
set_option maxRecDepth 100000
/-- A column put out of the first i. -/
def clrU (c : Nat) (f : PV) (L : List PV) (i : Nat) : List PV := (clrP c f L).take i ++ L.drop i
theorem clrU_len (c : Nat) (f : PV) (L : List PV) (i : Nat) (hi : i ≤ L.length) : (clrU c f L i).length = L.length := by
  simp [clrU, clrP_len]; omega
theorem clrU_zero (c : Nat) (f : PV) (L : List PV) : clrU c f L 0 = L := by simp [clrU]
theorem clrU_all (c : Nat) (f : PV) (L : List PV) : clrU c f L L.length = clrP c f L := by
  unfold clrU
  rw [List.take_of_length_le (by rw [clrP_len]; exact Nat.le_refl _), List.drop_length, List.append_nil]
theorem clrP_get (c : Nat) (f : PV) (L : List PV) (i : Nat) (h : i < L.length) : (clrP c f L)[i]'(by rw [clrP_len]; exact h) = if (L.getD i pv0).1.testBit c then plusP (L.getD i pv0) f else L.getD i pv0 := by
  simp [clrP, List.getD, h]
theorem clrU_here (c : Nat) (f : PV) (L : List PV) (i : Nat) (h : i < L.length) : (clrU c f L i).getD i pv0 = L.getD i pv0 := by
  have e : ((clrP c f L).take i).length = i := by rw [List.length_take, clrP_len]; omega
  simp only [List.getD, clrU]
  rw [List.getElem?_append_right (by omega), e, Nat.sub_self, List.getElem?_drop]; simp
theorem clrU_no (c : Nat) (f : PV) (L : List PV) (i : Nat) (h : i < L.length) (hb : (L.getD i pv0).1.testBit c = false) : clrU c f L (i + 1) = clrU c f L i := by
  unfold clrU
  have hi : i < (clrP c f L).length := by rw [clrP_len]; exact h
  rw [List.take_succ_eq_append_getElem hi, clrP_get c f L i h, hb, List.drop_eq_getElem_cons h]
  simp [List.getD, h]
theorem clrU_yes (c : Nat) (f : PV) (L : List PV) (i : Nat) (h : i < L.length) (hb : (L.getD i pv0).1.testBit c = true) : clrU c f L (i + 1) = (clrU c f L i).set i (plusP (L.getD i pv0) f) := by
  unfold clrU
  have hi : i < (clrP c f L).length := by rw [clrP_len]; exact h
  have e : ((clrP c f L).take i).length = i := by rw [List.length_take, clrP_len]; omega
  rw [List.take_succ_eq_append_getElem hi, clrP_get c f L i h, if_pos hb, List.set_append, if_neg (by omega), e, Nat.sub_self, List.drop_eq_getElem_cons h, List.set_cons_zero, List.append_assoc]
  rfl
theorem clrU_good {N n c : Nat} {f : PV} {L : List PV} (hf : GoodP N n f) (hL : ∀ p ∈ L, GoodP N n p) (i : Nat) : ∀ p ∈ clrU c f L i, GoodP N n p := fun p hp => by
  rcases List.mem_append.1 hp with h | h
  · exact clrP_good hf hL p (List.mem_of_mem_take h)
  · exact hL p (List.mem_of_mem_drop h)
theorem set_getD (L : List PV) (i j : Nat) (p : PV) (h : j < L.length) : (L.set i p).getD j pv0 = if i = j then p else L.getD j pv0 := by
  simp only [List.getD, List.getElem?_set]
  by_cases e : i = j
  · subst e; simp [h]
  · simp [e]
/-- A row of cells at the head of a block of the call's own. -/
def CellsRow (w : World) (base : Nat) (t : TypeId) (v : Value) (n : Nat) (xs : List Value) : Prop :=
  ∃ A c, v = .slice A n c ∧ n ≤ c ∧ c ≤ maxLen ∧ (0 < n → ∃ g cur, A = some ⟨g, 0, none⟩ ∧ base ≤ g ∧ Box w g t cur ∧ cur.toList.take xs.length = xs)
section
variable {w w' : World} {base n : Nat} {t : TypeId} {v : Value} {xs : List Value}
theorem CellsRow.of {sz : Nat} (h : w.ownsRow base t sz v n xs) : CellsRow w base t v n xs := by
  rcases h.2 with ⟨hv, hz⟩ | ⟨g, cap, cur, hv, hb, hh, hc, hm, h1, h2⟩
  · exact ⟨none, 0, by rw [hv, hz], by omega, by simp [maxLen], fun h => by omega⟩
  · exact ⟨some ⟨g, 0, none⟩, cap, hv, hc, hm, fun _ => ⟨g, cur, rfl, hb, hh, by rw [h.1]; exact h2⟩⟩
theorem CellsRow.keep (h : CellsRow w base t v n xs) (hb : Below w.heap.size w w') : CellsRow w' base t v n xs := by
  obtain ⟨A, c, h1, h2, h3, h4⟩ := h
  exact ⟨A, c, h1, h2, h3, fun hn => by obtain ⟨g, cur, a, b, d, e⟩ := h4 hn; exact ⟨g, cur, a, b, d.keep hb, e⟩⟩
theorem CellsRow.far (h : CellsRow w base t v n xs) {g : Nat} {t' : TypeId} {cs : Array Value} (hb : Box w g t' cs) (hne : t ≠ t') (i : Nat) (u : Value) : CellsRow (w.setCell ⟨g, i, none⟩ u) base t v n xs := by
  obtain ⟨A, c, h1, h2, h3, h4⟩ := h
  refine ⟨A, c, h1, h2, h3, fun hn => ?_⟩
  obtain ⟨g', cur, a, b, d, e⟩ := h4 hn
  have : g' ≠ g := fun e => by
    subst e
    unfold Box at hb d
    rw [hb] at d
    injection d with d
    injection d with _ d
    exact hne d.symm
  exact ⟨g', cur, a, b, d.far this u, e⟩
theorem CellsRow.put {g c : Nat} (h : CellsRow w base t (.slice (some ⟨g, 0, none⟩) n c) n xs) (hn : 0 < n) (i : Nat) (u : Value) : CellsRow (w.setCell ⟨g, i, none⟩ u) base t (.slice (some ⟨g, 0, none⟩) n c) n (xs.set i u) := by
  obtain ⟨A, c', h1, h2, h3, h4⟩ := h
  obtain ⟨g', cur, a, b, d, e⟩ := h4 hn
  injection h1 with h1 _ h1'
  rw [← h1] at a
  injection a with a
  injection a with a
  subst a
  subst h1'
  refine ⟨_, c, rfl, h2, h3, fun _ => ⟨g, _, rfl, b, d.put i u, ?_⟩⟩
  rw [Array.toList_setIfInBounds, List.length_set, List.take_set, e]
  
theorem CellsRow.take (h : CellsRow w base t v n xs) {A : Option Addr} {c : Nat} (hv : v = .slice A n c) (m : Nat) (hm : m ≤ n) (c' : Nat) (h1 : m ≤ c') (h2 : c' ≤ c) (k : Nat) : CellsRow w base t (.slice A m c') m (xs.take k) := by
  subst hv
  obtain ⟨A', c'', h3, h4, h5, h6⟩ := h
  injection h3 with h3 _ h3'
  subst h3 h3'
  refine ⟨A, c', rfl, h1, by omega, fun hp => ?_⟩
  obtain ⟨g, cur, a, b, d, e⟩ := h6 (by omega)
  refine ⟨g, cur, a, b, d, ?_⟩
  have : (xs.take k).length = min k xs.length := List.length_take
  rw [this, ← List.take_take, e]
theorem CellsRow.cell {g c : Nat} (h : CellsRow w base t (.slice (some ⟨g, 0, none⟩) n c) n xs) (hn : 0 < n) (i : Nat) (u : Value) (hi : xs[i]? = some u) : w.cell? ⟨g, i, none⟩ = some u ∧ w.frozen? ⟨g, i, none⟩ = false := by
  obtain ⟨A, c', h1, h2, h3, h4⟩ := h
  obtain ⟨g', cur, a, b, d, e⟩ := h4 hn
  injection h1 with h1 _ h1'
  rw [← h1] at a
  injection a with a
  injection a with a
  subst a
  refine ⟨?_, d.free i⟩
  rw [d.cell i]
  rw [← e] at hi
  obtain ⟨hl, -⟩ := List.getElem?_eq_some_iff.1 hi
  rw [List.getElem?_take_of_lt (by rw [List.length_take] at hl; omega)] at hi
  simpa using hi
theorem CellsRow.form (h : CellsRow w base t v n xs) (hn : 0 < n) : ∃ g c, v = .slice (some ⟨g, 0, none⟩) n c ∧ base ≤ g ∧ n ≤ c ∧ c ≤ maxLen ∧ ∃ cur, Box w g t cur := by
  obtain ⟨A, c, h1, h2, h3, h4⟩ := h
  obtain ⟨g, cur, a, b, d, e⟩ := h4 hn
  subst a
  exact ⟨g, c, h1, b, h2, h3, cur, d⟩
theorem CellsRow.form0 (h : CellsRow w base t v n xs) : ∃ A c, v = .slice A n c ∧ n ≤ c ∧ c ≤ maxLen := by
  obtain ⟨A, c, h1, h2, h3, h4⟩ := h
  exact ⟨A, c, h1, h2, h3⟩
end
/-- The cells of a pair. -/
def prV (r : RowV) (s : ByteArray) : List Value := [.int .i64 r.1, .slice r.2.1 r.2.2.1 r.2.2.2, .string s]
def prC : List RowV → List PV → List Value
  | r :: rs, p :: L => .int .i64 r.1 :: .slice r.2.1 r.2.2.1 r.2.2.2 :: .string p.2 :: prC rs L
  | _, _ => []
theorem prC_len : ∀ (rs : List RowV) (L : List PV), rs.length = L.length → (prC rs L).length = L.length * 3
  | [], [], _ => rfl
  | r :: rs, p :: L, h => by simp only [prC, List.length_cons, prC_len rs L (by simpa using h)]; omega
theorem prC_at : ∀ (rs : List RowV) (L : List PV), rs.length = L.length → ∀ i, i < L.length → (prC rs L)[i * 3]? = some (.int .i64 (rs.getD i (0, none, 0, 0)).1) ∧ (prC rs L)[i * 3 + 1]? = some (.slice (rs.getD i (0, none, 0, 0)).2.1 (rs.getD i (0, none, 0, 0)).2.2.1 (rs.getD i (0, none, 0, 0)).2.2.2) ∧ (prC rs L)[i * 3 + 2]? = some (.string (L.getD i pv0).2)
  | [], [], _, i, h => by cases h
  | r :: rs, p :: L, _, 0, _ => ⟨rfl, rfl, rfl⟩
  | r :: rs, p :: L, h, i + 1, hi => by
    have ih := prC_at rs L (by simpa using h) i (by simpa using hi)
    rw [show (i + 1) * 3 = i * 3 + 3 by omega]
    simp only [prC]
    exact ⟨ih.1, ih.2.1, ih.2.2⟩
theorem prC_set : ∀ (rs : List RowV) (L : List PV), rs.length = L.length → ∀ i, i < L.length → ∀ (r : RowV) (p : PV), (((prC rs L).set (i * 3) (.int .i64 r.1)).set (i * 3 + 1) (.slice r.2.1 r.2.2.1 r.2.2.2)).set (i * 3 + 2) (.string p.2) = prC (rs.set i r) (L.set i p)
  | [], [], _, i, h, _, _ => by cases h
  | r0 :: rs, p0 :: L, _, 0, _, r, p => rfl
  | r0 :: rs, p0 :: L, h, i + 1, hi, r, p => by
    have ih := prC_set rs L (by simpa using h) i (by simpa using hi) r p
    rw [show (i + 1) * 3 = i * 3 + 3 by omega, show i * 3 + 3 + 1 = i * 3 + 1 + 3 by omega, show i * 3 + 3 + 2 = i * 3 + 2 + 3 by omega]
    simp only [prC, List.set_cons_succ]
    rw [ih]
theorem prC_snoc : ∀ (rs : List RowV) (L : List PV), rs.length = L.length → ∀ (r : RowV) (p : PV), prC (rs ++ [r]) (L ++ [p]) = prC rs L ++ prV r p.2
  | [], [], _, r, p => rfl
  | r0 :: rs, p0 :: L, h, r, p => by simp only [List.cons_append, prC, prC_snoc rs L (by simpa using h) r p]
theorem prC_take : ∀ (rs : List RowV) (L : List PV), rs.length = L.length → ∀ i, (prC rs L).take (i * 3) = prC (rs.take i) (L.take i)
  | [], [], _, i => by simp [prC]
  | r0 :: rs, p0 :: L, _, 0 => by simp [prC]
  | r0 :: rs, p0 :: L, h, i + 1 => by
    rw [show (i + 1) * 3 = i * 3 + 3 by omega]
    simp only [prC, List.take_succ_cons]
    rw [prC_take rs L (by simpa using h) i]
theorem prC_drop : ∀ (rs : List RowV) (L : List PV), rs.length = L.length → ∀ i, (prC rs L).drop (i * 3) = prC (rs.drop i) (L.drop i)
  | [], [], _, i => by simp [prC]
  | r0 :: rs, p0 :: L, _, 0 => by simp [prC]
  | r0 :: rs, p0 :: L, h, i + 1 => by
    rw [show (i + 1) * 3 = i * 3 + 3 by omega]
    simp only [prC, List.drop_succ_cons]
    rw [prC_drop rs L (by simpa using h) i]
theorem prC_app : ∀ (rs : List RowV) (L : List PV), rs.length = L.length → ∀ (ss : List RowV) (M : List PV), prC (rs ++ ss) (L ++ M) = prC rs L ++ prC ss M
  | [], [], _, ss, M => rfl
  | r0 :: rs, p0 :: L, h, ss, M => by simp only [List.cons_append, prC, prC_app rs L (by simpa using h) ss M]
/-- A row of pairs: its words are the argument's (at the world w0) or the call's own. -/
def PairsQ (w0 w : World) (base : Nat) (v : Value) (N : Nat) (L : List PV) : Prop :=
  ∃ rs : List RowV, rs.length = L.length ∧ CellsRow w base 200 v L.length (prC rs L) ∧ ∀ j, j < L.length → RowQ w0 w N (rs.getD j (0, none, 0, 0)) (L.getD j pv0).1
theorem RowQ.words {w0 w : World} {N : Nat} {r : RowV} {x : Nat} (h : RowQ w0 w N r x) {B : Nat} (hB : w0.heap.size ≤ B) (hb : Below B w0 w) : Words w r.2.1 r.2.2.1 (rowOf N x) := by
  rcases h.2.2 with a | a
  · exact a.mono hB hb
  · exact a.words (rowOf_lt N _)
theorem RowQ.far {w0 w : World} {N : Nat} {r : RowV} {x : Nat} (h : RowQ w0 w N r x) {g : Nat} {t : TypeId} {cs : Array Value} (hb : Box w g t cs) (hne : 22 ≠ t) (i : Nat) (u : Value) : RowQ w0 (w.setCell ⟨g, i, none⟩ u) N r x := ⟨h.1, h.2.1, h.2.2.imp id (fun o => o.far hb hne i u)⟩
section
variable {w0 w w' : World} {base : Nat} {v : Value} {N : Nat} {L : List PV}
theorem PairsQ.keep (h : PairsQ w0 w base v N L) (hb : Below w.heap.size w w') : PairsQ w0 w' base v N L := by
  obtain ⟨rs, h1, h2, h3⟩ := h
  exact ⟨rs, h1, h2.keep hb, fun j hj => (h3 j hj).below hb⟩
theorem PairsQ.far (h : PairsQ w0 w base v N L) {g : Nat} {t : TypeId} {cs : Array Value} (hb : Box w g t cs) (hne : 22 ≠ t) (hne2 : 200 ≠ t) (i : Nat) (u : Value) : PairsQ w0 (w.setCell ⟨g, i, none⟩ u) base v N L := by
  obtain ⟨rs, h1, h2, h3⟩ := h
  exact ⟨rs, h1, h2.far hb hne2 i u, fun j hj => (h3 j hj).far hb hne i u⟩
theorem PairsQ.form (h : PairsQ w0 w base v N L) (hn : 0 < L.length) : ∃ g c, v = .slice (some ⟨g, 0, none⟩) L.length c ∧ base ≤ g ∧ g < w.heap.size ∧ L.length ≤ c ∧ c ≤ maxLen := by
  obtain ⟨rs, h1, h2, h3⟩ := h
  obtain ⟨g, c, a, b, d, e, cur, f⟩ := h2.form hn
  exact ⟨g, c, a, b, f.lt, d, e⟩
theorem PairsQ.form0 (h : PairsQ w0 w base v N L) : ∃ A c, v = .slice A L.length c ∧ L.length ≤ c ∧ c ≤ maxLen := by
  obtain ⟨rs, h1, h2, h3⟩ := h
  exact h2.form0
theorem PairsQ.at {g c : Nat} (h : PairsQ w0 w base (.slice (some ⟨g, 0, none⟩) L.length c) N L) (i : Nat) (hi : i < L.length) :
    ∃ A l d, w.cell? ⟨g, i * 3, none⟩ = some (.int .i64 N) ∧ w.cell? ⟨g, i * 3 + 1, none⟩ = some (.slice A l d) ∧ w.cell? ⟨g, i * 3 + 2, none⟩ = some (.string (L.getD i pv0).2) ∧ RowQ w0 w N ((N : Int), A, l, d) (L.getD i pv0).1 ∧ w.frozen? ⟨g, i * 3, none⟩ = false ∧ w.frozen? ⟨g, i * 3 + 1, none⟩ = false ∧ w.frozen? ⟨g, i * 3 + 2, none⟩ = false := by
  obtain ⟨rs, h1, h2, h3⟩ := h
  obtain ⟨a1, a2, a3⟩ := prC_at rs L h1 i hi
  have q := h3 i hi
  have hn : 0 < L.length := by omega
  have c1 := h2.cell hn _ _ a1
  have c2 := h2.cell hn _ _ a2
  have c3 := h2.cell hn _ _ a3
  rw [q.1] at c1
  refine ⟨_, _, _, c1.1, c2.1, c3.1, ⟨rfl, q.2.1, q.2.2⟩, c1.2, c2.2, c3.2⟩
/-- A pair is put in place of another one. -/
theorem PairsQ.put {g c : Nat} (h : PairsQ w0 w base (.slice (some ⟨g, 0, none⟩) L.length c) N L) (i : Nat) (hi : i < L.length) (p : PV) {A : Option Addr} {l d : Nat} (hw : RowQ w0 w N ((N : Int), A, l, d) p.1) :
    PairsQ w0 (((w.setCell ⟨g, i * 3, none⟩ (.int .i64 N)).setCell ⟨g, i * 3 + 1, none⟩ (.slice A l d)).setCell ⟨g, i * 3 + 2, none⟩ (.string p.2)) base (.slice (some ⟨g, 0, none⟩) L.length c) N (L.set i p) := by
  obtain ⟨rs, h1, h2, h3⟩ := h
  have hn : 0 < L.length := by omega
  obtain ⟨g', c', hv, -, -, -, cur, hbx⟩ := h2.form hn
  injection hv with hv
  injection hv with hv
  injection hv with hv
  subst hv
  have s := ((h2.put hn (i * 3) (.int .i64 N)).put hn (i * 3 + 1) (.slice A l d)).put hn (i * 3 + 2) (.string p.2)
  rw [show (((prC rs L).set (i * 3) (.int .i64 (N : Int))).set (i * 3 + 1) (.slice A l d)).set (i * 3 + 2) (.string p.2) = prC (rs.set i ((N : Int), A, l, d)) (L.set i p) from prC_set rs L h1 i hi ((N : Int), A, l, d) p] at s
  have far : ∀ {r : RowV} {x : Nat}, RowQ w0 w N r x → RowQ w0 (((w.setCell ⟨g, i * 3, none⟩ (.int .i64 N)).setCell ⟨g, i * 3 + 1, none⟩ (.slice A l d)).setCell ⟨g, i * 3 + 2, none⟩ (.string p.2)) N r x := fun q => ((q.far hbx (by decide) _ _).far (hbx.put _ _) (by decide) _ _).far ((hbx.put _ _).put _ _) (by decide) _ _
  refine ⟨rs.set i ((N : Int), A, l, d), by simp [h1], by rw [List.length_set]; exact s, fun j hj => ?_⟩
  rw [List.length_set] at hj
  rw [set_getD L i j p hj]
  by_cases e : i = j
  · subst e
    have e1 : (rs.set i ((N : Int), A, l, d)).getD i (0, none, 0, 0) = ((N : Int), A, l, d) := by simp [List.getD, h1, hi]
    rw [e1, if_pos rfl]
    exact far hw
  · have e1 : (rs.set i ((N : Int), A, l, d)).getD j (0, none, 0, 0) = rs.getD j (0, none, 0, 0) := by simp only [List.getD]; rw [List.getElem?_set_ne e]
    rw [e1, if_neg e]
    exact far (h3 j hj)
end
end
section
/- backsub: pair.has, pair.isAlone, pair.plus. -/
set_option linter.unusedVariables false
set_option linter.unusedSimpArgs false
open Go.RowKit
set_option maxRecDepth 100000
theorem pairHas_any (N x : Nat) (hN : N ≤ 512) (hx : x < 2 ^ N) (A : Option Addr) (l c p : Nat) (s : ByteArray) (hp : p < N) (w : World) (hw : Words w A l (rowOf N x)) :
    Calls Tryz.prog 165 #[.agg #[.int .i64 N, .slice A l c, .string s], .int .i64 (p : Int)] w fun e w' => e = .returned (.bool (x.testBit p)) ∧ Below w.heap.size w w' := by
  have hW : Below w.heap.size w (w.alloc (.cells #[.int .i64 N, .slice A l c, .string s] 200)) := (Below.refl _ _).alloc (Nat.le_refl _) _
  have Q := Box.new w 200 #[.int .i64 (N : Int), .slice A l c, .string s]
  have HG := Lib.hid (get_yes N p A l c (rowOf N x) _ (rowOf_right N x hN hx) hp (hw.below hW))
  rw [rowOf_bitN N x p hp] at HG
  have HW := Lib.hid hW
  obtain ⟨q0, q1, q2, -, -, -⟩ := Q.three
  clear hw hW Q
  cases hb : x.testBit p with
  | true =>
    rw [hb] at HG
    clear hb
    go_enter Tryz.func165, Tryz.ntmps165
    go_wp2_with fail
    refine HG.out.mono ?_
    rintro e w1 ⟨rfl, hb⟩
    have B := Lib.hid (chainN HW.out HW.out.size hb)
    clear hb
    go_wp2_with fail
    go_ret
    exact ⟨by simp, B.out⟩
  | false =>
    rw [hb] at HG
    clear hb
    go_enter Tryz.func165, Tryz.ntmps165
    go_wp2_with fail
    refine HG.out.mono ?_
    rintro e w1 ⟨rfl, hb⟩
    have B := Lib.hid (chainN HW.out HW.out.size hb)
    clear hb
    go_wp2_with fail
    go_ret
    exact ⟨by simp, B.out⟩
theorem Box.put3 {w : World} {g : Nat} {t : TypeId} {a b d u v x : Value} (h : Box w g t #[a, b, d]) : Box (((w.setCell ⟨g, 0, none⟩ u).setCell ⟨g, 1, none⟩ v).setCell ⟨g, 2, none⟩ x) g t #[u, v, x] := ((h.put 0 u).put 1 v).put 2 x
/-- How many places a number has. -/
def popN (N x : Nat) : Nat := (plcN (rowOf N x) (64 * (rowOf N x).length)).length
theorem isAlone_any (N x : Nat) (hN : N ≤ 512) (hx : x < 2 ^ N) (A : Option Addr) (l c : Nat) (s : ByteArray) (w : World) (hw : Words w A l (rowOf N x)) :
    Calls Tryz.prog 151 #[.agg #[.int .i64 N, .slice A l c, .string s]] w fun e w' => e = .returned (.bool (decide (popN N x = 1))) ∧ Below w.heap.size w w' := by
  have hl := hw.1
  have hW : Below w.heap.size w (w.alloc (.cells #[.int .i64 N, .slice A l c, .string s] 200)) := (Below.refl _ _).alloc (Nat.le_refl _) _
  have Q := Box.new w 200 #[.int .i64 (N : Int), .slice A l c, .string s]
  have HG := Lib.hid (count_yes N A l c (rowOf N x) _ (rowOf_right N x hN hx) (hw.below hW))
  have HW := Lib.hid hW
  obtain ⟨m, hm⟩ : ∃ m, m = popN N x := ⟨_, rfl⟩
  have hm2 : (plcN (rowOf N x) (64 * l)).length = m := by rw [hm, popN, hl]
  rw [hm2] at HG
  rw [← hm]
  obtain ⟨q0, q1, q2, -, -, -⟩ := Q.three
  clear hw hW Q hm hm2 hl
  by_cases h1 : m = 1
  · subst h1
    go_enter Tryz.func151, Tryz.ntmps151
    go_wp2_with fail
    refine HG.out.mono ?_
    rintro e w1 ⟨rfl, hb⟩
    have B := Lib.hid (chainN HW.out HW.out.size hb)
    clear hb
    go_wp2_with fail
    go_ret
    exact ⟨by simp, B.out⟩
  · have t : ((m : Int) == 1) = false := by simp; omega
    have t2 : decide (m = 1) = false := by simpa using h1
    rw [t2]
    go_enter Tryz.func151, Tryz.ntmps151
    go_wp2_with fail
    refine HG.out.mono ?_
    rintro e w1 ⟨rfl, hb⟩
    have B := Lib.hid (chainN HW.out HW.out.size hb)
    clear hb
    go_wp2_with fail
    go_ret
    exact ⟨by simp, B.out⟩
/-- Two pairs in one. -/
def PlusOut (N : Nat) (p : PV) (w : World) (e : Ending) (w' : World) : Prop :=
  ∃ A l c, e = .returned (.agg #[.int .i64 (N : Int), .slice A l c, .string p.2]) ∧ OwnW w' A l c (rowOf N p.1) ∧ Below w.heap.size w w'
theorem plus_any (N n : Nat) (hN : N ≤ 512) (hn : n ≤ 64) (p q : PV) (hp : GoodP N n p) (hq : GoodP N n q) (A B : Option Addr) (l c k d : Nat) (w : World) (hu : Words w A l (rowOf N p.1)) (hv : Words w B k (rowOf N q.1)) :
    Calls Tryz.prog 166 #[.agg #[.int .i64 N, .slice A l c, .string p.2], .agg #[.int .i64 N, .slice B k d, .string q.2]] w (PlusOut N (plusP p q) w) := by
  have b1 : Below w.heap.size w (((w.alloc (.cells #[.int .i64 N, .slice A l c, .string p.2] 200)).alloc (.cells #[.int .i64 N, .slice B k d, .string q.2] 200)).alloc (.cells #[.int .i64 0, .slice none 0 0, .string ⟨#[]⟩] 200)) := (((Below.refl _ _).alloc (Nat.le_refl _) _).alloc (by simp) _).alloc (by simp; omega) _
  have Q0 := ((Box.new w 200 #[.int .i64 (N : Int), .slice A l c, .string p.2]).alloc (.cells #[.int .i64 N, .slice B k d, .string q.2] 200)).alloc (.cells #[.int .i64 0, .slice none 0 0, .string ⟨#[]⟩] 200)
  have Q1 := (Box.new (w.alloc (.cells #[.int .i64 (N : Int), .slice A l c, .string p.2] 200)) 200 #[.int .i64 (N : Int), .slice B k d, .string q.2]).alloc (.cells #[.int .i64 0, .slice none 0 0, .string ⟨#[]⟩] 200)
  have Q2 := Box.new ((w.alloc (.cells #[.int .i64 (N : Int), .slice A l c, .string p.2] 200)).alloc (.cells #[.int .i64 N, .slice B k d, .string q.2] 200)) 200 #[.int .i64 0, .slice none 0 0, .string ⟨#[]⟩]
  simp only [World.size_alloc] at Q1 Q2
  have HQ0 := Lib.hid Q0
  have HQ1 := Lib.hid Q1
  have HQ2 := Lib.hid Q2
  have HB := Lib.hid b1
  have HX := Lib.hid (xor_num N p.1 q.1 hN hp.1 hq.1 A B l c k d _ (hu.below b1) (hv.below b1))
  have HS := Lib.hid (fun W => bxor_any p.2 q.2 (by rw [hp.2]; unfold maxLen; omega) (by rw [hq.2]; unfold maxLen; omega) W)
  have HE := Lib.hid (plus_sum hp.2 hq.2 hn)
  obtain ⟨a0, a1, a2, -, -, -⟩ := HQ0.out.three
  obtain ⟨c0, c1, c2, -, -, -⟩ := HQ1.out.three
  clear b1 Q0 Q1 Q2 hu hv
  go_enter Tryz.func166, Tryz.ntmps166
  go_wp2_with fail
  refine HX.out.mono ?_
  rintro e w1 ⟨A3, l3, c3, rfl, ow, hb⟩
  have HB1 := Lib.hid (chainN HB.out HB.out.size hb)
  have R0 := Lib.hid (HQ0.out.keep hb)
  have R1 := Lib.hid (HQ1.out.keep hb)
  have R2 := Lib.hid (HQ2.out.keep hb)
  have OW := Lib.hid ow
  clear hb ow HX HQ0 HQ1 HQ2 HB a0 a1 a2 c0 c1 c2
  obtain ⟨a0, a1, a2, -, -, -⟩ := R0.out.three
  obtain ⟨c0, c1, c2, -, -, -⟩ := R1.out.three
  have al : Below w1.heap.size w1 (w1.alloc (.cells #[.int .i64 (N : Int), .slice A3 l3 c3] 139)) := (Below.refl _ _).alloc (Nat.le_refl _) _
  have T := Lib.hid (Box.new w1 139 #[.int .i64 (N : Int), .slice A3 l3 c3])
  have AL1 := Lib.hid al
  obtain ⟨a0', a1', a2', -, -, -⟩ := (R0.out.keep al).three
  obtain ⟨c0', c1', c2', -, -, -⟩ := (R1.out.keep al).three
  clear al
  go_wp2_with fail
  refine (HS.out _).mono ?_
  rintro e w2 ⟨rfl, hb⟩
  have HB2 := Lib.hid (chainN HB1.out HB1.out.size (chainN AL1.out AL1.out.size hb))
  have T2 := Lib.hid (T.out.keep hb)
  have S2 := Lib.hid ((R2.out.keep AL1.out).keep hb)
  have OW2 := Lib.hid ((OW.out.below AL1.out).below hb)
  rw [HE.out]
  clear hb HS a0 a1 a2 c0 c1 c2 a0' a1' a2' c0' c1' c2' R0 R1 R2 T AL1 OW HB1 HE
  obtain ⟨t0, t1, -, -⟩ := T2.out.two
  obtain ⟨s0, s1, s2, f0, f1, f2⟩ := S2.out.three
  go_wp2_with fail
  refine close_one Tryz.results166 rfl rfl S2.out.put3 Tryz.underlying200 rfl (by kernel_rfl) ⟨A3, l3, c3, rfl, ?_, ?_⟩
  · exact (((OW2.out.far S2.out (by decide) _ _).far (S2.out.put _ _) (by decide) _ _).far ((S2.out.put _ _).put _ _) (by decide) _ _)
  · exact ((HB2.out.setCell (p := ⟨w.heap.size + 1 + 1, 0, none⟩) (by simp; omega) _).setCell (p := ⟨w.heap.size + 1 + 1, 1, none⟩) (by simp; omega) _).setCell (p := ⟨w.heap.size + 1 + 1, 2, none⟩) (by simp; omega) _
end
section
/- backsub: chosen. -/
set_option linter.unusedVariables false
set_option linter.unusedSimpArgs false
open Go.RowKit
set_option maxRecDepth 100000
theorem add_zero0 (g j : Nat) : (⟨g, 0, none⟩ : Addr).add j = ⟨g, j, none⟩ := by by_cases h : j = 0 <;> simp [Addr.add, h]
theorem add_off (g m j : Nat) : (⟨g, m, none⟩ : Addr).add j = ⟨g, m + j, none⟩ := by by_cases h : j = 0 <;> simp [Addr.add, h]
theorem CellsRow.olds {w : World} {base n g c : Nat} {t : TypeId} {xs : List Value} (h : CellsRow w base t (.slice (some ⟨g, 0, none⟩) n c) n xs) (hn : 0 < n) (m : Nat) : ∀ b, some (⟨g, 0, none⟩ : Addr) = some b → ∀ j u, (xs.take m)[j]? = some u → w.cell? (b.add j) = some u := by
  intro b hb j u hu
  injection hb with hb
  subst hb
  rw [add_zero0]
  obtain ⟨hl, -⟩ := List.getElem?_eq_some_iff.1 hu
  rw [List.length_take] at hl
  rw [List.getElem?_take_of_lt (by omega)] at hu
  exact (h.cell hn j u hu).1
theorem CellsRow.news {w : World} {base n g c : Nat} {t : TypeId} {xs : List Value} (h : CellsRow w base t (.slice (some ⟨g, 0, none⟩) n c) n xs) (hn : 0 < n) (m : Nat) : ∀ j u, (xs.drop m)[j]? = some u → w.cell? ((⟨g, m, none⟩ : Addr).add j) = some u := by
  intro j u hu
  rw [add_off]
  rw [List.getElem?_drop] at hu
  exact (h.cell hn _ u hu).1
theorem CellsRow.low {w : World} {base b2 n : Nat} {t : TypeId} {v : Value} {xs : List Value} (h : CellsRow w base t v n xs) (hb : b2 ≤ base) : CellsRow w b2 t v n xs := by
  obtain ⟨A, c, h1, h2, h3, h4⟩ := h
  exact ⟨A, c, h1, h2, h3, fun hn => by obtain ⟨g, cur, a, b, d, e⟩ := h4 hn; exact ⟨g, cur, a, Nat.le_trans hb b, d, e⟩⟩
theorem Box.quad {w : World} {g : Nat} {t : TypeId} {a b d e : Value} (h : Box w g t #[a, b, d, e]) : w.cell? ⟨g, 0, none⟩ = some a ∧ w.cell? ⟨g, 1, none⟩ = some b ∧ w.cell? ⟨g, 2, none⟩ = some d ∧ w.cell? ⟨g, 3, none⟩ = some e ∧ w.frozen? ⟨g, 0, none⟩ = false ∧ w.frozen? ⟨g, 1, none⟩ = false ∧ w.frozen? ⟨g, 2, none⟩ = false ∧ w.frozen? ⟨g, 3, none⟩ = false :=
  ⟨h.cell 0, h.cell 1, h.cell 2, h.cell 3, h.free 0, h.free 1, h.free 2, h.free 3⟩
theorem gn_box {w w1 : World} {b : Nat} {t : TypeId} {cs : Array Value} (h : Box w b t cs) (k : w.grownBy w1 none) : Box w1 b t cs := (k.block b h.lt (by intro e; cases e)).trans h
theorem gd_below {w w1 : World} (k : w.drew.grownBy w1 none) : Below w.heap.size w w1 := ⟨k.os, k.tape, k.output, k.size, fun b hb => k.block b hb (by intro e; cases e)⟩
theorem prC_one : ∀ (rs : List RowV) (L : List PV), ∀ u ∈ prC rs L, u.oneCell' = true
  | [], _, u, h => by simp [prC] at h
  | r :: rs, [], u, h => by simp [prC] at h
  | r :: rs, p :: L, u, h => by
    simp only [prC, List.mem_cons] at h
    rcases h with rfl | rfl | rfl | h
    · rfl
    · rfl
    · rfl
    · exact prC_one rs L u h
/-- A row stored into a box of an owner. -/
def ownW (W : World) (b N : Nat) (A : Option Addr) (l d : Nat) (s : ByteArray) (c : Nat) : World := (((W.setCell ⟨b, 0, none⟩ (.int .i64 (N : Int))).setCell ⟨b, 1, none⟩ (.slice A l d)).setCell ⟨b, 2, none⟩ (.string s)).setCell ⟨b, 3, none⟩ (.int .i64 (c : Int))
section
variable {W : World} {b N : Nat} {A : Option Addr} {l d : Nat} {s : ByteArray} {c : Nat} {x1 x2 x3 x4 : Value}
theorem ownW_box (h : Box W b 202 #[x1, x2, x3, x4]) : Box (ownW W b N A l d s c) b 202 #[.int .i64 (N : Int), .slice A l d, .string s, .int .i64 (c : Int)] := (((h.put 0 _).put 1 _).put 2 _).put 3 _
theorem ownW_row (h : Box W b 202 #[x1, x2, x3, x4]) {w0 : World} {n : Nat} {r : RowV} {x : Nat} (q : RowQ w0 W n r x) : RowQ w0 (ownW W b N A l d s c) n r x := (((q.far h (by decide) _ _).far (h.put _ _) (by decide) _ _).far ((h.put _ _).put _ _) (by decide) _ _).far (((h.put _ _).put _ _).put _ _) (by decide) _ _
theorem ownW_cells (h : Box W b 202 #[x1, x2, x3, x4]) {base n : Nat} {v : Value} {xs : List Value} (q : CellsRow W base 200 v n xs) : CellsRow (ownW W b N A l d s c) base 200 v n xs := (((q.far h (by decide) _ _).far (h.put _ _) (by decide) _ _).far ((h.put _ _).put _ _) (by decide) _ _).far (((h.put _ _).put _ _).put _ _) (by decide) _ _
theorem PairsQ.owned {N' : Nat} (h : Box W b 202 #[x1, x2, x3, x4]) {w0 : World} {base n : Nat} {v : Value} {L : List PV} (q : PairsQ w0 W base v n L) : PairsQ w0 (ownW W b N' A l d s c) base v n L := by
  obtain ⟨rs, h1, h2, h3⟩ := q
  exact ⟨rs, h1, ownW_cells h h2, fun j hj => ownW_row h (h3 j hj)⟩
theorem ownW_below {B : Nat} {w : World} (h : Below B w W) (hb : B ≤ b) : Below B w (ownW W b N A l d s c) := (((h.setCell (p := ⟨b, 0, none⟩) hb _).setCell (p := ⟨b, 1, none⟩) hb _).setCell (p := ⟨b, 2, none⟩) hb _).setCell (p := ⟨b, 3, none⟩) hb _
end
/-- The pairs but one, in a row. -/
theorem PairsQ.erased {w0 w w1 : World} {b2 : Nat} {v1 : Value} {N : Nat} {L : List PV} {rs : List RowV} (h1 : rs.length = L.length) (h3 : ∀ j, j < L.length → RowQ w0 w N (rs.getD j (0, none, 0, 0)) (L.getD j pv0).1) (i m : Nat) (hi : i < L.length) (hm : m = L.length - 1)
    (ho : CellsRow w1 b2 200 v1 m (prC (rs.take i) (L.take i) ++ prC (rs.drop (i + 1)) (L.drop (i + 1)))) (hq : ∀ r x, RowQ w0 w N r x → RowQ w0 w1 N r x) : PairsQ w0 w1 b2 v1 N (L.eraseIdx i) := by
  have hl : (L.eraseIdx i).length = m := by rw [List.length_eraseIdx, if_pos hi, hm]
  rw [← prC_app _ _ (by simp [h1])] at ho
  have e1 : L.take i ++ L.drop (i + 1) = L.eraseIdx i := (List.eraseIdx_eq_take_drop_succ L i).symm
  have e2 : rs.take i ++ rs.drop (i + 1) = rs.eraseIdx i := (List.eraseIdx_eq_take_drop_succ rs i).symm
  rw [e1, e2] at ho
  refine ⟨rs.eraseIdx i, by rw [List.length_eraseIdx, List.length_eraseIdx, h1], by rw [hl]; exact ho, fun j hj => ?_⟩
  rw [hl] at hj
  have g1 : (L.eraseIdx i).getD j pv0 = if j < i then L.getD j pv0 else L.getD (j + 1) pv0 := by
    simp only [List.getD, List.getElem?_eraseIdx]; split <;> rfl
  have g2 : (rs.eraseIdx i).getD j (0, none, 0, 0) = if j < i then rs.getD j (0, none, 0, 0) else rs.getD (j + 1) (0, none, 0, 0) := by
    simp only [List.getD, List.getElem?_eraseIdx]; split <;> rfl
  rw [g1, g2]
  split
  · exact hq _ _ (h3 j (by omega))
  · exact hq _ _ (h3 (j + 1) (by omega))
/-- The pairs but the last, in the same block. -/
theorem PairsQ.short {w0 w : World} {base g c : Nat} {N : Nat} {L : List PV} (h : PairsQ w0 w base (.slice (some ⟨g, 0, none⟩) L.length c) N L) (i : Nat) (hi : i + 1 = L.length) (hc : i ≤ c) : PairsQ w0 w base (.slice (some ⟨g, 0, none⟩) i i) N (L.eraseIdx i) := by
  obtain ⟨rs, h1, h2, h3⟩ := h
  have e1 : L.eraseIdx i = L.take i := by rw [List.eraseIdx_eq_take_drop_succ, List.drop_of_length_le (by omega), List.append_nil]
  have hl : (L.eraseIdx i).length = i := by rw [e1, List.length_take]; omega
  refine ⟨rs.take i, by rw [hl, List.length_take]; omega, ?_, fun j hj => ?_⟩
  · have := h2.take rfl i (by omega) i (Nat.le_refl _) hc (i * 3)
    rw [prC_take rs L h1 i] at this
    rw [hl, e1]; exact this
  · rw [hl] at hj
    have g1 : (L.eraseIdx i).getD j pv0 = L.getD j pv0 := by rw [e1]; simp [List.getD, List.getElem?_take, hj]
    have g2 : (rs.take i).getD j (0, none, 0, 0) = rs.getD j (0, none, 0, 0) := by simp [List.getD, List.getElem?_take, hj]
    rw [g1, g2]; exact h3 j (by omega)
theorem pair_info : (Tryz.prog.info? 200).map (fun i => (i.zero, i.size, i.bytes)) = some (some (.agg #[.int .i64 0, .slice none 0 0, .string ⟨#[]⟩]), 3, 48) := by kernel_rfl
/-- The first pair that has a column, and the rest. -/
def ChosenOut (w0 : World) (base N : Nat) (L : List PV) (c : Nat) (w : World) (e : Ending) (w' : World) : Prop :=
  ∃ (i : Nat) (A : Option Addr) (l d : Nat) (v : Value), i < L.length ∧ (L.getD i pv0).1.testBit c = true ∧ e = .returned (.tuple #[.agg #[.int .i64 (N : Int), .slice A l d, .string (L.getD i pv0).2, .int .i64 (c : Int)], v]) ∧
    RowQ w0 w' N ((N : Int), A, l, d) (L.getD i pv0).1 ∧ PairsQ w0 w' base v N (L.eraseIdx i) ∧ Below w.heap.size w w'
set_option maxHeartbeats 4000000 in
theorem chosen_any (N n : Nat) (hN : N ≤ 512) (L : List PV) (hL : ∀ p ∈ L, GoodP N n p) (hlen : L.length ≤ 64) (c : Nat) (hc : c < N) (hex : ∃ i, i < L.length ∧ (L.getD i pv0).1.testBit c = true) (w0 : World) (base : Nat) (v : Value) (w : World) (hw0 : w0.heap.size ≤ w.heap.size) (hb0 : Below w0.heap.size w0 w) (hbase : base ≤ w.heap.size) (hr : PairsQ w0 w base v N L) :
    Calls Tryz.prog 163 #[v, .int .i64 (c : Int)] w (ChosenOut w0 base N L c w) := by
  obtain ⟨i0, hinf, hz0, hz1, hz2⟩ := info_parts pair_info
  have hpos : 0 < L.length := by obtain ⟨i, h1, -⟩ := hex; omega
  obtain ⟨g, cap, rfl, hgb, hgw, hcap, hcm⟩ := hr.form hpos
  unfold maxLen at hcm
  have b1 : Below w.heap.size w (w.alloc (.cells #[.int .i64 0, .slice none 0 0, .string ⟨#[]⟩, .int .i64 0] 202)) := (Below.refl _ _).alloc (Nat.le_refl _) _
  have Q := Lib.hid (Box.new w 202 #[.int .i64 0, .slice none 0 0, .string ⟨#[]⟩, .int .i64 0])
  have HR := Lib.hid (hr.keep b1)
  have HB := Lib.hid b1
  have HEX := Lib.hid hex
  have HL := Lib.hid hL
  have HB0 := Lib.hid hb0
  clear hr b1 hex hL hb0
  go_enter Tryz.func163, Tryz.ntmps163
  go_wp2_with fail
  go_loopw [10] (fun t wr => ∃ i : Nat, i ≤ L.length ∧ t = .int .i64 (i : Int) ∧ Hid (∀ j, j < i → (L.getD j pv0).1.testBit c = false) ∧ Hid (Below (w.heap.size + 1) (w.alloc (.cells #[.int .i64 0, .slice none 0 0, .string ⟨#[]⟩, .int .i64 0] 202)) wr)) (fun t _ => L.length - (intOf t).toNat)
  case atStart => exact ⟨0, Nat.zero_le _, rfl, Lib.hid (fun j h => by omega), Lib.hid (Below.refl _ _)⟩
  case round =>
    obtain ⟨i, hi, rfl, HF, HBr⟩ := hrel
    have HB2 := Lib.hid (show Below w.heap.size w wr from HB.out.trans (HBr.out.mono (by omega)))
    have HQ := Lib.hid (Q.out.below HBr.out (by omega))
    have HRw := Lib.hid (HR.out.keep (w' := wr) (HBr.out.mono (by simp)))
    by_cases hlt : i < L.length
    · have hlt' : (i : Int) < (L.length : Int) := by omega
      obtain ⟨A, l, d, x0, x1, x2, rq, -, -, -⟩ := HRw.out.at i hlt
      have gp := HL.out _ (getD_memP hlt)
      obtain ⟨f, hf⟩ : ∃ f, f = L.getD i pv0 := ⟨_, rfl⟩
      rw [← hf] at x2 rq gp
      have GP := Lib.hid gp
      have HFI := Lib.hid hf
      clear hf gp
      have al : Below wr.heap.size wr (wr.alloc (.cells #[.int .i64 (N : Int), .slice A l d, .string f.2] 200)) := (Below.refl _ _).alloc (Nat.le_refl _) _
      have RB := Lib.hid (Box.new wr 200 #[.int .i64 (N : Int), .slice A l d, .string f.2])
      have AL1 := Lib.hid al
      have RQ := Lib.hid (rq.below al)
      have HW := Lib.hid (RQ.out.words (Nat.le_refl _) (chainN (chainN HB0.out hw0 HB2.out) (Nat.le_trans hw0 HB2.out.size) al))
      have HH := Lib.hid (pairHas_any N f.1 hN GP.out.1 A l d c f.2 hc _ HW.out)
      obtain ⟨r0, r1, r2, -, -, -⟩ := RB.out.three
      have hgs : g < wr.heap.size := Nat.lt_of_lt_of_le hgw HB2.out.size
      have hws : w.heap.size < wr.heap.size := HQ.out.lt
      clear al rq HW
      cases hbit : f.1.testBit c with
      | false =>
        rw [hbit] at HH
        have HBt := Lib.hid hbit
        clear hbit
        go_wp2_with fail
        refine HH.out.mono ?_
        rintro e w1 ⟨rfl, hb⟩
        have HB3 := Lib.hid (HBr.out.trans ((chain AL1.out hb).mono (by omega)))
        clear hb
        go_wp2_with fail
        go_roundw
        case rel => exact ⟨i + 1, by omega, by go_num, Lib.hid (fun j k1 => by
          by_cases e : j = i
          · subst e; rw [← HFI.out]; exact HBt.out
          · exact HF.out j (by omega)), HB3⟩
        case measure => simp [intOf]; omega
      | true =>
        rw [hbit] at HH
        have HBt := Lib.hid hbit
        clear hbit
        go_wp2_with fail
        refine HH.out.mono ?_
        rintro e w1 ⟨rfl, hb⟩
        have HB3 := Lib.hid (HB2.out.trans ((chain AL1.out hb).mono HB2.out.size))
        have Q3 := Lib.hid ((HQ.out.keep AL1.out).keep hb)
        have R3 := Lib.hid (RB.out.keep hb)
        have RQ3 := Lib.hid (RQ.out.below hb)
        have HR3 := Lib.hid ((HRw.out.keep AL1.out).keep hb)
        clear hb r0 r1 r2 x0 x1 x2 HH HQ RB RQ HRw HF HBr AL1 HEX
        obtain ⟨r0, r1, r2, -, -, -⟩ := R3.out.three
        by_cases hend : i + 1 = L.length
        · have HE := Lib.hid hend
          obtain ⟨rs, k1, k2, k3⟩ := HR3.out
          have K1 := Lib.hid k1
          have K2 := Lib.hid k2
          clear k1 k2 k3
          have i0' : IntKind.i64.wrap ((i : Int) + 1) = (L.length : Int) := by rw [show (i : Int) + 1 = (L.length : Int) by omega]; exact IntWalk.i64_in _ (by omega)
          have i2 : (i : Int) ≤ (cap : Int) := by omega
          have i5 : i ≤ cap := by omega
          clear hend
          have C0 := Lib.hid (show CellsRow w1.drew base 200 (.slice (some ⟨g, 0, none⟩) L.length cap) L.length (prC rs L) from K2.out)
          obtain ⟨z0, z1, z2, z3, zf0, zf1, zf2, zf3⟩ := Q3.out.quad
          have F := Lib.hid (PairsQ.owned (N' := N) (A := A) (l := l) (d := d) (s := f.2) (c := c) (show Box w1.drew w.heap.size 202 _ from Q3.out) (HR3.out.short i HE.out i5))
          have G := Lib.hid (ownW_row (N := N) (A := A) (l := l) (d := d) (s := f.2) (c := c) Q3.out.drew RQ3.out)
          have D := Lib.hid (ownW_below (N := N) (A := A) (l := l) (d := d) (s := f.2) (c := c) HB3.out.drew (Nat.le_refl _))
          have BX := Lib.hid (ownW_box (N := N) (A := A) (l := l) (d := d) (s := f.2) (c := c) Q3.out.drew)
          by_cases hck : cap = L.length
          · clear HR3 K1 K2
            go_wp2_with fail
            go_region_law (first
              | (refine step_append_room rfl (.tmp 24) (.tmp 28) 195 rfl 200 i0 3 Tryz.underlying195 hinf hz1 g 0 i i (by simp [Act.eval, Act.put]) ⟨g, 0, none⟩ 0 (0) [] (by simp [Act.eval, Act.put]) rfl (by intro j u h; cases h) (by intro u h; cases h) (by omega) (by intro j h; cases h) ?_; simp only [World.setCells, Nat.add_zero]))
            all_goals
              go_wp2_with fail
              refine close_cell Tryz.results163 rfl rfl rfl BX.out Tryz.underlying202 rfl (by kernel_rfl) ⟨i, A, l, d, .slice (some ⟨g, 0, none⟩) i i, hlt, ?_⟩
              rw [← HFI.out]
              exact ⟨HBt.out, rfl, G.out, F.out, D.out⟩
          · clear HR3 K1 K2
            go_wp2_with fail
            go_region_law (first
              | (refine step_append_room rfl (.tmp 24) (.tmp 28) 195 rfl 200 i0 3 Tryz.underlying195 hinf hz1 g 0 i i (by simp [Act.eval, Act.put]) ⟨g, L.length * 3, none⟩ 0 (cap - L.length) [] (by simp [Act.eval, Act.put]) rfl (by intro j u h; cases h) (by intro u h; cases h) (by omega) (by intro j h; cases h) ?_; simp only [World.setCells, Nat.add_zero]))
            all_goals
              go_wp2_with fail
              refine close_cell Tryz.results163 rfl rfl rfl BX.out Tryz.underlying202 rfl (by kernel_rfl) ⟨i, A, l, d, .slice (some ⟨g, 0, none⟩) i i, hlt, ?_⟩
              rw [← HFI.out]
              exact ⟨HBt.out, rfl, G.out, F.out, D.out⟩
        · obtain ⟨rs, k1, k2, k3⟩ := HR3.out
          have K1 := Lib.hid k1
          have K2 := Lib.hid k2
          have K3 := Lib.hid k3
          clear k1 k2 k3
          obtain ⟨k, hk⟩ : ∃ k : Nat, k = i + 1 := ⟨_, rfl⟩
          have HKi := Lib.hid hk
          have i0' : IntKind.i64.wrap ((i : Int) + 1) = (k : Int) := by rw [show (i : Int) + 1 = (k : Int) by omega]; exact IntWalk.i64_in _ (by omega)
          have i1 : (k : Int) ≤ (L.length : Int) := by omega
          have i3 : ¬ cap = k := by omega
          have i4 : k < L.length := by omega
          have HF2 := Lib.hid (show i + (L.length - k) = L.length - 1 by omega)
          clear hk
          have i2 : (i : Int) ≤ (cap : Int) := by omega
          go_wp2_with fail
          have C0 := Lib.hid (show CellsRow w1.drew base 200 (.slice (some ⟨g, 0, none⟩) L.length cap) L.length (prC rs L) from K2.out)
          obtain ⟨z0, z1, z2, z3, zf0, zf1, zf2, zf3⟩ := Q3.out.quad
          go_region_law (first
            | (refine step_append_grows rfl (.tmp 24) (.tmp 28) 195 rfl 200 i0 (.agg #[.int .i64 0, .slice none 0 0, .string ⟨#[]⟩]) 3 48 Tryz.underlying195 hinf hz0 hz1 hz2 rfl (by decide) (some ⟨g, 0, none⟩) i i ((prC rs L).take (i * 3)) (by simp [Act.eval, Act.put]) (by intro h; cases h) (by rw [List.length_take, prC_len rs L K1.out]; omega) (C0.out.olds hpos _) ⟨g, k * 3, none⟩ (L.length - k) (cap - k) ((prC rs L).drop (k * 3)) (by simp [Act.eval, Act.put]) (by rw [List.length_drop, prC_len rs L K1.out]; omega) (C0.out.news hpos _) (fun u hu => prC_one rs L u (List.mem_of_mem_drop hu)) (by omega) (by unfold maxLen; omega) (by omega) ?_; intro v1 y1 hown hgrow; have HO := Lib.hid hown; have HG := Lib.hid hgrow; have QY := Lib.hid (gn_box Q3.out.drew hgrow); have RY := Lib.hid (gn_box R3.out.drew hgrow); clear hown hgrow; obtain ⟨s0', s1', s2', -, -, -⟩ := RY.out.three; obtain ⟨y0', y1', y2', y3', yf0, yf1, yf2, yf3⟩ := QY.out.quad))
          all_goals
            have ho := HO.out
            rw [HF2.out, prC_take rs L K1.out, HKi.out, prC_drop rs L K1.out] at ho
            have F := Lib.hid (PairsQ.erased (b2 := base) K1.out K3.out i (L.length - 1) hlt rfl (ownW_cells (N := N) (A := A) (l := l) (d := d) (s := f.2) (c := c) QY.out ((CellsRow.of ho).low (Nat.le_trans hbase HB3.out.size))) (fun r x q => ownW_row QY.out (q.below (gd_below HG.out))))
            have G := Lib.hid (ownW_row (N := N) (A := A) (l := l) (d := d) (s := f.2) (c := c) QY.out (RQ3.out.below (gd_below HG.out)))
            have D := Lib.hid (ownW_below (N := N) (A := A) (l := l) (d := d) (s := f.2) (c := c) (chainN HB3.out HB3.out.size (gd_below HG.out)) (Nat.le_refl _))
            have BX := Lib.hid (ownW_box (N := N) (A := A) (l := l) (d := d) (s := f.2) (c := c) QY.out)
            clear ho HO HG QY RY C0 K1 K2 K3 HR3 RQ3
            go_wp2_with fail
            refine close_cell Tryz.results163 rfl rfl rfl BX.out Tryz.underlying202 rfl (by kernel_rfl) ⟨i, A, l, d, v1, hlt, ?_⟩
            rw [← HFI.out]
            exact ⟨HBt.out, rfl, G.out, F.out, D.out⟩
    · obtain rfl : i = L.length := by omega
      obtain ⟨j, h1, h2⟩ := HEX.out
      rw [HF.out j h1] at h2
      cases h2
end
end Go.Proofs.YtcikoaeiopbbbaaGreat
