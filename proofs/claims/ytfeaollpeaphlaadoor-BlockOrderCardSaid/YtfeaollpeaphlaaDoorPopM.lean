/- How many bits of a word are 1, byte by byte, and folded. No program. -/
import Derived.IntWalk
namespace Go.Proofs.YtfeaollpeaphlaaDoor
set_option linter.unusedVariables false
set_option linter.unusedSimpArgs false
/-- A number by its bytes, the lowest first. -/
def valB : List Nat → Nat
  | [] => 0
  | c :: cs => c + 256 * valB cs
theorem valB_and (m : Nat) (hm : m < 256) : ∀ cs : List Nat, (∀ c ∈ cs, c < 256) → valB cs &&& valB (List.replicate cs.length m) = valB (cs.map (· &&& m))
  | [], _ => by simp [valB]
  | c :: cs, h => by
    have hc : c < 256 := h c (by simp)
    have ih := valB_and m hm cs (fun x hx => h x (by simp [hx]))
    have e1 : (valB (c :: cs) &&& valB (List.replicate (c :: cs).length m)) / 2 ^ 8 = valB (c :: cs) / 2 ^ 8 &&& valB (List.replicate (c :: cs).length m) / 2 ^ 8 := Nat.and_div_two_pow
    have e2 : (valB (c :: cs) &&& valB (List.replicate (c :: cs).length m)) % 2 ^ 8 = (valB (c :: cs) % 2 ^ 8) &&& (valB (List.replicate (c :: cs).length m) % 2 ^ 8) := Nat.and_mod_two_pow
    simp only [List.length_cons, List.replicate_succ, valB] at *
    rw [show (c + 256 * valB cs) / 2 ^ 8 = valB cs by omega, show (m + 256 * valB (List.replicate cs.length m)) / 2 ^ 8 = valB (List.replicate cs.length m) by omega, ih] at e1
    rw [show (c + 256 * valB cs) % 2 ^ 8 = c by omega, show (m + 256 * valB (List.replicate cs.length m)) % 2 ^ 8 = m by omega] at e2
    have := Nat.div_add_mod ((c + 256 * valB cs) &&& (m + 256 * valB (List.replicate cs.length m))) (2 ^ 8)
    rw [e1, e2] at this
    simp only [List.map_cons, valB]
    omega
/-- Bytes shifted down by k bits. -/
def shrB (p q : Nat) : List Nat → List Nat
  | [] => []
  | [c] => [c / p]
  | c :: d :: r => (c / p + d % p * q) :: shrB p q (d :: r)
theorem div_cut (c p q y : Nat) (hp : 0 < p) (e : p * q = 256) : (c + 256 * y) / p = c / p + q * y := by
  rw [← e, Nat.mul_assoc, Nat.add_mul_div_left _ _ hp]
theorem shrB_val (p q : Nat) (hp : 0 < p) (e : p * q = 256) : ∀ cs : List Nat, valB (shrB p q cs) = valB cs / p
  | [] => by simp [shrB, valB]
  | [c] => by simp [shrB, valB]
  | c :: d :: r => by
    have ih := shrB_val p q hp e (d :: r)
    show c / p + d % p * q + 256 * valB (shrB p q (d :: r)) = (c + 256 * valB (d :: r)) / p
    rw [ih, div_cut c p q _ hp e, ← e]
    have h1 := Nat.div_add_mod (valB (d :: r)) p
    have h2 : valB (d :: r) % p = d % p := by
      simp only [valB]
      rw [← e, Nat.mul_assoc, Nat.add_mul_mod_self_left]
    rw [h2] at h1
    have h3 : q * valB (d :: r) = q * (p * (valB (d :: r) / p) + d % p) := by rw [h1]
    rw [h3, Nat.mul_add, Nat.mul_comm (d % p) q, ← Nat.mul_assoc q p, Nat.mul_comm q p]
    omega
theorem shrB_len (p q : Nat) : ∀ cs : List Nat, (shrB p q cs).length = cs.length
  | [] => rfl
  | [c] => rfl
  | c :: d :: r => by simp only [shrB, List.length_cons]; rw [shrB_len p q (d :: r)]; rfl
theorem shrB_lt (p q : Nat) (hp : 0 < p) (e : p * q = 256) : ∀ cs : List Nat, (∀ c ∈ cs, c < 256) → ∀ c ∈ shrB p q cs, c < 256
  | [], _ => by simp [shrB]
  | [c], h => by
    intro x hx
    have : x = c / p := by simpa [shrB] using hx
    have := h c (by simp)
    have := Nat.div_le_self c p
    omega
  | c :: d :: r, h => by
    intro x hx
    rcases List.mem_cons.1 (show x ∈ (c / p + d % p * q) :: shrB p q (d :: r) from hx) with rfl | hx
    · have h1 := h c (by simp)
      have h2 : c / p < q := by rw [Nat.div_lt_iff_lt_mul hp, Nat.mul_comm, e]; exact h1
      have h3 : d % p < p := Nat.mod_lt _ hp
      have h4 : (d % p + 1) * q ≤ p * q := Nat.mul_le_mul_right _ h3
      rw [Nat.add_mul, Nat.one_mul, e] at h4
      omega
    · exact shrB_lt p q hp e (d :: r) (fun y hy => h y (by simp [hy])) x hx
theorem valB_add : ∀ as bs : List Nat, as.length = bs.length → valB as + valB bs = valB (List.zipWith (· + ·) as bs)
  | [], [], _ => rfl
  | a :: as, b :: bs, h => by
    have ih := valB_add as bs (by simpa using h)
    simp only [valB, List.zipWith_cons_cons]
    omega
  | [], _ :: _, h => by simp at h
  | _ :: _, [], h => by simp at h
/-- Two masked halves put together, byte by byte. -/
theorem half_map (p q m : Nat) (f : Nat → Nat) (hf : ∀ c, c < 256 → ∀ z, z < p → ((c / p + z * q) &&& m) + (c &&& m) = f c) (hf0 : ∀ c, c < 256 → ((c / p) &&& m) + (c &&& m) = f c) (hp : 0 < p) :
    ∀ cs : List Nat, (∀ c ∈ cs, c < 256) → List.zipWith (· + ·) ((shrB p q cs).map (· &&& m)) (cs.map (· &&& m)) = cs.map f
  | [], _ => rfl
  | [c], h => by simp [shrB, hf0 c (h c (by simp))]
  | c :: d :: r, h => by
    have ih := half_map p q m f hf hf0 hp (d :: r) (fun y hy => h y (by simp [hy]))
    simp only [shrB, List.map_cons, List.zipWith_cons_cons] at *
    rw [ih, hf c (h c (by simp)) (d % p) (Nat.mod_lt _ hp)]
/-- Two halves put together, and masked, byte by byte. -/
theorem both_map : ∀ cs : List Nat, (List.zipWith (· + ·) (shrB 16 16 cs) cs).map (· &&& 15) = cs.map fun c => (c / 16 + c) % 16
  | [] => rfl
  | [c] => by
    simp only [shrB, List.zipWith_cons_cons, List.zipWith_nil_left, List.map_cons, List.map_nil]
    exact congrArg (fun y => [y]) (Nat.and_two_pow_sub_one_eq_mod (c / 16 + c) 4)
  | c :: d :: r => by
    have ih := both_map (d :: r)
    simp only [shrB, List.map_cons, List.zipWith_cons_cons] at *
    rw [ih, show (c / 16 + d % 16 * 16 + c) &&& 15 = (c / 16 + d % 16 * 16 + c) % 2 ^ 4 from Nat.and_two_pow_sub_one_eq_mod _ 4, show (c / 16 + d % 16 * 16 + c) % 2 ^ 4 = (c / 16 + c) % 16 by omega]
theorem both_lt : ∀ cs : List Nat, (∀ c ∈ cs, c / 16 ≤ 4 ∧ c % 16 ≤ 4) → ∀ x ∈ List.zipWith (· + ·) (shrB 16 16 cs) cs, x < 256
  | [], _ => by simp [shrB]
  | [c], h => by
    intro x hx
    have := h c (by simp)
    have : x = c / 16 + c := by simpa [shrB] using hx
    omega
  | c :: d :: r, h => by
    intro x hx
    simp only [shrB, List.zipWith_cons_cons] at hx
    rcases List.mem_cons.1 hx with rfl | hx
    · have h1 := h c (by simp)
      have h2 := h d (by simp)
      omega
    · exact both_lt (d :: r) (fun y hy => h y (by simp [hy])) x hx
def f1 (c : Nat) : Nat := ((c / 2) &&& 85) + (c &&& 85)
def f2 (c : Nat) : Nat := ((c / 4) &&& 51) + (c &&& 51)
/-- How many bits of a byte are 1. -/
def pop8 (c : Nat) : Nat := ((List.range 8).filter c.testBit).length
theorem f1_ok : ∀ c : Fin 256, ∀ z : Fin 2, ((c.val / 2 + z.val * 128) &&& 85) + (c.val &&& 85) = f1 c.val := by decide +kernel
theorem f1_lt : ∀ c : Fin 256, f1 c.val < 171 := by decide +kernel
theorem f2_ok : ∀ c : Fin 256, ∀ z : Fin 4, ((c.val / 4 + z.val * 64) &&& 51) + (c.val &&& 51) = f2 c.val := by decide +kernel
theorem f2_lt : ∀ c : Fin 256, f2 (f1 c.val) / 16 ≤ 4 ∧ f2 (f1 c.val) % 16 ≤ 4 := by decide +kernel
theorem pop_ok : ∀ c : Fin 256, (f2 (f1 c.val) / 16 + f2 (f1 c.val)) % 16 = pop8 c.val := by decide +kernel
theorem pop_le : ∀ c : Fin 256, pop8 c.val ≤ 8 := by decide +kernel
/-- The three steps that count within bytes. -/
def stepA (x : Nat) : Nat := ((x / 2) &&& 6148914691236517205) + (x &&& 6148914691236517205)
def stepB (x : Nat) : Nat := ((x / 4) &&& 3689348814741910323) + (x &&& 3689348814741910323)
def stepC (x : Nat) : Nat := (x / 16 + x) &&& 1085102592571150095
theorem step_half (p q m : Nat) (f : Nat → Nat) (M : Nat) (hm : m < 256) (hp : 0 < p) (e : p * q = 256) (hf : ∀ c : Fin 256, ∀ z : Fin p, ((c.val / p + z.val * q) &&& m) + (c.val &&& m) = f c.val) (cs : List Nat) (h : ∀ c ∈ cs, c < 256) (hM : M = valB (List.replicate cs.length m)) :
    ((valB cs / p) &&& M) + (valB cs &&& M) = valB (cs.map f) := by
  have l1 := shrB_len p q cs
  have e1 := valB_and m hm (shrB p q cs) (shrB_lt p q hp e cs h)
  have e2 := valB_and m hm cs h
  rw [l1, shrB_val p q hp e] at e1
  rw [hM, e1, e2, valB_add _ _ (by simp [l1]), half_map p q m f (fun c hc z hz => hf ⟨c, hc⟩ ⟨z, hz⟩) (fun c hc => by have := hf ⟨c, hc⟩ ⟨0, hp⟩; simpa using this) hp cs h]
theorem steps (cs : List Nat) (h : ∀ c ∈ cs, c < 256) (h8 : cs.length = 8) : stepC (stepB (stepA (valB cs))) = valB (cs.map pop8) ∧ stepA (valB cs) = valB (cs.map f1) ∧ stepB (stepA (valB cs)) = valB (cs.map fun c => f2 (f1 c)) := by
  have a1 : stepA (valB cs) = valB (cs.map f1) := step_half 2 128 85 f1 _ (by decide) (by decide) rfl f1_ok cs h (by rw [h8]; decide)
  have hb : ∀ c ∈ cs.map f1, c < 256 := by
    intro x hx
    obtain ⟨c, hc, rfl⟩ := List.mem_map.1 hx
    have := f1_lt ⟨c, h c hc⟩
    simp only at this
    omega
  have a2 : stepB (valB (cs.map f1)) = valB ((cs.map f1).map f2) := step_half 4 64 51 f2 _ (by decide) (by decide) rfl f2_ok _ hb (by rw [List.length_map, h8]; decide)
  rw [List.map_map] at a2
  refine ⟨?_, a1, by rw [a1, a2]; rfl⟩
  rw [a1, a2]
  unfold stepC
  have hc : ∀ x ∈ cs.map (f2 ∘ f1), x / 16 ≤ 4 ∧ x % 16 ≤ 4 := by
    intro x hx
    obtain ⟨c, hc, rfl⟩ := List.mem_map.1 hx
    exact f2_lt ⟨c, h c hc⟩
  rw [← shrB_val 16 16 (by decide) rfl, valB_add _ _ (by rw [shrB_len])]
  have e3 := valB_and 15 (by decide) _ (both_lt _ hc)
  have hl : (List.zipWith (· + ·) (shrB 16 16 (cs.map (f2 ∘ f1))) (cs.map (f2 ∘ f1))).length = 8 := by simp [shrB_len, h8]
  rw [hl, both_map, List.map_map] at e3
  rw [show (1085102592571150095 : Nat) = valB (List.replicate 8 15) by decide, e3]
  congr 1
  apply List.map_congr_left
  intro c hc
  exact pop_ok ⟨c, h c hc⟩
/-- The bytes of a word. -/
def bytesW (x : Nat) : List Nat := (List.range 8).map fun i => x / 256 ^ i % 256
theorem bytesW_eq (x : Nat) : bytesW x = [x % 256, x / 256 % 256, x / 65536 % 256, x / 16777216 % 256, x / 4294967296 % 256, x / 1099511627776 % 256, x / 281474976710656 % 256, x / 72057594037927936 % 256] := by simp [bytesW, List.range_succ]
theorem bytesW_val (x : Nat) (h : x < 18446744073709551616) : valB (bytesW x) = x := by
  rw [bytesW_eq]
  simp only [valB]
  omega
/-- The sums of bytes, folded. -/
theorem fold_sum (a b c d e f g i : Nat) (h : a ≤ 8 ∧ b ≤ 8 ∧ c ≤ 8 ∧ d ≤ 8 ∧ e ≤ 8 ∧ f ≤ 8 ∧ g ≤ 8 ∧ i ≤ 8) (z t u v : Nat) (hz : z = valB [a, b, c, d, e, f, g, i]) (ht : t = z + z / 256) (hu : u = t + t / 65536) (hv : v = u + u / 4294967296) :
    v % 128 = a + b + c + d + e + f + g + i ∧ v < 18446744073709551616 := by
  simp only [valB] at hz
  have t1 : t = (a + b) + 256 * ((b + c) + 256 * ((c + d) + 256 * ((d + e) + 256 * ((e + f) + 256 * ((f + g) + 256 * ((g + i) + 256 * i)))))) := by omega
  clear ht hz
  have u1 : u = (a + b + c + d) + 256 * ((b + c + d + e) + 256 * ((c + d + e + f) + 256 * ((d + e + f + g) + 256 * ((e + f + g + i) + 256 * ((f + g + i) + 256 * ((g + i) + 256 * i)))))) := by omega
  clear hu t1
  have v1 : u / 4294967296 = (e + f + g + i) + 256 * ((f + g + i) + 256 * ((g + i) + 256 * i)) := by omega
  rw [v1, u1] at hv
  omega
/-- How many of the first m bits are 1. -/
def popW (x m : Nat) : Nat := ((List.range m).filter x.testBit).length
theorem popW_step (x m : Nat) : popW x (m + 8) = popW x m + pop8 (x / 2 ^ m % 256) := by
  unfold popW pop8
  rw [List.range_add, List.filter_append, List.length_append, List.filter_map, List.length_map]
  congr 2
  apply List.filter_congr
  intro j hj
  have hj : j < 8 := by simpa using hj
  show x.testBit (m + j) = _
  rw [show (256 : Nat) = 2 ^ 8 from rfl, Nat.testBit_mod_two_pow, Nat.testBit_div_two_pow, Nat.add_comm]
  simp [hj]
theorem popW_bytes (x : Nat) : popW x 64 = pop8 (x % 256) + pop8 (x / 256 % 256) + pop8 (x / 65536 % 256) + pop8 (x / 16777216 % 256) + pop8 (x / 4294967296 % 256) + pop8 (x / 1099511627776 % 256) + pop8 (x / 281474976710656 % 256) + pop8 (x / 72057594037927936 % 256) := by
  have s0 := popW_step x 0
  have s1 := popW_step x 8
  have s2 := popW_step x 16
  have s3 := popW_step x 24
  have s4 := popW_step x 32
  have s5 := popW_step x 40
  have s6 := popW_step x 48
  have s7 := popW_step x 56
  have z : popW x 0 = 0 := rfl
  simp only [Nat.reduceAdd, Nat.reducePow, Nat.div_one] at s0 s1 s2 s3 s4 s5 s6 s7
  omega
/-- The library's count of a word's bits, step by step. -/
theorem count_word (x : Nat) (hx : x < 18446744073709551616) (z t u v : Nat) (hz : z = stepC (stepB (stepA x))) (ht : t = z + z / 256) (hu : u = t + t / 65536) (hv : v = u + u / 4294967296) : v % 128 = popW x 64 ∧ v < 18446744073709551616 := by
  have hb : ∀ c ∈ bytesW x, c < 256 := by
    intro c hc
    rw [bytesW] at hc
    obtain ⟨i, -, rfl⟩ := List.mem_map.1 hc
    exact Nat.mod_lt _ (by omega)
  have h1 := (steps (bytesW x) hb (by simp [bytesW])).1
  rw [bytesW_val x hx] at h1
  rw [h1, bytesW_eq] at hz
  rw [popW_bytes]
  have hp : ∀ y : Nat, pop8 (y % 256) ≤ 8 := fun y => pop_le ⟨y % 256, Nat.mod_lt _ (by omega)⟩
  exact fold_sum _ _ _ _ _ _ _ _ ⟨hp x, hp _, hp _, hp _, hp _, hp _, hp _, hp _⟩ z t u v hz ht hu hv
theorem steps_small (x : Nat) : stepA x < 18446744073709551616 ∧ stepB (stepA x) < 18446744073709551616 ∧ stepA x = ((x / 2) &&& 6148914691236517205) + (x &&& 6148914691236517205) := by
  have h1 : (x / 2) &&& 6148914691236517205 ≤ 6148914691236517205 := Nat.and_le_right
  have h2 : x &&& 6148914691236517205 ≤ 6148914691236517205 := Nat.and_le_right
  have h3 : (stepA x / 4) &&& 3689348814741910323 ≤ 3689348814741910323 := Nat.and_le_right
  have h4 : stepA x &&& 3689348814741910323 ≤ 3689348814741910323 := Nat.and_le_right
  refine ⟨?_, ?_, rfl⟩
  · unfold stepA; omega
  · show (stepA x / 4 &&& 3689348814741910323) + (stepA x &&& 3689348814741910323) < _; omega
end Go.Proofs.YtfeaollpeaphlaaDoor
