/- Contracts of layer 12: Add. -/
import Derived.Test.YtmfhimeffmpgaaaEq3
import Derived.Test.YtmfhimeffmpgaaaEq6
import Derived.ArgAppend
import Derived.Deep.AppendLies
import Derived.Deep.RegionLaw
namespace Go.Proofs.Ytmfhimeffmpgaaa
set_option linter.unusedVariables false
set_option linter.unusedSimpArgs false
open Go.RowKit
set_option maxRecDepth 100000
theorem step_growsO {P : Program} {w : World} {ops : Array Oper} {o : Oper} {a : Act} {K : Act → World → Prop} {Q : Exit → Act → World → Prop} {E : Prop} (hgd : o.guard = none) (s x : Operand) (t : TypeId)
    (ho : o.op = .call { callee := .builtin .append, args := #[s, x], argTypes := #[t, t] })
    (e : TypeId) (i : TypeInfo) (z : Value) (size bytes : Nat) (ht : P.underlying t = some (.slice e)) (hi : P.info? e = some i) (hz : i.zero = some z)
    (hsize : i.size = size) (hby : i.bytes = bytes) (hzs : z.cells.size = size) (hsz : 0 < size)
    (ao : Option Addr) (n cap : Nat) (olds : List Value) (hs : a.eval s = .slice ao n cap) (hnone : ao = none → n = 0 ∧ cap = 0) (hlo : olds.length = n * size) (holds : ∀ b, ao = some b → ∀ j u, olds[j]? = some u → w.cell? (b.add j) = some u)
    (ad : Addr) (m c : Nat) (news : List Value) (hx : a.eval x = .slice (some ad) m c) (hl : news.length = m * size) (hnews : ∀ j u, news[j]? = some u → w.cell? (ad.add j) = some u) (h1c : ∀ u ∈ news, u.oneCell' = true)
    (hg : cap < n + m) (h63 : n + m ≤ maxLen) (hbytes : (n + m) * bytes ≤ 140737488355328)
    (h : ∀ v' w', w'.ownsRow w.heap.size e size v' (n + m) (olds ++ news) → w.grownBy w' none → K (a.put o.dst v') w') :
    if Region.wanted o (yielded ops a.tmps) = true then Oper.wp P o a w K Q else E := by
  have hw : Region.wanted o (yielded ops a.tmps) = true := by simp [Region.wanted, hgd]
  rw [if_pos hw]
  unfold Oper.wp execOp
  cases ao with
  | some b =>
    obtain ⟨v', w', hr, h2, h3⟩ := run_append_arg_grows (P := P) w t o.type e i z size bytes ht hi hz hsize hby hzs hsz b n cap olds hlo (holds b rfl) ad m c news hl hnews hg h63 hbytes
    simp only [ho, resolve, invoke, builtin, Sem.run_bind, Sem.run_pure, Result.andThen_ok, List.map_toArray, List.map_cons, List.map_nil, hs, hx, hr]
    exact h v' w' h2 h3
  | none =>
    obtain ⟨rfl, rfl⟩ := hnone rfl
    obtain rfl : olds = [] := List.eq_nil_of_length_eq_zero (by simpa using hlo)
    obtain ⟨v', w', hr, h2, h3, _⟩ := run_append_own (P := P) w w.heap.size t o.type e i z size bytes ht hi hz hsize hby hzs hsz (.slice none 0 0) 0 [] (World.ownsRow_nil w _ e size) ad m c news hl hnews h1c h63 hbytes (Nat.le_refl _)
    simp only [ho, resolve, invoke, builtin, Sem.run_bind, Sem.run_pure, Result.andThen_ok, List.map_toArray, List.map_cons, List.map_nil, hs, hx, hr]
    exact h v' w' h2 h3
theorem news_drew12 {x : World} {o : Obj} {g : Nat} {L : List Value} (h : ∀ j u, L[j]? = some u → (x.alloc o).cell? ((⟨g, 0, none⟩ : Addr).add j) = some u) : ∀ j u, L[j]? = some u → (x.alloc o).drew.cell? ((⟨g, 0, none⟩ : Addr).add j) = some u := h
theorem below_grown12 {x w : World} {o : Obj} (h : (x.alloc o).drew.grownBy w none) : Below x.heap.size x w :=
  (((Below.refl _ _).alloc (Nat.le_refl _) o).drew).grown h (by show _ ≤ (x.alloc o).heap.size; simp) (fun k hk => by cases hk)
theorem sym12_info : (Try.prog.info? 27).map (fun i => (i.zero, i.size, i.bytes)) = some (some (.agg #[.int .u64 0, .string ⟨#[]⟩]), 2, 24) := by kernel_rfl
def addAns (k s c : Int) (xs : List SymR) (x : SymR) : List Int := [whenI (!storeB k s c xs) 1, whenI ((x.2.size : Int) != s) 2, whenI (hasI xs x.1) 8, whenI ((xs.length : Int) == c) 7]
def addE (k s c : Int) (xs : List SymR) (x : SymR) : Int := if storeB k s c xs then whyI s c xs x else 1
theorem addAns_eq (k s c : Int) (xs : List SymR) (x : SymR) : firstI (addAns k s c xs x) = addE k s c xs x := by
  unfold addAns addE whyI
  cases storeB k s c xs <;> cases ((x.2.size : Int) != s) <;> cases hasI xs x.1 <;> cases ((xs.length : Int) == c) <;> rfl
def addFs (g : Nat) : Nat → Nat × Array Value := fun j => [(20, #[Value.pointer (some ⟨g, 0, none⟩)]), (22, #[.pointer (some ⟨g + 1, 0, none⟩), .pointer (some ⟨g, 0, none⟩)]), (23, #[.pointer (some ⟨g, 0, none⟩), .pointer (some ⟨g + 1, 0, none⟩)]), (25, #[.pointer (some ⟨g, 0, none⟩)])].getD j (0, #[])
def addCells (g : Nat) : Array Value := #[.func (.func 20) #[] #[.pointer (some ⟨g, 0, none⟩)], .func (.func 22) #[] #[.pointer (some ⟨g + 1, 0, none⟩), .pointer (some ⟨g, 0, none⟩)], .func (.func 23) #[] #[.pointer (some ⟨g, 0, none⟩), .pointer (some ⟨g + 1, 0, none⟩)], .func (.func 25) #[] #[.pointer (some ⟨g, 0, none⟩)]]
abbrev addW3 (k s c : Int) (A : Option Addr) (l d : Nat) (x : SymR) (w : World) : World :=
  ((w.alloc (.cells #[.int .i64 k, .int .i64 s, .int .i64 c, .slice A l d] 24)).alloc (.cells #[.int .u64 (x.1 : Int), .string x.2] 27)).alloc (.cells #[.int .i64 0, .int .i64 0, .int .i64 0, .slice none 0 0] 24)
abbrev addW (k s c : Int) (A : Option Addr) (l d : Nat) (x : SymR) (w : World) : World :=
  (addW3 k s c A l d x w).alloc (.cells (addCells w.heap.size) 46)
theorem addW_three (k s c : Int) (A : Option Addr) (l d : Nat) (x : SymR) (w : World) :
    Box (addW k s c A l d x w) w.heap.size 24 #[.int .i64 k, .int .i64 s, .int .i64 c, .slice A l d] ∧ Box (addW k s c A l d x w) (w.heap.size + 1) 27 #[.int .u64 (x.1 : Int), .string x.2] ∧ Box (addW k s c A l d x w) (w.heap.size + 2) 24 #[.int .i64 0, .int .i64 0, .int .i64 0, .slice none 0 0] ∧ Box (addW k s c A l d x w) (w.heap.size + 3) 46 (addCells w.heap.size) ∧ Below w.heap.size w (addW k s c A l d x w) := by
  refine ⟨?_, ?_, ?_, ?_, ?_⟩
  · exact (((Box.new w _ _).alloc _).alloc _).alloc _
  · have q := ((Box.new (w.alloc (.cells #[.int .i64 k, .int .i64 s, .int .i64 c, .slice A l d] 24)) 27 #[.int .u64 (x.1 : Int), .string x.2]).alloc (.cells #[.int .i64 0, .int .i64 0, .int .i64 0, .slice none 0 0] 24)).alloc (.cells (addCells w.heap.size) 46)
    simpa only [World.size_alloc] using q
  · have q := (Box.new ((w.alloc (.cells #[.int .i64 k, .int .i64 s, .int .i64 c, .slice A l d] 24)).alloc (.cells #[.int .u64 (x.1 : Int), .string x.2] 27)) 24 #[.int .i64 0, .int .i64 0, .int .i64 0, .slice none 0 0]).alloc (.cells (addCells w.heap.size) 46)
    simpa only [World.size_alloc] using q
  · have q := Box.new (addW3 k s c A l d x w) 46 (addCells w.heap.size)
    simpa only [World.size_alloc] using q
  · exact ((((Below.refl _ _).alloc (Nat.le_refl _) _).alloc (by simp) _).alloc (by simp; omega) _).alloc (by simp; omega) _
theorem addAsked (k s c : Int) (A : Option Addr) (l d : Nat) (xs : List SymR) (x : SymR) (w : World) (hx : Syms w A l xs) (hl : l ≤ d) (hd : d ≤ maxLen) :
    AskedOf Try.prog (addW k s c A l d x w) (w.heap.size + 3) 0 (addFs w.heap.size) (addAns k s c xs x) := by
  obtain ⟨Q0, Q1, -, F, b1⟩ := addW_three k s c A l d x w
  have hX := hx.below b1
  have hxl := hx.1
  refine ⟨F.lt, ?_, ?_, ?_⟩
  · intro j hj
    have hj : j < 4 := hj
    rw [Nat.zero_add, F.cell j]
    match j, hj with
    | 0, _ => rfl
    | 1, _ => rfl
    | 2, _ => rfl
    | 3, _ => rfl
  · intro j hj
    have hj : j < 4 := hj
    match j, hj with
    | 0, _ => exact enters_of Try.func20 (by kernel_rfl) rfl
    | 1, _ => exact enters_of Try.func22 (by kernel_rfl) rfl
    | 2, _ => exact enters_of Try.func23 (by kernel_rfl) rfl
    | 3, _ => exact enters_of Try.func25 (by kernel_rfl) rfl
  · intro j hj w' hb _
    have hj : j < 4 := hj
    have q := Q0.keep hb
    have q1 := Q1.keep hb
    have hX' := hX.below hb
    match j, hj with
    | 0, _ => exact add1_any k s c A l d w.heap.size w' xs q hX' hl hd
    | 1, _ => exact add2_any k s c A l d w.heap.size (w.heap.size + 1) w' x q q1
    | 2, _ => exact add3_any k s c A l d w.heap.size (w.heap.size + 1) w' xs x q q1 hX' (Nat.le_trans hl hd)
    | 3, _ =>
      rw [← hxl] at q
      exact add4_any k s c A xs.length d w.heap.size w' q
def zI (e v : Int) : Int := if e = 0 then v else 0
theorem addE_ok {k s c : Int} {xs : List SymR} {x : SymR} (h : addE k s c xs x = 0) : storeB k s c xs = true ∧ (x.2.size : Int) = s ∧ hasI xs x.1 = false ∧ (xs.length : Int) < c ∧ c ≤ 64 := by
  unfold addE at h
  split at h
  case isFalse => cases h
  case isTrue hs =>
    unfold whyI at h
    split at h
    case isTrue => cases h
    case isFalse h1 =>
      split at h
      case isTrue => cases h
      case isFalse h2 =>
        split at h
        case isTrue => cases h
        case isFalse h3 =>
          have h4 := hs
          unfold storeB kB at h4
          simp only [Bool.and_eq_true, decide_eq_true_eq] at h4
          simp at h1 h2 h3
          exact ⟨hs, h1, by simpa using h2, by omega, h4.1.1.1.2.2⟩
set_option maxHeartbeats 2000000 in
theorem eadd_no (k s c : Int) (A : Option Addr) (l d : Nat) (xs : List SymR) (x : SymR) (w : World) (hx : Syms w A l xs) (hl : l ≤ d) (hd : d ≤ maxLen) (he : addE k s c xs x ≠ 0) :
    Calls Try.prog 8 #[.agg #[.int .i64 k, .int .i64 s, .int .i64 c, .slice A l d], .agg #[.int .u64 (x.1 : Int), .string x.2]] w (StoreOut 0 0 0 [] (addE k s c xs x) w) := by
  obtain ⟨Q0, Q1, Q2, F, b1⟩ := addW_three k s c A l d x w
  have HC := Lib.hid (efirst_any (w.heap.size + 3) 0 4 (addFs w.heap.size) (addAns k s c xs x) _ (by show 4 ≤ 100; omega) (addAsked k s c A l d xs x w hx hl hd))
  rw [addAns_eq, show (addAns k s c xs x).length = 4 from rfl] at HC
  have HB := Lib.hid b1
  have HQ2 := Lib.hid Q2
  generalize addE k s c xs x = er at *
  have t1 : (er != 0) = true := by simpa using he
  clear hx b1 Q0 Q1 Q2 F he
  go_enter Try.func8, Try.ntmps8
  go_wp2_with fail
  refine HC.out.mono ?_
  rintro e w1 ⟨rfl, hb⟩
  replace HB := Lib.hid (chain HB.out hb)
  replace HQ2 := Lib.hid (HQ2.out.keep hb)
  clear hb HC
  obtain ⟨s0, s1, s2, s3, f0, f1, f2, f3⟩ := HQ2.out.four
  go_wp2_with fail
  refine close_cell Try.results8 rfl rfl rfl HQ2.out.put4 Try.underlying24 rfl (by kernel_rfl) ⟨none, 0, rfl, Recs.nil _ _, Nat.le_refl _, Nat.zero_le _, fun _ => rfl, below_set4 HB.out (by omega) _ _ _ _⟩
theorem own_cap {w : World} {base e size n c : Nat} {A : Option Addr} {xs : List Value} (h : w.ownsRow base e size (.slice A n c) n xs) : n ≤ c ∧ c ≤ maxLen ∧ (A = none → c = 0) ∧ (∀ b, A = some b → base ≤ b.block) := by
  rcases h.2 with ⟨hv, h0⟩ | ⟨g, cap, cur, hv, hb, hh, hn, hm, -⟩
  · injection hv with h1 h2 h3
    subst h1 h3 h0
    exact ⟨Nat.le_refl _, Nat.zero_le _, fun _ => rfl, fun b hb => by cases hb⟩
  · injection hv with h1 h2 h3
    subst h1 h3
    exact ⟨hn, hm, fun h => (by cases h), fun b hb2 => by injection hb2 with hb2; subst hb2; exact hb⟩
theorem add_own {x w5 : World} {o : Obj} {g n c5 : Nat} {A5 : Option Addr} {xs : List SymR} {y : SymR} {e : TypeId} (h : w5.ownsRow (x.alloc o).drew.heap.size e 2 (.slice A5 n c5) n (xs.flatMap encS ++ encS y)) (hg : g + 4 ≤ x.heap.size) :
    Syms w5 A5 n (xs ++ [y]) ∧ n ≤ c5 ∧ c5 ≤ maxLen ∧ (A5 = none → c5 = 0) ∧ ∀ b off, A5 = some ⟨b, off, none⟩ → g + 4 ≤ b := by
  obtain ⟨h1, h2, h3, h4⟩ := own_cap h
  rw [← flat_snoc] at h
  refine ⟨own_recs encS_len h (by omega), h1, h2, h3, fun b off hb => ?_⟩
  have := h4 _ hb
  have e1 : (x.alloc o).drew.heap.size = x.heap.size + 1 := by show (x.alloc o).heap.size = _; simp
  rw [e1] at this
  have : x.heap.size + 1 ≤ b := this
  omega
theorem add_close {w w6 : World} {g n c5 : Nat} {A5 : Option Addr} {k s c : Int} {zs : List SymR} {u0 u1 u2 u3 : Value} (hg : w.heap.size = g) (hb : Below g w w6) (hs : Syms w6 A5 n zs) (h1 : n ≤ c5) (h2 : c5 ≤ maxLen) (h3 : A5 = none → c5 = 0) (h4 : ∀ b off, A5 = some ⟨b, off, none⟩ → g + 4 ≤ b) (hz : zs.length = n) :
    StoreOut k s c zs 0 w (.returned (.tuple #[.agg #[.int .i64 k, .int .i64 s, .int .i64 c, .slice A5 n c5], .int .i64 0])) ((((w6.setCell ⟨g + 2, 0, none⟩ u0).setCell ⟨g + 2, 1, none⟩ u1).setCell ⟨g + 2, 2, none⟩ u2).setCell ⟨g + 2, 3, none⟩ u3) := by
  subst hz
  subst hg
  refine ⟨A5, c5, rfl, Recs.far4 hs (fun b off hb _ => by have := h4 b off hb; omega) _ _ _ _, h1, h2, h3, below_set4 hb (by omega) _ _ _ _⟩
set_option maxHeartbeats 4000000 in
theorem eadd_yes (k s c : Int) (A : Option Addr) (l d : Nat) (xs : List SymR) (x : SymR) (w : World) (hx : Syms w A l xs) (hl : l ≤ d) (hd : d ≤ maxLen) (hn : A = none → d = 0) (he : addE k s c xs x = 0) :
    Calls Try.prog 8 #[.agg #[.int .i64 k, .int .i64 s, .int .i64 c, .slice A l d], .agg #[.int .u64 (x.1 : Int), .string x.2]] w (StoreOut k s c (xs ++ [x]) 0 w) := by
  obtain ⟨Q0, Q1, Q2, F, b1⟩ := addW_three k s c A l d x w
  have HC := Lib.hid (efirst_any (w.heap.size + 3) 0 4 (addFs w.heap.size) (addAns k s c xs x) _ (by show 4 ≤ 100; omega) (addAsked k s c A l d xs x w hx hl hd))
  rw [addAns_eq, show (addAns k s c xs x).length = 4 from rfl, he] at HC
  obtain ⟨-, -, -, hlc, hc64⟩ := addE_ok he
  rw [hx.1] at hlc
  have HL := Lib.hid hx.1
  have hl64 : l < 64 := by omega
  have HB := Lib.hid b1
  have HQ0 := Lib.hid Q0
  have HQ1 := Lib.hid Q1
  have HQ2 := Lib.hid Q2
  have HX := Lib.hid (hx.below b1)
  obtain ⟨i0, hi, hz0, hz1, hz2⟩ := info_parts sym12_info
  have HI := Lib.hid hi
  have HZ0 := Lib.hid hz0
  have HZ1 := Lib.hid hz1
  have HZ2 := Lib.hid hz2
  have hld : (l : Int) ≤ (d : Int) := by omega
  have hl0 : (0 : Int) ≤ (l : Int) := by omega
  have LO := Lib.hid (show (xs.flatMap encS).length = l * 2 by rw [flat_len encS_len, HL.out])
  have LN := Lib.hid (show (encS x).length = 1 * 2 from rfl)
  have a1 : l < l + 1 := by omega
  have a2 : l + 1 ≤ maxLen := by unfold maxLen; omega
  have a3 : (l + 1) * 24 ≤ 140737488355328 := by omega
  have HA0 := Lib.hid (show A = none → l = 0 ∧ l = 0 from fun h => by have := hn h; omega)
  have HAd := Lib.hid (show ∀ ad : Addr, ad.add 0 = ad from fun ad => by unfold Addr.add; simp)
  clear hx b1 Q0 Q1 Q2 F he hi hz0 hz1 hz2 hd hc64 hlc
  go_enter Try.func8, Try.ntmps8
  go_wp2_with fail
  refine HC.out.mono ?_
  rintro e w1 ⟨rfl, hb⟩
  have HSZ := Lib.hid (show w.heap.size + 4 ≤ w1.heap.size by have := hb.size; simpa using this)
  replace HB := Lib.hid (chain HB.out hb)
  replace HQ0 := Lib.hid (HQ0.out.keep hb)
  replace HQ1 := Lib.hid (HQ1.out.keep hb)
  replace HQ2 := Lib.hid (HQ2.out.keep hb)
  replace HX := Lib.hid (HX.out.below hb)
  clear hb HC
  obtain ⟨r0, r1, r2, r3, e0, e1, e2, e3⟩ := HQ0.out.four
  obtain ⟨z0, z1, -, -⟩ := HQ1.out.two
  go_wp2_with fail
  have LH := Lib.hid ((HX.out.alloc (.cells #[.int .u64 (x.1 : Int), .string x.2] 27)).drew.news encS_len (by omega))
  have NH := Lib.hid (news_drew12 (World.news_of_block (Box.new w1 27 #[.int .u64 (x.1 : Int), .string x.2])))
  have NE := Lib.hid (encS_one x)
  obtain ⟨-, -, -, q3, -, -, -, -⟩ := (HQ0.out.alloc (.cells #[.int .u64 (x.1 : Int), .string x.2] 27)).four
  cases A with
  | none =>
    obtain ⟨hl1, -⟩ := HA0.out rfl
    subst hl1
    go_region_law (first
      | (refine step_growsO rfl (.tmp 25) (.tmp 27) 22 rfl 27 i0 (.agg #[.int .u64 0, .string ⟨#[]⟩]) 2 24 Try.underlying22 HI.out HZ0.out HZ1.out HZ2.out rfl (by decide) none 0 0 (xs.flatMap encS) ?_ HA0.out LO.out LH.out ⟨w1.heap.size, 0, none⟩ 1 1 (encS x) ?_ LN.out NH.out NE.out a1 a2 a3 ?_; simp [Act.eval, Act.put]; simp [Act.eval, Act.put]; intro v5 w5 hown hgrow; obtain ⟨A5, c5, rfl, -⟩ := own_form hown; have hb5 := below_grown12 hgrow; have HB5 := Lib.hid (chain HB.out hb5); have P0 := Lib.hid (HQ0.out.keep hb5); have P2 := Lib.hid (HQ2.out.keep hb5); have HO := Lib.hid (add_own hown HSZ.out); clear hown hgrow hb5; obtain ⟨y0, y1, y2, y3, f0, f1, f2, f3⟩ := P0.out.four))
    all_goals
      have HB6 := Lib.hid (HB5.out.setCell (p := ⟨w.heap.size, 3, none⟩) (Nat.le_refl _) (.slice A5 (1) c5))
      have HS6 := Lib.hid (Recs.farB HO.out.1 (g := w.heap.size) (fun b off hb _ => by have := HO.out.2.2.2.2 b off hb; omega) 3 (.slice A5 (1) c5))
      have P0 := Lib.hid (show Box (w5.setCell ⟨w.heap.size, 3, none⟩ (.slice A5 (1) c5)) w.heap.size 24 #[.int .i64 k, .int .i64 s, .int .i64 c, .slice A5 (1) c5] from P0.out.put 3 (.slice A5 (1) c5))
      have P2 := Lib.hid (P2.out.far (p := ⟨w.heap.size, 3, none⟩) (by simp) (.slice A5 (1) c5))
      clear y0 y1 y2 y3 f0 f1 f2 f3 r0 r1 r2 r3 e0 e1 e2 e3 q3
      generalize w5.setCell ⟨w.heap.size, 3, none⟩ (.slice A5 (1) c5) = w6 at *
      obtain ⟨r0, r1, r2, r3, -, -, -, -⟩ := P0.out.four
      obtain ⟨s0, s1, s2, s3, f0, f1, f2, f3⟩ := P2.out.four
      go_wp2_with fail
      refine close_cell Try.results8 rfl rfl rfl P2.out.put4 Try.underlying24 rfl (by kernel_rfl) (add_close rfl HB6.out HS6.out HO.out.2.1 HO.out.2.2.1 HO.out.2.2.2.1 HO.out.2.2.2.2 (by rw [List.length_append, HL.out]; rfl))
  | some ad =>
    go_region_law (first
      | (refine step_growsO rfl (.tmp 25) (.tmp 27) 22 rfl 27 i0 (.agg #[.int .u64 0, .string ⟨#[]⟩]) 2 24 Try.underlying22 HI.out HZ0.out HZ1.out HZ2.out rfl (by decide) (some ad) l l (xs.flatMap encS) ?_ HA0.out LO.out LH.out ⟨w1.heap.size, 0, none⟩ 1 1 (encS x) ?_ LN.out NH.out NE.out a1 a2 a3 ?_; simp [Act.eval, Act.put]; simp [Act.eval, Act.put]; intro v5 w5 hown hgrow; obtain ⟨A5, c5, rfl, -⟩ := own_form hown; have hb5 := below_grown12 hgrow; have HB5 := Lib.hid (chain HB.out hb5); have P0 := Lib.hid (HQ0.out.keep hb5); have P2 := Lib.hid (HQ2.out.keep hb5); have HO := Lib.hid (add_own hown HSZ.out); clear hown hgrow hb5; obtain ⟨y0, y1, y2, y3, f0, f1, f2, f3⟩ := P0.out.four))
    all_goals
      have HB6 := Lib.hid (HB5.out.setCell (p := ⟨w.heap.size, 3, none⟩) (Nat.le_refl _) (.slice A5 (l + 1) c5))
      have HS6 := Lib.hid (Recs.farB HO.out.1 (g := w.heap.size) (fun b off hb _ => by have := HO.out.2.2.2.2 b off hb; omega) 3 (.slice A5 (l + 1) c5))
      have P0 := Lib.hid (show Box (w5.setCell ⟨w.heap.size, 3, none⟩ (.slice A5 (l + 1) c5)) w.heap.size 24 #[.int .i64 k, .int .i64 s, .int .i64 c, .slice A5 (l + 1) c5] from P0.out.put 3 (.slice A5 (l + 1) c5))
      have P2 := Lib.hid (P2.out.far (p := ⟨w.heap.size, 3, none⟩) (by simp) (.slice A5 (l + 1) c5))
      clear y0 y1 y2 y3 f0 f1 f2 f3 r0 r1 r2 r3 e0 e1 e2 e3 q3
      generalize w5.setCell ⟨w.heap.size, 3, none⟩ (.slice A5 (l + 1) c5) = w6 at *
      obtain ⟨r0, r1, r2, r3, -, -, -, -⟩ := P0.out.four
      obtain ⟨s0, s1, s2, s3, f0, f1, f2, f3⟩ := P2.out.four
      go_wp2_with fail
      refine close_cell Try.results8 rfl rfl rfl P2.out.put4 Try.underlying24 rfl (by kernel_rfl) (add_close rfl HB6.out HS6.out HO.out.2.1 HO.out.2.2.1 HO.out.2.2.2.1 HO.out.2.2.2.2 (by rw [List.length_append, HL.out]; rfl))
end Go.Proofs.Ytmfhimeffmpgaaa
