/- Parts: Eq7, Eq8, Eq9, EtX. -/
import Derived.Test.YtmfhimeffmpgaaaGreatZj
import Derived.ArgAppend
import Derived.Deep.AppendLies
import Derived.Deep.DeepCutAuto
import Derived.Deep.RegionHeld3
import Derived.Deep.RegionLaw
namespace Go.Proofs.YtmfhimeffmpgaaaGreat
section
/- Contracts of layer 12: Add. -/
set_option linter.unusedVariables false
set_option linter.unusedSimpArgs false
open Go.RowKit
set_option maxRecDepth 100000
theorem step_growsO {P : Program} {w : World} {ops : Array Oper} {o : Oper} {a : Act} {K : Act → World → Prop} {Q : Exit → Act → World → Prop} {E : Prop} (hgd : o.guard = none) (s x : Operand) (t : TypeId)
    (ho : o.op = .call { callee := .builtin .append, args := #[s, x], argTypes := #[t, t] })
    (e : TypeId) (i : TypeInfo) (z : Value) (size bytes : Nat) (ht : P.underlying t = some (.slice e)) (hi : P.info? e = some i) (hz : i.zero = some z)
    (hsize : i.size = size) (hby : i.bytes = bytes) (hzs : z.cells.size = size) (hsz : 0 < size)
    (ao : Option Addr) (n cap : Nat) (olds : List Value) (hs : a.eval s = .slice ao n cap) (hnone : ao = none → n = 0 ∧ cap = 0) (hlo : olds.length = n * size) (holds : ∀ b, ao = some b → ∀ j u, olds[j]? = some u → w.cell? (b.add j) = some u)
    (ad : Addr) (m c : Nat) (news : List Value) (hx : a.eval x = .slice (some ad) m c) (hl : news.length = m * size) (hnews : ∀ j u, news[j]? = some u → w.cell? (ad.add j) = some u) (h1c : ∀ u ∈ news, u.oneCell' = true)
    (hg : cap < n + m) (h63 : n + m ≤ maxLen) (hbytes : (n + m) * bytes ≤ 140737488355328)
    (h : ∀ v' w', w'.ownsRow w.heap.size e size v' (n + m) (olds ++ news) → w.grownBy w' none → K (a.put o.dst v') w') :
    if Region.wanted o (yielded ops a.tmps) = true then Oper.wp P o a w K Q else E := by
  have hw : Region.wanted o (yielded ops a.tmps) = true := by simp [Region.wanted, hgd]
  rw [if_pos hw]
  unfold Oper.wp execOp
  cases ao with
  | some b =>
    obtain ⟨v', w', hr, h2, h3⟩ := run_append_arg_grows (P := P) w t o.type e i z size bytes ht hi hz hsize hby hzs hsz b n cap olds hlo (holds b rfl) ad m c news hl hnews hg h63 hbytes
    simp only [ho, resolve, invoke, builtin, Sem.run_bind, Sem.run_pure, Result.andThen_ok, List.map_toArray, List.map_cons, List.map_nil, hs, hx, hr]
    exact h v' w' h2 h3
  | none =>
    obtain ⟨rfl, rfl⟩ := hnone rfl
    obtain rfl : olds = [] := List.eq_nil_of_length_eq_zero (by simpa using hlo)
    obtain ⟨v', w', hr, h2, h3, _⟩ := run_append_own (P := P) w w.heap.size t o.type e i z size bytes ht hi hz hsize hby hzs hsz (.slice none 0 0) 0 [] (World.ownsRow_nil w _ e size) ad m c news hl hnews h1c h63 hbytes (Nat.le_refl _)
    simp only [ho, resolve, invoke, builtin, Sem.run_bind, Sem.run_pure, Result.andThen_ok, List.map_toArray, List.map_cons, List.map_nil, hs, hx, hr]
    exact h v' w' h2 h3
theorem news_drew12 {x : World} {o : Obj} {g : Nat} {L : List Value} (h : ∀ j u, L[j]? = some u → (x.alloc o).cell? ((⟨g, 0, none⟩ : Addr).add j) = some u) : ∀ j u, L[j]? = some u → (x.alloc o).drew.cell? ((⟨g, 0, none⟩ : Addr).add j) = some u := h
theorem below_grown12 {x w : World} {o : Obj} (h : (x.alloc o).drew.grownBy w none) : Below x.heap.size x w :=
  (((Below.refl _ _).alloc (Nat.le_refl _) o).drew).grown h (by show _ ≤ (x.alloc o).heap.size; simp) (fun k hk => by cases hk)
theorem sym12_info : (Tryz.prog.info? 46).map (fun i => (i.zero, i.size, i.bytes)) = some (some (.agg #[.int .u64 0, .string ⟨#[]⟩]), 2, 24) := by kernel_rfl
def addAns (k s c : Int) (xs : List SymR) (x : SymR) : List Int := [whenI (!storeB k s c xs) 1, whenI ((x.2.size : Int) != s) 2, whenI (hasI xs x.1) 8, whenI ((xs.length : Int) == c) 7]
def addE (k s c : Int) (xs : List SymR) (x : SymR) : Int := if storeB k s c xs then whyI s c xs x else 1
theorem addAns_eq (k s c : Int) (xs : List SymR) (x : SymR) : firstI (addAns k s c xs x) = addE k s c xs x := by
  unfold addAns addE whyI
  cases storeB k s c xs <;> cases ((x.2.size : Int) != s) <;> cases hasI xs x.1 <;> cases ((xs.length : Int) == c) <;> rfl
def addFs (g : Nat) : Nat → Nat × Array Value := fun j => [(40, #[Value.pointer (some ⟨g, 0, none⟩)]), (41, #[.pointer (some ⟨g + 1, 0, none⟩), .pointer (some ⟨g, 0, none⟩)]), (42, #[.pointer (some ⟨g, 0, none⟩), .pointer (some ⟨g + 1, 0, none⟩)]), (44, #[.pointer (some ⟨g, 0, none⟩)])].getD j (0, #[])
def addCells (g : Nat) : Array Value := #[.func (.func 40) #[] #[.pointer (some ⟨g, 0, none⟩)], .func (.func 41) #[] #[.pointer (some ⟨g + 1, 0, none⟩), .pointer (some ⟨g, 0, none⟩)], .func (.func 42) #[] #[.pointer (some ⟨g, 0, none⟩), .pointer (some ⟨g + 1, 0, none⟩)], .func (.func 44) #[] #[.pointer (some ⟨g, 0, none⟩)]]
abbrev addW3 (k s c : Int) (A : Option Addr) (l d : Nat) (x : SymR) (w : World) : World :=
  ((w.alloc (.cells #[.int .i64 k, .int .i64 s, .int .i64 c, .slice A l d] 24)).alloc (.cells #[.int .u64 (x.1 : Int), .string x.2] 46)).alloc (.cells #[.int .i64 0, .int .i64 0, .int .i64 0, .slice none 0 0] 24)
abbrev addW (k s c : Int) (A : Option Addr) (l d : Nat) (x : SymR) (w : World) : World :=
  (addW3 k s c A l d x w).alloc (.cells (addCells w.heap.size) 61)
theorem addW_three (k s c : Int) (A : Option Addr) (l d : Nat) (x : SymR) (w : World) :
    Box (addW k s c A l d x w) w.heap.size 24 #[.int .i64 k, .int .i64 s, .int .i64 c, .slice A l d] ∧ Box (addW k s c A l d x w) (w.heap.size + 1) 46 #[.int .u64 (x.1 : Int), .string x.2] ∧ Box (addW k s c A l d x w) (w.heap.size + 2) 24 #[.int .i64 0, .int .i64 0, .int .i64 0, .slice none 0 0] ∧ Box (addW k s c A l d x w) (w.heap.size + 3) 61 (addCells w.heap.size) ∧ Below w.heap.size w (addW k s c A l d x w) := by
  refine ⟨?_, ?_, ?_, ?_, ?_⟩
  · exact (((Box.new w _ _).alloc _).alloc _).alloc _
  · have q := ((Box.new (w.alloc (.cells #[.int .i64 k, .int .i64 s, .int .i64 c, .slice A l d] 24)) 46 #[.int .u64 (x.1 : Int), .string x.2]).alloc (.cells #[.int .i64 0, .int .i64 0, .int .i64 0, .slice none 0 0] 24)).alloc (.cells (addCells w.heap.size) 61)
    simpa only [World.size_alloc] using q
  · have q := (Box.new ((w.alloc (.cells #[.int .i64 k, .int .i64 s, .int .i64 c, .slice A l d] 24)).alloc (.cells #[.int .u64 (x.1 : Int), .string x.2] 46)) 24 #[.int .i64 0, .int .i64 0, .int .i64 0, .slice none 0 0]).alloc (.cells (addCells w.heap.size) 61)
    simpa only [World.size_alloc] using q
  · have q := Box.new (addW3 k s c A l d x w) 61 (addCells w.heap.size)
    simpa only [World.size_alloc] using q
  · exact ((((Below.refl _ _).alloc (Nat.le_refl _) _).alloc (by simp) _).alloc (by simp; omega) _).alloc (by simp; omega) _
theorem addAsked (k s c : Int) (A : Option Addr) (l d : Nat) (xs : List SymR) (x : SymR) (w : World) (hx : Syms w A l xs) (hl : l ≤ d) (hd : d ≤ maxLen) :
    AskedOf Tryz.prog (addW k s c A l d x w) (w.heap.size + 3) 0 (addFs w.heap.size) (addAns k s c xs x) := by
  obtain ⟨Q0, Q1, -, F, b1⟩ := addW_three k s c A l d x w
  have hX := hx.below b1
  have hxl := hx.1
  refine ⟨F.lt, ?_, ?_, ?_⟩
  · intro j hj
    have hj : j < 4 := hj
    rw [Nat.zero_add, F.cell j]
    match j, hj with
    | 0, _ => rfl
    | 1, _ => rfl
    | 2, _ => rfl
    | 3, _ => rfl
  · intro j hj
    have hj : j < 4 := hj
    match j, hj with
    | 0, _ => exact enters_of Tryz.func40 (by kernel_rfl) rfl
    | 1, _ => exact enters_of Tryz.func41 (by kernel_rfl) rfl
    | 2, _ => exact enters_of Tryz.func42 (by kernel_rfl) rfl
    | 3, _ => exact enters_of Tryz.func44 (by kernel_rfl) rfl
  · intro j hj w' hb _
    have hj : j < 4 := hj
    have q := Q0.keep hb
    have q1 := Q1.keep hb
    have hX' := hX.below hb
    match j, hj with
    | 0, _ => exact add1_any k s c A l d w.heap.size w' xs q hX' hl hd
    | 1, _ => exact add2_any k s c A l d w.heap.size (w.heap.size + 1) w' x q q1
    | 2, _ => exact add3_any k s c A l d w.heap.size (w.heap.size + 1) w' xs x q q1 hX' (Nat.le_trans hl hd)
    | 3, _ =>
      rw [← hxl] at q
      exact add4_any k s c A xs.length d w.heap.size w' q
def zI (e v : Int) : Int := if e = 0 then v else 0
theorem addE_ok {k s c : Int} {xs : List SymR} {x : SymR} (h : addE k s c xs x = 0) : storeB k s c xs = true ∧ (x.2.size : Int) = s ∧ hasI xs x.1 = false ∧ (xs.length : Int) < c ∧ c ≤ 64 := by
  unfold addE at h
  split at h
  case isFalse => cases h
  case isTrue hs =>
    unfold whyI at h
    split at h
    case isTrue => cases h
    case isFalse h1 =>
      split at h
      case isTrue => cases h
      case isFalse h2 =>
        split at h
        case isTrue => cases h
        case isFalse h3 =>
          have h4 := hs
          unfold storeB kB at h4
          simp only [Bool.and_eq_true, decide_eq_true_eq] at h4
          simp at h1 h2 h3
          exact ⟨hs, h1, by simpa using h2, by omega, h4.1.1.1.2.2⟩
set_option maxHeartbeats 2000000 in
theorem eadd_no (k s c : Int) (A : Option Addr) (l d : Nat) (xs : List SymR) (x : SymR) (w : World) (hx : Syms w A l xs) (hl : l ≤ d) (hd : d ≤ maxLen) (he : addE k s c xs x ≠ 0) :
    Calls Tryz.prog 22 #[.agg #[.int .i64 k, .int .i64 s, .int .i64 c, .slice A l d], .agg #[.int .u64 (x.1 : Int), .string x.2]] w (StoreOut 0 0 0 [] (addE k s c xs x) w) := by
  obtain ⟨Q0, Q1, Q2, F, b1⟩ := addW_three k s c A l d x w
  have HC := Lib.hid (efirst_any (w.heap.size + 3) 0 4 (addFs w.heap.size) (addAns k s c xs x) _ (by show 4 ≤ 100; omega) (addAsked k s c A l d xs x w hx hl hd))
  rw [addAns_eq, show (addAns k s c xs x).length = 4 from rfl] at HC
  have HB := Lib.hid b1
  have HQ2 := Lib.hid Q2
  generalize addE k s c xs x = er at *
  have t1 : (er != 0) = true := by simpa using he
  clear hx b1 Q0 Q1 Q2 F he
  go_enter Tryz.func22, Tryz.ntmps22
  go_wp2_with fail
  refine HC.out.mono ?_
  rintro e w1 ⟨rfl, hb⟩
  replace HB := Lib.hid (chain HB.out hb)
  replace HQ2 := Lib.hid (HQ2.out.keep hb)
  clear hb HC
  obtain ⟨s0, s1, s2, s3, f0, f1, f2, f3⟩ := HQ2.out.four
  go_wp2_with fail
  refine close_cell Tryz.results22 rfl rfl rfl HQ2.out.put4 Tryz.underlying24 rfl (by kernel_rfl) ⟨none, 0, rfl, Recs.nil _ _, Nat.le_refl _, Nat.zero_le _, fun _ => rfl, below_set4 HB.out (by omega) _ _ _ _⟩
theorem own_cap {w : World} {base e size n c : Nat} {A : Option Addr} {xs : List Value} (h : w.ownsRow base e size (.slice A n c) n xs) : n ≤ c ∧ c ≤ maxLen ∧ (A = none → c = 0) ∧ (∀ b, A = some b → base ≤ b.block) := by
  rcases h.2 with ⟨hv, h0⟩ | ⟨g, cap, cur, hv, hb, hh, hn, hm, -⟩
  · injection hv with h1 h2 h3
    subst h1 h3 h0
    exact ⟨Nat.le_refl _, Nat.zero_le _, fun _ => rfl, fun b hb => by cases hb⟩
  · injection hv with h1 h2 h3
    subst h1 h3
    exact ⟨hn, hm, fun h => (by cases h), fun b hb2 => by injection hb2 with hb2; subst hb2; exact hb⟩
theorem add_own {x w5 : World} {o : Obj} {g n c5 : Nat} {A5 : Option Addr} {xs : List SymR} {y : SymR} {e : TypeId} (h : w5.ownsRow (x.alloc o).drew.heap.size e 2 (.slice A5 n c5) n (xs.flatMap encS ++ encS y)) (hg : g + 4 ≤ x.heap.size) :
    Syms w5 A5 n (xs ++ [y]) ∧ n ≤ c5 ∧ c5 ≤ maxLen ∧ (A5 = none → c5 = 0) ∧ ∀ b off, A5 = some ⟨b, off, none⟩ → g + 4 ≤ b := by
  obtain ⟨h1, h2, h3, h4⟩ := own_cap h
  rw [← flat_snoc] at h
  refine ⟨own_recs encS_len h (by omega), h1, h2, h3, fun b off hb => ?_⟩
  have := h4 _ hb
  have e1 : (x.alloc o).drew.heap.size = x.heap.size + 1 := by show (x.alloc o).heap.size = _; simp
  rw [e1] at this
  have : x.heap.size + 1 ≤ b := this
  omega
theorem add_close {w w6 : World} {g n c5 : Nat} {A5 : Option Addr} {k s c : Int} {zs : List SymR} {u0 u1 u2 u3 : Value} (hg : w.heap.size = g) (hb : Below g w w6) (hs : Syms w6 A5 n zs) (h1 : n ≤ c5) (h2 : c5 ≤ maxLen) (h3 : A5 = none → c5 = 0) (h4 : ∀ b off, A5 = some ⟨b, off, none⟩ → g + 4 ≤ b) (hz : zs.length = n) :
    StoreOut k s c zs 0 w (.returned (.tuple #[.agg #[.int .i64 k, .int .i64 s, .int .i64 c, .slice A5 n c5], .int .i64 0])) ((((w6.setCell ⟨g + 2, 0, none⟩ u0).setCell ⟨g + 2, 1, none⟩ u1).setCell ⟨g + 2, 2, none⟩ u2).setCell ⟨g + 2, 3, none⟩ u3) := by
  subst hz
  subst hg
  refine ⟨A5, c5, rfl, Recs.far4 hs (fun b off hb _ => by have := h4 b off hb; omega) _ _ _ _, h1, h2, h3, below_set4 hb (by omega) _ _ _ _⟩
set_option maxHeartbeats 4000000 in
theorem eadd_yes (k s c : Int) (A : Option Addr) (l d : Nat) (xs : List SymR) (x : SymR) (w : World) (hx : Syms w A l xs) (hl : l ≤ d) (hd : d ≤ maxLen) (hn : A = none → d = 0) (he : addE k s c xs x = 0) :
    Calls Tryz.prog 22 #[.agg #[.int .i64 k, .int .i64 s, .int .i64 c, .slice A l d], .agg #[.int .u64 (x.1 : Int), .string x.2]] w (StoreOut k s c (xs ++ [x]) 0 w) := by
  obtain ⟨Q0, Q1, Q2, F, b1⟩ := addW_three k s c A l d x w
  have HC := Lib.hid (efirst_any (w.heap.size + 3) 0 4 (addFs w.heap.size) (addAns k s c xs x) _ (by show 4 ≤ 100; omega) (addAsked k s c A l d xs x w hx hl hd))
  rw [addAns_eq, show (addAns k s c xs x).length = 4 from rfl, he] at HC
  obtain ⟨-, -, -, hlc, hc64⟩ := addE_ok he
  rw [hx.1] at hlc
  have HL := Lib.hid hx.1
  have hl64 : l < 64 := by omega
  have HB := Lib.hid b1
  have HQ0 := Lib.hid Q0
  have HQ1 := Lib.hid Q1
  have HQ2 := Lib.hid Q2
  have HX := Lib.hid (hx.below b1)
  obtain ⟨i0, hi, hz0, hz1, hz2⟩ := info_parts sym12_info
  have HI := Lib.hid hi
  have HZ0 := Lib.hid hz0
  have HZ1 := Lib.hid hz1
  have HZ2 := Lib.hid hz2
  have hld : (l : Int) ≤ (d : Int) := by omega
  have hl0 : (0 : Int) ≤ (l : Int) := by omega
  have LO := Lib.hid (show (xs.flatMap encS).length = l * 2 by rw [flat_len encS_len, HL.out])
  have LN := Lib.hid (show (encS x).length = 1 * 2 from rfl)
  have a1 : l < l + 1 := by omega
  have a2 : l + 1 ≤ maxLen := by unfold maxLen; omega
  have a3 : (l + 1) * 24 ≤ 140737488355328 := by omega
  have HA0 := Lib.hid (show A = none → l = 0 ∧ l = 0 from fun h => by have := hn h; omega)
  have HAd := Lib.hid (show ∀ ad : Addr, ad.add 0 = ad from fun ad => by unfold Addr.add; simp)
  clear hx b1 Q0 Q1 Q2 F he hi hz0 hz1 hz2 hd hc64 hlc
  go_enter Tryz.func22, Tryz.ntmps22
  go_wp2_with fail
  refine HC.out.mono ?_
  rintro e w1 ⟨rfl, hb⟩
  have HSZ := Lib.hid (show w.heap.size + 4 ≤ w1.heap.size by have := hb.size; simpa using this)
  replace HB := Lib.hid (chain HB.out hb)
  replace HQ0 := Lib.hid (HQ0.out.keep hb)
  replace HQ1 := Lib.hid (HQ1.out.keep hb)
  replace HQ2 := Lib.hid (HQ2.out.keep hb)
  replace HX := Lib.hid (HX.out.below hb)
  clear hb HC
  obtain ⟨r0, r1, r2, r3, e0, e1, e2, e3⟩ := HQ0.out.four
  obtain ⟨z0, z1, -, -⟩ := HQ1.out.two
  go_wp2_with fail
  have LH := Lib.hid ((HX.out.alloc (.cells #[.int .u64 (x.1 : Int), .string x.2] 46)).drew.news encS_len (by omega))
  have NH := Lib.hid (news_drew12 (World.news_of_block (Box.new w1 46 #[.int .u64 (x.1 : Int), .string x.2])))
  have NE := Lib.hid (encS_one x)
  obtain ⟨-, -, -, q3, -, -, -, -⟩ := (HQ0.out.alloc (.cells #[.int .u64 (x.1 : Int), .string x.2] 46)).four
  cases A with
  | none =>
    obtain ⟨hl1, -⟩ := HA0.out rfl
    subst hl1
    go_region_law (first
      | (refine step_growsO rfl (.tmp 25) (.tmp 27) 22 rfl 46 i0 (.agg #[.int .u64 0, .string ⟨#[]⟩]) 2 24 Tryz.underlying22 HI.out HZ0.out HZ1.out HZ2.out rfl (by decide) none 0 0 (xs.flatMap encS) ?_ HA0.out LO.out LH.out ⟨w1.heap.size, 0, none⟩ 1 1 (encS x) ?_ LN.out NH.out NE.out a1 a2 a3 ?_; simp [Act.eval, Act.put]; simp [Act.eval, Act.put]; intro v5 w5 hown hgrow; obtain ⟨A5, c5, rfl, -⟩ := own_form hown; have hb5 := below_grown12 hgrow; have HB5 := Lib.hid (chain HB.out hb5); have P0 := Lib.hid (HQ0.out.keep hb5); have P2 := Lib.hid (HQ2.out.keep hb5); have HO := Lib.hid (add_own hown HSZ.out); clear hown hgrow hb5; obtain ⟨y0, y1, y2, y3, f0, f1, f2, f3⟩ := P0.out.four))
    all_goals
      have HB6 := Lib.hid (HB5.out.setCell (p := ⟨w.heap.size, 3, none⟩) (Nat.le_refl _) (.slice A5 (1) c5))
      have HS6 := Lib.hid (Recs.farB HO.out.1 (g := w.heap.size) (fun b off hb _ => by have := HO.out.2.2.2.2 b off hb; omega) 3 (.slice A5 (1) c5))
      have P0 := Lib.hid (show Box (w5.setCell ⟨w.heap.size, 3, none⟩ (.slice A5 (1) c5)) w.heap.size 24 #[.int .i64 k, .int .i64 s, .int .i64 c, .slice A5 (1) c5] from P0.out.put 3 (.slice A5 (1) c5))
      have P2 := Lib.hid (P2.out.far (p := ⟨w.heap.size, 3, none⟩) (by simp) (.slice A5 (1) c5))
      clear y0 y1 y2 y3 f0 f1 f2 f3 r0 r1 r2 r3 e0 e1 e2 e3 q3
      generalize w5.setCell ⟨w.heap.size, 3, none⟩ (.slice A5 (1) c5) = w6 at *
      obtain ⟨r0, r1, r2, r3, -, -, -, -⟩ := P0.out.four
      obtain ⟨s0, s1, s2, s3, f0, f1, f2, f3⟩ := P2.out.four
      go_wp2_with fail
      refine close_cell Tryz.results22 rfl rfl rfl P2.out.put4 Tryz.underlying24 rfl (by kernel_rfl) (add_close rfl HB6.out HS6.out HO.out.2.1 HO.out.2.2.1 HO.out.2.2.2.1 HO.out.2.2.2.2 (by rw [List.length_append, HL.out]; rfl))
  | some ad =>
    go_region_law (first
      | (refine step_growsO rfl (.tmp 25) (.tmp 27) 22 rfl 46 i0 (.agg #[.int .u64 0, .string ⟨#[]⟩]) 2 24 Tryz.underlying22 HI.out HZ0.out HZ1.out HZ2.out rfl (by decide) (some ad) l l (xs.flatMap encS) ?_ HA0.out LO.out LH.out ⟨w1.heap.size, 0, none⟩ 1 1 (encS x) ?_ LN.out NH.out NE.out a1 a2 a3 ?_; simp [Act.eval, Act.put]; simp [Act.eval, Act.put]; intro v5 w5 hown hgrow; obtain ⟨A5, c5, rfl, -⟩ := own_form hown; have hb5 := below_grown12 hgrow; have HB5 := Lib.hid (chain HB.out hb5); have P0 := Lib.hid (HQ0.out.keep hb5); have P2 := Lib.hid (HQ2.out.keep hb5); have HO := Lib.hid (add_own hown HSZ.out); clear hown hgrow hb5; obtain ⟨y0, y1, y2, y3, f0, f1, f2, f3⟩ := P0.out.four))
    all_goals
      have HB6 := Lib.hid (HB5.out.setCell (p := ⟨w.heap.size, 3, none⟩) (Nat.le_refl _) (.slice A5 (l + 1) c5))
      have HS6 := Lib.hid (Recs.farB HO.out.1 (g := w.heap.size) (fun b off hb _ => by have := HO.out.2.2.2.2 b off hb; omega) 3 (.slice A5 (l + 1) c5))
      have P0 := Lib.hid (show Box (w5.setCell ⟨w.heap.size, 3, none⟩ (.slice A5 (l + 1) c5)) w.heap.size 24 #[.int .i64 k, .int .i64 s, .int .i64 c, .slice A5 (l + 1) c5] from P0.out.put 3 (.slice A5 (l + 1) c5))
      have P2 := Lib.hid (P2.out.far (p := ⟨w.heap.size, 3, none⟩) (by simp) (.slice A5 (l + 1) c5))
      clear y0 y1 y2 y3 f0 f1 f2 f3 r0 r1 r2 r3 e0 e1 e2 e3 q3
      generalize w5.setCell ⟨w.heap.size, 3, none⟩ (.slice A5 (l + 1) c5) = w6 at *
      obtain ⟨r0, r1, r2, r3, -, -, -, -⟩ := P0.out.four
      obtain ⟨s0, s1, s2, s3, f0, f1, f2, f3⟩ := P2.out.four
      go_wp2_with fail
      refine close_cell Tryz.results22 rfl rfl rfl P2.out.put4 Tryz.underlying24 rfl (by kernel_rfl) (add_close rfl HB6.out HS6.out HO.out.2.1 HO.out.2.2.1 HO.out.2.2.2.1 HO.out.2.2.2.2 (by rw [List.length_append, HL.out]; rfl))
end
section
/- Contracts of layer 12: the reference's Add, Bytes. -/
set_option linter.unusedVariables false
set_option linter.unusedSimpArgs false
open Go.RowKit
set_option maxRecDepth 100000
theorem Syms.news1 {w : World} {A : Option Addr} {l : Nat} {xs : List SymR} (h : Syms w A l xs) : ∀ ad, A = some ad → ∀ j u, (xs.flatMap encS)[j]? = some u → w.cell? (ad.add j) = some u := Recs.news h encS_len (by omega)
/-- A store is returned. -/
def StoreOne (k s c : Int) (xs : List SymR) (w : World) (e : Ending) (w' : World) : Prop :=
  ∃ A d, e = .returned (.agg #[.int .i64 k, .int .i64 s, .int .i64 c, .slice A xs.length d]) ∧ Syms w' A xs.length xs ∧ xs.length ≤ d ∧ d ≤ maxLen ∧ (A = none → d = 0) ∧ (∀ b off, A = some ⟨b, off, none⟩ → w.heap.size ≤ b) ∧ Below w.heap.size w w'
abbrev raW (k s c : Int) (A : Option Addr) (l d : Nat) (x : SymR) (w : World) : World :=
  (addW3 k s c A l d x w).alloc (.cells #[.int .i64 k, .int .i64 s, .int .i64 c, .slice none 0 0] 24)
theorem raW_four (k s c : Int) (A : Option Addr) (l d : Nat) (x : SymR) (w : World) :
    Box (raW k s c A l d x w) w.heap.size 24 #[.int .i64 k, .int .i64 s, .int .i64 c, .slice A l d] ∧ Box (raW k s c A l d x w) (w.heap.size + 1) 46 #[.int .u64 (x.1 : Int), .string x.2] ∧ Box (raW k s c A l d x w) (w.heap.size + 2) 24 #[.int .i64 0, .int .i64 0, .int .i64 0, .slice none 0 0] ∧ Box (raW k s c A l d x w) (w.heap.size + 3) 24 #[.int .i64 k, .int .i64 s, .int .i64 c, .slice none 0 0] ∧ Below w.heap.size w (raW k s c A l d x w) := by
  refine ⟨?_, ?_, ?_, ?_, ?_⟩
  · exact (((Box.new w _ _).alloc _).alloc _).alloc _
  · have q := ((Box.new (w.alloc (.cells #[.int .i64 k, .int .i64 s, .int .i64 c, .slice A l d] 24)) 46 #[.int .u64 (x.1 : Int), .string x.2]).alloc (.cells #[.int .i64 0, .int .i64 0, .int .i64 0, .slice none 0 0] 24)).alloc (.cells #[.int .i64 k, .int .i64 s, .int .i64 c, .slice none 0 0] 24)
    simpa only [World.size_alloc] using q
  · have q := (Box.new ((w.alloc (.cells #[.int .i64 k, .int .i64 s, .int .i64 c, .slice A l d] 24)).alloc (.cells #[.int .u64 (x.1 : Int), .string x.2] 46)) 24 #[.int .i64 0, .int .i64 0, .int .i64 0, .slice none 0 0]).alloc (.cells #[.int .i64 k, .int .i64 s, .int .i64 c, .slice none 0 0] 24)
    simpa only [World.size_alloc] using q
  · have q := Box.new (addW3 k s c A l d x w) 24 #[.int .i64 k, .int .i64 s, .int .i64 c, .slice none 0 0]
    simpa only [World.size_alloc] using q
  · exact ((((Below.refl _ _).alloc (Nat.le_refl _) _).alloc (by simp) _).alloc (by simp; omega) _).alloc (by simp; omega) _
theorem raW_size (k s c : Int) (A : Option Addr) (l d : Nat) (x : SymR) (w : World) : (raW k s c A l d x w).heap.size = w.heap.size + 4 := by simp
theorem own_row_ne {w : World} {base e size n g : Nat} {v : Value} {xs : List Value} (h : w.ownsRow base e size v n xs) (hg : g < base) : v.ownBlock ≠ some g := fun e => absurd (h.lt g e).1 (by omega)
theorem own_row_le {w : World} {base e size n : Nat} {v : Value} {xs : List Value} (h : w.ownsRow (base + 4) e size v n xs) : ∀ k, v.ownBlock = some k → base ≤ k := fun k hk => by have := (h.lt k hk).1; omega
theorem own_out {w5 : World} {g n c5 : Nat} {A5 : Option Addr} {xs : List SymR} {y : SymR} {e : TypeId} (h : w5.ownsRow (g + 4) e 2 (.slice A5 n c5) n (xs.flatMap encS ++ encS y)) :
    Syms w5 A5 n (xs ++ [y]) ∧ n ≤ c5 ∧ c5 ≤ maxLen ∧ (A5 = none → c5 = 0) ∧ ∀ b off, A5 = some ⟨b, off, none⟩ → g + 4 ≤ b := by
  obtain ⟨h1, h2, h3, h4⟩ := own_cap h
  rw [← flat_snoc] at h
  exact ⟨own_recs encS_len h (by omega), h1, h2, h3, fun b off hb => h4 _ hb⟩
theorem second_append {w w5 : World} {A5 : Option Addr} {l c5 : Nat} {cs1 cs2 cs3 : Array Value} {T1 T2 T3 e : TypeId} {xs : List SymR} {x : SymR} (hz : w.heap.size + 4 ≤ w5.heap.size) (hb : Below w.heap.size w w5) (p1 : Box w5 (w.heap.size + 1) T1 cs1) (p2 : Box w5 (w.heap.size + 2) T2 cs2) (p3 : Box w5 (w.heap.size + 3) T3 cs3)
    (ho : w5.ownsRow (w.heap.size + 4) e 2 (.slice A5 l c5) l (xs.flatMap encS)) (hne : e ≠ T3) :
    ((w5.setCell ⟨w.heap.size + 3, 3, none⟩ (.slice A5 l c5)).alloc (.cells #[.int .u64 (x.1 : Int), .string x.2] 46)).ownsRow (w.heap.size + 4) e 2 (.slice A5 l c5) l (xs.flatMap encS) ∧
    (∀ j u, (encS x)[j]? = some u → ((w5.setCell ⟨w.heap.size + 3, 3, none⟩ (.slice A5 l c5)).alloc (.cells #[.int .u64 (x.1 : Int), .string x.2] 46)).cell? ((⟨w5.heap.size, 0, none⟩ : Addr).add j) = some u) ∧
    w.heap.size + 4 ≤ ((w5.setCell ⟨w.heap.size + 3, 3, none⟩ (.slice A5 l c5)).alloc (.cells #[.int .u64 (x.1 : Int), .string x.2] 46)).heap.size ∧
    Box ((w5.setCell ⟨w.heap.size + 3, 3, none⟩ (.slice A5 l c5)).alloc (.cells #[.int .u64 (x.1 : Int), .string x.2] 46)) (w.heap.size + 2) T2 cs2 ∧
    Box ((w5.setCell ⟨w.heap.size + 3, 3, none⟩ (.slice A5 l c5)).alloc (.cells #[.int .u64 (x.1 : Int), .string x.2] 46)) (w.heap.size + 3) T3 (cs3.setIfInBounds 3 (.slice A5 l c5)) ∧
    Below w.heap.size w ((w5.setCell ⟨w.heap.size + 3, 3, none⟩ (.slice A5 l c5)).alloc (.cells #[.int .u64 (x.1 : Int), .string x.2] 46)) := by
  have e1 : (w5.setCell ⟨w.heap.size + 3, 3, none⟩ (.slice A5 l c5)).heap.size = w5.heap.size := by simp [World.setCell]
  refine ⟨World.ownsRow.alloc (own_far ho p3 hne 3 _) _, ?_, ?_, (p2.far (p := ⟨w.heap.size + 3, 3, none⟩) (by simp) _).alloc _, (p3.put 3 _).alloc _, ?_⟩
  · have := World.news_of_block (Box.new (w5.setCell ⟨w.heap.size + 3, 3, none⟩ (.slice A5 l c5)) 46 #[.int .u64 (x.1 : Int), .string x.2])
    rw [e1] at this
    exact this
  · rw [World.size_alloc, e1]; omega
  · refine (hb.setCell (p := ⟨w.heap.size + 3, 3, none⟩) (by show w.heap.size ≤ w.heap.size + 3; omega) _).alloc ?_ _
    rw [e1]; omega
theorem add_close1 {w w7 : World} {l c7 : Nat} {A7 : Option Addr} {k s c : Int} {xs : List SymR} {x : SymR} {u0 u1 u2 u3 u : Value} (hb : Below w.heap.size w w7) (h : Syms w7 A7 (l + 1) (xs ++ [x]) ∧ l + 1 ≤ c7 ∧ c7 ≤ maxLen ∧ (A7 = none → c7 = 0) ∧ ∀ b off, A7 = some ⟨b, off, none⟩ → w.heap.size + 4 ≤ b) (hl : xs.length = l) :
    StoreOne k s c (xs ++ [x]) w (.returned (.agg #[.int .i64 k, .int .i64 s, .int .i64 c, .slice A7 (l + 1) c7])) (((((w7.setCell ⟨w.heap.size + 3, 3, none⟩ u).setCell ⟨w.heap.size + 2, 0, none⟩ u0).setCell ⟨w.heap.size + 2, 1, none⟩ u1).setCell ⟨w.heap.size + 2, 2, none⟩ u2).setCell ⟨w.heap.size + 2, 3, none⟩ u3) := by
  have e : (xs ++ [x]).length = l + 1 := by rw [List.length_append, hl]; rfl
  unfold StoreOne
  rw [e]
  refine ⟨A7, c7, rfl, Recs.far4 (Recs.farB h.1 (fun b off hb _ => ?_) _ _) (fun b off hb _ => ?_) _ _ _ _, h.2.1, h.2.2.1, h.2.2.2.1, fun b off hb => by (have := h.2.2.2.2 b off hb; omega), below_set4 (hb.setCell (p := ⟨w.heap.size + 3, 3, none⟩) (by show w.heap.size ≤ w.heap.size + 3; omega) _) (by omega) _ _ _ _⟩
  · have := h.2.2.2.2 b off hb; omega
  · have := h.2.2.2.2 b off hb; omega
end
section
/- Law 12: few, alive. -/
set_option linter.unusedVariables false
set_option linter.unusedSimpArgs false
open Go.RowKit
set_option maxRecDepth 100000
def cutX (s : ByteArray) : ByteArray := s.extract 0 (min s.size 66)
theorem cutX_size (s : ByteArray) : (cutX s).size ≤ 66 := by simp [cutX, ByteArray.size_extract]; omega
theorem cutX_min (s : ByteArray) (m : Nat) (hm : (m : Int) = min (s.size : Int) 66) : s.extract 0 m = cutX s := by
  unfold cutX
  congr 1
  omega
def cutP (x : SymR) : SymR := (x.1, cutX x.2)
def fewS (xs : List SymR) (k : Nat) : List SymR := (xs.take k).map cutP
theorem fewS_succ (xs : List SymR) (k : Nat) (h : k < xs.length) : fewS xs (k + 1) = fewS xs k ++ [((xs.getD k default).1, cutX (xs.getD k default).2)] := by
  unfold fewS
  rw [take_snocD xs k h, List.map_append]; rfl
theorem fewS_len (xs : List SymR) (k : Nat) : (fewS xs k).length = min k xs.length := by simp [fewS]
theorem fewS_all (xs : List SymR) (k : Nat) (h : xs.length = k) (h2 : k ≤ 66) : fewS xs k = fewS xs 66 := by
  unfold fewS
  rw [List.take_of_length_le (by omega), List.take_of_length_le (by omega)]
theorem fewS_id (xs : List SymR) (h : ∀ j, (xs.getD j default).1 < 18446744073709551616) (k : Nat) : ∀ j, ((fewS xs k).getD j default).1 < 18446744073709551616 := fun j => by
  unfold fewS
  by_cases hj : j < (xs.take k).length
  · have e : ((xs.take k).map cutP).getD j default = cutP ((xs.take k).getD j default) := by simp only [List.getD, List.getElem?_map, List.getElem?_eq_getElem hj]; rfl
    rw [e]
    have e2 : (xs.take k).getD j default = xs.getD j default := by
      rw [List.length_take] at hj
      simp only [List.getD, List.getElem?_take_of_lt (show j < k by omega)]
    rw [e2]; exact h j
  · have e : ((xs.take k).map cutP).getD j default = default := by
      simp only [List.getD]
      rw [List.getElem?_eq_none (by rw [List.length_map]; omega)]; rfl
    rw [e]; decide
abbrev fewW (k s c : Int) (A : Option Addr) (l d : Nat) (w : World) : World :=
  (w.alloc (.cells #[.int .i64 k, .int .i64 s, .int .i64 c, .slice A l d] 24)).alloc (.cells #[.int .i64 0, .int .i64 0, .int .i64 0, .slice none 0 0] 24)
theorem fewW_two (k s c : Int) (A : Option Addr) (l d : Nat) (w : World) :
    Box (fewW k s c A l d w) w.heap.size 24 #[.int .i64 k, .int .i64 s, .int .i64 c, .slice A l d] ∧ Box (fewW k s c A l d w) (w.heap.size + 1) 24 #[.int .i64 0, .int .i64 0, .int .i64 0, .slice none 0 0] ∧ Below w.heap.size w (fewW k s c A l d w) ∧ (fewW k s c A l d w).heap.size = w.heap.size + 2 := by
  refine ⟨(Box.new w _ _).alloc _, ?_, ((Below.refl _ _).alloc (Nat.le_refl _) _).alloc (by simp) _, by simp⟩
  have q := Box.new (w.alloc (.cells #[.int .i64 k, .int .i64 s, .int .i64 c, .slice A l d] 24)) 24 #[.int .i64 0, .int .i64 0, .int .i64 0, .slice none 0 0]
  simpa only [World.size_alloc] using q
theorem few_close {w wr : World} {k s c : Int} {zs : List SymR} {v : Value} {n : Nat} {A7 : Option Addr} {c7 : Nat} {e : TypeId} {u u0 u1 u2 u3 : Value} (hb : Below w.heap.size w wr) (hv : v = .slice A7 n c7) (ho : wr.ownsRow (w.heap.size + 2) e 2 v n (zs.flatMap encS)) (hl : zs.length = n) :
    StoreOne k s c zs w (.returned (.agg #[.int .i64 k, .int .i64 s, .int .i64 c, .slice A7 n c7])) (((((wr.setCell ⟨w.heap.size, 3, none⟩ u).setCell ⟨w.heap.size + 1, 0, none⟩ u0).setCell ⟨w.heap.size + 1, 1, none⟩ u1).setCell ⟨w.heap.size + 1, 2, none⟩ u2).setCell ⟨w.heap.size + 1, 3, none⟩ u3) := by
  subst hv
  subst hl
  obtain ⟨h1, h2, h3, h4⟩ := own_cap ho
  refine ⟨A7, c7, rfl, Recs.far4 (Recs.farB (own_recs encS_len ho (by omega)) (fun b off hb _ => ?_) _ _) (fun b off hb _ => ?_) _ _ _ _, h1, h2, h3, fun b off hb => ?_, below_set4 (hb.setCell (p := ⟨w.heap.size, 3, none⟩) (Nat.le_refl _) _) (by omega) _ _ _ _⟩
  · have h5 : w.heap.size + 2 ≤ b := h4 _ hb
    omega
  · have h5 : w.heap.size + 2 ≤ b := h4 _ hb
    omega
  · have h5 : w.heap.size + 2 ≤ b := h4 _ hb
    omega
theorem cutX_id (s : ByteArray) (h : s.size ≤ 66) : s = cutX s := by
  have := cutX_min s s.size (by omega)
  rw [← this, ByteArray.extract_zero_size]
theorem cut_world {wr W2 : World} {B : Nat} (hb : Below B W2 wr) (hB : B ≤ wr.heap.size) (a : Int) (t : ByteArray) :
    Below wr.heap.size wr ((wr.alloc (.cells #[.int .u64 a, .string t] 46)).alloc (.cells #[.int .u64 a, .string t] 46)) ∧
    (∀ j u, ([Value.int .u64 a, Value.string t])[j]? = some u → ((wr.alloc (.cells #[.int .u64 a, .string t] 46)).alloc (.cells #[.int .u64 a, .string t] 46)).cell? ((⟨wr.heap.size + 1, 0, none⟩ : Addr).add j) = some u) ∧
    B ≤ ((wr.alloc (.cells #[.int .u64 a, .string t] 46)).alloc (.cells #[.int .u64 a, .string t] 46)).heap.size := by
  have e1 : (wr.alloc (.cells #[.int .u64 a, .string t] 46)).heap.size = wr.heap.size + 1 := by simp
  refine ⟨((Below.refl _ _).alloc (Nat.le_refl _) _).alloc (by rw [e1]; omega) _, ?_, ?_⟩
  · have := World.news_of_block (Box.new (wr.alloc (.cells #[.int .u64 a, .string t] 46)) 46 #[.int .u64 a, .string t])
    rw [e1] at this
    exact this
  · rw [World.size_alloc, e1]; omega
set_option maxHeartbeats 4000000 in
theorem few12_short (k s c : Int) (ad : Addr) (l d : Nat) (xs : List SymR) (w : World) (hx : Syms w (some ad) l xs) (hk : l ≤ 66) (hl : l ≤ d) (hd : d ≤ maxLen) (hd0 : ¬ d = 0) :
    Calls Tryz.prog 4 #[.agg #[.int .i64 k, .int .i64 s, .int .i64 c, .slice (some ad) l d]] w (StoreOne k s c (fewS xs l) w) := by
  obtain ⟨i0, hi, hz0, hz1, hz2⟩ := info_parts sym12_info
  have HI := Lib.hid hi
  have HZ0 := Lib.hid hz0
  have HZ1 := Lib.hid hz1
  have HZ2 := Lib.hid hz2
  obtain ⟨Q0, Q1, b1, sz⟩ := fewW_two k s c (some ad) l d w
  have HQ0 := Lib.hid Q0
  have HQ1 := Lib.hid Q1
  have HX := Lib.hid (hx.below b1)
  have HXl := Lib.hid hx.1
  have HB0 := Lib.hid b1
  have SZ := Lib.hid sz
  have HOW := Lib.hid (World.ownsRow_nil (fewW k s c (some ad) l d w) (w.heap.size + 2) 46 2)
  unfold maxLen at hd
  have hkk1 : l ≤ l := by omega
  have hkk2 : l ≤ 66 := by omega
  have hkk3 : l ≤ d := by omega
  have mkk : (l : Int) ≤ 66 := by omega
  obtain ⟨r0, r1, r2, r3, -, -, -, -⟩ := Q0.four
  clear hi hz0 hz1 hz2 hx b1 sz Q0 Q1
  go_enter Tryz.func4, Tryz.ntmps4
  go_wp2_with fail
  clear r0 r1 r2 r3
  go_loopw [3, 14] (fun v t wr => ∃ i : Nat, i ≤ l ∧ t = .int .i64 i ∧ wr.ownsRow (w.heap.size + 2) 46 2 v i ((fewS xs i).flatMap encS) ∧ Below (w.heap.size + 2) (fewW k s c (some ad) l d w) wr) (fun _ t _ => l - (intOf t).toNat)
  case atStart => exact ⟨0, Nat.zero_le _, rfl, HOW.out, Below.refl _ _⟩
  case round =>
    obtain ⟨i, hi, rfl, hown, hbel⟩ := hrel
    have HO := Lib.hid hown
    have HB := Lib.hid hbel
    have SZr := Lib.hid (show w.heap.size + 2 ≤ wr.heap.size from by have := hbel.size; rw [SZ.out] at this; exact this)
    clear hown hbel HOW
    by_cases hlt : i < l
    · have hlt' : (i : Int) < (l : Int) := Int.ofNat_lt.2 hlt
      obtain ⟨b, off, hA, hb, x0, x1⟩ := Syms.two HX.out i (by omega)
      obtain rfl := Option.some.inj hA
      rw [SZ.out] at hb
      have x0 := (HB.out.cell (p := ⟨b, off + i * 2, none⟩) hb).trans x0
      have x1 := (HB.out.cell (p := ⟨b, off + i * 2 + 1, none⟩) hb).trans x1
      have HS := Lib.hid (fewS_succ xs i (by rw [HXl.out]; omega))
      generalize xs.getD i default = p at *
      obtain ⟨p0, p1⟩ := p
      dsimp only at x0 x1 HS
      by_cases hm : p1.size ≤ 66
      · have hm1 : (p1.size : Int) ≤ 66 := by omega
        have HE := Lib.hid (cutX_id p1 hm)
        have G := Lib.hid (Box.new wr 46 #[.int .u64 (p0 : Nat), .string p1])
        have HW := Lib.hid (cut_world HB.out SZr.out (p0 : Nat) p1)
        have XO := Lib.hid (own_keep HO.out HW.out.1)
        have XB := Lib.hid (HB.out.trans (HW.out.1.mono SZr.out))
        have N2 := Lib.hid (fun g hg => (HO.out.lt g hg).1)
        obtain ⟨g0, g1, f0, f1⟩ := G.out.two
        clear G
        go_wp2_with (at_builtin; refine wpList_append_own _ rfl _ _ 22 rfl (w.heap.size + 2) 46 i0 (.agg #[.int .u64 0, .string ⟨#[]⟩]) 2 24 Tryz.underlying22 HI.out HZ0.out HZ1.out HZ2.out rfl (by decide) _ _ _ rfl XO.out ⟨wr.heap.size + 1, 0, none⟩ 1 1 [.int .u64 (p0 : Nat), .string p1] rfl rfl HW.out.2.1 (by simp [Value.oneCell']) (by simp [maxLen]; omega) (by omega) HW.out.2.2 ?_; intro v' w1 hown' hgrow _; have HC := Lib.hid (XB.out.grown hgrow (Nat.le_trans SZr.out HW.out.1.size) N2.out); have HO2 := Lib.hid hown'; clear hown' hgrow)
        go_roundw
        case rel =>
          refine ⟨i + 1, hlt, by go_num, ?_, HC.out⟩
          rw [HS.out, flat_snoc, ← HE.out]
          exact HO2.out
        case measure => simp [intOf] <;> omega
      · have hm1 : (66 : Int) < p1.size := by omega
        have hm2 : 66 ≤ p1.size := by omega
        have HE := Lib.hid (cutX_min p1 66 (by omega))
        have G := Lib.hid (Box.new wr 46 #[.int .u64 (p0 : Nat), .string p1])
        have HW := Lib.hid (cut_world HB.out SZr.out (p0 : Nat) (p1.extract 0 66))
        have XO := Lib.hid (own_keep HO.out HW.out.1)
        have XB := Lib.hid (HB.out.trans (HW.out.1.mono SZr.out))
        have N2 := Lib.hid (fun g hg => (HO.out.lt g hg).1)
        obtain ⟨g0, g1, f0, f1⟩ := G.out.two
        clear G
        go_wp2_with (at_builtin; refine wpList_append_own _ rfl _ _ 22 rfl (w.heap.size + 2) 46 i0 (.agg #[.int .u64 0, .string ⟨#[]⟩]) 2 24 Tryz.underlying22 HI.out HZ0.out HZ1.out HZ2.out rfl (by decide) _ _ _ rfl XO.out ⟨wr.heap.size + 1, 0, none⟩ 1 1 [.int .u64 (p0 : Nat), .string (p1.extract 0 66)] rfl rfl HW.out.2.1 (by simp [Value.oneCell']) (by simp [maxLen]; omega) (by omega) HW.out.2.2 ?_; intro v' w1 hown' hgrow _; have HC := Lib.hid (XB.out.grown hgrow (Nat.le_trans SZr.out HW.out.1.size) N2.out); have HO2 := Lib.hid hown'; clear hown' hgrow)
        go_roundw
        case rel =>
          refine ⟨i + 1, hlt, by go_num, ?_, HC.out⟩
          rw [HS.out, flat_snoc, ← HE.out]
          exact HO2.out
        case measure => simp [intOf] <;> omega
    · obtain rfl : l = i := by omega
      have hlt' : ¬ (l : Int) < (l : Int) := Int.lt_irrefl _
      have HCL := Lib.hid (show (fewS xs l).length = l by rw [fewS_len, HXl.out]; omega)
      have BB := Lib.hid (HB0.out.trans (HB.out.mono (by omega)))
      have Q0 := Lib.hid (HQ0.out.below HB.out (by omega))
      have Q1 := Lib.hid (HQ1.out.below HB.out (by omega))
      obtain ⟨r0, r1, r2, r3, e0, e1, e2, e3⟩ := Q0.out.four
      obtain ⟨s0, s1, s2, s3, f0, f1, f2, f3⟩ := Q1.out.four
      obtain ⟨A7, c7, hv, -⟩ := own_form HO.out
      subst hv
      go_wp2_with fail
      refine close_one Tryz.results4 rfl rfl (Q1.out.far (p := ⟨w.heap.size, 3, none⟩) (by simp) (.slice A7 l c7)).put4 Tryz.underlying24 rfl (by kernel_rfl) ?_
      exact few_close BB.out rfl HO.out HCL.out
set_option maxHeartbeats 4000000 in
theorem few12_long (k s c : Int) (ad : Addr) (l d : Nat) (xs : List SymR) (w : World) (hx : Syms w (some ad) l xs) (hk : 66 < l) (hl : l ≤ d) (hd : d ≤ maxLen) (hd0 : ¬ d = 0) :
    Calls Tryz.prog 4 #[.agg #[.int .i64 k, .int .i64 s, .int .i64 c, .slice (some ad) l d]] w (StoreOne k s c (fewS xs 66) w) := by
  obtain ⟨i0, hi, hz0, hz1, hz2⟩ := info_parts sym12_info
  have HI := Lib.hid hi
  have HZ0 := Lib.hid hz0
  have HZ1 := Lib.hid hz1
  have HZ2 := Lib.hid hz2
  obtain ⟨Q0, Q1, b1, sz⟩ := fewW_two k s c (some ad) l d w
  have HQ0 := Lib.hid Q0
  have HQ1 := Lib.hid Q1
  have HX := Lib.hid (hx.below b1)
  have HXl := Lib.hid hx.1
  have HB0 := Lib.hid b1
  have SZ := Lib.hid sz
  have HOW := Lib.hid (World.ownsRow_nil (fewW k s c (some ad) l d w) (w.heap.size + 2) 46 2)
  unfold maxLen at hd
  have hkk1 : 66 ≤ l := by omega
  have hkk2 : 66 ≤ 66 := by omega
  have hkk3 : 66 ≤ d := by omega
  have mkk : (66 : Int) < (l : Int) := by omega
  obtain ⟨r0, r1, r2, r3, -, -, -, -⟩ := Q0.four
  clear hi hz0 hz1 hz2 hx b1 sz Q0 Q1
  go_enter Tryz.func4, Tryz.ntmps4
  go_wp2_with fail
  clear r0 r1 r2 r3
  go_loopw [3, 14] (fun v t wr => ∃ i : Nat, i ≤ 66 ∧ t = .int .i64 i ∧ wr.ownsRow (w.heap.size + 2) 46 2 v i ((fewS xs i).flatMap encS) ∧ Below (w.heap.size + 2) (fewW k s c (some ad) l d w) wr) (fun _ t _ => 66 - (intOf t).toNat)
  case atStart => exact ⟨0, Nat.zero_le _, rfl, HOW.out, Below.refl _ _⟩
  case round =>
    obtain ⟨i, hi, rfl, hown, hbel⟩ := hrel
    have HO := Lib.hid hown
    have HB := Lib.hid hbel
    have SZr := Lib.hid (show w.heap.size + 2 ≤ wr.heap.size from by have := hbel.size; rw [SZ.out] at this; exact this)
    clear hown hbel HOW
    by_cases hlt : i < 66
    · have hlt' : (i : Int) < ((66 : Nat) : Int) := Int.ofNat_lt.2 hlt
      obtain ⟨b, off, hA, hb, x0, x1⟩ := Syms.two HX.out i (by omega)
      obtain rfl := Option.some.inj hA
      rw [SZ.out] at hb
      have x0 := (HB.out.cell (p := ⟨b, off + i * 2, none⟩) hb).trans x0
      have x1 := (HB.out.cell (p := ⟨b, off + i * 2 + 1, none⟩) hb).trans x1
      have HS := Lib.hid (fewS_succ xs i (by rw [HXl.out]; omega))
      generalize xs.getD i default = p at *
      obtain ⟨p0, p1⟩ := p
      dsimp only at x0 x1 HS
      by_cases hm : p1.size ≤ 66
      · have hm1 : (p1.size : Int) ≤ 66 := by omega
        have HE := Lib.hid (cutX_id p1 hm)
        have G := Lib.hid (Box.new wr 46 #[.int .u64 (p0 : Nat), .string p1])
        have HW := Lib.hid (cut_world HB.out SZr.out (p0 : Nat) p1)
        have XO := Lib.hid (own_keep HO.out HW.out.1)
        have XB := Lib.hid (HB.out.trans (HW.out.1.mono SZr.out))
        have N2 := Lib.hid (fun g hg => (HO.out.lt g hg).1)
        obtain ⟨g0, g1, f0, f1⟩ := G.out.two
        clear G
        go_wp2_with (at_builtin; refine wpList_append_own _ rfl _ _ 22 rfl (w.heap.size + 2) 46 i0 (.agg #[.int .u64 0, .string ⟨#[]⟩]) 2 24 Tryz.underlying22 HI.out HZ0.out HZ1.out HZ2.out rfl (by decide) _ _ _ rfl XO.out ⟨wr.heap.size + 1, 0, none⟩ 1 1 [.int .u64 (p0 : Nat), .string p1] rfl rfl HW.out.2.1 (by simp [Value.oneCell']) (by simp [maxLen]; omega) (by omega) HW.out.2.2 ?_; intro v' w1 hown' hgrow _; have HC := Lib.hid (XB.out.grown hgrow (Nat.le_trans SZr.out HW.out.1.size) N2.out); have HO2 := Lib.hid hown'; clear hown' hgrow)
        go_roundw
        case rel =>
          refine ⟨i + 1, hlt, by go_num, ?_, HC.out⟩
          rw [HS.out, flat_snoc, ← HE.out]
          exact HO2.out
        case measure => simp [intOf] <;> omega
      · have hm1 : (66 : Int) < p1.size := by omega
        have hm2 : 66 ≤ p1.size := by omega
        have HE := Lib.hid (cutX_min p1 66 (by omega))
        have G := Lib.hid (Box.new wr 46 #[.int .u64 (p0 : Nat), .string p1])
        have HW := Lib.hid (cut_world HB.out SZr.out (p0 : Nat) (p1.extract 0 66))
        have XO := Lib.hid (own_keep HO.out HW.out.1)
        have XB := Lib.hid (HB.out.trans (HW.out.1.mono SZr.out))
        have N2 := Lib.hid (fun g hg => (HO.out.lt g hg).1)
        obtain ⟨g0, g1, f0, f1⟩ := G.out.two
        clear G
        go_wp2_with (at_builtin; refine wpList_append_own _ rfl _ _ 22 rfl (w.heap.size + 2) 46 i0 (.agg #[.int .u64 0, .string ⟨#[]⟩]) 2 24 Tryz.underlying22 HI.out HZ0.out HZ1.out HZ2.out rfl (by decide) _ _ _ rfl XO.out ⟨wr.heap.size + 1, 0, none⟩ 1 1 [.int .u64 (p0 : Nat), .string (p1.extract 0 66)] rfl rfl HW.out.2.1 (by simp [Value.oneCell']) (by simp [maxLen]; omega) (by omega) HW.out.2.2 ?_; intro v' w1 hown' hgrow _; have HC := Lib.hid (XB.out.grown hgrow (Nat.le_trans SZr.out HW.out.1.size) N2.out); have HO2 := Lib.hid hown'; clear hown' hgrow)
        go_roundw
        case rel =>
          refine ⟨i + 1, hlt, by go_num, ?_, HC.out⟩
          rw [HS.out, flat_snoc, ← HE.out]
          exact HO2.out
        case measure => simp [intOf] <;> omega
    · obtain rfl : i = 66 := by omega
      have hlt' : ¬ ((66 : Nat) : Int) < ((66 : Nat) : Int) := Int.lt_irrefl _
      have HCL := Lib.hid (show (fewS xs 66).length = 66 by rw [fewS_len, HXl.out]; omega)
      have BB := Lib.hid (HB0.out.trans (HB.out.mono (by omega)))
      have Q0 := Lib.hid (HQ0.out.below HB.out (by omega))
      have Q1 := Lib.hid (HQ1.out.below HB.out (by omega))
      obtain ⟨r0, r1, r2, r3, e0, e1, e2, e3⟩ := Q0.out.four
      obtain ⟨s0, s1, s2, s3, f0, f1, f2, f3⟩ := Q1.out.four
      obtain ⟨A7, c7, hv, -⟩ := own_form HO.out
      subst hv
      go_wp2_with fail
      refine close_one Tryz.results4 rfl rfl (Q1.out.far (p := ⟨w.heap.size, 3, none⟩) (by simp) (.slice A7 66 c7)).put4 Tryz.underlying24 rfl (by kernel_rfl) ?_
      exact few_close BB.out rfl HO.out HCL.out
set_option maxHeartbeats 1000000 in
theorem few12_zero (k s c : Int) (A : Option Addr) (w : World) :
    Calls Tryz.prog 4 #[.agg #[.int .i64 k, .int .i64 s, .int .i64 c, .slice A 0 0]] w (StoreOne k s c [] w) := by
  obtain ⟨Q0, Q1, b1, sz⟩ := fewW_two k s c A 0 0 w
  have HQ0 := Lib.hid Q0
  have HQ1 := Lib.hid Q1
  have HB0 := Lib.hid b1
  obtain ⟨r0, r1, r2, r3, -, -, -, -⟩ := Q0.four
  clear b1 sz Q0 Q1
  cases A with
  | none =>
    go_enter Tryz.func4, Tryz.ntmps4
    go_wp2_with fail
    clear r0 r1 r2 r3
    go_loopw [3, 14] (fun v t wr => v = .slice none 0 0 ∧ t = .int .i64 0 ∧ wr = fewW k s c (none) 0 0 w) (fun _ t _ => 0)
    case atStart => exact ⟨rfl, rfl, rfl⟩
    case round =>
      obtain ⟨rfl, rfl, hw⟩ := hrel
      rw [← hw] at HQ0 HQ1 HB0
      clear hw
      obtain ⟨r0, r1, r2, r3, e0, e1, e2, e3⟩ := HQ0.out.four
      obtain ⟨s0, s1, s2, s3, f0, f1, f2, f3⟩ := HQ1.out.four
      go_wp2_with fail
      refine close_one Tryz.results4 rfl rfl (HQ1.out.far (p := ⟨w.heap.size, 3, none⟩) (by simp) (.slice none 0 0)).put4 Tryz.underlying24 rfl (by kernel_rfl) ?_
      exact few_close (zs := []) (v := .slice none 0 0) (n := 0) (A7 := none) (c7 := 0) (e := 46) HB0.out rfl (World.ownsRow_nil _ _ _ _) rfl
  | some ad =>
    go_enter Tryz.func4, Tryz.ntmps4
    go_wp2_with fail
    clear r0 r1 r2 r3
    go_loopw [3, 14] (fun v t wr => v = .slice none 0 0 ∧ t = .int .i64 0 ∧ wr = fewW k s c (some ad) 0 0 w) (fun _ t _ => 0)
    case atStart => exact ⟨rfl, rfl, rfl⟩
    case round =>
      obtain ⟨rfl, rfl, hw⟩ := hrel
      rw [← hw] at HQ0 HQ1 HB0
      clear hw
      obtain ⟨r0, r1, r2, r3, e0, e1, e2, e3⟩ := HQ0.out.four
      obtain ⟨s0, s1, s2, s3, f0, f1, f2, f3⟩ := HQ1.out.four
      go_wp2_with fail
      refine close_one Tryz.results4 rfl rfl (HQ1.out.far (p := ⟨w.heap.size, 3, none⟩) (by simp) (.slice none 0 0)).put4 Tryz.underlying24 rfl (by kernel_rfl) ?_
      exact few_close (zs := []) (v := .slice none 0 0) (n := 0) (A7 := none) (c7 := 0) (e := 46) HB0.out rfl (World.ownsRow_nil _ _ _ _) rfl
theorem few12_any (k s c : Int) (A : Option Addr) (l d : Nat) (xs : List SymR) (w : World) (hx : Syms w A l xs) (hl : l ≤ d) (hd : d ≤ maxLen) (hn : A = none → d = 0) :
    Calls Tryz.prog 4 #[.agg #[.int .i64 k, .int .i64 s, .int .i64 c, .slice A l d]] w (StoreOne k s c (fewS xs 66) w) := by
  cases A with
  | none =>
    obtain rfl := hn rfl
    obtain ⟨rfl, rfl⟩ := Recs.none_ hx
    exact few12_zero k s c none w
  | some ad =>
    by_cases hd0 : d = 0
    · subst hd0
      obtain rfl : l = 0 := by omega
      obtain rfl : xs = [] := List.length_eq_zero_iff.1 hx.1
      exact few12_zero k s c (some ad) w
    by_cases h : l ≤ 66
    · rw [← fewS_all xs l hx.1 h]
      exact few12_short k s c ad l d xs w hx h hl hd hd0
    · exact few12_long k s c ad l d xs w hx (by omega) hl hd hd0
theorem alive12_any (w : World) : Calls Tryz.prog 10 #[] w fun e w' => e = .returned (.bool true) ∧ Below w.heap.size w w' := by
  have HA := Lib.hid (eadd_yes 2 1 3 none 0 0 [] (4, ⟨#[97]⟩) w (Recs.nil _ _) (Nat.le_refl _) (Nat.zero_le _) (fun _ => rfl) (by decide))
  go_enter Tryz.func10, Tryz.ntmps10
  go_wp2_with fail
  refine HA.out.mono ?_
  rintro e w1 ⟨A, d, rfl, -, -, -, -, hb⟩
  have Q := Lib.hid (Box.new w1 24 #[.int .i64 2, .int .i64 1, .int .i64 3, .slice A 1 d])
  have HB := Lib.hid (hb.alloc hb.size (.cells #[.int .i64 2, .int .i64 1, .int .i64 3, .slice A 1 d] 24))
  clear hb
  obtain ⟨r0, r1, r2, r3, -, -, -, -⟩ := Q.out.four
  go_wp2_with fail
  go_ret
  exact ⟨rfl, HB.out⟩
end
section
/- EquationsTell: the walk. -/
set_option linter.unusedVariables false
set_option linter.unusedSimpArgs false
open Go.RowKit
set_option maxRecDepth 100000
set_option maxHeartbeats 16000000 in
theorem eqtell_walk (k s c : Int) (A1 : Option Addr) (l1 d1 : Nat) (xs1 : List SymR) (W : World)
    (z1 : SliceOk A1 l1 d1) (h1 : Syms W A1 l1 xs1) (hid : ∀ j, (xs1.getD j default).1 < 18446744073709551616) :
    Calls Tryz.prog 3 #[.agg #[.int .i64 k, .int .i64 s, .int .i64 c, .slice A1 l1 d1]] W fun e w' => e = .returned (.bool true) ∧ Below W.heap.size W w' := by
  have b1 : Below W.heap.size W (W.alloc (.cells #[.int .i64 k, .int .i64 s, .int .i64 c, .slice A1 l1 d1] 24)) := (Below.refl _ _).alloc (Nat.le_refl _) _
  have Q0 := Lib.hid (Box.new W 24 #[.int .i64 k, .int .i64 s, .int .i64 c, .slice A1 l1 d1])
  have HB := Lib.hid b1
  have H1 := Lib.hid (h1.below b1)
  have HFa := Lib.hid (fun w' h => few12_any k s c A1 l1 d1 xs1 w' h z1.1 z1.2.1 (fun e => (z1.2.2 e).2))
  have L1 := Lib.hid (show (fewS xs1 66).length ≤ 66 by rw [fewS_len]; omega)
  have HID := Lib.hid (fewS_id xs1 hid 66)
  generalize fewS xs1 66 = fs at *
  clear h1 b1 z1 hid
  obtain ⟨r0, r1, r2, r3, -, -, -, -⟩ := Q0.out.four
  go_enter Tryz.func3, Tryz.ntmps3
  go_wp2_with fail
  refine (HFa.out _ H1.out).mono ?_
  rintro e x1 ⟨A3, d3, rfl, ha, hl, hd, hn, hlow, hb⟩
  have P0 := Lib.hid (Q0.out.keep hb)
  have PB := Lib.hid (chain HB.out hb)
  have HA := Lib.hid (Recs.far4 ha (g := W.heap.size) (fun b off h _ => by have h9 := hlow b off h; simp at h9; omega) (.int .i64 k) (.int .i64 s) (.int .i64 c) (.slice A3 fs.length d3))
  clear ha hlow hb r0 r1 r2 r3 H1 HFa
  obtain ⟨u0, u1, u2, u3, i0, i1, i2, i3⟩ := P0.out.four
  have S0 := Lib.hid (P0.out.put4 (a' := .int .i64 k) (b' := .int .i64 s) (c' := .int .i64 c) (d' := .slice A3 fs.length d3))
  have B := Lib.hid (below_set4 PB.out (Nat.le_refl _) (.int .i64 k) (.int .i64 s) (.int .i64 c) (.slice A3 fs.length d3))
  obtain ⟨r0, r1, r2, r3, -, -, -, -⟩ := S0.out.four
  cases hsb : storeB k s c fs with
  | false =>
    go_wp2_with fail
    clear u0 u1 u2 u3 i0 i1 i2 i3 P0 PB Q0 HB
    refine (erows_no k s c A3 fs.length d3 fs _ HA.out hl hd hsb).mono ?_
    rintro e x1 ⟨rfl, hb⟩
    clear r0 r1 r2 r3
    replace S0 := Lib.hid (S0.out.keep hb)
    replace HA := Lib.hid (HA.out.below hb)
    replace B := Lib.hid (chain B.out hb)
    clear hb
    have hal : Below x1.heap.size x1 (x1.alloc (.cells #[.int .i64 0, .slice none 0 0] 28)) := (Below.refl _ _).alloc (Nat.le_refl _) _
    replace S0 := Lib.hid (S0.out.keep hal)
    replace HA := Lib.hid (HA.out.below hal)
    replace B := Lib.hid (chain B.out hal)
    have QM := Lib.hid (Box.new x1 28 #[.int .i64 0, .slice none 0 0])
    clear hal
    obtain ⟨r0, r1, r2, r3, -, -, -, -⟩ := S0.out.four
    obtain ⟨m0, m1, -, -⟩ := QM.out.two
    go_wp2_with fail
    refine (esums_no k s c A3 fs.length d3 fs _ HA.out hl hd hsb).mono ?_
    rintro e x2 ⟨rfl, hb⟩
    clear r0 r1 r2 r3 m0 m1
    replace S0 := Lib.hid (S0.out.keep hb)
    replace HA := Lib.hid (HA.out.below hb)
    replace QM := Lib.hid (QM.out.keep hb)
    replace B := Lib.hid (chain B.out hb)
    clear hb
    obtain ⟨r0, r1, r2, r3, -, -, -, -⟩ := S0.out.four
    obtain ⟨m0, m1, -, -⟩ := QM.out.two
    go_wp2_with fail
    refine (erank_no k s c A3 fs.length d3 fs _ HA.out hl hd hsb).mono ?_
    rintro e x3 ⟨rfl, hb⟩
    clear r0 r1 r2 r3 m0 m1
    replace S0 := Lib.hid (S0.out.keep hb)
    replace HA := Lib.hid (HA.out.below hb)
    replace QM := Lib.hid (QM.out.keep hb)
    replace B := Lib.hid (chain B.out hb)
    clear hb
    obtain ⟨r0, r1, r2, r3, -, -, -, -⟩ := S0.out.four
    obtain ⟨m0, m1, -, -⟩ := QM.out.two
    go_wp2_with fail
    refine (ebytes_no k s c A3 fs.length d3 fs _ HA.out hl hd hsb).mono ?_
    rintro e x4 ⟨rfl, hb⟩
    clear r0 r1 r2 r3 m0 m1
    replace S0 := Lib.hid (S0.out.keep hb)
    replace HA := Lib.hid (HA.out.below hb)
    replace QM := Lib.hid (QM.out.keep hb)
    replace B := Lib.hid (chain B.out hb)
    clear hb
    obtain ⟨r0, r1, r2, r3, -, -, -, -⟩ := S0.out.four
    obtain ⟨m0, m1, -, -⟩ := QM.out.two
    go_wp2_with fail
    refine (refRight12_any k s c A3 fs.length d3 fs _ HA.out hl hd).mono ?_
    rintro e x5 ⟨rfl, hb⟩
    rw [hsb]
    clear r0 r1 r2 r3 m0 m1
    replace S0 := Lib.hid (S0.out.keep hb)
    replace HA := Lib.hid (HA.out.below hb)
    replace QM := Lib.hid (QM.out.keep hb)
    replace B := Lib.hid (chain B.out hb)
    clear hb
    obtain ⟨r0, r1, r2, r3, -, -, -, -⟩ := S0.out.four
    obtain ⟨m0, m1, -, -⟩ := QM.out.two
    go_wp2_with fail
    refine (alive12_any _).mono ?_
    rintro e x6 ⟨rfl, hb⟩
    clear r0 r1 r2 r3 m0 m1
    replace S0 := Lib.hid (S0.out.keep hb)
    replace HA := Lib.hid (HA.out.below hb)
    replace QM := Lib.hid (QM.out.keep hb)
    replace B := Lib.hid (chain B.out hb)
    clear hb
    obtain ⟨r0, r1, r2, r3, -, -, -, -⟩ := S0.out.four
    obtain ⟨m0, m1, -, -⟩ := QM.out.two
    go_wp2_with fail
    refine (same3_yes 0 0 0 0 0 0 none none [] _ (MatW.nil _ _ _) (MatW.nil _ _ _) rfl (by intro j i; simp) (by intro j; simp) (by decide)).mono ?_
    rintro e x7 ⟨rfl, hb⟩
    clear r0 r1 r2 r3 m0 m1
    replace S0 := Lib.hid (S0.out.keep hb)
    replace HA := Lib.hid (HA.out.below hb)
    replace QM := Lib.hid (QM.out.keep hb)
    replace B := Lib.hid (chain B.out hb)
    clear hb
    obtain ⟨r0, r1, r2, r3, -, -, -, -⟩ := S0.out.four
    obtain ⟨m0, m1, -, -⟩ := QM.out.two
    go_wp2_with fail
    go_ret
    exact ⟨rfl, B.out⟩
  | true =>
    obtain ⟨bk, bs, bc, bl⟩ := storeB_bd hsb
    obtain ⟨kn, rfl⟩ : ∃ n : Nat, k = n := Int.eq_ofNat_of_zero_le (by omega)
    obtain ⟨sn, rfl⟩ : ∃ n : Nat, s = n := Int.eq_ofNat_of_zero_le (by omega)
    obtain ⟨cn, rfl⟩ : ∃ n : Nat, c = n := Int.eq_ofNat_of_zero_le (by omega)
    have K1 : 1 ≤ kn := by omega
    have K2 : kn ≤ 64 := by omega
    have l64 : fs.length ≤ 64 := by omega
    go_wp2_with fail
    clear u0 u1 u2 u3 i0 i1 i2 i3 P0 PB Q0 HB bk bs bc bl
    refine (erows_yes kn sn cn A3 fs.length d3 fs _ HA.out hl hd hsb HID.out).mono ?_
    rintro e x1 ⟨A4, c4, b4, rfl, q5, hb⟩
    clear r0 r1 r2 r3
    have HM := Lib.hid (q5)
    replace S0 := Lib.hid (S0.out.keep hb)
    replace HA := Lib.hid (HA.out.below hb)
    replace B := Lib.hid (chain B.out hb)
    clear hb
    clear q5
    have hal : Below x1.heap.size x1 (x1.alloc (.cells #[.int .i64 (kn : Nat), .slice A4 fs.length c4] 28)) := (Below.refl _ _).alloc (Nat.le_refl _) _
    replace S0 := Lib.hid (S0.out.keep hal)
    replace HA := Lib.hid (HA.out.below hal)
    replace HM := Lib.hid (HM.out.below hal)
    replace B := Lib.hid (chain B.out hal)
    have QM := Lib.hid (Box.new x1 28 #[.int .i64 (kn : Nat), .slice A4 fs.length c4])
    clear hal
    obtain ⟨r0, r1, r2, r3, -, -, -, -⟩ := S0.out.four
    obtain ⟨m0, m1, -, -⟩ := QM.out.two
    go_wp2_with fail
    refine (esums_yes kn sn cn A3 fs.length d3 fs _ HA.out hl hd hsb).mono ?_
    rintro e x2 ⟨A5, c5, rfl, q5, hb⟩
    clear r0 r1 r2 r3 m0 m1
    have HT := Lib.hid (q5)
    replace S0 := Lib.hid (S0.out.keep hb)
    replace HA := Lib.hid (HA.out.below hb)
    replace HM := Lib.hid (HM.out.below hb)
    replace QM := Lib.hid (QM.out.keep hb)
    replace B := Lib.hid (chain B.out hb)
    clear hb
    clear q5
    obtain ⟨r0, r1, r2, r3, -, -, -, -⟩ := S0.out.four
    obtain ⟨m0, m1, -, -⟩ := QM.out.two
    go_wp2_with fail
    refine (erank_yes kn sn cn A3 fs.length d3 fs _ HA.out hl hd hsb HID.out).mono ?_
    rintro e x3 ⟨n, rfl, q5, hb⟩
    clear r0 r1 r2 r3 m0 m1
    replace S0 := Lib.hid (S0.out.keep hb)
    replace HA := Lib.hid (HA.out.below hb)
    replace HM := Lib.hid (HM.out.below hb)
    replace QM := Lib.hid (QM.out.keep hb)
    replace HT := Lib.hid (HT.out.below hb)
    replace B := Lib.hid (chain B.out hb)
    clear hb
    have RK := Lib.hid q5
    clear q5
    obtain ⟨r0, r1, r2, r3, -, -, -, -⟩ := S0.out.four
    obtain ⟨m0, m1, -, -⟩ := QM.out.two
    go_wp2_with fail
    refine (ebytes_yes kn sn cn A3 fs.length d3 fs _ HA.out hl hd hsb).mono ?_
    rintro e x4 ⟨rfl, hb⟩
    clear r0 r1 r2 r3 m0 m1
    replace S0 := Lib.hid (S0.out.keep hb)
    replace HA := Lib.hid (HA.out.below hb)
    replace HM := Lib.hid (HM.out.below hb)
    replace QM := Lib.hid (QM.out.keep hb)
    replace HT := Lib.hid (HT.out.below hb)
    replace B := Lib.hid (chain B.out hb)
    clear hb
    obtain ⟨r0, r1, r2, r3, -, -, -, -⟩ := S0.out.four
    obtain ⟨m0, m1, -, -⟩ := QM.out.two
    have HRR := Lib.hid (fun w' h => refRows12_any kn sn cn A3 fs.length d3 fs w' h hl hd K1 K2 l64 HID.out)
    have HRS := Lib.hid (fun w' h => refSums12_any kn sn cn A3 fs.length d3 fs w' h hl hd hsb)
    have HRK := Lib.hid (fun w' h => refRank12_any kn sn cn A3 fs.length d3 fs w' h hl hd K1 K2 l64 HID.out)
    have HRB := Lib.hid (fun w' h => refBytes12_any kn sn cn A3 fs.length d3 fs w' h hl hd hsb)
    have HLM := Lib.hid (show ((idN fs).map (nbRow kn)).length = fs.length by rw [List.length_map, idN_len])
    have HLT := Lib.hid (show ∀ j i, (((idN fs).map (nbRow kn)).getD j []).getD i 0 < 18446744073709551616 from fun j i => rowsRows_lt kn _ j i)
    have HLL := Lib.hid (show ∀ j, (((idN fs).map (nbRow kn)).getD j []).length ≤ 1000 from fun j => rowsRows_len kn K2 _ j)
    generalize bytesI fs.length sn kn = by_ at *
    go_wp2_with fail
    refine (refRight12_any kn sn cn A3 fs.length d3 fs _ HA.out hl hd).mono ?_
    rintro e x5 ⟨rfl, hb⟩
    rw [hsb]
    clear r0 r1 r2 r3 m0 m1
    replace S0 := Lib.hid (S0.out.keep hb)
    replace HA := Lib.hid (HA.out.below hb)
    replace HM := Lib.hid (HM.out.below hb)
    replace QM := Lib.hid (QM.out.keep hb)
    replace HT := Lib.hid (HT.out.below hb)
    replace B := Lib.hid (chain B.out hb)
    clear hb
    obtain ⟨r0, r1, r2, r3, -, -, -, -⟩ := S0.out.four
    obtain ⟨m0, m1, -, -⟩ := QM.out.two
    go_wp2_with fail
    have HL9 := Lib.hid (show fs.length ≤ 1000 by omega)
    have HL8 := Lib.hid (show fs.length ≤ 1000000 by omega)
    go_region_held3 (fun (w' : World) => w'.cell? ⟨W.heap.size, 0, none⟩ = some (.int .i64 (kn : Nat)) ∧ w'.cell? ⟨W.heap.size, 1, none⟩ = some (.int .i64 (sn : Nat)) ∧ w'.cell? ⟨W.heap.size, 2, none⟩ = some (.int .i64 (cn : Nat)) ∧ w'.cell? ⟨W.heap.size, 3, none⟩ = some (.slice A3 fs.length d3) ∧ w'.cell? ⟨x1.heap.size, 0, none⟩ = some (.int .i64 (kn : Nat)) ∧ w'.cell? ⟨x1.heap.size, 1, none⟩ = some (.slice A4 fs.length c4)) (go_keep)
      (first
        | (go_at_call 10; refine (alive12_any _).mono ?_; rintro f1 w1 ⟨rfl, hb⟩; have S0_1 := Lib.hid (S0.out.drew.keep hb); have QM_1 := Lib.hid (QM.out.drew.keep hb); have HA_1 := Lib.hid (Recs.below HA.out.drew hb); have HM_1 := Lib.hid (MatW.below (w := World.drew _) HM.out hb); have HT_1 := Lib.hid (Texts.below (w := World.drew _) HT.out hb); have B_1 := Lib.hid (chain B.out.drew hb); clear hb; obtain ⟨y10, y11, y12, y13, -, -, -, -⟩ := S0_1.out.four; obtain ⟨z10, z11, -, -⟩ := QM_1.out.two)
        | (go_at_call 12; refine (HRR.out _ HA_1.out).mono ?_; rintro f2 w2 ⟨A7, c7, rfl, q5, hb⟩; have S0_2 := Lib.hid (S0_1.out.keep hb); have QM_2 := Lib.hid (QM_1.out.keep hb); have HA_2 := Lib.hid (Recs.below HA_1.out hb); have HM_2 := Lib.hid (HM_1.out.below hb); have HT_2 := Lib.hid (HT_1.out.below hb); have B_2 := Lib.hid (chain B_1.out hb); have HX_2 := Lib.hid q5; clear q5; clear hb; obtain ⟨y20, y21, y22, y23, -, -, -, -⟩ := S0_2.out.four; obtain ⟨z20, z21, -, -⟩ := QM_2.out.two)
        | (go_at_call 11; refine (same3_yes kn _ _ fs.length c4 c7 A4 A7 _ _ HM_2.out HX_2.out HLM.out HLT.out HLL.out HL9.out).mono ?_; rintro f3 w3 ⟨rfl, hb⟩; have S0_3 := Lib.hid (S0_2.out.keep hb); have QM_3 := Lib.hid (QM_2.out.keep hb); have HA_3 := Lib.hid (Recs.below HA_2.out hb); have HM_3 := Lib.hid (HM_2.out.below hb); have HT_3 := Lib.hid (HT_2.out.below hb); have B_3 := Lib.hid (chain B_2.out hb); clear hb; obtain ⟨y30, y31, y32, y33, -, -, -, -⟩ := S0_3.out.four; obtain ⟨z30, z31, -, -⟩ := QM_3.out.two)
        | (go_at_call 14; refine (HRS.out _ HA_3.out).mono ?_; rintro f4 w4 ⟨A8, c8, rfl, q5, hb⟩; have S0_4 := Lib.hid (S0_3.out.keep hb); have QM_4 := Lib.hid (QM_3.out.keep hb); have HA_4 := Lib.hid (Recs.below HA_3.out hb); have HM_4 := Lib.hid (HM_3.out.below hb); have HT_4 := Lib.hid (HT_3.out.below hb); have B_4 := Lib.hid (chain B_3.out hb); have HY_4 := Lib.hid q5; clear q5; clear hb; obtain ⟨y40, y41, y42, y43, -, -, -, -⟩ := S0_4.out.four; obtain ⟨z40, z41, -, -⟩ := QM_4.out.two)
        | (go_at_call 13; refine (refTexts_same A5 A8 fs.length c5 c8 _ _ HT_4.out HY_4.out HL8.out).mono ?_; rintro f5 w5 ⟨rfl, hb⟩; have S0_5 := Lib.hid (S0_4.out.keep hb); have QM_5 := Lib.hid (QM_4.out.keep hb); have HA_5 := Lib.hid (Recs.below HA_4.out hb); have HM_5 := Lib.hid (HM_4.out.below hb); have HT_5 := Lib.hid (HT_4.out.below hb); have B_5 := Lib.hid (chain B_4.out hb); clear hb; obtain ⟨y50, y51, y52, y53, -, -, -, -⟩ := S0_5.out.four; obtain ⟨z50, z51, -, -⟩ := QM_5.out.two)
        | (go_at_call 15; refine (HRK.out _ HA_5.out).mono ?_; rintro f6 w6 ⟨n2, rfl, q5, hb⟩; have S0_6 := Lib.hid (S0_5.out.keep hb); have QM_6 := Lib.hid (QM_5.out.keep hb); have HA_6 := Lib.hid (Recs.below HA_5.out hb); have HM_6 := Lib.hid (HM_5.out.below hb); have HT_6 := Lib.hid (HT_5.out.below hb); have B_6 := Lib.hid (chain B_5.out hb); obtain rfl := rk_fun RK.out q5; clear q5; clear hb; obtain ⟨y60, y61, y62, y63, -, -, -, -⟩ := S0_6.out.four; obtain ⟨z60, z61, -, -⟩ := QM_6.out.two)
        | (go_at_call 16; refine (HRB.out _ HA_6.out).mono ?_; rintro f7 w7 ⟨rfl, hb⟩; have S0_7 := Lib.hid (S0_6.out.keep hb); have QM_7 := Lib.hid (QM_6.out.keep hb); have HA_7 := Lib.hid (Recs.below HA_6.out hb); have HM_7 := Lib.hid (HM_6.out.below hb); have HT_7 := Lib.hid (HT_6.out.below hb); have B_7 := Lib.hid (chain B_6.out hb); clear hb; obtain ⟨y70, y71, y72, y73, -, -, -, -⟩ := S0_7.out.four; obtain ⟨z70, z71, -, -⟩ := QM_7.out.two))
    go_wp2_with fail
    go_ret
    exact ⟨rfl, B_7.out⟩
end
end Go.Proofs.YtmfhimeffmpgaaaGreat
