/- Parts: Eq6, Eq7, Eq8, Eq9, SymE, Eq4, Eq5, RndM, Rnd1, RngC, Rnd3. -/
import Derived.Test.YtmfhimeffmpgaaaGreatZa
import Derived.ArgAppend
import Derived.BigQuiet
import Derived.Deep.AppendLies
import Derived.Deep.QuietTactic
import Derived.Deep.RegionLaw
import Derived.IntWalk
import Derived.Laws.StructEq
import Derived.Lib.Hide
import Derived.LoopIn
import Derived.LoopNIn
import Derived.OwnWalkIn
import Derived.RangeFuncBound
import Derived.RangeFuncBox
import Derived.RangeFuncCalls
import Derived.RangeFuncLeaves
import Derived.RangeFuncNested
import Derived.Shelf.Abstract
import Derived.Shelf.RegionOpen
import Derived.Sort.LoopGhostIn
import Derived.TacticsInMore
import Derived.Test.YtmfhimeffmpgaaaGreatChecked
import Derived.Test.YtmfhimeffmpgaaaGreatRows
import Derived.WalkKit
namespace Go.Proofs.YtmfhimeffmpgaaaGreat
section
/- Contracts of layer 12's reference: Has, Sizes, Right, Why. -/
set_option linter.unusedVariables false
set_option linter.unusedSimpArgs false
open Go.RowKit
set_option maxRecDepth 100000
theorem refHas_any (id : Nat) (A : Option Addr) (l c : Nat) (xs : List SymR) (w : World) (hx : Syms w A l xs) (hl : l ≤ maxLen) :
    Calls Tryz.prog 20 #[.slice A l c, .int .u64 (id : Int)] w fun e w' => e = .returned (.bool (hasI xs id)) ∧ Below w.heap.size w w' := by
  unfold maxLen at hl
  have HX := Lib.hid hx
  have HXl := Lib.hid hx.1
  clear hx
  go_enter Tryz.func20, Tryz.ntmps20
  go_wp2_with fail
  go_loopw [9] (fun t wr => ∃ i : Nat, i ≤ l ∧ t = .int .i64 (i : Int) ∧ Hid (hasI (xs.take i) id = false) ∧ Hid (Below w.heap.size w wr)) (fun t _ => l - (intOf t).toNat)
  case atStart => exact ⟨0, Nat.zero_le _, rfl, Lib.hid rfl, Lib.hid (Below.refl _ _)⟩
  case round =>
    obtain ⟨i, hi, rfl, HS, HB⟩ := hrel
    by_cases hlt : i < l
    · have hlt' : (i : Int) < (l : Int) := Int.ofNat_lt.2 hlt
      obtain ⟨b, off, rfl, hb, x0, x1⟩ := Syms.two HX.out i hlt
      have x0 := (HB.out.cell (p := ⟨b, off + i * 2, none⟩) hb).trans x0
      have x1 := (HB.out.cell (p := ⟨b, off + i * 2 + 1, none⟩) hb).trans x1
      have HN := Lib.hid (hasI_snoc xs id i (by rw [HXl.out]; exact hlt))
      have HU := Lib.hid (hasI_up xs id (i + 1))
      have G := Lib.hid (Box.new wr 46 #[.int .u64 ((xs.getD i default).1 : Nat), .string (xs.getD i default).2])
      have HB := Lib.hid (HB.out.alloc HB.out.size (.cells #[.int .u64 ((xs.getD i default).1 : Nat), .string (xs.getD i default).2] 46))
      generalize xs.getD i default = p at *
      obtain ⟨p0, p1⟩ := p
      dsimp only at x0 x1 G HB HN
      obtain ⟨g0, g1, -, -⟩ := G.out.two
      have ei : (((p0 : Nat) : Int) == (id : Int)) = (p0 == id) := by rw [Bool.eq_iff_iff]; simp; omega
      cases hs : (p0 == id) with
      | true =>
        rw [hs] at HN ei
        have HE := Lib.hid (show hasI xs id = true from HU.out (by rw [HN.out]; simp))
        clear hs
        go_wp2_with fail
        go_ret
        exact ⟨by rw [HE.out]; rfl, HB.out⟩
      | false =>
        rw [hs] at HN ei
        have HN2 := Lib.hid (show hasI (xs.take (i + 1)) id = false by rw [HN.out, HS.out]; rfl)
        clear hs
        go_wp2_with fail
        go_roundw
        case rel => exact ⟨i + 1, hlt, by go_num, HN2, HB⟩
        case measure => simp [intOf] <;> omega
    · obtain rfl : i = l := Nat.le_antisymm hi (Nat.le_of_not_lt hlt)
      have hlt' : ¬ (i : Int) < (i : Int) := Int.lt_irrefl _
      have HE := Lib.hid (show hasI xs id = false by have := HS.out; rwa [List.take_of_length_le (by rw [HXl.out]; exact Nat.le_refl _)] at this)
      go_wp2_with fail
      go_ret
      exact ⟨by rw [HE.out]; rfl, HB.out⟩
def sizesB (k s c : Int) : Bool := kB k 1 64 && kB s 0 64 && kB c 1 64
theorem storeB_eq (k s c : Int) (xs : List SymR) : storeB k s c xs = (sizesB k s c && decide ((xs.length : Int) ≤ c) && (allB s xs && !twiceB xs)) := by
  unfold storeB sizesB
  cases kB k 1 64 <;> cases kB s 0 64 <;> cases kB c 1 64 <;> cases decide ((xs.length : Int) ≤ c) <;> cases allB s xs <;> cases twiceB xs <;> rfl
theorem refSizes_any (k s c : Int) (w : World) : Calls Tryz.prog 21 #[.int .i64 k, .int .i64 s, .int .i64 c] w fun e w' => e = .returned (.bool (sizesB k s c)) ∧ w = w' := by
  by_cases h0 : 1 ≤ k
  · by_cases h1 : k ≤ 64
    · by_cases h2 : 0 ≤ s
      · by_cases h3 : s ≤ 64
        · by_cases h4 : 1 ≤ c
          · by_cases h5 : c ≤ 64
            · go_enter Tryz.func21, Tryz.ntmps21
              go_wp2_with fail
              go_ret
              exact ⟨by simp [sizesB, kB, h0, h1, h2, h3, h4, h5], rfl⟩
            · have t : decide (c ≤ 64) = false := by simpa using h5
              go_enter Tryz.func21, Tryz.ntmps21
              go_wp2_with fail
              go_ret
              exact ⟨by unfold sizesB kB; rw [t]; simp, rfl⟩
          · have t : decide (1 ≤ c) = false := by simpa using h4
            go_enter Tryz.func21, Tryz.ntmps21
            go_wp2_with fail
            go_ret
            exact ⟨by unfold sizesB kB; rw [t]; simp, rfl⟩
        · have t : decide (s ≤ 64) = false := by simpa using h3
          go_enter Tryz.func21, Tryz.ntmps21
          go_wp2_with fail
          go_ret
          exact ⟨by unfold sizesB kB; rw [t]; simp, rfl⟩
      · have t : decide (0 ≤ s) = false := by simpa using h2
        go_enter Tryz.func21, Tryz.ntmps21
        go_wp2_with fail
        go_ret
        exact ⟨by unfold sizesB kB; rw [t]; simp, rfl⟩
    · have t : decide (k ≤ 64) = false := by simpa using h1
      go_enter Tryz.func21, Tryz.ntmps21
      go_wp2_with fail
      go_ret
      exact ⟨by unfold sizesB kB; rw [t]; simp, rfl⟩
  · have t : decide (1 ≤ k) = false := by simpa using h0
    go_enter Tryz.func21, Tryz.ntmps21
    go_wp2_with fail
    go_ret
    exact ⟨by unfold sizesB kB; rw [t]; simp, rfl⟩
def twiceTo (xs : List SymR) (k : Nat) : Bool := (List.range k).any fun i => hasI (xs.take i) (xs.getD i default).1
theorem twiceTo_snoc (xs : List SymR) (k : Nat) (h : k < xs.length) : twiceTo xs (k + 1) = (twiceTo xs k || hasI (xs.take k) (xs.getD k default).1) := twice_snoc xs k h
set_option maxHeartbeats 2000000 in
theorem refRight12_any (k s c : Int) (A : Option Addr) (l d : Nat) (xs : List SymR) (w : World) (hx : Syms w A l xs) (hl : l ≤ d) (hd : d ≤ maxLen) :
    Calls Tryz.prog 9 #[.agg #[.int .i64 k, .int .i64 s, .int .i64 c, .slice A l d]] w fun e w' => e = .returned (.bool (storeB k s c xs)) ∧ Below w.heap.size w w' := by
  have hd2 := hd
  unfold maxLen at hd
  have b1 : Below w.heap.size w (w.alloc (.cells #[.int .i64 k, .int .i64 s, .int .i64 c, .slice A l d] 24)) := (Below.refl _ _).alloc (Nat.le_refl _) _
  have Q := Lib.hid (Box.new w 24 #[.int .i64 k, .int .i64 s, .int .i64 c, .slice A l d])
  have HX := Lib.hid (hx.below b1)
  have HXl := Lib.hid hx.1
  have HB0 := Lib.hid b1
  have HST := Lib.hid (storeB_eq k s c xs)
  have HSZ := Lib.hid (fun w => refSizes_any k s c w)
  generalize sizesB k s c = sb at *
  obtain ⟨r0, r1, r2, r3, -, -, -, -⟩ := Q.out.four
  clear hx b1
  go_enter Tryz.func9, Tryz.ntmps9
  go_wp2_with fail
  go_loopw [8] (fun t wr => ∃ i : Nat, i ≤ l ∧ t = .int .i64 (i : Int) ∧ Hid (allB s (xs.take i) = true ∧ twiceTo xs i = false) ∧ Hid (Below (w.alloc (.cells #[.int .i64 k, .int .i64 s, .int .i64 c, .slice A l d] 24)).heap.size (w.alloc (.cells #[.int .i64 k, .int .i64 s, .int .i64 c, .slice A l d] 24)) wr)) (fun t _ => l - (intOf t).toNat)
  case atStart => exact ⟨0, Nat.zero_le _, rfl, Lib.hid ⟨rfl, rfl⟩, Lib.hid (Below.refl _ _)⟩
  case round =>
    obtain ⟨i, hi, rfl, HS, HB⟩ := hrel
    by_cases hlt : i < l
    · have hlt' : (i : Int) < (l : Int) := Int.ofNat_lt.2 hlt
      obtain ⟨b, off, rfl, hb, x0, x1⟩ := Syms.two HX.out i hlt
      have x0 := (HB.out.cell (p := ⟨b, off + i * 2, none⟩) hb).trans x0
      have x1 := (HB.out.cell (p := ⟨b, off + i * 2 + 1, none⟩) hb).trans x1
      have HN := Lib.hid (twiceTo_snoc xs i (by rw [HXl.out]; exact hlt))
      have HM := Lib.hid (allB_snoc s xs i (by rw [HXl.out]; exact hlt))
      have HU := Lib.hid (twice_up xs i (by rw [HXl.out]; exact hlt))
      have HV := Lib.hid (allB_up s xs (i + 1))
      have G := Lib.hid (Box.new wr 46 #[.int .u64 ((xs.getD i default).1 : Nat), .string (xs.getD i default).2])
      have Q := Lib.hid ((Q.out.keep HB.out).alloc (.cells #[.int .u64 ((xs.getD i default).1 : Nat), .string (xs.getD i default).2] 46))
      have HB := Lib.hid (HB.out.alloc HB.out.size (.cells #[.int .u64 ((xs.getD i default).1 : Nat), .string (xs.getD i default).2] 46))
      have HT := Lib.hid ((HX.out.take i (by omega)).mono (Nat.le_refl _) HB.out)
      have HH := Lib.hid (refHas_any (xs.getD i default).1 (some ⟨b, off, none⟩) i d (xs.take i) _ HT.out.drew (by unfold maxLen; omega))
      have i1 : (i : Int) ≤ (d : Int) := by omega
      have i2 : (i : Int) ≤ (l : Int) := by omega
      generalize xs.getD i default = p at *
      obtain ⟨p0, p1⟩ := p
      dsimp only at x0 x1 G HB HN HM HU HH Q
      generalize hW2 : wr.alloc (.cells #[.int .u64 (p0 : Nat), .string p1] 46) = W2 at *
      clear r0 r1 r2 r3
      obtain ⟨r0, r1, r2, r3, -, -, -, -⟩ := Q.out.four
      obtain ⟨g0, g1, -, -⟩ := G.out.two
      cases hs : ((p1.size : Int) == s) with
      | false =>
        rw [hs] at HM
        have hs2 : ((p1.size : Int) != s) = true := by simp [bne, hs]
        have HE := Lib.hid (show storeB k s c xs = false by rw [HST.out, HV.out (by rw [HM.out]; simp)]; simp)
        clear hs
        go_wp2_with fail
        clear hW2
        go_quiet (fail)
        go_wp2_with fail
        go_ret
        exact ⟨by rw [HE.out]; rfl, chain HB0.out (bdN HB.out _)⟩
      | true =>
        rw [hs] at HM
        have hs2 : ((p1.size : Int) != s) = false := by simp [bne, hs]
        clear hs
        cases ht : hasI (xs.take i) p0 with
        | true =>
          rw [ht] at HH
          have HE := Lib.hid (show storeB k s c xs = false by rw [HST.out, HU.out ht]; simp)
          clear ht
          go_wp2_with fail
          clear hW2
          go_region_with (go_at_call 20; refine HH.out.mono ?_; rintro e w1 ⟨rfl, hb1⟩; have HB := Lib.hid (chain HB.out.drew hb1); clear hb1)
          all_goals
            go_wp2_with fail
            go_ret
            exact ⟨by rw [HE.out]; rfl, chain HB0.out HB.out⟩
        | false =>
          rw [ht] at HH
          have HN2 := Lib.hid (show allB s (xs.take (i + 1)) = true ∧ twiceTo xs (i + 1) = false from ⟨by rw [HM.out, HS.out.1]; rfl, by rw [HN.out, HS.out.2, ht]; rfl⟩)
          clear ht
          go_wp2_with fail
          clear hW2
          go_region_with (go_at_call 20; refine HH.out.mono ?_; rintro e w1 ⟨rfl, hb1⟩; have HB := Lib.hid (chain HB.out.drew hb1); clear hb1)
          all_goals
            go_wp2_with fail
            go_roundw
            case rel => exact ⟨i + 1, hlt, by go_num, HN2, HB⟩
            case measure => simp [intOf] <;> omega
    · obtain rfl : i = l := Nat.le_antisymm hi (Nat.le_of_not_lt hlt)
      have hlt' : ¬ (i : Int) < (i : Int) := Int.lt_irrefl _
      have HA := Lib.hid (show allB s xs = true by have := HS.out.1; rwa [List.take_of_length_le (by rw [HXl.out]; exact Nat.le_refl _)] at this)
      have HW := Lib.hid (show twiceB xs = false by unfold twiceB; rw [HXl.out]; exact HS.out.2)
      have HS2 := Lib.hid (show storeB k s c xs = (sb && decide ((i : Int) ≤ c)) by rw [HST.out, HA.out, HW.out, HXl.out]; simp)
      have Q := Lib.hid (Q.out.keep HB.out)
      clear r0 r1 r2 r3
      obtain ⟨r0, r1, r2, r3, -, -, -, -⟩ := Q.out.four
      cases sb with
      | false =>
        go_wp2_with fail
        refine (HSZ.out _).mono ?_
        rintro e w1 ⟨rfl, rfl⟩
        go_wp2_with fail
        go_ret
        exact ⟨by rw [HS2.out]; rfl, chain HB0.out HB.out⟩
      | true =>
        by_cases hic : (i : Int) ≤ c
        · have t : decide ((i : Int) ≤ c) = true := decide_eq_true hic
          rw [t] at HS2
          go_wp2_with fail
          refine (HSZ.out _).mono ?_
          rintro e w1 ⟨rfl, rfl⟩
          go_wp2_with fail
          go_ret
          exact ⟨by rw [HS2.out]; rfl, chain HB0.out HB.out⟩
        · have t : decide ((i : Int) ≤ c) = false := decide_eq_false hic
          rw [t] at HS2
          go_wp2_with fail
          refine (HSZ.out _).mono ?_
          rintro e w1 ⟨rfl, rfl⟩
          go_wp2_with fail
          go_ret
          exact ⟨by rw [HS2.out]; rfl, chain HB0.out HB.out⟩
def whyI (s c : Int) (xs : List SymR) (x : SymR) : Int := if (x.2.size : Int) != s then 2 else if hasI xs x.1 then 8 else if (xs.length : Int) == c then 7 else 0
end
section
/- Contracts of layer 12: Add. -/
set_option linter.unusedVariables false
set_option linter.unusedSimpArgs false
open Go.RowKit
set_option maxRecDepth 100000
theorem step_growsO {P : Program} {w : World} {ops : Array Oper} {o : Oper} {a : Act} {K : Act → World → Prop} {Q : Exit → Act → World → Prop} {E : Prop} (hgd : o.guard = none) (s x : Operand) (t : TypeId)
    (ho : o.op = .call { callee := .builtin .append, args := #[s, x], argTypes := #[t, t] })
    (e : TypeId) (i : TypeInfo) (z : Value) (size bytes : Nat) (ht : P.underlying t = some (.slice e)) (hi : P.info? e = some i) (hz : i.zero = some z)
    (hsize : i.size = size) (hby : i.bytes = bytes) (hzs : z.cells.size = size) (hsz : 0 < size)
    (ao : Option Addr) (n cap : Nat) (olds : List Value) (hs : a.eval s = .slice ao n cap) (hnone : ao = none → n = 0 ∧ cap = 0) (hlo : olds.length = n * size) (holds : ∀ b, ao = some b → ∀ j u, olds[j]? = some u → w.cell? (b.add j) = some u)
    (ad : Addr) (m c : Nat) (news : List Value) (hx : a.eval x = .slice (some ad) m c) (hl : news.length = m * size) (hnews : ∀ j u, news[j]? = some u → w.cell? (ad.add j) = some u) (h1c : ∀ u ∈ news, u.oneCell' = true)
    (hg : cap < n + m) (h63 : n + m ≤ maxLen) (hbytes : (n + m) * bytes ≤ 140737488355328)
    (h : ∀ v' w', w'.ownsRow w.heap.size e size v' (n + m) (olds ++ news) → w.grownBy w' none → K (a.put o.dst v') w') :
    if Region.wanted o (yielded ops a.tmps) = true then Oper.wp P o a w K Q else E := by
  have hw : Region.wanted o (yielded ops a.tmps) = true := by simp [Region.wanted, hgd]
  rw [if_pos hw]
  unfold Oper.wp execOp
  cases ao with
  | some b =>
    obtain ⟨v', w', hr, h2, h3⟩ := run_append_arg_grows (P := P) w t o.type e i z size bytes ht hi hz hsize hby hzs hsz b n cap olds hlo (holds b rfl) ad m c news hl hnews hg h63 hbytes
    simp only [ho, resolve, invoke, builtin, Sem.run_bind, Sem.run_pure, Result.andThen_ok, List.map_toArray, List.map_cons, List.map_nil, hs, hx, hr]
    exact h v' w' h2 h3
  | none =>
    obtain ⟨rfl, rfl⟩ := hnone rfl
    obtain rfl : olds = [] := List.eq_nil_of_length_eq_zero (by simpa using hlo)
    obtain ⟨v', w', hr, h2, h3, _⟩ := run_append_own (P := P) w w.heap.size t o.type e i z size bytes ht hi hz hsize hby hzs hsz (.slice none 0 0) 0 [] (World.ownsRow_nil w _ e size) ad m c news hl hnews h1c h63 hbytes (Nat.le_refl _)
    simp only [ho, resolve, invoke, builtin, Sem.run_bind, Sem.run_pure, Result.andThen_ok, List.map_toArray, List.map_cons, List.map_nil, hs, hx, hr]
    exact h v' w' h2 h3
theorem news_drew12 {x : World} {o : Obj} {g : Nat} {L : List Value} (h : ∀ j u, L[j]? = some u → (x.alloc o).cell? ((⟨g, 0, none⟩ : Addr).add j) = some u) : ∀ j u, L[j]? = some u → (x.alloc o).drew.cell? ((⟨g, 0, none⟩ : Addr).add j) = some u := h
theorem below_grown12 {x w : World} {o : Obj} (h : (x.alloc o).drew.grownBy w none) : Below x.heap.size x w :=
  (((Below.refl _ _).alloc (Nat.le_refl _) o).drew).grown h (by show _ ≤ (x.alloc o).heap.size; simp) (fun k hk => by cases hk)
theorem sym12_info : (Tryz.prog.info? 46).map (fun i => (i.zero, i.size, i.bytes)) = some (some (.agg #[.int .u64 0, .string ⟨#[]⟩]), 2, 24) := by kernel_rfl
def addAns (k s c : Int) (xs : List SymR) (x : SymR) : List Int := [whenI (!storeB k s c xs) 1, whenI ((x.2.size : Int) != s) 2, whenI (hasI xs x.1) 8, whenI ((xs.length : Int) == c) 7]
def addE (k s c : Int) (xs : List SymR) (x : SymR) : Int := if storeB k s c xs then whyI s c xs x else 1
theorem addAns_eq (k s c : Int) (xs : List SymR) (x : SymR) : firstI (addAns k s c xs x) = addE k s c xs x := by
  unfold addAns addE whyI
  cases storeB k s c xs <;> cases ((x.2.size : Int) != s) <;> cases hasI xs x.1 <;> cases ((xs.length : Int) == c) <;> rfl
def addFs (g : Nat) : Nat → Nat × Array Value := fun j => [(40, #[Value.pointer (some ⟨g, 0, none⟩)]), (41, #[.pointer (some ⟨g + 1, 0, none⟩), .pointer (some ⟨g, 0, none⟩)]), (42, #[.pointer (some ⟨g, 0, none⟩), .pointer (some ⟨g + 1, 0, none⟩)]), (44, #[.pointer (some ⟨g, 0, none⟩)])].getD j (0, #[])
def addCells (g : Nat) : Array Value := #[.func (.func 40) #[] #[.pointer (some ⟨g, 0, none⟩)], .func (.func 41) #[] #[.pointer (some ⟨g + 1, 0, none⟩), .pointer (some ⟨g, 0, none⟩)], .func (.func 42) #[] #[.pointer (some ⟨g, 0, none⟩), .pointer (some ⟨g + 1, 0, none⟩)], .func (.func 44) #[] #[.pointer (some ⟨g, 0, none⟩)]]
abbrev addW3 (k s c : Int) (A : Option Addr) (l d : Nat) (x : SymR) (w : World) : World :=
  ((w.alloc (.cells #[.int .i64 k, .int .i64 s, .int .i64 c, .slice A l d] 24)).alloc (.cells #[.int .u64 (x.1 : Int), .string x.2] 46)).alloc (.cells #[.int .i64 0, .int .i64 0, .int .i64 0, .slice none 0 0] 24)
abbrev addW (k s c : Int) (A : Option Addr) (l d : Nat) (x : SymR) (w : World) : World :=
  (addW3 k s c A l d x w).alloc (.cells (addCells w.heap.size) 61)
theorem addW_three (k s c : Int) (A : Option Addr) (l d : Nat) (x : SymR) (w : World) :
    Box (addW k s c A l d x w) w.heap.size 24 #[.int .i64 k, .int .i64 s, .int .i64 c, .slice A l d] ∧ Box (addW k s c A l d x w) (w.heap.size + 1) 46 #[.int .u64 (x.1 : Int), .string x.2] ∧ Box (addW k s c A l d x w) (w.heap.size + 2) 24 #[.int .i64 0, .int .i64 0, .int .i64 0, .slice none 0 0] ∧ Box (addW k s c A l d x w) (w.heap.size + 3) 61 (addCells w.heap.size) ∧ Below w.heap.size w (addW k s c A l d x w) := by
  refine ⟨?_, ?_, ?_, ?_, ?_⟩
  · exact (((Box.new w _ _).alloc _).alloc _).alloc _
  · have q := ((Box.new (w.alloc (.cells #[.int .i64 k, .int .i64 s, .int .i64 c, .slice A l d] 24)) 46 #[.int .u64 (x.1 : Int), .string x.2]).alloc (.cells #[.int .i64 0, .int .i64 0, .int .i64 0, .slice none 0 0] 24)).alloc (.cells (addCells w.heap.size) 61)
    simpa only [World.size_alloc] using q
  · have q := (Box.new ((w.alloc (.cells #[.int .i64 k, .int .i64 s, .int .i64 c, .slice A l d] 24)).alloc (.cells #[.int .u64 (x.1 : Int), .string x.2] 46)) 24 #[.int .i64 0, .int .i64 0, .int .i64 0, .slice none 0 0]).alloc (.cells (addCells w.heap.size) 61)
    simpa only [World.size_alloc] using q
  · have q := Box.new (addW3 k s c A l d x w) 61 (addCells w.heap.size)
    simpa only [World.size_alloc] using q
  · exact ((((Below.refl _ _).alloc (Nat.le_refl _) _).alloc (by simp) _).alloc (by simp; omega) _).alloc (by simp; omega) _
theorem addAsked (k s c : Int) (A : Option Addr) (l d : Nat) (xs : List SymR) (x : SymR) (w : World) (hx : Syms w A l xs) (hl : l ≤ d) (hd : d ≤ maxLen) :
    AskedOf Tryz.prog (addW k s c A l d x w) (w.heap.size + 3) 0 (addFs w.heap.size) (addAns k s c xs x) := by
  obtain ⟨Q0, Q1, -, F, b1⟩ := addW_three k s c A l d x w
  have hX := hx.below b1
  have hxl := hx.1
  refine ⟨F.lt, ?_, ?_, ?_⟩
  · intro j hj
    have hj : j < 4 := hj
    rw [Nat.zero_add, F.cell j]
    match j, hj with
    | 0, _ => rfl
    | 1, _ => rfl
    | 2, _ => rfl
    | 3, _ => rfl
  · intro j hj
    have hj : j < 4 := hj
    match j, hj with
    | 0, _ => exact enters_of Tryz.func40 (by kernel_rfl) rfl
    | 1, _ => exact enters_of Tryz.func41 (by kernel_rfl) rfl
    | 2, _ => exact enters_of Tryz.func42 (by kernel_rfl) rfl
    | 3, _ => exact enters_of Tryz.func44 (by kernel_rfl) rfl
  · intro j hj w' hb _
    have hj : j < 4 := hj
    have q := Q0.keep hb
    have q1 := Q1.keep hb
    have hX' := hX.below hb
    match j, hj with
    | 0, _ => exact add1_any k s c A l d w.heap.size w' xs q hX' hl hd
    | 1, _ => exact add2_any k s c A l d w.heap.size (w.heap.size + 1) w' x q q1
    | 2, _ => exact add3_any k s c A l d w.heap.size (w.heap.size + 1) w' xs x q q1 hX' (Nat.le_trans hl hd)
    | 3, _ =>
      rw [← hxl] at q
      exact add4_any k s c A xs.length d w.heap.size w' q
def zI (e v : Int) : Int := if e = 0 then v else 0
theorem addE_ok {k s c : Int} {xs : List SymR} {x : SymR} (h : addE k s c xs x = 0) : storeB k s c xs = true ∧ (x.2.size : Int) = s ∧ hasI xs x.1 = false ∧ (xs.length : Int) < c ∧ c ≤ 64 := by
  unfold addE at h
  split at h
  case isFalse => cases h
  case isTrue hs =>
    unfold whyI at h
    split at h
    case isTrue => cases h
    case isFalse h1 =>
      split at h
      case isTrue => cases h
      case isFalse h2 =>
        split at h
        case isTrue => cases h
        case isFalse h3 =>
          have h4 := hs
          unfold storeB kB at h4
          simp only [Bool.and_eq_true, decide_eq_true_eq] at h4
          simp at h1 h2 h3
          exact ⟨hs, h1, by simpa using h2, by omega, h4.1.1.1.2.2⟩
set_option maxHeartbeats 2000000 in
theorem eadd_no (k s c : Int) (A : Option Addr) (l d : Nat) (xs : List SymR) (x : SymR) (w : World) (hx : Syms w A l xs) (hl : l ≤ d) (hd : d ≤ maxLen) (he : addE k s c xs x ≠ 0) :
    Calls Tryz.prog 22 #[.agg #[.int .i64 k, .int .i64 s, .int .i64 c, .slice A l d], .agg #[.int .u64 (x.1 : Int), .string x.2]] w (StoreOut 0 0 0 [] (addE k s c xs x) w) := by
  obtain ⟨Q0, Q1, Q2, F, b1⟩ := addW_three k s c A l d x w
  have HC := Lib.hid (efirst_any (w.heap.size + 3) 0 4 (addFs w.heap.size) (addAns k s c xs x) _ (by show 4 ≤ 100; omega) (addAsked k s c A l d xs x w hx hl hd))
  rw [addAns_eq, show (addAns k s c xs x).length = 4 from rfl] at HC
  have HB := Lib.hid b1
  have HQ2 := Lib.hid Q2
  generalize addE k s c xs x = er at *
  have t1 : (er != 0) = true := by simpa using he
  clear hx b1 Q0 Q1 Q2 F he
  go_enter Tryz.func22, Tryz.ntmps22
  go_wp2_with fail
  refine HC.out.mono ?_
  rintro e w1 ⟨rfl, hb⟩
  replace HB := Lib.hid (chain HB.out hb)
  replace HQ2 := Lib.hid (HQ2.out.keep hb)
  clear hb HC
  obtain ⟨s0, s1, s2, s3, f0, f1, f2, f3⟩ := HQ2.out.four
  go_wp2_with fail
  refine close_cell Tryz.results22 rfl rfl rfl HQ2.out.put4 Tryz.underlying24 rfl (by kernel_rfl) ⟨none, 0, rfl, Recs.nil _ _, Nat.le_refl _, Nat.zero_le _, fun _ => rfl, below_set4 HB.out (by omega) _ _ _ _⟩
theorem own_cap {w : World} {base e size n c : Nat} {A : Option Addr} {xs : List Value} (h : w.ownsRow base e size (.slice A n c) n xs) : n ≤ c ∧ c ≤ maxLen ∧ (A = none → c = 0) ∧ (∀ b, A = some b → base ≤ b.block) := by
  rcases h.2 with ⟨hv, h0⟩ | ⟨g, cap, cur, hv, hb, hh, hn, hm, -⟩
  · injection hv with h1 h2 h3
    subst h1 h3 h0
    exact ⟨Nat.le_refl _, Nat.zero_le _, fun _ => rfl, fun b hb => by cases hb⟩
  · injection hv with h1 h2 h3
    subst h1 h3
    exact ⟨hn, hm, fun h => (by cases h), fun b hb2 => by injection hb2 with hb2; subst hb2; exact hb⟩
theorem add_own {x w5 : World} {o : Obj} {g n c5 : Nat} {A5 : Option Addr} {xs : List SymR} {y : SymR} {e : TypeId} (h : w5.ownsRow (x.alloc o).drew.heap.size e 2 (.slice A5 n c5) n (xs.flatMap encS ++ encS y)) (hg : g + 4 ≤ x.heap.size) :
    Syms w5 A5 n (xs ++ [y]) ∧ n ≤ c5 ∧ c5 ≤ maxLen ∧ (A5 = none → c5 = 0) ∧ ∀ b off, A5 = some ⟨b, off, none⟩ → g + 4 ≤ b := by
  obtain ⟨h1, h2, h3, h4⟩ := own_cap h
  rw [← flat_snoc] at h
  refine ⟨own_recs encS_len h (by omega), h1, h2, h3, fun b off hb => ?_⟩
  have := h4 _ hb
  have e1 : (x.alloc o).drew.heap.size = x.heap.size + 1 := by show (x.alloc o).heap.size = _; simp
  rw [e1] at this
  have : x.heap.size + 1 ≤ b := this
  omega
theorem add_close {w w6 : World} {g n c5 : Nat} {A5 : Option Addr} {k s c : Int} {zs : List SymR} {u0 u1 u2 u3 : Value} (hg : w.heap.size = g) (hb : Below g w w6) (hs : Syms w6 A5 n zs) (h1 : n ≤ c5) (h2 : c5 ≤ maxLen) (h3 : A5 = none → c5 = 0) (h4 : ∀ b off, A5 = some ⟨b, off, none⟩ → g + 4 ≤ b) (hz : zs.length = n) :
    StoreOut k s c zs 0 w (.returned (.tuple #[.agg #[.int .i64 k, .int .i64 s, .int .i64 c, .slice A5 n c5], .int .i64 0])) ((((w6.setCell ⟨g + 2, 0, none⟩ u0).setCell ⟨g + 2, 1, none⟩ u1).setCell ⟨g + 2, 2, none⟩ u2).setCell ⟨g + 2, 3, none⟩ u3) := by
  subst hz
  subst hg
  refine ⟨A5, c5, rfl, Recs.far4 hs (fun b off hb _ => by have := h4 b off hb; omega) _ _ _ _, h1, h2, h3, below_set4 hb (by omega) _ _ _ _⟩
set_option maxHeartbeats 4000000 in
theorem eadd_yes (k s c : Int) (A : Option Addr) (l d : Nat) (xs : List SymR) (x : SymR) (w : World) (hx : Syms w A l xs) (hl : l ≤ d) (hd : d ≤ maxLen) (hn : A = none → d = 0) (he : addE k s c xs x = 0) :
    Calls Tryz.prog 22 #[.agg #[.int .i64 k, .int .i64 s, .int .i64 c, .slice A l d], .agg #[.int .u64 (x.1 : Int), .string x.2]] w (StoreOut k s c (xs ++ [x]) 0 w) := by
  obtain ⟨Q0, Q1, Q2, F, b1⟩ := addW_three k s c A l d x w
  have HC := Lib.hid (efirst_any (w.heap.size + 3) 0 4 (addFs w.heap.size) (addAns k s c xs x) _ (by show 4 ≤ 100; omega) (addAsked k s c A l d xs x w hx hl hd))
  rw [addAns_eq, show (addAns k s c xs x).length = 4 from rfl, he] at HC
  obtain ⟨-, -, -, hlc, hc64⟩ := addE_ok he
  rw [hx.1] at hlc
  have HL := Lib.hid hx.1
  have hl64 : l < 64 := by omega
  have HB := Lib.hid b1
  have HQ0 := Lib.hid Q0
  have HQ1 := Lib.hid Q1
  have HQ2 := Lib.hid Q2
  have HX := Lib.hid (hx.below b1)
  obtain ⟨i0, hi, hz0, hz1, hz2⟩ := info_parts sym12_info
  have HI := Lib.hid hi
  have HZ0 := Lib.hid hz0
  have HZ1 := Lib.hid hz1
  have HZ2 := Lib.hid hz2
  have hld : (l : Int) ≤ (d : Int) := by omega
  have hl0 : (0 : Int) ≤ (l : Int) := by omega
  have LO := Lib.hid (show (xs.flatMap encS).length = l * 2 by rw [flat_len encS_len, HL.out])
  have LN := Lib.hid (show (encS x).length = 1 * 2 from rfl)
  have a1 : l < l + 1 := by omega
  have a2 : l + 1 ≤ maxLen := by unfold maxLen; omega
  have a3 : (l + 1) * 24 ≤ 140737488355328 := by omega
  have HA0 := Lib.hid (show A = none → l = 0 ∧ l = 0 from fun h => by have := hn h; omega)
  have HAd := Lib.hid (show ∀ ad : Addr, ad.add 0 = ad from fun ad => by unfold Addr.add; simp)
  clear hx b1 Q0 Q1 Q2 F he hi hz0 hz1 hz2 hd hc64 hlc
  go_enter Tryz.func22, Tryz.ntmps22
  go_wp2_with fail
  refine HC.out.mono ?_
  rintro e w1 ⟨rfl, hb⟩
  have HSZ := Lib.hid (show w.heap.size + 4 ≤ w1.heap.size by have := hb.size; simpa using this)
  replace HB := Lib.hid (chain HB.out hb)
  replace HQ0 := Lib.hid (HQ0.out.keep hb)
  replace HQ1 := Lib.hid (HQ1.out.keep hb)
  replace HQ2 := Lib.hid (HQ2.out.keep hb)
  replace HX := Lib.hid (HX.out.below hb)
  clear hb HC
  obtain ⟨r0, r1, r2, r3, e0, e1, e2, e3⟩ := HQ0.out.four
  obtain ⟨z0, z1, -, -⟩ := HQ1.out.two
  go_wp2_with fail
  have LH := Lib.hid ((HX.out.alloc (.cells #[.int .u64 (x.1 : Int), .string x.2] 46)).drew.news encS_len (by omega))
  have NH := Lib.hid (news_drew12 (World.news_of_block (Box.new w1 46 #[.int .u64 (x.1 : Int), .string x.2])))
  have NE := Lib.hid (encS_one x)
  obtain ⟨-, -, -, q3, -, -, -, -⟩ := (HQ0.out.alloc (.cells #[.int .u64 (x.1 : Int), .string x.2] 46)).four
  cases A with
  | none =>
    obtain ⟨hl1, -⟩ := HA0.out rfl
    subst hl1
    go_region_law (first
      | (refine step_growsO rfl (.tmp 25) (.tmp 27) 22 rfl 46 i0 (.agg #[.int .u64 0, .string ⟨#[]⟩]) 2 24 Tryz.underlying22 HI.out HZ0.out HZ1.out HZ2.out rfl (by decide) none 0 0 (xs.flatMap encS) ?_ HA0.out LO.out LH.out ⟨w1.heap.size, 0, none⟩ 1 1 (encS x) ?_ LN.out NH.out NE.out a1 a2 a3 ?_; simp [Act.eval, Act.put]; simp [Act.eval, Act.put]; intro v5 w5 hown hgrow; obtain ⟨A5, c5, rfl, -⟩ := own_form hown; have hb5 := below_grown12 hgrow; have HB5 := Lib.hid (chain HB.out hb5); have P0 := Lib.hid (HQ0.out.keep hb5); have P2 := Lib.hid (HQ2.out.keep hb5); have HO := Lib.hid (add_own hown HSZ.out); clear hown hgrow hb5; obtain ⟨y0, y1, y2, y3, f0, f1, f2, f3⟩ := P0.out.four))
    all_goals
      have HB6 := Lib.hid (HB5.out.setCell (p := ⟨w.heap.size, 3, none⟩) (Nat.le_refl _) (.slice A5 (1) c5))
      have HS6 := Lib.hid (Recs.farB HO.out.1 (g := w.heap.size) (fun b off hb _ => by have := HO.out.2.2.2.2 b off hb; omega) 3 (.slice A5 (1) c5))
      have P0 := Lib.hid (show Box (w5.setCell ⟨w.heap.size, 3, none⟩ (.slice A5 (1) c5)) w.heap.size 24 #[.int .i64 k, .int .i64 s, .int .i64 c, .slice A5 (1) c5] from P0.out.put 3 (.slice A5 (1) c5))
      have P2 := Lib.hid (P2.out.far (p := ⟨w.heap.size, 3, none⟩) (by simp) (.slice A5 (1) c5))
      clear y0 y1 y2 y3 f0 f1 f2 f3 r0 r1 r2 r3 e0 e1 e2 e3 q3
      generalize w5.setCell ⟨w.heap.size, 3, none⟩ (.slice A5 (1) c5) = w6 at *
      obtain ⟨r0, r1, r2, r3, -, -, -, -⟩ := P0.out.four
      obtain ⟨s0, s1, s2, s3, f0, f1, f2, f3⟩ := P2.out.four
      go_wp2_with fail
      refine close_cell Tryz.results22 rfl rfl rfl P2.out.put4 Tryz.underlying24 rfl (by kernel_rfl) (add_close rfl HB6.out HS6.out HO.out.2.1 HO.out.2.2.1 HO.out.2.2.2.1 HO.out.2.2.2.2 (by rw [List.length_append, HL.out]; rfl))
  | some ad =>
    go_region_law (first
      | (refine step_growsO rfl (.tmp 25) (.tmp 27) 22 rfl 46 i0 (.agg #[.int .u64 0, .string ⟨#[]⟩]) 2 24 Tryz.underlying22 HI.out HZ0.out HZ1.out HZ2.out rfl (by decide) (some ad) l l (xs.flatMap encS) ?_ HA0.out LO.out LH.out ⟨w1.heap.size, 0, none⟩ 1 1 (encS x) ?_ LN.out NH.out NE.out a1 a2 a3 ?_; simp [Act.eval, Act.put]; simp [Act.eval, Act.put]; intro v5 w5 hown hgrow; obtain ⟨A5, c5, rfl, -⟩ := own_form hown; have hb5 := below_grown12 hgrow; have HB5 := Lib.hid (chain HB.out hb5); have P0 := Lib.hid (HQ0.out.keep hb5); have P2 := Lib.hid (HQ2.out.keep hb5); have HO := Lib.hid (add_own hown HSZ.out); clear hown hgrow hb5; obtain ⟨y0, y1, y2, y3, f0, f1, f2, f3⟩ := P0.out.four))
    all_goals
      have HB6 := Lib.hid (HB5.out.setCell (p := ⟨w.heap.size, 3, none⟩) (Nat.le_refl _) (.slice A5 (l + 1) c5))
      have HS6 := Lib.hid (Recs.farB HO.out.1 (g := w.heap.size) (fun b off hb _ => by have := HO.out.2.2.2.2 b off hb; omega) 3 (.slice A5 (l + 1) c5))
      have P0 := Lib.hid (show Box (w5.setCell ⟨w.heap.size, 3, none⟩ (.slice A5 (l + 1) c5)) w.heap.size 24 #[.int .i64 k, .int .i64 s, .int .i64 c, .slice A5 (l + 1) c5] from P0.out.put 3 (.slice A5 (l + 1) c5))
      have P2 := Lib.hid (P2.out.far (p := ⟨w.heap.size, 3, none⟩) (by simp) (.slice A5 (l + 1) c5))
      clear y0 y1 y2 y3 f0 f1 f2 f3 r0 r1 r2 r3 e0 e1 e2 e3 q3
      generalize w5.setCell ⟨w.heap.size, 3, none⟩ (.slice A5 (l + 1) c5) = w6 at *
      obtain ⟨r0, r1, r2, r3, -, -, -, -⟩ := P0.out.four
      obtain ⟨s0, s1, s2, s3, f0, f1, f2, f3⟩ := P2.out.four
      go_wp2_with fail
      refine close_cell Tryz.results22 rfl rfl rfl P2.out.put4 Tryz.underlying24 rfl (by kernel_rfl) (add_close rfl HB6.out HS6.out HO.out.2.1 HO.out.2.2.1 HO.out.2.2.2.1 HO.out.2.2.2.2 (by rw [List.length_append, HL.out]; rfl))
end
section
/- Contracts of layer 12: the reference's Add, Bytes. -/
set_option linter.unusedVariables false
set_option linter.unusedSimpArgs false
open Go.RowKit
set_option maxRecDepth 100000
theorem Syms.news1 {w : World} {A : Option Addr} {l : Nat} {xs : List SymR} (h : Syms w A l xs) : ∀ ad, A = some ad → ∀ j u, (xs.flatMap encS)[j]? = some u → w.cell? (ad.add j) = some u := Recs.news h encS_len (by omega)
/-- A store is returned. -/
def StoreOne (k s c : Int) (xs : List SymR) (w : World) (e : Ending) (w' : World) : Prop :=
  ∃ A d, e = .returned (.agg #[.int .i64 k, .int .i64 s, .int .i64 c, .slice A xs.length d]) ∧ Syms w' A xs.length xs ∧ xs.length ≤ d ∧ d ≤ maxLen ∧ (A = none → d = 0) ∧ (∀ b off, A = some ⟨b, off, none⟩ → w.heap.size ≤ b) ∧ Below w.heap.size w w'
abbrev raW (k s c : Int) (A : Option Addr) (l d : Nat) (x : SymR) (w : World) : World :=
  (addW3 k s c A l d x w).alloc (.cells #[.int .i64 k, .int .i64 s, .int .i64 c, .slice none 0 0] 24)
theorem raW_four (k s c : Int) (A : Option Addr) (l d : Nat) (x : SymR) (w : World) :
    Box (raW k s c A l d x w) w.heap.size 24 #[.int .i64 k, .int .i64 s, .int .i64 c, .slice A l d] ∧ Box (raW k s c A l d x w) (w.heap.size + 1) 46 #[.int .u64 (x.1 : Int), .string x.2] ∧ Box (raW k s c A l d x w) (w.heap.size + 2) 24 #[.int .i64 0, .int .i64 0, .int .i64 0, .slice none 0 0] ∧ Box (raW k s c A l d x w) (w.heap.size + 3) 24 #[.int .i64 k, .int .i64 s, .int .i64 c, .slice none 0 0] ∧ Below w.heap.size w (raW k s c A l d x w) := by
  refine ⟨?_, ?_, ?_, ?_, ?_⟩
  · exact (((Box.new w _ _).alloc _).alloc _).alloc _
  · have q := ((Box.new (w.alloc (.cells #[.int .i64 k, .int .i64 s, .int .i64 c, .slice A l d] 24)) 46 #[.int .u64 (x.1 : Int), .string x.2]).alloc (.cells #[.int .i64 0, .int .i64 0, .int .i64 0, .slice none 0 0] 24)).alloc (.cells #[.int .i64 k, .int .i64 s, .int .i64 c, .slice none 0 0] 24)
    simpa only [World.size_alloc] using q
  · have q := (Box.new ((w.alloc (.cells #[.int .i64 k, .int .i64 s, .int .i64 c, .slice A l d] 24)).alloc (.cells #[.int .u64 (x.1 : Int), .string x.2] 46)) 24 #[.int .i64 0, .int .i64 0, .int .i64 0, .slice none 0 0]).alloc (.cells #[.int .i64 k, .int .i64 s, .int .i64 c, .slice none 0 0] 24)
    simpa only [World.size_alloc] using q
  · have q := Box.new (addW3 k s c A l d x w) 24 #[.int .i64 k, .int .i64 s, .int .i64 c, .slice none 0 0]
    simpa only [World.size_alloc] using q
  · exact ((((Below.refl _ _).alloc (Nat.le_refl _) _).alloc (by simp) _).alloc (by simp; omega) _).alloc (by simp; omega) _
theorem raW_size (k s c : Int) (A : Option Addr) (l d : Nat) (x : SymR) (w : World) : (raW k s c A l d x w).heap.size = w.heap.size + 4 := by simp
theorem own_row_ne {w : World} {base e size n g : Nat} {v : Value} {xs : List Value} (h : w.ownsRow base e size v n xs) (hg : g < base) : v.ownBlock ≠ some g := fun e => absurd (h.lt g e).1 (by omega)
theorem own_row_le {w : World} {base e size n : Nat} {v : Value} {xs : List Value} (h : w.ownsRow (base + 4) e size v n xs) : ∀ k, v.ownBlock = some k → base ≤ k := fun k hk => by have := (h.lt k hk).1; omega
theorem own_out {w5 : World} {g n c5 : Nat} {A5 : Option Addr} {xs : List SymR} {y : SymR} {e : TypeId} (h : w5.ownsRow (g + 4) e 2 (.slice A5 n c5) n (xs.flatMap encS ++ encS y)) :
    Syms w5 A5 n (xs ++ [y]) ∧ n ≤ c5 ∧ c5 ≤ maxLen ∧ (A5 = none → c5 = 0) ∧ ∀ b off, A5 = some ⟨b, off, none⟩ → g + 4 ≤ b := by
  obtain ⟨h1, h2, h3, h4⟩ := own_cap h
  rw [← flat_snoc] at h
  exact ⟨own_recs encS_len h (by omega), h1, h2, h3, fun b off hb => h4 _ hb⟩
theorem second_append {w w5 : World} {A5 : Option Addr} {l c5 : Nat} {cs1 cs2 cs3 : Array Value} {T1 T2 T3 e : TypeId} {xs : List SymR} {x : SymR} (hz : w.heap.size + 4 ≤ w5.heap.size) (hb : Below w.heap.size w w5) (p1 : Box w5 (w.heap.size + 1) T1 cs1) (p2 : Box w5 (w.heap.size + 2) T2 cs2) (p3 : Box w5 (w.heap.size + 3) T3 cs3)
    (ho : w5.ownsRow (w.heap.size + 4) e 2 (.slice A5 l c5) l (xs.flatMap encS)) (hne : e ≠ T3) :
    ((w5.setCell ⟨w.heap.size + 3, 3, none⟩ (.slice A5 l c5)).alloc (.cells #[.int .u64 (x.1 : Int), .string x.2] 46)).ownsRow (w.heap.size + 4) e 2 (.slice A5 l c5) l (xs.flatMap encS) ∧
    (∀ j u, (encS x)[j]? = some u → ((w5.setCell ⟨w.heap.size + 3, 3, none⟩ (.slice A5 l c5)).alloc (.cells #[.int .u64 (x.1 : Int), .string x.2] 46)).cell? ((⟨w5.heap.size, 0, none⟩ : Addr).add j) = some u) ∧
    w.heap.size + 4 ≤ ((w5.setCell ⟨w.heap.size + 3, 3, none⟩ (.slice A5 l c5)).alloc (.cells #[.int .u64 (x.1 : Int), .string x.2] 46)).heap.size ∧
    Box ((w5.setCell ⟨w.heap.size + 3, 3, none⟩ (.slice A5 l c5)).alloc (.cells #[.int .u64 (x.1 : Int), .string x.2] 46)) (w.heap.size + 2) T2 cs2 ∧
    Box ((w5.setCell ⟨w.heap.size + 3, 3, none⟩ (.slice A5 l c5)).alloc (.cells #[.int .u64 (x.1 : Int), .string x.2] 46)) (w.heap.size + 3) T3 (cs3.setIfInBounds 3 (.slice A5 l c5)) ∧
    Below w.heap.size w ((w5.setCell ⟨w.heap.size + 3, 3, none⟩ (.slice A5 l c5)).alloc (.cells #[.int .u64 (x.1 : Int), .string x.2] 46)) := by
  have e1 : (w5.setCell ⟨w.heap.size + 3, 3, none⟩ (.slice A5 l c5)).heap.size = w5.heap.size := by simp [World.setCell]
  refine ⟨World.ownsRow.alloc (own_far ho p3 hne 3 _) _, ?_, ?_, (p2.far (p := ⟨w.heap.size + 3, 3, none⟩) (by simp) _).alloc _, (p3.put 3 _).alloc _, ?_⟩
  · have := World.news_of_block (Box.new (w5.setCell ⟨w.heap.size + 3, 3, none⟩ (.slice A5 l c5)) 46 #[.int .u64 (x.1 : Int), .string x.2])
    rw [e1] at this
    exact this
  · rw [World.size_alloc, e1]; omega
  · refine (hb.setCell (p := ⟨w.heap.size + 3, 3, none⟩) (by show w.heap.size ≤ w.heap.size + 3; omega) _).alloc ?_ _
    rw [e1]; omega
theorem add_close1 {w w7 : World} {l c7 : Nat} {A7 : Option Addr} {k s c : Int} {xs : List SymR} {x : SymR} {u0 u1 u2 u3 u : Value} (hb : Below w.heap.size w w7) (h : Syms w7 A7 (l + 1) (xs ++ [x]) ∧ l + 1 ≤ c7 ∧ c7 ≤ maxLen ∧ (A7 = none → c7 = 0) ∧ ∀ b off, A7 = some ⟨b, off, none⟩ → w.heap.size + 4 ≤ b) (hl : xs.length = l) :
    StoreOne k s c (xs ++ [x]) w (.returned (.agg #[.int .i64 k, .int .i64 s, .int .i64 c, .slice A7 (l + 1) c7])) (((((w7.setCell ⟨w.heap.size + 3, 3, none⟩ u).setCell ⟨w.heap.size + 2, 0, none⟩ u0).setCell ⟨w.heap.size + 2, 1, none⟩ u1).setCell ⟨w.heap.size + 2, 2, none⟩ u2).setCell ⟨w.heap.size + 2, 3, none⟩ u3) := by
  have e : (xs ++ [x]).length = l + 1 := by rw [List.length_append, hl]; rfl
  unfold StoreOne
  rw [e]
  refine ⟨A7, c7, rfl, Recs.far4 (Recs.farB h.1 (fun b off hb _ => ?_) _ _) (fun b off hb _ => ?_) _ _ _ _, h.2.1, h.2.2.1, h.2.2.2.1, fun b off hb => by (have := h.2.2.2.2 b off hb; omega), below_set4 (hb.setCell (p := ⟨w.heap.size + 3, 3, none⟩) (by show w.heap.size ≤ w.heap.size + 3; omega) _) (by omega) _ _ _ _⟩
  · have := h.2.2.2.2 b off hb; omega
  · have := h.2.2.2.2 b off hb; omega
end
section
/- Law 12: few, alive. -/
set_option linter.unusedVariables false
set_option linter.unusedSimpArgs false
open Go.RowKit
set_option maxRecDepth 100000
def cutX (s : ByteArray) : ByteArray := s.extract 0 (min s.size 66)
theorem cutX_size (s : ByteArray) : (cutX s).size ≤ 66 := by simp [cutX, ByteArray.size_extract]; omega
theorem cutX_min (s : ByteArray) (m : Nat) (hm : (m : Int) = min (s.size : Int) 66) : s.extract 0 m = cutX s := by
  unfold cutX
  congr 1
  omega
def cutP (x : SymR) : SymR := (x.1, cutX x.2)
def fewS (xs : List SymR) (k : Nat) : List SymR := (xs.take k).map cutP
theorem fewS_succ (xs : List SymR) (k : Nat) (h : k < xs.length) : fewS xs (k + 1) = fewS xs k ++ [((xs.getD k default).1, cutX (xs.getD k default).2)] := by
  unfold fewS
  rw [take_snocD xs k h, List.map_append]; rfl
theorem fewS_len (xs : List SymR) (k : Nat) : (fewS xs k).length = min k xs.length := by simp [fewS]
theorem fewS_all (xs : List SymR) (k : Nat) (h : xs.length = k) (h2 : k ≤ 66) : fewS xs k = fewS xs 66 := by
  unfold fewS
  rw [List.take_of_length_le (by omega), List.take_of_length_le (by omega)]
theorem fewS_id (xs : List SymR) (h : ∀ j, (xs.getD j default).1 < 18446744073709551616) (k : Nat) : ∀ j, ((fewS xs k).getD j default).1 < 18446744073709551616 := fun j => by
  unfold fewS
  by_cases hj : j < (xs.take k).length
  · have e : ((xs.take k).map cutP).getD j default = cutP ((xs.take k).getD j default) := by simp only [List.getD, List.getElem?_map, List.getElem?_eq_getElem hj]; rfl
    rw [e]
    have e2 : (xs.take k).getD j default = xs.getD j default := by
      rw [List.length_take] at hj
      simp only [List.getD, List.getElem?_take_of_lt (show j < k by omega)]
    rw [e2]; exact h j
  · have e : ((xs.take k).map cutP).getD j default = default := by
      simp only [List.getD]
      rw [List.getElem?_eq_none (by rw [List.length_map]; omega)]; rfl
    rw [e]; decide
abbrev fewW (k s c : Int) (A : Option Addr) (l d : Nat) (w : World) : World :=
  (w.alloc (.cells #[.int .i64 k, .int .i64 s, .int .i64 c, .slice A l d] 24)).alloc (.cells #[.int .i64 0, .int .i64 0, .int .i64 0, .slice none 0 0] 24)
theorem fewW_two (k s c : Int) (A : Option Addr) (l d : Nat) (w : World) :
    Box (fewW k s c A l d w) w.heap.size 24 #[.int .i64 k, .int .i64 s, .int .i64 c, .slice A l d] ∧ Box (fewW k s c A l d w) (w.heap.size + 1) 24 #[.int .i64 0, .int .i64 0, .int .i64 0, .slice none 0 0] ∧ Below w.heap.size w (fewW k s c A l d w) ∧ (fewW k s c A l d w).heap.size = w.heap.size + 2 := by
  refine ⟨(Box.new w _ _).alloc _, ?_, ((Below.refl _ _).alloc (Nat.le_refl _) _).alloc (by simp) _, by simp⟩
  have q := Box.new (w.alloc (.cells #[.int .i64 k, .int .i64 s, .int .i64 c, .slice A l d] 24)) 24 #[.int .i64 0, .int .i64 0, .int .i64 0, .slice none 0 0]
  simpa only [World.size_alloc] using q
theorem few_close {w wr : World} {k s c : Int} {zs : List SymR} {v : Value} {n : Nat} {A7 : Option Addr} {c7 : Nat} {e : TypeId} {u u0 u1 u2 u3 : Value} (hb : Below w.heap.size w wr) (hv : v = .slice A7 n c7) (ho : wr.ownsRow (w.heap.size + 2) e 2 v n (zs.flatMap encS)) (hl : zs.length = n) :
    StoreOne k s c zs w (.returned (.agg #[.int .i64 k, .int .i64 s, .int .i64 c, .slice A7 n c7])) (((((wr.setCell ⟨w.heap.size, 3, none⟩ u).setCell ⟨w.heap.size + 1, 0, none⟩ u0).setCell ⟨w.heap.size + 1, 1, none⟩ u1).setCell ⟨w.heap.size + 1, 2, none⟩ u2).setCell ⟨w.heap.size + 1, 3, none⟩ u3) := by
  subst hv
  subst hl
  obtain ⟨h1, h2, h3, h4⟩ := own_cap ho
  refine ⟨A7, c7, rfl, Recs.far4 (Recs.farB (own_recs encS_len ho (by omega)) (fun b off hb _ => ?_) _ _) (fun b off hb _ => ?_) _ _ _ _, h1, h2, h3, fun b off hb => ?_, below_set4 (hb.setCell (p := ⟨w.heap.size, 3, none⟩) (Nat.le_refl _) _) (by omega) _ _ _ _⟩
  · have h5 : w.heap.size + 2 ≤ b := h4 _ hb
    omega
  · have h5 : w.heap.size + 2 ≤ b := h4 _ hb
    omega
  · have h5 : w.heap.size + 2 ≤ b := h4 _ hb
    omega
theorem cutX_id (s : ByteArray) (h : s.size ≤ 66) : s = cutX s := by
  have := cutX_min s s.size (by omega)
  rw [← this, ByteArray.extract_zero_size]
theorem cut_world {wr W2 : World} {B : Nat} (hb : Below B W2 wr) (hB : B ≤ wr.heap.size) (a : Int) (t : ByteArray) :
    Below wr.heap.size wr ((wr.alloc (.cells #[.int .u64 a, .string t] 46)).alloc (.cells #[.int .u64 a, .string t] 46)) ∧
    (∀ j u, ([Value.int .u64 a, Value.string t])[j]? = some u → ((wr.alloc (.cells #[.int .u64 a, .string t] 46)).alloc (.cells #[.int .u64 a, .string t] 46)).cell? ((⟨wr.heap.size + 1, 0, none⟩ : Addr).add j) = some u) ∧
    B ≤ ((wr.alloc (.cells #[.int .u64 a, .string t] 46)).alloc (.cells #[.int .u64 a, .string t] 46)).heap.size := by
  have e1 : (wr.alloc (.cells #[.int .u64 a, .string t] 46)).heap.size = wr.heap.size + 1 := by simp
  refine ⟨((Below.refl _ _).alloc (Nat.le_refl _) _).alloc (by rw [e1]; omega) _, ?_, ?_⟩
  · have := World.news_of_block (Box.new (wr.alloc (.cells #[.int .u64 a, .string t] 46)) 46 #[.int .u64 a, .string t])
    rw [e1] at this
    exact this
  · rw [World.size_alloc, e1]; omega
set_option maxHeartbeats 4000000 in
theorem few12_short (k s c : Int) (ad : Addr) (l d : Nat) (xs : List SymR) (w : World) (hx : Syms w (some ad) l xs) (hk : l ≤ 66) (hl : l ≤ d) (hd : d ≤ maxLen) (hd0 : ¬ d = 0) :
    Calls Tryz.prog 4 #[.agg #[.int .i64 k, .int .i64 s, .int .i64 c, .slice (some ad) l d]] w (StoreOne k s c (fewS xs l) w) := by
  obtain ⟨i0, hi, hz0, hz1, hz2⟩ := info_parts sym12_info
  have HI := Lib.hid hi
  have HZ0 := Lib.hid hz0
  have HZ1 := Lib.hid hz1
  have HZ2 := Lib.hid hz2
  obtain ⟨Q0, Q1, b1, sz⟩ := fewW_two k s c (some ad) l d w
  have HQ0 := Lib.hid Q0
  have HQ1 := Lib.hid Q1
  have HX := Lib.hid (hx.below b1)
  have HXl := Lib.hid hx.1
  have HB0 := Lib.hid b1
  have SZ := Lib.hid sz
  have HOW := Lib.hid (World.ownsRow_nil (fewW k s c (some ad) l d w) (w.heap.size + 2) 46 2)
  unfold maxLen at hd
  have hkk1 : l ≤ l := by omega
  have hkk2 : l ≤ 66 := by omega
  have hkk3 : l ≤ d := by omega
  have mkk : (l : Int) ≤ 66 := by omega
  obtain ⟨r0, r1, r2, r3, -, -, -, -⟩ := Q0.four
  clear hi hz0 hz1 hz2 hx b1 sz Q0 Q1
  go_enter Tryz.func4, Tryz.ntmps4
  go_wp2_with fail
  clear r0 r1 r2 r3
  go_loopw [3, 14] (fun v t wr => ∃ i : Nat, i ≤ l ∧ t = .int .i64 i ∧ wr.ownsRow (w.heap.size + 2) 46 2 v i ((fewS xs i).flatMap encS) ∧ Below (w.heap.size + 2) (fewW k s c (some ad) l d w) wr) (fun _ t _ => l - (intOf t).toNat)
  case atStart => exact ⟨0, Nat.zero_le _, rfl, HOW.out, Below.refl _ _⟩
  case round =>
    obtain ⟨i, hi, rfl, hown, hbel⟩ := hrel
    have HO := Lib.hid hown
    have HB := Lib.hid hbel
    have SZr := Lib.hid (show w.heap.size + 2 ≤ wr.heap.size from by have := hbel.size; rw [SZ.out] at this; exact this)
    clear hown hbel HOW
    by_cases hlt : i < l
    · have hlt' : (i : Int) < (l : Int) := Int.ofNat_lt.2 hlt
      obtain ⟨b, off, hA, hb, x0, x1⟩ := Syms.two HX.out i (by omega)
      obtain rfl := Option.some.inj hA
      rw [SZ.out] at hb
      have x0 := (HB.out.cell (p := ⟨b, off + i * 2, none⟩) hb).trans x0
      have x1 := (HB.out.cell (p := ⟨b, off + i * 2 + 1, none⟩) hb).trans x1
      have HS := Lib.hid (fewS_succ xs i (by rw [HXl.out]; omega))
      generalize xs.getD i default = p at *
      obtain ⟨p0, p1⟩ := p
      dsimp only at x0 x1 HS
      by_cases hm : p1.size ≤ 66
      · have hm1 : (p1.size : Int) ≤ 66 := by omega
        have HE := Lib.hid (cutX_id p1 hm)
        have G := Lib.hid (Box.new wr 46 #[.int .u64 (p0 : Nat), .string p1])
        have HW := Lib.hid (cut_world HB.out SZr.out (p0 : Nat) p1)
        have XO := Lib.hid (own_keep HO.out HW.out.1)
        have XB := Lib.hid (HB.out.trans (HW.out.1.mono SZr.out))
        have N2 := Lib.hid (fun g hg => (HO.out.lt g hg).1)
        obtain ⟨g0, g1, f0, f1⟩ := G.out.two
        clear G
        go_wp2_with (at_builtin; refine wpList_append_own _ rfl _ _ 22 rfl (w.heap.size + 2) 46 i0 (.agg #[.int .u64 0, .string ⟨#[]⟩]) 2 24 Tryz.underlying22 HI.out HZ0.out HZ1.out HZ2.out rfl (by decide) _ _ _ rfl XO.out ⟨wr.heap.size + 1, 0, none⟩ 1 1 [.int .u64 (p0 : Nat), .string p1] rfl rfl HW.out.2.1 (by simp [Value.oneCell']) (by simp [maxLen]; omega) (by omega) HW.out.2.2 ?_; intro v' w1 hown' hgrow _; have HC := Lib.hid (XB.out.grown hgrow (Nat.le_trans SZr.out HW.out.1.size) N2.out); have HO2 := Lib.hid hown'; clear hown' hgrow)
        go_roundw
        case rel =>
          refine ⟨i + 1, hlt, by go_num, ?_, HC.out⟩
          rw [HS.out, flat_snoc, ← HE.out]
          exact HO2.out
        case measure => simp [intOf] <;> omega
      · have hm1 : (66 : Int) < p1.size := by omega
        have hm2 : 66 ≤ p1.size := by omega
        have HE := Lib.hid (cutX_min p1 66 (by omega))
        have G := Lib.hid (Box.new wr 46 #[.int .u64 (p0 : Nat), .string p1])
        have HW := Lib.hid (cut_world HB.out SZr.out (p0 : Nat) (p1.extract 0 66))
        have XO := Lib.hid (own_keep HO.out HW.out.1)
        have XB := Lib.hid (HB.out.trans (HW.out.1.mono SZr.out))
        have N2 := Lib.hid (fun g hg => (HO.out.lt g hg).1)
        obtain ⟨g0, g1, f0, f1⟩ := G.out.two
        clear G
        go_wp2_with (at_builtin; refine wpList_append_own _ rfl _ _ 22 rfl (w.heap.size + 2) 46 i0 (.agg #[.int .u64 0, .string ⟨#[]⟩]) 2 24 Tryz.underlying22 HI.out HZ0.out HZ1.out HZ2.out rfl (by decide) _ _ _ rfl XO.out ⟨wr.heap.size + 1, 0, none⟩ 1 1 [.int .u64 (p0 : Nat), .string (p1.extract 0 66)] rfl rfl HW.out.2.1 (by simp [Value.oneCell']) (by simp [maxLen]; omega) (by omega) HW.out.2.2 ?_; intro v' w1 hown' hgrow _; have HC := Lib.hid (XB.out.grown hgrow (Nat.le_trans SZr.out HW.out.1.size) N2.out); have HO2 := Lib.hid hown'; clear hown' hgrow)
        go_roundw
        case rel =>
          refine ⟨i + 1, hlt, by go_num, ?_, HC.out⟩
          rw [HS.out, flat_snoc, ← HE.out]
          exact HO2.out
        case measure => simp [intOf] <;> omega
    · obtain rfl : l = i := by omega
      have hlt' : ¬ (l : Int) < (l : Int) := Int.lt_irrefl _
      have HCL := Lib.hid (show (fewS xs l).length = l by rw [fewS_len, HXl.out]; omega)
      have BB := Lib.hid (HB0.out.trans (HB.out.mono (by omega)))
      have Q0 := Lib.hid (HQ0.out.below HB.out (by omega))
      have Q1 := Lib.hid (HQ1.out.below HB.out (by omega))
      obtain ⟨r0, r1, r2, r3, e0, e1, e2, e3⟩ := Q0.out.four
      obtain ⟨s0, s1, s2, s3, f0, f1, f2, f3⟩ := Q1.out.four
      obtain ⟨A7, c7, hv, -⟩ := own_form HO.out
      subst hv
      go_wp2_with fail
      refine close_one Tryz.results4 rfl rfl (Q1.out.far (p := ⟨w.heap.size, 3, none⟩) (by simp) (.slice A7 l c7)).put4 Tryz.underlying24 rfl (by kernel_rfl) ?_
      exact few_close BB.out rfl HO.out HCL.out
set_option maxHeartbeats 4000000 in
theorem few12_long (k s c : Int) (ad : Addr) (l d : Nat) (xs : List SymR) (w : World) (hx : Syms w (some ad) l xs) (hk : 66 < l) (hl : l ≤ d) (hd : d ≤ maxLen) (hd0 : ¬ d = 0) :
    Calls Tryz.prog 4 #[.agg #[.int .i64 k, .int .i64 s, .int .i64 c, .slice (some ad) l d]] w (StoreOne k s c (fewS xs 66) w) := by
  obtain ⟨i0, hi, hz0, hz1, hz2⟩ := info_parts sym12_info
  have HI := Lib.hid hi
  have HZ0 := Lib.hid hz0
  have HZ1 := Lib.hid hz1
  have HZ2 := Lib.hid hz2
  obtain ⟨Q0, Q1, b1, sz⟩ := fewW_two k s c (some ad) l d w
  have HQ0 := Lib.hid Q0
  have HQ1 := Lib.hid Q1
  have HX := Lib.hid (hx.below b1)
  have HXl := Lib.hid hx.1
  have HB0 := Lib.hid b1
  have SZ := Lib.hid sz
  have HOW := Lib.hid (World.ownsRow_nil (fewW k s c (some ad) l d w) (w.heap.size + 2) 46 2)
  unfold maxLen at hd
  have hkk1 : 66 ≤ l := by omega
  have hkk2 : 66 ≤ 66 := by omega
  have hkk3 : 66 ≤ d := by omega
  have mkk : (66 : Int) < (l : Int) := by omega
  obtain ⟨r0, r1, r2, r3, -, -, -, -⟩ := Q0.four
  clear hi hz0 hz1 hz2 hx b1 sz Q0 Q1
  go_enter Tryz.func4, Tryz.ntmps4
  go_wp2_with fail
  clear r0 r1 r2 r3
  go_loopw [3, 14] (fun v t wr => ∃ i : Nat, i ≤ 66 ∧ t = .int .i64 i ∧ wr.ownsRow (w.heap.size + 2) 46 2 v i ((fewS xs i).flatMap encS) ∧ Below (w.heap.size + 2) (fewW k s c (some ad) l d w) wr) (fun _ t _ => 66 - (intOf t).toNat)
  case atStart => exact ⟨0, Nat.zero_le _, rfl, HOW.out, Below.refl _ _⟩
  case round =>
    obtain ⟨i, hi, rfl, hown, hbel⟩ := hrel
    have HO := Lib.hid hown
    have HB := Lib.hid hbel
    have SZr := Lib.hid (show w.heap.size + 2 ≤ wr.heap.size from by have := hbel.size; rw [SZ.out] at this; exact this)
    clear hown hbel HOW
    by_cases hlt : i < 66
    · have hlt' : (i : Int) < ((66 : Nat) : Int) := Int.ofNat_lt.2 hlt
      obtain ⟨b, off, hA, hb, x0, x1⟩ := Syms.two HX.out i (by omega)
      obtain rfl := Option.some.inj hA
      rw [SZ.out] at hb
      have x0 := (HB.out.cell (p := ⟨b, off + i * 2, none⟩) hb).trans x0
      have x1 := (HB.out.cell (p := ⟨b, off + i * 2 + 1, none⟩) hb).trans x1
      have HS := Lib.hid (fewS_succ xs i (by rw [HXl.out]; omega))
      generalize xs.getD i default = p at *
      obtain ⟨p0, p1⟩ := p
      dsimp only at x0 x1 HS
      by_cases hm : p1.size ≤ 66
      · have hm1 : (p1.size : Int) ≤ 66 := by omega
        have HE := Lib.hid (cutX_id p1 hm)
        have G := Lib.hid (Box.new wr 46 #[.int .u64 (p0 : Nat), .string p1])
        have HW := Lib.hid (cut_world HB.out SZr.out (p0 : Nat) p1)
        have XO := Lib.hid (own_keep HO.out HW.out.1)
        have XB := Lib.hid (HB.out.trans (HW.out.1.mono SZr.out))
        have N2 := Lib.hid (fun g hg => (HO.out.lt g hg).1)
        obtain ⟨g0, g1, f0, f1⟩ := G.out.two
        clear G
        go_wp2_with (at_builtin; refine wpList_append_own _ rfl _ _ 22 rfl (w.heap.size + 2) 46 i0 (.agg #[.int .u64 0, .string ⟨#[]⟩]) 2 24 Tryz.underlying22 HI.out HZ0.out HZ1.out HZ2.out rfl (by decide) _ _ _ rfl XO.out ⟨wr.heap.size + 1, 0, none⟩ 1 1 [.int .u64 (p0 : Nat), .string p1] rfl rfl HW.out.2.1 (by simp [Value.oneCell']) (by simp [maxLen]; omega) (by omega) HW.out.2.2 ?_; intro v' w1 hown' hgrow _; have HC := Lib.hid (XB.out.grown hgrow (Nat.le_trans SZr.out HW.out.1.size) N2.out); have HO2 := Lib.hid hown'; clear hown' hgrow)
        go_roundw
        case rel =>
          refine ⟨i + 1, hlt, by go_num, ?_, HC.out⟩
          rw [HS.out, flat_snoc, ← HE.out]
          exact HO2.out
        case measure => simp [intOf] <;> omega
      · have hm1 : (66 : Int) < p1.size := by omega
        have hm2 : 66 ≤ p1.size := by omega
        have HE := Lib.hid (cutX_min p1 66 (by omega))
        have G := Lib.hid (Box.new wr 46 #[.int .u64 (p0 : Nat), .string p1])
        have HW := Lib.hid (cut_world HB.out SZr.out (p0 : Nat) (p1.extract 0 66))
        have XO := Lib.hid (own_keep HO.out HW.out.1)
        have XB := Lib.hid (HB.out.trans (HW.out.1.mono SZr.out))
        have N2 := Lib.hid (fun g hg => (HO.out.lt g hg).1)
        obtain ⟨g0, g1, f0, f1⟩ := G.out.two
        clear G
        go_wp2_with (at_builtin; refine wpList_append_own _ rfl _ _ 22 rfl (w.heap.size + 2) 46 i0 (.agg #[.int .u64 0, .string ⟨#[]⟩]) 2 24 Tryz.underlying22 HI.out HZ0.out HZ1.out HZ2.out rfl (by decide) _ _ _ rfl XO.out ⟨wr.heap.size + 1, 0, none⟩ 1 1 [.int .u64 (p0 : Nat), .string (p1.extract 0 66)] rfl rfl HW.out.2.1 (by simp [Value.oneCell']) (by simp [maxLen]; omega) (by omega) HW.out.2.2 ?_; intro v' w1 hown' hgrow _; have HC := Lib.hid (XB.out.grown hgrow (Nat.le_trans SZr.out HW.out.1.size) N2.out); have HO2 := Lib.hid hown'; clear hown' hgrow)
        go_roundw
        case rel =>
          refine ⟨i + 1, hlt, by go_num, ?_, HC.out⟩
          rw [HS.out, flat_snoc, ← HE.out]
          exact HO2.out
        case measure => simp [intOf] <;> omega
    · obtain rfl : i = 66 := by omega
      have hlt' : ¬ ((66 : Nat) : Int) < ((66 : Nat) : Int) := Int.lt_irrefl _
      have HCL := Lib.hid (show (fewS xs 66).length = 66 by rw [fewS_len, HXl.out]; omega)
      have BB := Lib.hid (HB0.out.trans (HB.out.mono (by omega)))
      have Q0 := Lib.hid (HQ0.out.below HB.out (by omega))
      have Q1 := Lib.hid (HQ1.out.below HB.out (by omega))
      obtain ⟨r0, r1, r2, r3, e0, e1, e2, e3⟩ := Q0.out.four
      obtain ⟨s0, s1, s2, s3, f0, f1, f2, f3⟩ := Q1.out.four
      obtain ⟨A7, c7, hv, -⟩ := own_form HO.out
      subst hv
      go_wp2_with fail
      refine close_one Tryz.results4 rfl rfl (Q1.out.far (p := ⟨w.heap.size, 3, none⟩) (by simp) (.slice A7 66 c7)).put4 Tryz.underlying24 rfl (by kernel_rfl) ?_
      exact few_close BB.out rfl HO.out HCL.out
set_option maxHeartbeats 1000000 in
theorem few12_zero (k s c : Int) (A : Option Addr) (w : World) :
    Calls Tryz.prog 4 #[.agg #[.int .i64 k, .int .i64 s, .int .i64 c, .slice A 0 0]] w (StoreOne k s c [] w) := by
  obtain ⟨Q0, Q1, b1, sz⟩ := fewW_two k s c A 0 0 w
  have HQ0 := Lib.hid Q0
  have HQ1 := Lib.hid Q1
  have HB0 := Lib.hid b1
  obtain ⟨r0, r1, r2, r3, -, -, -, -⟩ := Q0.four
  clear b1 sz Q0 Q1
  cases A with
  | none =>
    go_enter Tryz.func4, Tryz.ntmps4
    go_wp2_with fail
    clear r0 r1 r2 r3
    go_loopw [3, 14] (fun v t wr => v = .slice none 0 0 ∧ t = .int .i64 0 ∧ wr = fewW k s c (none) 0 0 w) (fun _ t _ => 0)
    case atStart => exact ⟨rfl, rfl, rfl⟩
    case round =>
      obtain ⟨rfl, rfl, hw⟩ := hrel
      rw [← hw] at HQ0 HQ1 HB0
      clear hw
      obtain ⟨r0, r1, r2, r3, e0, e1, e2, e3⟩ := HQ0.out.four
      obtain ⟨s0, s1, s2, s3, f0, f1, f2, f3⟩ := HQ1.out.four
      go_wp2_with fail
      refine close_one Tryz.results4 rfl rfl (HQ1.out.far (p := ⟨w.heap.size, 3, none⟩) (by simp) (.slice none 0 0)).put4 Tryz.underlying24 rfl (by kernel_rfl) ?_
      exact few_close (zs := []) (v := .slice none 0 0) (n := 0) (A7 := none) (c7 := 0) (e := 46) HB0.out rfl (World.ownsRow_nil _ _ _ _) rfl
  | some ad =>
    go_enter Tryz.func4, Tryz.ntmps4
    go_wp2_with fail
    clear r0 r1 r2 r3
    go_loopw [3, 14] (fun v t wr => v = .slice none 0 0 ∧ t = .int .i64 0 ∧ wr = fewW k s c (some ad) 0 0 w) (fun _ t _ => 0)
    case atStart => exact ⟨rfl, rfl, rfl⟩
    case round =>
      obtain ⟨rfl, rfl, hw⟩ := hrel
      rw [← hw] at HQ0 HQ1 HB0
      clear hw
      obtain ⟨r0, r1, r2, r3, e0, e1, e2, e3⟩ := HQ0.out.four
      obtain ⟨s0, s1, s2, s3, f0, f1, f2, f3⟩ := HQ1.out.four
      go_wp2_with fail
      refine close_one Tryz.results4 rfl rfl (HQ1.out.far (p := ⟨w.heap.size, 3, none⟩) (by simp) (.slice none 0 0)).put4 Tryz.underlying24 rfl (by kernel_rfl) ?_
      exact few_close (zs := []) (v := .slice none 0 0) (n := 0) (A7 := none) (c7 := 0) (e := 46) HB0.out rfl (World.ownsRow_nil _ _ _ _) rfl
theorem few12_any (k s c : Int) (A : Option Addr) (l d : Nat) (xs : List SymR) (w : World) (hx : Syms w A l xs) (hl : l ≤ d) (hd : d ≤ maxLen) (hn : A = none → d = 0) :
    Calls Tryz.prog 4 #[.agg #[.int .i64 k, .int .i64 s, .int .i64 c, .slice A l d]] w (StoreOne k s c (fewS xs 66) w) := by
  cases A with
  | none =>
    obtain rfl := hn rfl
    obtain ⟨rfl, rfl⟩ := Recs.none_ hx
    exact few12_zero k s c none w
  | some ad =>
    by_cases hd0 : d = 0
    · subst hd0
      obtain rfl : l = 0 := by omega
      obtain rfl : xs = [] := List.length_eq_zero_iff.1 hx.1
      exact few12_zero k s c (some ad) w
    by_cases h : l ≤ 66
    · rw [← fewS_all xs l hx.1 h]
      exact few12_short k s c ad l d xs w hx h hl hd hd0
    · exact few12_long k s c ad l d xs w hx (by omega) hl hd hd0
theorem alive12_any (w : World) : Calls Tryz.prog 10 #[] w fun e w' => e = .returned (.bool true) ∧ Below w.heap.size w w' := by
  have HA := Lib.hid (eadd_yes 2 1 3 none 0 0 [] (4, ⟨#[97]⟩) w (Recs.nil _ _) (Nat.le_refl _) (Nat.zero_le _) (fun _ => rfl) (by decide))
  go_enter Tryz.func10, Tryz.ntmps10
  go_wp2_with fail
  refine HA.out.mono ?_
  rintro e w1 ⟨A, d, rfl, -, -, -, -, hb⟩
  have Q := Lib.hid (Box.new w1 24 #[.int .i64 2, .int .i64 1, .int .i64 3, .slice A 1 d])
  have HB := Lib.hid (hb.alloc hb.size (.cells #[.int .i64 2, .int .i64 1, .int .i64 3, .slice A 1 d] 24))
  clear hb
  obtain ⟨r0, r1, r2, r3, -, -, -, -⟩ := Q.out.four
  go_wp2_with fail
  go_ret
  exact ⟨rfl, HB.out⟩
end
section
/- Two symbols compared. -/
set_option linter.unusedVariables false
set_option linter.unusedSimpArgs false
open Go.RowKit
theorem sym_equal (d : Nat) (a b : Int) (s t : ByteArray) (w : World) : (Op.equalIn (d + 2) 46 (.agg #[.int .u64 a, .string s]) (.agg #[.int .u64 b, .string t])).run Tryz.prog w = .ok (a == b && s.toList == t.toList) w := by
  rw [run_equalIn_struct w (d + 1) 46 _ _ (by kernel_rfl) (by kernel_rfl)]
  simp only [Program.fieldsOf, Tryz.underlying46]
  simp [Op.eqFields, Go.part, Go.isAgg, run_underlying Tryz.underlying44, run_underlying Tryz.underlying9]
  rw [run_equalIn_int w d 44 .u64 .u64 a b Tryz.underlying44]
  cases h : (a == b) with
  | false => simp [Result.andThen]
  | true =>
    simp only [Result.andThen_ok]
    rw [run_equalIn_string w d 9 s t Tryz.underlying9]
    cases h2 : (s.toList == t.toList) <;> simp [Result.andThen]
theorem sym_neq (a b : Int) (s t : ByteArray) (w : World) : (binOp .neq 46 (.agg #[.int .u64 a, .string s]) (.agg #[.int .u64 b, .string t])).run Tryz.prog w = .ok (.bool (!(a == b && s.toList == t.toList))) w := by
  rw [run_neq_struct, show (10000 : Nat) = 9998 + 2 from rfl, sym_equal]; rfl
theorem sym_guard (op : BinOp) (a b : Int) (s t : ByteArray) (x y : Operand) (w : World) : (eqGuard op 46 x y (.agg #[.int .u64 a, .string s]) (.agg #[.int .u64 b, .string t])).run Tryz.prog w = .ok () w :=
  run_eqGuard_agg w op _ x y _ _ (by kernel_rfl)
theorem toList_inj (s t : ByteArray) (h : s.toList = t.toList) : s = t := by
  rw [ByteArray.toList_eq, ByteArray.toList_eq] at h
  obtain ⟨⟨x⟩⟩ := s
  obtain ⟨⟨y⟩⟩ := t
  simp at h
  rw [h]
theorem symv_ne (p q : Nat × ByteArray) (h : ¬ p = q) : (((p.1 : Nat) : Int) == ((q.1 : Nat) : Int) && p.2.toList == q.2.toList) = false := by
  obtain ⟨a, s⟩ := p
  obtain ⟨b, t⟩ := q
  by_cases h1 : a = b
  · subst h1
    have h2 : ¬ s.toList = t.toList := fun e => h (by rw [toList_inj s t e])
    simp [h2]
  · have : ¬ ((a : Nat) : Int) = (b : Int) := by omega
    simp [this]
theorem symv_eq (p : Nat × ByteArray) : (((p.1 : Nat) : Int) == ((p.1 : Nat) : Int) && p.2.toList == p.2.toList) = true := by simp
end
section
/- Contracts of layer 12: two lists of symbols, Like, the reference's Same. -/
set_option linter.unusedVariables false
set_option linter.unusedSimpArgs false
open Go.RowKit
set_option maxRecDepth 100000
theorem bdH {B : Nat} {w wr : World} (h : Hid (Below B w wr)) (n : Nat) : Hid (Below B w (wr.drewN n)) := Lib.hid (bdN h.out n)
theorem take_both (xs ys : List SymR) (j : Nat) (h1 : j < xs.length) (h2 : j < ys.length) (h : xs.take j = ys.take j) (he : xs.getD j default = ys.getD j default) : xs.take (j + 1) = ys.take (j + 1) := by
  rw [take_snocD xs j h1, take_snocD ys j h2, h, he]
theorem take_differ (xs ys : List SymR) (j : Nat) (h1 : j < xs.length) (h2 : j < ys.length) (he : ¬ xs.getD j default = ys.getD j default) : xs ≠ ys := fun h => he (by rw [h])
end
section
/- Contracts of layer 12: Like, the reference's Same. -/
set_option linter.unusedVariables false
set_option linter.unusedSimpArgs false
open Go.RowKit
set_option maxRecDepth 100000
def likeB (k s c : Int) (xs : List SymR) (k2 s2 c2 : Int) (ys : List SymR) : Bool := k == k2 && s == s2 && c == c2 && decide (xs = ys)
theorem likeB_self (k s c : Int) (xs : List SymR) : likeB k s c xs k s c xs = true := by simp [likeB]
end
section
/- Layer 6, its arithmetic: mixed is one to one, so some number of a state is below whatever the bound leaves out. No program. -/
set_option linter.unusedVariables false
set_option linter.unusedSimpArgs false
def M64 : Nat := 18446744073709551616
def mixA (z : Nat) : Nat := ((z ^^^ z / 1073741824) * 13787848793156543929) % 18446744073709551616
def mixB (z : Nat) : Nat := ((z ^^^ z / 134217728) * 10723151780598845931) % 18446744073709551616
def mixN (z : Nat) : Nat := mixB (mixA z) ^^^ mixB (mixA z) / 2147483648
theorem shx_inj (k : Nat) (hk : 1 ≤ k) (x y : Nat) (h : x ^^^ x / 2 ^ k = y ^^^ y / 2 ^ k) : x = y := by
  have hd : (x ^^^ y) = (x ^^^ y) / 2 ^ k := by
    apply Nat.eq_of_testBit_eq
    intro i
    have h1 := congrArg (fun z => Nat.testBit z i) h
    simp only [Nat.testBit_xor, Nat.testBit_div_two_pow] at h1 ⊢
    revert h1
    cases x.testBit i <;> cases y.testBit i <;> cases x.testBit (i + k) <;> cases y.testBit (i + k) <;> decide
  have h0 : x ^^^ y = 0 := by
    rcases Nat.eq_zero_or_pos (x ^^^ y) with e | e
    · exact e
    · have : (x ^^^ y) / 2 ^ k < x ^^^ y := Nat.div_lt_self e (Nat.one_lt_two_pow (by omega))
      omega
  apply Nat.eq_of_testBit_eq
  intro i
  have h1 := congrArg (fun z => Nat.testBit z i) h0
  simp only [Nat.testBit_xor, Nat.zero_testBit] at h1
  revert h1
  cases x.testBit i <;> cases y.testBit i <;> decide
theorem mul_inj (c d q : Nat) (hcd : c * d = 1 + q * 18446744073709551616) (x y : Nat) (hx : x < 18446744073709551616) (hy : y < 18446744073709551616) (h : x * c % 18446744073709551616 = y * c % 18446744073709551616) : x = y := by
  have k : ∀ z, z < 18446744073709551616 → (z * c % 18446744073709551616) * d % 18446744073709551616 = z := fun z hz => by
    rw [Nat.mod_mul_mod, Nat.mul_assoc, hcd, Nat.mul_add, Nat.mul_one, ← Nat.mul_assoc, Nat.add_mul_mod_self_right, Nat.mod_eq_of_lt hz]
  rw [← k x hx, h, k y hy]
theorem xor_lt (x k : Nat) (hx : x < 18446744073709551616) : x ^^^ x / k < 18446744073709551616 :=
  Nat.xor_lt_two_pow (n := 64) hx (Nat.lt_of_le_of_lt (Nat.div_le_self _ _) hx)
theorem mixA_lt (z : Nat) : mixA z < 18446744073709551616 := Nat.mod_lt _ (by omega)
theorem mixB_lt (z : Nat) : mixB z < 18446744073709551616 := Nat.mod_lt _ (by omega)
theorem mixN_lt (z : Nat) : mixN z < 18446744073709551616 := xor_lt _ _ (mixB_lt _)
theorem mixA_inj (x y : Nat) (hx : x < 18446744073709551616) (hy : y < 18446744073709551616) (h : mixA x = mixA y) : x = y :=
  shx_inj 30 (by omega) x y (mul_inj 13787848793156543929 10871156337175269513 8125545580553827436 (by decide) _ _ (xor_lt x _ hx) (xor_lt y _ hy) h)
theorem mixB_inj (x y : Nat) (hx : x < 18446744073709551616) (hy : y < 18446744073709551616) (h : mixB x = mixB y) : x = y :=
  shx_inj 27 (by omega) x y (mul_inj 10723151780598845931 3573116690164977347 2077064247507883091 (by decide) _ _ (xor_lt x _ hx) (xor_lt y _ hy) h)
theorem mixN_inj (x y : Nat) (hx : x < 18446744073709551616) (hy : y < 18446744073709551616) (h : mixN x = mixN y) : x = y :=
  mixA_inj x y hx hy (mixB_inj _ _ (mixA_lt x) (mixA_lt y) (shx_inj 31 (by omega) _ _ h))
/-- The next state. -/
def nextS (s : Nat) : Nat := (s + 11400714819323198485) % 18446744073709551616
theorem nextS_lt (s : Nat) : nextS s < 18446744073709551616 := Nat.mod_lt _ (by omega)
/-- The state behind so many numbers. -/
def stN (s j : Nat) : Nat := (s + j * 11400714819323198485) % 18446744073709551616
theorem stN_succ (s j : Nat) : stN s (j + 1) = nextS (stN s j) := by
  unfold stN nextS
  rw [Nat.mod_add_mod, Nat.succ_mul, Nat.add_assoc]
theorem add_cancel (s a b : Nat) (h : (s + a) % 18446744073709551616 = (s + b) % 18446744073709551616) : a % 18446744073709551616 = b % 18446744073709551616 := by omega
theorem stN_next (s j : Nat) : stN (nextS s) j = stN s (j + 1) := by
  unfold stN nextS
  rw [Nat.mod_add_mod, Nat.succ_mul, Nat.add_assoc, Nat.add_comm 11400714819323198485]
theorem stN_lt (s j : Nat) : stN s j < 18446744073709551616 := Nat.mod_lt _ (by omega)
theorem stN_inj (s i j : Nat) (hi : i < 1000) (hj : j < 1000) (h : stN s i = stN s j) : i = j := by
  have h1 : i < 18446744073709551616 := by omega
  have h2 : j < 18446744073709551616 := by omega
  exact mul_inj 11400714819323198485 17428512612931826493 10771413168148108919 (by decide) i j h1 h2 (add_cancel _ _ _ h)
theorem pigeon : ∀ (n : Nat) (f : Nat → Nat), (∀ i, i ≤ n → f i < n) → ∃ i j, i < j ∧ j ≤ n ∧ f i = f j
  | 0, f, h => absurd (h 0 (Nat.le_refl _)) (Nat.not_lt_zero _)
  | n + 1, f, h => by
    by_cases hc : ∃ i, i ≤ n ∧ f i = f (n + 1)
    · obtain ⟨i, hi, e⟩ := hc
      exact ⟨i, n + 1, by omega, Nat.le_refl _, e⟩
    · have hne : ∀ i, i ≤ n → f i ≠ f (n + 1) := fun i hi e => hc ⟨i, hi, e⟩
      have hv := h (n + 1) (Nat.le_refl _)
      obtain ⟨i, j, hij, hj, e⟩ := pigeon n (fun i => if f i = n then f (n + 1) else f i) (fun i hi => by
        have h1 := h i (by omega)
        have h2 := hne i hi
        by_cases h3 : f i = n
        · simp only [if_pos h3]; omega
        · simp only [if_neg h3]; omega)
      have h1 := hne i (by omega)
      have h2 := hne j hj
      refine ⟨i, j, hij, by omega, ?_⟩
      by_cases h3 : f i = n <;> by_cases h4 : f j = n
      · rw [h3, h4]
      · simp only [if_pos h3, if_neg h4] at e; exact absurd e.symm h2
      · simp only [if_neg h3, if_pos h4] at e; exact absurd e h1
      · simpa only [if_neg h3, if_neg h4] using e
/-- A state whose next number serves. -/
def good (over s : Nat) : Prop := mixN (nextS s) + over < 18446744073709551616
instance (over s : Nat) : Decidable (good over s) := inferInstanceAs (Decidable (_ < _))
/-- One of the next so many serves. -/
def gw (over : Nat) : Nat → Nat → Prop
  | 0, _ => False
  | k + 1, s => good over s ∨ gw over k (nextS s)
theorem stN_zero (s : Nat) (hs : s < 18446744073709551616) : stN s 0 = s := by
  unfold stN
  rw [Nat.zero_mul, Nat.add_zero, Nat.mod_eq_of_lt hs]
theorem gw_of (over k : Nat) : ∀ (s j : Nat), j < k → good over (stN s j) → s < 18446744073709551616 → gw over k s := by
  induction k with
  | zero => exact fun s j h _ _ => absurd h (Nat.not_lt_zero _)
  | succ k ih =>
    intro s j h hg hs
    cases j with
    | zero => exact .inl (by rwa [stN_zero s hs] at hg)
    | succ j => exact .inr (ih (nextS s) j (Nat.lt_of_succ_lt_succ h) (by rw [stN_next]; exact hg) (nextS_lt s))
theorem diff_lt {a b m : Nat} (h1 : a < m) (h2 : m ≤ a + b) : a + b - m < b := by omega
theorem diff_inj {a c b m : Nat} (h1 : m ≤ a + b) (h2 : m ≤ c + b) (e : a + b - m = c + b - m) : a = c := by omega
theorem gw_all (over s : Nat) (ho : over < 512) (hs : s < 18446744073709551616) : gw over 512 s := by
  by_cases h : ∃ j, j < 512 ∧ good over (stN s j)
  · obtain ⟨j, hj, hg⟩ := h
    exact gw_of over 512 s j hj hg hs
  · exfalso
    have hb : ∀ j, j < 512 → 18446744073709551616 ≤ mixN (stN s (j + 1)) + over := fun j hj => by
      have h1 : ¬ good over (stN s j) := fun hg => h ⟨j, hj, hg⟩
      unfold good at h1
      rw [← stN_succ] at h1
      exact Nat.le_of_not_lt h1
    obtain ⟨i, j, hij, hj, e⟩ := pigeon over (fun j => mixN (stN s (j + 1)) + over - 18446744073709551616) (fun j hj => diff_lt (mixN_lt _) (hb j (Nat.lt_of_le_of_lt hj ho)))
    have hj2 : j < 512 := Nat.lt_of_le_of_lt hj ho
    have hi2 : i < 512 := Nat.lt_trans hij hj2
    have h3 := mixN_inj _ _ (stN_lt s (i + 1)) (stN_lt s (j + 1)) (diff_inj (hb i hi2) (hb j hj2) e)
    have h4 := stN_inj s (i + 1) (j + 1) (Nat.lt_trans (Nat.succ_lt_succ hi2) (by decide)) (Nat.lt_trans (Nat.succ_lt_succ hj2) (by decide)) h3
    have h5 : i = j := Nat.succ.inj h4
    exact absurd hij (by rw [h5]; exact Nat.lt_irrefl _)
/-- The number below n, and the state behind it; at most so many tries. -/
def belowF (n over : Nat) : Nat → Nat → Nat × Nat
  | 0, s => (s, 0)
  | k + 1, s => if good over s then (nextS s, mixN (nextS s) % n) else belowF n over k (nextS s)
def belowN (n s : Nat) : Nat × Nat := belowF n (18446744073709551616 % n) 512 s
theorem over_lt (n : Nat) (h1 : 1 ≤ n) (h2 : n ≤ 512) : 18446744073709551616 % n < 512 := Nat.lt_of_lt_of_le (Nat.mod_lt _ (by omega)) h2
theorem belowF_lt (n over : Nat) (hn : 1 ≤ n) (k : Nat) : ∀ (s : Nat), s < 18446744073709551616 → (belowF n over k s).1 < 18446744073709551616 ∧ (belowF n over k s).2 < n := by
  induction k with
  | zero => exact fun s hs => ⟨hs, hn⟩
  | succ k ih =>
    intro s hs
    unfold belowF
    split
    · exact ⟨nextS_lt s, Nat.mod_lt _ hn⟩
    · exact ih (nextS s) (nextS_lt s)
theorem belowN_lt (n s : Nat) (hn : 1 ≤ n) (hs : s < 18446744073709551616) : (belowN n s).1 < 18446744073709551616 ∧ (belowN n s).2 < n := belowF_lt n _ hn 512 s hs
end
section
/- Contracts of layer 6: mixed, Next, Start, boundMayBe; the reference's Mixed, rest. -/
set_option linter.unusedVariables false
set_option linter.unusedSimpArgs false
open Go.RowKit
theorem xor_cast (x k : Nat) (hx : x < 18446744073709551616) : bits BinOp.xor IntKind.u64 (x : Int) ((x / k : Nat) : Int) = ((x ^^^ x / k : Nat) : Int) :=
  u64_xor_nat _ _ (by omega) (by have := Nat.div_le_self x k; omega)
theorem div_cast (x k : Nat) : (x : Int) / (k : Int) = ((x / k : Nat) : Int) := by simp
theorem mixA_int (z : Nat) (hz : z < 18446744073709551616) : IntKind.u64.wrap (bits BinOp.xor IntKind.u64 (z : Int) ((z : Int) / 1073741824) * 13787848793156543929) = ((mixA z : Nat) : Int) := by
  rw [show (z : Int) / 1073741824 = ((z / 1073741824 : Nat) : Int) from div_cast z 1073741824, xor_cast z _ hz, IntKind.wrap_u64, mixA, Int.natCast_emod, Int.natCast_mul]
  rfl
theorem mixB_int (z : Nat) (hz : z < 18446744073709551616) : IntKind.u64.wrap (bits BinOp.xor IntKind.u64 (z : Int) ((z : Int) / 134217728) * 10723151780598845931) = ((mixB z : Nat) : Int) := by
  rw [show (z : Int) / 134217728 = ((z / 134217728 : Nat) : Int) from div_cast z 134217728, xor_cast z _ hz, IntKind.wrap_u64, mixB, Int.natCast_emod, Int.natCast_mul]
  rfl
theorem mixN_int (z : Nat) : bits BinOp.xor IntKind.u64 ((mixB (mixA z) : Nat) : Int) (((mixB (mixA z) : Nat) : Int) / 2147483648) = ((mixN z : Nat) : Int) := by
  rw [show ((mixB (mixA z) : Nat) : Int) / 2147483648 = ((mixB (mixA z) / 2147483648 : Nat) : Int) from div_cast _ 2147483648, xor_cast _ _ (mixB_lt _), mixN]
theorem tdiv_wrap (x k : Nat) (hx : x < 18446744073709551616) : IntKind.u64.wrap ((x : Int).tdiv (k : Int)) = (x : Int) / (k : Int) := by
  rw [Int.tdiv_eq_ediv_of_nonneg (Int.natCast_nonneg x), div_cast]
  exact IntWalk.u64_in _ ⟨Int.natCast_nonneg _, by have := Nat.div_le_self x k; omega⟩
theorem rest_int (n : Nat) (h1 : 1 ≤ n) (h2 : n ≤ 512) : (IntKind.u64.wrap (18446744073709551615 % (n : Int) + 1)).tmod (n : Int) = ((18446744073709551616 % n : Nat) : Int) := by
  have e : (18446744073709551615 : Int) % (n : Int) = ((18446744073709551615 % n : Nat) : Int) := rfl
  have hl : 18446744073709551615 % n < n := Nat.mod_lt _ h1
  have e2 : (18446744073709551615 % n + 1) % n = 18446744073709551616 % n := Nat.mod_add_mod _ _ _
  rw [e]
  generalize 18446744073709551615 % n = r at *
  generalize 18446744073709551616 % n = m at *
  rw [IntWalk.u64_in _ (by omega), Int.tmod_eq_emod_of_nonneg (by omega), ← e2]
  rfl
theorem ret_u64 (x y : Int) (h : x = y) : Ending.returned (.int .u64 x) = .returned (.int .u64 y) := by rw [h]
set_option maxHeartbeats 1000000 in
theorem mixed_any (z : Nat) (hz : z < 18446744073709551616) (w : World) : Calls Tryz.prog 85 #[.int .u64 z] w fun e w' => e = .returned (.int .u64 (mixN z : Nat)) ∧ w = w' := by
  go_enter Tryz.func85, Tryz.ntmps85
  go_wp2
  go_ret
  exact ⟨ret_u64 _ _ (by rw [mixA_int z hz, mixB_int _ (mixA_lt z), mixN_int]), rfl⟩
theorem refMixed_any (z : Nat) (hz : z < 18446744073709551616) (w : World) : Calls Tryz.prog 60 #[.int .u64 z] w fun e w' => e = .returned (.int .u64 (mixN z : Nat)) ∧ w = w' := by
  go_enter Tryz.func60, Tryz.ntmps60
  go_wp2
  go_ret
  exact ⟨ret_u64 _ _ (by rw [mixA_int z hz, show IntKind.u64.wrap (((mixA z : Nat) : Int).tdiv 134217728) = ((mixA z : Nat) : Int) / 134217728 from tdiv_wrap _ 134217728 (mixA_lt z), mixB_int _ (mixA_lt z), show IntKind.u64.wrap (((mixB (mixA z) : Nat) : Int).tdiv 2147483648) = ((mixB (mixA z) : Nat) : Int) / 2147483648 from tdiv_wrap _ 2147483648 (mixB_lt _), mixN_int]), rfl⟩
theorem bound_any (n : Int) (w : World) : Calls Tryz.prog 91 #[.int .i64 n] w fun e w' => e = .returned (.bool (decide (1 ≤ n ∧ n ≤ 512))) ∧ w = w' := by
  by_cases h : 1 ≤ n
  · by_cases h2 : n ≤ 512
    · rw [decide_eq_true ⟨h, h2⟩]
      go_enter Tryz.func91, Tryz.ntmps91
      go_wp2
      go_ret
      exact ⟨rfl, rfl⟩
    · rw [decide_eq_false (fun x => h2 x.2)]
      have t : decide (n ≤ 512) = false := by simpa using h2
      go_enter Tryz.func91, Tryz.ntmps91
      go_wp2
      go_ret
      exact ⟨by simp, rfl⟩
  · rw [decide_eq_false (fun x => h x.1)]
    have t : decide (1 ≤ n) = false := by simpa using h
    go_enter Tryz.func91, Tryz.ntmps91
    go_wp2
    go_ret
    exact ⟨by simp, rfl⟩
theorem rest_any (n : Nat) (h1 : 1 ≤ n) (h2 : n ≤ 512) (w : World) : Calls Tryz.prog 109 #[.int .u64 n] w fun e w' => e = .returned (.int .u64 (18446744073709551616 % n : Nat)) ∧ w = w' := by
  have g : (1 : Int) ≤ n := by omega
  go_enter Tryz.func109, Tryz.ntmps109
  go_wp2
  go_ret
  exact ⟨ret_u64 _ _ (rest_int n h1 h2), rfl⟩
theorem next_any (s : Nat) (hs : s < 18446744073709551616) (w : World) : Calls Tryz.prog 68 #[.int .u64 s] w fun e w' => e = .returned (.tuple #[.int .u64 (nextS s : Nat), .int .u64 (mixN (nextS s) : Nat)]) ∧ w = w' := by
  have e : IntKind.u64.wrap ((s : Int) + 11400714819323198485) = ((nextS s : Nat) : Int) := by
    rw [IntKind.wrap_u64, nextS]; rfl
  have HM := Lib.hid (mixed_any (nextS s) (nextS_lt s))
  generalize nextS s = t at *
  go_enter Tryz.func68, Tryz.ntmps68
  go_wp2_with fail
  refine (HM.out _).mono ?_
  rintro e' w1 ⟨rfl, rfl⟩
  go_wp2_with fail
  go_ret2
  exact ⟨rfl, rfl⟩
theorem start_any (s : Nat) (hs : s < 18446744073709551616) (w : World) : Calls Tryz.prog 69 #[.int .u64 s] w fun e w' => e = .returned (.int .u64 (mixN s : Nat)) ∧ w = w' := by
  have HM := Lib.hid (mixed_any s hs)
  go_enter Tryz.func69, Tryz.ntmps69
  go_wp2_with fail
  refine (HM.out _).mono ?_
  rintro e' w1 ⟨rfl, rfl⟩
  go_wp2_with fail
  go_ret
  exact ⟨rfl, rfl⟩
end
section
/- A law of one's own for 'for .. := range seq' where the iterator keeps its state in a box of its own (a captured variable), and ends only when the body does. No program. -/
set_option linter.unusedVariables false
set_option linter.unusedSimpArgs false
open Go.RowKit
variable {F : Fence} {n : Nat} {P : Program}
/-- What such an iterator promises: s is its state, B its box, next what a round is handed; k rounds at most are to come. -/
def SeqCell {σ : Type} (F : Fence) (n : Nat) (P : Program) (g : Nat) (lb : Array Value) (encs : σ → Array Value) (next : σ → σ) (B : Nat) (T : TypeId) (val : σ → Value) : Prop :=
  ∀ (l : Nat) (J : Nat → σ → World → Prop) (Jx : World → Prop) (k₀ : Nat) (s₀ : σ) (W : World),
    (∀ k s W v, J k s W → J k s (W.setCell ⟨B, 0, none⟩ v)) → (∀ k s W, J k s W → J k s W.drew) → (∀ s W, ¬ J 0 s W) →
    (∀ k s W, J (k + 1) s W → YieldAt F (n - 1) P l (encs (next s)) W fun e W' => (e = .returned (.bool true) ∧ J k (next s) W' ∧ W'.heap[B]? = W.heap[B]?) ∨ (e = .returned (.bool false) ∧ Jx W')) →
    J k₀ s₀ W → Boxed W B T (val s₀) →
    CallsIn F n P g (#[.func (.yield l) #[] #[]] ++ lb) W fun e W' => (∃ v, e = .returned v) ∧ Jx W'
/-- How a round may be left. -/
def postCell {σ : Type} (A B : Nat) (I : Nat → σ → World → Prop) (Ix : World → Prop) (k : Nat) (s : σ) (W : World) : Exit → Act → World → Prop
  | .normal, _, W' => KeepsFrom A W W' ∧ W'.heap[B]? = W.heap[B]? ∧ I k s W'
  | .ret, _, W' => KeepsFrom A W W' ∧ Ix W'
  | .exit _, _, _ => False
  | .goto _, _, _ => False
  | .panic _, _, _ => False
  | .outgrown, _, _ => False
theorem drew_own {β : Type} {B : Nat} {I : β → World → Prop} (h : OwnFrom B I) {s : β} {W : World} (hs : I s W) : I s W.drew :=
  h s W W.drew none hs ⟨rfl, rfl, rfl, Nat.le_refl _, fun _ _ _ => rfl⟩ (fun r e => by cases e)
theorem range_cell {σ : Type} {g : Operand} {ps : Array Tmp} {assign body : Code} {Q : Exit → Act → World → Prop} {a : Act} {w : World}
    (hro : F.round = none) (h1 : 1 ≤ n) {gf : Nat} {lb : Array Value} (hg : a.eval g = .func (.func gf) #[] lb) (hFg : F.fn gf) (eg : ∀ args w, (callFunc gf args).run P w = .ok (.enter gf args) w)
    {encs : σ → Array Value} {next : σ → σ} {B : Nat} {T : TypeId} {val : σ → Value} (hseq : SeqCell F (n - 1) P gf lb encs next B T val) (hps : ∀ x, (encs x).size = ps.size)
    (I : Nat → σ → World → Prop) (Ix : World → Prop) (hI : OwnFrom w.heap.size (fun (p : Nat × σ) W => I p.1 p.2 W)) (hIx : OwnFrom w.heap.size (fun (_ : Unit) W => Ix W))
    (hIB : ∀ k s W v, I k s W → I k s (W.setCell ⟨B, 0, none⟩ v)) (hI0 : ∀ s W, ¬ I 0 s W) (k₀ : Nat) (s₀ : σ) (h0 : I k₀ s₀ w) (hbox : Boxed w B T (val s₀)) (a₁ : σ → Act)
    (hassign : ∀ (l : Nat) (x : σ) (W : World) (K : Act → World → Prop), K (a₁ x) W →
      assign.wpIn (F.inRound l) (n - 1 - 1) P (Exit.then K (fun _ _ _ => False)) { tmps := (ps.zip (encs x)).foldl (fun t (p, v) => t.setIfInBounds p v) a.tmps, defers := [] } W)
    (hbody : ∀ (l k : Nat) (s : σ) (W : World), I (k + 1) s W → body.wpIn (F.inRound l) (n - 1 - 1) P (postCell w.heap.size B I Ix k (next s) W) (a₁ (next s)) W)
    (hstop : ∀ (D : Nat) (W : World), w.heap.size ≤ D → Ix W → W.heap[D]? = some (.deferred (some [])) → Code.ret.wpIn F n P Q { a with defers := { target := .collected D, args := #[] } :: a.defers } W) :
    (Code.rangeFunc g ps assign body).wpIn F n P Q a w := by
  have hBlt : B < w.heap.size := hbox.lt
  refine wpIn_rangeFunc ?_
  intro fn hfn
  rw [hro]
  obtain ⟨rc, hrc⟩ : ∃ rc : LoopState → Option Code → Loop, rc = fun st pe => { state := st, pending := pe, fn, tmps := a.tmps, params := ps, assign, body, defers := w.heap.size } := ⟨_, rfl⟩
  obtain ⟨W1, hW1⟩ : ∃ W1, (w.alloc (.deferred (some []))).alloc (.loop (rc .ready none)) = W1 := ⟨_, rfl⟩
  have hL1 : W1.heap[w.heap.size + 1]? = some (.loop (rc .ready none)) := by
    rw [← hW1]; have := World.alloc_heap_new (w.alloc (.deferred (some []))) (.loop (rc .ready none)); rwa [World.size_alloc] at this
  have hK1 : W1.heap[w.heap.size]? = some (.deferred (some [])) := by
    rw [← hW1]; exact (Below.heap_alloc _ _ _ (by simp)).trans (World.alloc_heap_new w _)
  have hI1 : I k₀ s₀ W1 := by rw [← hW1]; exact hI.alloc (s := (k₀, s₀)) _ (hI.alloc (s := (k₀, s₀)) _ h0)
  have hB1 : Boxed W1 B T (val s₀) := by rw [← hW1]; exact (hbox.alloc _).alloc _
  refine ⟨w.heap.size + 1, [{ target := .collected w.heap.size, args := #[] }], W1, { target := .fn (.func gf) lb, args := #[.func (.yield (w.heap.size + 1)) #[] #[]] }, W1, gf,
    #[.func (.yield (w.heap.size + 1)) #[] #[]] ++ lb, W1, ?_, ?_, ?_, ?_, fun _ => h1, ?_⟩
  · rw [← hW1, hrc]; exact run_enterLoop_outer _ _ _ _ _
  · simp only [resolve, hg]
    simp [go_sem]
  · intro f' hf'; simp [Target.leads] at hf'; subst hf'; exact hFg
  · simp [invoke, go_sem, eg]
  · have other : ∀ (k : Nat) (W : World) (v : Value), w.heap.size ≤ k → (W.setCell ⟨B, 0, none⟩ v).heap[k]? = W.heap[k]? := fun k W v hk => Below.heap_setCell W ⟨B, 0, none⟩ v k (by show k ≠ B; omega)
    refine (hseq (w.heap.size + 1)
      (fun k s W => I k s W ∧ W.heap[w.heap.size + 1]? = some (.loop (rc .ready none)) ∧ W.heap[w.heap.size]? = some (.deferred (some [])))
      (fun W => Ix W ∧ W.heap[w.heap.size + 1]? = some (.loop (rc .done (some .ret))) ∧ W.heap[w.heap.size]? = some (.deferred (some [])))
      k₀ s₀ W1
      (fun k s W v hs => ⟨hIB k s W v hs.1, (other _ W v (by omega)).trans hs.2.1, (other _ W v (Nat.le_refl _)).trans hs.2.2⟩)
      (fun k s W hs => ⟨drew_own hI (s := (k, s)) hs.1, hs.2.1, hs.2.2⟩)
      (fun s W hs => hI0 s W hs.1) ?_ ⟨hI1, hL1, hK1⟩ hB1).mono ?_
    · rintro k s W ⟨hi, hl, hk⟩
      have hlt : w.heap.size + 1 < W.heap.size := (Array.getElem?_eq_some_iff.1 hl).1
      have hy := run_yield (P := P) (args := encs (next s)) hl (by rw [hrc]; exact hps _)
      rw [hrc] at hy
      refine ⟨fn, _, assign, body, hy, roundIn_of_wpIn hfn (hassign _ (next s) W _ ⟨_, run_beginRound hl (by rw [hrc]), ?_⟩)⟩
      have hl2 : (W.putObj (w.heap.size + 1) (.loop { rc .ready none with state := .busy })).heap[w.heap.size + 1]? = some (.loop { rc .ready none with state := .busy }) := World.putObj_heap_same hlt
      have hk2 : (W.putObj (w.heap.size + 1) (.loop { rc .ready none with state := .busy })).heap[w.heap.size]? = some (.deferred (some [])) := (World.putObj_heap_other (by omega)).trans hk
      have hb2 : ∀ (V : World) (o : Obj), (V.putObj (w.heap.size + 1) o).heap[B]? = V.heap[B]? := fun V o => World.putObj_heap_other (by omega)
      refine wpIn_mono (hbody _ k s _ (hI.putObj (s := (k + 1, s)) _ hi (by omega) hl rfl)) ?_
      have fin : ∀ (jump : Option Code) (W3 : World), KeepsFrom w.heap.size (W.putObj (w.heap.size + 1) (.loop { rc .ready none with state := .busy })) W3 →
          (Instr.endRound (w.heap.size + 1) jump).run P W3 = .ok (.bool jump.isNone) (W3.putObj (w.heap.size + 1) (.loop (rc (if jump.isNone then .ready else .done) jump))) ∧
          W3.heap[w.heap.size + 1]? = some (.loop { rc .ready none with state := .busy }) ∧
          (W3.putObj (w.heap.size + 1) (.loop (rc (if jump.isNone then .ready else .done) jump))).heap[w.heap.size + 1]? = some (.loop (rc (if jump.isNone then .ready else .done) jump)) ∧
          (W3.putObj (w.heap.size + 1) (.loop (rc (if jump.isNone then .ready else .done) jump))).heap[w.heap.size]? = some (.deferred (some [])) := fun jump W3 hk3 => by
        have hl3 := hk3.same _ _ (by omega) hl2 rfl
        have := run_endRound (P := P) jump hl3
        rw [hrc] at this ⊢
        exact ⟨this, by rw [hrc] at hl3; exact hl3, World.putObj_heap_same (Array.getElem?_eq_some_iff.1 hl3).1, (World.putObj_heap_other (by omega)).trans (hk3.same _ _ (Nat.le_refl _) hk2 rfl)⟩
      rintro e a3 W3 hp
      cases e with
      | normal =>
        obtain ⟨hk3, hkp3, hi3⟩ := hp
        obtain ⟨hr, hl3, hl4, hk4⟩ := fin none W3 hk3
        exact ⟨_, _, hr, .inl ⟨rfl, ⟨hI.putObj (s := (k, next s)) _ hi3 (by omega) hl3 rfl, hl4, hk4⟩, (hb2 _ _).trans (hkp3.trans (hb2 _ _))⟩⟩
      | ret =>
        obtain ⟨hk3, hi3⟩ := hp
        obtain ⟨hr, hl3, hl4, hk4⟩ := fin (some .ret) W3 hk3
        exact ⟨_, _, hr, .inr ⟨rfl, hIx.putObj (s := ()) _ hi3 (by omega) hl3 rfl, hl4, hk4⟩⟩
      | exit id => exact hp.elim
      | goto t => exact hp.elim
      | panic ch => exact hp.elim
      | outgrown => exact hp.elim
    · rintro e W2 ⟨⟨v, rfl⟩, hi, hl, hk⟩
      exact ⟨some .ret, _, by have := run_endLoop (P := P) hl (by rw [hrc]; simp); rw [hrc] at this; exact this, hstop _ _ (Nat.le_refl _) (hIx.putObj (s := ()) _ hi (by omega) hl rfl) ((World.putObj_heap_other (by omega)).trans hk)⟩
end
section
/- Contract of layer 6: the iterator of the numbers. -/
set_option linter.unusedVariables false
set_option linter.unusedSimpArgs false
open Go.RowKit Go.Shelf
attribute [local go_sem] Oper.semAt_some
theorem step_wrap' (s : Nat) : IntKind.u64.wrap ((s : Int) + 11400714819323198485) = ((nextS s : Nat) : Int) := by
  rw [IntKind.wrap_u64, nextS]; rfl
/-- A state. -/
def St : Type := { s : Nat // s < 18446744073709551616 }
def St.next (s : St) : St := ⟨nextS s.1, nextS_lt s.1⟩
def St.val (s : St) : Value := .int .u64 (s.1 : Int)
def St.encs (s : St) : Array Value := #[.int .u64 (s.1 : Int), .int .u64 (mixN s.1 : Nat)]
set_option maxRecDepth 100000 in
set_option maxHeartbeats 4000000 in
theorem numbers_cell (n : Nat) (hn : 1 ≤ n) (B : Nat) : SeqCell Fence.wide n Tryz.prog 123 #[.pointer (some ⟨B, 0, none⟩)] St.encs St.next B 44 St.val := by
  intro l J Jx k₀ s₀ W hJB hJd hJ0 hY h0 hbox
  refine callsIn_of_wp Tryz.func123 rfl trivial ?_ rfl
  simp only [Tryz.ntmps123, List.size_toArray, List.length_cons, List.length_nil, Nat.reduceAdd, Nat.reduceSub, Array.replicate_succ, Array.replicate_zero, List.push_toArray, List.append_toArray, List.nil_append, List.cons_append]
  gi_wp2
  gi_loopg [3] k₀ (fun k s3 wr => ∃ s : St, J k s wr ∧ Boxed wr B 44 s.val)
  case atStart => exact ⟨s₀, h0, hbox⟩
  case round =>
    obtain ⟨s, hs, hb⟩ := hrel
    cases gk with
    | zero => exact (hJ0 s wr hs).elim
    | succ k =>
      have HY := hY k s (wr.setCell ⟨B, 0, none⟩ (.int .u64 (nextS s.1 : Nat))) (hJB _ _ _ _ hs)
      have hb2 : Boxed (wr.setCell ⟨B, 0, none⟩ (.int .u64 (nextS s.1 : Nat))) B 44 (.int .u64 (nextS s.1 : Nat)) := hb.set _
      have HN := Lib.hid (next_any s.1 s.2)
      have e1 := hb.cell
      have e2 := hb.frozen
      have e3 := hb2.cell
      have HB2 := Lib.hid hb2
      have HNX := Lib.hid (show (St.next s).val = .int .u64 (nextS s.1 : Nat) from rfl)
      simp only [St.val] at e1
      obtain ⟨fn, tmps, assign, body, hy, hR⟩ := HY
      simp only [St.encs, St.next] at hy
      clear hb hb2 hs
      generalize hV : wr.setCell ⟨B, 0, none⟩ (.int .u64 (nextS s.1 : Nat)) = V at *
      have HV := Lib.hid hV
      have hR' := Lib.hid hR
      clear hR
      gi_wp2_with (refine ⟨trivial, ?_⟩; gi_at_call 68; refine (callsIn_wide.2 (HN.out _)).mono ?_; rintro e w' ⟨rfl, rfl⟩)
      refine RoundIn.mono hR'.out ?_
      rintro e W3 (⟨rfl, hJ3, hk3⟩ | ⟨rfl, hJx3⟩)
      · gi_wp2
        gi_roundg k
        case rel => exact ⟨s.next, hJ3, by rw [HNX.out]; exact hk3.trans HB2.out⟩
        case measure => omega
      · gi_wp2
        refine bodyPost_ret (results_none rfl _ _ _) rfl ?_
        exact ⟨⟨_, rfl⟩, hJx3⟩
end
end Go.Proofs.YtmfhimeffmpgaaaGreat
