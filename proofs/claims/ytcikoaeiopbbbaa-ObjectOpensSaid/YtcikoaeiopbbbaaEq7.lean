/- Contracts of layer 12: Add. -/
import Derived.Test.YtcikoaeiopbbbaaEq3
import Derived.Test.YtcikoaeiopbbbaaEq6
import Derived.ArgAppend
import Derived.Deep.AppendLies
import Derived.Deep.RegionLaw
namespace Go.Proofs.Ytcikoaeiopbbbaa
set_option linter.unusedVariables false
set_option linter.unusedSimpArgs false
open Go.RowKit
set_option maxRecDepth 100000
theorem step_growsO {P : Program} {w : World} {ops : Array Oper} {o : Oper} {a : Act} {K : Act → World → Prop} {Q : Exit → Act → World → Prop} {E : Prop} (hgd : o.guard = none) (s x : Operand) (t : TypeId)
    (ho : o.op = .call { callee := .builtin .append, args := #[s, x], argTypes := #[t, t] })
    (e : TypeId) (i : TypeInfo) (z : Value) (size bytes : Nat) (ht : P.underlying t = some (.slice e)) (hi : P.info? e = some i) (hz : i.zero = some z)
    (hsize : i.size = size) (hby : i.bytes = bytes) (hzs : z.cells.size = size) (hsz : 0 < size)
    (ao : Option Addr) (n cap : Nat) (olds : List Value) (hs : a.eval s = .slice ao n cap) (hnone : ao = none → n = 0 ∧ cap = 0) (hlo : olds.length = n * size) (holds : ∀ b, ao = some b → ∀ j u, olds[j]? = some u → w.cell? (b.add j) = some u)
    (ad : Addr) (m c : Nat) (news : List Value) (hx : a.eval x = .slice (some ad) m c) (hl : news.length = m * size) (hnews : ∀ j u, news[j]? = some u → w.cell? (ad.add j) = some u) (h1c : ∀ u ∈ news, u.oneCell' = true)
    (hg : cap < n + m) (h63 : n + m ≤ maxLen) (hbytes : (n + m) * bytes ≤ 140737488355328)
    (h : ∀ v' w', w'.ownsRow w.heap.size e size v' (n + m) (olds ++ news) → w.grownBy w' none → K (a.put o.dst v') w') :
    if Region.wanted o (yielded ops a.tmps) = true then Oper.wp P o a w K Q else E := by
  have hw : Region.wanted o (yielded ops a.tmps) = true := by simp [Region.wanted, hgd]
  rw [if_pos hw]
  unfold Oper.wp execOp
  cases ao with
  | some b =>
    obtain ⟨v', w', hr, h2, h3⟩ := run_append_arg_grows (P := P) w t o.type e i z size bytes ht hi hz hsize hby hzs hsz b n cap olds hlo (holds b rfl) ad m c news hl hnews hg h63 hbytes
    simp only [ho, resolve, invoke, builtin, Sem.run_bind, Sem.run_pure, Result.andThen_ok, List.map_toArray, List.map_cons, List.map_nil, hs, hx, hr]
    exact h v' w' h2 h3
  | none =>
    obtain ⟨rfl, rfl⟩ := hnone rfl
    obtain rfl : olds = [] := List.eq_nil_of_length_eq_zero (by simpa using hlo)
    obtain ⟨v', w', hr, h2, h3, _⟩ := run_append_own (P := P) w w.heap.size t o.type e i z size bytes ht hi hz hsize hby hzs hsz (.slice none 0 0) 0 [] (World.ownsRow_nil w _ e size) ad m c news hl hnews h1c h63 hbytes (Nat.le_refl _)
    simp only [ho, resolve, invoke, builtin, Sem.run_bind, Sem.run_pure, Result.andThen_ok, List.map_toArray, List.map_cons, List.map_nil, hs, hx, hr]
    exact h v' w' h2 h3
theorem news_drew12 {x : World} {o : Obj} {g : Nat} {L : List Value} (h : ∀ j u, L[j]? = some u → (x.alloc o).cell? ((⟨g, 0, none⟩ : Addr).add j) = some u) : ∀ j u, L[j]? = some u → (x.alloc o).drew.cell? ((⟨g, 0, none⟩ : Addr).add j) = some u := h
theorem below_grown12 {x w : World} {o : Obj} (h : (x.alloc o).drew.grownBy w none) : Below x.heap.size x w :=
  (((Below.refl _ _).alloc (Nat.le_refl _) o).drew).grown h (by show _ ≤ (x.alloc o).heap.size; simp) (fun k hk => by cases hk)
theorem sym12_info : (Try.prog.info? 29).map (fun i => (i.zero, i.size, i.bytes)) = some (some (.agg #[.int .u64 0, .string ⟨#[]⟩]), 2, 24) := by kernel_rfl
def addAns (k s c : Int) (xs : List SymR) (x : SymR) : List Int := [whenI (!storeB k s c xs) 1, whenI ((x.2.size : Int) != s) 2, whenI (hasI xs x.1) 8, whenI ((xs.length : Int) == c) 7]
def addE (k s c : Int) (xs : List SymR) (x : SymR) : Int := if storeB k s c xs then whyI s c xs x else 1
theorem addAns_eq (k s c : Int) (xs : List SymR) (x : SymR) : firstI (addAns k s c xs x) = addE k s c xs x := by
  unfold addAns addE whyI
  cases storeB k s c xs <;> cases ((x.2.size : Int) != s) <;> cases hasI xs x.1 <;> cases ((xs.length : Int) == c) <;> rfl
abbrev addW3 (k s c : Int) (A : Option Addr) (l d : Nat) (x : SymR) (w : World) : World :=
  ((w.alloc (.cells #[.int .i64 k, .int .i64 s, .int .i64 c, .slice A l d] 25)).alloc (.cells #[.int .u64 (x.1 : Int), .string x.2] 29)).alloc (.cells #[.int .i64 0, .int .i64 0, .int .i64 0, .slice none 0 0] 25)
def zI (e v : Int) : Int := if e = 0 then v else 0
theorem addE_ok {k s c : Int} {xs : List SymR} {x : SymR} (h : addE k s c xs x = 0) : storeB k s c xs = true ∧ (x.2.size : Int) = s ∧ hasI xs x.1 = false ∧ (xs.length : Int) < c ∧ c ≤ 64 := by
  unfold addE at h
  split at h
  case isFalse => cases h
  case isTrue hs =>
    unfold whyI at h
    split at h
    case isTrue => cases h
    case isFalse h1 =>
      split at h
      case isTrue => cases h
      case isFalse h2 =>
        split at h
        case isTrue => cases h
        case isFalse h3 =>
          have h4 := hs
          unfold storeB kB at h4
          simp only [Bool.and_eq_true, decide_eq_true_eq] at h4
          simp at h1 h2 h3
          exact ⟨hs, h1, by simpa using h2, by omega, h4.1.1.1.2.2⟩
theorem own_cap {w : World} {base e size n c : Nat} {A : Option Addr} {xs : List Value} (h : w.ownsRow base e size (.slice A n c) n xs) : n ≤ c ∧ c ≤ maxLen ∧ (A = none → c = 0) ∧ (∀ b, A = some b → base ≤ b.block) := by
  rcases h.2 with ⟨hv, h0⟩ | ⟨g, cap, cur, hv, hb, hh, hn, hm, -⟩
  · injection hv with h1 h2 h3
    subst h1 h3 h0
    exact ⟨Nat.le_refl _, Nat.zero_le _, fun _ => rfl, fun b hb => by cases hb⟩
  · injection hv with h1 h2 h3
    subst h1 h3
    exact ⟨hn, hm, fun h => (by cases h), fun b hb2 => by injection hb2 with hb2; subst hb2; exact hb⟩
theorem add_own {x w5 : World} {o : Obj} {g n c5 : Nat} {A5 : Option Addr} {xs : List SymR} {y : SymR} {e : TypeId} (h : w5.ownsRow (x.alloc o).drew.heap.size e 2 (.slice A5 n c5) n (xs.flatMap encS ++ encS y)) (hg : g + 4 ≤ x.heap.size) :
    Syms w5 A5 n (xs ++ [y]) ∧ n ≤ c5 ∧ c5 ≤ maxLen ∧ (A5 = none → c5 = 0) ∧ ∀ b off, A5 = some ⟨b, off, none⟩ → g + 4 ≤ b := by
  obtain ⟨h1, h2, h3, h4⟩ := own_cap h
  rw [← flat_snoc] at h
  refine ⟨own_recs encS_len h (by omega), h1, h2, h3, fun b off hb => ?_⟩
  have := h4 _ hb
  have e1 : (x.alloc o).drew.heap.size = x.heap.size + 1 := by show (x.alloc o).heap.size = _; simp
  rw [e1] at this
  have : x.heap.size + 1 ≤ b := this
  omega
theorem add_close {w w6 : World} {g n c5 : Nat} {A5 : Option Addr} {k s c : Int} {zs : List SymR} {u0 u1 u2 u3 : Value} (hg : w.heap.size = g) (hb : Below g w w6) (hs : Syms w6 A5 n zs) (h1 : n ≤ c5) (h2 : c5 ≤ maxLen) (h3 : A5 = none → c5 = 0) (h4 : ∀ b off, A5 = some ⟨b, off, none⟩ → g + 4 ≤ b) (hz : zs.length = n) :
    StoreOut k s c zs 0 w (.returned (.tuple #[.agg #[.int .i64 k, .int .i64 s, .int .i64 c, .slice A5 n c5], .int .i64 0])) ((((w6.setCell ⟨g + 2, 0, none⟩ u0).setCell ⟨g + 2, 1, none⟩ u1).setCell ⟨g + 2, 2, none⟩ u2).setCell ⟨g + 2, 3, none⟩ u3) := by
  subst hz
  subst hg
  refine ⟨A5, c5, rfl, Recs.far4 hs (fun b off hb _ => by have := h4 b off hb; omega) _ _ _ _, h1, h2, h3, below_set4 hb (by omega) _ _ _ _⟩
end Go.Proofs.Ytcikoaeiopbbbaa
