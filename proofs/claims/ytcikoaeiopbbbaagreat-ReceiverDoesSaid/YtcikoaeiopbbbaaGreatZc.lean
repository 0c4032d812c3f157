/- Parts: RndM, Rnd1, RngC, Rnd3, Rnd4, Rnd5, Rnd2, RndR1, RndS, RndR2, RndR3, RefNums, RndH, OwnU, DegM, Deg1, DegW1, QTail, DegW2, DegW3, Deg2, DegS1, Bitrow2, Of, Same, Nb1, OwnR, Nb3. -/
import Derived.Test.YtcikoaeiopbbbaaGreatZb
import Derived.BigQuiet
import Derived.BigRegion
import Derived.Deep.DeepCutAuto
import Derived.Deep.LoopGhost
import Derived.Deep.QuietTactic
import Derived.Deep.RegionHeld3
import Derived.Deep.RegionWith
import Derived.IntWalk
import Derived.Lib.BitFns
import Derived.Lib.Hide
import Derived.Lib.Slices
import Derived.Lib.Small
import Derived.Lib.Strings
import Derived.Lib.Walk
import Derived.LoopIn
import Derived.LoopNIn
import Derived.Maps.AppendAt
import Derived.OwnWalkIn
import Derived.RangeFuncBound
import Derived.RangeFuncBox
import Derived.RangeFuncCalls
import Derived.RangeFuncLeaves
import Derived.RangeFuncNested
import Derived.RegionTactic
import Derived.Shelf.Abstract
import Derived.Shelf.RegionOpen
import Derived.Sort.LoopGhostIn
import Derived.Sort.QuietIn
import Derived.Sort.QuietTacIn
import Derived.Sort.QuietThIn
import Derived.StillTail
import Derived.StillTailTactics
import Derived.TacticsIn
import Derived.TacticsInMore
import Derived.Test.YtcikoaeiopbbbaaGreatChecked
import Derived.Test.YtcikoaeiopbbbaaGreatRows
import Derived.Test.YtcikoaeiopbbbaaGreatShelf
import Derived.WalkKit
namespace Go.Proofs.YtcikoaeiopbbbaaGreat
set_option linter.unusedVariables false
set_option linter.unusedSimpArgs false
set_option linter.unusedSectionVars false
section
/- Layer 6, its arithmetic: mixed is one to one, so some number of a state is below whatever the bound leaves out. No program. -/
def mixA (z:Nat):Nat:=((z^^^z / 1073741824)*13787848793156543929)%18446744073709551616
def mixB (z:Nat):Nat:=((z^^^z / 134217728)*10723151780598845931)%18446744073709551616
def mixN (z:Nat):Nat:=mixB (mixA z)^^^mixB (mixA z) / 2147483648
theorem shx_inj (k:Nat) (hk:1≤k) (x y:Nat) (h:x^^^x / 2 ^ k=y^^^y / 2 ^ k):x=y:=by
 have hd:(x^^^y)=(x^^^y) / 2 ^ k:=by
  apply Nat.eq_of_testBit_eq
  intro i
  have h1:=congrArg (fun z=>Nat.testBit z i) h
  simp only [Nat.testBit_xor,Nat.testBit_div_two_pow] at h1 ⊢
  revert h1
  cases x.testBit i<;>cases y.testBit i<;>cases x.testBit (i+k)<;>cases y.testBit (i+k)<;>decide
 have h0:x^^^y=0:=by
  rcases Nat.eq_zero_or_pos (x^^^y) with e | e
  ·exact e
  ·have:(x^^^y) / 2 ^ k<x^^^y:=Nat.div_lt_self e (Nat.one_lt_two_pow (by omega))
   omega
 apply Nat.eq_of_testBit_eq
 intro i
 have h1:=congrArg (fun z=>Nat.testBit z i) h0
 simp only [Nat.testBit_xor,Nat.zero_testBit] at h1
 revert h1
 cases x.testBit i<;>cases y.testBit i<;>decide
theorem mul_inj (c d q:Nat) (hcd:c*d=1+q*18446744073709551616) (x y:Nat) (hx:x<18446744073709551616) (hy:y<18446744073709551616) (h:x*c%18446744073709551616=y*c%18446744073709551616):x=y:=by
 have k:∀ z,z<18446744073709551616→(z*c%18446744073709551616)*d%18446744073709551616=z:=fun z hz=>by
  rw [Nat.mod_mul_mod,Nat.mul_assoc,hcd,Nat.mul_add,Nat.mul_one,← Nat.mul_assoc,Nat.add_mul_mod_self_right,Nat.mod_eq_of_lt hz]
 rw [← k x hx,h,k y hy]
theorem xor_lt (x k:Nat) (hx:x<18446744073709551616):x^^^x / k<18446744073709551616:=
 Nat.xor_lt_two_pow (n:=64) hx (Nat.lt_of_le_of_lt (Nat.div_le_self _ _) hx)
theorem mixA_lt (z:Nat):mixA z<18446744073709551616:=Nat.mod_lt _ (by omega)
theorem mixB_lt (z:Nat):mixB z<18446744073709551616:=Nat.mod_lt _ (by omega)
theorem mixN_lt (z:Nat):mixN z<18446744073709551616:=xor_lt _ _ (mixB_lt _)
theorem mixA_inj (x y:Nat) (hx:x<18446744073709551616) (hy:y<18446744073709551616) (h:mixA x=mixA y):x=y:=
 shx_inj 30 (by omega) x y (mul_inj 13787848793156543929 10871156337175269513 8125545580553827436 (by decide) _ _ (xor_lt x _ hx) (xor_lt y _ hy) h)
theorem mixB_inj (x y:Nat) (hx:x<18446744073709551616) (hy:y<18446744073709551616) (h:mixB x=mixB y):x=y:=
 shx_inj 27 (by omega) x y (mul_inj 10723151780598845931 3573116690164977347 2077064247507883091 (by decide) _ _ (xor_lt x _ hx) (xor_lt y _ hy) h)
theorem mixN_inj (x y:Nat) (hx:x<18446744073709551616) (hy:y<18446744073709551616) (h:mixN x=mixN y):x=y:=
 mixA_inj x y hx hy (mixB_inj _ _ (mixA_lt x) (mixA_lt y) (shx_inj 31 (by omega) _ _ h))
def nextS (s:Nat):Nat:=(s+11400714819323198485)%18446744073709551616
theorem nextS_lt (s:Nat):nextS s<18446744073709551616:=Nat.mod_lt _ (by omega)
def stN (s j:Nat):Nat:=(s+j*11400714819323198485)%18446744073709551616
theorem stN_succ (s j:Nat):stN s (j+1)=nextS (stN s j):=by
 unfold stN nextS
 rw [Nat.mod_add_mod,Nat.succ_mul,Nat.add_assoc]
theorem add_cancel (s a b:Nat) (h:(s+a)%18446744073709551616=(s+b)%18446744073709551616):a%18446744073709551616=b%18446744073709551616:=by omega
theorem stN_next (s j:Nat):stN (nextS s) j=stN s (j+1):=by
 unfold stN nextS
 rw [Nat.mod_add_mod,Nat.succ_mul,Nat.add_assoc,Nat.add_comm 11400714819323198485]
theorem stN_lt (s j:Nat):stN s j<18446744073709551616:=Nat.mod_lt _ (by omega)
theorem stN_inj (s i j:Nat) (hi:i<1000) (hj:j<1000) (h:stN s i=stN s j):i=j:=by
 have h1:i<18446744073709551616:=by omega
 have h2:j<18446744073709551616:=by omega
 exact mul_inj 11400714819323198485 17428512612931826493 10771413168148108919 (by decide) i j h1 h2 (add_cancel _ _ _ h)
theorem pigeon:∀ (n:Nat) (f:Nat→Nat),(∀ i,i≤n→f i<n)→∃ i j,i<j∧j≤n∧f i=f j
 | 0,f,h=>absurd (h 0 (Nat.le_refl _)) (Nat.not_lt_zero _)
 | n+1,f,h=>by
   by_cases hc:∃ i,i≤n∧f i=f (n+1)
   ·obtain⟨i,hi,e⟩:=hc
    exact⟨i,n+1,by omega,Nat.le_refl _,e⟩
   ·have hne:∀ i,i≤n→f i≠f (n+1):=fun i hi e=>hc ⟨i,hi,e⟩
    have hv:=h (n+1) (Nat.le_refl _)
    obtain⟨i,j,hij,hj,e⟩:=pigeon n (fun i=>if f i=n then f (n+1) else f i) (fun i hi=>by
     have h1:=h i (by omega)
     have h2:=hne i hi
     by_cases h3:f i=n
     ·simp only [if_pos h3];omega
     ·simp only [if_neg h3];omega)
    have h1:=hne i (by omega)
    have h2:=hne j hj
    refine⟨i,j,hij,by omega,?_⟩
    by_cases h3:f i=n<;>by_cases h4:f j=n
    ·rw [h3,h4]
    ·simp only [if_pos h3,if_neg h4] at e;exact absurd e.symm h2
    ·simp only [if_neg h3,if_pos h4] at e;exact absurd e h1
    ·simpa only [if_neg h3,if_neg h4] using e
def good (over s:Nat):Prop:=mixN (nextS s)+over<18446744073709551616
instance (over s:Nat):Decidable (good over s):=inferInstanceAs (Decidable (_<_))
def gw (over:Nat):Nat→Nat→Prop
 | 0,_=>False
 | k+1,s=>good over s∨gw over k (nextS s)
theorem stN_zero (s:Nat) (hs:s<18446744073709551616):stN s 0=s:=by
 unfold stN
 rw [Nat.zero_mul,Nat.add_zero,Nat.mod_eq_of_lt hs]
theorem gw_of (over k:Nat):∀ (s j:Nat),j<k→good over (stN s j)→s<18446744073709551616→gw over k s:=by
 induction k with
 | zero=>exact fun s j h _ _=>absurd h (Nat.not_lt_zero _)
 | succ k ih=>
   intro s j h hg hs
   cases j with
   | zero=>exact .inl (by rwa [stN_zero s hs] at hg)
   | succ j=>exact .inr (ih (nextS s) j (Nat.lt_of_succ_lt_succ h) (by rw [stN_next];exact hg) (nextS_lt s))
theorem diff_lt {a b m:Nat} (h1:a<m) (h2:m≤a+b):a+b-m<b:=by omega
theorem diff_inj {a c b m:Nat} (h1:m≤a+b) (h2:m≤c+b) (e:a+b-m=c+b-m):a=c:=by omega
theorem gw_all (over s:Nat) (ho:over<512) (hs:s<18446744073709551616):gw over 512 s:=by
 by_cases h:∃ j,j<512∧good over (stN s j)
 ·obtain⟨j,hj,hg⟩:=h
  exact gw_of over 512 s j hj hg hs
 ·exfalso
  have hb:∀ j,j<512→18446744073709551616≤mixN (stN s (j+1))+over:=fun j hj=>by
   have h1:¬ good over (stN s j):=fun hg=>h ⟨j,hj,hg⟩
   unfold good at h1
   rw [← stN_succ] at h1
   exact Nat.le_of_not_lt h1
  obtain⟨i,j,hij,hj,e⟩:=pigeon over (fun j=>mixN (stN s (j+1))+over-18446744073709551616) (fun j hj=>diff_lt (mixN_lt _) (hb j (Nat.lt_of_le_of_lt hj ho)))
  have hj2:j<512:=Nat.lt_of_le_of_lt hj ho
  have hi2:i<512:=Nat.lt_trans hij hj2
  have h3:=mixN_inj _ _ (stN_lt s (i+1)) (stN_lt s (j+1)) (diff_inj (hb i hi2) (hb j hj2) e)
  have h4:=stN_inj s (i+1) (j+1) (Nat.lt_trans (Nat.succ_lt_succ hi2) (by decide)) (Nat.lt_trans (Nat.succ_lt_succ hj2) (by decide)) h3
  have h5:i=j:=Nat.succ.inj h4
  exact absurd hij (by rw [h5];exact Nat.lt_irrefl _)
def belowF (n over:Nat):Nat→Nat→Nat×Nat
 | 0,s=>(s,0)
 | k+1,s=>if good over s then (nextS s,mixN (nextS s)%n) else belowF n over k (nextS s)
def belowN (n s:Nat):Nat×Nat:=belowF n (18446744073709551616%n) 512 s
theorem over_lt (n:Nat) (h1:1≤n) (h2:n≤512):18446744073709551616%n<512:=Nat.lt_of_lt_of_le (Nat.mod_lt _ (by omega)) h2
theorem belowF_lt (n over:Nat) (hn:1≤n) (k:Nat):∀ (s:Nat),s<18446744073709551616→(belowF n over k s).1<18446744073709551616∧(belowF n over k s).2<n:=by
 induction k with
 | zero=>exact fun s hs=>⟨hs,hn⟩
 | succ k ih=>
   intro s hs
   unfold belowF
   split
   ·exact⟨nextS_lt s,Nat.mod_lt _ hn⟩
   ·exact ih (nextS s) (nextS_lt s)
theorem belowN_lt (n s:Nat) (hn:1≤n) (hs:s<18446744073709551616):(belowN n s).1<18446744073709551616∧(belowN n s).2<n:=belowF_lt n _ hn 512 s hs
end
section
/- Contracts of layer 6: mixed, Next, Start, boundMayBe; the reference's Mixed, rest. -/
open Go.RowKit
theorem xor_cast (x k:Nat) (hx:x<18446744073709551616):bits BinOp.xor IntKind.u64 (x:Int) ((x / k:Nat):Int)=((x^^^x / k:Nat):Int):=
 u64_xor_nat _ _ (by omega) (by have:=Nat.div_le_self x k;omega)
theorem div_cast (x k:Nat):(x:Int) / (k:Int)=((x / k:Nat):Int):=by simp
theorem mixA_int (z:Nat) (hz:z<18446744073709551616):IntKind.u64.wrap (bits BinOp.xor IntKind.u64 (z:Int) ((z:Int) / 1073741824)*13787848793156543929)=((mixA z:Nat):Int):=by
 rw [show (z:Int) / 1073741824=((z / 1073741824:Nat):Int) from div_cast z 1073741824,xor_cast z _ hz,IntKind.wrap_u64,mixA,Int.natCast_emod,Int.natCast_mul]
 rfl
theorem mixB_int (z:Nat) (hz:z<18446744073709551616):IntKind.u64.wrap (bits BinOp.xor IntKind.u64 (z:Int) ((z:Int) / 134217728)*10723151780598845931)=((mixB z:Nat):Int):=by
 rw [show (z:Int) / 134217728=((z / 134217728:Nat):Int) from div_cast z 134217728,xor_cast z _ hz,IntKind.wrap_u64,mixB,Int.natCast_emod,Int.natCast_mul]
 rfl
theorem mixN_int (z:Nat):bits BinOp.xor IntKind.u64 ((mixB (mixA z):Nat):Int) (((mixB (mixA z):Nat):Int) / 2147483648)=((mixN z:Nat):Int):=by
 rw [show ((mixB (mixA z):Nat):Int) / 2147483648=((mixB (mixA z) / 2147483648:Nat):Int) from div_cast _ 2147483648,xor_cast _ _ (mixB_lt _),mixN]
theorem tdiv_wrap (x k:Nat) (hx:x<18446744073709551616):IntKind.u64.wrap ((x:Int).tdiv (k:Int))=(x:Int) / (k:Int):=by
 rw [Int.tdiv_eq_ediv_of_nonneg (Int.natCast_nonneg x),div_cast]
 exact IntWalk.u64_in _ ⟨Int.natCast_nonneg _,by have:=Nat.div_le_self x k;omega⟩
theorem rest_int (n:Nat) (h1:1≤n) (h2:n≤512):(IntKind.u64.wrap (18446744073709551615%(n:Int)+1)).tmod (n:Int)=((18446744073709551616%n:Nat):Int):=by
 have e:(18446744073709551615:Int)%(n:Int)=((18446744073709551615%n:Nat):Int):=rfl
 have hl:18446744073709551615%n<n:=Nat.mod_lt _ h1
 have e2:(18446744073709551615%n+1)%n=18446744073709551616%n:=Nat.mod_add_mod _ _ _
 rw [e]
 generalize 18446744073709551615%n=r at *
 generalize 18446744073709551616%n=m at *
 rw [IntWalk.u64_in _ (by omega),Int.tmod_eq_emod_of_nonneg (by omega),← e2]
 rfl
theorem ret_u64 (x y:Int) (h:x=y):Ending.returned (.int .u64 x)=.returned (.int .u64 y):=by rw [h]
set_option maxHeartbeats 1000000 in
theorem mixed_any (z:Nat) (hz:z<18446744073709551616) (w:World):Calls Tryz.prog 197 #[.int .u64 z] w fun e w'=>e=.returned (.int .u64 (mixN z:Nat))∧w=w':=by
 go_enter Tryz.func197,Tryz.ntmps197
 go_wp2
 go_ret
 exact⟨ret_u64 _ _ (by rw [mixA_int z hz,mixB_int _ (mixA_lt z),mixN_int]),rfl⟩
theorem refMixed_any (z:Nat) (hz:z<18446744073709551616) (w:World):Calls Tryz.prog 137 #[.int .u64 z] w fun e w'=>e=.returned (.int .u64 (mixN z:Nat))∧w=w':=by
 go_enter Tryz.func137,Tryz.ntmps137
 go_wp2
 go_ret
 exact⟨ret_u64 _ _ (by rw [mixA_int z hz,show IntKind.u64.wrap (((mixA z:Nat):Int).tdiv 134217728)=((mixA z:Nat):Int) / 134217728 from tdiv_wrap _ 134217728 (mixA_lt z),mixB_int _ (mixA_lt z),show IntKind.u64.wrap (((mixB (mixA z):Nat):Int).tdiv 2147483648)=((mixB (mixA z):Nat):Int) / 2147483648 from tdiv_wrap _ 2147483648 (mixB_lt _),mixN_int]),rfl⟩
theorem bound_any (n:Int) (w:World):Calls Tryz.prog 203 #[.int .i64 n] w fun e w'=>e=.returned (.bool (decide (1≤n∧n≤512)))∧w=w':=by
 by_cases h:1≤n
 ·by_cases h2:n≤512
  ·rw [decide_eq_true ⟨h,h2⟩]
   go_enter Tryz.func203,Tryz.ntmps203
   go_wp2
   go_ret
   exact⟨rfl,rfl⟩
  ·rw [decide_eq_false (fun x=>h2 x.2)]
   have t:decide (n≤512)=false:=by simpa using h2
   go_enter Tryz.func203,Tryz.ntmps203
   go_wp2
   go_ret
   exact⟨by simp,rfl⟩
 ·rw [decide_eq_false (fun x=>h x.1)]
  have t:decide (1≤n)=false:=by simpa using h
  go_enter Tryz.func203,Tryz.ntmps203
  go_wp2
  go_ret
  exact⟨by simp,rfl⟩
theorem rest_any (n:Nat) (h1:1≤n) (h2:n≤512) (w:World):Calls Tryz.prog 192 #[.int .u64 n] w fun e w'=>e=.returned (.int .u64 (18446744073709551616%n:Nat))∧w=w':=by
 have g:(1:Int)≤n:=by omega
 go_enter Tryz.func192,Tryz.ntmps192
 go_wp2
 go_ret
 exact⟨ret_u64 _ _ (rest_int n h1 h2),rfl⟩
theorem next_any (s:Nat) (hs:s<18446744073709551616) (w:World):Calls Tryz.prog 178 #[.int .u64 s] w fun e w'=>e=.returned (.tuple #[.int .u64 (nextS s:Nat),.int .u64 (mixN (nextS s):Nat)])∧w=w':=by
 have e:IntKind.u64.wrap ((s:Int)+11400714819323198485)=((nextS s:Nat):Int):=by
  rw [IntKind.wrap_u64,nextS];rfl
 have HM:=hZ (mixed_any (nextS s) (nextS_lt s))
 generalize nextS s=t at *
 go_enter Tryz.func178,Tryz.ntmps178
 go_wp2_with fail
 refine (HM.out _).mono ?_
 rintro e' w1 ⟨rfl,rfl⟩
 go_wp2_with fail
 go_ret2
 exact⟨rfl,rfl⟩
theorem start_any (s:Nat) (hs:s<18446744073709551616) (w:World):Calls Tryz.prog 179 #[.int .u64 s] w fun e w'=>e=.returned (.int .u64 (mixN s:Nat))∧w=w':=by
 have HM:=hZ (mixed_any s hs)
 go_enter Tryz.func179,Tryz.ntmps179
 go_wp2_with fail
 refine (HM.out _).mono ?_
 rintro e' w1 ⟨rfl,rfl⟩
 go_wp2_with fail
 go_ret
 exact⟨rfl,rfl⟩
end
section
/- A law of one's own for 'for .. := range seq' where the iterator keeps its state in a box of its own (a captured variable), and ends only when the body does. No program. -/
open Go.RowKit
variable {F:Fence} {n:Nat} {P:Program}
def SeqCell {σ:Type} (F:Fence) (n:Nat) (P:Program) (g:Nat) (lb:Array Value) (encs:σ→Array Value) (next:σ→σ) (B:Nat) (T:TypeId) (val:σ→Value):Prop:=
 ∀ (l:Nat) (J:Nat→σ→World→Prop) (Jx:World→Prop) (k₀:Nat) (s₀:σ) (W:World),
  (∀ k s W v,J k s W→J k s (W.setCell ⟨B,0,none⟩ v))→(∀ k s W,J k s W→J k s W.drew)→(∀ s W,¬ J 0 s W) →
  (∀ k s W,J (k+1) s W→YieldAt F (n-1) P l (encs (next s)) W fun e W'=>(e=.returned (.bool true)∧J k (next s) W'∧W'.heap[B]?=W.heap[B]?)∨(e=.returned (.bool false)∧Jx W')) →
  J k₀ s₀ W→Boxed W B T (val s₀) →
  CallsIn F n P g (#[.func (.yield l) #[] #[]]++lb) W fun e W'=>(∃ v,e=.returned v)∧Jx W'
def postCell {σ:Type} (A B:Nat) (I:Nat→σ→World→Prop) (Ix:World→Prop) (k:Nat) (s:σ) (W:World):Exit→Act→World→Prop
 | .normal,_,W'=>KeepsFrom A W W'∧W'.heap[B]?=W.heap[B]?∧I k s W'
 | .ret,_,W'=>KeepsFrom A W W'∧Ix W'
 | .exit _,_,_=>False
 | .goto _,_,_=>False
 | .panic _,_,_=>False
 | .outgrown,_,_=>False
theorem drew_own {β:Type} {B:Nat} {I:β→World→Prop} (h:OwnFrom B I) {s:β} {W:World} (hs:I s W):I s W.drew:=
 h s W W.drew none hs ⟨rfl,rfl,rfl,Nat.le_refl _,fun _ _ _=>rfl⟩ (fun r e=>by cases e)
theorem range_cell {σ:Type} {g:Operand} {ps:Array Tmp} {assign body:Code} {Q:Exit→Act→World→Prop} {a:Act} {w:World}
  (hro:F.round=none) (h1:1≤n) {gf:Nat} {lb:Array Value} (hg:a.eval g=.func (.func gf) #[] lb) (hFg:F.fn gf) (eg:∀ args w,(callFunc gf args).run P w=.ok (.enter gf args) w)
  {encs:σ→Array Value} {next:σ→σ} {B:Nat} {T:TypeId} {val:σ→Value} (hseq:SeqCell F (n-1) P gf lb encs next B T val) (hps:∀ x,(encs x).size=ps.size)
  (I:Nat→σ→World→Prop) (Ix:World→Prop) (hI:OwnFrom w.heap.size (fun (p:Nat×σ) W=>I p.1 p.2 W)) (hIx:OwnFrom w.heap.size (fun (_:Unit) W=>Ix W))
  (hIB:∀ k s W v,I k s W→I k s (W.setCell ⟨B,0,none⟩ v)) (hI0:∀ s W,¬ I 0 s W) (k₀:Nat) (s₀:σ) (h0:I k₀ s₀ w) (hbox:Boxed w B T (val s₀)) (a₁:σ→Act)
  (hassign:∀ (l:Nat) (x:σ) (W:World) (K:Act→World→Prop),K (a₁ x) W →
   assign.wpIn (F.inRound l) (n-1-1) P (Exit.then K (fun _ _ _=>False)) { tmps:=(ps.zip (encs x)).foldl (fun t (p,v)=>t.setIfInBounds p v) a.tmps,defers:=[] } W)
  (hbody:∀ (l k:Nat) (s:σ) (W:World),I (k+1) s W→body.wpIn (F.inRound l) (n-1-1) P (postCell w.heap.size B I Ix k (next s) W) (a₁ (next s)) W)
  (hstop:∀ (D:Nat) (W:World),w.heap.size≤D→Ix W→W.heap[D]?=some (.deferred (some []))→Code.ret.wpIn F n P Q { a with defers:={ target:=.collected D,args:=#[] }::a.defers } W) :
  (Code.rangeFunc g ps assign body).wpIn F n P Q a w:=by
 have hBlt:B<w.heap.size:=hbox.lt
 refine wpIn_rangeFunc ?_
 intro fn hfn
 rw [hro]
 obtain⟨rc,hrc⟩:∃ rc:LoopState→Option Code→Loop,rc=fun st pe=>{ state:=st,pending:=pe,fn,tmps:=a.tmps,params:=ps,assign,body,defers:=w.heap.size }:=⟨_,rfl⟩
 obtain⟨W1,hW1⟩:∃ W1,(w.alloc (.deferred (some []))).alloc (.loop (rc .ready none))=W1:=⟨_,rfl⟩
 have hL1:W1.heap[w.heap.size+1]?=some (.loop (rc .ready none)):=by
  rw [← hW1];have:=World.alloc_heap_new (w.alloc (.deferred (some []))) (.loop (rc .ready none));rwa [World.size_alloc] at this
 have hK1:W1.heap[w.heap.size]?=some (.deferred (some [])):=by
  rw [← hW1];exact (Below.heap_alloc _ _ _ (by simp)).trans (World.alloc_heap_new w _)
 have hI1:I k₀ s₀ W1:=by rw [← hW1];exact hI.alloc (s:=(k₀,s₀)) _ (hI.alloc (s:=(k₀,s₀)) _ h0)
 have hB1:Boxed W1 B T (val s₀):=by rw [← hW1];exact (hbox.alloc _).alloc _
 refine⟨w.heap.size+1,[{ target:=.collected w.heap.size,args:=#[] }],W1,{ target:=.fn (.func gf) lb,args:=#[.func (.yield (w.heap.size+1)) #[] #[]] },W1,gf,
  #[.func (.yield (w.heap.size+1)) #[] #[]]++lb,W1,?_,?_,?_,?_,fun _=>h1,?_⟩
 ·rw [← hW1,hrc];exact run_enterLoop_outer _ _ _ _ _
 ·simp only [resolve,hg]
  simp [go_sem]
 ·intro f' hf';simp [Target.leads] at hf';subst hf';exact hFg
 ·simp [invoke,go_sem,eg]
 ·have other:∀ (k:Nat) (W:World) (v:Value),w.heap.size≤k→(W.setCell ⟨B,0,none⟩ v).heap[k]?=W.heap[k]?:=fun k W v hk=>Below.heap_setCell W ⟨B,0,none⟩ v k (by show k≠B;omega)
  refine (hseq (w.heap.size+1)
   (fun k s W=>I k s W∧W.heap[w.heap.size+1]?=some (.loop (rc .ready none))∧W.heap[w.heap.size]?=some (.deferred (some [])))
   (fun W=>Ix W∧W.heap[w.heap.size+1]?=some (.loop (rc .done (some .ret)))∧W.heap[w.heap.size]?=some (.deferred (some [])))
   k₀ s₀ W1
   (fun k s W v hs=>⟨hIB k s W v hs.1,(other _ W v (by omega)).trans hs.2.1,(other _ W v (Nat.le_refl _)).trans hs.2.2⟩)
   (fun k s W hs=>⟨drew_own hI (s:=(k,s)) hs.1,hs.2.1,hs.2.2⟩)
   (fun s W hs=>hI0 s W hs.1) ?_ ⟨hI1,hL1,hK1⟩ hB1).mono ?_
  ·rintro k s W ⟨hi,hl,hk⟩
   have hlt:w.heap.size+1<W.heap.size:=(Array.getElem?_eq_some_iff.1 hl).1
   have hy:=run_yield (P:=P) (args:=encs (next s)) hl (by rw [hrc];exact hps _)
   rw [hrc] at hy
   refine⟨fn,_,assign,body,hy,roundIn_of_wpIn hfn (hassign _ (next s) W _ ⟨_,run_beginRound hl (by rw [hrc]),?_⟩)⟩
   have hl2:(W.putObj (w.heap.size+1) (.loop { rc .ready none with state:=.busy })).heap[w.heap.size+1]?=some (.loop { rc .ready none with state:=.busy }):=World.putObj_heap_same hlt
   have hk2:(W.putObj (w.heap.size+1) (.loop { rc .ready none with state:=.busy })).heap[w.heap.size]?=some (.deferred (some [])):=(World.putObj_heap_other (by omega)).trans hk
   have hb2:∀ (V:World) (o:Obj),(V.putObj (w.heap.size+1) o).heap[B]?=V.heap[B]?:=fun V o=>World.putObj_heap_other (by omega)
   refine wpIn_mono (hbody _ k s _ (hI.putObj (s:=(k+1,s)) _ hi (by omega) hl rfl)) ?_
   have fin:∀ (jump:Option Code) (W3:World),KeepsFrom w.heap.size (W.putObj (w.heap.size+1) (.loop { rc .ready none with state:=.busy })) W3 →
     (Instr.endRound (w.heap.size+1) jump).run P W3=.ok (.bool jump.isNone) (W3.putObj (w.heap.size+1) (.loop (rc (if jump.isNone then .ready else .done) jump))) ∧
     W3.heap[w.heap.size+1]?=some (.loop { rc .ready none with state:=.busy }) ∧
     (W3.putObj (w.heap.size+1) (.loop (rc (if jump.isNone then .ready else .done) jump))).heap[w.heap.size+1]?=some (.loop (rc (if jump.isNone then .ready else .done) jump)) ∧
     (W3.putObj (w.heap.size+1) (.loop (rc (if jump.isNone then .ready else .done) jump))).heap[w.heap.size]?=some (.deferred (some [])):=fun jump W3 hk3=>by
    have hl3:=hk3.same _ _ (by omega) hl2 rfl
    have:=run_endRound (P:=P) jump hl3
    rw [hrc] at this ⊢
    exact⟨this,by rw [hrc] at hl3;exact hl3,World.putObj_heap_same (Array.getElem?_eq_some_iff.1 hl3).1,(World.putObj_heap_other (by omega)).trans (hk3.same _ _ (Nat.le_refl _) hk2 rfl)⟩
   rintro e a3 W3 hp
   cases e with
   | normal=>
     obtain⟨hk3,hkp3,hi3⟩:=hp
     obtain⟨hr,hl3,hl4,hk4⟩:=fin none W3 hk3
     exact⟨_,_,hr,.inl ⟨rfl,⟨hI.putObj (s:=(k,next s)) _ hi3 (by omega) hl3 rfl,hl4,hk4⟩,(hb2 _ _).trans (hkp3.trans (hb2 _ _))⟩⟩
   | ret=>
     obtain⟨hk3,hi3⟩:=hp
     obtain⟨hr,hl3,hl4,hk4⟩:=fin (some .ret) W3 hk3
     exact⟨_,_,hr,.inr ⟨rfl,hIx.putObj (s:=()) _ hi3 (by omega) hl3 rfl,hl4,hk4⟩⟩
   | exit id=>exact hp.elim
   | goto t=>exact hp.elim
   | panic ch=>exact hp.elim
   | outgrown=>exact hp.elim
  ·rintro e W2 ⟨⟨v,rfl⟩,hi,hl,hk⟩
   exact⟨some .ret,_,by have:=run_endLoop (P:=P) hl (by rw [hrc];simp);rw [hrc] at this;exact this,hstop _ _ (Nat.le_refl _) (hIx.putObj (s:=()) _ hi (by omega) hl rfl) ((World.putObj_heap_other (by omega)).trans hk)⟩
end
section
/- Contract of layer 6: the iterator of the numbers. -/
open Go.RowKit Go.Shelf
attribute [local go_sem] Oper.semAt_some
def St:Type:={ s:Nat // s<18446744073709551616 }
def St.next (s:St):St:=⟨nextS s.1,nextS_lt s.1⟩
def St.val (s:St):Value:=.int .u64 (s.1:Int)
def St.encs (s:St):Array Value:=#[.int .u64 (s.1:Int),.int .u64 (mixN s.1:Nat)]
set_option maxRecDepth 100000 in
set_option maxHeartbeats 4000000 in
theorem numbers_cell (n:Nat) (hn:1≤n) (B:Nat):SeqCell Fence.wide n Tryz.prog 227 #[.pointer (some ⟨B,0,none⟩)] St.encs St.next B 22 St.val:=by
 intro l J Jx k₀ s₀ W hJB hJd hJ0 hY h0 hbox
 refine callsIn_of_wp Tryz.func227 rfl trivial ?_ rfl
 simp only [Tryz.ntmps227,List.size_toArray,List.length_cons,List.length_nil,Nat.reduceAdd,Nat.reduceSub,Array.replicate_succ,Array.replicate_zero,List.push_toArray,List.append_toArray,List.nil_append,List.cons_append]
 gi_wp2
 gi_loopg [3] k₀ (fun k s3 wr=>∃ s:St,J k s wr∧Boxed wr B 22 s.val)
 case atStart=>exact⟨s₀,h0,hbox⟩
 case round=>
  obtain⟨s,hs,hb⟩:=hrel
  cases gk with
  | zero=>exact (hJ0 s wr hs).elim
  | succ k=>
    have HY:=hY k s (wr.setCell ⟨B,0,none⟩ (.int .u64 (nextS s.1:Nat))) (hJB _ _ _ _ hs)
    have hb2:Boxed (wr.setCell ⟨B,0,none⟩ (.int .u64 (nextS s.1:Nat))) B 22 (.int .u64 (nextS s.1:Nat)):=hb.set _
    have HN:=hZ (next_any s.1 s.2)
    have e1:=hb.cell
    have e2:=hb.frozen
    have e3:=hb2.cell
    have HB2:=hZ hb2
    have HNX:=hZ (show (St.next s).val=.int .u64 (nextS s.1:Nat) from rfl)
    simp only [St.val] at e1
    obtain⟨fn,tmps,assign,body,hy,hR⟩:=HY
    simp only [St.encs,St.next] at hy
    clear hb hb2 hs
    generalize hV:wr.setCell ⟨B,0,none⟩ (.int .u64 (nextS s.1:Nat))=V at *
    have HV:=hZ hV
    have hR':=hZ hR
    clear hR
    gi_wp2_with (refine⟨trivial,?_⟩;gi_at_call 178;refine (callsIn_wide.2 (HN.out _)).mono ?_;rintro e w' ⟨rfl,rfl⟩)
    refine RoundIn.mono hR'.out ?_
    rintro e W3 (⟨rfl,hJ3,hk3⟩ |⟨rfl,hJx3⟩)
    ·gi_wp2
     gi_roundg k
     case rel=>exact⟨s.next,hJ3,by rw [HNX.out];exact hk3.trans HB2.out⟩
     case measure=>omega
    ·gi_wp2
     refine bodyPost_ret (results_none rfl _ _ _) rfl ?_
     exact⟨⟨_,rfl⟩,hJx3⟩
end
section
/- Contract of layer 6: Below. -/
open Go.RowKit Go.Shelf
attribute [local go_sem] Oper.semAt_some
theorem run_loadVar_cell_int {P:Program} (W:World) (g:Nat) (T:TypeId) (k:IntKind) (v:Int) (hu:P.underlying T=some (.int k)) (hc:W.cell? ⟨g,0,none⟩=some (.int k v)):(loadVar T ⟨g,0,none⟩).run P W=.ok (.int k v) W:=by
 have hagg:(isAgg T).run P W=.ok false W:=by
  unfold isAgg
  rw [Sem.run_bind,run_underlying hu W]
  rfl
 have hl:(load ⟨g,0,none⟩).run P W=.ok (.int k v) W:=by go_simp
 simp [loadVar,Sem.run_bind,hagg,hl,Result.andThen]
theorem results_cells3 {P:Program} {fn:Func} {W:World} {p q r:Tmp} {T1 T2 T3:TypeId} {g1 g2 g3:Nat} {k1 k2 k3:IntKind} {v1 v2 v3:Int} (hr:fn.results=#[.cell p T1,.cell q T2,.cell r T3]) (tmps:Array Value)
  (hp:tmps.getD p undef=.pointer (some ⟨g1,0,none⟩)) (hq:tmps.getD q undef=.pointer (some ⟨g2,0,none⟩)) (hs:tmps.getD r undef=.pointer (some ⟨g3,0,none⟩))
  (b1:Box W g1 T1 #[.int k1 v1]) (b2:Box W g2 T2 #[.int k2 v2]) (b3:Box W g3 T3 #[.int k3 v3]) (u1:P.underlying T1=some (.int k1)) (u2:P.underlying T2=some (.int k2)) (u3:P.underlying T3=some (.int k3)) :
  (results fn tmps).run P W=.ok (.tuple #[.int k1 v1,.int k2 v2,.int k3 v3]) W:=by
 have hp':tmps[p]?.getD undef=.pointer (some ⟨g1,0,none⟩):=by simpa using hp
 have hq':tmps[q]?.getD undef=.pointer (some ⟨g2,0,none⟩):=by simpa using hq
 have hs':tmps[r]?.getD undef=.pointer (some ⟨g3,0,none⟩):=by simpa using hs
 have c1:=b1.cell 0
 have c2:=b2.cell 0
 have c3:=b3.cell 0
 simp at c1 c2 c3
 simp [results,hr,hp',hq',hs',asAddr,run_loadVar_cell_int W g1 T1 k1 v1 u1 c1,run_loadVar_cell_int W g2 T2 k2 v2 u2 c2,run_loadVar_cell_int W g3 T3 k3 v3 u3 c3,Sem.run_bind,Result.andThen]
def NumOut (s:Nat) (w:World) (e:Ending) (w':World):Prop:=
 ∃ B,e=.returned (.func (.func 227) #[] #[.pointer (some ⟨B,0,none⟩)])∧Boxed w' B 22 (.int .u64 s)∧w.heap.size≤B∧Below w.heap.size w w'
theorem numbers_any (s:Nat) (w:World):Calls Tryz.prog 216 #[.int .u64 s] w (NumOut s w):=by
 go_enter Tryz.func216,Tryz.ntmps216
 go_wp2_with fail
 go_ret
 exact⟨_,rfl,Box.new w _ _,Nat.le_refl _,(Below.refl w.heap.size w).alloc (Nat.le_refl _) _⟩
def Five (h:Nat) (x:Nat) (y:Nat) (n over:Nat) (W:World):Prop:=
 Boxed W h 22 (.int .u64 x)∧Boxed W (h+1) 3 (.int .i64 y)∧Boxed W (h+2) 33 (.int .i64 0)∧Boxed W (h+3) 22 (.int .u64 n)∧Boxed W (h+4) 22 (.int .u64 over)
theorem Five.keep {h x y n over:Nat} {W W':World} (H:Five h x y n over W) (hk:∀ b,b<h+5→W'.heap[b]?=W.heap[b]?):Five h x y n over W':=
 ⟨(hk _ (by omega)).trans H.1,(hk _ (by omega)).trans H.2.1,(hk _ (by omega)).trans H.2.2.1,(hk _ (by omega)).trans H.2.2.2.1,(hk _ (by omega)).trans H.2.2.2.2⟩
theorem Five.own {β:Type} (h:Nat) (x y:Nat) (n over:Nat) (A:Nat):OwnFrom A (fun (_:β) W=>Five h x y n over W):=
 OwnFrom.and (Own.from (boxed_own _ _ (fun _=>.int .u64 x)) _) (OwnFrom.and (Own.from (boxed_own _ _ (fun _=>.int .i64 y)) _) (OwnFrom.and (Own.from (boxed_own _ _ (fun _=>.int .i64 0)) _) (OwnFrom.and (Own.from (boxed_own _ _ (fun _=>.int .u64 n)) _) (Own.from (boxed_own _ _ (fun _=>.int .u64 over)) _))))
theorem Five.put {h x y n over:Nat} {W:World} (H:Five h x y n over W) (x' y':Nat):Five h x' y' n over (((W.setCell ⟨h,0,none⟩ (.int .u64 x')).setCell ⟨h+1,0,none⟩ (.int .i64 y')).setCell ⟨h+2,0,none⟩ (.int .i64 0)):=by
 obtain⟨b0,b1,b2,b3,b4⟩:=H
 refine⟨?_,?_,?_,?_,?_⟩
 ·exact ((b0.set _).other (by omega) _).other (by omega) _
 ·exact ((b1.other (by omega) _).set _).other (by omega) _
 ·exact ((b2.other (by omega) _).other (by omega) _).set _
 ·exact ((b3.other (by omega) _).other (by omega) _).other (by omega) _
 ·exact ((b4.other (by omega) _).other (by omega) _).other (by omega) _
theorem Five.start (w:World) (n over:Nat):Five w.heap.size 0 0 n over (((((w.alloc (.cells #[.int .u64 0] 22)).alloc (.cells #[.int .i64 0] 3)).alloc (.cells #[.int .i64 0] 33)).alloc (.cells #[.int .u64 n] 22)).alloc (.cells #[.int .u64 over] 22)):=by
 have k0:=Box.new w 22 #[.int .u64 0]
 have k1:=Box.new (w.alloc (.cells #[.int .u64 0] 22)) 3 #[.int .i64 0]
 have k2:=Box.new ((w.alloc (.cells #[.int .u64 0] 22)).alloc (.cells #[.int .i64 0] 3)) 33 #[.int .i64 0]
 have k3:=Box.new (((w.alloc (.cells #[.int .u64 0] 22)).alloc (.cells #[.int .i64 0] 3)).alloc (.cells #[.int .i64 0] 33)) 22 #[.int .u64 n]
 have k4:=Box.new ((((w.alloc (.cells #[.int .u64 0] 22)).alloc (.cells #[.int .i64 0] 3)).alloc (.cells #[.int .i64 0] 33)).alloc (.cells #[.int .u64 n] 22)) 22 #[.int .u64 over]
 simp only [World.size_alloc] at k1 k2 k3 k4
 exact⟨(((k0.alloc _).alloc _).alloc _).alloc _,((k1.alloc _).alloc _).alloc _,(k2.alloc _).alloc _,k3.alloc _,k4⟩
theorem below_allocs (w:World) (o0 o1 o2 o3 o4:Obj):Below w.heap.size w (((((w.alloc o0).alloc o1).alloc o2).alloc o3).alloc o4):=
 (((((Below.refl _ w).alloc (Nat.le_refl _) o0).alloc (by simp) o1).alloc (by simp;omega) o2).alloc (by simp;omega) o3).alloc (by simp;omega) o4
theorem over_int (n:Nat) (h1:1≤n) (h2:n≤512):(IntKind.u64.wrap (-(n:Int))).tmod (n:Int)=((18446744073709551616%n:Nat):Int):=by
 have e:IntKind.u64.wrap (-(n:Int))=((18446744073709551616-n:Nat):Int):=by rw [IntKind.wrap_u64];omega
 have e2:(18446744073709551616-n)%n=18446744073709551616%n:=by
  have:18446744073709551616=(18446744073709551616-n)+n:=by omega
  conv=>rhs;rw [this]
  rw [Nat.add_mod_right]
 rw [e,Int.tmod_eq_emod_of_nonneg (by omega),← e2]
 rfl
theorem fin_post {A h n over x y:Nat} {w W:World} {b:Nat×Nat} {z:Int} (hF:Five h 0 0 n over W) (hB:Below h w W) (hb:b=(x,y)) (hz:z=(y:Int)) :
  KeepsFrom A W (((W.setCell ⟨h,0,none⟩ (.int .u64 x)).setCell ⟨h+1,0,none⟩ (.int .i64 z)).setCell ⟨h+1+1,0,none⟩ (.int .i64 0)).drew ∧
  Five h b.1 b.2 n over (((W.setCell ⟨h,0,none⟩ (.int .u64 x)).setCell ⟨h+1,0,none⟩ (.int .i64 z)).setCell ⟨h+1+1,0,none⟩ (.int .i64 0)).drew ∧
  Below h w (((W.setCell ⟨h,0,none⟩ (.int .u64 x)).setCell ⟨h+1,0,none⟩ (.int .i64 z)).setCell ⟨h+1+1,0,none⟩ (.int .i64 0)).drew:=by
 subst hb hz
 refine⟨?_,(hF.put x y).keep (fun _ _=>rfl),(((hB.setCell (p:=⟨h,0,none⟩) (Nat.le_refl _) _).setCell (p:=⟨h+1,0,none⟩) (Nat.le_succ _) _).setCell (p:=⟨h+1+1,0,none⟩) (by show h≤h+1+1;omega) _).drew⟩
 exact ((((KeepsOthers.setCell _ _ _).trans (KeepsOthers.setCell _ _ _)).trans (KeepsOthers.setCell _ _ _)).trans (KeepsOthers.drew _)).from _
set_option maxRecDepth 100000 in
set_option maxHeartbeats 4000000 in
theorem below_in (s n:Nat) (hs:s<18446744073709551616) (h1:1≤n) (h2:n≤512) (w:World) :
  CallsIn Fence.wide 5 Tryz.prog 211 #[.int .u64 s,.int .i64 n] w fun e w'=>e=.returned (.tuple #[.int .u64 ((belowN n s).1:Nat),.int .i64 ((belowN n s).2:Nat),.int .i64 0])∧Below w.heap.size w w':=by
 have H:=hZ (bound_any n)
 rw [decide_eq_true (p:=1≤(n:Int)∧(n:Int)≤512) (by omega)] at H
 have HN:=hZ (numbers_any s)
 generalize hbb:belowN n s=b at *
 have HB0:=hZ (show belowF n (18446744073709551616%n) 512 s=b from hbb)
 clear hbb
 have ho:=over_lt n h1 h2
 have HG:=hZ (gw_all (18446744073709551616%n) s ho hs)
 have hov:=over_int n h1 h2
 generalize 18446744073709551616%n=over at *
 have g1:(1:Int)≤n:=by omega
 refine callsIn_of_wp_marks Tryz.func211 rfl trivial ?_ rfl
 simp only [Tryz.ntmps211,List.size_toArray,List.length_cons,List.length_nil,Nat.reduceAdd,Nat.reduceSub,Array.replicate_succ,Array.replicate_zero,List.push_toArray,List.append_toArray,List.nil_append,List.cons_append]
 gi_wp2_with (refine⟨trivial,?_⟩;first | (gi_at_call 203;refine (callsIn_wide.2 (H.out _)).mono ?_;rintro e w' ⟨rfl,rfl⟩) | (gi_at_call 216;refine (callsIn_wide.2 (HN.out _)).mono ?_;rintro e w1 ⟨B,rfl,b1,hge,hb⟩))
 clear hov
 have F0:Five w.heap.size 0 0 n over w1:=by
  refine (Five.start w n over).keep (fun b hb'=>hb.block b (by simp;omega))
 have B0:Below w.heap.size w w1:=(below_allocs w _ _ _ _ _).trans (hb.mono (by simp;omega))
 simp only [World.size_alloc] at hge
 clear hb H HN
 have hg5:w.heap.size+5≤B:=hge
 refine range_cell rfl (by omega) (gf:=227) (lb:=#[.pointer (some ⟨B,0,none⟩)]) rfl trivial (enters_of Tryz.func227 (by kernel_rfl) rfl)
  (numbers_cell (5-1) (by omega) B) (fun _=>rfl)
  (fun k (t:St) W=>(Hid (gw over k t.1)∧Hid (belowF n over k t.1=b))∧Five w.heap.size 0 0 n over W∧Below w.heap.size w W)
  (fun W=>Five w.heap.size b.1 b.2 n over W∧Below w.heap.size w W)
  (OwnFrom.and (ownFrom_pure _ (fun p:Nat×St=>Hid (gw over p.1 p.2.1)∧Hid (belowF n over p.1 p.2.1=b))) (OwnFrom.and (Five.own _ _ _ _ _ _) (ownFrom_below (Nat.le_refl _) B0.size)))
  (OwnFrom.and (Five.own _ _ _ _ _ _) (ownFrom_below (Nat.le_refl _) B0.size))
  (fun k t W v hi=>⟨hi.1,hi.2.1.keep (fun c hc=>Below.heap_setCell W ⟨B,0,none⟩ v c (by show c≠B;omega)),hi.2.2.setCell (p:=⟨B,0,none⟩) (by show w.heap.size≤B;omega) v⟩)
  (fun t W hi=>hi.1.1.out.elim)
  512 ⟨s,hs⟩ ⟨⟨HG,HB0⟩,F0,B0⟩ b1
  (fun x=>{ tmps:=#[.int .u64 s,.int .i64 n,undef,undef,.pointer (some ⟨w.heap.size,0,none⟩),.pointer (some ⟨w.heap.size+1,0,none⟩),.pointer (some ⟨w.heap.size+1+1,0,none⟩),.pointer (some ⟨w.heap.size+1+1+1,0,none⟩),.pointer (some ⟨w.heap.size+1+1+1+1,0,none⟩),.int .u64 x.1,.int .u64 (mixN x.1:Nat),.int .i64 n,.bool true,.bool false,.int .i64 n,.int .u64 n,.int .u64 n,.int .u64 (IntKind.u64.wrap (-(n:Int))),.int .u64 n,.int .u64 over,.int .u64 s,.func (.func 227) #[] #[.pointer (some ⟨B,0,none⟩)],.int .u64 x.1,.int .u64 (mixN x.1:Nat),undef,undef,undef,undef,undef,undef,undef,undef,undef,undef,undef,undef,undef],defers:=[] }) ?assign ?body ?stop
 case assign=>
  intro l x W K hK
  simp only [St.encs]
  gi_wp2
  exact hK
 case body=>
  rintro l k t W ⟨⟨hgw,hbf⟩,hF,hB⟩
  have HGD:=hZ (show good over t.1↔mixN t.next.1+over<18446744073709551616 from Iff.rfl)
  have HGW:=hZ (show good over t.1∨gw over k t.next.1 from hgw.out)
  have HBF:=hZ (show belowF n over (k+1) t.1=if good over t.1 then (t.next.1,mixN t.next.1%n) else belowF n over k t.next.1 from rfl)
  rw [hbf.out] at HBF
  have hxl:=mixN_lt t.next.1
  dsimp only
  generalize t.next=u at *
  have HF:=hZ hF
  have HB:=hZ hB
  have HPC:Hid (∀ W' ,(KeepsFrom w1.heap.size W W'∧W'.heap[B]?=W.heap[B]?∧(Hid (gw over k u.1)∧Hid (belowF n over k u.1=b))∧Five w.heap.size 0 0 n over W'∧Below w.heap.size w W')→True):=hZ (fun _ _=>trivial)
  clear hgw hbf hF hB HPC
  obtain⟨e0,e1,e2,e3,e4⟩:=HF.out
  have d0:=e0.cell
  have d1:=e1.cell
  have d2:=e2.cell
  have d3:=e3.cell
  have d4:=e4.cell
  have f0:=e0.frozen
  have f1:=e1.frozen
  have f2:=e2.frozen
  clear e0 e1 e2 e3 e4
  have hmx:Tryz.prog.follows .mixedOrders=true:=by kernel_rfl
  have HZ:=hZ (show IntKind.i64.wrap (((mixN u.1:Nat):Int)%(n:Int))=((mixN u.1%n:Nat):Int) by
   have:=Nat.mod_lt (mixN u.1) h1
   exact IntWalk.i64_in _ (by omega))
  by_cases ho0:over=0
  ·have t1:((over:Int)==0)=true:=beq_iff_eq.2 (by omega)
   have hg2:good over t.1:=HGD.out.2 (by omega)
   rw [if_pos hg2] at HBF
   gi_wp2
   gi_region_o
   all_goals (gi_wp2;exact fin_post HF.out HB.out HBF.out HZ.out)
  ·have t1:((over:Int)==0)=false:=beq_eq_false_iff_ne.2 (by omega)
   obtain⟨T,hT⟩:∃ T:Nat,T+over=18446744073709551616:=⟨18446744073709551616-over,by omega⟩
   have hT2:IntKind.u64.wrap (-(over:Int))=(T:Int):=by rw [IntKind.wrap_u64];omega
   by_cases hx:mixN u.1<T
   ·have hx':((mixN u.1:Nat):Int)<(T:Int):=by omega
    have hg2:good over t.1:=HGD.out.2 (by omega)
    rw [if_pos hg2] at HBF
    clear hT
    gi_wp2
    gi_region_o
    all_goals (gi_wp2;exact fin_post HF.out HB.out HBF.out HZ.out)
   ·have hx':¬ ((mixN u.1:Nat):Int)<(T:Int):=by omega
    have hg2:¬ good over t.1:=fun y=>by have:=HGD.out.1 y;omega
    rw [if_neg hg2] at HBF
    have HGW2:=hZ (HGW.out.resolve_left hg2)
    clear hT
    gi_wp2
    exact⟨KeepsFrom.refl _ _,rfl,⟨HGW2,hZ (Eq.symm HBF.out)⟩,HF.out,HB.out⟩
 case stop=>
  rintro D W hD ⟨hF,hB⟩ hK
  have hw1:w.heap.size+5≤w1.heap.size:=by have:=b1.lt;omega
  gi_wp2
  refine⟨by simp,.inl ⟨_,_,rfl,run_takeDeferred hK,?_⟩⟩
  have hF2:Five w.heap.size b.1 b.2 n over (W.putObj D (.deferred none)):=hF.keep (fun c hc=>World.putObj_heap_other (by omega))
  exact⟨_,results_cells3 Tryz.results211 _ rfl rfl rfl hF2.1 hF2.2.1 hF2.2.2.1 Tryz.underlying22 Tryz.underlying3 Tryz.underlying33,rfl,hB.trans (belowK_b (w:=w) (Nat.le_refl _) W D _ _ (by omega) hK rfl rfl)⟩
end
section
/- Contracts of layer 6: Shuffle. -/
open Go.RowKit
theorem below_any (s n:Nat) (hs:s<18446744073709551616) (h1:1≤n) (h2:n≤512) (w:World) :
  Calls Tryz.prog 211 #[.int .u64 s,.int .i64 n] w fun e w'=>e=.returned (.tuple #[.int .u64 ((belowN n s).1:Nat),.int .i64 ((belowN n s).2:Nat),.int .i64 0])∧Below w.heap.size w w':=callsIn_wide.1 (below_in s n hs h1 h2 w)
def NatsAt (w:World) (g:Nat) (zs:List Nat):Prop:=∀ j,j<zs.length→w.cell? ⟨g,j,none⟩=some (.int .i64 (zs.getD j 0:Nat))∧w.frozen? ⟨g,j,none⟩=false
theorem NatsAt.put {w:World} {g:Nat} {zs:List Nat} (h:NatsAt w g zs) (i x:Nat) (hi:i<zs.length):NatsAt (w.setCell ⟨g,i,none⟩ (.int .i64 (x:Int))) g (zs.set i x):=by
 intro j hj
 rw [List.length_set] at hj
 obtain⟨h1,h2⟩:=h j hj
 refine⟨?_,by rw [World.frozen?_setCell];exact h2⟩
 by_cases e:i=j
 ·subst e
  rw [World.cell?_setCell_same' _ _ _ (by rw [h1];rfl)]
  simp [List.getD,hj]
 ·rw [World.cell?_setCell_other _ _ _ _ (by intro x;injection x;omega),h1]
  simp [List.getD,List.getElem?_set,e]
theorem NatsAt.keep {w w':World} {g:Nat} {zs:List Nat} (h:NatsAt w g zs) {B:Nat} (hb:Below B w w') (hg:g<B):NatsAt w' g zs:=fun j hj=>
 ⟨(hb.cell (p:=⟨g,j,none⟩) hg).trans (h j hj).1,(hb.frozen (p:=⟨g,j,none⟩) hg).trans (h j hj).2⟩
theorem make_nats {P:Program} (t e:TypeId) (i:TypeInfo) (ht:P.underlying t=some (.slice e)) (hi:P.info? e=some i) (hz:i.zero=some (.int .i64 0)) (hs:i.size=1) (hb:i.bytes=8) (n:Nat) (hn:n≤1000000) (w:World) :
  (Instr.makeSlice t (.int .i64 (n:Int)) (.int .i64 (n:Int))).run P w=.ok (.slice (some ⟨w.heap.size,0,none⟩) n n) (w.alloc (.cells (Array.replicate n (.int .i64 0)) e)):=by
 have hr:=run_make (P:=P) w t e i _ ht hi hz .i64 .i64 n n (by omega) (by omega) (by rw [hb];omega) (by omega)
 simp only [Int.toNat_natCast,hs,Nat.mul_one] at hr
 rw [hr]
 have:madeCells (Value.int .i64 0).cells n=Array.replicate n (Value.int .i64 0):=by
  apply Array.toList_inj.1
  have:=toList_madeCells_one (Value.int .i64 0) n
  simpa [Value.cells] using this
 rw [this]
theorem made_nats (w:World) (e:TypeId) (n:Nat):NatsAt (w.alloc (.cells (Array.replicate n (.int .i64 0)) e)) w.heap.size (List.replicate n 0):=by
 intro j hj
 have hj':j<n:=by simpa using hj
 have hb:=Box.new w e (Array.replicate n (.int .i64 0))
 exact⟨by rw [hb.cell j];simp [List.getD,hj'],hb.free j⟩
def swapN (l:List Nat) (i j:Nat):List Nat:=(l.set i (l.getD j 0)).set j (l.getD i 0)
theorem swapN_len (l:List Nat) (i j:Nat):(swapN l i j).length=l.length:=by simp [swapN]
def shufF:Nat→Nat→List Nat→Nat×List Nat
 | 0,s,l=>(s,l)
 | i+1,s,l=>shufF i (belowN (i+2) s).1 (swapN l (i+1) (belowN (i+2) s).2)
def shufN (n s:Nat):Nat×List Nat:=shufF (n-1) s (List.range n)
theorem int_infoR:(Tryz.prog.info? 3).map (fun i=>(i.zero,i.size,i.bytes))=some (some (.int .i64 0),1,8):=by kernel_rfl
def fillN (n k:Nat):List Nat:=(List.range n).map fun j=>if j<k then j else 0
theorem fillN_len (n k:Nat):(fillN n k).length=n:=by simp [fillN]
theorem fillN_zero (n:Nat):fillN n 0=List.replicate n 0:=by
 apply List.ext_getElem
 ·simp [fillN]
 ·intro i h1 h2;simp [fillN]
theorem fillN_full (n:Nat):fillN n n=List.range n:=by
 apply List.ext_getElem
 ·simp [fillN]
 ·intro i h1 h2
  have:i<n:=by simpa [fillN] using h1
  simp [fillN,this]
theorem fillN_succ (n k:Nat) (h:k<n):(fillN n k).set k k=fillN n (k+1):=by
 apply List.ext_getElem
 ·simp [fillN]
 ·intro i h1 h2
  rw [List.getElem_set]
  by_cases e:k=i
  ·subst e;simp [fillN]
  ·rw [if_neg e]
   simp only [fillN,List.getElem_map,List.getElem_range]
   by_cases hi:i<k
   ·rw [if_pos hi,if_pos (by omega)]
   ·rw [if_neg hi,if_neg (by omega)]
theorem shufF_step (i s:Nat) (l:List Nat) (h:1≤i):shufF i s l=shufF (i-1) (belowN (i+1) s).1 (swapN l i (belowN (i+1) s).2):=by
 obtain⟨p,rfl⟩:∃ p,i=p+1:=⟨i-1,by omega⟩
 rfl
theorem NatsAt.swap {w:World} {g:Nat} {zs:List Nat} (h:NatsAt w g zs) (i j:Nat) (hi:i<zs.length) (hj:j<zs.length) :
  NatsAt (((w.setCell ⟨g,i,none⟩ (.int .i64 (zs.getD j 0:Nat))).setCell ⟨g,j,none⟩ (.int .i64 (zs.getD i 0:Nat))).drew) g (swapN zs i j):=
 (h.put i _ hi).put j _ (by simpa using hj)
def ShufOut (n s:Nat) (w:World) (e:Ending) (w':World):Prop:=
 ∃ g,e=.returned (.tuple #[.int .u64 ((shufN n s).1:Nat),.slice (some ⟨g,0,none⟩) n n,.int .i64 0])∧NatsAt w' g (shufN n s).2∧(shufN n s).2.length=n∧w.heap.size≤g∧g<w'.heap.size∧Below w.heap.size w w'
set_option maxRecDepth 100000 in
set_option maxHeartbeats 2000000 in
theorem shuffle_yes (s n:Nat) (hs:s<18446744073709551616) (h1:1≤n) (h2:n≤512) (w:World):Calls Tryz.prog 204 #[.int .u64 s,.int .i64 n] w (ShufOut n s w):=by
 have H:=hZ (bound_any n)
 rw [decide_eq_true (p:=1≤(n:Int)∧(n:Int)≤512) (by omega)] at H
 obtain⟨i0,hi,hz0,hz1,hz2⟩:=info_parts int_infoR
 have hmk:=make_nats (P:=Tryz.prog) 106 3 i0 Tryz.underlying106 hi hz0 hz1 hz2 n (by omega) w
 have HNA:=hZ (made_nats w 3 n)
 have HB:=hZ ((Below.refl w.heap.size w).alloc (Nat.le_refl _) (.cells (Array.replicate n (.int .i64 0)) 3))
 have HL:=hZ (Box.new w 3 (Array.replicate n (.int .i64 0))).lt
 go_enter Tryz.func204,Tryz.ntmps204
 go_wp2_with fail
 refine (H.out _).mono ?_
 rintro e w1 ⟨rfl,rfl⟩
 go_wp2_with fail
 generalize w.alloc (.cells (Array.replicate n (.int .i64 0)) 3)=W0 at *
 clear hmk
 have HSH:=hZ (show shufF (n-1) s (List.range n)=shufN n s from rfl)
 generalize hRR:shufN n s=R at HSH
 have HRR:=hZ hRR
 clear hRR
 go_loopw [18] (fun i wr=>∃ k:Nat,k≤n∧i=.int .i64 k∧NatsAt wr w.heap.size (fillN n k)∧Below w.heap.size w wr∧Hid (w.heap.size<wr.heap.size)) (fun i _=>n-(intOf i).toNat)
 case atStart=>exact⟨0,by omega,rfl,by rw [fillN_zero];exact HNA.out,HB.out,HL⟩
 case round=>
  obtain⟨k,hk,rfl,hna,hbel,hlt⟩:=hrel
  have HN:=hZ hna
  have HBe:=hZ hbel
  clear hna hbel
  by_cases hkn:k<n
  ·have hkn':(k:Int)<n:=by omega
   obtain⟨c,f⟩:=HN.out k (by rw [fillN_len];omega)
   have P1:=hZ (HN.out.put k k (by rw [fillN_len];omega))
   have P2:=hZ (HBe.out.setCell (p:=⟨w.heap.size,k,none⟩) (Nat.le_refl _) (.int .i64 (k:Int)))
   go_wp2
   go_roundw
   case rel=>exact⟨k+1,by omega,by go_num,by rw [← fillN_succ n k hkn];exact P1.out,P2.out,by have:=hlt.out;exact hZ (by simpa [World.setCell] using this)⟩
   case measure=>simp [intOf]<;>omega
  ·obtain rfl:k=n:=by omega
   rw [fillN_full] at HN
   have HLT:=hlt
   clear hlt
   have hn1:IntKind.i64.wrap ((k:Int)-1)=(k:Int)-1:=IntWalk.i64_in _ (by omega)
   go_wp2
   clear hn1
   go_loopw [0,28] (fun st i wr2=>∃ (d t:Nat) (zs:List Nat),d≤k-1∧i=.int .i64 d∧st=.int .u64 t∧t<18446744073709551616∧zs.length=k∧Hid (NatsAt wr2 w.heap.size zs)∧Hid (Below w.heap.size w wr2)∧Hid (w.heap.size<wr2.heap.size)∧Hid (shufF (k-1-d) t zs=R)) (fun _ i _=>k-(intOf i).toNat)
   case atStart=>exact⟨0,s,List.range k,by omega,rfl,rfl,hs,by simp,HN,HBe,HLT,HSH⟩
   case round=>
    obtain⟨d,t,zs,hd,rfl,rfl,ht,hzl,hna,hbel,hlt,hsh⟩:=hrel
    have HZL:=hZ hzl
    clear hzl
    by_cases hdk:d<k-1
    ·have hdk':(d:Int)<(k:Int)-1:=by omega
     obtain⟨i,hi⟩:∃ i,i=k-1-d:=⟨_,rfl⟩
     have e1:(k:Int)-1-(d:Int)=(i:Int):=by omega
     have hi1:1≤i:=by omega
     have hik:i<k:=by omega
     have hik':(i:Int)<(k:Int):=by omega
     rw [← hi,shufF_step i t zs hi1] at hsh
     have HI:=hZ hi
     clear hi
     go_wp2_with fail
     rw [show (i:Int)+1=((i+1:Nat):Int) from rfl]
     refine (below_any t (i+1) ht (by omega) (by omega) _).mono ?_
     rintro e w2 ⟨rfl,hb⟩
     have hbl:=belowN_lt (i+1) t (by omega) ht
     have HNA:=hZ (hna.out.keep hb hlt.out)
     have HB2:=hZ (hbel.out.trans (hb.mono (Nat.le_of_lt hlt.out)))
     have HL2:=hZ (Nat.lt_of_lt_of_le hlt.out hb.size)
     clear hb hna hbel hlt
     generalize belowN (i+1) t=bb at *
     obtain⟨t',j⟩:=bb
     simp only at hbl
     obtain⟨ht',hj⟩:=hbl
     have hjk:j<k:=by omega
     have hjk':(j:Int)<(k:Int):=by omega
     obtain⟨c1,f1⟩:=HNA.out i (by rw [HZL.out];exact hik)
     obtain⟨c2,f2⟩:=HNA.out j (by rw [HZL.out];exact hjk)
     have P1:=hZ (HNA.out.swap i j (by rw [HZL.out];exact hik) (by rw [HZL.out];exact hjk))
     have P2:=hZ (((HB2.out.setCell (p:=⟨w.heap.size,i,none⟩) (Nat.le_refl _) (.int .i64 (zs.getD j 0:Nat))).setCell (p:=⟨w.heap.size,j,none⟩) (Nat.le_refl _) (.int .i64 (zs.getD i 0:Nat))).drew)
     have P3:=hZ (show (swapN zs i j).length=k by rw [swapN_len,HZL.out])
     have P4:=hZ (show shufF (k-1-(d+1)) t' (swapN zs i j)=R by rw [show k-1-(d+1)=i-1 by have:=HI.out;omega];exact hsh.out)
     have P5:=hZ (show w.heap.size<(((w2.setCell ⟨w.heap.size,i,none⟩ (.int .i64 (zs.getD j 0:Nat))).setCell ⟨w.heap.size,j,none⟩ (.int .i64 (zs.getD i 0:Nat))).drew).heap.size by have:=HL2.out;simpa [World.setCell] using this)
     clear hsh e1 HNA
     generalize swapN zs i j=zs' at *
     generalize zs.getD i 0=x at *
     generalize zs.getD j 0=y at *
     by_cases hij:i=j
     ·subst hij
      have hxy:y=x:=by
       rw [c1] at c2
       injection c2 with c2
       injection c2 with _ c2
       omega
      subst hxy
      clear c2 f2
      go_wp2_with fail
      go_region
      go_wp2_with fail
      go_roundw
      case rel=>exact⟨d+1,t',zs',by omega,by go_num,rfl,ht',P3.out,P1,P2,P5,P4⟩
      case measure=>simp [intOf]<;>omega
     ·have hji:j≠i:=fun e=>hij e.symm
      go_wp2_with fail
      go_region
      go_wp2_with fail
      go_roundw
      case rel=>exact⟨d+1,t',zs',by omega,by go_num,rfl,ht',P3.out,P1,P2,P5,P4⟩
      case measure=>simp [intOf]<;>omega
    ·have hdk':¬ (d:Int)<(k:Int)-1:=by omega
     rw [show k-1-d=0 by omega] at hsh
     have HR:=hZ (show R=(t,zs) from hsh.out.symm)
     go_wp2_with fail
     go_ret3
     unfold ShufOut
     rw [HRR.out,HR.out]
     exact⟨_,rfl,hna.out,HZL.out,Nat.le_refl _,hlt.out,hbel.out⟩
end
section
/- Contract of layer 6's reference: Below. -/
open Go.RowKit
theorem step_wrap (s:Nat):IntKind.u64.wrap ((s:Int)+11400714819323198485)=((nextS s:Nat):Int):=by
 rw [IntKind.wrap_u64,nextS];rfl
set_option maxHeartbeats 1000000 in
theorem refBelow_any (s n:Nat) (hs:s<18446744073709551616) (h1:1≤n) (h2:n≤512) (w:World) :
  Calls Tryz.prog 170 #[.int .u64 s,.int .i64 n] w fun e w'=>e=.returned (.agg #[.int .u64 ((belowN n s).1:Nat),.int .i64 ((belowN n s).2:Nat)])∧Below w.heap.size w w':=by
 have HT:=hZ (show belowN n s=belowN n s from rfl)
 generalize hb:belowN n s=b at HT ⊢
 have HB:=hZ hb
 clear hb HT
 have HR:=hZ (rest_any n h1 h2)
 have ho:=over_lt n h1 h2
 have HG:=hZ (gw_all (18446744073709551616%n) s ho hs)
 have HB2:=hZ (show belowF n (18446744073709551616%n) 512 s=b from HB.out)
 generalize 18446744073709551616%n=over at *
 have g1:(1:Int)≤n:=by omega
 have Z:=hZ (Box.new w 227 #[.int .u64 0,.int .i64 0])
 have B:=hZ ((Below.refl w.heap.size w).alloc (Nat.le_refl _) (.cells #[.int .u64 0,.int .i64 0] 227))
 obtain⟨c0,c1,f0,f1⟩:=Z.out.two
 obtain⟨T,hT⟩:∃ T:Nat,T+over=18446744073709551615:=⟨18446744073709551615-over,by omega⟩
 have hT2:IntKind.u64.wrap (18446744073709551615-(over:Int))=(T:Int):=by rw [IntWalk.u64_in _ (by omega)];omega
 have HT:=hZ hT
 clear hT
 go_enter Tryz.func170,Tryz.ntmps170
 go_wp2_with fail
 refine (HR.out _).mono ?_
 rintro e w1 ⟨rfl,rfl⟩
 go_wp2_with fail
 clear hT2
 go_loopg [0,6] 512 (fun k s0 s6 wr=>∃ t:Nat,t<18446744073709551616∧s0=.int .u64 t∧Hid (gw over k t)∧Hid (belowF n over k t=b)∧wr=w.alloc (.cells #[.int .u64 0,.int .i64 0] 227))
 case atStart=>exact⟨s,hs,rfl,HG,HB2,rfl⟩
 case round=>
  obtain⟨t,ht,rfl,hgw,hbf,rfl⟩:=hrel
  cases gk with
  | zero=>exact hgw.out.elim
  | succ k=>
    have hst:=step_wrap t
    have hlt:=nextS_lt t
    have HGD:=hZ (show good over t↔mixN (nextS t)≤T from by
     have:=HT.out
     unfold good
     constructor
     ·intro h;omega
     ·intro h;omega)
    have HBF:=hZ (show belowF n over (k+1) t=if good over t then (nextS t,mixN (nextS t)%n) else belowF n over k (nextS t) from rfl)
    rw [hbf.out] at HBF
    have HGW:=hZ (show good over t∨gw over k (nextS t) from hgw.out)
    have HM:=hZ (refMixed_any (nextS t) hlt)
    have hxl:=mixN_lt (nextS t)
    generalize nextS t=t' at *
    generalize mixN t'=x at *
    by_cases hg:x≤T
    ·have hg':(x:Int)≤(T:Int):=by omega
     have hg2:good over t:=HGD.out.2 hg
     rw [if_pos hg2] at HBF
     clear hgw hbf hg2
     go_wp2_with fail
     refine (HM.out _).mono ?_
     rintro e w1 ⟨rfl,rfl⟩
     go_wp2_with fail
     refine close_one Tryz.results170 rfl rfl (Box.new w _ _) Tryz.underlying227 rfl (by kernel_rfl) ?_
     have ew:wrap64 ((x:Int)%(n:Int))=((x%n:Nat):Int):=by
      rw [← IntWalk.i64_left]
      have:=Nat.mod_lt x h1
      exact IntWalk.i64_in _ (by omega)
     rw [ew,HBF.out]
     exact⟨rfl,(Below.refl w.heap.size w).alloc (Nat.le_refl _) _⟩
    ·have hg':¬ (x:Int)≤(T:Int):=by omega
     have hg2:¬ good over t:=fun y=>hg (HGD.out.1 y)
     rw [if_neg hg2] at HBF
     have HBF2:Hid (belowF n over k t'=b):=hZ (Eq.symm HBF.out)
     have hgw2:=hZ (HGW.out.resolve_left hg2)
     clear hg2 hgw hbf
     go_wp2_with fail
     refine (HM.out _).mono ?_
     rintro e w1 ⟨rfl,rfl⟩
     go_wp2_with fail
     go_roundg k
     case rel=>exact⟨t',hlt,rfl,hgw2,HBF2,rfl⟩
     case measure=>omega
end
section
/- Contract of layer 6's reference: Shuffle. -/
open Go.RowKit
def natV (x:Nat):Value:=.int .i64 (x:Int)
theorem own_nats {w:World} {base e n:Nat} {v:Value} {zs:List Nat} (h:w.ownsRow base e 1 v n (zs.map natV)) (hn:0<n):∃ g c,v=.slice (some ⟨g,0,none⟩) n c∧n≤c∧base≤g∧g<w.heap.size∧NatsAt w g zs∧zs.length=n:=by
 have hl:zs.length=n:=by have:=h.1;simpa using this
 rcases h.2 with ⟨_,h0⟩ |⟨g,cap,cur,rfl,hb,hh,hcap,hm,hs,hx⟩
 ·omega
 ·have hbx:Box w g e cur:=hh
  refine⟨g,cap,rfl,hcap,hb,hbx.lt,fun j hj=>?_,hl⟩
  rw [hbx.cell j,hbx.free j]
  refine⟨?_,rfl⟩
  have e1:(cur.toList.take (n*1))[j]?=(zs.map natV)[j]?:=by rw [hx]
  rw [Nat.mul_one,List.getElem?_take,if_pos (by omega)] at e1
  simp only [List.getElem?_map,List.getElem?_eq_getElem hj,Option.map_some] at e1
  rw [← Array.getElem?_toList,e1]
  simp [List.getD,hj,natV]
theorem range_snoc (k:Nat):(List.range (k+1)).map natV=(List.range k).map natV++[natV k]:=by simp [List.range_succ]
theorem NatsAt.far {w:World} {g:Nat} {zs:List Nat} (h:NatsAt w g zs) {p:Addr} (hp:g≠p.block) (u:Value):NatsAt (w.setCell p u) g zs:=fun j hj=>
 ⟨by rw [World.cell?_of_block (a:=⟨g,j,none⟩) (heap_setCell_other w p g u hp)];exact (h j hj).1,by rw [World.frozen?_setCell];exact (h j hj).2⟩
def RShufOut (n s:Nat) (w:World) (e:Ending) (w':World):Prop:=
 ∃ g c,e=.returned (.agg #[.int .u64 ((shufN n s).1:Nat),.slice (some ⟨g,0,none⟩) n c])∧n≤c∧NatsAt w' g (shufN n s).2∧(shufN n s).2.length=n∧w.heap.size≤g∧g<w'.heap.size∧Below w.heap.size w w'
set_option maxRecDepth 100000 in
set_option maxHeartbeats 2000000 in
theorem refShuffle_any (s n:Nat) (hs:s<18446744073709551616) (h1:1≤n) (h2:n≤512) (w:World):Calls Tryz.prog 153 #[.int .u64 s,.int .i64 n] w (RShufOut n s w):=by
 obtain⟨i0,hi,hz0,hz1,hz2⟩:=info_parts int_infoR
 have HI:=hZ hi
 have HZ0:=hZ hz0
 have HZ1:=hZ hz1
 have HZ2:=hZ hz2
 clear hi hz0 hz1 hz2
 have HSH:=hZ (show shufF (n-1) s (List.range n)=shufN n s from rfl)
 generalize hRR:shufN n s=R at HSH
 have HRR:=hZ hRR
 clear hRR
 go_enter Tryz.func153,Tryz.ntmps153
 go_wp2_with fail
 have HO:=own_empty (w.alloc (.cells #[.int .u64 0,.slice none 0 0] 184)) (w.heap.size+1) 3 (by simp)
 have HZ:=((Box.new w 184 #[.int .u64 0,.slice none 0 0]).alloc (.cells #[] 3))
 have HB:=(((Below.refl w.heap.size w).alloc (Nat.le_refl _) (.cells #[.int .u64 0,.slice none 0 0] 184)).alloc (by simp) (.cells #[] 3))
 simp only [World.size_alloc] at HO
 have HS:((w.alloc (.cells #[.int .u64 0,.slice none 0 0] 184)).alloc (.cells #[] 3)).heap.size=w.heap.size+2:=by simp
 generalize (w.alloc (.cells #[.int .u64 0,.slice none 0 0] 184)).alloc (.cells #[] 3)=W0 at *
 have HO:=hZ HO
 have HZ:=hZ HZ
 have HB:=hZ HB
 have HS:=hZ HS
 go_loopw [5,6] (fun v i wr=>∃ k:Nat,k≤n∧i=.int .i64 k∧Hid (wr.ownsRow (w.heap.size+1) 3 1 v k ((List.range k).map natV))∧Hid (Below (w.heap.size+1) W0 wr)) (fun _ i _=>n-(intOf i).toNat)
 case atStart=>exact⟨0,by omega,rfl,HO,hZ (Below.refl _ _)⟩
 case round=>
  obtain⟨k,hk,rfl,hown,hbel⟩:=hrel
  by_cases hkn:k<n
  ·have hkn':(k:Int)<n:=by omega
   obtain⟨A',c',rfl,_⟩:=own_form hown.out
   have hi':=HI.out
   have hz0':=HZ0.out
   have hz1':=HZ1.out
   have hz2':=HZ2.out
   have hsz:=hZ (show w.heap.size+1≤wr.heap.size by have:=hbel.out.size;have:=HS.out;omega)
   have XO:=hZ (hown.out.alloc (.cells #[.int .i64 (k:Int)] 3))
   have XB:=hZ (hbel.out.alloc hsz.out (.cells #[.int .i64 (k:Int)] 3))
   have N2:=hZ (fun q hq=>(hown.out.lt q hq).1)
   have HBS:=hZ (show w.heap.size+1≤(wr.alloc (.cells #[.int .i64 (k:Int)] 3)).heap.size by have:=hsz.out;simp;omega)
   have HSN:=hZ (range_snoc k)
   go_wp2_with (at_builtin;refine wpList_append_own _ rfl _ _ 106 rfl (w.heap.size+1) 3 i0 (.int .i64 0) 1 8 Tryz.underlying106 hi' hz0' hz1' hz2' rfl (by decide) _ _ _ rfl XO.out ⟨wr.heap.size,0,none⟩ 1 1 [.int .i64 (k:Int)] rfl rfl (cell_one_new _ _ _) (by simp [Value.oneCell']) (by simp [maxLen];omega) (by omega) HBS.out ?_;intro v' w2 hown' hgrow _;have HC:=hZ (XB.out.grown hgrow HBS.out N2.out);have HO2:=hZ hown';clear hown' hgrow)
   go_roundw
   case rel=>
    refine⟨k+1,by omega,by go_num,hZ ?_,HC⟩
    rw [HSN.out]
    exact HO2.out
   case measure=>simp [intOf]<;>omega
  ·obtain rfl:k=n:=by omega
   obtain⟨g,c,rfl,hcap,hg0,hg1,hna,hzl⟩:=own_nats hown.out (by omega)
   have Z2:=hZ (HZ.out.below hbel.out (by omega))
   have B2:=hZ (HB.out.trans (hbel.out.mono (by omega)))
   have HNA:=hZ hna
   have HG1:=hZ hg1
   clear hna hown hbel hzl hg1
   have hn1:IntKind.i64.wrap ((k:Int)-1)=((k-1:Nat):Int):=by rw [IntWalk.i64_in _ (by omega)];omega
   have hkc:(k:Int)≤c:=by omega
   go_wp2_with fail
   go_loopw [0,7] (fun st i wr2=>∃ (d t:Nat) (zs:List Nat),d≤k-1∧i=.int .i64 d∧st=.int .u64 t∧t<18446744073709551616∧Hid (zs.length=k)∧Hid (NatsAt wr2 g zs)∧Hid (Box wr2 w.heap.size 184 #[.int .u64 0,.slice none 0 0])∧Hid (Below w.heap.size w wr2)∧Hid (g<wr2.heap.size)∧Hid (shufF d t zs=R)) (fun _ i _=>(intOf i).toNat)
   case atStart=>exact⟨k-1,s,List.range k,Nat.le_refl _,rfl,rfl,hs,hZ (by simp),HNA,Z2,B2,HG1,HSH⟩
   case round=>
    clear hn1 HNA Z2 B2 HG1 HSH
    obtain⟨d,t,zs,hd,rfl,rfl,ht,HZL,HNA,Z2,B2,HG1,HSF⟩:=hrel
    by_cases hd0:0<d
    ·have hd0':(0:Int)<d:=by omega
     have HSF2:=hZ (show shufF (d-1) (belowN (d+1) t).1 (swapN zs d (belowN (d+1) t).2)=R by rw [← shufF_step d t zs hd0];exact HSF.out)
     clear HSF
     go_wp2_with fail
     rw [show (d:Int)+1=((d+1:Nat):Int) from rfl]
     refine (refBelow_any t (d+1) ht (by omega) (by omega) _).mono ?_
     rintro e w2 ⟨rfl,hb⟩
     have hbl:=belowN_lt (d+1) t (by omega) ht
     generalize belowN (d+1) t=bb at *
     obtain⟨t',j⟩:=bb
     simp only at hbl HSF2
     obtain⟨ht',hj⟩:=hbl
     have hsz:=hZ (show wr.heap.size≤w2.heap.size from hb.size)
     have NA2:=hZ (HNA.out.keep hb HG1.out)
     have Z3:=hZ (Z2.out.keep hb)
     have B3:=hZ (chain B2.out hb)
     have G3:=hZ (Nat.lt_of_lt_of_le HG1.out hb.size)
     clear hb HNA Z2 B2 HG1
     go_upto_region 10 with (fail)
     have NA3:=hZ (NA2.out.keep ((Below.refl _ w2).alloc (Nat.le_refl _) (.cells #[.int .u64 (t':Int),.int .i64 (j:Int)] 227)) G3.out)
     have Z3:=hZ (Z3.out.alloc (.cells #[.int .u64 (t':Int),.int .i64 (j:Int)] 227))
     have B3:=hZ (B3.out.alloc B3.out.size (.cells #[.int .u64 (t':Int),.int .i64 (j:Int)] 227))
     have SB:=hZ (Box.new w2 227 #[.int .u64 (t':Int),.int .i64 (j:Int)])
     have hne:g≠w2.heap.size:=Nat.ne_of_lt G3.out
     have G3:=hZ (show g<(w2.alloc (.cells #[.int .u64 (t':Int),.int .i64 (j:Int)] 227)).heap.size by have:=G3.out;simp;omega)
     clear NA2
     generalize hq:w2.heap.size=q at *
     clear hq
     generalize w2.alloc (.cells #[.int .u64 (t':Int),.int .i64 (j:Int)] 227)=w3 at *
     have hdk:d<k:=by omega
     have hjk:j<k:=by omega
     have hdc:(d:Int)<k:=by omega
     have hjc:(j:Int)<k:=by omega
     obtain⟨c1,f1⟩:=NA3.out d (by rw [HZL.out];exact hdk)
     obtain⟨c2,f2⟩:=NA3.out j (by rw [HZL.out];exact hjk)
     obtain⟨e1,e2,-,-⟩:=SB.out.two
     have P1:=hZ (show NatsAt ((w3.setCell ⟨g,d,none⟩ (.int .i64 (zs.getD j 0:Nat))).setCell ⟨g,j,none⟩ (.int .i64 (zs.getD d 0:Nat))) g (swapN zs d j) from NA3.out.swap d j (by rw [HZL.out];exact hdk) (by rw [HZL.out];exact hjk))
     have P2:=hZ ((B3.out.setCell (p:=⟨g,d,none⟩) (by show w.heap.size≤g;omega) (.int .i64 (zs.getD j 0:Nat))).setCell (p:=⟨g,j,none⟩) (by show w.heap.size≤g;omega) (.int .i64 (zs.getD d 0:Nat)))
     have P3:=hZ (show (swapN zs d j).length=k by rw [swapN_len,HZL.out])
     have P5:=hZ (show g<((w3.setCell ⟨g,d,none⟩ (.int .i64 (zs.getD j 0:Nat))).setCell ⟨g,j,none⟩ (.int .i64 (zs.getD d 0:Nat))).heap.size by have:=G3.out;simpa [World.setCell] using this)
     have P6:=hZ ((Z3.out.far (p:=⟨g,d,none⟩) (by show w.heap.size≠g;omega) (.int .i64 (zs.getD j 0:Nat))).far (p:=⟨g,j,none⟩) (by show w.heap.size≠g;omega) (.int .i64 (zs.getD d 0:Nat)))
     have hd1:IntKind.i64.wrap ((d:Int)-1)=((d-1:Nat):Int):=by rw [IntWalk.i64_in _ (by omega)];omega
     clear NA3 Z3 B3 SB G3 HZL
     generalize swapN zs d j=zs' at *
     generalize zs.getD d 0=x at *
     generalize zs.getD j 0=y at *
     generalize hd1e:d-1=d1 at *
     have hd1l:d1≤k-1:=by omega
     have hd1m:d1<d:=by omega
     clear hd1e
     by_cases hij:d=j
     ·subst hij
      have hxy:y=x:=by
       rw [c1] at c2
       injection c2 with c2
       injection c2 with _ c2
       omega
      subst hxy
      clear c2 f2
      go_wp2_with fail
      go_roundw
      case rel=>exact⟨d1,t',zs',hd1l,by go_num,rfl,ht',P3,P1,P6,P2,P5,HSF2⟩
      case measure=>simp [intOf]<;>omega
     ·have hji:j≠d:=fun e=>hij e.symm
      go_wp2_with fail
      go_roundw
      case rel=>exact⟨d1,t',zs',hd1l,by go_num,rfl,ht',P3,P1,P6,P2,P5,HSF2⟩
      case measure=>simp [intOf]<;>omega
    ·obtain rfl:d=0:=by omega
     have hd0':¬ (0:Int)<0:=by omega
     have HR:=hZ (show R=(t,zs) from (Eq.symm HSF.out))
     obtain⟨e1,e2,f1,f2⟩:=Z2.out.two
     go_wp2_with fail
     refine close_one Tryz.results153 rfl rfl Z2.out.put2 Tryz.underlying184 rfl (by kernel_rfl) ?_
     unfold RShufOut
     rw [HRR.out,HR.out]
     refine⟨g,c,rfl,hcap,?_,HZL.out,by omega,by have:=HG1.out;simpa [World.setCell] using this,(B2.out.setCell (p:=⟨w.heap.size,0,none⟩) (Nat.le_refl _) _).setCell (p:=⟨w.heap.size,1,none⟩) (Nat.le_refl _) _⟩
     exact (HNA.out.far (p:=⟨w.heap.size,0,none⟩) (by show g≠w.heap.size;omega) _).far (p:=⟨w.heap.size,1,none⟩) (by show g≠w.heap.size;omega) _
end
section
/- Layer 6, its lists: an order has each number once; so many of them, rising. No program. -/
theorem swapN_perm (l:List Nat) (i j:Nat) (hi:i<l.length) (hj:j<l.length):(swapN l i j).Perm l:=by
 rw [List.perm_iff_count]
 intro a
 have g1:l.getD j 0=l[j]:=by simp [List.getD,hj]
 have g2:l.getD i 0=l[i]:=by simp [List.getD,hi]
 have hj2:j<(l.set i l[j]).length:=by simpa using hj
 have e:(l.set i l[j])[j]=l[j]:=by
  rw [List.getElem_set]
  split
  ·rfl
  ·rfl
 unfold swapN
 rw [g1,g2,List.count_set hj2,e,List.count_set hi]
 have p1:(if l[i]==a then 1 else 0)≤l.count a:=by
  split
  ·rename_i h
   have:l[i]=a:=by simpa using h
   rw [← this]
   exact List.count_pos_iff.2 (List.getElem_mem hi)
  ·omega
 generalize hx:(if l[i]==a then 1 else 0)=x at *
 generalize hy:(if l[j]==a then 1 else 0)=y at *
 omega
theorem shufF_perm:∀ (i s:Nat) (l:List Nat),i<l.length→s<18446744073709551616→(shufF i s l).2.Perm l∧(shufF i s l).1<18446744073709551616
 | 0,s,l,_,hs=>⟨List.Perm.refl _,hs⟩
 | i+1,s,l,h,hs=>by
   have hb:=belowN_lt (i+2) s (by omega) hs
   have ih:=shufF_perm i (belowN (i+2) s).1 (swapN l (i+1) (belowN (i+2) s).2) (by rw [swapN_len];omega) hb.1
   exact⟨ih.1.trans (swapN_perm _ _ _ h (by omega)),ih.2⟩
theorem shufN_perm (n s:Nat) (hn:1≤n) (hs:s<18446744073709551616):(shufN n s).2.Perm (List.range n)∧(shufN n s).1<18446744073709551616:=
 shufF_perm (n-1) s (List.range n) (by simp;omega) hs
def someN (n many s:Nat):List Nat:=(List.range n).filter fun i=>((shufN n s).2.take many).contains i
theorem range_sorted (n:Nat):(List.range n).Pairwise (· < ·):=List.pairwise_lt_range
theorem nodup_shuf (n s:Nat) (hn:1≤n) (hs:s<18446744073709551616):(shufN n s).2.Nodup:=
 (shufN_perm n s hn hs).1.nodup_iff.2 List.nodup_range
theorem some_perm (n many s:Nat) (hn:1≤n) (hs:s<18446744073709551616):(someN n many s).Perm ((shufN n s).2.take many):=by
 have hp:=(shufN_perm n s hn hs).1
 have hnd:((shufN n s).2.take many).Nodup:=(nodup_shuf n s hn hs).sublist (List.take_sublist _ _)
 rw [List.perm_iff_count]
 intro a
 have hnd2:(someN n many s).Nodup:=List.nodup_range.sublist List.filter_sublist
 rw [hnd.count,hnd2.count]
 have hm:a∈someN n many s↔a∈(shufN n s).2.take many:=by
  unfold someN
  rw [List.mem_filter]
  constructor
  ·rintro ⟨_,h⟩;simpa using h
  ·intro h
   exact⟨hp.mem_iff.1 (List.mem_of_mem_take h),by simpa using h⟩
 simp only [hm]
theorem some_sort (n many s:Nat) (hn:1≤n) (hs:s<18446744073709551616):((shufN n s).2.take many).mergeSort (fun x y=>decide (x≤y))=someN n many s:=by
 have h1:(((shufN n s).2.take many).mergeSort (fun x y=>decide (x≤y))).Perm (someN n many s):=(List.mergeSort_perm _ _).trans (some_perm n many s hn hs).symm
 refine List.Perm.eq_of_pairwise (le:=fun x y=>x≤y) (fun a b _ _ h1 h2=>Nat.le_antisymm h1 h2) ?_ ?_ h1
 ·have:=List.pairwise_mergeSort (le:=fun x y:Nat=>decide (x≤y)) (by intro a b c;simp;omega) (by intro a b;simp;omega) ((shufN n s).2.take many)
  simpa using this
 ·exact ((range_sorted n).sublist List.filter_sublist).imp (fun h=>Nat.le_of_lt h)
theorem some_len (n many s:Nat) (hn:1≤n) (hs:s<18446744073709551616) (hm:many≤n):(someN n many s).length=many:=by
 rw [(some_perm n many s hn hs).length_eq,List.length_take,(shufN_perm n s hn hs).1.length_eq,List.length_range]
 omega
theorem some_int (n many s:Nat) (hn:1≤n) (hs:s<18446744073709551616):(((shufN n s).2.take many).map fun x:Nat=>(x:Int)).mergeSort (fun x y=>decide (x≤y))=(someN n many s).map fun x:Nat=>(x:Int):=by
 rw [← some_sort n many s hn hs]
 refine (List.map_mergeSort ?_).symm
 intro a _ b _
 simp
end
section
/- Contracts of layer 6's reference: in, Some. -/
open Go.RowKit
theorem contains_take_succ (zs:List Nat) (i x:Nat) (hi:i<zs.length):(zs.take (i+1)).contains x=((zs.take i).contains x||(zs.getD i 0==x)):=by
 rw [List.take_succ_eq_append_getElem hi]
 have:zs.getD i 0=zs[i]:=by simp [List.getD,hi]
 rw [this,Bool.eq_iff_iff]
 simp only [List.contains_iff_mem,List.mem_append,List.mem_singleton,Bool.or_eq_true,beq_iff_eq]
 exact or_congr Iff.rfl eq_comm
def hasN (l:List Nat) (x:Nat):Bool:=l.contains x
set_option maxHeartbeats 1000000 in
theorem inN_any (g c k many x:Nat) (zs:List Nat) (w:World) (hz:zs.length=k) (hna:NatsAt w g zs) (hm:many≤k) (hc:k≤c) (hk:k≤512) :
  Calls Tryz.prog 154 #[.slice (some ⟨g,0,none⟩) k c,.int .i64 many,.int .i64 x] w fun e w'=>e=.returned (.bool (hasN (zs.take many) x))∧w=w':=by
 have HNA:=hZ hna
 have HZ:=hZ hz
 clear hna hz
 have hmc:(many:Int)≤c:=by omega
 have hmk:(many:Int)≤k:=by omega
 go_enter Tryz.func154,Tryz.ntmps154
 go_wp2_with fail
 go_loop [13] (fun i=>∃ j:Nat,j≤many∧i=.int .i64 j∧Hid (hasN (zs.take j) x=false)) (fun i=>many-(intOf i).toNat)
 case atStart=>exact⟨0,by omega,rfl,hZ rfl⟩
 case round=>
  obtain⟨j,hj,rfl,HNO⟩:=hrel
  by_cases hjm:j<many
  ·have hjm':(j:Int)<many:=by omega
   obtain⟨c1,f1⟩:=HNA.out j (by rw [HZ.out];omega)
   have HS:=hZ (show hasN (zs.take (j+1)) x=(hasN (zs.take j) x||(zs.getD j 0==x)) from contains_take_succ zs j x (by rw [HZ.out];omega))
   rw [HNO.out] at HS
   have HT:=hZ (show zs.getD j 0=x→hasN (zs.take many) x=true from fun e=>by
    unfold hasN
    rw [List.contains_iff_mem,← e]
    have hl:j<zs.length:=by rw [HZ.out];omega
    have:zs.getD j 0=(zs.take many)[j]'(by simp;omega):=by simp [List.getD,hl]
    rw [this]
    exact List.getElem_mem _)
   generalize zs.getD j 0=y at *
   by_cases hyx:y=x
   ·have t1:((y:Int)==(x:Int))=true:=beq_iff_eq.2 (by omega)
    have HR:=hZ (HT.out hyx)
    clear hyx
    go_wp2
    go_ret
    exact⟨by rw [HR.out];rfl,rfl⟩
   ·have t1:((y:Int)==(x:Int))=false:=beq_eq_false_iff_ne.2 (by omega)
    have HS2:=hZ (show hasN (zs.take (j+1)) x=false by rw [HS.out,beq_eq_false_iff_ne.2 hyx];rfl)
    clear hyx
    go_wp2
    go_round
    case rel=>exact⟨j+1,by omega,by go_num,HS2⟩
    case measure=>simp [intOf]<;>omega
  ·obtain rfl:j=many:=by omega
   have hjm':¬ (j:Int)<j:=by omega
   go_wp2
   go_ret
   exact⟨by rw [HNO.out];rfl,rfl⟩
theorem own_lower {w:World} {base base' e size n:Nat} {v:Value} {xs:List Value} (h:w.ownsRow base e size v n xs) (hb:base'≤base):w.ownsRow base' e size v n xs:=by
 refine⟨h.1,?_⟩
 rcases h.2 with h0 |⟨g,cap,cur,rfl,h1,h2⟩
 ·exact .inl h0
 ·exact .inr ⟨g,cap,cur,rfl,Nat.le_trans hb h1,h2⟩
theorem range_filter_succ (p:Nat→Bool) (k:Nat):(List.range (k+1)).filter p=(List.range k).filter p++(if p k=true then [k] else []):=by
 rw [List.range_succ,List.filter_append,List.filter_cons,List.filter_nil]
def RSomeOut (n many s:Nat) (w:World) (e:Ending) (w':World):Prop:=
 ∃ v,e=.returned (.agg #[.int .u64 ((shufN n s).1:Nat),v])∧w'.ownsRow w.heap.size 3 1 v (someN n many s).length ((someN n many s).map natV)∧Below w.heap.size w w'
set_option maxRecDepth 100000 in
set_option maxHeartbeats 2000000 in
theorem refSome_any (s n many:Nat) (hs:s<18446744073709551616) (h1:1≤n) (h2:n≤512) (hm:many≤n) (w:World):Calls Tryz.prog 140 #[.int .u64 s,.int .i64 n,.int .i64 many] w (RSomeOut n many s w):=by
 obtain⟨i0,hi,hz0,hz1,hz2⟩:=info_parts int_infoR
 have HI:=hZ hi
 have HZ0:=hZ hz0
 have HZ1:=hZ hz1
 have HZ2:=hZ hz2
 clear hi hz0 hz1 hz2
 have hsl:(someN n many s)=(List.range n).filter (hasN ((shufN n s).2.take many)):=rfl
 have HSL:=hZ hsl
 clear hsl
 have Z0:=hZ (Box.new w 184 #[.int .u64 0,.slice none 0 0])
 have B0:=hZ ((Below.refl w.heap.size w).alloc (Nat.le_refl _) (.cells #[.int .u64 0,.slice none 0 0] 184))
 go_enter Tryz.func140,Tryz.ntmps140
 go_wp2_with fail
 refine (refShuffle_any s n hs h1 h2 _).mono ?_
 rintro e w1 ⟨g,c,rfl,hcap,hna,hzl,hg0,hg1,hb⟩
 have HR:=hZ (show ∀ e w',RSomeOut n many s w e w'↔(∃ v,e=.returned (.agg #[.int .u64 ((shufN n s).1:Nat),v])∧w'.ownsRow w.heap.size 3 1 v ((List.range n).filter (hasN ((shufN n s).2.take many))).length (((List.range n).filter (hasN ((shufN n s).2.take many))).map natV)∧Below w.heap.size w w') from fun e w'=>by unfold RSomeOut;rw [HSL.out])
 clear HSL
 generalize (shufN n s).1=st at *
 generalize (shufN n s).2=T at *
 have Z1:=hZ (((Z0.out.keep hb).alloc (.cells #[.int .u64 st,.slice (some ⟨g,0,none⟩) n c] 184)).alloc (.cells #[.int .u64 st,.slice none 0 0] 184))
 have B1:=hZ (chain B0.out hb)
 have B2:=hZ ((B1.out.alloc B1.out.size (.cells #[.int .u64 st,.slice (some ⟨g,0,none⟩) n c] 184)).alloc (by have:=B1.out.size;simp;omega) (.cells #[.int .u64 st,.slice none 0 0] 184))
 have NA:=hZ (hna.keep (((Below.refl _ w1).alloc (Nat.le_refl _) (.cells #[.int .u64 st,.slice (some ⟨g,0,none⟩) n c] 184)).alloc (by simp) (.cells #[.int .u64 st,.slice none 0 0] 184)) hg1)
 have SB:=hZ ((Box.new w1 184 #[.int .u64 st,.slice (some ⟨g,0,none⟩) n c]).alloc (.cells #[.int .u64 st,.slice none 0 0] 184))
 have OB:=Box.new (w1.alloc (.cells #[.int .u64 st,.slice (some ⟨g,0,none⟩) n c] 184)) 184 #[.int .u64 st,.slice none 0 0]
 simp only [World.size_alloc] at OB
 have OB:=hZ OB
 have HZL:=hZ hzl
 have hw1:w.heap.size+1≤w1.heap.size:=by have:=hb.size;simpa using this
 have hgw:w.heap.size+1≤g:=by simpa using hg0
 have HSZ:=hZ (show ((w1.alloc (.cells #[.int .u64 st,.slice (some ⟨g,0,none⟩) n c] 184)).alloc (.cells #[.int .u64 st,.slice none 0 0] 184)).heap.size=w1.heap.size+2 by simp)
 clear hna hzl hg0 hb Z0 B0 B1
 go_wp2_with fail
 generalize (w1.alloc (.cells #[.int .u64 st,.slice (some ⟨g,0,none⟩) n c] 184)).alloc (.cells #[.int .u64 st,.slice none 0 0] 184)=W0 at *
 generalize hbq:w1.heap.size=b at *
 clear hbq
 go_loopw [9] (fun i wr=>∃ (k:Nat) (v:Value),k≤n∧i=.int .i64 k∧Hid (Box wr (b+1) 184 #[.int .u64 st,v])∧Hid (wr.ownsRow (b+2) 3 1 v ((List.range k).filter (hasN (T.take many))).length (((List.range k).filter (hasN (T.take many))).map natV)) ∧
  Hid (Box wr b 184 #[.int .u64 st,.slice (some ⟨g,0,none⟩) n c])∧Hid (NatsAt wr g T)∧Hid (Box wr w.heap.size 184 #[.int .u64 0,.slice none 0 0])∧Hid (Below w.heap.size w wr)∧Hid (b+2≤wr.heap.size)) (fun i _=>n-(intOf i).toNat)
 case atStart=>exact⟨0,_,by omega,rfl,OB,hZ (World.ownsRow_nil _ _ _ _),SB,NA,Z1,B2,hZ (by rw [HSZ.out];exact Nat.le_refl _)⟩
 case round=>
  clear OB SB NA Z1 B2
  obtain⟨k,v,hk,rfl,OB,HO,SB,NA,Z1,B2,HS2⟩:=hrel
  by_cases hkn:k<n
  ·have hkn':(k:Int)<n:=by omega
   obtain⟨a0,a1,-,-⟩:=SB.out.two
   go_wp2_with fail
   refine (inN_any g c n many k T _ HZL.out NA.out hm hcap h2).mono ?_
   rintro e w2 ⟨rfl,rfl⟩
   have HFL:=hZ (range_filter_succ (hasN (T.take many)) k)
   generalize hL:(List.range k).filter (hasN (T.take many))=L at *
   have hLn:L.length≤k:=by rw [← hL];exact Nat.le_trans (List.length_filter_le _ _) (by simp)
   have HLn:=hZ hL
   clear hL
   cases hh:hasN (T.take many) k with
   | true=>
     rw [hh] at HFL
     clear hh
     obtain⟨A',c',rfl,_⟩:=own_form HO.out
     obtain⟨e0,e1,-,-⟩:=OB.out.two
     have hi':=HI.out
     have hz0':=HZ0.out
     have hz1':=HZ1.out
     have hz2':=HZ2.out
     have XO:=hZ (HO.out.alloc (.cells #[.int .i64 (k:Int)] 3))
     have XK:=hZ ((Below.refl (b+2) wr).alloc HS2.out (.cells #[.int .i64 (k:Int)] 3))
     have N2:=hZ (fun q hq=>(HO.out.lt q hq).1)
     have HBS:=hZ (show b+2≤(wr.alloc (.cells #[.int .i64 (k:Int)] 3)).heap.size by have:=HS2.out;simp;omega)
     go_wp2_with (at_builtin;refine wpList_append_own _ rfl _ _ 106 rfl (b+2) 3 i0 (.int .i64 0) 1 8 Tryz.underlying106 hi' hz0' hz1' hz2' rfl (by decide) _ _ _ rfl XO.out ⟨wr.heap.size,0,none⟩ 1 1 [.int .i64 (k:Int)] rfl rfl (cell_one_new _ _ _) (by simp [Value.oneCell']) (by simp [maxLen];omega) (by omega) HBS.out ?_;intro v' w2 hown' hgrow _;obtain⟨g',cap',rfl⟩:=ownsRow_succ hown';have XK2:=hZ (XK.out.grown hgrow HBS.out N2.out);have HO2:=hZ hown';have OB2:=hZ (OB.out.below XK2.out (by omega));obtain⟨m0,m1,q0,q1⟩:=OB2.out.two;clear hown' hgrow e0 e1)
     have hgb:g≠b+1:=by omega
     have hbb:b≠b+1:=by omega
     have hwb:w.heap.size≠b+1:=by omega
     go_roundw
     case rel=>
      refine⟨k+1,_,by omega,by go_num,hZ (OB2.out.put 1 _),?_,hZ ((SB.out.below XK2.out (by omega)).far (p:=⟨b+1,1,none⟩) hbb _),hZ ((NA.out.keep XK2.out (by omega)).far (p:=⟨b+1,1,none⟩) hgb _),hZ ((Z1.out.below XK2.out (by omega)).far (p:=⟨b+1,1,none⟩) hwb _),hZ ((B2.out.trans (XK2.out.mono (by omega))).setCell (p:=⟨b+1,1,none⟩) (by show w.heap.size≤b+1;omega) _),hZ ?_⟩
      ·rw [HFL.out,if_pos trivial,List.length_append,List.length_singleton,List.map_append]
       exact hZ (own_far HO2.out OB2.out (by decide) 1 (.slice (some ⟨g',0,none⟩) (L.length+1) cap'))
      ·have h1:=XK2.out.size
       have h2:=HS2.out
       have:(w2.setCell ⟨b+1,1,none⟩ (.slice (some ⟨g',0,none⟩) (L.length+1) cap')).heap.size=w2.heap.size:=by simp [World.setCell]
       omega
     case measure=>simp [intOf]<;>omega
   | false=>
     rw [hh] at HFL
     clear hh
     go_wp2_with fail
     go_roundw
     case rel=>
      refine⟨k+1,v,by omega,by go_num,OB,?_,SB,NA,Z1,B2,HS2⟩
      rw [HFL.out]
      simpa using HO
     case measure=>simp [intOf]<;>omega
  ·obtain rfl:k=n:=by omega
   have hkk:¬ (k:Int)<k:=by omega
   obtain⟨A',c',rfl,_⟩:=own_form HO.out
   obtain⟨e0,e1,-,-⟩:=OB.out.two
   obtain⟨m0,m1,q0,q1⟩:=Z1.out.two
   go_wp2_with fail
   refine close_one Tryz.results140 rfl rfl Z1.out.put2 Tryz.underlying184 rfl (by kernel_rfl) ((HR.out _ _).2 ⟨_,rfl,?_,(B2.out.setCell (p:=⟨w.heap.size,0,none⟩) (Nat.le_refl _) _).setCell (p:=⟨w.heap.size,1,none⟩) (Nat.le_refl _) _⟩)
   have h1:=own_far HO.out Z1.out (by decide) 0 (.int .u64 st)
   have h2:=own_far h1 (Z1.out.put 0 _) (by decide) 1 (.slice A' (List.filter (hasN (T.take many)) (List.range k)).length c')
   exact own_lower h2 (by omega)
end
section
/- Contract of layer 6: Some (over the shelf's contracts of slices.Clone and slices.Sort). -/
open Go.RowKit Go.Sort
theorem own_nats' {w:World} {base e n:Nat} {v:Value} {zs:List Nat} (h:w.ownsRow base e 1 v n (zs.map natV)) (hne:v≠.slice none 0 0):∃ g c,v=.slice (some ⟨g,0,none⟩) n c∧n≤c∧base≤g∧g<w.heap.size∧NatsAt w g zs∧zs.length=n:=by
 have hl:zs.length=n:=by have:=h.1;simpa using this
 rcases h.2 with ⟨h0,_⟩ |⟨g,cap,cur,rfl,hb,hh,hcap,hm,hs,hx⟩
 ·exact absurd h0 hne
 ·have hbx:Box w g e cur:=hh
  refine⟨g,cap,rfl,hcap,hb,hbx.lt,fun j hj=>?_,hl⟩
  rw [hbx.cell j,hbx.free j]
  refine⟨?_,rfl⟩
  have e1:(cur.toList.take (n*1))[j]?=(zs.map natV)[j]?:=by rw [hx]
  rw [Nat.mul_one,List.getElem?_take,if_pos (by omega)] at e1
  simp only [List.getElem?_map,List.getElem?_eq_getElem hj,Option.map_some] at e1
  rw [← Array.getElem?_toList,e1]
  simp [List.getD,hj,natV]
theorem mapBlock_other (w:World) (blk k:Nat) (f:Array Value→Array Value) (h:k≠blk):(mapBlock w blk f).heap[k]?=w.heap[k]?:=by
 simp only [mapBlock,Array.getElem?_modify]
 rw [if_neg (fun e=>h e.symm)]
theorem sorted_below (w:World) (n blk off:Nat) (d:Array Int) (os:Array Obj) (h:blk<w.heap.size):Below blk w (grow (putRow (Value.int .i64) (Sort.ahead w n) blk off d) os):=
 ⟨rfl,rfl,rfl,by simp,fun k hk=>by
  rw [heap_grow_old _ _ (by simp;omega)]
  exact mapBlock_other _ _ _ _ (by omega)⟩
theorem holds_nats {w:World} {g:Nat} {zs:List Nat} (h:NatsAt w g zs):Holds (Value.int .i64) w g 0 (zs.map fun x:Nat=>(x:Int)).toArray:=by
 intro j hj
 have hj':j<zs.length:=by simpa using hj
 obtain⟨h1,h2⟩:=h j hj'
 rw [Nat.zero_add]
 refine⟨?_,h2⟩
 rw [h1]
 simp [List.getD,hj']
theorem nats_holds {w:World} {g:Nat} {zs:List Nat} (h:Holds (Value.int .i64) w g 0 (zs.map fun x:Nat=>(x:Int)).toArray):NatsAt w g zs:=by
 intro j hj
 obtain⟨h1,h2⟩:=h j (by simpa using hj)
 rw [Nat.zero_add] at h1 h2
 refine⟨?_,h2⟩
 rw [h1]
 simp [List.getD,hj]
theorem sort_nats (g c k:Nat) (zs zs':List Nat) (hz:zs.length=k) (w:World) (h:NatsAt w g zs) (hg:g<w.heap.size) (hs:(zs.map fun x:Nat=>(x:Int)).mergeSort (fun x y=>decide (x≤y))=zs'.map fun x:Nat=>(x:Int)) (hk:k≤512) :
  Calls Tryz.prog 206 #[.slice (some ⟨g,0,none⟩) k c] w fun e w'=>e=.returned (.tuple #[])∧NatsAt w' g zs'∧Below g w w':=by
 have hl:(zs.map fun x:Nat=>(x:Int)).length=k:=by simpa using hz
 have hl2:zs'.length=zs.length:=by
  have:=congrArg List.length hs
  simpa using this.symm
 have:=Tryz.slices_Sort_int g 0 c (zs.map fun x:Nat=>(x:Int)) w (holds_nats h) hg (by omega)
 rw [hl] at this
 refine this.mono ?_
 rintro e w' ⟨rfl,n,os,rfl⟩
 refine⟨rfl,?_,sorted_below w n g 0 _ os hg⟩
 rw [hs]
 refine nats_holds (holds_grow _ _ _ _ _ _ (by simpa using hg) ?_)
 exact holds_putRow _ (Sort.ahead w n) g 0 (zs.map fun x:Nat=>(x:Int)).toArray _ (holds_nats h) (by simp [hl2])
def SomeOut (n many s:Nat) (w:World) (e:Ending) (w':World):Prop:=
 ∃ g c,e=.returned (.tuple #[.int .u64 ((shufN n s).1:Nat),.slice (some ⟨g,0,none⟩) many c,.int .i64 0])∧many≤c∧NatsAt w' g (someN n many s)∧(someN n many s).length=many∧w.heap.size≤g∧g<w'.heap.size∧Below w.heap.size w w'
set_option maxRecDepth 100000 in
set_option maxHeartbeats 2000000 in
theorem some_yes (s n many:Nat) (hs:s<18446744073709551616) (h1:1≤n) (h2:n≤512) (hm:many≤n) (w:World):Calls Tryz.prog 182 #[.int .u64 s,.int .i64 n,.int .i64 many] w (SomeOut n many s w):=by
 have H:=hZ (bound_any n)
 rw [decide_eq_true (p:=1≤(n:Int)∧(n:Int)≤512) (by omega)] at H
 have HSI:=hZ (some_int n many s h1 hs)
 have HSL:=hZ (some_len n many s h1 hs hm)
 have hm0:¬ (many:Int)<0:=by omega
 have hm1:¬ (n:Int)<many:=by omega
 have hm2:(many:Int)≤n:=by omega
 go_enter Tryz.func182,Tryz.ntmps182
 go_wp2_with fail
 refine (H.out _).mono ?_
 rintro e w1 ⟨rfl,rfl⟩
 go_wp2_with fail
 refine (shuffle_yes s n hs h1 h2 _).mono ?_
 rintro e w1 ⟨g,rfl,hna,hzl,hg0,hg1,hb⟩
 have HNA:=hZ hna
 have HZL:=hZ hzl
 have B1:=hZ hb
 clear hna hzl hb
 go_wp2_with fail
 have HCL:=Tryz.slices_Clone_int g 0 many n ((shufN n s).2.map fun x:Nat=>(x:Int)) w1 (by simp [HZL.out];exact hm) (by omega) (fun j hj=>by
  have hj':j<(shufN n s).2.length:=by simpa using hj
  rw [Nat.zero_add,(HNA.out j hj').1]
  simp [List.getD,hj'])
 refine HCL.mono ?_
 clear HCL
 rintro e w2 ⟨v,rfl,hown,hne,hb⟩
 have hown2:w2.ownsRow w1.heap.size 3 1 v many (((shufN n s).2.take many).map natV):=by
  rw [← List.map_take,List.map_map] at hown
  exact hown
 obtain⟨g2,c2,rfl,hc2,hg2,hg3,hn2,hl2⟩:=own_nats' hown2 hne
 have B2:=hZ (chain B1.out hb)
 have HN2:=hZ hn2
 have HL2:=hZ hl2
 have hw1:=B1.out.size
 clear hown hown2 hne hb hn2 hl2 HNA HZL
 have HS:∀ W,Hid (W=w2)→Calls Tryz.prog 206 #[.slice (some ⟨g2,0,none⟩) many c2] W fun e w'=>e=.returned (.tuple #[])∧NatsAt w' g2 (someN n many s)∧Below g2 W w':=by
  rintro W hW
  have hW:W=w2:=hW
  subst hW
  by_cases h0:many=0
  ·subst h0
   refine (Tryz.slices_Sort_int_none (some ⟨g2,0,none⟩) c2 W).mono ?_
   rintro e w' ⟨rfl,rfl⟩
   refine⟨rfl,?_,Below.refl _ _⟩
   have:=HSL.out
   intro j hj
   omega
  ·exact sort_nats g2 c2 many _ _ HL2.out W HN2.out hg3 HSI.out (by omega)
 have HS:=hZ HS
 go_wp2_with fail
 refine (HS.out w2 (hZ rfl)).mono ?_
 rintro e w3 ⟨rfl,hn3,hb⟩
 go_wp2_with fail
 go_ret3
 exact⟨g2,c2,rfl,hc2,hn3,HSL.out,by omega,Nat.lt_of_lt_of_le hg3 hb.size,B2.out.trans (hb.mono (by omega))⟩
end
section
/- Contract of the reference's Numbers: are two rows the same? -/
open Go.RowKit
end
section
/- Layer 6: rows of small numbers as rows of ints. -/
open Go.RowKit
def castZ (zs:List Nat):List Int:=zs.map fun x:Nat=>(x:Int)
theorem castZ_getD (zs:List Nat) (j:Nat):(castZ zs).getD j 0=((zs.getD j 0:Nat):Int):=by
 by_cases h:j<zs.length
 ·simp [castZ,List.getD,h]
 ·simp [castZ,List.getD,List.getElem?_eq_none (Nat.le_of_not_lt h)]
theorem nats_ints {w:World} {g k:Nat} {zs:List Nat} (h:NatsAt w g zs) (hz:zs.length=k) (hg:g<w.heap.size) (hb:∀ x∈zs,x≤1000000):Ints w (some ⟨g,0,none⟩) k (castZ zs):=by
 refine⟨by simpa [castZ] using hz,fun j=>?_,fun _=>⟨g,0,rfl,hg,fun j hj=>?_⟩⟩
 ·rw [castZ_getD]
  have:zs.getD j 0≤1000000:=by
   by_cases hj:j<zs.length
   ·have:zs.getD j 0=zs[j]:=by simp [List.getD,hj]
    rw [this];exact hb _ (List.getElem_mem hj)
   ·simp [List.getD,List.getElem?_eq_none (Nat.le_of_not_lt hj)]
  omega
 ·rw [castZ_getD,Nat.zero_add]
  exact (h j (by omega)).1
theorem some_bound (n many s:Nat) (h2:n≤512):∀ x∈someN n many s,x≤1000000:=by
 intro x hx
 have:=List.mem_filter.1 hx
 have:x<n:=by simpa using this.1
 omega
theorem own_natInts {w:World} {base n:Nat} {A:Option Addr} {c:Nat} {zs:List Nat} (h:w.ownsRow base 3 1 (.slice A n c) n (zs.map natV)) (hb:∀ x∈zs,x≤1000000):Ints w A n (castZ zs):=by
 have h':w.ownsRow base 3 1 (.slice A n c) n ((castZ zs).map (Value.int .i64)):=by
  have:(castZ zs).map (Value.int .i64)=zs.map natV:=by simp [castZ,natV,Function.comp_def]
  rw [this];exact h
 refine own_ints h' (fun j=>?_)
 rw [castZ_getD]
 have:zs.getD j 0≤1000000:=by
  by_cases hj:j<zs.length
  ·have:zs.getD j 0=zs[j]:=by simp [List.getD,hj]
   rw [this];exact hb _ (List.getElem_mem hj)
  ·simp [List.getD,List.getElem?_eq_none (Nat.le_of_not_lt hj)]
 omega
end
section
/- Words as values; rows of the call's own, from a lower base. No program. -/
open Go.RowKit
def u64V (x:Nat):Value:=.int .u64 (x:Int)
theorem own_low {w:World} {base base' e size n:Nat} {v:Value} {xs:List Value} (h:w.ownsRow base e size v n xs) (hb:base'≤base):w.ownsRow base' e size v n xs:=by
 refine⟨h.1,?_⟩
 rcases h.2 with h0 |⟨g,cap,cur,rfl,h1,h2⟩
 ·exact .inl h0
 ·exact .inr ⟨g,cap,cur,rfl,Nat.le_trans hb h1,h2⟩
end
section
/- Plain mathematics of layer 7: roots, tables. No program. -/
theorem countP_lt (n m:Nat):(List.range n).countP (fun i=>decide (i<m))=min n m:=by
 induction n with
 | zero=>simp
 | succ n ih=>
   rw [List.range_succ,List.countP_append,ih]
   by_cases h:n<m
   ·simp [h];omega
   ·simp [h];omega
def cnt (k:Nat):Nat:=(List.range 65536).countP (fun i=>!decide (k<i*i))
theorem exists_root (k:Nat):∃ s,s*s≤k∧k<(s+1)*(s+1):=by
 induction k with
 | zero=>exact⟨0,by omega,by omega⟩
 | succ k ih=>
   obtain⟨s,h1,h2⟩:=ih
   by_cases h:k+1<(s+1)*(s+1)
   ·exact⟨s,by omega,h⟩
   ·refine⟨s+1,by omega,?_⟩
    have e:(s+1+1)*(s+1+1)=(s+1)*(s+1)+2*s+3:=by
     simp only [Nat.add_mul,Nat.mul_add];omega
    omega
theorem sq_le {a b:Nat} (h:a≤b):a*a≤b*b:=Nat.mul_le_mul h h
theorem cnt_of (k s:Nat) (h1:s*s≤k) (h2:k<(s+1)*(s+1)) (hs:s<65536):cnt k=s+1:=by
 unfold cnt
 have:(List.range 65536).countP (fun i=>!decide (k<i*i))=(List.range 65536).countP (fun i=>decide (i<s+1)):=by
  apply List.countP_congr
  intro i _
  have:(k<i*i)↔¬ (i<s+1):=by
   constructor
   ·intro h h3
    have:=sq_le (show i≤s by omega)
    omega
   ·intro h
    have:=sq_le (show s+1≤i by omega)
    omega
  simp [this]
 rw [this,countP_lt]
 omega
def root (k:Nat):Nat:=cnt k-1
theorem root_of (k s:Nat) (h1:s*s≤k) (h2:k<(s+1)*(s+1)) (hk:k≤2147483647):root k=s∧cnt k=s+1:=by
 have hs:s<65536:=by
  rcases Nat.lt_or_ge s 65536 with h | h
  ·exact h
  ·have:=sq_le h;omega
 have:=cnt_of k s h1 h2 hs
 exact⟨by unfold root;omega,this⟩
theorem root_spec (k:Nat) (hk:k≤2147483647):root k*root k≤k∧k<(root k+1)*(root k+1)∧cnt k=root k+1∧root k<65536:=by
 obtain⟨s,h1,h2⟩:=exists_root k
 obtain⟨e,e2⟩:=root_of k s h1 h2 hk
 have hs:s<65536:=by
  rcases Nat.lt_or_ge s 65536 with h | h
  ·exact h
  ·have:=sq_le h;omega
 rw [e,e2]
 exact⟨h1,h2,rfl,hs⟩
def risesFrom:Nat→List Nat→Bool
 | _,[]=>true
 | a,x::l=>decide (a<x)&&risesFrom x l
def tabB (ws:List Nat):Bool:=decide (1≤ws.length)&&decide (ws.length≤64)&&risesFrom 0 ws
theorem rises_at:∀ (ws:List Nat) (a k:Nat),risesFrom a ws=true→k<ws.length→a<ws.getD k 0∧(k+1<ws.length→ws.getD k 0<ws.getD (k+1) 0)
 | [],_,_,_,h=>by simp at h
 | x::l,a,k,h,hk=>by
   simp only [risesFrom,Bool.and_eq_true,decide_eq_true_eq] at h
   cases k with
   | zero=>
     refine⟨by simpa using h.1,fun hl=>?_⟩
     have:=(rises_at l x 0 h.2 (by simpa using hl)).1
     simpa using this
   | succ k=>
     have:=rises_at l x k h.2 (by simpa using hk)
     simp only [List.length_cons] at hk
     refine⟨by have:=this.1;simp only [List.getD_cons_succ];omega,fun hl=>?_⟩
     simpa using this.2 (by simpa using hl)
theorem rises_mono (ws:List Nat) (h:risesFrom 0 ws=true) (a b:Nat) (hab:a≤b) (hb:b<ws.length):ws.getD a 0≤ws.getD b 0:=by
 induction b with
 | zero=>obtain rfl:a=0:=by omega
         exact Nat.le_refl _
 | succ b ih=>
   by_cases e:a=b+1
   ·rw [e];exact Nat.le_refl _
   ·have h1:=ih (by omega) (by omega)
    have h2:=(rises_at ws 0 b h (by omega)).2 hb
    omega
theorem rises_take (ws:List Nat) (a k:Nat) (hk:k<ws.length):risesFrom a (ws.take (k+1))=(risesFrom a (ws.take k)&&decide ((if k=0 then a else ws.getD (k-1) 0)<ws.getD k 0)):=by
 induction ws generalizing a k with
 | nil=>simp at hk
 | cons x l ih=>
   cases k with
   | zero=>simp [risesFrom]
   | succ k=>
     rw [List.take_succ_cons,List.take_succ_cons,risesFrom,risesFrom,ih x k (by simpa using hk),Bool.and_assoc]
     cases k with
     | zero=>simp
     | succ k=>simp
theorem rises_stop (ws:List Nat) (k:Nat) (hk:k≤ws.length) (h:risesFrom 0 (ws.take k)=false):risesFrom 0 ws=false:=by
 rw [Bool.eq_false_iff]
 intro ha
 have:∀ j,j≤ws.length→risesFrom 0 (ws.take j)=true:=by
  intro j hj
  have hz:=List.take_append_drop j ws
  generalize ws.take j=p at *
  generalize ws.drop j=q at *
  subst hz
  clear h hk hj
  have:∀ (p:List Nat) (a:Nat),risesFrom a (p++q)=true→risesFrom a p=true:=by
   intro p
   induction p with
   | nil=>intro a _;rfl
   | cons x p ih=>
     intro a h
     simp only [List.cons_append,risesFrom,Bool.and_eq_true] at h ⊢
     exact⟨h.1,ih x h.2⟩
  exact this p 0 ha
 rw [this k hk] at h
 cases h
def pickN (ws:List Nat) (n:Nat):Nat:=(List.range ws.length).countP (fun i=>!decide (n<ws.getD i 0))
theorem pickN_of (ws:List Nat) (n s:Nat) (h1:∀ i,i<s→ws.getD i 0≤n) (h2:∀ i,s≤i→i<ws.length→n<ws.getD i 0) (hs:s≤ws.length):pickN ws n=s:=by
 unfold pickN
 have:(List.range ws.length).countP (fun i=>!decide (n<ws.getD i 0))=(List.range ws.length).countP (fun i=>decide (i<s)):=by
  apply List.countP_congr
  intro i hi
  have hi':i<ws.length:=by simpa using hi
  by_cases h:i<s
  ·have:=h1 i h
   simp [h]
   simp [List.getD] at this
   omega
  ·have:=h2 i (by omega) hi'
   simp [h]
   simp [List.getD] at this
   omega
 rw [this,countP_lt]
 omega
end
section
/- Contracts of layer 7: sort.Search with a predicate that leaves old memory; Root. -/
open Go.RowKit
def Asks (P:Program) (g:Nat) (cb:Array Value) (n:Nat) (p:Nat→Bool) (w:World):Prop:=
 ∀ (W:World) (i:Nat),i<n→Below w.heap.size w W→Calls P g (#[.int .i64 i]++cb) W fun e W'=>e=.returned (.bool (p i))∧Below w.heap.size w W'
def Parted (n:Nat) (p:Nat→Bool) (lo hi:Nat):Prop:=(∀ t,t<lo→p t=false)∧(∀ t,hi≤t→t<n→p t=true)
theorem parted_count (n:Nat) (p:Nat→Bool) (k:Nat) (hk:k≤n) (h:Parted n p k k):(List.range n).countP (fun i=>!p i)=k:=by
 have:(List.range n).countP (fun i=>!p i)=(List.range n).countP (fun i=>decide (i<k)):=by
  apply List.countP_congr
  intro i hi
  have hi':i<n:=by simpa using hi
  by_cases e:i<k
  ·simp [e,h.1 i e]
  ·simp [e,h.2 i (by omega) hi']
 rw [this,countP_lt];omega
set_option maxHeartbeats 2000000 in
theorem search_any (g:Nat) (cb:Array Value) (n:Nat) (p:Nat→Bool) (w:World) (eg:∀ args w,(callFunc g args).run Tryz.prog w=.ok (.enter g args) w) (hsz:n<4611686018427387904)
  (hf:Asks Tryz.prog g cb n p w) (hmono:∀ a b,a≤b→b<n→p a=true→p b=true) :
  Calls Tryz.prog 201 #[.int .i64 n,.func (.func g) #[] cb] w fun e w'=>e=.returned (.int .i64 ((List.range n).countP (fun i=>!p i):Nat))∧Below w.heap.size w w':=by
 have M:=hZ hmono
 have CN:=hZ (parted_count n p)
 clear hmono
 generalize (List.range n).countP (fun i=>!p i)=cnt at *
 go_enter Tryz.func201,Tryz.ntmps201
 go_wp2
 go_loopg [5,6] n (fun kx s5 s6 wr=>∃ (lo hi:Nat),s5=.int .i64 lo∧s6=.int .i64 hi∧lo≤hi∧hi≤n∧hi-lo≤kx∧Below w.heap.size w wr∧Parted n p lo hi)
 case atStart=>exact⟨0,n,rfl,rfl,Nat.zero_le _,Nat.le_refl _,by omega,Below.refl _ _,⟨fun t ht=>absurd ht (Nat.not_lt_zero _),fun t h1 h2=>by omega⟩⟩
 case round=>
  obtain⟨lo,hi,rfl,rfl,hlh,hin,hg,hbel,I⟩:=hrel
  by_cases hlt:lo<hi
  ·have hc:=hf _ ((lo+hi) / 2) (by omega) hbel
   rw [show (((lo+hi) / 2:Nat):Int)=((lo:Int)+(hi:Int)) / 2 by omega] at hc
   cases hp:p ((lo+hi) / 2)<;>rw [hp] at hc
   ·have HP:=hZ hp
    clear hp
    go_wp2_with (go_at_fn g;refine hc.mono ?_;rintro e w' ⟨rfl,hb2⟩)
    go_roundg (hi-((lo+hi) / 2+1))
    case measure=>omega
    case rel=>
     have I2:Parted n p ((lo+hi) / 2+1) hi:=⟨fun t ht=>(by
      cases h:p t with
      | false=>rfl
      | true=>have:=M.out t ((lo+hi) / 2) (by omega) (by omega) h;rw [HP.out] at this;cases this),I.2⟩
     exact⟨(lo+hi) / 2+1,hi,by rw [show ((lo:Int)+(hi:Int)) / 2+1=(((lo+hi) / 2+1:Nat):Int) by omega],rfl,by omega,hin,Nat.le_refl _,hb2,I2⟩
   ·have HP:=hZ hp
    clear hp
    go_wp2_with (go_at_fn g;refine hc.mono ?_;rintro e w' ⟨rfl,hb2⟩)
    go_roundg ((lo+hi) / 2-lo)
    case measure=>omega
    case rel=>
     have I2:Parted n p lo ((lo+hi) / 2):=⟨I.1,fun t ht htn=>M.out ((lo+hi) / 2) t ht htn HP.out⟩
     exact⟨lo,(lo+hi) / 2,rfl,by rw [show ((lo:Int)+(hi:Int)) / 2=(((lo+hi) / 2:Nat):Int) by omega],by omega,by omega,Nat.le_refl _,hb2,I2⟩
  ·obtain rfl:hi=lo:=by omega
   have ecnt:=CN.out hi hin I
   subst ecnt
   go_wp2
   go_ret
   exact⟨rfl,hbel⟩
theorem sq_cast (i:Nat):(i:Int)*(i:Int)=((i*i:Nat):Int):=by simp
theorem rootF_any (bk k i:Nat) (W:World) (hi:i<65536) (hk:k≤2147483647) (hc:W.cell? ⟨bk,0,none⟩=some (.int .i64 k)) :
  Calls Tryz.prog 214 (#[.int .i64 i]++#[.pointer (some ⟨bk,0,none⟩)]) W fun e w'=>e=.returned (.bool (decide (k<i*i)))∧∃ q,w'=W.drewN q:=by
 have h1:i*i≤4294836225:=Nat.mul_le_mul (show i≤65535 by omega) (show i≤65535 by omega)
 have h2:(i:Int)*(i:Int)≤4294836225:=by rw [sq_cast];omega
 have h3:0≤(i:Int)*(i:Int):=by rw [sq_cast];omega
 have e:decide (k<i*i)=decide ((k:Int)<(i:Int)*(i:Int)):=decide_eq_decide.2 (by rw [sq_cast];omega)
 rw [e]
 clear e h1
 go_enter Tryz.func214,Tryz.ntmps214
 go_wp2
 go_ret
 exact⟨rfl,0,rfl⟩
set_option maxHeartbeats 1000000 in
theorem root_yes (k:Nat) (hk:k≤2147483647) (w:World) :
  Calls Tryz.prog 207 #[.int .i64 k] w fun e w'=>e=.returned (.tuple #[.int .i64 (root k:Nat),.int .i64 0])∧Below w.heap.size w w':=by
 obtain⟨W0,hW0⟩:∃ W0,W0=w.alloc (.cells #[.int .i64 k] 3):=⟨_,rfl⟩
 have hB0:Below w.heap.size w W0:=by rw [hW0];exact (Below.refl _ _).alloc (Nat.le_refl _) _
 have bx:Box W0 w.heap.size 3 #[.int .i64 k]:=by rw [hW0];exact Box.new _ _ _
 have eg:∀ args w,(callFunc 214 args).run Tryz.prog w=.ok (.enter 214 args) w:=enters_of Tryz.func214 (by kernel_rfl) rfl
 have hf:Asks Tryz.prog 214 #[.pointer (some ⟨w.heap.size,0,none⟩)] 65536 (fun i=>decide (k<i*i)) W0:=fun W i hi hb=>
  (rootF_any w.heap.size k i W hi hk ((bx.keep hb).cell 0)).mono fun _ _ ⟨he,q,hq⟩=>⟨he,by rw [hq];exact bdN hb q⟩
 have hS:=search_any 214 _ 65536 _ W0 eg (by omega) hf (fun a b hab _ h=>by have:=sq_le hab;simp at h ⊢;omega)
 have hc:=(root_spec k hk).2.2
 rw [show (List.range 65536).countP (fun i=>!decide (k<i*i))=root k+1 from hc.1] at hS
 have hr:root k<65536:=hc.2
 have HS:=hZ hS
 have HW0:=hZ hW0
 have HB:=hZ hB0
 generalize root k=r at *
 clear hc hS hf bx hB0 hW0
 have t2:¬ (2147483647:Int)<k:=by omega
 go_enter Tryz.func207,Tryz.ntmps207
 go_wp2_with fail
 rw [← HW0.out]
 refine HS.out.mono ?_
 rintro e w' ⟨rfl,hb⟩
 go_wp2_with fail
 go_ret2
 exact⟨by simp,chain HB.out hb⟩
end
section
/- Contracts of layer 7: plain, more, math/bits.Len64 at small numbers. -/
open Go.RowKit
def plainN (d k:Nat):Nat:=if d=1 then 4294967296 / k else 4294967296 / (d*(d-1))
def moreN (d p t k:Nat):Nat:=if d<p then 4294967296*t / (d*k) else if d=p then 4294967296*t*Lib.bitLen t / k else 0
theorem mul_cast (a b:Nat):(a:Int)*(b:Int)=((a*b:Nat):Int):=by simp
theorem tab_size:Lib.len8tab.size=256:=by decide +kernel
theorem len_tab:∀ n:Fin 256,wrap64 (wrap64 ((Lib.len8tab[n.val]'(by rw [tab_size];exact n.isLt)).toNat:Int))=(Lib.bitLen n.val:Int):=by decide +kernel
set_option maxHeartbeats 4000000 in
set_option maxRecDepth 100000 in
theorem len64_int (x:Int) (w:World) (h0:0≤x) (h1:x<256):Calls Tryz.prog 215 #[.int .u64 x] w fun e w'=>e=.returned (.int .i64 (Lib.bitLen x.toNat))∧w=w':=by
 go_enter Tryz.func215,Tryz.ntmps215
 go_wp2
 go_ret
 refine⟨congrArg Ending.returned (congrArg (Value.int IntKind.i64) ?_),rfl⟩
 exact len_tab ⟨x.toNat,by omega⟩
theorem len64_any (x:Nat) (hx:x<256) (w:World):Calls Tryz.prog 215 #[.int .u64 x] w fun e w'=>e=.returned (.int .i64 (Lib.bitLen x:Nat))∧w=w':=by
 have:=len64_int x w (by omega) (by omega)
 rwa [Int.toNat_natCast] at this
theorem bitLen_le (x:Nat) (hx:x<256):Lib.bitLen x≤8:=by
 have:=Lib.bitLen_le8' (x:Int) (by omega) (by omega)
 rw [Int.toNat_natCast] at this
 omega
theorem plain_any (d k:Nat) (h1:1≤d) (h2:d≤64) (h3:1≤k) (h4:k≤64) (w:World) :
  Calls Tryz.prog 209 #[.int .u64 d,.int .u64 k] w fun e w'=>e=.returned (.int .u64 (plainN d k:Nat))∧w=w':=by
 by_cases hd:d=1
 ·subst hd
  have g:(1:Int)≤k:=by omega
  go_enter Tryz.func209,Tryz.ntmps209
  go_wp2
  go_ret
  exact⟨rfl,rfl⟩
 ·obtain⟨c,rfl⟩:∃ c,d=c+1:=⟨d-1,by omega⟩
  have t:(((c+1:Nat):Int)==1)=false:=beq_eq_false_iff_ne.2 (by omega)
  have e:plainN (c+1) k=4294967296 / ((c+1)*c):=by rw [plainN,if_neg hd];rfl
  rw [e]
  have q0:1*1≤(c+1)*c:=Nat.mul_le_mul (by omega) (by omega)
  have q1:(c+1)*c≤64*63:=Nat.mul_le_mul (by omega) (by omega)
  have q2:((c:Int)+1)*(c:Int)=(((c+1)*c:Nat):Int):=by simp
  have q3:1≤((c:Int)+1)*(c:Int):=by rw [q2];omega
  have q4:((c:Int)+1)*(c:Int)≤4032:=by rw [q2];omega
  have HQ:=hZ q2
  clear q2 e
  go_enter Tryz.func209,Tryz.ntmps209
  go_wp2
  go_ret
  exact⟨congrArg (fun z=>Ending.returned (.int .u64 z)) (by rw [HQ.out];simp),rfl⟩
set_option maxHeartbeats 1000000 in
theorem more_any (d p t k:Nat) (h1:1≤d) (h2:d≤64) (h3:1≤k) (h4:k≤64) (h5:1≤t) (h6:t≤64) (h7:p≤64) (w:World) :
  Calls Tryz.prog 210 #[.int .u64 d,.int .u64 p,.int .u64 t,.int .u64 k] w fun e w'=>e=.returned (.int .u64 (moreN d p t k:Nat))∧w=w':=by
 have g1:(1:Int)≤k:=by omega
 by_cases hd:d<p
 ·have e:moreN d p t k=4294967296*t / (d*k):=by rw [moreN,if_pos hd]
  rw [e]
  have g:(d:Int)<p:=by omega
  have q0:1*1≤d*k:=Nat.mul_le_mul (by omega) (by omega)
  have q1:d*k≤64*64:=Nat.mul_le_mul (by omega) (by omega)
  have q2:(d:Int)*(k:Int)=((d*k:Nat):Int):=by simp
  have q3:1≤(d:Int)*(k:Int):=by rw [q2];omega
  have q4:(d:Int)*(k:Int)≤4096:=by rw [q2];omega
  have HQ:=hZ q2
  clear q2 e
  go_enter Tryz.func210,Tryz.ntmps210
  go_wp2
  go_ret
  exact⟨congrArg (fun z=>Ending.returned (.int .u64 z)) (by rw [HQ.out];simp),rfl⟩
 ·have g:¬ (d:Int)<p:=by omega
  by_cases hp:d=p
  ·have e:moreN d p t k=4294967296*t*Lib.bitLen t / k:=by rw [moreN,if_neg hd,if_pos hp]
   rw [e]
   have g2:((d:Int)==(p:Int))=true:=beq_iff_eq.2 (by omega)
   have HL:=hZ (len64_any t (by omega) w)
   have hb:=bitLen_le t (by omega)
   generalize Lib.bitLen t=z at *
   have q1:t*z≤64*8:=Nat.mul_le_mul (by omega) (by omega)
   have q2:4294967296*(t:Int)*(z:Int)=((4294967296*(t*z):Nat):Int):=by rw [Int.mul_assoc,mul_cast];simp
   have q3:0≤4294967296*(t:Int)*(z:Int):=by rw [q2];omega
   have q4:4294967296*(t:Int)*(z:Int)≤2199023255552:=by rw [q2];omega
   have HQ:=hZ q2
   clear q2 e hp hd
   go_enter Tryz.func210,Tryz.ntmps210
   go_wp2_with fail
   refine HL.out.mono ?_
   rintro e w1 ⟨rfl,rfl⟩
   go_wp2
   go_ret
   exact⟨congrArg (fun z=>Ending.returned (.int .u64 z)) (by rw [HQ.out,Nat.mul_assoc];simp),rfl⟩
  ·have e:moreN d p t k=0:=by rw [moreN,if_neg hd,if_neg hp]
   rw [e]
   have g2:((d:Int)==(p:Int))=false:=beq_eq_false_iff_ne.2 (by omega)
   clear e hp
   go_enter Tryz.func210,Tryz.ntmps210
   go_wp2
   go_ret
   exact⟨rfl,rfl⟩
end
section
/- A law of one's own for a region that draws its order inside a fence: its first operations and calls leave the world alone but for draws, the rest come one after the other (a call that writes among them). One walk serves every order. No program. -/
section
variable {F:Fence} {n:Nat} {P:Program} {ops:Array Oper} {md:Region.Mode} {C:World→Prop}
def headIn (F:Fence) (n:Nat) (P:Program) (md:Region.Mode) (ops:Array Oper) (C:World→Prop) (m:Nat) (L:Array Bool→Act→Prop):Nat→Array Bool→Act→Prop
 | 0,listed,a=>L listed a
 | f+1,listed,a=>Region.ready md ops listed≠[]∧∀ i∈Region.ready md ops listed,i<m∧qOpIn F n P ops C i (headIn F n P md ops C m L f (listed.setIfInBounds i true)) a
theorem any_of_head {m g:Nat} {L:Array Bool→Act→Prop} {Q:Exit→Act→World→Prop} (hro:F.round=none) (hL:∀ listed a w,C w→L listed a→wpAnyIn F n P md ops Q g listed a w) :
  ∀ (f:Nat) (listed:Array Bool) (a:Act) (w:World),C w→headIn F n P md ops C m L f listed a→wpAnyIn F n P md ops Q (f+g) listed a w
 | 0,listed,a,w,hw,h=>by rw [Nat.zero_add];exact hL _ _ _ hw h
 | f+1,listed,a,w,hw,h=>by
   rw [show f+1+g=(f+g)+1 by omega]
   exact⟨fun h0=>absurd h0 h.1,fun i hi=>wpOpIn_of_qOpIn hro hw (fun a' w' hw' h'=>any_of_head hro hL f _ a' w' hw' h') (h.2 i hi).2⟩
theorem head_first {m i:Nat} {oi:Oper} {v:Value} {L:Array Bool→Act→Prop} (hi:ops[i]?=some oi) (hsel:∀ (j:Nat) (o:Oper) cs b,ops[j]?=some o→o.op≠.select cs b)
  (hs:Region.sinkB md ops m=true) (hc:Region.chainB md ops m=true) (hm:m<ops.size) (him:i<m) (hdone:∀ listed a,L listed a→∀ j∈Region.ready md ops listed,m≤j) :
  ∀ (f:Nat) (listed:Array Bool) (a:Act),HeadInv md ops m listed →
   (∀ j oj,ops[j]?=some oj→j≠i→listed.getD j true=false→(∀ e∈oj.after,Region.binds md e=true→e.on≠i)→oi.apart ops oj=true) →
   i∈Region.ready md ops listed→YieldsQuiet F n P ops C oi v a →
   headIn F n P md ops C m L f (listed.setIfInBounds i true) (a.put oi.dst v)→headIn F n P md ops C m L (f+1) listed a:=by
 intro f
 induction f with
 | zero=>
   intro listed a inv _ hr hy H
   have hun:=(mem_ready.1 hr).1
   refine⟨fun h=>(by rw [h] at hr;cases hr),fun j hj=>?_⟩
   have hjm:j<m:=by
    rcases Nat.lt_or_ge j m with h | h
    ·exact h
    ·exact absurd hj (tail_waits hs hc hm inv _ i rfl him hun j h)
   refine⟨hjm,?_⟩
   by_cases hji:j=i
   ·subst hji;exact hy.qOpIn hi H
   ·have:=hdone _ _ H j (ready_mono hj hji)
    omega
 | succ f ih=>
   intro listed a inv hfree hr hy H
   have hun:=(mem_ready.1 hr).1
   refine⟨fun h=>(by rw [h] at hr;cases hr),fun j hj=>?_⟩
   have hjm:j<m:=by
    rcases Nat.lt_or_ge j m with h | h
    ·exact h
    ·exact absurd hj (tail_waits hs hc hm inv _ i rfl him hun j h)
   refine⟨hjm,?_⟩
   by_cases hji:j=i
   ·subst hji;exact hy.qOpIn hi H
   ·have h1:=(H.2 j (ready_mono hj hji)).2
    obtain⟨hjun,oj,hoj,hall⟩:=mem_ready.1 hj
    have hnot:∀ e∈oj.after,Region.binds md e=true→e.on≠i:=fun e he hb heq=>by
     have h1:=hall e he hb
     rw [heq,getD_both hun] at h1
     cases h1
    have h2:=qOpIn_put hoj (hfree j oj hoj hji hjun hnot) (fun cs b=>hsel i oi cs b hi) (fun cs b=>hsel j oj cs b hoj) hy h1
    have hfree':∀ k ok,ops[k]?=some ok→k≠i→(listed.setIfInBounds j true).getD k true=false →
      (∀ e∈ok.after,Region.binds md e=true→e.on≠i)→oi.apart ops ok=true:=fun k ok hk hki hun hno=>by
     refine hfree k ok hk hki ?_ hno
     by_cases hjk:j=k
     ·subst hjk;exact hjun
     ·rw [getD_set_ne true hjk] at hun;exact hun
    refine qOpIn_mono (fun a' h3=>ih (listed.setIfInBounds j true) a' (inv.set hj hjm) hfree' (ready_mono hr (Ne.symm hji)) h3.1 ?_) h2
    rw [Array.setIfInBounds_comm _ _ hji]
    exact h3.2
theorem any_of_list {Q:Exit→Act→World→Prop} : ∀ (l:List Oper) (k:Nat) (listed:Array Bool) (a:Act) (w:World),(∀ j,l[j]?=ops[k+j]?) →
  Region.seqB md ops l.length k listed=true→wpListIn F n P ops Q l a w→wpAnyIn F n P md ops Q l.length listed a w
 | [],_,_,_,_,_,hB,h=>⟨by simpa [Region.seqB] using hB,h⟩
 | o::l,k,listed,a,w,hl,hB,h=>by
   have h0:ops[k]?=some o:=by simpa using (hl 0).symm
   simp only [List.length_cons,Region.seqB,Bool.and_eq_true,decide_eq_true_eq] at hB
   refine⟨fun h1=>(by rw [hB.1] at h1;cases h1),fun i hi=>?_⟩
   rw [hB.1] at hi
   have hik:i=k:=by simpa using hi
   subst hik
   have hw:wpOpIn F n P ops Q i (wpListIn F n P ops Q l) a w:=by unfold wpOpIn;simp only [h0];exact h
   exact wpOpIn_mono (fun a' w' h'=>any_of_list l (i+1) _ a' w' (fun j=>by have:=hl (j+1);simpa [Nat.add_assoc,Nat.add_comm 1 j] using this) hB.2 h') hw
theorem head_lex {m g:Nat} {Lq:Act→Prop} (hsel:Region.noSelect ops=true) (hs:Region.sinkB md ops m=true) (hc:Region.chainB md ops m=true) (hm:m<ops.size) :
  ∀ (l:List Oper) (k:Nat) (listed:Array Bool) (a:Act),(∀ j,j<l.length→l[j]?=ops[k+j]?)→k+l.length=m→HeadInv md ops m listed →
  Region.lexHead md ops g l.length k listed=true→wpQuietIn F n P ops C Lq l a →
  headIn F n P md ops C m (fun listed' a'=>Region.seqB md ops g m listed'=true∧Lq a') l.length listed a
 | [],k,listed,a,_,hk,_,hB,h=>by
   have:k=m:=by simpa using hk
   subst this
   exact⟨by simpa [Region.lexHead] using hB,h⟩
 | o::l,k,listed,a,hl,hk,inv,hB,h=>by
   have h0:ops[k]?=some o:=by simpa using (hl 0 (by simp)).symm
   simp only [List.length_cons,Region.lexHead,Bool.and_eq_true] at hB
   obtain⟨⟨hr,hf⟩,hB'⟩:=hB
   have hkm:k<m:=by simp only [List.length_cons] at hk;omega
   have hr':k∈Region.ready md ops listed:=by simpa using hr
   have hst:qOpIn F n P ops C k (wpQuietIn F n P ops C Lq l) a:=by unfold qOpIn;simp only [h0];exact h
   obtain⟨v,hy,hK⟩:=yieldsQuiet_of_qOpIn h0 hst
   exact head_first h0 (Region.noSelect_spec hsel) hs hc hm hkm (fun listed' a' hL=>seqB_ready hL.1) l.length listed a inv (Region.free_spec h0 hf) hr' hy
    (head_lex hsel hs hc hm l (k+1) _ _ (fun j hj=>by have:=hl (j+1) (by simp;omega);simpa [Nat.add_assoc,Nat.add_comm 1 j] using this) (by simp only [List.length_cons] at hk;omega) (inv.set hr' hkm) hB' hK)
theorem wpIn_quiet_tail {id:Nat} {Q:Exit→Act→World→Prop} {a:Act} {w:World} {l:List Oper} (m:Nat) (hro:F.round=none) (hmx:P.follows .mixedOrders=true) (hB:Region.lexTailB .any l.toArray m=true)
  (h:wpQuietIn F n P l.toArray (fun w'=>∃ d,w'=w.drewN d) (fun a'=>∀ w',(∃ d,w'=w.drewN d)→wpListIn F n P l.toArray Q (l.drop m) a' w') (l.take m) a):(Code.region id l.toArray true).wpIn F n P Q a w:=by
 simp only [Region.lexTailB,Bool.and_eq_true,decide_eq_true_eq] at hB
 obtain⟨⟨⟨⟨hsel,hm⟩,hs⟩,hc⟩,hlex⟩:=hB
 have hm':m<l.length:=by simpa using hm
 have htl:(l.take m).length=m:=by simp;omega
 have hdl:(l.drop m).length=l.toArray.size-m:=by simp
 have inv0:HeadInv .any l.toArray m (Array.replicate l.toArray.size false):=
  ⟨by simp,fun j oj _ hl=>(by rw [getD_replicate_false] at hl;cases hl),fun t _ ht=>getD_in (by simpa using ht) (getD_replicate_false _ _)⟩
 have H:=head_lex (F:=F) (n:=n) (C:=fun w'=>∃ d,w'=w.drewN d) (md:=.any) (g:=l.toArray.size-m) hsel hs hc hm (l.take m) 0 _ a (fun j hj=>by
  have hj':j<m:=by rw [htl] at hj;exact hj
  simp [hj']) (by simpa using htl) inv0 (by rw [htl];exact hlex) h
 refine wpIn_region_any hmx ?_
 have:=any_of_head (Q:=Q) (g:=l.toArray.size-m) hro (fun listed a' w' hw' hL=>by
  have:=any_of_list (F:=F) (n:=n) (md:=.any) (Q:=Q) (l.drop m) m listed a' w' (fun j=>by simp [List.getElem?_drop]) (by rw [hdl];exact hL.1) (hL.2 w' hw')
  rwa [hdl] at this) _ _ _ { w with drawn:=w.drawn+1 } ⟨1,rfl⟩ H
 rw [htl,show m+(l.toArray.size-m)=l.toArray.size by omega] at this
 exact this
end
end
section
/- Contracts of layer 7: the iterator of the weights. -/
open Go.RowKit Go.Shelf
attribute [local go_sem] Oper.semAt_some
def wgt (k d:Nat):Nat:=plainN d k+moreN d (k / root k) (root k) k
def wgts (k j:Nat):List Nat:=(List.range j).map fun i=>wgt k (i+1)
theorem wgts_succ (k j:Nat):wgts k (j+1)=wgts k j++[wgt k (j+1)]:=by simp [wgts,List.range_succ]
theorem wgts_len (k j:Nat):(wgts k j).length=j:=by simp [wgts]
theorem abides_drewN {β:Type} {B:Nat} {J:β→World→Prop} (h:AbidesFrom B J) {s:β} {W:World} (hs:J s W) (d:Nat):J s (W.drewN d):=
 h s W (W.drewN d) none hs ⟨rfl,rfl,rfl,Nat.le_refl _,fun _ _ _=>rfl⟩ (fun r e=>by cases e)
theorem quietIn_w {F:Fence} {n:Nat} {P:Program} {f:FuncId} {args:Array Value} {w:World} {k:Nat} {v:Value}
  (h:CallsIn F n P f args (w.drewN k) fun e w'=>e=.returned v∧w.drewN k=w'):CallsIn F n P f args (w.drewN k) fun e w''=>e=.returned v∧∃ m,w''=w.drewN m:=
 h.mono fun _ _ ⟨he,hm⟩=>⟨he,k,hm.symm⟩
def Kp3 (B1 B2 B3:Nat) (W W':World):Prop:=∀ b,b=B1∨b=B2∨b=B3→W'.heap[b]?=W.heap[b]?
theorem Kp3.trans {B1 B2 B3:Nat} {A B C:World} (h:Kp3 B1 B2 B3 A B) (k:Kp3 B1 B2 B3 B C):Kp3 B1 B2 B3 A C:=fun b hb=>(k b hb).trans (h b hb)
theorem Kp3.refl (B1 B2 B3:Nat) (A:World):Kp3 B1 B2 B3 A A:=fun _ _=>rfl
def Rnd (B1 B2 B3:Nat) (J Jx:List Nat→World→Prop) (ys:List Nat) (W:World) (b:Bool) (W':World):Prop:=(b=true→J ys W'∧Kp3 B1 B2 B3 W W')∧(b=false→Jx ys W')
def RndE (B1 B2 B3:Nat) (J Jx:List Nat→World→Prop) (ys:List Nat) (W:World) (e:Ending) (W':World):Prop:=∃ b:Bool,e=.returned (.bool b)∧Rnd B1 B2 B3 J Jx ys W b W'
theorem rnd_of {B1 B2 B3:Nat} {J Jx:List Nat→World→Prop} {ys:List Nat} {W:World} (e:Ending) (W':World) (h:(e=.returned (.bool true)∧J ys W'∧Kp3 B1 B2 B3 W W')∨(e=.returned (.bool false)∧Jx ys W')):RndE B1 B2 B3 J Jx ys W e W':=by
 rcases h with ⟨rfl,h1,h2⟩ |⟨rfl,h1⟩
 ·exact⟨true,rfl,fun _=>⟨h1,h2⟩,(fun h=>by cases h)⟩
 ·exact⟨false,rfl,(fun h=>by cases h),fun _=>h1⟩
set_option maxRecDepth 100000 in
set_option maxHeartbeats 4000000 in
theorem weights1_in (F:Fence) (hF:F=Fence.wide) (n:Nat) (hn:1≤n) (l B1 B2 B3 k p t:Nat) (hk1:1≤k) (hk:k≤64) (ht1:1≤t) (ht:t≤64) (hp:p≤64)
  (hbd:∀ d,d≤k→plainN d k+moreN d p t k<18446744073709551616) (J Jx:List Nat→World→Prop) (m₀:Nat) (hJ:AbidesFrom m₀ J)
  (hY:∀ (pre:List Nat) (x:Nat) (W:World),J pre W→pre.length<k→YieldAt F (n-1) Tryz.prog l #[.int .u64 (x:Int)] W fun e W'=>
   (e=.returned (.bool true)∧J (pre++[x]) W'∧Kp3 B1 B2 B3 W W')∨(e=.returned (.bool false)∧Jx (pre++[x]) W'))
  (W:World) (h1:W.cell? ⟨B1,0,none⟩=some (.int .u64 k)) (h2:W.cell? ⟨B2,0,none⟩=some (.int .u64 p)) (h3:W.cell? ⟨B3,0,none⟩=some (.int .u64 t)) (h0:J [] W) :
  CallsIn F n Tryz.prog 208 #[.func (.yield l) #[] #[],.pointer (some ⟨B1,0,none⟩),.pointer (some ⟨B2,0,none⟩),.pointer (some ⟨B3,0,none⟩)] W fun e W'=>(∃ v,e=.returned v) ∧
   ((∃ ys,ys=(List.range k).map (fun i:Nat=>plainN (i+1) k+moreN (i+1) p t k)∧J ys W')∨(∃ pre,(∃ j,j≤k∧pre=(List.range j).map (fun i:Nat=>plainN (i+1) k+moreN (i+1) p t k))∧Jx pre W')):=by
 subst hF
 refine callsIn_of_wp Tryz.func208 rfl trivial ?_ rfl
 simp only [Tryz.ntmps208,List.size_toArray,List.length_cons,List.length_nil,Nat.reduceAdd,Nat.reduceSub,Array.replicate_succ,Array.replicate_zero,List.push_toArray,List.append_toArray,List.nil_append,List.cons_append]
 gi_wp2
 gi_loopw [5] (fun i wr=>∃ e:Nat,1≤e∧e≤k+1∧i=.int .u64 (e:Nat)∧J ((List.range (e-1)).map (fun i:Nat=>plainN (i+1) k+moreN (i+1) p t k)) wr∧Kp3 B1 B2 B3 W wr)
  (fun i _=>k+1-(intOf i).toNat)
 case atStart=>exact⟨1,Nat.le_refl _,by omega,rfl,h0,Kp3.refl _ _ _ _⟩
 case round=>
  obtain⟨e,he1,he,rfl,hJs,hnx⟩:=hrel
  have HNX:=hZ hnx
  have c1:=(World.cell?_of_block (a:=⟨B1,0,none⟩) (hnx B1 (.inl rfl))).trans h1
  have c2:=(World.cell?_of_block (a:=⟨B2,0,none⟩) (hnx B2 (.inr (.inl rfl)))).trans h2
  have c3:=(World.cell?_of_block (a:=⟨B3,0,none⟩) (hnx B3 (.inr (.inr rfl)))).trans h3
  by_cases hlt:e≤k
  ·have hsn:(List.range (e+1-1)).map (fun i:Nat=>plainN (i+1) k+moreN (i+1) p t k)=(List.range (e-1)).map (fun i:Nat=>plainN (i+1) k+moreN (i+1) p t k)++[plainN e k+moreN e p t k]:=by
    obtain⟨d,rfl⟩:∃ d,e=d+1:=⟨e-1,by omega⟩
    simp [List.range_succ]
   have hlen:((List.range (e-1)).map (fun i:Nat=>plainN (i+1) k+moreN (i+1) p t k)).length<k:=by simp;omega
   have HYe:=hZ (fun W hW=>hY _ (plainN e k+moreN e p t k) W hW hlen)
   have g:(e:Int)≤k:=by omega
   have hb:=hbd e hlt
   clear hnx hlen hY
   have HA:=hZ (plain_any e k (by omega) (by omega) hk1 hk)
   have HM:=hZ (more_any e p t k (by omega) (by omega) hk1 hk ht1 ht hp)
   have HSN:=hZ hsn
   have hmx:Tryz.prog.follows .mixedOrders=true:=by kernel_rfl
   clear hsn
   generalize plainN e k=a at *
   generalize moreN e p t k=b at *
   have hwr:IntKind.u64.wrap ((a:Int)+(b:Int))=(a:Int)+(b:Int):=IntWalk.u64_in _ (by omega)
   gi_wp2
   refine wpIn_quiet_tail 10 rfl (by kernel_rfl) (by kernel_rfl) ?_
   simp only [List.take_succ_cons,List.take_zero,List.drop_succ_cons,List.drop_zero]
   repeat
    refine wpQuietIn_step (fun _ _ _ _=>trivial) (fun K hK=>?_)
    go_simp
    first
     | (refine hK _ ?_;clear hK K)
     | (apply Exists.intro
        refine⟨fun _=>?_,hK _ ?_⟩
        (first | (gi_at_call 209;exact quietIn_w (callsIn_wide.2 (HA.out _))) | (gi_at_call 210;exact quietIn_w (callsIn_wide.2 (HM.out _))))
        clear hK K)
   refine wpQuietIn_nil ?_
   intro _ hw'
   obtain⟨nq,rfl⟩:=hw'
   obtain⟨fn,tmps,assign,body,hy,hR⟩:=HYe.out _ (abides_drewN hJ hJs nq)
   simp only [Int.natCast_add] at hy
   have hR':=hZ (hR.mono rnd_of)
   clear hR
   gi_wp2
   refine RoundIn.mono hR'.out ?_
   rintro e' W3 ⟨bv,rfl,hP⟩
   cases bv
   ·gi_wp2
    refine bodyPost_ret (results_none rfl _ _ _) rfl ?_
    exact⟨⟨_,rfl⟩,.inr ⟨_,⟨e,hlt,HSN.out.symm⟩,hP.2 rfl⟩⟩
   ·gi_wp2
    go_roundw
    case rel=>exact⟨e+1,by omega,by omega,by go_num,by rw [HSN.out];exact (hP.1 rfl).1,Kp3.trans (B:=wr.drewN nq) (fun b hb=>HNX.out b hb) (hP.1 rfl).2⟩
    case measure=>simp [intOf];omega
  ·obtain rfl:e=k+1:=by omega
   have g:¬ (((k+1:Nat):Int)≤k):=by omega
   gi_wp2
   go_end0
   first
    | exact⟨⟨_,rfl⟩,.inl hJs⟩
    | exact .inl hJs
    | exact⟨⟨_,rfl⟩,.inl ⟨_,rfl,hJs⟩⟩
end
section
/- Contracts of layer 7: blocksMayBe, weights, Weights. -/
open Go.RowKit Go.Shelf
attribute [local go_sem] Oper.semAt_some
def kmb (n:Int):Bool:=decide (1≤n)&&decide (n≤64)
theorem kmb_yes {n:Int} (h:1≤n∧n≤64):kmb n=true:=by simp [kmb,h]
theorem kmb_no {n:Int} (h:¬ (1≤n∧n≤64)):kmb n=false:=by
 rw [Bool.eq_false_iff];intro e;simp [kmb] at e;exact h e
theorem kmb_any (n:Int) (w:World):Calls Tryz.prog 198 #[.int .i64 n] w fun e w'=>e=.returned (.bool (kmb n))∧w=w':=by
 by_cases h:1≤n
 ·by_cases h2:n≤64
  ·rw [kmb_yes ⟨h,h2⟩]
   go_enter Tryz.func198,Tryz.ntmps198
   go_wp2
   go_ret
   exact⟨rfl,rfl⟩
  ·rw [kmb_no (fun x=>h2 x.2)]
   have t:decide (n≤64)=false:=by simpa using h2
   go_enter Tryz.func198,Tryz.ntmps198
   go_wp2
   go_ret
   exact⟨by simp,rfl⟩
 ·rw [kmb_no (fun x=>h x.1)]
  have t:decide (1≤n)=false:=by simpa using h
  go_enter Tryz.func198,Tryz.ntmps198
  go_wp2
  go_ret
  exact⟨by simp,rfl⟩
theorem root_small:∀ k:Fin 65,1≤k.val→1≤root k.val∧root k.val≤8:=by
 intro k h
 obtain⟨h1,h2,_,_⟩:=root_spec k.val (by omega)
 have hk:=k.isLt
 constructor
 ·rcases Nat.eq_zero_or_pos (root k.val) with e | e
  ·rw [e] at h2;omega
  ·exact e
 ·rcases Nat.lt_or_ge 8 (root k.val) with e | e
  ·have:=sq_le (show 9≤root k.val from e);omega
  ·exact e
def ItOut (k:Nat) (w:World) (e:Ending) (w':World):Prop:=
 ∃ B1 B2 B3,e=.returned (.func (.func 208) #[] #[.pointer (some ⟨B1,0,none⟩),.pointer (some ⟨B2,0,none⟩),.pointer (some ⟨B3,0,none⟩)])∧Box w' B1 22 #[.int .u64 k]∧Box w' B2 22 #[.int .u64 (k / root k:Nat)]∧Box w' B3 22 #[.int .u64 (root k:Nat)]∧(w.heap.size≤B1∧w.heap.size≤B2∧w.heap.size≤B3)∧Below w.heap.size w w'
theorem weights_any (k:Nat) (h1:1≤k) (h2:k≤64) (w:World):Calls Tryz.prog 199 #[.int .i64 k] w (ItOut k w):=by
 have hr:=root_small ⟨k,by omega⟩ h1
 simp only at hr
 have HR:=hZ (root_yes k (by omega) w)
 have HX:=hZ (show IntKind.u64.wrap ((k:Int) / (root k:Int))=((k / root k:Nat):Int) by
  have:(k:Int) / (root k:Int)=((k / root k:Nat):Int):=by simp
  rw [this];have h:=Nat.div_le_self k (root k);generalize k / root k=q at *;exact IntWalk.u64_in _ (by omega))
 unfold ItOut
 generalize root k=r at *
 obtain⟨g1,g2⟩:=hr
 go_enter Tryz.func199,Tryz.ntmps199
 go_wp2_with fail
 refine HR.out.mono ?_
 rintro e w1 ⟨rfl,hb⟩
 have HB:=hZ hb
 clear hb
 go_wp2
 go_ret
 rw [HX.out]
 have b1:=((Box.new w1 22 #[.int .u64 k]).alloc (.cells #[.int .u64 r] 22)).alloc (.cells #[.int .u64 (k / r:Nat)] 22)
 have b3:=(Box.new (w1.alloc (.cells #[.int .u64 k] 22)) 22 #[.int .u64 r]).alloc (.cells #[.int .u64 (k / r:Nat)] 22)
 have b2:=Box.new ((w1.alloc (.cells #[.int .u64 k] 22)).alloc (.cells #[.int .u64 r] 22)) 22 #[.int .u64 (k / r:Nat)]
 simp only [World.size_alloc] at b2 b3
 have hsz:=HB.out.size
 exact⟨_,_,_,rfl,b1,b2,b3,⟨by omega,by omega,by omega⟩,chain HB.out ((((Below.refl _ w1).alloc (Nat.le_refl _) _).alloc (by simp) _).alloc (by simp;omega) _)⟩
theorem wgt_small (k d:Nat) (hk:1≤k) (hk2:k≤64) (t p:Nat) (ht:t≤8):plainN d k+moreN d p t k≤300000000000:=by
 have h1:plainN d k≤4294967296:=by
  unfold plainN;split<;>exact Nat.div_le_self _ _
 have h2:moreN d p t k≤4294967296*64:=by
  unfold moreN
  have hb:Lib.bitLen t≤8:=bitLen_le t (by omega)
  split
  ·exact Nat.le_trans (Nat.div_le_self _ _) (Nat.mul_le_mul (Nat.le_refl _) (by omega))
  ·split
   ·refine Nat.le_trans (Nat.div_le_self _ _) ?_
    rw [Nat.mul_assoc]
    exact Nat.mul_le_mul (Nat.le_refl _) (Nat.mul_le_mul ht hb)
   ·omega
 omega
theorem weights_stops (n:Nat) (hn:1≤n) (B1 B2 B3 k:Nat) (hk1:1≤k) (hk:k≤64) (w:World) (b1:Box w B1 22 #[.int .u64 k]) (b2:Box w B2 22 #[.int .u64 (k / root k:Nat)]) (b3:Box w B3 22 #[.int .u64 (root k:Nat)]) :
  SeqStopsK Fence.wide n Tryz.prog 208 #[.pointer (some ⟨B1,0,none⟩),.pointer (some ⟨B2,0,none⟩),.pointer (some ⟨B3,0,none⟩)] (fun x:Nat=>#[Value.int .u64 (x:Int)]) (Kp3 B1 B2 B3) (fun ys=>ys=wgts k k) (fun _=>True) k w:=fun l J Jx W hW hJ _ hY h0=>by
 have hr:=root_small ⟨k,by omega⟩ hk1
 simp only at hr
 refine (weights1_in Fence.wide rfl n hn l B1 B2 B3 k (k / root k) (root k) hk1 hk hr.1 (by omega) (Nat.le_trans (Nat.div_le_self _ _) hk) (fun d hd=>by have:=wgt_small k d hk1 hk (root k) (k / root k) hr.2;omega) J Jx W.heap.size hJ hY W ((b1.keep hW).cell 0) ((b2.keep hW).cell 0) ((b3.keep hW).cell 0) h0).mono ?_
 rintro e W' ⟨he,⟨ys,rfl,hj⟩ |⟨pre,_,hj⟩⟩
 ·exact⟨he,.inl ⟨_,rfl,hj⟩⟩
 ·exact⟨he,.inr ⟨_,trivial,hj⟩⟩
theorem u64_infoW:(Tryz.prog.info? 22).map (fun i=>(i.zero,i.size,i.bytes))=some (some (.int .u64 0),1,8):=by kernel_rfl
def WordsOut (zs:List Nat) (w:World) (e:Ending) (w':World):Prop:=∃ v,e=.returned (.tuple #[v,.int .i64 0])∧w'.ownsRow w.heap.size 22 1 v zs.length (zs.map u64V)∧Below w.heap.size w w'
theorem keep3 {W w1:World} {B B1 B2 B3 n1:Nat} {v v':Value} {e k:Nat} {xs:List Value} {tmp:Obj} (hrow:W.ownsRow n1 e 1 v k xs) (hgrow:(W.alloc tmp).grownBy w1 v.ownBlock) (hs:n1≤W.heap.size)
  (h1:B1<n1) (h2:B2<n1) (h3:B3<n1) (q1:B1≠B) (q2:B2≠B) (q3:B3≠B):Kp3 B1 B2 B3 W (w1.setCell ⟨B,0,none⟩ v'):=by
 intro b hb
 have hbn:b<n1∧b≠B:=by rcases hb with rfl | rfl | rfl<;>exact⟨‹_›,‹_›⟩
 have hne:some b≠v.ownBlock:=fun e=>by have:=(hrow.lt b e.symm).1;omega
 rw [heap_setCell_other w1 ⟨B,0,none⟩ b v' hbn.2,hgrow.block b (by simp;omega) hne,Below.heap_alloc W tmp b (by omega)]
theorem kp3_put {B1 B2 B3:Nat} {w:World} (h1:B1<w.heap.size) (h2:B2<w.heap.size) (h3:B3<w.heap.size) (W:World) (l:Nat) (o o':Obj) (hl:w.heap.size≤l) (_:W.heap[l]?=some o) (_:o.isCells=false) (_:o.isWalk=false):Kp3 B1 B2 B3 W (W.putObj l o'):=by
 intro b hb
 exact World.putObj_heap_other (by rcases hb with rfl | rfl | rfl<;>omega)
theorem box_ne {W:World} {a b:Nat} {t u:TypeId} {x y:Array Value} (h:Box W a t x) (k:Box W b u y) (hne:t≠u):a≠b:=by
 intro e
 subst e
 unfold Box at h k
 rw [h] at k
 injection k with k
 injection k with _ ht
 exact hne ht
def sumN (xs:List Nat):Nat:=xs.foldl (fun s x=>(s+x)%18446744073709551616) 0
theorem sumN_snoc (xs:List Nat) (x:Nat):sumN (xs++[x])=(sumN xs+x)%18446744073709551616:=by simp [sumN]
def tbl (xs:List Nat):List Nat:=(List.range xs.length).map fun i=>sumN (xs.take (i+1))
theorem tbl_snoc (xs:List Nat) (x:Nat):tbl (xs++[x])=tbl xs++[sumN (xs++[x])]:=by
 unfold tbl
 rw [List.length_append,List.length_singleton,List.range_succ,List.map_append]
 congr 1
 ·apply List.map_congr_left
  intro i hi
  have:i<xs.length:=by simpa using hi
  rw [List.take_append_of_le_length (by omega)]
 ·simp [List.take_of_length_le]
theorem wrap_nat (s x:Nat):IntKind.u64.wrap ((s:Int)+(x:Int))=(((s+x)%18446744073709551616:Nat):Int):=by
 rw [IntKind.wrap_u64];omega
theorem tbl_len (xs:List Nat):(tbl xs).length=xs.length:=by simp [tbl]
set_option maxRecDepth 100000 in
set_option maxHeartbeats 4000000 in
theorem tableN_in (k:Nat) (hk1:1≤k) (hk:k≤64) (w:World):CallsIn Fence.wide 5 Tryz.prog 180 #[.int .i64 k] w (WordsOut (tbl (wgts k k)) w):=by
 obtain⟨i0,hi,hz0,hz1,hz2⟩:=info_parts u64_infoW
 have H:=hZ (kmb_any k w)
 rw [kmb_yes (n:=(k:Int)) (by omega)] at H
 have HWt:=hZ (weights_any k hk1 hk ((w.alloc (.cells #[.slice none 0 0] 137)).alloc (.cells #[.int .u64 0] 22)))
 refine callsIn_of_wp_marks Tryz.func180 rfl trivial ?_ rfl
 simp only [Tryz.ntmps180,List.size_toArray,List.length_cons,List.length_nil,Nat.reduceAdd,Nat.reduceSub,Array.replicate_succ,Array.replicate_zero,List.push_toArray,List.append_toArray,List.nil_append,List.cons_append]
 gi_wp2_with (refine⟨trivial,?_⟩;first | (gi_at_call 198;refine (callsIn_wide.2 H.out).mono ?_;rintro e w' ⟨rfl,rfl⟩) | (gi_at_call 199;refine (callsIn_wide.2 HWt.out).mono ?_;rintro e w1 ⟨B1,B2,B3,rfl,b1,b2,b3,hge,hb⟩))
 have bO:Boxed w1 w.heap.size 137 (.slice none 0 0):=((Box.new w 137 #[.slice none 0 0]).alloc (.cells #[.int .u64 0] 22)).keep hb
 have bS:Boxed w1 (w.heap.size+1) 22 (.int .u64 0):=by
  have:=(Box.new (w.alloc (.cells #[.slice none 0 0] 137)) 22 #[.int .u64 0]).keep hb
  rwa [World.size_alloc] at this
 have hB0:Below w.heap.size w w1:=chain (((Below.refl w.heap.size w).alloc (Nat.le_refl _) (.cells #[.slice none 0 0] 137)).alloc (by simp) (.cells #[.int .u64 0] 22)) hb
 simp only [World.size_alloc] at hge
 obtain⟨p1,p2,p3⟩:=hge
 have l1:=b1.lt
 have l2:=b2.lt
 have l3:=b3.lt
 have lO:=bO.lt
 have lS:=bS.lt
 clear hb
 refine wpIn_rangeFunc_ownG rfl (by omega) (gf:=208) (lb:=#[.pointer (some ⟨B1,0,none⟩),.pointer (some ⟨B2,0,none⟩),.pointer (some ⟨B3,0,none⟩)]) rfl trivial (enters_of Tryz.func208 (by kernel_rfl) rfl)
  (weights_stops (5-1) (by omega) B1 B2 B3 k hk1 hk w1 b1 b2 b3) Kp3.trans (kp3_put l1 l2 l3) (Below.refl _ _) (fun _=>rfl)
  (fun pre W=>(∃ v,Boxed W w.heap.size 137 v∧W.ownsRow w1.heap.size 22 1 v (tbl pre).length ((tbl pre).map u64V)∧True)∧(Boxed W (w.heap.size+1) 22 (.int .u64 (sumN pre:Nat)))∧Below w.heap.size w W∧w1.heap.size≤W.heap.size)
  (fun _ _ _=>False)
  (OwnFrom.and (Own.from (holdsRow_own w1.heap.size w.heap.size 137 22 1 (fun pre:List Nat=>(tbl pre).length) (fun pre:List Nat=>(tbl pre).map u64V) (fun _ _=>True)) _) (OwnFrom.and (Own.from (boxed_own (w.heap.size+1) 22 (fun pre:List Nat=>.int .u64 (sumN pre:Nat))) _) (OwnFrom.and (ownFrom_below (Nat.le_refl _) (by omega)) (fun _ _ _ _ hs hg _=>Nat.le_trans hs hg.size))))
  (fun _ _ _ _ _ hs _ _=>hs)
  ⟨⟨_,bO,World.ownsRow_nil _ _ _ _,trivial⟩,bS,hB0,Nat.le_refl _⟩
  (fun x=>{ tmps:=#[.int .i64 k,undef,.slice none 0 0,.int .i64 0,.pointer (some ⟨w.heap.size,0,none⟩),.pointer (some ⟨w.heap.size+1,0,none⟩),.int .u64 (x:Int),.int .i64 k,.bool true,.bool false,.int .i64 k,.func (.func 208) #[] #[.pointer (some ⟨B1,0,none⟩),.pointer (some ⟨B2,0,none⟩),.pointer (some ⟨B3,0,none⟩)],.int .u64 (x:Int),undef,undef,undef,undef,undef,undef,undef,undef],defers:=[] }) ?assign ?body ?done ?stop
 case assign=>
  intro l x W K hK
  gi_wp2
  exact hK
 case body=>
  rintro l pre x W ⟨⟨v,hv,hrow,_⟩,hS,hB,hsz⟩ hlt
  have hq:some (w.heap.size+1)≠v.ownBlock:=fun e=>by have:=(hrow.lt _ e.symm).1;omega
  have HN:=hZ (sumN_snoc pre x)
  have HT:=hZ (tbl_snoc pre x)
  have HTL:=hZ (tbl_len pre)
  have hwn:=wrap_nat (sumN pre) x
  rw [← HN.out] at hwn
  generalize hs':sumN (pre++[x])=s' at *
  have HE:=hZ hs'
  clear hs'
  generalize sumN pre=s0 at *
  have hv':=hv.other (B':=w.heap.size+1) (by omega) (.int .u64 (s':Int))
  have hS':Boxed (W.setCell ⟨w.heap.size+1,0,none⟩ (.int .u64 (s':Int))) (w.heap.size+1) 22 (.int .u64 (s':Int)):=hS.set _
  have hrow':=hrow.kept (grownBy_setCell' W (w.heap.size+1) (.int .u64 (s':Int))) (.inr hq.symm)
  have hB':=hB.setCell (p:=⟨w.heap.size+1,0,none⟩) (by simp) (.int .u64 (s':Int))
  have hko:KeepsOthers W (W.setCell ⟨w.heap.size+1,0,none⟩ (.int .u64 (s':Int))):=KeepsOthers.setCell _ _ _
  have hk1:Kp3 B1 B2 B3 W (W.setCell ⟨w.heap.size+1,0,none⟩ (.int .u64 (s':Int))):=fun b hb=>heap_setCell_other _ _ _ _ (by rcases hb with rfl | rfl | rfl<;>(show _≠w.heap.size+1;omega))
  have hsz':w1.heap.size≤(W.setCell ⟨w.heap.size+1,0,none⟩ (.int .u64 (s':Int))).heap.size:=Nat.le_trans hsz hko.size
  have e1:=hS.cell
  have e2:=hS.frozen
  have e3:=hv'.cell
  have e4:=hS'.cell
  have HKO:=hZ hko
  have HK1:=hZ hk1
  have HTL2:=hZ (show (tbl pre).length=pre.length from HTL.out)
  clear hk1 hko
  rw [HTL.out] at hrow'
  generalize hW':W.setCell ⟨w.heap.size+1,0,none⟩ (.int .u64 (s':Int))=W' at *
  have HW':=hZ hW'
  gi_wp2_with (gi_at_builtin;refine wpListIn_append_own _ rfl _ _ 137 rfl w1.heap.size 22 i0 (.int .u64 0) 1 8 Tryz.underlying137 hi hz0 hz1 hz2 rfl (by decide) _ _ _ rfl (hrow'.alloc _) ⟨W'.heap.size,0,none⟩ 1 1 [.int .u64 (s':Int)] rfl rfl (cell_one_new _ _ _) (by simp [Value.oneCell']) (by simp [maxLen];omega) (by omega) (by simp;omega) ?_;intro v' w2 hown' hgrow _;obtain⟨g',cap',rfl⟩:=ownsRow_succ hown';obtain⟨hv1,hv2,hr2,hk2,hb2⟩:=hv'.appended (by decide) (own_low hrow' (by omega)) hB'.size (Nat.le_refl _) (own_low hown' (by omega)) hgrow;have hr3:=hown'.kept (grownBy_setCell' w2 w.heap.size (.slice (some ⟨g',0,none⟩) (pre.length+1) cap')) (.inr (hv1.not_row (by decide) hown').symm);have hkp:=keep3 (B:=w.heap.size) (v':=.slice (some ⟨g',0,none⟩) (pre.length+1) cap') hrow' hgrow hsz' l1 l2 l3 (by omega) (by omega) (by omega);have hc1:=hv1.cell;have hf1:=hv1.frozen)
  have hS3:=((hS'.alloc _).kept hgrow hq).other (B':=w.heap.size) (by omega) (.slice (some ⟨g',0,none⟩) (pre.length+1) cap')
  refine⟨(HKO.out.trans hk2).from _,HK1.out.trans hkp,⟨_,hv2,?_,trivial⟩,?_,hB'.trans hb2,Nat.le_trans hsz' hk2.size⟩
  ·rw [HT.out,List.length_append,HTL.out,List.map_append]
   exact hr3
  ·rw [HE.out];exact hS3
 case done=>
  rintro D ys W hD rfl ⟨⟨v,hv,hrow,_⟩,hS,hB,hsz⟩ hK
  have hc:=hv.cell
  gi_wp2
  refine⟨by simp,.inl ⟨_,_,rfl,run_takeDeferred hK,?_⟩⟩
  exact⟨_,results_tmp2 rfl _ _ _,v,rfl,own_low (ownsRow_putObj hrow _ hK rfl) (by omega),hB.trans (belowK_b (w:=w) (Nat.le_refl _) W D _ _ (by omega) hK rfl rfl)⟩
 case stop=>
  rintro D c pre W _ _ h _
  exact h.elim
theorem tableN_any (k:Nat) (hk1:1≤k) (hk:k≤64) (w:World):Calls Tryz.prog 180 #[.int .i64 k] w (WordsOut (tbl (wgts k k)) w):=callsIn_wide.1 (tableN_in k hk1 hk w)
end
section
/- Contracts of layer 7: tableMayBe, Pick, the law's alive. -/
open Go.RowKit
def lastOf (ws:List Nat) (k:Nat):Nat:=if k=0 then 0 else ws.getD (k-1) 0
theorem lastOf_succ (ws:List Nat) (k:Nat):lastOf ws (k+1)=ws.getD k 0:=by simp [lastOf]
theorem rises_no (ws:List Nat) (k:Nat) (hk:k<ws.length) (h:ws.getD k 0≤lastOf ws k):risesFrom 0 ws=false:=by
 refine rises_stop ws (k+1) (by omega) ?_
 rw [rises_take ws 0 k hk]
 have:¬ ((if k=0 then 0 else ws.getD (k-1) 0)<ws.getD k 0):=by unfold lastOf at h;omega
 simp only [this,decide_false,Bool.and_false]
theorem rises_go (ws:List Nat) (k:Nat) (hk:k<ws.length) (h:¬ ws.getD k 0≤lastOf ws k) (ht:risesFrom 0 (ws.take k)=true):risesFrom 0 (ws.take (k+1))=true:=by
 rw [rises_take ws 0 k hk,ht]
 have:((if k=0 then 0 else ws.getD (k-1) 0)<ws.getD k 0):=by unfold lastOf at h;omega
 simp only [this,decide_true,Bool.and_self]
set_option maxHeartbeats 1000000 in
theorem table_any (A:Option Addr) (l c:Nat) (ws:List Nat) (w:World) (hw:Words w A l ws) (hl:l≤maxLen) :
  Calls Tryz.prog 200 #[.slice A l c] w fun e w'=>e=.returned (.bool (tabB ws))∧w=w':=by
 unfold maxLen at hl
 have hlen:=hw.1
 by_cases h0:l=0
 ·have e:tabB ws=false:=by simp [tabB,hlen,h0]
  rw [e];subst h0
  clear e hlen hw
  go_enter Tryz.func200,Tryz.ntmps200
  go_wp2
  go_ret
  exact⟨rfl,rfl⟩
 ·by_cases h64:64<l
  ·have e:tabB ws=false:=by simp [tabB,hlen];omega
   rw [e]
   clear e hlen hw
   have t1:((l:Int)==0)=false:=by simpa using h0
   have t2:(64:Int)<l:=by omega
   go_enter Tryz.func200,Tryz.ntmps200
   go_wp2
   go_ret
   exact⟨rfl,rfl⟩
  ·have e:tabB ws=risesFrom 0 ws:=by simp [tabB,hlen,show 1≤l by omega,show l≤64 by omega]
   rw [e]
   clear e
   have t1:((l:Int)==0)=false:=by simpa using h0
   have t2:¬ (64:Int)<l:=by omega
   have HL:=hZ hlen
   have HW:=hZ hw
   clear hlen hw
   go_enter Tryz.func200,Tryz.ntmps200
   go_wp2_with fail
   go_loop [3,16] (fun v i=>∃ k:Nat,k≤l∧i=.int .i64 k∧v=.int .u64 (lastOf ws k:Nat)∧Hid (risesFrom 0 (ws.take k)=true)) (fun _ i=>l-(intOf i).toNat)
   case atStart=>exact⟨0,by omega,rfl,rfl,hZ (by simp [risesFrom])⟩
   case round=>
    obtain⟨k,hk,rfl,rfl,HN⟩:=hrel
    by_cases hlt:k<l
    ·have hkl':(k:Int)<(l:Int):=by omega
     obtain⟨b,off,rfl,hb,hc⟩:=HW.out.2.2 (by omega)
     have c1:=hc k hlt
     clear hc
     have HS:=hZ (lastOf_succ ws k)
     by_cases hx:ws.getD k 0≤lastOf ws k
     ·have HE:=hZ (rises_no ws k (by rw [HL.out];exact hlt) hx)
      generalize ws.getD k 0=x at *
      generalize lastOf ws k=y at *
      have t:(x:Int)≤(y:Int):=by omega
      go_wp2
      go_ret
      exact⟨by rw [HE.out];rfl,rfl⟩
     ·have HE:=hZ (rises_go ws k (by rw [HL.out];exact hlt) hx HN.out)
      generalize ws.getD k 0=x at *
      generalize lastOf ws k=y at *
      have t:¬ (x:Int)≤(y:Int):=by omega
      go_wp2
      go_round
      case rel=>exact⟨k+1,by omega,by go_num,by rw [HS.out],HE⟩
      case measure=>simp [intOf]<;>omega
    ·obtain rfl:l=k:=by omega
     have hkl':¬ (l:Int)<(l:Int):=by omega
     have HE:=hZ (show risesFrom 0 ws=true by have:=HN.out;rwa [List.take_of_length_le (by rw [HL.out];omega)] at this)
     go_wp2
     go_ret
     exact⟨by rw [HE.out];rfl,rfl⟩
def pickD (ws:List Nat) (n:Nat):Nat:=pickN ws (n%ws.getD (ws.length-1) 0)+1
theorem tab_at {ws:List Nat} (h:tabB ws=true):1≤ws.length∧ws.length≤64∧risesFrom 0 ws=true:=by
 simp only [tabB,Bool.and_eq_true,decide_eq_true_eq] at h
 exact⟨h.1.1,h.1.2,h.2⟩
theorem pickF_any (bt bn b off l c n i:Nat) (x:Nat) (W:World) (hi:i<l) (hl:l≤64) (hlc:l≤c) (ht:W.cell? ⟨bt,0,none⟩=some (.slice (some ⟨b,off,none⟩) l c)) (hn:W.cell? ⟨bn,0,none⟩=some (.int .u64 n)) (hc:W.cell? ⟨b,off+i,none⟩=some (.int .u64 x)) :
  Calls Tryz.prog 202 (#[.int .i64 i]++#[.pointer (some ⟨bt,0,none⟩),.pointer (some ⟨bn,0,none⟩)]) W fun e w'=>e=.returned (.bool (decide (n<x)))∧∃ q,w'=W.drewN q:=by
 have e:decide (n<x)=decide ((n:Int)<(x:Int)):=decide_eq_decide.2 (by omega)
 have hiz:(i:Int)<(l:Int):=by omega
 rw [e]
 go_enter Tryz.func202,Tryz.ntmps202
 go_wp2
 go_region
 all_goals go_wp2
 all_goals go_ret
 all_goals exact⟨by first | rfl | simp,1,rfl⟩
theorem pickS_any (g1 g2 b off l c r:Nat) (ws:List Nat) (W:World) (t1 t2:TypeId) (bt:Box W g1 t1 #[.slice (some ⟨b,off,none⟩) l c]) (bn:Box W g2 t2 #[.int .u64 (r:Int)]) (hb:b<W.heap.size)
  (hc:∀ j,j<l→W.cell? ⟨b,off+j,none⟩=some (.int .u64 (ws.getD j 0:Nat))) (hl:ws.length=l) (h64:l≤64) (hlc:l≤c) (hm:∀ a b,a≤b→b<ws.length→ws.getD a 0≤ws.getD b 0) :
  Calls Tryz.prog 201 #[.int .i64 l,.func (.func 202) #[] #[.pointer (some ⟨g1,0,none⟩),.pointer (some ⟨g2,0,none⟩)]] W fun e w'=>e=.returned (.int .i64 (pickN ws r:Nat))∧Below W.heap.size W w':=by
 have eg:∀ args w,(callFunc 202 args).run Tryz.prog w=.ok (.enter 202 args) w:=enters_of Tryz.func202 (by kernel_rfl) rfl
 have hf:Asks Tryz.prog 202 #[.pointer (some ⟨g1,0,none⟩),.pointer (some ⟨g2,0,none⟩)] l (fun i=>decide (r<ws.getD i 0)) W:=fun W' i hi hb2=>
  (pickF_any g1 g2 b off l c r i (ws.getD i 0) W' hi h64 hlc ((bt.keep hb2).cell 0) ((bn.keep hb2).cell 0) ((hb2.cell (p:=⟨b,off+i,none⟩) hb).trans (hc i hi))).mono fun _ _ ⟨he,q,hq⟩=>⟨he,by rw [hq];exact bdN hb2 q⟩
 have hS:=search_any 202 _ l _ W eg (by omega) hf (fun a b hab hbl h=>by
  have:=hm a b hab (by omega)
  have h':r<ws.getD a 0:=of_decide_eq_true h
  exact decide_eq_true (by omega))
 have e:(List.range l).countP (fun i=>!decide (r<ws.getD i 0))=pickN ws r:=by rw [pickN,hl]
 rw [e] at hS
 exact hS
theorem pickN_le (ws:List Nat) (n:Nat):pickN ws n≤ws.length:=by
 have:=List.countP_le_length (p:=fun i=>!decide (n<ws.getD i 0)) (l:=List.range ws.length)
 simpa [pickN] using this
theorem last_pos {ws:List Nat} (h:tabB ws=true):0<ws.getD (ws.length-1) 0:=by
 obtain⟨h1,_,h3⟩:=tab_at h
 exact (rises_at ws 0 (ws.length-1) h3 (by omega)).1
set_option maxHeartbeats 1000000 in
theorem pick_yes (A:Option Addr) (l c:Nat) (ws:List Nat) (n:Nat) (w:World) (hw:Words w A l ws) (hl:l≤maxLen) (hlc:l≤c) (hn:n<18446744073709551616) (ht:tabB ws=true) :
  Calls Tryz.prog 181 #[.slice A l c,.int .u64 n] w fun e w'=>e=.returned (.tuple #[.int .i64 (pickD ws n:Nat),.int .i64 0])∧Below w.heap.size w w':=by
 obtain⟨h1,h64,hr⟩:=tab_at ht
 have hp:=last_pos ht
 have H:=hZ (table_any A l c ws _ ((hw.alloc (.cells #[.slice A l c] 137)).alloc (.cells #[.int .u64 n] 22)) hl)
 rw [ht] at H
 have hlen:=hw.1
 rw [hlen] at h1 h64 hp
 have hlt:=hw.2.1 (l-1)
 obtain⟨b,off,rfl,hb,hc⟩:=hw.2.2 h1
 have c1:((w.alloc (.cells #[.slice (some ⟨b,off,none⟩) l c] 137)).alloc (.cells #[.int .u64 n] 22)).cell? ⟨b,off+(l-1),none⟩=some (.int .u64 (ws.getD (l-1) 0:Nat)):=
  ((((Below.refl w.heap.size w).alloc (Nat.le_refl _) _).alloc (by simp) _).cell (p:=⟨b,off+(l-1),none⟩) hb).trans (hc (l-1) (by omega))
 have B1:Below w.heap.size w ((w.alloc (.cells #[.slice (some ⟨b,off,none⟩) l c] 137)).alloc (.cells #[.int .u64 n] 22)):=((Below.refl w.heap.size w).alloc (Nat.le_refl _) _).alloc (by simp) _
 have bt:=(Box.new w 137 #[.slice (some ⟨b,off,none⟩) l c]).alloc (.cells #[.int .u64 n] 22)
 have bn:=Box.new (w.alloc (.cells #[.slice (some ⟨b,off,none⟩) l c] 137)) 22 #[.int .u64 n]
 simp only [World.size_alloc] at bn
 have HM:=hZ (rises_mono ws hr)
 have HC:=hZ hc
 have HB:=hZ hb
 have HL:=hZ hlen
 clear hw hc hb hlen ht hr
 go_enter Tryz.func181,Tryz.ntmps181
 go_wp2_with fail
 refine H.out.mono ?_
 rintro e w1 ⟨rfl,rfl⟩
 clear H
 go_wp2_with fail
 generalize (w.alloc (.cells #[.slice (some ⟨b,off,none⟩) l c] 137)).alloc (.cells #[.int .u64 n] 22)=W1 at *
 have k1:=bt.cell 0
 have k2:=bn.cell 0
 have k3:=bn.free 0
 have g1:(1:Int)≤l:=by omega
 have g2:(l:Int)≤64:=by omega
 have g3:((l:Int)-1).toNat=l-1:=by omega
 have HX:=hZ (show ws.getD (l-1) 0=ws.getD (ws.length-1) 0 by rw [HL.out])
 have HT:=hZ bt
 have HN:=hZ bn
 have BB:=hZ B1
 clear bt bn B1
 generalize ws.getD (l-1) 0=x at *
 have g4:(0:Int)<x:=by omega
 have g5:(x:Int)≠0:=by omega
 have P2:=HN.out.put 0 (.int .u64 ((n:Int)%(x:Int)))
 have P1:=HT.out.far (p:=⟨w.heap.size+1,0,none⟩) (by simp) (.int .u64 ((n:Int)%(x:Int)))
 have PB:=BB.out.setCell (p:=⟨w.heap.size+1,0,none⟩) (by simp) (.int .u64 ((n:Int)%(x:Int)))
 have HS:=hZ (pickS_any w.heap.size (w.heap.size+1) b off l c (n%x) ws _ _ _ P1.drew (by have:=P2.drew;rw [← Int.natCast_emod] at this;exact this) (Nat.lt_of_lt_of_le HB.out PB.size)
  (fun j hj=>(PB.cell (p:=⟨b,off+j,none⟩) HB.out).trans (HC.out j hj)) HL.out h64 hlc HM.out)
 have HPB:=hZ PB
 have HPD:=hZ (show pickD ws n=pickN ws (n%x)+1 by rw [pickD,← HX.out])
 have hle:=pickN_le ws (n%x)
 rw [HL.out] at hle
 generalize pickN ws (n%x)=r at *
 clear P1 P2 PB
 go_region
 go_wp2_with fail
 refine HS.out.mono ?_
 rintro e w1 ⟨rfl,hbel⟩
 have B2:=hZ (HPB.out.drew.trans (hbel.mono HPB.out.size))
 clear hbel HS HPB
 go_wp2_with fail
 go_ret2
 exact⟨by rw [HPD.out];rfl,B2.out⟩
end
section
/- Plain mathematics of DegreeSums. -/
open Go.RowKit
def rootS (k:Nat):Nat:=if k<1 then 0 else if k<4 then 1 else if k<9 then 2 else if k<16 then 3 else if k<25 then 4 else if k<36 then 5 else if k<49 then 6 else if k<64 then 7 else 8
theorem root_rootS (k:Nat) (hk:k≤64):root k=rootS k:=by
 unfold rootS
 repeat' split
 all_goals exact (root_of k _ (by omega) (by omega) (by omega)).1
def wgtS (k d:Nat):Nat:=plainN d k+moreN d (k / rootS k) (rootS k) k
theorem wgts_S (k:Nat) (hk:k≤64):wgts k k=(List.range k).map fun i=>wgtS k (i+1):=by
 unfold wgts wgt wgtS
 rw [root_rootS k hk]
theorem tab_all:∀ k:Fin 65,1≤k.val→tabB (tbl ((List.range k.val).map fun i=>wgtS k.val (i+1)))=true:=by decide +kernel
theorem tab_k (k:Nat) (h1:1≤k) (h2:k≤64):tabB (tbl (wgts k k))=true:=by
 rw [wgts_S k h2];exact tab_all ⟨k,by omega⟩ h1
theorem pick_range {ts:List Nat} (h:tabB ts=true) (n:Nat):1≤pickD ts n∧pickD ts n≤ts.length:=by
 obtain⟨h1,_,hr⟩:=tab_at h
 have hp:=last_pos h
 have hm:=Nat.mod_lt n hp
 unfold pickD
 refine⟨by omega,?_⟩
 have:pickN ts (n%ts.getD (ts.length-1) 0)<ts.length:=by
  unfold pickN
  have hc:=List.countP_le_length (p:=fun i=>!decide (n%ts.getD (ts.length-1) 0<ts.getD i 0)) (l:=List.range ts.length)
  rcases Nat.lt_or_ge ((List.range ts.length).countP (fun i=>!decide (n%ts.getD (ts.length-1) 0<ts.getD i 0))) ts.length with h | h
  ·exact h
  ·exfalso
   have e:(List.range ts.length).countP (fun i=>!decide (n%ts.getD (ts.length-1) 0<ts.getD i 0))=(List.range ts.length).length:=Nat.le_antisymm hc (by rw [List.length_range];exact h)
   have:=List.countP_eq_length.1 e (ts.length-1) (by simp;omega)
   simp at this
   have hm':n%ts.getD (ts.length-1) 0<ts.getD (ts.length-1) 0:=hm
   simp [List.getD] at hm'
   omega
 omega
theorem tbl_at (xs:List Nat) (i:Nat) (hi:i<xs.length):(tbl xs).getD i 0=sumN (xs.take (i+1)):=by simp [tbl,List.getD,hi]
theorem sumN_take (xs:List Nat) (i:Nat) (hi:i<xs.length):sumN (xs.take (i+1))=(sumN (xs.take i)+xs.getD i 0)%18446744073709551616:=by
 rw [List.take_succ_eq_append_getElem hi,sumN_snoc]
 simp [List.getD,hi]
theorem sumN_lt (xs:List Nat):sumN xs<18446744073709551616:=by
 rcases List.eq_nil_or_concat xs with rfl |⟨l,x,rfl⟩
 ·simp [sumN]
 ·rw [List.concat_eq_append,sumN_snoc];exact Nat.mod_lt _ (by omega)
theorem own_slice {w:World} {base e n:Nat} {v:Value} {zs:List Nat} (h:w.ownsRow base e 1 v n (zs.map u64V)) (hz:∀ j,zs.getD j 0<18446744073709551616):∃ A c,v=.slice A n c∧n≤c∧c≤maxLen∧Words w A n zs:=by
 rcases h.2 with ⟨rfl,h0⟩ |⟨g,cap,cur,rfl,hb,hh,hn,hm,hs,hx⟩
 ·have hl:zs.length=n:=by have:=h.1;simpa using this
  subst h0
  obtain rfl:zs=[]:=List.length_eq_zero_iff.1 hl
  exact⟨none,0,rfl,Nat.le_refl _,Nat.zero_le _,Words.nil _ _⟩
 ·exact⟨_,_,rfl,hn,hm,own_words h hz⟩
theorem tbl_lt (xs:List Nat) (j:Nat):(tbl xs).getD j 0<18446744073709551616:=by
 by_cases h:j<xs.length
 ·rw [tbl_at xs j h];exact sumN_lt _
 ·have:(tbl xs)[j]?=none:=List.getElem?_eq_none (by rw [tbl_len];omega)
  simp [List.getD,this]
theorem wgts_lt (k:Nat) (h1:1≤k) (h2:k≤64) (j:Nat):(wgts k k).getD j 0<18446744073709551616:=by
 by_cases h:j<k
 ·have hr:=(root_small ⟨k,by omega⟩ h1).2
  have:=wgt_small k (j+1) h1 h2 (root k) (k / root k) hr
  have e:(wgts k k).getD j 0=wgt k (j+1):=by simp [wgts,List.getD,h]
  rw [e,wgt];omega
 ·have:(wgts k k)[j]?=none:=List.getElem?_eq_none (by rw [wgts_len];omega)
  simp [List.getD,this]
end
section
/- Contracts of bitrow.joined, Xor, And. -/
open Go.RowKit
theorem rightB_len8 {n:Int} {us:List Nat} (h:rightB n us=true) {l:Nat} (e:us.length=l):l≤8:=by
 simp only [rightB,Bool.and_eq_true,beq_iff_eq] at h
 have hn:=(lmb_iff n).1 h.1.1
 have:=h.1.2
 unfold nw at this
 omega
theorem rightB_len {n:Int} {us vs:List Nat} (h:rightB n us=true) (h2:rightB n vs=true) {l k:Nat} (e:us.length=l) (e2:vs.length=k):k=l:=by
 simp only [rightB,Bool.and_eq_true,beq_iff_eq] at h h2
 have:=h.1.2
 have:=h2.1.2
 omega
theorem uint64_info:(Tryz.prog.info? 22).map (fun i=>(i.zero,i.size,i.bytes))=some (some (.int .u64 0),1,8):=by kernel_rfl
theorem make_any (n:Nat) (hn:n≤1000000) (w:World) :
  (Instr.makeSlice 137 (.int .i64 (n:Int)) (.int .i64 (n:Int))).run Tryz.prog w=.ok (.slice (some ⟨w.heap.size,0,none⟩) n n) (w.alloc (.cells (numsA (List.replicate n 0)) 22)):=by
 obtain⟨i0,hi,hz0,hz1,hz2⟩:=info_parts uint64_info
 exact make_words _ _ i0 Tryz.underlying137 hi hz0 hz1 hz2 n hn w
def part (g:Nat→Nat→Nat) (us vs:List Nat) (k:Nat):List Nat:=(List.zipWith g us vs).take k++List.replicate (us.length-k) 0
theorem part_zero (g:Nat→Nat→Nat) (us vs:List Nat):part g us vs 0=List.replicate us.length 0:=by simp [part]
theorem part_len (g:Nat→Nat→Nat) (us vs:List Nat) (j k:Nat) (hu:us.length=k) (hv:vs.length=k):(part g us vs j).length=k:=by
 simp [part];omega
theorem part_get (g:Nat→Nat→Nat) (us vs:List Nat) (j i k:Nat) (hu:us.length=k) (hv:vs.length=k) (hi:i<k) (hj:j≤k):(part g us vs j).getD i 0=if i<j then g (us.getD i 0) (vs.getD i 0) else 0:=by
 unfold part
 have hl:((List.zipWith g us vs).take j).length=j:=by simp;omega
 by_cases h:i<j
 ·rw [if_pos h]
  have h1:i<us.length:=by omega
  have h2:i<vs.length:=by omega
  simp only [List.getD,List.getElem?_append]
  rw [if_pos (by omega)]
  simp [h,h1,h2,List.getElem?_zipWith]
 ·rw [if_neg h]
  simp only [List.getD,List.getElem?_append]
  rw [if_neg (by omega),List.getElem?_replicate]
  split<;>rfl
theorem part_fresh (g:Nat→Nat→Nat) (us vs:List Nat) (j k:Nat) (hu:us.length=k) (hv:vs.length=k) (hj:j<k):(numsA (part g us vs j))[j]?=some (.int .u64 0):=by
 rw [numsA_get _ _ (by rw [part_len g us vs j k hu hv];exact hj),part_get g us vs j j k hu hv hj (by omega)]
 simp
theorem part_set (g:Nat→Nat→Nat) (us vs:List Nat) (j k:Nat) (hu:us.length=k) (hv:vs.length=k) (hj:j<k):(part g us vs j).set j (g (us.getD j 0) (vs.getD j 0))=part g us vs (j+1):=by
 apply List.ext_getElem
 ·rw [List.length_set,part_len g us vs j k hu hv,part_len g us vs (j+1) k hu hv]
 ·intro i h1 h2
  have hi:i<k:=by rw [part_len g us vs (j+1) k hu hv] at h2;exact h2
  have e1:=part_get g us vs j i k hu hv hi (by omega)
  have e2:=part_get g us vs (j+1) i k hu hv hi (by omega)
  have l1:i<(part g us vs j).length:=by rw [part_len g us vs j k hu hv];exact hi
  simp only [List.getD,List.getElem?_eq_getElem l1,Option.getD_some] at e1
  simp only [List.getD,List.getElem?_eq_getElem h2,Option.getD_some] at e2
  rw [List.getElem_set,e2]
  by_cases e:j=i
  ·subst e;simp [List.getD]
  ·rw [if_neg e,e1]
   have:(i<j)↔(i<j+1):=by omega
   simp only [this,List.getD]
theorem part_full (g:Nat→Nat→Nat) (us vs:List Nat) (k:Nat) (hu:us.length=k) (hv:vs.length=k):part g us vs k=List.zipWith g us vs:=by
 unfold part
 rw [List.take_of_length_le (by simp;omega),hu]
 simp
theorem xor1_any (x y:Nat) (hx:x<18446744073709551616) (hy:y<18446744073709551616) (w:World):Calls Tryz.prog 196 #[.int .u64 x,.int .u64 y] w fun e w'=>e=.returned (.int .u64 ((x^^^y:Nat):Int))∧w=w':=by
 go_enter Tryz.func196,Tryz.ntmps196
 go_wp2
 go_ret
 exact⟨congrArg (fun z=>Ending.returned (.int .u64 z)) (u64_xor_nat x y hx hy),rfl⟩
end
section
/- Contracts of bitrow.New and bitrow.Of. -/
open Go.RowKit
def NewOut (n:Int) (zs:List Nat) (w:World) (e:Ending) (w':World):Prop:=
 ∃ g,e=.returned (.tuple #[.agg #[.int .i64 n,.slice (some ⟨g,0,none⟩) zs.length zs.length],.int .i64 0])∧Box w' g 22 (numsA zs)∧w.heap.size≤g∧Below w.heap.size w w'
theorem new_yes (n:Nat) (h:lmb n=true) (w:World):Calls Tryz.prog 173 #[.int .i64 n] w (NewOut n (List.replicate (nw n) 0) w):=by
 have hn:=(lmb_iff n).1 h
 have hnw:nw n≤8:=by unfold nw;omega
 have q:=Box.new w 139 #[.int .i64 0,.slice none 0 0]
 have Q:=hZ q
 clear q
 have hmk:=make_any (nw n) (by omega)
 go_enter Tryz.func173,Tryz.ntmps173
 go_wp2_with fail
 refine (lengthMayBe_any n _).mono ?_
 rintro e w' ⟨rfl,rfl⟩
 go_wp2_with fail
 refine (wordsFor_any n (by omega) _).mono ?_
 rintro e w' ⟨rfl,rfl⟩
 go_wp2
 have q:=(Box.new w 139 #[.int .i64 n,.slice (some ⟨w.heap.size+1,0,none⟩) (nw n) (nw n)]).alloc (.cells (numsA (List.replicate (nw n) 0)) 22)
 have q2:=Box.new (w.alloc (.cells #[.int .i64 n,.slice (some ⟨w.heap.size+1,0,none⟩) (nw n) (nw n)] 139)) 22 (numsA (List.replicate (nw n) 0))
 simp only [World.size_alloc] at q2
 refine close_cell Tryz.results173 rfl rfl rfl q Tryz.underlying139 rfl (by kernel_rfl) ⟨w.heap.size+1,by rw [List.length_replicate];rfl,q2,by omega,((Below.refl _ _).alloc (Nat.le_refl _) _).alloc (by simp) _⟩
def orBit (ws:List Nat) (p:Nat):List Nat:=ws.set (p / 64) (ws.getD (p / 64) 0 ||| 2 ^ (p%64))
def ofBits (n:Nat) (ps:List Int):List Nat:=ps.foldl (fun ws p=>orBit ws p.toNat) (List.replicate (nw n) 0)
def there (n:Int) (ps:List Int):Bool:=ps.all fun p=>decide (0≤p)&&decide (p<n)
theorem orBit_length (ws:List Nat) (p:Nat):(orBit ws p).length=ws.length:=by simp [orBit]
theorem orBit_lt (ws:List Nat) (p:Nat) (h:∀ j,ws.getD j 0<18446744073709551616) (j:Nat):(orBit ws p).getD j 0<18446744073709551616:=by
 unfold orBit
 simp only [List.getD,List.getElem?_set]
 split
 ·split
  ·simp only [Option.getD_some]
   have:=h (p / 64)
   exact Nat.or_lt_two_pow (n:=64) this (Nat.pow_lt_pow_right (by omega) (by omega))
  ·simp
 ·exact h j
theorem foldl_bits (ps:List Int) (ws:List Nat) (h:∀ j,ws.getD j 0<18446744073709551616):(ps.foldl (fun ws p=>orBit ws p.toNat) ws).length=ws.length∧∀ j,(ps.foldl (fun ws p=>orBit ws p.toNat) ws).getD j 0<18446744073709551616:=by
 induction ps generalizing ws with
 | nil=>exact⟨rfl,h⟩
 | cons p ps ih=>
   have:=ih (orBit ws p.toNat) (orBit_lt ws _ h)
   rw [orBit_length] at this
   exact this
theorem zeros_lt (n j:Nat):(List.replicate n 0).getD j 0<18446744073709551616:=by
 simp [List.getD,List.getElem?_replicate]
 split<;>simp
theorem ofBits_len (n:Nat) (ps:List Int):(ofBits n ps).length=nw n:=by
 have:=(foldl_bits ps (List.replicate (nw n) 0) (zeros_lt _)).1
 rw [List.length_replicate] at this
 exact this
theorem ofBits_lt (n:Nat) (ps:List Int) (j:Nat):(ofBits n ps).getD j 0<18446744073709551616:=(foldl_bits ps _ (zeros_lt _)).2 j
theorem ofBits_snoc (n:Nat) (ps:List Int) (p:Int):ofBits n (ps++[p])=orBit (ofBits n ps) p.toNat:=by simp [ofBits]
theorem take_one {α:Type} (l:List α) (k:Nat) (d:α) (h:k<l.length):l.take (k+1)=l.take k++[l.getD k d]:=by
 rw [List.take_succ_eq_append_getElem h];simp [List.getD,h]
theorem or_val (x r:Nat) (hx:x<18446744073709551616) (hr:r<64):bits BinOp.or IntKind.u64 (x:Int) (IntKind.u64.wrap (2 ^ r))=((x ||| 2 ^ r:Nat):Int):=by
 have hp:2 ^ r<2 ^ 64:=Nat.pow_lt_pow_right (by omega) hr
 have e:(2:Int) ^ r%18446744073709551616=((2 ^ r:Nat):Int):=by
  have:(2:Int) ^ r=((2 ^ r:Nat):Int):=by simp
  rw [this]
  generalize 2 ^ r=p at *
  omega
 rw [IntKind.wrap_u64,e,u64_or_nat _ _ hx hp]
end
section
/- Contract of the reference's Same: two rows are the same. -/
open Go.RowKit
end
section
/- Contracts of layer 8: Places, Row. -/
open Go.RowKit
def nbState (id:Nat):Nat:=nextS (mixN id)
def nbMany (k id:Nat):Nat:=pickD (tbl (wgts k k)) (mixN (nbState id))
def nbL (k id:Nat):List Nat:=someN k (nbMany k id) (nbState id)
theorem nbState_lt (id:Nat):nbState id<18446744073709551616:=nextS_lt _
theorem nbMany_range (k id:Nat) (h1:1≤k) (h2:k≤64):1≤nbMany k id∧nbMany k id≤k:=by
 have:=pick_range (tab_k k h1 h2) (mixN (nbState id))
 rw [tbl_len,wgts_len] at this
 exact this
theorem srcMay_any (k:Int) (w:World):Calls Tryz.prog 146 #[.int .i64 k] w fun e w'=>e=.returned (.bool (kmb k))∧w=w':=by
 by_cases h:1≤k
 ·by_cases h2:k≤64
  ·rw [kmb_yes ⟨h,h2⟩]
   go_enter Tryz.func146,Tryz.ntmps146
   go_wp2
   go_ret
   exact⟨rfl,rfl⟩
  ·rw [kmb_no (fun x=>h2 x.2)]
   have t:decide (k≤64)=false:=by simpa using h2
   go_enter Tryz.func146,Tryz.ntmps146
   go_wp2
   go_ret
   exact⟨by simp,rfl⟩
 ·rw [kmb_no (fun x=>h x.1)]
  have t:decide (1≤k)=false:=by simpa using h
  go_enter Tryz.func146,Tryz.ntmps146
  go_wp2
  go_ret
  exact⟨by simp,rfl⟩
def PlOut (k id:Nat) (w:World) (e:Ending) (w':World):Prop:=
 ∃ g c,e=.returned (.slice (some ⟨g,0,none⟩) (nbMany k id) c)∧nbMany k id≤c∧NatsAt w' g (nbL k id)∧(nbL k id).length=nbMany k id∧w.heap.size≤g∧g<w'.heap.size∧Below w.heap.size w w'
set_option maxHeartbeats 1000000 in
theorem srcPlaces_any (k id:Nat) (h1:1≤k) (h2:k≤64) (hi:id<18446744073709551616) (w:World):Calls Tryz.prog 161 #[.int .i64 k,.int .u64 id] w (PlOut k id w):=by
 have HST:=hZ (start_any id hi)
 have HNX:=hZ (next_any (mixN id) (mixN_lt id))
 have HTB:=hZ (tableN_any k h1 h2)
 have HR:=hZ (nbMany_range k id h1 h2)
 have HTK:=hZ (tab_k k h1 h2)
 have HTL:=hZ (show (tbl (wgts k k)).length=k by rw [tbl_len,wgts_len])
 have HTW:=hZ (tbl_lt (wgts k k))
 have HSM:=hZ (some_yes (nbState id) k (nbMany k id) (nbState_lt id) h1 (by omega) HR.out.2)
 have HX:=hZ (mixN_lt (nbState id))
 have HPK:=hZ (show nbMany k id=pickD (tbl (wgts k k)) (mixN (nbState id)) from rfl)
 go_enter Tryz.func161,Tryz.ntmps161
 go_wp2_with fail
 refine (HST.out _).mono ?_
 rintro e w1 ⟨rfl,rfl⟩
 go_wp2_with fail
 refine (HNX.out _).mono ?_
 rintro e w1 ⟨rfl,rfl⟩
 go_wp2_with fail
 refine (HTB.out _).mono ?_
 rintro e w1 ⟨v,rfl,hown,hb⟩
 rw [HTL.out] at hown
 obtain⟨A,c,rfl,hlc,hcm,hw⟩:=own_slice hown HTW.out
 have HW:=hZ hw
 have B:=hZ hb
 clear hown hw hb HST HNX HTB
 go_wp2_with fail
 refine (pick_yes A k c _ _ _ HW.out (by unfold maxLen;omega) hlc HX.out HTK.out).mono ?_
 rintro e w2 ⟨rfl,hb⟩
 rw [← HPK.out]
 have B:=hZ (chain B.out hb)
 clear hb HW
 go_wp2_with fail
 refine (HSM.out _).mono ?_
 rintro e w3 ⟨g,c2,rfl,hc,hna,hl,hg0,hg1,hb⟩
 have B3:=hZ (chain B.out hb)
 have hsz:=B.out.size
 go_wp2_with fail
 go_ret
 exact⟨g,c2,rfl,hc,hna,hl,by omega,hg1,B3.out⟩
def nbZ (k id:Nat):List Int:=castZ (nbL k id)
def nbRow (k id:Nat):List Nat:=ofBits k (nbZ k id)
theorem nb_there (k id:Nat):there (k:Int) (nbZ k id)=true:=by
 simp only [there,nbZ,castZ,List.all_eq_true,List.mem_map]
 rintro x ⟨y,hy,rfl⟩
 have:=List.mem_filter.1 hy
 have h2:y<k:=by simpa using this.1
 simp;omega
theorem nb_len (k id:Nat) (h1:1≤k) (h2:k≤64):(nbL k id).length=nbMany k id:=some_len k (nbMany k id) (nbState id) h1 (nbState_lt id) (nbMany_range k id h1 h2).2
theorem lmb_k (k:Nat) (h1:1≤k) (h2:k≤64):lmb (k:Int)=true:=(lmb_iff _).2 ⟨by omega,by omega⟩
end
section
/- Rows of words that are a call's own: bitrow.Of so. -/
open Go.RowKit
def OwnW (w:World) (A:Option Addr) (l c:Nat) (zs:List Nat):Prop:=w.ownsRow 0 22 1 (.slice A l c) l (zs.map u64V)
section
variable {w w':World} {A:Option Addr} {l c:Nat} {zs:List Nat}
theorem OwnW.words (h:OwnW w A l c zs) (hz:∀ j,zs.getD j 0<18446744073709551616):Words w A l zs:=own_words h hz
theorem OwnW.below (h:OwnW w A l c zs) (hb:Below w.heap.size w w'):OwnW w' A l c zs:=own_keep h hb
theorem OwnW.alloc (h:OwnW w A l c zs) (o:Obj):OwnW (w.alloc o) A l c zs:=World.ownsRow.alloc h o
theorem OwnW.drew (h:OwnW w A l c zs):OwnW w.drew A l c zs:=h
theorem OwnW.far (h:OwnW w A l c zs) {g:Nat} {t:TypeId} {cs:Array Value} (hb:Box w g t cs) (hne:22≠t) (i:Nat) (u:Value):OwnW (w.setCell ⟨g,i,none⟩ u) A l c zs:=own_far h hb hne i u
theorem OwnW.put2 (h:OwnW w A l c zs) {g:Nat} {a b:Value} (hb:Box w g 139 #[a,b]) (u v:Value):OwnW ((w.setCell ⟨g,0,none⟩ u).setCell ⟨g,1,none⟩ v) A l c zs:=
 (h.far hb (by decide) 0 u).far (hb.put 0 u) (by decide) 1 v
theorem OwnW.grown {v:Value} {base e size n:Nat} {xs:List Value} (h:OwnW w A l c zs) (ho:w.ownsRow base e size v n xs) (hne:e≠22) (hg:w.grownBy w' v.ownBlock):OwnW w' A l c zs:=by
 refine World.ownsRow.kept h hg ?_
 rcases h.2 with ⟨h0,_⟩ |⟨g,cap,cur,h0,_,hh,_⟩
 ·left;rw [h0];rfl
 ·right
  rw [h0]
  exact fun e=>own_ne ho hh hne e.symm
theorem Box.ownW {g n:Nat} (h:Box w g 22 (numsA zs)) (hl:zs.length=n) (hm:n≤maxLen):OwnW w (some ⟨g,0,none⟩) n n zs:=by
 refine⟨by simp [hl],.inr ⟨g,n,numsA zs,rfl,Nat.zero_le _,h,Nat.le_refl _,hm,by simp [numsA,hl],?_⟩⟩
 have e1:(numsA zs).toList=zs.map u64V:=rfl
 rw [e1,List.take_of_length_le (by simp [hl])]
end
def OwnOut (n:Int) (zs:List Nat) (w:World) (e:Ending) (w':World):Prop:=
 ∃ A l c,e=.returned (.tuple #[.agg #[.int .i64 n,.slice A l c],.int .i64 0])∧OwnW w' A l c zs∧Below w.heap.size w w'
def OneOwn (n:Int) (zs:List Nat) (w:World) (e:Ending) (w':World):Prop:=
 ∃ A l c,e=.returned (.agg #[.int .i64 n,.slice A l c])∧OwnW w' A l c zs∧Below w.heap.size w w'
set_option maxHeartbeats 1000000 in
theorem of_own (n:Nat) (A:Option Addr) (l c:Nat) (ps:List Int) (h:lmb n=true) (w:World) (hp:Ints w A l ps) (hl:l≤9223372036854775807) (hth0:there n ps=true):Calls Tryz.prog 160 #[.int .i64 n,.slice A l c] w (OwnOut n (ofBits n ps) w):=by
 have Q:=hZ (Box.new w 139 #[.int .i64 0,.slice none 0 0])
 have HP:=hZ hp
 have HTH:=hZ hth0
 clear hth0
 have hn:=(lmb_iff n).1 h
 have hnw:nw n≤8:=by unfold nw;omega
 clear hp
 go_enter Tryz.func160,Tryz.ntmps160
 go_wp2_with fail
 refine (new_yes n h _).mono ?_
 clear h
 rintro e x1 ⟨g,rfl,hg,hgs,hb⟩
 have Q:=hZ (Q.out.keep hb)
 have HB:=hZ (chain ((Below.refl _ _).alloc (Nat.le_refl _) _) hb)
 have hz:=Q.out.lt
 have hg1:=hg.lt
 have HG:=hZ hg
 rw [List.length_replicate]
 simp at hgs
 clear hb hg
 go_wp2
 have P0:=hZ (Q.out.alloc (.cells #[.int .i64 n,.slice (some ⟨g,0,none⟩) (nw n) (nw n)] 139))
 have P1:=hZ (Box.new x1 139 #[.int .i64 n,.slice (some ⟨g,0,none⟩) (nw n) (nw n)])
 have P2:=hZ (HG.out.alloc (.cells #[.int .i64 n,.slice (some ⟨g,0,none⟩) (nw n) (nw n)] 139))
 have P3:=hZ (HB.out.alloc HB.out.size (.cells #[.int .i64 n,.slice (some ⟨g,0,none⟩) (nw n) (nw n)] 139))
 clear Q HB HG
 go_loopw [21] (fun i wr=>∃ j:Nat,j≤l∧i=.int .i64 j∧there n (ps.take j)=true∧Box wr g 22 (numsA (ofBits n (ps.take j)))∧Box wr w.heap.size 139 #[.int .i64 0,.slice none 0 0]∧Box wr x1.heap.size 139 #[.int .i64 n,.slice (some ⟨g,0,none⟩) (nw n) (nw n)]∧Below w.heap.size w wr)
  (fun i _=>l-(intOf i).toNat)
 case atStart=>exact⟨0,by omega,rfl,rfl,P2.out,P0.out,P1.out,P3.out⟩
 case round=>
  obtain⟨j,hj,rfl,hth,B2,B0,B1,hbel⟩:=hrel
  have R0:=hZ B0
  have R1:=hZ B1
  have R2:=hZ B2
  have HB:=hZ hbel
  have HT:=hZ hth
  clear B0 B1 B2 hbel hth P0 P1 P2 P3
  obtain⟨a0,a1,f0,f1⟩:=R0.out.two
  obtain⟨b0,b1,-,-⟩:=R1.out.two
  by_cases hlt:j<l
  ·obtain⟨q,o,rfl,lt1,hc1⟩:=HP.out.2.2 (by omega)
   have cu:=(HB.out.cell (p:=⟨q,o+j,none⟩) lt1).trans (hc1 j hlt)
   obtain⟨x,ex⟩:∃ x,x=ps.getD j 0:=⟨_,rfl⟩
   rw [← ex] at cu
   have EX:=hZ ex
   clear ex hc1
   go_wp2_with fail
   refine (isPlace_any _ _ _ _ x _).mono ?_
   rintro e w2 ⟨rfl,hb⟩
   have S0:=hZ (R0.out.keep hb)
   have S1:=hZ (R1.out.keep hb)
   have S2:=hZ (R2.out.keep hb)
   have HC:=hZ (chain HB.out hb)
   clear hb a0 a1 f0 f1 b0 b1 cu
   obtain⟨a0,a1,f0,f1⟩:=S0.out.two
   obtain⟨b0,b1,-,-⟩:=S1.out.two
   have htk:ps.take (j+1)=ps.take j++[x]:=by rw [EX.out];exact take_one ps j 0 (by rw [HP.out.1];exact hlt)
   have HTk:=hZ htk
   clear htk
   by_cases hx:0≤x∧x<n
   ·obtain⟨y,rfl⟩:=Int.eq_ofNat_of_zero_le hx.1
    have t0:(decide (0≤(y:Int))&&decide ((y:Int)<n))=true:=by simp;omega
    rw [t0]
    clear t0
    have hlen:(ofBits n (ps.take j)).length=nw n:=ofBits_len n _
    have hy8:y / 64<nw n:=by unfold nw;omega
    have hv:=ofBits_lt n (ps.take j) (y / 64)
    have cg:w2.cell? ⟨g,y / 64,none⟩=some (.int .u64 ((ofBits n (ps.take j)).getD (y / 64) 0:Nat)):=by rw [S2.out.cell,numsA_get _ _ (by omega)]
    have fg:=S2.out.free (y / 64)
    have P2:=hZ ((S2.out.put (y / 64) (.int .u64 (((ofBits n (ps.take j)).getD (y / 64) 0 ||| 2 ^ (y%64):Nat):Int))).drew)
    have HV:=hZ (or_val ((ofBits n (ps.take j)).getD (y / 64) 0) (y%64) hv (by omega))
    have n1:w.heap.size≠g:=by omega
    have n2:x1.heap.size≠g:=by omega
    have P0:=hZ ((S0.out.far (p:=⟨g,y / 64,none⟩) n1 (.int .u64 (((ofBits n (ps.take j)).getD (y / 64) 0 ||| 2 ^ (y%64):Nat):Int))).drew)
    have P1:=hZ ((S1.out.far (p:=⟨g,y / 64,none⟩) n2 (.int .u64 (((ofBits n (ps.take j)).getD (y / 64) 0 ||| 2 ^ (y%64):Nat):Int))).drew)
    have P3:=hZ ((HC.out.setCell (p:=⟨g,y / 64,none⟩) (by simp;omega) (.int .u64 (((ofBits n (ps.take j)).getD (y / 64) 0 ||| 2 ^ (y%64):Nat):Int))).drew)
    have H4:Hid (there n (ps.take (j+1))=true):=by
     show there n (ps.take (j+1))=true
     rw [HTk.out]
     have:=HT.out
     simp only [there,List.all_append,Bool.and_eq_true] at this ⊢
     exact⟨this,by simp;omega⟩
    have H5:Hid ((numsA (ofBits n (ps.take j))).setIfInBounds (y / 64) (.int .u64 (((ofBits n (ps.take j)).getD (y / 64) 0 ||| 2 ^ (y%64):Nat):Int))=numsA (ofBits n (ps.take (j+1)))):=by
     show _=_
     rw [numsA_set,HTk.out,ofBits_snoc];rfl
    generalize (ofBits n (ps.take j)).getD (y / 64) 0=v at *
    go_wp2
    have g1:(y:Int).tdiv 64=((y / 64:Nat):Int):=by rw [Int.tdiv_eq_ediv_of_nonneg (by omega)];omega
    have g2:(y:Int).tmod 64=((y%64:Nat):Int):=by rw [Int.tmod_eq_emod_of_nonneg (by omega)];omega
    have g3:IntKind.i64.wrap ((y / 64:Nat):Int)=((y / 64:Nat):Int):=IntWalk.i64_in _ (by omega)
    have g4:(0:Int)≤((y / 64:Nat):Int):=by omega
    have g5:((y / 64:Nat):Int)<(nw n:Int):=by omega
    go_region
    rw [HV.out]
    clear g1 g2 g3 g4 g5 a0 a1 f0 f1 b0 b1 cg fg
    generalize (w2.setCell ⟨g,y / 64,none⟩ (.int .u64 ((v ||| 2 ^ (y%64):Nat):Int))).drew=wn at *
    go_wp2
    go_roundw
    case rel=>exact⟨j+1,by omega,by go_num,H4.out,by have:=P2.out;rw [H5.out] at this;exact this,P0.out,P1.out,P3.out⟩
    case measure=>simp [intOf];omega
   ·have t0:(decide (0≤x)&&decide (x<n))=false:=by simp;omega
    rw [t0]
    clear t0
    have H4:Hid (there n ps=false):=by
     show there n ps=false
     rw [← List.take_append_drop (j+1) ps,HTk.out]
     have:(decide (0≤x)&&decide (x<n))=false:=by simp;omega
     simp [there,List.all_append,this]
    exact absurd HTH.out (by rw [H4.out];decide)
  ·obtain rfl:j=l:=by omega
   have H4:Hid (ps.take j=ps):=by
    show ps.take j=ps
    exact List.take_of_length_le (by rw [HP.out.1];omega)
   go_wp2
   refine close_cell Tryz.results160 rfl rfl rfl R0.out.put2 Tryz.underlying139 rfl (by kernel_rfl) ?_
   have h6:=R2.out
   rw [H4.out] at h6
   have n1:g≠w.heap.size:=by omega
   have hw:=(h6.far (p:=⟨w.heap.size,0,none⟩) n1 (.int .i64 n)).far (p:=⟨w.heap.size,1,none⟩) n1 (.slice (some ⟨g,0,none⟩) (nw n) (nw n))
   exact⟨_,_,_,rfl,hw.ownW (ofBits_len n ps) (by unfold maxLen;omega),(HB.out.setCell (p:=⟨w.heap.size,0,none⟩) (Nat.le_refl _) _).setCell (p:=⟨w.heap.size,1,none⟩) (Nat.le_refl _) _⟩
end
section
/- Rows of words that are a call's own: bitrow.Of and source.row so. -/
open Go.RowKit
set_option maxHeartbeats 1000000 in
theorem srcRow_own (k id:Nat) (h1:1≤k) (h2:k≤64) (hi:id<18446744073709551616) (w:World):Calls Tryz.prog 147 #[.int .i64 k,.int .u64 id] w (OneOwn k (nbRow k id) w):=by
 have HS:=hZ (srcPlaces_any k id h1 h2 hi)
 have HM:=hZ (nbMany_range k id h1 h2)
 have HN:=hZ (lmb_k k h1 h2)
 have HT:=hZ (nb_there k id)
 have q0:=Box.new w 139 #[.int .i64 0,.slice none 0 0]
 have Q0:=hZ q0
 have HW:=hZ (show Below w.heap.size w (w.alloc (.cells #[.int .i64 0,.slice none 0 0] 139)) from (Below.refl _ _).alloc (Nat.le_refl _) _)
 clear q0
 go_enter Tryz.func147,Tryz.ntmps147
 go_wp2_with fail
 refine (HS.out _).mono ?_
 rintro e w1 ⟨g,c,rfl,hc,hna,hl,hg0,hg1,hb⟩
 have Q0:=hZ (Q0.out.keep hb)
 have HW:=hZ (chain HW.out hb)
 have HI:=hZ (nats_ints hna hl hg1 (some_bound k _ _ (by omega)))
 clear hna hb
 go_wp2_with fail
 refine (of_own k (some ⟨g,0,none⟩) (nbMany k id) c (nbZ k id) HN.out _ HI.out (by have:=HM.out.2;omega) HT.out).mono ?_
 rintro e w2 ⟨A,l,c2,rfl,hw,hb⟩
 have P0:=hZ ((Q0.out.keep hb).alloc (.cells #[.int .i64 k,.slice A l c2] 139))
 have T1:=hZ ((chain HW.out hb).alloc (chain HW.out hb).size (.cells #[.int .i64 k,.slice A l c2] 139))
 have HWo:=hZ (hw.alloc (.cells #[.int .i64 k,.slice A l c2] 139))
 clear hw hb
 obtain⟨r0,r1,r2,r3⟩:=P0.out.two
 go_wp2
 refine close_one Tryz.results147 rfl rfl P0.out.put2 Tryz.underlying139 rfl (by kernel_rfl) ⟨_,_,_,rfl,HWo.out.put2 P0.out _ _,?_⟩
 exact (T1.out.setCell (p:=⟨w.heap.size,0,none⟩) (Nat.le_refl _) _).setCell (p:=⟨w.heap.size,1,none⟩) (Nat.le_refl _) _
end
end Go.Proofs.YtcikoaeiopbbbaaGreat
