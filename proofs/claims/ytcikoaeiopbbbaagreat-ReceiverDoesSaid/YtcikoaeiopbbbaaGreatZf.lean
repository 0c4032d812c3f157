/- Parts: BsM, ZeroX, BsN, BsP, Bs1, Bs2, Bs3, Bs4, BsC, Bs5, BsK, Bs6, Bs7, Bs8, ObF, BsF, Bf1. -/
import Derived.Test.YtcikoaeiopbbbaaGreatZe
import Derived.ArgAppend
import Derived.Deep.AppendLies
import Derived.Deep.RegionHeld3
import Derived.Deep.RegionLawGrows
namespace Go.Proofs.YtcikoaeiopbbbaaGreat
set_option linter.unusedVariables false
set_option linter.unusedSimpArgs false
set_option linter.unusedSectionVars false
section
/- Equations with their blocks as numbers: what is owned, what is free, what is told. No program. -/
theorem sp_map (f:Nat→Nat) (h0:f 0=0) (hx:∀ a b,f (a^^^b)=f a^^^f b) (L:List Nat) (v:Nat):Sp (L.map f) v↔∃ u,Sp L u∧v=f u:=by
 constructor
 ·intro h
  refine sp_ind (P:=fun v=>∃ u,Sp L u∧v=f u) ⟨0,sp_zero L,h0.symm⟩ ?_ h
  rintro r u hr ⟨t,ht,rfl⟩
  obtain⟨a,ha,rfl⟩:=List.mem_map.1 hr
  exact⟨a^^^t,sp_xor (sp_mem ha) ht,(hx a t).symm⟩
 ·rintro ⟨u,hu,rfl⟩
  refine sp_ind (P:=fun u=>Sp (L.map f) (f u)) (by rw [h0];exact sp_zero _) ?_ hu
  intro r u hr hu
  rw [hx]
  exact sp_xor (sp_mem (List.mem_map.2 ⟨r,hr,rfl⟩)) hu
theorem sp_app {O F:List Nat} {v:Nat} (h:Sp (O++F) v):∃ a u,Sp O a∧Sp F u∧v=a^^^u:=by
 refine sp_ind (P:=fun v=>∃ a u,Sp O a∧Sp F u∧v=a^^^u) ⟨0,0,sp_zero _,sp_zero _,by simp⟩ ?_ h
 rintro r w hr ⟨a,u,ha,hu,rfl⟩
 rcases List.mem_append.1 hr with hr | hr
 ·exact⟨r^^^a,u,sp_xor (sp_mem hr) ha,hu,(Nat.xor_assoc _ _ _).symm⟩
 ·refine⟨a,r^^^u,ha,sp_xor (sp_mem hr) hu,?_⟩
  rw [← Nat.xor_assoc,← Nat.xor_assoc,Nat.xor_comm r a]
theorem sp_left {O F:List Nat} {v:Nat} (h:Sp O v):Sp (O++F) v:=sp_sub (fun r hr=>sp_mem (List.mem_append.2 (.inl hr))) h
theorem sp_right {O F:List Nat} {v:Nat} (h:Sp F v):Sp (O++F) v:=sp_sub (fun r hr=>sp_mem (List.mem_append.2 (.inr hr))) h
theorem sp_bit {F:List Nat} {p:Nat} (hF:∀ f,f∈F→f.testBit p=false) {u:Nat} (h:Sp F u):u.testBit p=false:=
 sp_ind (P:=fun u=>u.testBit p=false) (by simp) (fun r u hr hu=>by rw [Nat.testBit_xor,hF r hr,hu];rfl) h
theorem sp_nought {F:List Nat} (hF:∀ f,f∈F→f=0) {u:Nat} (h:Sp F u):u=0:=
 sp_ind (P:=fun u=>u=0) rfl (fun r u hr hu=>by rw [hF r hr,hu];rfl) h
structure Elim (Z P:List Nat) (k:Nat) (O F:List Nat):Prop where
 span:SameSp (O++F) Z
 len:O.length=k
 one:∀ i j,i<k→j<k→(O.getD i 0).testBit (P.getD j 0)=decide (i=j)
 no:∀ f,f∈F→∀ j,j<k→f.testBit (P.getD j 0)=false
theorem elim_start (Z P:List Nat):Elim Z P 0 [] Z:=⟨SameSp.refl _,rfl,fun _ _ h=>absurd h (Nat.not_lt_zero _),fun _ _ _ h=>absurd h (Nat.not_lt_zero _)⟩
def clr (c f:Nat) (L:List Nat):List Nat:=L.map fun x=>if x.testBit c then x^^^f else x
theorem clr_at (c f:Nat) (L:List Nat) (i:Nat) (h:i<L.length):(clr c f L).getD i 0=if (L.getD i 0).testBit c then L.getD i 0^^^f else L.getD i 0:=by
 simp [clr,List.getD,h]
theorem comb_row' {L P:List Nat} (k0:Nat) (one:∀ i j,i<k0→j<k0→(L.getD i 0).testBit (P.getD j 0)=decide (i=j)) (i:Nat) (hi:i<k0):∀ k,k≤k0→comb L P (L.getD i 0) k=if i<k then L.getD i 0 else 0
 | 0,_=>by simp [comb]
 | k+1,hk=>by
   rw [comb,comb_row' k0 one i hi k (by omega),one i k hi (by omega)]
   by_cases e:i=k
   ·subst e;simp
   ·by_cases hl:i<k
    ·simp [e,hl,show i<k+1 by omega]
    ·simp [e,hl,show ¬ i<k+1 by omega]
theorem own_comb {O P:List Nat} {k:Nat} (hlen:O.length=k) (one:∀ i j,i<k→j<k→(O.getD i 0).testBit (P.getD j 0)=decide (i=j)) {v:Nat} (hv:Sp O v):v=comb O P v k:=by
 refine sp_ind (P:=fun v=>v=comb O P v k) ?_ ?_ hv
 ·exact (comb_zero O P 0 _ (fun _ _=>by simp)).symm
 ·intro r u hr hu
  obtain⟨i,hi,rfl⟩:=mem_getD hr
  rw [comb_xor,← hu,comb_row' k one i (by omega) _ (Nat.le_refl _),if_pos (by omega)]
theorem mem_erase {F:List Nat} {i x:Nat} (h:x∈F.eraseIdx i):x∈F:=List.mem_of_mem_eraseIdx h
theorem mem_keep {F:List Nat} {i x:Nat} (h:x∈F):x∈F.eraseIdx i∨x=F.getD i 0:=by
 obtain⟨j,hj,rfl⟩:=List.getElem_of_mem h
 by_cases e:j=i
 ·subst e;right;simp [List.getD,hj]
 ·left;rw [List.mem_eraseIdx_iff_getElem];exact⟨j,hj,e,rfl⟩
theorem Elim.step {Z P:List Nat} {k:Nat} {O F:List Nat} (h:Elim Z P k O F) (i:Nat) (hi:i<F.length) (hb:(F.getD i 0).testBit (P.getD k 0)=true) :
  Elim Z P (k+1) (clr (P.getD k 0) (F.getD i 0) O++[F.getD i 0]) (clr (P.getD k 0) (F.getD i 0) (F.eraseIdx i)):=by
 have hlen:=h.len
 have hf:∀ j,j<k→(F.getD i 0).testBit (P.getD j 0)=false:=h.no _ (getD_mem hi)
 have hcl:(clr (P.getD k 0) (F.getD i 0) O).length=k:=by simp [clr,hlen]
 have own:Sp ((clr (P.getD k 0) (F.getD i 0) O++[F.getD i 0])++clr (P.getD k 0) (F.getD i 0) (F.eraseIdx i)) (F.getD i 0):=sp_mem (by simp)
 have keep:∀ x,((if x.testBit (P.getD k 0) then x^^^F.getD i 0 else x)∈(clr (P.getD k 0) (F.getD i 0) O++[F.getD i 0])++clr (P.getD k 0) (F.getD i 0) (F.eraseIdx i))→Sp ((clr (P.getD k 0) (F.getD i 0) O++[F.getD i 0])++clr (P.getD k 0) (F.getD i 0) (F.eraseIdx i)) x:=fun x hx=>by
  have m:=sp_mem hx
  split at m
  ·have:=sp_xor m own
   rw [xor_back] at this;exact this
  ·exact m
 have back:∀ x,Sp (O++F) x→Sp (O++F) (if x.testBit (P.getD k 0) then x^^^F.getD i 0 else x):=fun x hx=>by
  split
  ·exact sp_xor hx (sp_mem (List.mem_append.2 (.inr (getD_mem hi))))
  ·exact hx
 refine⟨SameSp.trans (SameSp.of (fun r hr=>?_) (fun r hr=>?_)) h.span,by rw [List.length_append,hcl];rfl,fun a b ha hb'=>?_,fun f hf' j hj=>?_⟩
 ·rcases List.mem_append.1 hr with hr | hr
  ·rcases List.mem_append.1 hr with hr | hr
   ·obtain⟨x,hx,rfl⟩:=List.mem_map.1 hr
    exact back x (sp_mem (List.mem_append.2 (.inl hx)))
   ·simp only [List.mem_singleton] at hr;subst hr
    exact sp_mem (List.mem_append.2 (.inr (getD_mem hi)))
  ·obtain⟨x,hx,rfl⟩:=List.mem_map.1 hr
   exact back x (sp_mem (List.mem_append.2 (.inr (mem_erase hx))))
 ·rcases List.mem_append.1 hr with hr | hr
  ·exact keep r (List.mem_append.2 (.inl (List.mem_append.2 (.inl (List.mem_map.2 ⟨r,hr,rfl⟩)))))
  ·rcases mem_keep (i:=i) hr with hr | hr
   ·exact keep r (List.mem_append.2 (.inr (List.mem_map.2 ⟨r,hr,rfl⟩)))
   ·subst hr;exact own
 ·have at_:∀ a,(clr (P.getD k 0) (F.getD i 0) O++[F.getD i 0]).getD a 0=if a<k then (clr (P.getD k 0) (F.getD i 0) O).getD a 0 else if a=k then F.getD i 0 else 0:=fun a=>by rw [getD_snoc,hcl]
  rw [at_]
  by_cases ea:a<k
  ·rw [if_pos ea,clr_at _ _ _ _ (by omega)]
   by_cases eb:b<k
   ·have:=h.one a b ea eb
    split
    ·rw [Nat.testBit_xor,this,hf b eb];simp
    ·exact this
   ·obtain rfl:b=k:=by omega
    split
    ·rename_i e;rw [Nat.testBit_xor,e,hb];simp;omega
    ·rename_i e;rw [Bool.eq_false_iff.2 e];simp;omega
  ·obtain rfl:a=k:=by omega
   rw [if_neg ea,if_pos rfl]
   by_cases eb:b<a
   ·rw [hf b eb];simp;omega
   ·obtain rfl:b=a:=by omega
    rw [hb];simp
 ·obtain⟨x,hx,rfl⟩:=List.mem_map.1 hf'
  by_cases ej:j<k
  ·have:=h.no x (mem_erase hx) j ej
   split
   ·rw [Nat.testBit_xor,this,hf j ej];rfl
   ·exact this
  ·obtain rfl:j=k:=by omega
   split
   ·rename_i e;rw [Nat.testBit_xor,e,hb];rfl
   ·rename_i e;exact Bool.eq_false_iff.2 e
theorem Elim.free {Z P:List Nat} {k:Nat} {O F:List Nat} (h:Elim Z P k O F) {v:Nat} (hv:Sp Z v) (hz:∀ j,j<k→v.testBit (P.getD j 0)=false):Sp F v:=by
 obtain⟨a,u,ha,hu,rfl⟩:=sp_app ((h.span _).2 hv)
 have hub:∀ j,j<k→u.testBit (P.getD j 0)=false:=fun j hj=>sp_bit (fun f hf=>h.no f hf j hj) hu
 have ha0:a=0:=by
  rw [own_comb h.len h.one ha]
  refine comb_zero _ _ _ _ fun j hj=>?_
  have:=hz j hj
  rw [Nat.testBit_xor,hub j hj] at this
  simpa using this
 rw [ha0,Nat.zero_xor];exact hu
def lowN (N z:Nat):Nat:=z%2 ^ N
theorem lowN_zero (N:Nat):lowN N 0=0:=by simp [lowN]
theorem lowN_xor (N a b:Nat):lowN N (a^^^b)=lowN N a^^^lowN N b:=Nat.xor_mod_two_pow
theorem lowN_lt (N z:Nat):lowN N z<2 ^ N:=Nat.mod_lt _ (Nat.two_pow_pos N)
theorem lowN_bit {N z p:Nat} (h:p<N):(lowN N z).testBit p=z.testBit p:=by simp [lowN,Nat.testBit_mod_two_pow,h]
section
variable {N:Nat} {Z M P O F:List Nat}
theorem place_lt (hM:∀ r,r∈M→r<2 ^ N) (h:Rref M P) (j:Nat) (hj:j<P.length):P.getD j 0<N:=by
 rcases Nat.lt_or_ge (P.getD j 0) N with hl | hg
 ·exact hl
 ·have h1:=(h.low j (by rw [h.len];exact hj)).1
  rw [Nat.testBit_lt_two_pow (Nat.lt_of_lt_of_le (hM _ (getD_mem (by rw [h.len];exact hj))) (Nat.pow_le_pow_right (by omega) hg))] at h1
  cases h1
theorem rows_lt (hs:SameSp (Z.map (lowN N)) M):∀ r,r∈M→r<2 ^ N:=fun r hr=>sp_lt (fun x hx=>by obtain⟨z,-,rfl⟩:=List.mem_map.1 hx;exact lowN_lt N z) ((hs r).2 (sp_mem hr))
theorem low_sp (hs:SameSp (Z.map (lowN N)) M) {v:Nat} (h:Sp Z v):Sp M (lowN N v):=(hs _).1 ((sp_map _ (lowN_zero N) (lowN_xor N) Z _).2 ⟨v,h,rfl⟩)
theorem Elim.some {k:Nat} (h:Elim Z P k O F) (hr:Rref M P) (hs:SameSp (Z.map (lowN N)) M) (hk:k<P.length):∃ i,i<F.length∧(F.getD i 0).testBit (P.getD k 0)=true:=by
 have hkM:k<M.length:=by rw [hr.len];exact hk
 obtain⟨v,hv,he⟩:=(sp_map _ (lowN_zero N) (lowN_xor N) Z _).1 ((hs _).2 (sp_mem (getD_mem hkM)))
 have hlt:=place_lt (rows_lt hs) hr
 have hb:∀ j,j<P.length→v.testBit (P.getD j 0)=decide (k=j):=fun j hj=>by
  rw [← lowN_bit (hlt j hj),← he,hr.one k j hkM (by rw [hr.len];exact hj)]
 have hf:=h.free hv (fun j hj=>by rw [hb j (by omega)];simp;omega)
 by_cases hn:∃ i,i<F.length∧(F.getD i 0).testBit (P.getD k 0)=true
 ·exact hn
 ·have:=sp_bit (p:=P.getD k 0) (fun f hfm=>by
   obtain⟨i,hi,rfl⟩:=mem_getD hfm
   cases hb':(F.getD i 0).testBit (P.getD k 0) with
   | false=>rfl
   | true=>exact absurd ⟨i,hi,hb'⟩ hn) hf
  rw [hb k hk] at this;simp at this
theorem Elim.free_low (h:Elim Z P P.length O F) (hr:Rref M P) (hs:SameSp (Z.map (lowN N)) M) {f:Nat} (hf:f∈F):lowN N f=0:=
 hr.zero (low_sp hs ((h.span f).1 (sp_right (sp_mem hf)))) fun j hj=>by
  rw [hr.len] at hj
  rw [lowN_bit (place_lt (rows_lt hs) hr j hj)];exact h.no f hf j hj
theorem Elim.own_low (h:Elim Z P P.length O F) (hr:Rref M P) (hs:SameSp (Z.map (lowN N)) M) (i:Nat) (hi:i<P.length):lowN N (O.getD i 0)=M.getD i 0:=by
 have hiO:i<O.length:=by rw [h.len];exact hi
 have hiM:i<M.length:=by rw [hr.len];exact hi
 apply xor_cancel
 refine hr.zero (sp_xor (low_sp hs ((h.span _).1 (sp_left (sp_mem (getD_mem hiO))))) (sp_mem (getD_mem hiM))) fun j hj=>?_
 have hj':=hj
 rw [hr.len] at hj'
 rw [Nat.testBit_xor,lowN_bit (place_lt (rows_lt hs) hr j hj'),h.one i j hi hj',hr.one i j hiM hj];simp
def FitsP (N:Nat) (Z:List Nat):Prop:=∀ v,Sp Z v→lowN N v=0→v=0
theorem Elim.fits (h:Elim Z P P.length O F) (hr:Rref M P) (hs:SameSp (Z.map (lowN N)) M):(∀ f,f∈F→f=0)↔FitsP N Z:=by
 constructor
 ·intro hF v hv h0
  refine sp_nought hF (h.free hv fun j hj=>?_)
  rw [← lowN_bit (place_lt (rows_lt hs) hr j hj),h0];simp
 ·intro hfit f hf
  exact hfit f ((h.span f).1 (sp_right (sp_mem hf))) (h.free_low hr hs hf)
theorem told_iff (hr:Rref M P) (c:Nat):Sp M (2 ^ c)↔∃ j,j<P.length∧P.getD j 0=c∧M.getD j 0=2 ^ c:=by
 constructor
 ·intro h
  have hl:IsLow (2 ^ c) c:=⟨by simp [Nat.testBit_two_pow],fun q hq=>by simp [Nat.testBit_two_pow];omega⟩
  obtain⟨j,hj,hc⟩:=mem_getD ((hr.place c).2 ⟨_,h,hl⟩)
  refine⟨j,hj,hc,?_⟩
  have hjM:j<M.length:=by rw [hr.len];exact hj
  apply xor_cancel
  refine hr.zero (sp_xor (sp_mem (getD_mem hjM)) h) fun i hi=>?_
  rw [Nat.testBit_xor,hr.one j i hjM hi]
  by_cases e:j=i
  ·subst e;rw [Nat.testBit_two_pow,hc];simp
  ·have hne:P.getD i 0≠c:=fun e2=>by
    rw [← hc] at e2
    rcases Nat.lt_or_gt_of_ne e with hl | hl
    ·have:=hr.rise j i hl hi;omega
    ·have:=hr.rise i j hl hjM;omega
   rw [Nat.testBit_two_pow];simp only [e,decide_false,Ne.symm hne,Bool.xor_self]
 ·rintro ⟨j,hj,-,hM⟩
  rw [← hM];exact sp_mem (getD_mem (by rw [hr.len];exact hj))
end
end
section
/- BlockZero: the walk. -/
open Go.RowKit
theorem size_list (s:ByteArray):s.data.toList.length=s.size:=by simp
theorem back_list (s:ByteArray):(⟨s.data.toList.toArray⟩:ByteArray)=s:=by apply ByteArray.ext;simp
theorem okS_of (n:Nat) (ss:List ByteArray) (hn:n≤64) (h:∀ s∈ss,s.size=n) (hl:ss.length≤64):okS n ss=true:=by
 have h1:smb n=true:=(smb_iff _).2 ⟨by omega,by omega⟩
 have h2:allL n ss=true:=List.all_eq_true.2 fun s hs=>by simp [h s hs]
 simp [okS,h1,h2,hl]
end
section
/- Blocks as numbers; rows with their blocks. No program. -/
def bn:List UInt8→Nat
 | []=>0
 | b::bs=>b.toNat+256*bn bs
theorem bn_bit (b:UInt8) (bs:List UInt8) (p:Nat):(bn (b::bs)).testBit p=if p<8 then b.toNat.testBit p else (bn bs).testBit (p-8):=by
 have hb:b.toNat<2 ^ 8:=b.toNat_lt
 rw [bn,Nat.add_comm,show (256:Nat)=2 ^ 8 by rfl,Nat.testBit_two_pow_mul_add _ hb]
theorem bxL_cons (x y:UInt8) (a b:List UInt8):bxL (x::a) (y::b)=(x^^^y)::bxL a b:=by
 unfold bxL
 rw [List.length_cons,List.range_succ_eq_map,List.map_cons,List.map_map]
 simp [Function.comp_def]
theorem bn_xor:∀ (a b:List UInt8),a.length=b.length→bn (bxL a b)=bn a^^^bn b
 | [],[],_=>rfl
 | x::a,y::b,h=>by
   rw [bxL_cons]
   apply Nat.eq_of_testBit_eq
   intro p
   rw [Nat.testBit_xor,bn_bit,bn_bit,bn_bit,bn_xor a b (by simpa using h)]
   split
   ·rw [UInt8.toNat_xor,Nat.testBit_xor]
   ·rw [Nat.testBit_xor]
theorem bn_byte:∀ (l:List UInt8) (i k:Nat),k<8→(bn l).testBit (8*i+k)=(l.getD i 0).toNat.testBit k
 | [],i,k,_=>by simp [bn]
 | b::bs,0,k,hk=>by rw [bn_bit,if_pos (by omega)];simp
 | b::bs,i+1,k,hk=>by rw [bn_bit,if_neg (by omega),show 8*(i+1)+k-8=8*i+k by omega,bn_byte bs i k hk,List.getD_cons_succ]
theorem bn_zero:∀ (l:List UInt8),bn l=0↔noughtL l=true
 | []=>by simp [bn,noughtL]
 | b::bs=>by
   have ih:=bn_zero bs
   simp only [noughtL,List.all_cons,Bool.and_eq_true,beq_iff_eq] at ih ⊢
   rw [← ih,bn]
   have:b=0↔b.toNat=0:=⟨fun h=>by rw [h];rfl,fun h=>UInt8.toNat_inj.1 (by rw [h];rfl)⟩
   rw [this];omega
theorem bn_inj:∀ (a b:List UInt8),a.length=b.length→bn a=bn b→a=b
 | [],[],_,_=>rfl
 | x::a,y::b,h,he=>by
   have h1:x.toNat<256:=x.toNat_lt
   have h2:y.toNat<256:=y.toNat_lt
   rw [bn,bn] at he
   have e1:x.toNat=y.toNat:=by omega
   have e2:bn a=bn b:=by omega
   rw [UInt8.toNat_inj.1 e1,bn_inj a b (by simpa using h) e2]
abbrev PV:=Nat×ByteArray
def pv0:PV:=(0,⟨#[]⟩)
def plusP (p q:PV):PV:=(p.1^^^q.1,⟨(bxL p.2.data.toList q.2.data.toList).toArray⟩)
def GoodP (N n:Nat) (p:PV):Prop:=p.1<2 ^ N∧p.2.size=n
def zOf (N:Nat) (p:PV):Nat:=p.1+2 ^ N*bn p.2.data.toList
theorem plus_good {N n:Nat} {p q:PV} (hp:GoodP N n p) (hq:GoodP N n q):GoodP N n (plusP p q):=
 ⟨Nat.xor_lt_two_pow hp.1 hq.1,by
  have h1:=hp.2
  have h2:=hq.2
  show (bxL p.2.data.toList q.2.data.toList).toArray.size=n
  rw [List.size_toArray,xorL_length,size_list];exact h1⟩
theorem z_bit {N n:Nat} {p:PV} (h:GoodP N n p) (i:Nat):(zOf N p).testBit i=if i<N then p.1.testBit i else (bn p.2.data.toList).testBit (i-N):=by
 rw [zOf,Nat.add_comm,Nat.testBit_two_pow_mul_add _ h.1]
theorem z_low {N n:Nat} {p:PV} (h:GoodP N n p):lowN N (zOf N p)=p.1:=by
 rw [lowN,zOf,Nat.add_mul_mod_self_left];exact Nat.mod_eq_of_lt h.1
theorem z_high {N n:Nat} {p:PV} (h:GoodP N n p):zOf N p>>>N=bn p.2.data.toList:=by
 apply Nat.eq_of_testBit_eq
 intro i
 rw [Nat.testBit_shiftRight,z_bit h,if_neg (by omega),show N+i-N=i by omega]
theorem z_plus {N n:Nat} {p q:PV} (hp:GoodP N n p) (hq:GoodP N n q):zOf N (plusP p q)=zOf N p^^^zOf N q:=by
 apply Nat.eq_of_testBit_eq
 intro i
 have hl:p.2.data.toList.length=q.2.data.toList.length:=by
  rw [size_list,size_list,hp.2,hq.2]
 have hx:=bn_xor _ _ hl
 rw [Nat.testBit_xor,z_bit (plus_good hp hq),z_bit hp,z_bit hq]
 split
 ·rw [plusP,Nat.testBit_xor]
 ·rw [← Nat.testBit_xor,← hx];simp [plusP]
theorem z_nought {N n:Nat} {p:PV} (h:GoodP N n p):zOf N p=0↔p.1=0∧noughtL p.2.data.toList=true:=by
 rw [← bn_zero,zOf]
 have hp:=Nat.two_pow_pos N
 constructor
 ·intro he
  have h1:p.1=0:=by omega
  refine⟨h1,?_⟩
  have h2:2 ^ N*bn p.2.data.toList=0:=by omega
  rcases Nat.mul_eq_zero.1 h2 with h3 | h3
  ·omega
  ·exact h3
 ·rintro ⟨h1,h2⟩;rw [h1,h2];rfl
def clrP (c:Nat) (f:PV) (L:List PV):List PV:=L.map fun x=>if x.1.testBit c then plusP x f else x
theorem clrP_len (c:Nat) (f:PV) (L:List PV):(clrP c f L).length=L.length:=by simp [clrP]
theorem clrP_good {N n c:Nat} {f:PV} {L:List PV} (hf:GoodP N n f) (hL:∀ p∈L,GoodP N n p):∀ p∈clrP c f L,GoodP N n p:=fun p hp=>by
 obtain⟨x,hx,rfl⟩:=List.mem_map.1 hp
 split
 ·exact plus_good (hL x hx) hf
 ·exact hL x hx
theorem clrP_z {N n c:Nat} {f:PV} {L:List PV} (hc:c<N) (hf:GoodP N n f) (hL:∀ p∈L,GoodP N n p):(clrP c f L).map (zOf N)=clr c (zOf N f) (L.map (zOf N)):=by
 unfold clrP clr
 rw [List.map_map,List.map_map]
 apply List.map_congr_left
 intro x hx
 have hb:(zOf N x).testBit c=x.1.testBit c:=by rw [z_bit (hL x hx),if_pos hc]
 simp only [Function.comp_apply,hb]
 split
 ·exact z_plus (hL x hx) hf
 ·rfl
theorem mapz_at (N:Nat) (L:List PV) (i:Nat) (h:i<L.length):(L.map (zOf N)).getD i 0=zOf N (L.getD i pv0):=by simp [List.getD,h]
theorem getD_memP {L:List PV} {i:Nat} (h:i<L.length):L.getD i pv0∈L:=by
 have:L.getD i pv0=L[i]:=by simp [List.getD,h]
 rw [this];exact List.getElem_mem _
theorem erase_z (N:Nat) (L:List PV) (i:Nat):(L.eraseIdx i).map (zOf N)=(L.map (zOf N)).eraseIdx i:=by
 induction L generalizing i with
 | nil=>rfl
 | cons a L ih=>cases i with
   | zero=>rfl
   | succ i=>simp [ih]
theorem plus_sum {n:Nat} {a b:ByteArray} (ha:a.size=n) (hb:b.size=n) (hn:n≤64):sumS a.size [a,b]=⟨(bxL a.data.toList b.data.toList).toArray⟩:=by
 have ho:=okS_of n [a,b] hn (by intro s hs;simp at hs;rcases hs with rfl | rfl<;>assumption) (by simp)
 rw [ha,sumS,if_pos ho]
 simp only [sumL,Int.toNat_natCast,List.foldl_cons,List.foldl_nil]
 rw [xorL_zero n a ha]
end
section
/- Rows with their blocks in memory: pairs and owners. -/
open Go.RowKit
set_option maxRecDepth 100000
def clrU (c:Nat) (f:PV) (L:List PV) (i:Nat):List PV:=(clrP c f L).take i++L.drop i
theorem clrU_len (c:Nat) (f:PV) (L:List PV) (i:Nat) (hi:i≤L.length):(clrU c f L i).length=L.length:=by
 simp [clrU,clrP_len];omega
theorem clrU_zero (c:Nat) (f:PV) (L:List PV):clrU c f L 0=L:=by simp [clrU]
theorem clrU_all (c:Nat) (f:PV) (L:List PV):clrU c f L L.length=clrP c f L:=by
 unfold clrU
 rw [List.take_of_length_le (by rw [clrP_len];exact Nat.le_refl _),List.drop_length,List.append_nil]
theorem clrP_get (c:Nat) (f:PV) (L:List PV) (i:Nat) (h:i<L.length):(clrP c f L)[i]'(by rw [clrP_len];exact h)=if (L.getD i pv0).1.testBit c then plusP (L.getD i pv0) f else L.getD i pv0:=by
 simp [clrP,List.getD,h]
theorem clrU_here (c:Nat) (f:PV) (L:List PV) (i:Nat) (h:i<L.length):(clrU c f L i).getD i pv0=L.getD i pv0:=by
 have e:((clrP c f L).take i).length=i:=by rw [List.length_take,clrP_len];omega
 simp only [List.getD,clrU]
 rw [List.getElem?_append_right (by omega),e,Nat.sub_self,List.getElem?_drop];simp
theorem clrU_no (c:Nat) (f:PV) (L:List PV) (i:Nat) (h:i<L.length) (hb:(L.getD i pv0).1.testBit c=false):clrU c f L (i+1)=clrU c f L i:=by
 unfold clrU
 have hi:i<(clrP c f L).length:=by rw [clrP_len];exact h
 rw [List.take_succ_eq_append_getElem hi,clrP_get c f L i h,hb,List.drop_eq_getElem_cons h]
 simp [List.getD,h]
theorem clrU_yes (c:Nat) (f:PV) (L:List PV) (i:Nat) (h:i<L.length) (hb:(L.getD i pv0).1.testBit c=true):clrU c f L (i+1)=(clrU c f L i).set i (plusP (L.getD i pv0) f):=by
 unfold clrU
 have hi:i<(clrP c f L).length:=by rw [clrP_len];exact h
 have e:((clrP c f L).take i).length=i:=by rw [List.length_take,clrP_len];omega
 rw [List.take_succ_eq_append_getElem hi,clrP_get c f L i h,if_pos hb,List.set_append,if_neg (by omega),e,Nat.sub_self,List.drop_eq_getElem_cons h,List.set_cons_zero,List.append_assoc]
 rfl
theorem clrU_good {N n c:Nat} {f:PV} {L:List PV} (hf:GoodP N n f) (hL:∀ p∈L,GoodP N n p) (i:Nat):∀ p∈clrU c f L i,GoodP N n p:=fun p hp=>by
 rcases List.mem_append.1 hp with h | h
 ·exact clrP_good hf hL p (List.mem_of_mem_take h)
 ·exact hL p (List.mem_of_mem_drop h)
theorem set_getD (L:List PV) (i j:Nat) (p:PV) (h:j<L.length):(L.set i p).getD j pv0=if i=j then p else L.getD j pv0:=by
 simp only [List.getD,List.getElem?_set]
 by_cases e:i=j
 ·subst e;simp [h]
 ·simp [e]
def CellsRow (w:World) (base:Nat) (t:TypeId) (v:Value) (n:Nat) (xs:List Value):Prop:=
 ∃ A c,v=.slice A n c∧n≤c∧c≤maxLen∧(0<n→∃ g cur,A=some ⟨g,0,none⟩∧base≤g∧Box w g t cur∧cur.toList.take xs.length=xs)
section
variable {w w':World} {base n:Nat} {t:TypeId} {v:Value} {xs:List Value}
theorem CellsRow.of {sz:Nat} (h:w.ownsRow base t sz v n xs):CellsRow w base t v n xs:=by
 rcases h.2 with ⟨hv,hz⟩ |⟨g,cap,cur,hv,hb,hh,hc,hm,h1,h2⟩
 ·exact⟨none,0,by rw [hv,hz],by omega,by simp [maxLen],fun h=>by omega⟩
 ·exact⟨some ⟨g,0,none⟩,cap,hv,hc,hm,fun _=>⟨g,cur,rfl,hb,hh,by rw [h.1];exact h2⟩⟩
theorem CellsRow.keep (h:CellsRow w base t v n xs) (hb:Below w.heap.size w w'):CellsRow w' base t v n xs:=by
 obtain⟨A,c,h1,h2,h3,h4⟩:=h
 exact⟨A,c,h1,h2,h3,fun hn=>by obtain⟨g,cur,a,b,d,e⟩:=h4 hn;exact⟨g,cur,a,b,d.keep hb,e⟩⟩
theorem CellsRow.far (h:CellsRow w base t v n xs) {g:Nat} {t':TypeId} {cs:Array Value} (hb:Box w g t' cs) (hne:t≠t') (i:Nat) (u:Value):CellsRow (w.setCell ⟨g,i,none⟩ u) base t v n xs:=by
 obtain⟨A,c,h1,h2,h3,h4⟩:=h
 refine⟨A,c,h1,h2,h3,fun hn=>?_⟩
 obtain⟨g',cur,a,b,d,e⟩:=h4 hn
 have:g'≠g:=fun e=>by
  subst e
  unfold Box at hb d
  rw [hb] at d
  injection d with d
  injection d with _ d
  exact hne d.symm
 exact⟨g',cur,a,b,d.far this u,e⟩
theorem CellsRow.put {g c:Nat} (h:CellsRow w base t (.slice (some ⟨g,0,none⟩) n c) n xs) (hn:0<n) (i:Nat) (u:Value):CellsRow (w.setCell ⟨g,i,none⟩ u) base t (.slice (some ⟨g,0,none⟩) n c) n (xs.set i u):=by
 obtain⟨A,c',h1,h2,h3,h4⟩:=h
 obtain⟨g',cur,a,b,d,e⟩:=h4 hn
 injection h1 with h1 _ h1'
 rw [← h1] at a
 injection a with a
 injection a with a
 subst a
 subst h1'
 refine⟨_,c,rfl,h2,h3,fun _=>⟨g,_,rfl,b,d.put i u,?_⟩⟩
 rw [Array.toList_setIfInBounds,List.length_set,List.take_set,e]
theorem CellsRow.take (h:CellsRow w base t v n xs) {A:Option Addr} {c:Nat} (hv:v=.slice A n c) (m:Nat) (hm:m≤n) (c':Nat) (h1:m≤c') (h2:c'≤c) (k:Nat):CellsRow w base t (.slice A m c') m (xs.take k):=by
 subst hv
 obtain⟨A',c'',h3,h4,h5,h6⟩:=h
 injection h3 with h3 _ h3'
 subst h3 h3'
 refine⟨A,c',rfl,h1,by omega,fun hp=>?_⟩
 obtain⟨g,cur,a,b,d,e⟩:=h6 (by omega)
 refine⟨g,cur,a,b,d,?_⟩
 have:(xs.take k).length=min k xs.length:=List.length_take
 rw [this,← List.take_take,e]
theorem CellsRow.cell {g c:Nat} (h:CellsRow w base t (.slice (some ⟨g,0,none⟩) n c) n xs) (hn:0<n) (i:Nat) (u:Value) (hi:xs[i]?=some u):w.cell? ⟨g,i,none⟩=some u∧w.frozen? ⟨g,i,none⟩=false:=by
 obtain⟨A,c',h1,h2,h3,h4⟩:=h
 obtain⟨g',cur,a,b,d,e⟩:=h4 hn
 injection h1 with h1 _ h1'
 rw [← h1] at a
 injection a with a
 injection a with a
 subst a
 refine⟨?_,d.free i⟩
 rw [d.cell i]
 rw [← e] at hi
 obtain⟨hl,-⟩:=List.getElem?_eq_some_iff.1 hi
 rw [List.getElem?_take_of_lt (by rw [List.length_take] at hl;omega)] at hi
 simpa using hi
theorem CellsRow.form (h:CellsRow w base t v n xs) (hn:0<n):∃ g c,v=.slice (some ⟨g,0,none⟩) n c∧base≤g∧n≤c∧c≤maxLen∧∃ cur,Box w g t cur:=by
 obtain⟨A,c,h1,h2,h3,h4⟩:=h
 obtain⟨g,cur,a,b,d,e⟩:=h4 hn
 subst a
 exact⟨g,c,h1,b,h2,h3,cur,d⟩
theorem CellsRow.form0 (h:CellsRow w base t v n xs):∃ A c,v=.slice A n c∧n≤c∧c≤maxLen:=by
 obtain⟨A,c,h1,h2,h3,h4⟩:=h
 exact⟨A,c,h1,h2,h3⟩
end
def prV (r:RowV) (s:ByteArray):List Value:=[.int .i64 r.1,.slice r.2.1 r.2.2.1 r.2.2.2,.string s]
def prC:List RowV→List PV→List Value
 | r::rs,p::L=>.int .i64 r.1::.slice r.2.1 r.2.2.1 r.2.2.2::.string p.2::prC rs L
 | _,_=>[]
theorem prC_len:∀ (rs:List RowV) (L:List PV),rs.length=L.length→(prC rs L).length=L.length*3
 | [],[],_=>rfl
 | r::rs,p::L,h=>by simp only [prC,List.length_cons,prC_len rs L (by simpa using h)];omega
theorem prC_at:∀ (rs:List RowV) (L:List PV),rs.length=L.length→∀ i,i<L.length→(prC rs L)[i*3]?=some (.int .i64 (rs.getD i (0,none,0,0)).1)∧(prC rs L)[i*3+1]?=some (.slice (rs.getD i (0,none,0,0)).2.1 (rs.getD i (0,none,0,0)).2.2.1 (rs.getD i (0,none,0,0)).2.2.2)∧(prC rs L)[i*3+2]?=some (.string (L.getD i pv0).2)
 | [],[],_,i,h=>by cases h
 | r::rs,p::L,_,0,_=>⟨rfl,rfl,rfl⟩
 | r::rs,p::L,h,i+1,hi=>by
   have ih:=prC_at rs L (by simpa using h) i (by simpa using hi)
   rw [show (i+1)*3=i*3+3 by omega]
   simp only [prC]
   exact⟨ih.1,ih.2.1,ih.2.2⟩
theorem prC_set:∀ (rs:List RowV) (L:List PV),rs.length=L.length→∀ i,i<L.length→∀ (r:RowV) (p:PV),(((prC rs L).set (i*3) (.int .i64 r.1)).set (i*3+1) (.slice r.2.1 r.2.2.1 r.2.2.2)).set (i*3+2) (.string p.2)=prC (rs.set i r) (L.set i p)
 | [],[],_,i,h,_,_=>by cases h
 | r0::rs,p0::L,_,0,_,r,p=>rfl
 | r0::rs,p0::L,h,i+1,hi,r,p=>by
   have ih:=prC_set rs L (by simpa using h) i (by simpa using hi) r p
   rw [show (i+1)*3=i*3+3 by omega,show i*3+3+1=i*3+1+3 by omega,show i*3+3+2=i*3+2+3 by omega]
   simp only [prC,List.set_cons_succ]
   rw [ih]
theorem prC_snoc:∀ (rs:List RowV) (L:List PV),rs.length=L.length→∀ (r:RowV) (p:PV),prC (rs++[r]) (L++[p])=prC rs L++prV r p.2
 | [],[],_,r,p=>rfl
 | r0::rs,p0::L,h,r,p=>by simp only [List.cons_append,prC,prC_snoc rs L (by simpa using h) r p]
theorem prC_take:∀ (rs:List RowV) (L:List PV),rs.length=L.length→∀ i,(prC rs L).take (i*3)=prC (rs.take i) (L.take i)
 | [],[],_,i=>by simp [prC]
 | r0::rs,p0::L,_,0=>by simp [prC]
 | r0::rs,p0::L,h,i+1=>by
   rw [show (i+1)*3=i*3+3 by omega]
   simp only [prC,List.take_succ_cons]
   rw [prC_take rs L (by simpa using h) i]
theorem prC_drop:∀ (rs:List RowV) (L:List PV),rs.length=L.length→∀ i,(prC rs L).drop (i*3)=prC (rs.drop i) (L.drop i)
 | [],[],_,i=>by simp [prC]
 | r0::rs,p0::L,_,0=>by simp [prC]
 | r0::rs,p0::L,h,i+1=>by
   rw [show (i+1)*3=i*3+3 by omega]
   simp only [prC,List.drop_succ_cons]
   rw [prC_drop rs L (by simpa using h) i]
theorem prC_app:∀ (rs:List RowV) (L:List PV),rs.length=L.length→∀ (ss:List RowV) (M:List PV),prC (rs++ss) (L++M)=prC rs L++prC ss M
 | [],[],_,ss,M=>rfl
 | r0::rs,p0::L,h,ss,M=>by simp only [List.cons_append,prC,prC_app rs L (by simpa using h) ss M]
def PairsQ (w0 w:World) (base:Nat) (v:Value) (N:Nat) (L:List PV):Prop:=
 ∃ rs:List RowV,rs.length=L.length∧CellsRow w base 200 v L.length (prC rs L)∧∀ j,j<L.length→RowQ w0 w N (rs.getD j (0,none,0,0)) (L.getD j pv0).1
theorem RowQ.words {w0 w:World} {N:Nat} {r:RowV} {x:Nat} (h:RowQ w0 w N r x) {B:Nat} (hB:w0.heap.size≤B) (hb:Below B w0 w):Words w r.2.1 r.2.2.1 (rowOf N x):=by
 rcases h.2.2 with a | a
 ·exact a.mono hB hb
 ·exact a.words (rowOf_lt N _)
theorem RowQ.far {w0 w:World} {N:Nat} {r:RowV} {x:Nat} (h:RowQ w0 w N r x) {g:Nat} {t:TypeId} {cs:Array Value} (hb:Box w g t cs) (hne:22≠t) (i:Nat) (u:Value):RowQ w0 (w.setCell ⟨g,i,none⟩ u) N r x:=⟨h.1,h.2.1,h.2.2.imp id (fun o=>o.far hb hne i u)⟩
section
variable {w0 w w':World} {base:Nat} {v:Value} {N:Nat} {L:List PV}
theorem PairsQ.keep (h:PairsQ w0 w base v N L) (hb:Below w.heap.size w w'):PairsQ w0 w' base v N L:=by
 obtain⟨rs,h1,h2,h3⟩:=h
 exact⟨rs,h1,h2.keep hb,fun j hj=>(h3 j hj).below hb⟩
theorem PairsQ.form (h:PairsQ w0 w base v N L) (hn:0<L.length):∃ g c,v=.slice (some ⟨g,0,none⟩) L.length c∧base≤g∧g<w.heap.size∧L.length≤c∧c≤maxLen:=by
 obtain⟨rs,h1,h2,h3⟩:=h
 obtain⟨g,c,a,b,d,e,cur,f⟩:=h2.form hn
 exact⟨g,c,a,b,f.lt,d,e⟩
theorem PairsQ.form0 (h:PairsQ w0 w base v N L):∃ A c,v=.slice A L.length c∧L.length≤c∧c≤maxLen:=by
 obtain⟨rs,h1,h2,h3⟩:=h
 exact h2.form0
theorem PairsQ.at {g c:Nat} (h:PairsQ w0 w base (.slice (some ⟨g,0,none⟩) L.length c) N L) (i:Nat) (hi:i<L.length) :
  ∃ A l d,w.cell? ⟨g,i*3,none⟩=some (.int .i64 N)∧w.cell? ⟨g,i*3+1,none⟩=some (.slice A l d)∧w.cell? ⟨g,i*3+2,none⟩=some (.string (L.getD i pv0).2)∧RowQ w0 w N ((N:Int),A,l,d) (L.getD i pv0).1∧w.frozen? ⟨g,i*3,none⟩=false∧w.frozen? ⟨g,i*3+1,none⟩=false∧w.frozen? ⟨g,i*3+2,none⟩=false:=by
 obtain⟨rs,h1,h2,h3⟩:=h
 obtain⟨a1,a2,a3⟩:=prC_at rs L h1 i hi
 have q:=h3 i hi
 have hn:0<L.length:=by omega
 have c1:=h2.cell hn _ _ a1
 have c2:=h2.cell hn _ _ a2
 have c3:=h2.cell hn _ _ a3
 rw [q.1] at c1
 refine⟨_,_,_,c1.1,c2.1,c3.1,⟨rfl,q.2.1,q.2.2⟩,c1.2,c2.2,c3.2⟩
theorem PairsQ.put {g c:Nat} (h:PairsQ w0 w base (.slice (some ⟨g,0,none⟩) L.length c) N L) (i:Nat) (hi:i<L.length) (p:PV) {A:Option Addr} {l d:Nat} (hw:RowQ w0 w N ((N:Int),A,l,d) p.1) :
  PairsQ w0 (((w.setCell ⟨g,i*3,none⟩ (.int .i64 N)).setCell ⟨g,i*3+1,none⟩ (.slice A l d)).setCell ⟨g,i*3+2,none⟩ (.string p.2)) base (.slice (some ⟨g,0,none⟩) L.length c) N (L.set i p):=by
 obtain⟨rs,h1,h2,h3⟩:=h
 have hn:0<L.length:=by omega
 obtain⟨g',c',hv,-,-,-,cur,hbx⟩:=h2.form hn
 injection hv with hv
 injection hv with hv
 injection hv with hv
 subst hv
 have s:=((h2.put hn (i*3) (.int .i64 N)).put hn (i*3+1) (.slice A l d)).put hn (i*3+2) (.string p.2)
 rw [show (((prC rs L).set (i*3) (.int .i64 (N:Int))).set (i*3+1) (.slice A l d)).set (i*3+2) (.string p.2)=prC (rs.set i ((N:Int),A,l,d)) (L.set i p) from prC_set rs L h1 i hi ((N:Int),A,l,d) p] at s
 have far:∀ {r:RowV} {x:Nat},RowQ w0 w N r x→RowQ w0 (((w.setCell ⟨g,i*3,none⟩ (.int .i64 N)).setCell ⟨g,i*3+1,none⟩ (.slice A l d)).setCell ⟨g,i*3+2,none⟩ (.string p.2)) N r x:=fun q=>((q.far hbx (by decide) _ _).far (hbx.put _ _) (by decide) _ _).far ((hbx.put _ _).put _ _) (by decide) _ _
 refine⟨rs.set i ((N:Int),A,l,d),by simp [h1],by rw [List.length_set];exact s,fun j hj=>?_⟩
 rw [List.length_set] at hj
 rw [set_getD L i j p hj]
 by_cases e:i=j
 ·subst e
  have e1:(rs.set i ((N:Int),A,l,d)).getD i (0,none,0,0)=((N:Int),A,l,d):=by simp [List.getD,h1,hi]
  rw [e1,if_pos rfl]
  exact far hw
 ·have e1:(rs.set i ((N:Int),A,l,d)).getD j (0,none,0,0)=rs.getD j (0,none,0,0):=by simp only [List.getD];rw [List.getElem?_set_ne e]
  rw [e1,if_neg e]
  exact far (h3 j hj)
end
end
section
/- backsub: pair.has, pair.isAlone, pair.plus. -/
open Go.RowKit
set_option maxRecDepth 100000
theorem pairHas_any (N x:Nat) (hN:N≤512) (hx:x<2 ^ N) (A:Option Addr) (l c p:Nat) (s:ByteArray) (hp:p<N) (w:World) (hw:Words w A l (rowOf N x)) :
  Calls Tryz.prog 165 #[.agg #[.int .i64 N,.slice A l c,.string s],.int .i64 (p:Int)] w fun e w'=>e=.returned (.bool (x.testBit p))∧Below w.heap.size w w':=by
 have hW:Below w.heap.size w (w.alloc (.cells #[.int .i64 N,.slice A l c,.string s] 200)):=(Below.refl _ _).alloc (Nat.le_refl _) _
 have Q:=Box.new w 200 #[.int .i64 (N:Int),.slice A l c,.string s]
 have HG:=hZ (get_yes N p A l c (rowOf N x) _ (rowOf_right N x hN hx) hp (hw.below hW))
 rw [rowOf_bitN N x p hp] at HG
 have HW:=hZ hW
 obtain⟨q0,q1,q2,-,-,-⟩:=Q.three
 clear hw hW Q
 cases hb:x.testBit p with
 | true=>
   rw [hb] at HG
   clear hb
   go_enter Tryz.func165,Tryz.ntmps165
   go_wp2_with fail
   refine HG.out.mono ?_
   rintro e w1 ⟨rfl,hb⟩
   have B:=hZ (chainN HW.out HW.out.size hb)
   clear hb
   go_wp2_with fail
   go_ret
   exact⟨by simp,B.out⟩
 | false=>
   rw [hb] at HG
   clear hb
   go_enter Tryz.func165,Tryz.ntmps165
   go_wp2_with fail
   refine HG.out.mono ?_
   rintro e w1 ⟨rfl,hb⟩
   have B:=hZ (chainN HW.out HW.out.size hb)
   clear hb
   go_wp2_with fail
   go_ret
   exact⟨by simp,B.out⟩
theorem Box.put3 {w:World} {g:Nat} {t:TypeId} {a b d u v x:Value} (h:Box w g t #[a,b,d]):Box (((w.setCell ⟨g,0,none⟩ u).setCell ⟨g,1,none⟩ v).setCell ⟨g,2,none⟩ x) g t #[u,v,x]:=((h.put 0 u).put 1 v).put 2 x
def popN (N x:Nat):Nat:=(plcN (rowOf N x) (64*(rowOf N x).length)).length
theorem isAlone_any (N x:Nat) (hN:N≤512) (hx:x<2 ^ N) (A:Option Addr) (l c:Nat) (s:ByteArray) (w:World) (hw:Words w A l (rowOf N x)) :
  Calls Tryz.prog 151 #[.agg #[.int .i64 N,.slice A l c,.string s]] w fun e w'=>e=.returned (.bool (decide (popN N x=1)))∧Below w.heap.size w w':=by
 have hl:=hw.1
 have hW:Below w.heap.size w (w.alloc (.cells #[.int .i64 N,.slice A l c,.string s] 200)):=(Below.refl _ _).alloc (Nat.le_refl _) _
 have Q:=Box.new w 200 #[.int .i64 (N:Int),.slice A l c,.string s]
 have HG:=hZ (count_yes N A l c (rowOf N x) _ (rowOf_right N x hN hx) (hw.below hW))
 have HW:=hZ hW
 obtain⟨m,hm⟩:∃ m,m=popN N x:=⟨_,rfl⟩
 have hm2:(plcN (rowOf N x) (64*l)).length=m:=by rw [hm,popN,hl]
 rw [hm2] at HG
 rw [← hm]
 obtain⟨q0,q1,q2,-,-,-⟩:=Q.three
 clear hw hW Q hm hm2 hl
 by_cases h1:m=1
 ·subst h1
  go_enter Tryz.func151,Tryz.ntmps151
  go_wp2_with fail
  refine HG.out.mono ?_
  rintro e w1 ⟨rfl,hb⟩
  have B:=hZ (chainN HW.out HW.out.size hb)
  clear hb
  go_wp2_with fail
  go_ret
  exact⟨by simp,B.out⟩
 ·have t:((m:Int)==1)=false:=by simp;omega
  have t2:decide (m=1)=false:=by simpa using h1
  rw [t2]
  go_enter Tryz.func151,Tryz.ntmps151
  go_wp2_with fail
  refine HG.out.mono ?_
  rintro e w1 ⟨rfl,hb⟩
  have B:=hZ (chainN HW.out HW.out.size hb)
  clear hb
  go_wp2_with fail
  go_ret
  exact⟨by simp,B.out⟩
def PlusOut (N:Nat) (p:PV) (w:World) (e:Ending) (w':World):Prop:=
 ∃ A l c,e=.returned (.agg #[.int .i64 (N:Int),.slice A l c,.string p.2])∧OwnW w' A l c (rowOf N p.1)∧Below w.heap.size w w'
theorem plus_any (N n:Nat) (hN:N≤512) (hn:n≤64) (p q:PV) (hp:GoodP N n p) (hq:GoodP N n q) (A B:Option Addr) (l c k d:Nat) (w:World) (hu:Words w A l (rowOf N p.1)) (hv:Words w B k (rowOf N q.1)) :
  Calls Tryz.prog 166 #[.agg #[.int .i64 N,.slice A l c,.string p.2],.agg #[.int .i64 N,.slice B k d,.string q.2]] w (PlusOut N (plusP p q) w):=by
 have b1:Below w.heap.size w (((w.alloc (.cells #[.int .i64 N,.slice A l c,.string p.2] 200)).alloc (.cells #[.int .i64 N,.slice B k d,.string q.2] 200)).alloc (.cells #[.int .i64 0,.slice none 0 0,.string ⟨#[]⟩] 200)):=(((Below.refl _ _).alloc (Nat.le_refl _) _).alloc (by simp) _).alloc (by simp;omega) _
 have Q0:=((Box.new w 200 #[.int .i64 (N:Int),.slice A l c,.string p.2]).alloc (.cells #[.int .i64 N,.slice B k d,.string q.2] 200)).alloc (.cells #[.int .i64 0,.slice none 0 0,.string ⟨#[]⟩] 200)
 have Q1:=(Box.new (w.alloc (.cells #[.int .i64 (N:Int),.slice A l c,.string p.2] 200)) 200 #[.int .i64 (N:Int),.slice B k d,.string q.2]).alloc (.cells #[.int .i64 0,.slice none 0 0,.string ⟨#[]⟩] 200)
 have Q2:=Box.new ((w.alloc (.cells #[.int .i64 (N:Int),.slice A l c,.string p.2] 200)).alloc (.cells #[.int .i64 N,.slice B k d,.string q.2] 200)) 200 #[.int .i64 0,.slice none 0 0,.string ⟨#[]⟩]
 simp only [World.size_alloc] at Q1 Q2
 have HQ0:=hZ Q0
 have HQ1:=hZ Q1
 have HQ2:=hZ Q2
 have HB:=hZ b1
 have HX:=hZ (xor_num N p.1 q.1 hN hp.1 hq.1 A B l c k d _ (hu.below b1) (hv.below b1))
 have HS:=hZ (fun W=>bxor_any p.2 q.2 (by rw [hp.2];unfold maxLen;omega) (by rw [hq.2];unfold maxLen;omega) W)
 have HE:=hZ (plus_sum hp.2 hq.2 hn)
 obtain⟨a0,a1,a2,-,-,-⟩:=HQ0.out.three
 obtain⟨c0,c1,c2,-,-,-⟩:=HQ1.out.three
 clear b1 Q0 Q1 Q2 hu hv
 go_enter Tryz.func166,Tryz.ntmps166
 go_wp2_with fail
 refine HX.out.mono ?_
 rintro e w1 ⟨A3,l3,c3,rfl,ow,hb⟩
 have HB1:=hZ (chainN HB.out HB.out.size hb)
 have R0:=hZ (HQ0.out.keep hb)
 have R1:=hZ (HQ1.out.keep hb)
 have R2:=hZ (HQ2.out.keep hb)
 have OW:=hZ ow
 clear hb ow HX HQ0 HQ1 HQ2 HB a0 a1 a2 c0 c1 c2
 obtain⟨a0,a1,a2,-,-,-⟩:=R0.out.three
 obtain⟨c0,c1,c2,-,-,-⟩:=R1.out.three
 have al:Below w1.heap.size w1 (w1.alloc (.cells #[.int .i64 (N:Int),.slice A3 l3 c3] 139)):=(Below.refl _ _).alloc (Nat.le_refl _) _
 have T:=hZ (Box.new w1 139 #[.int .i64 (N:Int),.slice A3 l3 c3])
 have AL1:=hZ al
 obtain⟨a0',a1',a2',-,-,-⟩:=(R0.out.keep al).three
 obtain⟨c0',c1',c2',-,-,-⟩:=(R1.out.keep al).three
 clear al
 go_wp2_with fail
 refine (HS.out _).mono ?_
 rintro e w2 ⟨rfl,hb⟩
 have HB2:=hZ (chainN HB1.out HB1.out.size (chainN AL1.out AL1.out.size hb))
 have T2:=hZ (T.out.keep hb)
 have S2:=hZ ((R2.out.keep AL1.out).keep hb)
 have OW2:=hZ ((OW.out.below AL1.out).below hb)
 rw [HE.out]
 clear hb HS a0 a1 a2 c0 c1 c2 a0' a1' a2' c0' c1' c2' R0 R1 R2 T AL1 OW HB1 HE
 obtain⟨t0,t1,-,-⟩:=T2.out.two
 obtain⟨s0,s1,s2,f0,f1,f2⟩:=S2.out.three
 go_wp2_with fail
 refine close_one Tryz.results166 rfl rfl S2.out.put3 Tryz.underlying200 rfl (by kernel_rfl) ⟨A3,l3,c3,rfl,?_,?_⟩
 ·exact (((OW2.out.far S2.out (by decide) _ _).far (S2.out.put _ _) (by decide) _ _).far ((S2.out.put _ _).put _ _) (by decide) _ _)
 ·exact ((HB2.out.setCell (p:=⟨w.heap.size+1+1,0,none⟩) (by simp;omega) _).setCell (p:=⟨w.heap.size+1+1,1,none⟩) (by simp;omega) _).setCell (p:=⟨w.heap.size+1+1,2,none⟩) (by simp;omega) _
end
section
/- backsub: chosen. -/
open Go.RowKit
set_option maxRecDepth 100000
theorem add_zero0 (g j:Nat):(⟨g,0,none⟩:Addr).add j=⟨g,j,none⟩:=by by_cases h:j=0<;>simp [Addr.add,h]
theorem add_off (g m j:Nat):(⟨g,m,none⟩:Addr).add j=⟨g,m+j,none⟩:=by by_cases h:j=0<;>simp [Addr.add,h]
theorem CellsRow.olds {w:World} {base n g c:Nat} {t:TypeId} {xs:List Value} (h:CellsRow w base t (.slice (some ⟨g,0,none⟩) n c) n xs) (hn:0<n) (m:Nat):∀ b,some (⟨g,0,none⟩:Addr)=some b→∀ j u,(xs.take m)[j]?=some u→w.cell? (b.add j)=some u:=by
 intro b hb j u hu
 injection hb with hb
 subst hb
 rw [add_zero0]
 obtain⟨hl,-⟩:=List.getElem?_eq_some_iff.1 hu
 rw [List.length_take] at hl
 rw [List.getElem?_take_of_lt (by omega)] at hu
 exact (h.cell hn j u hu).1
theorem CellsRow.news {w:World} {base n g c:Nat} {t:TypeId} {xs:List Value} (h:CellsRow w base t (.slice (some ⟨g,0,none⟩) n c) n xs) (hn:0<n) (m:Nat):∀ j u,(xs.drop m)[j]?=some u→w.cell? ((⟨g,m,none⟩:Addr).add j)=some u:=by
 intro j u hu
 rw [add_off]
 rw [List.getElem?_drop] at hu
 exact (h.cell hn _ u hu).1
theorem CellsRow.low {w:World} {base b2 n:Nat} {t:TypeId} {v:Value} {xs:List Value} (h:CellsRow w base t v n xs) (hb:b2≤base):CellsRow w b2 t v n xs:=by
 obtain⟨A,c,h1,h2,h3,h4⟩:=h
 exact⟨A,c,h1,h2,h3,fun hn=>by obtain⟨g,cur,a,b,d,e⟩:=h4 hn;exact⟨g,cur,a,Nat.le_trans hb b,d,e⟩⟩
theorem Box.quad {w:World} {g:Nat} {t:TypeId} {a b d e:Value} (h:Box w g t #[a,b,d,e]):w.cell? ⟨g,0,none⟩=some a∧w.cell? ⟨g,1,none⟩=some b∧w.cell? ⟨g,2,none⟩=some d∧w.cell? ⟨g,3,none⟩=some e∧w.frozen? ⟨g,0,none⟩=false∧w.frozen? ⟨g,1,none⟩=false∧w.frozen? ⟨g,2,none⟩=false∧w.frozen? ⟨g,3,none⟩=false:=
 ⟨h.cell 0,h.cell 1,h.cell 2,h.cell 3,h.free 0,h.free 1,h.free 2,h.free 3⟩
theorem gn_box {w w1:World} {b:Nat} {t:TypeId} {cs:Array Value} (h:Box w b t cs) (k:w.grownBy w1 none):Box w1 b t cs:=(k.block b h.lt (by intro e;cases e)).trans h
theorem gd_below {w w1:World} (k:w.drew.grownBy w1 none):Below w.heap.size w w1:=⟨k.os,k.tape,k.output,k.size,fun b hb=>k.block b hb (by intro e;cases e)⟩
theorem prC_one:∀ (rs:List RowV) (L:List PV),∀ u∈prC rs L,u.oneCell'=true
 | [],_,u,h=>by simp [prC] at h
 | r::rs,[],u,h=>by simp [prC] at h
 | r::rs,p::L,u,h=>by
   simp only [prC,List.mem_cons] at h
   rcases h with rfl | rfl | rfl | h
   ·rfl
   ·rfl
   ·rfl
   ·exact prC_one rs L u h
def ownW (W:World) (b N:Nat) (A:Option Addr) (l d:Nat) (s:ByteArray) (c:Nat):World:=(((W.setCell ⟨b,0,none⟩ (.int .i64 (N:Int))).setCell ⟨b,1,none⟩ (.slice A l d)).setCell ⟨b,2,none⟩ (.string s)).setCell ⟨b,3,none⟩ (.int .i64 (c:Int))
section
variable {W:World} {b N:Nat} {A:Option Addr} {l d:Nat} {s:ByteArray} {c:Nat} {x1 x2 x3 x4:Value}
theorem ownW_box (h:Box W b 202 #[x1,x2,x3,x4]):Box (ownW W b N A l d s c) b 202 #[.int .i64 (N:Int),.slice A l d,.string s,.int .i64 (c:Int)]:=(((h.put 0 _).put 1 _).put 2 _).put 3 _
theorem ownW_row (h:Box W b 202 #[x1,x2,x3,x4]) {w0:World} {n:Nat} {r:RowV} {x:Nat} (q:RowQ w0 W n r x):RowQ w0 (ownW W b N A l d s c) n r x:=(((q.far h (by decide) _ _).far (h.put _ _) (by decide) _ _).far ((h.put _ _).put _ _) (by decide) _ _).far (((h.put _ _).put _ _).put _ _) (by decide) _ _
theorem ownW_cells (h:Box W b 202 #[x1,x2,x3,x4]) {base n:Nat} {v:Value} {xs:List Value} (q:CellsRow W base 200 v n xs):CellsRow (ownW W b N A l d s c) base 200 v n xs:=(((q.far h (by decide) _ _).far (h.put _ _) (by decide) _ _).far ((h.put _ _).put _ _) (by decide) _ _).far (((h.put _ _).put _ _).put _ _) (by decide) _ _
theorem PairsQ.owned {N':Nat} (h:Box W b 202 #[x1,x2,x3,x4]) {w0:World} {base n:Nat} {v:Value} {L:List PV} (q:PairsQ w0 W base v n L):PairsQ w0 (ownW W b N' A l d s c) base v n L:=by
 obtain⟨rs,h1,h2,h3⟩:=q
 exact⟨rs,h1,ownW_cells h h2,fun j hj=>ownW_row h (h3 j hj)⟩
theorem ownW_below {B:Nat} {w:World} (h:Below B w W) (hb:B≤b):Below B w (ownW W b N A l d s c):=(((h.setCell (p:=⟨b,0,none⟩) hb _).setCell (p:=⟨b,1,none⟩) hb _).setCell (p:=⟨b,2,none⟩) hb _).setCell (p:=⟨b,3,none⟩) hb _
end
theorem PairsQ.erased {w0 w w1:World} {b2:Nat} {v1:Value} {N:Nat} {L:List PV} {rs:List RowV} (h1:rs.length=L.length) (h3:∀ j,j<L.length→RowQ w0 w N (rs.getD j (0,none,0,0)) (L.getD j pv0).1) (i m:Nat) (hi:i<L.length) (hm:m=L.length-1)
  (ho:CellsRow w1 b2 200 v1 m (prC (rs.take i) (L.take i)++prC (rs.drop (i+1)) (L.drop (i+1)))) (hq:∀ r x,RowQ w0 w N r x→RowQ w0 w1 N r x):PairsQ w0 w1 b2 v1 N (L.eraseIdx i):=by
 have hl:(L.eraseIdx i).length=m:=by rw [List.length_eraseIdx,if_pos hi,hm]
 rw [← prC_app _ _ (by simp [h1])] at ho
 have e1:L.take i++L.drop (i+1)=L.eraseIdx i:=(List.eraseIdx_eq_take_drop_succ L i).symm
 have e2:rs.take i++rs.drop (i+1)=rs.eraseIdx i:=(List.eraseIdx_eq_take_drop_succ rs i).symm
 rw [e1,e2] at ho
 refine⟨rs.eraseIdx i,by rw [List.length_eraseIdx,List.length_eraseIdx,h1],by rw [hl];exact ho,fun j hj=>?_⟩
 rw [hl] at hj
 have g1:(L.eraseIdx i).getD j pv0=if j<i then L.getD j pv0 else L.getD (j+1) pv0:=by
  simp only [List.getD,List.getElem?_eraseIdx];split<;>rfl
 have g2:(rs.eraseIdx i).getD j (0,none,0,0)=if j<i then rs.getD j (0,none,0,0) else rs.getD (j+1) (0,none,0,0):=by
  simp only [List.getD,List.getElem?_eraseIdx];split<;>rfl
 rw [g1,g2]
 split
 ·exact hq _ _ (h3 j (by omega))
 ·exact hq _ _ (h3 (j+1) (by omega))
theorem PairsQ.short {w0 w:World} {base g c:Nat} {N:Nat} {L:List PV} (h:PairsQ w0 w base (.slice (some ⟨g,0,none⟩) L.length c) N L) (i:Nat) (hi:i+1=L.length) (hc:i≤c):PairsQ w0 w base (.slice (some ⟨g,0,none⟩) i i) N (L.eraseIdx i):=by
 obtain⟨rs,h1,h2,h3⟩:=h
 have e1:L.eraseIdx i=L.take i:=by rw [List.eraseIdx_eq_take_drop_succ,List.drop_of_length_le (by omega),List.append_nil]
 have hl:(L.eraseIdx i).length=i:=by rw [e1,List.length_take];omega
 refine⟨rs.take i,by rw [hl,List.length_take];omega,?_,fun j hj=>?_⟩
 ·have:=h2.take rfl i (by omega) i (Nat.le_refl _) hc (i*3)
  rw [prC_take rs L h1 i] at this
  rw [hl,e1];exact this
 ·rw [hl] at hj
  have g1:(L.eraseIdx i).getD j pv0=L.getD j pv0:=by rw [e1];simp [List.getD,List.getElem?_take,hj]
  have g2:(rs.take i).getD j (0,none,0,0)=rs.getD j (0,none,0,0):=by simp [List.getD,List.getElem?_take,hj]
  rw [g1,g2];exact h3 j (by omega)
theorem pair_info:(Tryz.prog.info? 200).map (fun i=>(i.zero,i.size,i.bytes))=some (some (.agg #[.int .i64 0,.slice none 0 0,.string ⟨#[]⟩]),3,48):=by kernel_rfl
def ChosenOut (w0:World) (base N:Nat) (L:List PV) (c:Nat) (w:World) (e:Ending) (w':World):Prop:=
 ∃ (i:Nat) (A:Option Addr) (l d:Nat) (v:Value),i<L.length∧(L.getD i pv0).1.testBit c=true∧e=.returned (.tuple #[.agg #[.int .i64 (N:Int),.slice A l d,.string (L.getD i pv0).2,.int .i64 (c:Int)],v]) ∧
  RowQ w0 w' N ((N:Int),A,l,d) (L.getD i pv0).1∧PairsQ w0 w' base v N (L.eraseIdx i)∧Below w.heap.size w w'
set_option maxHeartbeats 4000000 in
theorem chosen_any (N n:Nat) (hN:N≤512) (L:List PV) (hL:∀ p∈L,GoodP N n p) (hlen:L.length≤64) (c:Nat) (hc:c<N) (hex:∃ i,i<L.length∧(L.getD i pv0).1.testBit c=true) (w0:World) (base:Nat) (v:Value) (w:World) (hw0:w0.heap.size≤w.heap.size) (hb0:Below w0.heap.size w0 w) (hbase:base≤w.heap.size) (hr:PairsQ w0 w base v N L) :
  Calls Tryz.prog 163 #[v,.int .i64 (c:Int)] w (ChosenOut w0 base N L c w):=by
 obtain⟨i0,hinf,hz0,hz1,hz2⟩:=info_parts pair_info
 have hpos:0<L.length:=by obtain⟨i,h1,-⟩:=hex;omega
 obtain⟨g,cap,rfl,hgb,hgw,hcap,hcm⟩:=hr.form hpos
 unfold maxLen at hcm
 have b1:Below w.heap.size w (w.alloc (.cells #[.int .i64 0,.slice none 0 0,.string ⟨#[]⟩,.int .i64 0] 202)):=(Below.refl _ _).alloc (Nat.le_refl _) _
 have Q:=hZ (Box.new w 202 #[.int .i64 0,.slice none 0 0,.string ⟨#[]⟩,.int .i64 0])
 have HR:=hZ (hr.keep b1)
 have HB:=hZ b1
 have HEX:=hZ hex
 have HL:=hZ hL
 have HB0:=hZ hb0
 clear hr b1 hex hL hb0
 go_enter Tryz.func163,Tryz.ntmps163
 go_wp2_with fail
 go_loopw [10] (fun t wr=>∃ i:Nat,i≤L.length∧t=.int .i64 (i:Int)∧Hid (∀ j,j<i→(L.getD j pv0).1.testBit c=false)∧Hid (Below (w.heap.size+1) (w.alloc (.cells #[.int .i64 0,.slice none 0 0,.string ⟨#[]⟩,.int .i64 0] 202)) wr)) (fun t _=>L.length-(intOf t).toNat)
 case atStart=>exact⟨0,Nat.zero_le _,rfl,hZ (fun j h=>by omega),hZ (Below.refl _ _)⟩
 case round=>
  obtain⟨i,hi,rfl,HF,HBr⟩:=hrel
  have HB2:=hZ (show Below w.heap.size w wr from HB.out.trans (HBr.out.mono (by omega)))
  have HQ:=hZ (Q.out.below HBr.out (by omega))
  have HRw:=hZ (HR.out.keep (w':=wr) (HBr.out.mono (by simp)))
  by_cases hlt:i<L.length
  ·have hlt':(i:Int)<(L.length:Int):=by omega
   obtain⟨A,l,d,x0,x1,x2,rq,-,-,-⟩:=HRw.out.at i hlt
   have gp:=HL.out _ (getD_memP hlt)
   obtain⟨f,hf⟩:∃ f,f=L.getD i pv0:=⟨_,rfl⟩
   rw [← hf] at x2 rq gp
   have GP:=hZ gp
   have HFI:=hZ hf
   clear hf gp
   have al:Below wr.heap.size wr (wr.alloc (.cells #[.int .i64 (N:Int),.slice A l d,.string f.2] 200)):=(Below.refl _ _).alloc (Nat.le_refl _) _
   have RB:=hZ (Box.new wr 200 #[.int .i64 (N:Int),.slice A l d,.string f.2])
   have AL1:=hZ al
   have RQ:=hZ (rq.below al)
   have HW:=hZ (RQ.out.words (Nat.le_refl _) (chainN (chainN HB0.out hw0 HB2.out) (Nat.le_trans hw0 HB2.out.size) al))
   have HH:=hZ (pairHas_any N f.1 hN GP.out.1 A l d c f.2 hc _ HW.out)
   obtain⟨r0,r1,r2,-,-,-⟩:=RB.out.three
   have hgs:g<wr.heap.size:=Nat.lt_of_lt_of_le hgw HB2.out.size
   have hws:w.heap.size<wr.heap.size:=HQ.out.lt
   clear al rq HW
   cases hbit:f.1.testBit c with
   | false=>
     rw [hbit] at HH
     have HBt:=hZ hbit
     clear hbit
     go_wp2_with fail
     refine HH.out.mono ?_
     rintro e w1 ⟨rfl,hb⟩
     have HB3:=hZ (HBr.out.trans ((chain AL1.out hb).mono (by omega)))
     clear hb
     go_wp2_with fail
     go_roundw
     case rel=>exact⟨i+1,by omega,by go_num,hZ (fun j k1=>by
      by_cases e:j=i
      ·subst e;rw [← HFI.out];exact HBt.out
      ·exact HF.out j (by omega)),HB3⟩
     case measure=>simp [intOf];omega
   | true=>
     rw [hbit] at HH
     have HBt:=hZ hbit
     clear hbit
     go_wp2_with fail
     refine HH.out.mono ?_
     rintro e w1 ⟨rfl,hb⟩
     have HB3:=hZ (HB2.out.trans ((chain AL1.out hb).mono HB2.out.size))
     have Q3:=hZ ((HQ.out.keep AL1.out).keep hb)
     have R3:=hZ (RB.out.keep hb)
     have RQ3:=hZ (RQ.out.below hb)
     have HR3:=hZ ((HRw.out.keep AL1.out).keep hb)
     clear hb r0 r1 r2 x0 x1 x2 HH HQ RB RQ HRw HF HBr AL1 HEX
     obtain⟨r0,r1,r2,-,-,-⟩:=R3.out.three
     by_cases hend:i+1=L.length
     ·have HE:=hZ hend
      obtain⟨rs,k1,k2,k3⟩:=HR3.out
      have K1:=hZ k1
      have K2:=hZ k2
      clear k1 k2 k3
      have i0':IntKind.i64.wrap ((i:Int)+1)=(L.length:Int):=by rw [show (i:Int)+1=(L.length:Int) by omega];exact IntWalk.i64_in _ (by omega)
      have i2:(i:Int)≤(cap:Int):=by omega
      have i5:i≤cap:=by omega
      clear hend
      have C0:=hZ (show CellsRow w1.drew base 200 (.slice (some ⟨g,0,none⟩) L.length cap) L.length (prC rs L) from K2.out)
      obtain⟨z0,z1,z2,z3,zf0,zf1,zf2,zf3⟩:=Q3.out.quad
      have F:=hZ (PairsQ.owned (N':=N) (A:=A) (l:=l) (d:=d) (s:=f.2) (c:=c) (show Box w1.drew w.heap.size 202 _ from Q3.out) (HR3.out.short i HE.out i5))
      have G:=hZ (ownW_row (N:=N) (A:=A) (l:=l) (d:=d) (s:=f.2) (c:=c) Q3.out.drew RQ3.out)
      have D:=hZ (ownW_below (N:=N) (A:=A) (l:=l) (d:=d) (s:=f.2) (c:=c) HB3.out.drew (Nat.le_refl _))
      have BX:=hZ (ownW_box (N:=N) (A:=A) (l:=l) (d:=d) (s:=f.2) (c:=c) Q3.out.drew)
      by_cases hck:cap=L.length
      ·clear HR3 K1 K2
       go_wp2_with fail
       go_region_law (first
        | (refine step_append_room rfl (.tmp 24) (.tmp 28) 195 rfl 200 i0 3 Tryz.underlying195 hinf hz1 g 0 i i (by simp [Act.eval,Act.put]) ⟨g,0,none⟩ 0 (0) [] (by simp [Act.eval,Act.put]) rfl (by intro j u h;cases h) (by intro u h;cases h) (by omega) (by intro j h;cases h) ?_;simp only [World.setCells,Nat.add_zero]))
       all_goals
        go_wp2_with fail
        refine close_cell Tryz.results163 rfl rfl rfl BX.out Tryz.underlying202 rfl (by kernel_rfl) ⟨i,A,l,d,.slice (some ⟨g,0,none⟩) i i,hlt,?_⟩
        rw [← HFI.out]
        exact⟨HBt.out,rfl,G.out,F.out,D.out⟩
      ·clear HR3 K1 K2
       go_wp2_with fail
       go_region_law (first
        | (refine step_append_room rfl (.tmp 24) (.tmp 28) 195 rfl 200 i0 3 Tryz.underlying195 hinf hz1 g 0 i i (by simp [Act.eval,Act.put]) ⟨g,L.length*3,none⟩ 0 (cap-L.length) [] (by simp [Act.eval,Act.put]) rfl (by intro j u h;cases h) (by intro u h;cases h) (by omega) (by intro j h;cases h) ?_;simp only [World.setCells,Nat.add_zero]))
       all_goals
        go_wp2_with fail
        refine close_cell Tryz.results163 rfl rfl rfl BX.out Tryz.underlying202 rfl (by kernel_rfl) ⟨i,A,l,d,.slice (some ⟨g,0,none⟩) i i,hlt,?_⟩
        rw [← HFI.out]
        exact⟨HBt.out,rfl,G.out,F.out,D.out⟩
     ·obtain⟨rs,k1,k2,k3⟩:=HR3.out
      have K1:=hZ k1
      have K2:=hZ k2
      have K3:=hZ k3
      clear k1 k2 k3
      obtain⟨k,hk⟩:∃ k:Nat,k=i+1:=⟨_,rfl⟩
      have HKi:=hZ hk
      have i0':IntKind.i64.wrap ((i:Int)+1)=(k:Int):=by rw [show (i:Int)+1=(k:Int) by omega];exact IntWalk.i64_in _ (by omega)
      have i1:(k:Int)≤(L.length:Int):=by omega
      have i3:¬ cap=k:=by omega
      have i4:k<L.length:=by omega
      have HF2:=hZ (show i+(L.length-k)=L.length-1 by omega)
      clear hk
      have i2:(i:Int)≤(cap:Int):=by omega
      go_wp2_with fail
      have C0:=hZ (show CellsRow w1.drew base 200 (.slice (some ⟨g,0,none⟩) L.length cap) L.length (prC rs L) from K2.out)
      obtain⟨z0,z1,z2,z3,zf0,zf1,zf2,zf3⟩:=Q3.out.quad
      go_region_law (first
       | (refine step_append_grows rfl (.tmp 24) (.tmp 28) 195 rfl 200 i0 (.agg #[.int .i64 0,.slice none 0 0,.string ⟨#[]⟩]) 3 48 Tryz.underlying195 hinf hz0 hz1 hz2 rfl (by decide) (some ⟨g,0,none⟩) i i ((prC rs L).take (i*3)) (by simp [Act.eval,Act.put]) (by intro h;cases h) (by rw [List.length_take,prC_len rs L K1.out];omega) (C0.out.olds hpos _) ⟨g,k*3,none⟩ (L.length-k) (cap-k) ((prC rs L).drop (k*3)) (by simp [Act.eval,Act.put]) (by rw [List.length_drop,prC_len rs L K1.out];omega) (C0.out.news hpos _) (fun u hu=>prC_one rs L u (List.mem_of_mem_drop hu)) (by omega) (by unfold maxLen;omega) (by omega) ?_;intro v1 y1 hown hgrow;have HO:=hZ hown;have HG:=hZ hgrow;have QY:=hZ (gn_box Q3.out.drew hgrow);have RY:=hZ (gn_box R3.out.drew hgrow);clear hown hgrow;obtain⟨s0',s1',s2',-,-,-⟩:=RY.out.three;obtain⟨y0',y1',y2',y3',yf0,yf1,yf2,yf3⟩:=QY.out.quad))
      all_goals
       have ho:=HO.out
       rw [HF2.out,prC_take rs L K1.out,HKi.out,prC_drop rs L K1.out] at ho
       have F:=hZ (PairsQ.erased (b2:=base) K1.out K3.out i (L.length-1) hlt rfl (ownW_cells (N:=N) (A:=A) (l:=l) (d:=d) (s:=f.2) (c:=c) QY.out ((CellsRow.of ho).low (Nat.le_trans hbase HB3.out.size))) (fun r x q=>ownW_row QY.out (q.below (gd_below HG.out))))
       have G:=hZ (ownW_row (N:=N) (A:=A) (l:=l) (d:=d) (s:=f.2) (c:=c) QY.out (RQ3.out.below (gd_below HG.out)))
       have D:=hZ (ownW_below (N:=N) (A:=A) (l:=l) (d:=d) (s:=f.2) (c:=c) (chainN HB3.out HB3.out.size (gd_below HG.out)) (Nat.le_refl _))
       have BX:=hZ (ownW_box (N:=N) (A:=A) (l:=l) (d:=d) (s:=f.2) (c:=c) QY.out)
       clear ho HO HG QY RY C0 K1 K2 K3 HR3 RQ3
       go_wp2_with fail
       refine close_cell Tryz.results163 rfl rfl rfl BX.out Tryz.underlying202 rfl (by kernel_rfl) ⟨i,A,l,d,v1,hlt,?_⟩
       rw [← HFI.out]
       exact⟨HBt.out,rfl,G.out,F.out,D.out⟩
  ·obtain rfl:i=L.length:=by omega
   obtain⟨j,h1,h2⟩:=HEX.out
   rw [HF.out j h1] at h2
   cases h2
end
section
/- backsub: owner.clear. -/
open Go.RowKit
set_option maxRecDepth 100000
theorem gr_trans {w w1 w2:World} {r:Option Nat} (h:w.grownBy w1 r) (k:w1.grownBy w2 r):w.grownBy w2 r:=
 ⟨k.os.trans h.os,k.tape.trans h.tape,k.output.trans h.output,Nat.le_trans h.size k.size,fun b hb hne=>(k.block b (Nat.lt_of_lt_of_le hb h.size) hne).trans (h.block b hb hne)⟩
theorem gr_set (w:World) (g i:Nat) (u:Value) {r:Option Nat} (h:r=some g):w.grownBy (w.setCell ⟨g,i,none⟩ u) r:=by subst h;exact gk_set w g i u
theorem gr_low {w0 w w1:World} {B:Nat} {r:Option Nat} (hb:Below B w0 w) (hB:B≤w.heap.size) (h:w.grownBy w1 r) (hr:∀ g,r=some g→B≤g):Below B w0 w1:=
 hb.trans ⟨h.os,h.tape,h.output,h.size,fun b hb=>h.block b (Nat.lt_of_lt_of_le hb hB) (fun e=>by have:=hr b e.symm;omega)⟩
theorem PairsQ.block {w0 w:World} {base g c m:Nat} {N:Nat} {L:List PV} (h:PairsQ w0 w base (.slice (some ⟨g,0,none⟩) m c) N L) (hn:0<L.length):∃ cur,Box w g 200 cur:=by
 obtain⟨rs,h1,h2,h3⟩:=h
 obtain⟨g',c',hv,-,-,-,cur,hb⟩:=h2.form hn
 injection hv with hv
 injection hv with hv
 injection hv with hv
 subst hv
 exact⟨cur,hb⟩
section
variable {w0 W:World} {g i N:Nat} {A:Option Addr} {l d:Nat} {s:ByteArray} {cur:Array Value}
theorem prW_row (h:Box W g 200 cur) {n:Nat} {r:RowV} {x:Nat} (q:RowQ w0 W n r x):RowQ w0 (((W.setCell ⟨g,i*3,none⟩ (.int .i64 (N:Int))).setCell ⟨g,i*3+1,none⟩ (.slice A l d)).setCell ⟨g,i*3+2,none⟩ (.string s)) n r x:=((q.far h (by decide) _ _).far (h.put _ _) (by decide) _ _).far ((h.put _ _).put _ _) (by decide) _ _
theorem prW_box {b:Nat} {t:TypeId} {cs:Array Value} (q:Box W b t cs) (hne:b≠g):Box (((W.setCell ⟨g,i*3,none⟩ (.int .i64 (N:Int))).setCell ⟨g,i*3+1,none⟩ (.slice A l d)).setCell ⟨g,i*3+2,none⟩ (.string s)) b t cs:=((q.far (p:=⟨g,i*3,none⟩) hne _).far (p:=⟨g,i*3+1,none⟩) hne _).far (p:=⟨g,i*3+2,none⟩) hne _
end
def prW (W:World) (g i N:Nat) (A:Option Addr) (l d:Nat) (s:ByteArray):World:=((W.setCell ⟨g,i*3,none⟩ (.int .i64 (N:Int))).setCell ⟨g,i*3+1,none⟩ (.slice A l d)).setCell ⟨g,i*3+2,none⟩ (.string s)
theorem prW_grown (W:World) (g i N:Nat) (A:Option Addr) (l d:Nat) (s:ByteArray) {r:Option Nat} (h:r=some g):W.grownBy (prW W g i N A l d s) r:=gr_trans (gr_trans (gr_set _ _ _ _ h) (gr_set _ _ _ _ h)) (gr_set _ _ _ _ h)
def ClrOut (w0:World) (base N:Nat) (v:Value) (L:List PV) (w:World) (r:Option Nat) (e:Ending) (w':World):Prop:=
 (∃ u,e=.returned u)∧PairsQ w0 w' base v N L∧w.grownBy w' r
set_option maxHeartbeats 4000000 in
theorem pclear_any (N n:Nat) (hN:N≤512) (hn:n≤64) (f:PV) (hf:GoodP N n f) (L:List PV) (hL:∀ p∈L,GoodP N n p) (hlen:L.length≤64) (c:Nat) (hc:c<N) (w0:World) (base:Nat) (v:Value) (w:World) (hw0:w0.heap.size≤w.heap.size) (hb0:Below w0.heap.size w0 w) (hbase:w0.heap.size≤base)
  (A:Option Addr) (l d:Nat) (hq:RowQ w0 w N ((N:Int),A,l,d) f.1) (hr:PairsQ w0 w base v N L) (r:Option Nat) (hrr:∀ g c,0<L.length→v=.slice (some ⟨g,0,none⟩) L.length c→r=some g) (hrl:∀ g,r=some g→w0.heap.size≤g) :
  Calls Tryz.prog 164 #[.agg #[.int .i64 (N:Int),.slice A l d,.string f.2,.int .i64 (c:Int)],v] w (ClrOut w0 base N v (clrP c f L) w r):=by
 have b1:Below w.heap.size w (w.alloc (.cells #[.int .i64 (N:Int),.slice A l d,.string f.2,.int .i64 (c:Int)] 202)):=(Below.refl _ _).alloc (Nat.le_refl _) _
 have Q:=hZ (Box.new w 202 #[.int .i64 (N:Int),.slice A l d,.string f.2,.int .i64 (c:Int)])
 have HR:=hZ (hr.keep b1)
 have HQ:=hZ (hq.below b1)
 have HB:=hZ b1
 have HL:=hZ hL
 have HF:=hZ hf
 have HB0:=hZ hb0
 have HRR:=hZ hrr
 have HRL:=hZ hrl
 obtain⟨A0,cap,rfl,hcap,hcm⟩:=hr.form0
 unfold maxLen at hcm
 clear hr b1 hL hb0 hq hf hrr hrl
 go_enter Tryz.func164,Tryz.ntmps164
 go_wp2_with fail
 go_loopw [8] (fun t wr=>∃ i:Nat,i≤L.length∧t=.int .i64 (i:Int)∧Hid (Box wr w.heap.size 202 #[.int .i64 (N:Int),.slice A l d,.string f.2,.int .i64 (c:Int)])∧Hid (RowQ w0 wr N ((N:Int),A,l,d) f.1)∧Hid (PairsQ w0 wr base (.slice A0 L.length cap) N (clrU c f L i))∧Hid (w.grownBy wr r)) (fun t _=>L.length-(intOf t).toNat)
 case atStart=>exact⟨0,Nat.zero_le _,rfl,Q,HQ,hZ (by rw [clrU_zero];exact HR.out),hZ (gk_below HB.out)⟩
 case round=>
  obtain⟨i,hi,rfl,QB,RQ,PQ,HG⟩:=hrel
  have HCL:=hZ (clrU_len c f L i hi)
  have hws:w.heap.size<wr.heap.size:=QB.out.lt
  by_cases hlt:i<L.length
  ·have hlt':(i:Int)<(L.length:Int):=by omega
   have pq:=PQ.out
   obtain⟨g,cap',hv,hgb,hgw,-,-⟩:=pq.form (by rw [HCL.out];omega)
   injection hv with hv hc1 hcc
   subst hv
   clear hc1 hcc
   have HRg:=hZ (HRR.out g cap (by omega) rfl)
   rw [show L.length=(clrU c f L i).length from HCL.out.symm] at pq
   obtain⟨A1,l1,d1,x0,x1,x2,rq,-,-,-⟩:=pq.at i (by rw [HCL.out];exact hlt)
   have gp:=clrU_good HF.out HL.out i _ (getD_memP (L:=clrU c f L i) (i:=i) (by rw [HCL.out];exact hlt))
   rw [clrU_here c f L i hlt] at x2 rq gp
   obtain⟨p,hp⟩:∃ p,p=L.getD i pv0:=⟨_,rfl⟩
   rw [← hp] at x2 rq gp
   have GP:=hZ gp
   have HPI:=hZ hp
   have HBz:=hZ (gr_low HB0.out hw0 HG.out HRL.out)
   clear hp gp pq
   have al:Below wr.heap.size wr (wr.alloc (.cells #[.int .i64 (N:Int),.slice A1 l1 d1,.string p.2] 200)):=(Below.refl _ _).alloc (Nat.le_refl _) _
   have RB:=hZ (Box.new wr 200 #[.int .i64 (N:Int),.slice A1 l1 d1,.string p.2])
   have AL1:=hZ al
   have RP:=hZ (rq.below al)
   have HW:=hZ (RP.out.words (Nat.le_refl _) (chainN HBz.out (by omega) al))
   have HH:=hZ (pairHas_any N p.1 hN GP.out.1 A1 l1 d1 c p.2 hc _ HW.out)
   obtain⟨r0,r1,r2,-,-,-⟩:=RB.out.three
   obtain⟨q0,q1,q2,q3,-,-,-,-⟩:=(QB.out.keep al).quad
   clear al rq HW
   cases hbit:p.1.testBit c with
   | false=>
     rw [hbit] at HH
     have HNo:=hZ (clrU_no c f L i hlt (by rw [← HPI.out];exact hbit))
     clear hbit
     go_wp2_with fail
     refine HH.out.mono ?_
     rintro e w1 ⟨rfl,hb⟩
     have HC:=hZ (chain AL1.out hb)
     clear hb
     go_wp2_with fail
     go_roundw
     case rel=>exact⟨i+1,by omega,by go_num,hZ (QB.out.keep HC.out),hZ (RQ.out.below HC.out),hZ (by rw [HNo.out];exact PQ.out.keep HC.out),hZ (gr_trans HG.out (gk_below HC.out))⟩
     case measure=>simp [intOf];omega
   | true=>
     rw [hbit] at HH
     have HYes:=hZ (clrU_yes c f L i hlt (by rw [← HPI.out];exact hbit))
     clear hbit
     go_wp2_with fail
     refine HH.out.mono ?_
     rintro e w1 ⟨rfl,hb⟩
     have HC:=hZ (chain AL1.out hb)
     have QB1:=hZ (QB.out.keep HC.out)
     have RQ1:=hZ (RQ.out.below HC.out)
     have PQ1:=hZ (PQ.out.keep HC.out)
     have HG1:=hZ (gr_trans HG.out (gk_below HC.out))
     have R1:=hZ (RB.out.keep hb)
     have RP1:=hZ (RP.out.below hb)
     have HBz1:=hZ (chainN HBz.out (by omega) HC.out)
     clear hb QB RQ PQ HG RB RP HBz AL1 r0 r1 r2 q0 q1 q2 q3 x0 x1 x2 HH
     obtain⟨r0,r1,r2,-,-,-⟩:=R1.out.three
     obtain⟨q0,q1,q2,q3,-,-,-,-⟩:=QB1.out.quad
     have HX:=hZ (plus_any N n hN hn p f GP.out HF.out A1 A l1 d1 l d w1 (RP1.out.words (Nat.le_refl _) HBz1.out) (RQ1.out.words (Nat.le_refl _) HBz1.out))
     go_wp2_with fail
     refine HX.out.mono ?_
     rintro e w2 ⟨A3,l3,d3,rfl,ow,hb⟩
     have HC2:=hZ (chainN HC.out HC.out.size hb)
     have QB2:=hZ (QB1.out.keep hb)
     have RQ2:=hZ (RQ1.out.below hb)
     have pq2:=PQ1.out.keep hb
     have HG2:=hZ (gr_trans HG1.out (gk_below hb))
     have OW:=hZ (show RowQ w0 w2 N ((N:Int),A3,l3,d3) (plusP p f).1 from ⟨rfl,ow.ok,.inr ow⟩)
     rw [show L.length=(clrU c f L i).length from HCL.out.symm] at pq2
     have PQ2:=hZ pq2
     obtain⟨A5,l5,d5,z0,z1,z2,-,zf0,zf1,zf2⟩:=pq2.at i (by rw [HCL.out];exact hlt)
     have hgw2:g<w2.heap.size:=Nat.lt_of_lt_of_le hgw HC2.out.size
     obtain⟨cur,hcur⟩:=pq2.block (by rw [HCL.out];omega)
     have HCur:=hZ hcur
     have n1:¬ w.heap.size=g:=box_ne QB2.out hcur (by decide)
     clear hcur
     clear hb ow QB1 RQ1 PQ1 HG1 R1 RP1 HBz1 HX r0 r1 r2 q0 q1 q2 q3 pq2
     go_wp2_with fail
     go_roundw
     case rel=>
      have hput:=PQ2.out.put i (by rw [HCL.out];exact hlt) (plusP p f) OW.out
      rw [HPI.out,← HYes.out,HCL.out] at hput
      rw [← HPI.out] at hput
      exact⟨i+1,by omega,by go_num,hZ (prW_box QB2.out n1),hZ (prW_row HCur.out RQ2.out),hZ hput,hZ (gr_trans HG2.out (prW_grown w2 g i N A3 l3 d3 (plusP p f).2 HRg.out))⟩
     case measure=>simp [intOf];omega
  ·obtain rfl:i=L.length:=by omega
   have hlt':¬ (L.length:Int)<(L.length:Int):=by omega
   have pq:=PQ.out
   rw [clrU_all] at pq
   go_wp2_with fail
   go_end0
   exact⟨⟨_,rfl⟩,pq,HG.out⟩
end
section
/- backsub: owners in memory; allNought. -/
open Go.RowKit
set_option maxRecDepth 100000
def owC:List RowV→List PV→List Nat→List Value
 | r::rs,p::L,q::P=>.int .i64 r.1::.slice r.2.1 r.2.2.1 r.2.2.2::.string p.2::.int .i64 (q:Int)::owC rs L P
 | _,_,_=>[]
theorem owC_at:∀ (rs:List RowV) (L:List PV) (P:List Nat),rs.length=L.length→P.length=L.length→∀ i,i<L.length→(owC rs L P)[i*4]?=some (.int .i64 (rs.getD i (0,none,0,0)).1)∧(owC rs L P)[i*4+1]?=some (.slice (rs.getD i (0,none,0,0)).2.1 (rs.getD i (0,none,0,0)).2.2.1 (rs.getD i (0,none,0,0)).2.2.2)∧(owC rs L P)[i*4+2]?=some (.string (L.getD i pv0).2)∧(owC rs L P)[i*4+3]?=some (.int .i64 (P.getD i 0:Nat))
 | [],[],[],_,_,i,h=>by cases h
 | r::rs,p::L,q::P,_,_,0,_=>⟨rfl,rfl,rfl,rfl⟩
 | r::rs,p::L,q::P,h,k,i+1,hi=>by
   have ih:=owC_at rs L P (by simpa using h) (by simpa using k) i (by simpa using hi)
   rw [show (i+1)*4=i*4+4 by omega]
   simp only [owC]
   exact⟨ih.1,ih.2.1,ih.2.2.1,ih.2.2.2⟩
theorem owC_set:∀ (rs:List RowV) (L:List PV) (P:List Nat),rs.length=L.length→P.length=L.length→∀ i,i<L.length→∀ (r:RowV) (p:PV),(((owC rs L P).set (i*4) (.int .i64 r.1)).set (i*4+1) (.slice r.2.1 r.2.2.1 r.2.2.2)).set (i*4+2) (.string p.2)=owC (rs.set i r) (L.set i p) P
 | [],[],[],_,_,i,h,_,_=>by cases h
 | r0::rs,p0::L,q0::P,_,_,0,_,r,p=>rfl
 | r0::rs,p0::L,q0::P,h,k,i+1,hi,r,p=>by
   have ih:=owC_set rs L P (by simpa using h) (by simpa using k) i (by simpa using hi) r p
   rw [show (i+1)*4=i*4+4 by omega,show i*4+4+1=i*4+1+4 by omega,show i*4+4+2=i*4+2+4 by omega]
   simp only [owC,List.set_cons_succ]
   rw [ih]
theorem owC_snoc:∀ (rs:List RowV) (L:List PV) (P:List Nat),rs.length=L.length→P.length=L.length→∀ (r:RowV) (p:PV) (q:Nat),owC (rs++[r]) (L++[p]) (P++[q])=owC rs L P++[.int .i64 r.1,.slice r.2.1 r.2.2.1 r.2.2.2,.string p.2,.int .i64 (q:Int)]
 | [],[],[],_,_,r,p,q=>rfl
 | r0::rs,p0::L,q0::P,h,k,r,p,q=>by simp only [List.cons_append,owC,owC_snoc rs L P (by simpa using h) (by simpa using k) r p q]
def OwnersQ (w0 w:World) (base:Nat) (v:Value) (N:Nat) (L:List PV) (P:List Nat):Prop:=
 ∃ rs:List RowV,rs.length=L.length∧P.length=L.length∧w.ownsRow base 202 4 v L.length (owC rs L P)∧∀ j,j<L.length→RowQ w0 w N (rs.getD j (0,none,0,0)) (L.getD j pv0).1
section
variable {w0 w w':World} {base:Nat} {v:Value} {N:Nat} {L:List PV} {P:List Nat}
theorem OwnersQ.keep (h:OwnersQ w0 w base v N L P) (hb:Below w.heap.size w w'):OwnersQ w0 w' base v N L P:=by
 obtain⟨rs,h1,h2,h3,h4⟩:=h
 exact⟨rs,h1,h2,own_keep h3 hb,fun j hj=>(h4 j hj).below hb⟩
theorem OwnersQ.form (h:OwnersQ w0 w base v N L P) (hn:0<L.length):∃ g c,v=.slice (some ⟨g,0,none⟩) L.length c∧base≤g∧g<w.heap.size∧L.length≤c∧c≤maxLen∧∃ cur,Box w g 202 cur:=by
 obtain⟨rs,h1,h2,h3,h4⟩:=h
 rcases h3.2 with ⟨hv,hz⟩ |⟨g,cap,cur,hv,hb,hh,hc,hm,-⟩
 ·omega
 ·exact⟨g,cap,hv,hb,(show Box w g _ cur from hh).lt,hc,hm,cur,hh⟩
theorem OwnersQ.form0 (h:OwnersQ w0 w base v N L P):∃ A c,v=.slice A L.length c∧L.length≤c∧c≤maxLen:=by
 obtain⟨rs,h1,h2,h3,h4⟩:=h
 obtain⟨A,c,e,-⟩:=own_form h3
 refine⟨A,c,e,?_⟩
 rcases h3.2 with ⟨hv,hz⟩ |⟨g,cap,cur,hv,hb,hh,hc,hm,-⟩
 ·rw [hv] at e;injection e with _ _ e;exact⟨by omega,by rw [← e];simp [maxLen]⟩
 ·rw [hv] at e;injection e with _ _ e;subst e;exact⟨hc,hm⟩
theorem OwnersQ.at {g c:Nat} (h:OwnersQ w0 w base (.slice (some ⟨g,0,none⟩) L.length c) N L P) (i:Nat) (hi:i<L.length) :
  ∃ A l d,w.cell? ⟨g,i*4,none⟩=some (.int .i64 N)∧w.cell? ⟨g,i*4+1,none⟩=some (.slice A l d)∧w.cell? ⟨g,i*4+2,none⟩=some (.string (L.getD i pv0).2)∧w.cell? ⟨g,i*4+3,none⟩=some (.int .i64 (P.getD i 0:Nat))∧RowQ w0 w N ((N:Int),A,l,d) (L.getD i pv0).1∧w.frozen? ⟨g,i*4,none⟩=false∧w.frozen? ⟨g,i*4+1,none⟩=false∧w.frozen? ⟨g,i*4+2,none⟩=false∧w.frozen? ⟨g,i*4+3,none⟩=false:=by
 obtain⟨rs,h1,h2,h3,h4⟩:=h
 obtain⟨a1,a2,a3,a4⟩:=owC_at rs L P h1 h2 i hi
 have q:=h4 i hi
 have hc:=World.ownsRow.cells h3 (g:=g) rfl
 have c1:=hc _ _ a1
 have c2:=hc _ _ a2
 have c3:=hc _ _ a3
 have c4:=hc _ _ a4
 rw [add_zeroM] at c1 c2 c3 c4
 rw [q.1] at c1
 exact⟨_,_,_,c1,c2,c3,c4,⟨rfl,q.2.1,q.2.2⟩,h3.frozenAt _,h3.frozenAt _,h3.frozenAt _,h3.frozenAt _⟩
theorem OwnersQ.put {g c:Nat} (h:OwnersQ w0 w base (.slice (some ⟨g,0,none⟩) L.length c) N L P) (i:Nat) (hi:i<L.length) (p:PV) {A:Option Addr} {l d:Nat} (hw:RowQ w0 w N ((N:Int),A,l,d) p.1) :
  OwnersQ w0 (((w.setCell ⟨g,i*4,none⟩ (.int .i64 N)).setCell ⟨g,i*4+1,none⟩ (.slice A l d)).setCell ⟨g,i*4+2,none⟩ (.string p.2)) base (.slice (some ⟨g,0,none⟩) L.length c) N (L.set i p) P:=by
 obtain⟨g',c',hv,-,-,-,-,cur,hbx⟩:=h.form (by omega)
 injection hv with hv
 injection hv with hv
 injection hv with hv
 subst hv
 obtain⟨rs,h1,h2,h3,h4⟩:=h
 have s:=((h3.stored (i*4) (.int .i64 N)).1.stored (i*4+1) (.slice A l d)).1.stored (i*4+2) (.string p.2) |>.1
 rw [show (((owC rs L P).set (i*4) (.int .i64 (N:Int))).set (i*4+1) (.slice A l d)).set (i*4+2) (.string p.2)=owC (rs.set i ((N:Int),A,l,d)) (L.set i p) P from owC_set rs L P h1 h2 i hi ((N:Int),A,l,d) p] at s
 have far:∀ {r:RowV} {x:Nat},RowQ w0 w N r x→RowQ w0 (((w.setCell ⟨g,i*4,none⟩ (.int .i64 N)).setCell ⟨g,i*4+1,none⟩ (.slice A l d)).setCell ⟨g,i*4+2,none⟩ (.string p.2)) N r x:=fun q=>((q.far hbx (by decide) _ _).far (hbx.put _ _) (by decide) _ _).far ((hbx.put _ _).put _ _) (by decide) _ _
 refine⟨rs.set i ((N:Int),A,l,d),by simp [h1],by rw [List.length_set];exact h2,by rw [List.length_set];exact s,fun j hj=>?_⟩
 rw [List.length_set] at hj
 rw [set_getD L i j p hj]
 by_cases e:i=j
 ·subst e
  have e1:(rs.set i ((N:Int),A,l,d)).getD i (0,none,0,0)=((N:Int),A,l,d):=by simp [List.getD,h1,hi]
  rw [e1,if_pos rfl]
  exact far hw
 ·have e1:(rs.set i ((N:Int),A,l,d)).getD j (0,none,0,0)=rs.getD j (0,none,0,0):=by simp only [List.getD];rw [List.getElem?_set_ne e]
  rw [e1,if_neg e]
  exact far (h4 j hj)
end
def noughtP (L:List PV):Bool:=L.all fun p=>noughtL p.2.data.toList
theorem noughtP_snoc (L:List PV) (i:Nat) (h:i<L.length):noughtP (L.take (i+1))=(noughtP (L.take i)&&noughtL (L.getD i pv0).2.data.toList):=by
 unfold noughtP
 rw [List.take_succ_eq_append_getElem h,List.all_append];simp only [List.getD,List.getElem?_eq_getElem h,Option.getD_some,List.all_cons,List.all_nil,Bool.and_true]
theorem noughtP_not (L:List PV) (i:Nat) (h:i<L.length) (hz:noughtL (L.getD i pv0).2.data.toList=false):noughtP L=false:=by
 rw [Bool.eq_false_iff]
 intro ha
 have:=List.all_eq_true.1 ha _ (getD_memP h)
 rw [hz] at this;cases this
theorem allNought_any (N:Nat) (L:List PV) (hL:∀ p∈L,p.2.size≤64) (hlen:L.length≤64) (w0:World) (base:Nat) (v:Value) (w:World) (hr:PairsQ w0 w base v N L) :
  Calls Tryz.prog 150 #[v] w fun e w'=>e=.returned (.bool (noughtP L))∧Below w.heap.size w w':=by
 have HR:=hZ hr
 have HL:=hZ hL
 obtain⟨A0,cap,rfl,hcap,hcm⟩:=hr.form0
 unfold maxLen at hcm
 clear hr hL
 go_enter Tryz.func150,Tryz.ntmps150
 go_wp2_with fail
 go_loopw [7] (fun t wr=>∃ i:Nat,i≤L.length∧t=.int .i64 (i:Int)∧Hid (noughtP (L.take i)=true)∧Hid (Below w.heap.size w wr)) (fun t _=>L.length-(intOf t).toNat)
 case atStart=>exact⟨0,Nat.zero_le _,rfl,hZ (by simp [noughtP]),hZ (Below.refl _ _)⟩
 case round=>
  obtain⟨i,hi,rfl,HN,HB⟩:=hrel
  by_cases hlt:i<L.length
  ·have hlt':(i:Int)<(L.length:Int):=by omega
   have pq:=HR.out.keep HB.out
   obtain⟨g,cap',hv,hgb,hgw,-,-⟩:=pq.form (by omega)
   injection hv with hv hc1 hcc
   subst hv
   clear hc1 hcc
   obtain⟨A1,l1,d1,x0,x1,x2,rq,-,-,-⟩:=pq.at i hlt
   have gp:=HL.out _ (getD_memP hlt)
   obtain⟨p,hp⟩:∃ p,p=L.getD i pv0:=⟨_,rfl⟩
   rw [← hp] at x2 gp
   have GP:=hZ gp
   have HPI:=hZ hp
   have al:Below wr.heap.size wr (wr.alloc (.cells #[.int .i64 (N:Int),.slice A1 l1 d1,.string p.2] 200)):=(Below.refl _ _).alloc (Nat.le_refl _) _
   have RB:=hZ (Box.new wr 200 #[.int .i64 (N:Int),.slice A1 l1 d1,.string p.2])
   have AL1:=hZ al
   have HH:=hZ (fun W=>nought_any p.2 (by have:=GP.out;unfold maxLen;omega) W)
   obtain⟨r0,r1,r2,-,-,-⟩:=RB.out.three
   clear al rq gp hp pq
   cases hbit:noughtL p.2.data.toList with
   | true=>
     rw [hbit] at HH
     have HNo:=hZ (show noughtP (L.take (i+1))=true by rw [noughtP_snoc L i hlt,HN.out,← HPI.out,hbit];rfl)
     clear hbit
     go_wp2_with fail
     refine (HH.out _).mono ?_
     rintro e w1 ⟨rfl,rfl⟩
     go_wp2_with fail
     go_roundw
     case rel=>exact⟨i+1,by omega,by go_num,HNo,hZ (chain HB.out AL1.out)⟩
     case measure=>simp [intOf];omega
   | false=>
     rw [hbit] at HH
     have HNo:=hZ (noughtP_not L i hlt (by rw [← HPI.out];exact hbit))
     clear hbit
     go_wp2_with fail
     refine (HH.out _).mono ?_
     rintro e w1 ⟨rfl,rfl⟩
     go_wp2_with fail
     go_ret
     exact⟨by rw [HNo.out];rfl,chain HB.out AL1.out⟩
  ·obtain rfl:i=L.length:=by omega
   have hlt':¬ (L.length:Int)<(L.length:Int):=by omega
   have HE:=hZ (show noughtP L=true by have:=HN.out;rwa [List.take_of_length_le (Nat.le_refl _)] at this)
   go_wp2_with fail
   go_ret
   exact⟨by rw [HE.out];rfl,HB.out⟩
end
section
/- What a store into blocks of one type leaves as it was. -/
open Go.RowKit
set_option maxRecDepth 100000
def PC (w w1:World) (t:TypeId):Prop:=∃ r,w.grownBy w1 r∧∀ g,r=some g→∃ cur,Box w g t cur
section
variable {w w1:World} {t:TypeId}
theorem PC.ne {b:Nat} {t':TypeId} {cs:Array Value} (k:Box w b t' cs) (hne:t'≠t) {r:Option Nat} (hr:∀ g,r=some g→∃ cur,Box w g t cur):some b≠r:=fun e=>by
 obtain⟨cur,hb⟩:=hr b e.symm
 exact box_ne k hb hne rfl
theorem PC.box (h:PC w w1 t) {b:Nat} {t':TypeId} {cs:Array Value} (k:Box w b t' cs) (hne:t'≠t):Box w1 b t' cs:=by
 obtain⟨r,hg,hr⟩:=h
 exact (hg.block b k.lt (PC.ne k hne hr)).trans k
theorem PC.own (h:PC w w1 t) {base e size n:Nat} {v:Value} {xs:List Value} (k:w.ownsRow base e size v n xs) (hne:e≠t):w1.ownsRow base e size v n xs:=by
 refine⟨k.1,?_⟩
 rcases k.2 with ⟨hv,hz⟩ |⟨g,cap,cur,hv,hb,hh,hc,hm,h1,h2⟩
 ·exact .inl ⟨hv,hz⟩
 ·exact .inr ⟨g,cap,cur,hv,hb,h.box (show Box w g e cur from hh) hne,hc,hm,h1,h2⟩
theorem PC.row (h:PC w w1 t) {w0:World} {N:Nat} {r:RowV} {x:Nat} (q:RowQ w0 w N r x) (hne:22≠t):RowQ w0 w1 N r x:=⟨q.1,q.2.1,q.2.2.imp id (fun o=>h.own o hne)⟩
theorem PC.owners (h:PC w w1 t) {w0:World} {base N:Nat} {v:Value} {L:List PV} {P:List Nat} (q:OwnersQ w0 w base v N L P) (hne:22≠t) (hne2:202≠t):OwnersQ w0 w1 base v N L P:=by
 obtain⟨rs,h1,h2,h3,h4⟩:=q
 exact⟨rs,h1,h2,h.own h3 hne2,fun j hj=>h.row (h4 j hj) hne⟩
theorem PC.pairs (h:PC w w1 t) {w0:World} {base N:Nat} {v:Value} {L:List PV} (q:PairsQ w0 w base v N L) (hne:22≠t) (hne2:200≠t):PairsQ w0 w1 base v N L:=by
 obtain⟨rs,h1,⟨A,c,a1,a2,a3,a4⟩,h3⟩:=q
 exact⟨rs,h1,⟨A,c,a1,a2,a3,fun hn=>by obtain⟨g,cur,b1,b2,b3,b4⟩:=a4 hn;exact⟨g,cur,b1,b2,h.box b3 hne2,b4⟩⟩,fun j hj=>h.row (h3 j hj) hne⟩
end
theorem OwnersQ.pc {w0 w:World} {base N g c:Nat} {L:List PV} {P:List Nat} (h:OwnersQ w0 w base (.slice (some ⟨g,0,none⟩) L.length c) N L P) (hn:0<L.length) (i:Nat) (a b d:Value):PC w (((w.setCell ⟨g,i,none⟩ a).setCell ⟨g,i+1,none⟩ b).setCell ⟨g,i+2,none⟩ d) 202:=by
 obtain⟨g',c',hv,-,-,-,-,cur,hbx⟩:=h.form hn
 injection hv with hv
 injection hv with hv
 injection hv with hv
 subst hv
 exact⟨some g,gr_trans (gr_trans (gr_set _ _ _ _ rfl) (gr_set _ _ _ _ rfl)) (gr_set _ _ _ _ rfl),fun g2 e=>by injection e with e;subst e;exact⟨cur,hbx⟩⟩
theorem has_next {N n:Nat} {Z M P:List Nat} {O F:List PV} {k:Nat} (h:Elim Z P k (O.map (zOf N)) (F.map (zOf N))) (hr:Rref M P) (hs:SameSp (Z.map (lowN N)) M) (hk:k<P.length) (hF:∀ p∈F,GoodP N n p):∃ i,i<F.length∧(F.getD i pv0).1.testBit (P.getD k 0)=true:=by
 obtain⟨i,hi,hb⟩:=h.some hr hs hk
 rw [List.length_map] at hi
 rw [mapz_at N F i hi,z_bit (hF _ (getD_memP hi)),if_pos (place_lt (rows_lt hs) hr k hk)] at hb
 exact⟨i,hi,hb⟩
theorem elim_next {N n:Nat} {Z M P:List Nat} {O F:List PV} {k:Nat} (h:Elim Z P k (O.map (zOf N)) (F.map (zOf N))) (hr:Rref M P) (hs:SameSp (Z.map (lowN N)) M) (hk:k<P.length) (hO:∀ p∈O,GoodP N n p) (hF:∀ p∈F,GoodP N n p) (i:Nat) (hi:i<F.length) (hb:(F.getD i pv0).1.testBit (P.getD k 0)=true) :
  Elim Z P (k+1) ((clrP (P.getD k 0) (F.getD i pv0) O++[F.getD i pv0]).map (zOf N)) ((clrP (P.getD k 0) (F.getD i pv0) (F.eraseIdx i)).map (zOf N)):=by
 have hc:=place_lt (rows_lt hs) hr k hk
 have gf:=hF _ (getD_memP hi)
 have h':=h.step i (by rw [List.length_map];exact hi) (by rw [mapz_at N F i hi,z_bit gf,if_pos hc];exact hb)
 rw [mapz_at N F i hi] at h'
 rw [List.map_append,clrP_z hc gf hO,clrP_z hc gf (fun p hp=>hF p (List.mem_of_mem_eraseIdx hp)),erase_z]
 exact h'
theorem own_setOther {w:World} {base e size n:Nat} {v:Value} {xs:List Value} (h:w.ownsRow base e size v n xs) {b:Nat} (hne:∀ g c,v=.slice (some ⟨g,0,none⟩) n c→g≠b) (i:Nat) (u:Value):(w.setCell ⟨b,i,none⟩ u).ownsRow base e size v n xs:=by
 refine⟨h.1,?_⟩
 rcases h.2 with ⟨hv,hz⟩ |⟨g,cap,cur,hv,hb,hh,hc,hm,h1,h2⟩
 ·exact .inl ⟨hv,hz⟩
 ·exact .inr ⟨g,cap,cur,hv,hb,Box.far (show Box w g e cur from hh) (p:=⟨b,i,none⟩) (hne g cap hv) u,hc,hm,h1,h2⟩
theorem OwnersQ.lt {w0 w:World} {base N:Nat} {v:Value} {L:List PV} {P:List Nat} (h:OwnersQ w0 w base v N L P):∀ g c,v=.slice (some ⟨g,0,none⟩) L.length c→base≤g∧g<w.heap.size:=by
 obtain⟨rs,h1,h2,h3,h4⟩:=h
 intro g c hv
 exact h3.lt g (by rw [hv];rfl)
theorem OwnersQ.ownW {w0 W:World} {b N':Nat} {A:Option Addr} {l d:Nat} {s:ByteArray} {c:Nat} {x1 x2 x3 x4:Value} (hb:Box W b 202 #[x1,x2,x3,x4]) {base N:Nat} {v:Value} {L:List PV} {P:List Nat} (h:OwnersQ w0 W base v N L P) (hne:∀ g c,v=.slice (some ⟨g,0,none⟩) L.length c→g≠b):OwnersQ w0 (YtcikoaeiopbbbaaGreat.ownW W b N' A l d s c) base v N L P:=by
 obtain⟨rs,h1,h2,h3,h4⟩:=h
 exact⟨rs,h1,h2,own_setOther (own_setOther (own_setOther (own_setOther h3 hne _ _) hne _ _) hne _ _) hne _ _,fun j hj=>ownW_row hb (h4 j hj)⟩
theorem own_ownW {W:World} {b N':Nat} {A:Option Addr} {l d:Nat} {s:ByteArray} {c:Nat} {x1 x2 x3 x4:Value} (hb:Box W b 202 #[x1,x2,x3,x4]) {base e size n:Nat} {v:Value} {xs:List Value} (h:W.ownsRow base e size v n xs) (hne:e≠202):(YtcikoaeiopbbbaaGreat.ownW W b N' A l d s c).ownsRow base e size v n xs:=
 own_far (own_far (own_far (own_far h hb hne 0 _) (hb.put 0 _) hne 1 _) ((hb.put 0 _).put 1 _) hne 2 _) (((hb.put 0 _).put 1 _).put 2 _) hne 3 _
theorem rref_len {N:Nat} {M P:List Nat} (h:Rref M P) (hM:∀ r,r∈M→r<2 ^ N):M.length≤N:=by
 have key:∀ k,k≤P.length→∀ j,j<k→j≤P.getD j 0:=by
  intro k
  induction k with
  | zero=>intro _ j hj;omega
  | succ k ih=>
    intro hk j hj
    by_cases e:j<k
    ·exact ih (by omega) j e
    ·obtain rfl:j=k:=by omega
     rcases Nat.eq_zero_or_pos j with rfl | hp
     ·omega
     ·have h1:=ih (by omega) (j-1) (by omega)
      have h2:=h.rise (j-1) j (by omega) (by rw [h.len];omega)
      omega
 rw [h.len]
 rcases Nat.eq_zero_or_pos P.length with h0 | h0
 ·omega
 ·have h1:=key P.length (Nat.le_refl _) (P.length-1) (by omega)
  have h2:=place_lt hM h (P.length-1) (by omega)
  omega
theorem own_blk {w:World} {base e size n:Nat} {v:Value} {xs:List Value} (h:w.ownsRow base e size v n xs):∀ g,v.ownBlock=some g→base≤g∧∃ cur,Box w g e cur:=by
 intro g hg
 have hl:=(h.lt g hg).1
 rcases h.2 with ⟨hv,hz⟩ |⟨g',cap,cur,hv,hb,hh,-⟩
 ·subst hv;cases hg
 ·subst hv
  injection hg with hg
  subst hg
  exact⟨hl,cur,hh⟩
theorem owner_info:(Tryz.prog.info? 202).map (fun i=>(i.zero,i.size,i.bytes))=some (some (.agg #[.int .i64 0,.slice none 0 0,.string ⟨#[]⟩,.int .i64 0]),4,56):=by kernel_rfl
theorem OwnersQ.snoc {w0 w:World} {base N:Nat} {v:Value} {L:List PV} {P:List Nat} {rs:List RowV} (h1:rs.length=L.length) (h2:P.length=L.length) (h4:∀ j,j<L.length→RowQ w0 w N (rs.getD j (0,none,0,0)) (L.getD j pv0).1) {A:Option Addr} {l d q:Nat} {f:PV} (hq:RowQ w0 w N ((N:Int),A,l,d) f.1)
  (ho:w.ownsRow base 202 4 v (L.length+1) (owC rs L P++[.int .i64 (N:Int),.slice A l d,.string f.2,.int .i64 (q:Int)])):OwnersQ w0 w base v N (L++[f]) (P++[q]):=by
 refine⟨rs++[((N:Int),A,l,d)],by simp [h1],by simp [h2],by rw [owC_snoc rs L P h1 h2,List.length_append];exact ho,fun j hj=>?_⟩
 rw [List.length_append] at hj
 by_cases e:j<L.length
 ·have e1:(rs++[((N:Int),A,l,d)]).getD j (0,none,0,0)=rs.getD j (0,none,0,0):=by simp only [List.getD];rw [List.getElem?_append_left (by omega)]
  have e2:(L++[f]).getD j pv0=L.getD j pv0:=by simp only [List.getD];rw [List.getElem?_append_left e]
  rw [e1,e2];exact h4 j e
 ·obtain rfl:j=L.length:=by simp at hj;omega
  have e1:(rs++[((N:Int),A,l,d)]).getD L.length (0,none,0,0)=((N:Int),A,l,d):=by rw [← h1];simp [List.getD]
  have e2:(L++[f]).getD L.length pv0=f:=by simp [List.getD]
  rw [e1,e2];exact hq
theorem PairsQ.at_row {w0 w:World} {base N:Nat} {v:Value} {L:List PV} (h:PairsQ w0 w base v N L):∃ r:Option Nat,(∀ g c,0<L.length→v=.slice (some ⟨g,0,none⟩) L.length c→r=some g)∧∀ g,r=some g→base≤g∧∃ cur,Box w g 200 cur:=by
 by_cases hn:0<L.length
 ·obtain⟨g,c,hv,hb,-⟩:=h.form hn
  rw [hv] at h
  refine⟨some g,fun g2 c2 _ e=>?_,fun g2 e=>?_⟩
  ·rw [hv] at e
   injection e with e
   injection e with e
   injection e with e
   rw [e]
  ·injection e with e
   subst e
   exact⟨hb,h.block hn⟩
 ·exact⟨none,fun _ _ h=>absurd h hn,fun _ e=>by cases e⟩
theorem pairs_good {N n:Nat} {X:List Nat} {ss:List ByteArray} (hX:∀ r∈X,r<2 ^ N) (hs:∀ s∈ss,s.size=n):∀ p∈X.zip ss,GoodP N n p:=fun p hp=>by
 obtain⟨a,b⟩:=p
 have:=List.of_mem_zip hp
 exact⟨hX _ this.1,hs _ this.2⟩
theorem pairs_low {N n:Nat} {X:List Nat} {ss:List ByteArray} (hX:∀ r∈X,r<2 ^ N) (hs:∀ s∈ss,s.size=n) (hl:X.length=ss.length):((X.zip ss).map (zOf N)).map (lowN N)=X:=by
 have e:((X.zip ss).map (zOf N)).map (lowN N)=(X.zip ss).map Prod.fst:=by
  rw [List.map_map]
  exact List.map_congr_left fun p hp=>z_low (pairs_good hX hs p hp)
 rw [e,List.map_fst_zip (by omega)]
theorem num_bdP (P:List Nat) (h:∀ j,j<P.length→P.getD j 0<1000) (j:Nat):-9223372036854775808≤(P.map fun x:Nat=>(x:Int)).getD j 0∧(P.map fun x:Nat=>(x:Int)).getD j 0≤9223372036854775807:=by
 by_cases hj:j<P.length
 ·have:=h j hj
  have e:(P.map fun x:Nat=>(x:Int)).getD j 0=((P.getD j 0:Nat):Int):=by simp [List.getD,hj]
  rw [e];omega
 ·have e:(P.map fun x:Nat=>(x:Int))[j]?=none:=List.getElem?_eq_none (by simp;omega)
  simp [List.getD,e]
theorem ints_cell {w:World} {B:Option Addr} {n:Nat} {P:List Nat} (h:Ints w B n (P.map fun x:Nat=>(x:Int))) (k:Nat) (hk:k<n):∃ b off,B=some ⟨b,off,none⟩∧b<w.heap.size∧w.cell? ⟨b,off+k,none⟩=some (.int .i64 (P.getD k 0:Nat)):=by
 obtain⟨b,off,hB,hlt,hc⟩:=h.2.2 (by omega)
 refine⟨b,off,hB,hlt,?_⟩
 have hl:k<P.length:=by have:=h.1;simp at this;omega
 rw [hc k hk];simp [List.getD,hl]
end
section
/- backsub: reduced: its first loop. -/
open Go.RowKit
set_option maxRecDepth 100000
def pairs (X:List Nat) (ss:List ByteArray):List PV:=X.zip ss
theorem pairs_len (X:List Nat) (ss:List ByteArray) (m:Nat) (h1:X.length=m) (h2:ss.length=m):(pairs X ss).length=m:=by simp [pairs,h1,h2]
theorem pairs_at (X:List Nat) (ss:List ByteArray) (m i:Nat) (h1:X.length=m) (h2:ss.length=m) (hi:i<m):(pairs X ss).getD i pv0=(X.getD i 0,ss.getD i ByteArray.empty):=by
 have e:(pairs X ss)[i]?=some (X[i]'(by omega),ss[i]'(by omega)):=by
  rw [List.getElem?_eq_some_iff]
  exact⟨by simp [pairs];omega,by simp [pairs]⟩
 simp [List.getD,e,show i<X.length by omega,show i<ss.length by omega]
def RedOut (N n:Nat) (L0:List PV) (X:List Nat) (w:World) (e:Ending) (w':World):Prop:=
 ∃ (M P:List Nat) (O F:List PV) (vO vF:Value),e=.returned (.tuple #[vO,vF])∧Rref M P∧SameSp X M∧Elim (L0.map (zOf N)) P P.length (O.map (zOf N)) (F.map (zOf N))∧(∀ p∈O,GoodP N n p)∧(∀ p∈F,GoodP N n p) ∧
  OwnersQ w w' (w.heap.size+1) vO N O P∧PairsQ w w' (w.heap.size+1) vF N F∧F.length≤L0.length∧Below w.heap.size w w'
set_option maxHeartbeats 4000000 in
theorem reduced_any (N n:Nat) (hN:N≤64) (hn:n≤64) (X:List Nat) (hX:∀ r∈X,r<2 ^ N) (m:Nat) (hXm:X.length=m) (hm64:m≤64) (ss:List ByteArray) (hss:∀ s∈ss,s.size=n) (A S:Option Addr) (c d lo:Nat) (w:World) (hsl:SliceOk A m c) (hm:MatAt w lo A m (mkM N X)) (hr:rightM N (mkM N X)=true) (ht:Texts w S m ss) :
  Calls Tryz.prog 149 #[.agg #[.int .i64 (N:Int),.slice A m c],.slice S m d] w (RedOut N n (pairs X ss) X w):=by
 obtain⟨i0,hinf,hz0,hz1,hz2⟩:=info_parts pair_info
 have hssm:=ht.1
 have HI:=hZ hinf
 have HZ0:=hZ hz0
 have HZ1:=hZ hz1
 have HZ2:=hZ hz2
 have b1:Below w.heap.size w (w.alloc (.cells #[.int .i64 (N:Int),.slice A m c] 102)):=(Below.refl _ _).alloc (Nat.le_refl _) _
 have Q:=hZ (Box.new w 102 #[.int .i64 (N:Int),.slice A m c])
 have HB:=hZ b1
 have HM:=hZ hm
 have HT:=hZ ht
 have HXm:=hZ hXm
 have HSm:=hZ hssm
 have HX:=hZ hX
 have HS:=hZ hss
 have HR:=hZ hr
 have HSl:=hZ hsl
 have hcm:m≤c:=hsl.1
 have HPl:=hZ (pairs_len X ss m hXm hssm)
 obtain⟨L0,hL0⟩:∃ L0,L0=pairs X ss:=⟨_,rfl⟩
 rw [← hL0] at HPl ⊢
 have HL0:=hZ hL0
 obtain⟨q0,q1,-,-⟩:=Q.out.two
 clear b1 hm ht hXm hssm hX hss hr hsl hL0 hinf hz0 hz1 hz2
 go_enter Tryz.func149,Tryz.ntmps149
 go_wp2_with fail
 clear q0 q1
 go_loopw [20,6] (fun t v wr=>∃ (i:Nat) (rs:List RowV),i≤m∧t=.int .i64 (i:Int)∧Hid (rs.length=i)∧Hid (wr.ownsRow (w.heap.size+1) 200 3 v i (prC rs (L0.take i)))∧Hid (∀ j,j<i→RowQ w wr N (rs.getD j (0,none,0,0)) (L0.getD j pv0).1)∧Hid (Box wr w.heap.size 102 #[.int .i64 (N:Int),.slice A m c])∧Hid (Below w.heap.size w wr)) (fun t _ _=>m-(intOf t).toNat)
 case atStart=>exact⟨0,[],Nat.zero_le _,rfl,hZ rfl,hZ (World.ownsRow_nil _ _ _ _),hZ (fun j h=>by omega),Q,HB⟩
 case round=>
  obtain⟨i,rs,hi,rfl,HRl,HO,HRS,HQ,HBr⟩:=hrel
  by_cases hlt:i<m
  ·have hlt':(i:Int)<(m:Int):=by omega
   obtain⟨b,off,B,l,k,hA,hbw,x0,x1,hs,hw⟩:=HM.out.at i hlt
   subst hA
   have hx:(mkM N X).getD i (0,[])=mkR N (X.getD i 0):=mkM_at N X i (by rw [HXm.out];exact hlt)
   rw [hx] at x0 hw
   clear hx
   obtain⟨b2,off2,hS,hb2,hc2⟩:=HT.out.2.2 (by omega)
   subst hS
   have y0:=hc2 i hlt
   obtain⟨x,hxe⟩:∃ x,x=X.getD i 0:=⟨_,rfl⟩
   obtain⟨s,hse⟩:∃ s,s=ss.getD i ByteArray.empty:=⟨_,rfl⟩
   rw [← hxe] at x0 hw
   have x0:w.cell? ⟨b,off+i*2,none⟩=some (.int .i64 (N:Int)):=x0
   have hw:Words w B l (rowOf N x):=hw
   rw [← hse] at y0
   have HP:=hZ (show L0.getD i pv0=(x,s) by rw [HL0.out,pairs_at X ss m i HXm.out HSm.out hlt,hxe,hse])
   have HTk:=hZ (show L0.take (i+1)=L0.take i++[(x,s)] by rw [List.take_succ_eq_append_getElem (by rw [HPl.out];exact hlt),← HP.out];simp [List.getD,HPl.out,hlt])
   have x0:=(HBr.out.cell (p:=⟨b,off+i*2,none⟩) hbw).trans x0
   have x1:=(HBr.out.cell (p:=⟨b,off+i*2+1,none⟩) hbw).trans x1
   have y0:=(HBr.out.cell (p:=⟨b2,off2+i,none⟩) hb2).trans y0
   have HQw:=hZ (show RowQ w wr N ((N:Int),B,l,k) x from ⟨rfl,hs,.inl hw⟩)
   have hws:=HBr.out.size
   have hqs:w.heap.size<wr.heap.size:=HQ.out.lt
   have hbr:b<wr.heap.size:=by omega
   have hb2r:b2<wr.heap.size:=by omega
   clear hs hw hc2 hxe hse
   have al:Below wr.heap.size wr (wr.alloc (.cells #[.int .i64 (N:Int),.slice B l k] 139)):=(Below.refl _ _).alloc (Nat.le_refl _) _
   have E:=hZ (Box.new wr 139 #[.int .i64 (N:Int),.slice B l k])
   have AL1:=hZ al
   have Q1:=hZ (HQ.out.keep al)
   have O1:=hZ (own_keep HO.out al)
   have RS1:=hZ (fun j hj=>(HRS.out j hj).below al)
   have HB1:=hZ (chain HBr.out al)
   have QW1:=hZ (HQw.out.below al)
   have y1:=(al.cell (p:=⟨b2,off2+i,none⟩) hb2r).trans y0
   have HSZ:=hZ (show (wr.alloc (.cells #[.int .i64 (N:Int),.slice B l k] 139)).heap.size=wr.heap.size+1 by simp)
   clear al
   go_wp2_with fail
   generalize hW3:wr.alloc (.cells #[.int .i64 (N:Int),.slice B l k] 139)=w3 at *
   clear hW3 x0 x1 y0 HQw HO HRS HQ HBr AL1
   obtain⟨e0,e1,-,-⟩:=E.out.two
   have hn0:=O1.out.lt
   have hes:=E.out.lt
   have XO:=hZ (own_drewM (World.ownsRow.alloc O1.out (.cells #[.int .i64 (N:Int),.slice B l k,.string s] 200)))
   have XN:=hZ (show ∀ j u,([.int .i64 (N:Int),.slice B l k,.string s]:List Value)[j]?=some u→(w3.alloc (.cells #[.int .i64 (N:Int),.slice B l k,.string s] 200)).drew.cell? ((⟨w3.heap.size,0,none⟩:Addr).add j)=some u from World.news_of_block (Box.new w3 200 #[.int .i64 (N:Int),.slice B l k,.string s]))
   have ki:=HI.out
   have kz0:=HZ0.out
   have kz1:=HZ1.out
   have kz2:=HZ2.out
   have a1:i+1≤maxLen:=by unfold maxLen;omega
   have a2:(i+1)*48≤140737488355328:=by omega
   have XL:=hZ (show w.heap.size+1≤(w3.alloc (.cells #[.int .i64 (N:Int),.slice B l k,.string s] 200)).drew.heap.size by show _≤(w3.alloc (.cells #[.int .i64 (N:Int),.slice B l k,.string s] 200)).heap.size;simp;omega)
   have x1c:=hZ (show ∀ u∈([.int .i64 (N:Int),.slice B l k,.string s]:List Value),u.oneCell'=true by simp [Value.oneCell'])
   go_region_law (refine step_append_lies _ rfl (.tmp 25) (.tmp 32) 195 rfl (w.heap.size+1) 200 i0 (.agg #[.int .i64 0,.slice none 0 0,.string ⟨#[]⟩]) 3 48 Tryz.underlying195 ki kz0 kz1 kz2 rfl (by decide) u6 i (prC rs (L0.take i)) ?_ XO.out ⟨w3.heap.size,0,none⟩ 1 1 [.int .i64 (N:Int),.slice B l k,.string s] ?_ rfl XN.out x1c.out (by omega) a1 a2 XL.out _ rfl ?_;simp [Act.eval,Act.put];simp [Act.eval,Act.put];intro g cap w4 hown hgrow _ _;have HO2:=hZ hown;have HG:=hZ hgrow;clear hown hgrow)
   all_goals
    have GX:=hZ (Box.grown (show Box (w3.alloc (.cells #[.int .i64 (N:Int),.slice B l k,.string s] 200)).drew w.heap.size 102 #[.int .i64 (N:Int),.slice (some ⟨b,off,none⟩) m c] from Q1.out.alloc (.cells #[.int .i64 (N:Int),.slice B l k,.string s] 200)) HG.out (own_ne O1.out Q1.out (by decide)))
    have GB:=hZ (Below.grown ((HB1.out.alloc HB1.out.size (.cells #[.int .i64 (N:Int),.slice B l k,.string s] 200)).drew) HG.out (Nat.le_of_succ_le XL.out) (fun k hk=>by have:=(XO.out.lt k hk).1;omega))
    have gr:∀ {r:RowV} {x:Nat},RowQ w w3 N r x→RowQ w w4 N r x:=fun q=>⟨q.1,q.2.1,q.2.2.imp id (fun o=>OwnW.grown ((o.alloc (.cells #[.int .i64 (N:Int),.slice B l k,.string s] 200)).drew) XO.out (by decide) HG.out)⟩
    have GR:=hZ (fun j (hj:j<i+1)=>show RowQ w w4 N ((rs++[((N:Int),B,l,k)]).getD j (0,none,0,0)) (L0.getD j pv0).1 by
     by_cases e:j<i
     ·have e1:(rs++[((N:Int),B,l,k)]).getD j (0,none,0,0)=rs.getD j (0,none,0,0):=by simp only [List.getD];rw [List.getElem?_append_left (by rw [HRl.out];exact e)]
      rw [e1];exact gr (RS1.out j e)
     ·obtain rfl:j=i:=by omega
      have e1:(rs++[((N:Int),B,l,k)]).getD j (0,none,0,0)=((N:Int),B,l,k):=by rw [← HRl.out];simp [List.getD]
      rw [e1,HP.out];exact gr QW1.out)
    have GO:=hZ (show w4.ownsRow (w.heap.size+1) 200 3 (.slice (some ⟨g,0,none⟩) (i+1) cap) (i+1) (prC (rs++[((N:Int),B,l,k)]) (L0.take (i+1))) by
     rw [HTk.out,prC_snoc rs (L0.take i) (by rw [HRl.out,List.length_take,HPl.out];omega)]
     exact HO2.out)
    have GL:=hZ (show (rs++[((N:Int),B,l,k)]).length=i+1 by rw [List.length_append,HRl.out];rfl)
    clear HG HO2 XO XN XL O1 Q1 HB1 RS1 QW1 e0 e1
    go_wp2_with fail
    go_roundw
    case rel=>exact⟨i+1,_,by omega,by go_num,GL,GO,GR,GX,GB⟩
    case measure=>simp [intOf];omega
  ·obtain rfl:i=m:=by omega
   have hlt':¬ (i:Int)<(i:Int):=by omega
   have HF0:=hZ (show PairsQ w wr (w.heap.size+1) u6 N L0 from ⟨rs,by rw [HRl.out,HPl.out],by have:=CellsRow.of HO.out;rw [List.take_of_length_le (by rw [HPl.out];exact Nat.le_refl _)] at this;rw [HPl.out];exact this,fun j hj=>HRS.out j (by rw [← HPl.out];exact hj)⟩)
   have HE:=hZ (fun W (hb:Below w.heap.size w W)=>ech_two N hN X HX.out (by rw [HXm.out];exact hm64) A c lo W (by rw [HXm.out];exact HM.out.below hb) HR.out)
   rw [HXm.out] at HE
   obtain⟨q0,q1,-,-⟩:=HQ.out.two
   clear HO HRS
   go_wp2_with fail
   refine (HE.out _ HBr.out).mono ?_
   rintro e w2 ⟨M,P,A2,Bc,kc,rfl,hM,hMs,-,-,hkc,⟨bs,hcol⟩,hb⟩
   have HMr:=hZ hM
   have HSp:=hZ (show SameSp ((L0.map (zOf N)).map (lowN N)) M by rw [HL0.out,pairs,pairs_low HX.out HS.out (by rw [HXm.out,HSm.out])];exact hMs)
   have HGd:=hZ (show ∀ p∈L0,GoodP N n p by rw [HL0.out];exact pairs_good HX.out HS.out)
   have HMs:=hZ hMs
   have HB2:=hZ (chain HBr.out hb)
   have HF2:=hZ (HF0.out.keep hb)
   have HCol:=hZ hcol
   have HPM:=hZ hM.len
   have HPc:=hZ (show ∀ j,j<P.length→P.getD j 0<N from fun j hj=>place_lt (rows_lt HSp.out) HMr.out j hj)
   have HM64:=hZ (show M.length≤64 by have:=rref_len HMr.out (rows_lt HSp.out);omega)
   have al:Below w2.heap.size w2 (w2.alloc (.cells #[.int .i64 (N:Int),.slice A2 M.length M.length] 102)):=(Below.refl _ _).alloc (Nat.le_refl _) _
   have AL2:=hZ al
   clear hM hMs hb hcol al q0 q1 HF0 HBr HE
   obtain⟨w1,rfl⟩:∃ w1:World,w1=wr:=⟨_,rfl⟩
   go_wp2_with fail
   go_loopw [43,6,9] (fun t vf vo wr=>∃ (k:Nat) (O F:List PV),k≤M.length∧t=.int .i64 (k:Int)∧Hid (Elim (L0.map (zOf N)) P k (O.map (zOf N)) (F.map (zOf N)))∧Hid (∀ p∈O,GoodP N n p)∧Hid (∀ p∈F,GoodP N n p)∧Hid (F.length≤i)∧Hid (OwnersQ w wr (w.heap.size+1) vo N O (P.take k))∧Hid (PairsQ w wr (w.heap.size+1) vf N F)∧Hid (wr.ownsRow bs 3 1 (.slice Bc M.length kc) M.length (P.map numV))∧Hid (Below w.heap.size w wr)) (fun t _ _ _=>M.length-(intOf t).toNat)
   case atStart=>exact⟨0,[],L0,Nat.zero_le _,rfl,hZ (elim_start _ _),hZ (fun p h=>by cases h),HGd,hZ (by rw [HPl.out];exact Nat.le_refl _),hZ ⟨[],rfl,rfl,World.ownsRow_nil _ _ _ _,fun j h=>by cases h⟩,hZ (HF2.out.keep AL2.out),hZ (own_keep HCol.out AL2.out),hZ (chain HB2.out AL2.out)⟩
   case round=>
    obtain⟨k,O,F,hk,rfl,HEl,HGO,HGF,HFl,HOw,HFr,HCo,HBx⟩:=hrel
    by_cases hlt:k<M.length
    ·have hlt':(k:Int)<(M.length:Int):=by omega
     have hk64:k<64:=by have:=HM64.out;omega
     have hin:=own_ints (zs:=P.map fun x:Nat=>(x:Int)) (by rw [List.map_map];exact HCo.out) (num_bdP P (fun j hj=>by have:=HPc.out j hj;omega))
     obtain⟨b,off,hBc,hbl,x0⟩:=ints_cell hin k hlt
     subst hBc
     obtain⟨q,hq⟩:∃ q,q=P.getD k 0:=⟨_,rfl⟩
     rw [← hq] at x0
     have HQe:=hZ hq
     have HqN:=hZ (show q<N by rw [hq];exact HPc.out k (by rw [← HPM.out];exact hlt))
     clear hin hq
     have al:Below wr.heap.size wr (wr.alloc (.cells #[.int .i64 0,.slice none 0 0,.string ⟨#[]⟩,.int .i64 0] 202)):=(Below.refl _ _).alloc (Nat.le_refl _) _
     have AL3:=hZ al
     have T0:=hZ (Box.new wr 202 #[.int .i64 0,.slice none 0 0,.string ⟨#[]⟩,.int .i64 0])
     have hwr:=HBx.out.size
     have HC:=hZ (chosen_any N n (by omega) F HGF.out (by have:=HFl.out;omega) q HqN.out (by rw [HQe.out];exact has_next HEl.out HMr.out HSp.out (by rw [← HPM.out];exact hlt) HGF.out) w (w.heap.size+1) u6 _ (by simp;omega) (chainN HBx.out hwr al) (by simp;omega) (HFr.out.keep al))
     clear al
     go_wp2_with fail
     refine HC.out.mono ?_
     rintro e w3 ⟨i1,A3,l3,d3,v3,hi1,hb1,rfl,hrow,hpr,hb⟩
     have gf:=HGF.out _ (getD_memP hi1)
     have HI1:=hZ hi1
     have HBit:=hZ hb1
     obtain⟨f,hf⟩:∃ f,f=F.getD i1 pv0:=⟨_,rfl⟩
     rw [← hf] at gf hrow ⊢
     have HFe:=hZ hf
     obtain⟨Fe,hFe⟩:∃ Fe,Fe=F.eraseIdx i1:=⟨_,rfl⟩
     rw [← hFe] at hpr
     have HGFe:=hZ (show ∀ p∈Fe,GoodP N n p by rw [hFe];exact fun p hp=>HGF.out p (List.mem_of_mem_eraseIdx hp))
     have HLe:=hZ (show Fe.length≤i by have:=HFl.out;rw [hFe,List.length_eraseIdx];split<;>omega)
     have HFer:=hZ hFe
     have GF:=hZ gf
     have HT1:=hZ (T0.out.keep hb)
     have HOw1:=HOw.out.keep (chain AL3.out hb)
     have HB3:=hZ (chain HBx.out (chain AL3.out hb))
     have HCo1:=own_keep HCo.out (chain AL3.out hb)
     have hlt1:=HOw.out.lt
     have HT2:=hZ (ownW_box (N:=N) (A:=A3) (l:=l3) (d:=d3) (s:=f.2) (c:=q) HT1.out)
     have HOw2:=hZ (OwnersQ.ownW (N':=N) (A:=A3) (l:=l3) (d:=d3) (s:=f.2) (c:=q) HT1.out HOw1 (fun g c hv=>by have:=hlt1 g c hv;omega))
     have HP2:=hZ (PairsQ.owned (N':=N) (A:=A3) (l:=l3) (d:=d3) (s:=f.2) (c:=q) HT1.out hpr)
     have HR2:=hZ (ownW_row (N:=N) (A:=A3) (l:=l3) (d:=d3) (s:=f.2) (c:=q) HT1.out hrow)
     have HCo2:=hZ (own_ownW (N':=N) (A:=A3) (l:=l3) (d:=d3) (s:=f.2) (c:=q) HT1.out HCo1 (by decide))
     have HB4:=hZ (ownW_below (N:=N) (A:=A3) (l:=l3) (d:=d3) (s:=f.2) (c:=q) HB3.out hwr)
     obtain⟨z0,z1,z2,z3,zf0,zf1,zf2,zf3⟩:=HT1.out.quad
     have HLt:=hZ hlt1
     clear hb hf hFe hpr hrow gf HOw1 HCo1 hlt1 hi1 hb1 HC HFr HOw HCo T0 AL3 x0
     obtain⟨r,hr1,hr2⟩:=HP2.out.at_row
     have hs4:w.heap.size≤(ownW w3 wr.heap.size N A3 l3 d3 f.2 q).heap.size:=HB4.out.size
     have HK:=hZ (pclear_any N n (by omega) hn f GF.out Fe HGFe.out (by have:=HLe.out;omega) q HqN.out w (w.heap.size+1) v3 (ownW w3 wr.heap.size N A3 l3 d3 f.2 q) hs4 HB4.out (by omega) A3 l3 d3 HR2.out HP2.out r (fun g c h1 h2=>hr1 g c h1 h2) (fun g e=>by have:=(hr2 g e).1;omega))
     have HR1:=hZ (fun g e=>(hr2 g e).2)
     have HR0:=hZ (fun g e=>(hr2 g e).1)
     clear hr1 hr2
     go_wp2_with fail
     refine HK.out.mono ?_
     rintro e w5 ⟨⟨uu,rfl⟩,hp5,hg5⟩
     have hpc:PC (ownW w3 wr.heap.size N A3 l3 d3 f.2 q) w5 200:=⟨r,hg5,HR1.out⟩
     have HT5:=hZ (hpc.box HT2.out (by decide))
     have HOw5:=hZ (hpc.owners HOw2.out (by decide) (by decide))
     have HP5:=hZ hp5
     have HR5:=hZ (hpc.row HR2.out (by decide))
     have HCo5:=hZ (hpc.own HCo2.out (by decide))
     have HB5:=hZ (gr_low HB4.out hs4 hg5 (fun g e=>by have:=HR0.out g e;omega))
     obtain⟨Ao,co,rfl,hoc,hocm⟩:=HOw5.out.form0
     unfold maxLen at hocm
     have hlO:O.length≤64:=by
      have:=HEl.out.len
      rw [List.length_map] at this
      have:=HM64.out
      omega
     clear hpc hp5 hg5 HK HR1 HR0 HT1 HT2 HOw2 HP2 HR2 HCo2 HB4 HB3 hs4 z0 z1 z2 z3 zf0 zf1 zf2 zf3
     obtain⟨wA,rfl⟩:∃ wA:World,wA=wr:=⟨_,rfl⟩
     go_wp2_with fail
     go_loopw [58] (fun t wr=>∃ j:Nat,j≤O.length∧t=.int .i64 (j:Int)∧Hid (OwnersQ w wr (w.heap.size+1) (.slice Ao O.length co) N (clrU q f O j) (P.take k))∧Hid (PairsQ w wr (w.heap.size+1) v3 N (clrP q f Fe))∧Hid (Box wr wA.heap.size 202 #[.int .i64 (N:Int),.slice A3 l3 d3,.string f.2,.int .i64 (q:Int)])∧Hid (RowQ w wr N ((N:Int),A3,l3,d3) f.1)∧Hid (wr.ownsRow bs 3 1 (.slice (some ⟨b,off,none⟩) M.length kc) M.length (P.map numV))∧Hid (Below w.heap.size w wr)) (fun t _=>O.length-(intOf t).toNat)
     case atStart=>exact⟨0,Nat.zero_le _,rfl,hZ (by rw [clrU_zero];exact HOw5.out),HP5,HT5,HR5,HCo5,HB5⟩
     case round=>
      obtain⟨j,hj,rfl,IO,IP,IT,IR,IC,IB⟩:=hrel
      clear HOw5 HP5 HT5 HR5 HCo5 HB5
      by_cases hjl:j<O.length
      ·have hjl':(j:Int)<(O.length:Int):=by omega
       have HCL:=hZ (clrU_len q f O j hj)
       have io:=IO.out
       obtain⟨g,c2,hv,hgb,hgw,-,-,cur,hcur⟩:=io.form (by rw [HCL.out];omega)
       injection hv with hv h2 h3
       subst hv
       clear h2 h3
       have hga:g<wA.heap.size:=(HLt.out g co rfl).2
       rw [show O.length=(clrU q f O j).length from HCL.out.symm] at io
       obtain⟨A1,l1,d1,x0,x1,x2,x3,rq,xf0,xf1,xf2,xf3⟩:=io.at j (by rw [HCL.out];exact hjl)
       have gp:=clrU_good GF.out HGO.out j _ (getD_memP (L:=clrU q f O j) (i:=j) (by rw [HCL.out];exact hjl))
       rw [clrU_here q f O j hjl] at x2 rq gp
       obtain⟨p,hp⟩:∃ p,p=O.getD j pv0:=⟨_,rfl⟩
       rw [← hp] at x2 rq gp
       have GP:=hZ gp
       have HPI:=hZ hp
       have RQ:=hZ rq
       have HW:=hZ (rq.words (Nat.le_refl _) IB.out)
       have HH:=hZ (pairHas_any N p.1 (by omega) GP.out.1 A1 l1 d1 q p.2 HqN.out _ HW.out)
       have n1:¬ wA.heap.size=g:=by omega
       have n2:¬ g=wA.heap.size:=by omega
       clear hp gp io rq hcur
       cases hbit:p.1.testBit q with
       | false=>
         rw [hbit] at HH
         have HNo:=hZ (clrU_no q f O j hjl (by rw [← HPI.out];exact hbit))
         clear hbit
         go_wp2_with fail
         refine HH.out.mono ?_
         rintro e w6 ⟨rfl,hb⟩
         have HC:=hZ hb
         clear hb
         go_wp2_with fail
         go_roundw
         case rel=>exact⟨j+1,by omega,by go_num,hZ (by rw [HNo.out];exact IO.out.keep HC.out),hZ (IP.out.keep HC.out),hZ (IT.out.keep HC.out),hZ (IR.out.below HC.out),hZ (own_keep IC.out HC.out),hZ (chain IB.out HC.out)⟩
         case measure=>simp [intOf];omega
       | true=>
         rw [hbit] at HH
         have HYes:=hZ (clrU_yes q f O j hjl (by rw [← HPI.out];exact hbit))
         clear hbit
         go_wp2_with fail
         refine HH.out.mono ?_
         rintro e w6 ⟨rfl,hb⟩
         have HC:=hZ hb
         have io6:=IO.out.keep hb
         have IP6:=hZ (IP.out.keep hb)
         have IT6:=hZ (IT.out.keep hb)
         have IR6:=hZ (IR.out.below hb)
         have IC6:=hZ (own_keep IC.out hb)
         have IB6:=hZ (chain IB.out hb)
         have RQ6:=hZ (RQ.out.below hb)
         rw [show O.length=(clrU q f O j).length from HCL.out.symm] at io6
         have IO6:=hZ io6
         obtain⟨A7,l7,d7,y0,y1,y2,y3,-,-,-,-,-⟩:=io6.at j (by rw [HCL.out];exact hjl)
         have RP6:=hZ (RQ.out.below hb)
         have gw6:g<w6.heap.size:=Nat.lt_of_lt_of_le hgw hb.size
         have aw6:wA.heap.size<w6.heap.size:=IT6.out.lt
         have HX:=hZ (fun W (h0:Below w6.heap.size w6 W)=>plus_any N n (by omega) hn p f GP.out GF.out A1 A3 l1 d1 l3 d3 W ((RP6.out.below h0).words (Nat.le_refl _) (chain IB6.out h0)) ((IR6.out.below h0).words (Nat.le_refl _) (chain IB6.out h0)))
         have x0:=(hb.cell (p:=⟨g,j*4,none⟩) hgw).trans x0
         have x1:=(hb.cell (p:=⟨g,j*4+1,none⟩) hgw).trans x1
         have x2:=(hb.cell (p:=⟨g,j*4+2,none⟩) hgw).trans x2
         obtain⟨t0,t1,t2,t3,-,-,-,-⟩:=IT6.out.quad
         clear y0 y1 y2 y3 hb io6 IO IP IT IR IC IB RQ HW HH x3 xf0 xf1 xf2 xf3
         go_wp2_with fail
         have IO6d:=hZ (show OwnersQ w w6.drew (w.heap.size+1) (.slice (some ⟨g,0,none⟩) (clrU q f O j).length co) N (clrU q f O j) (P.take k) from IO6.out)
         have gd:∀ {y:World},Below w6.drew.heap.size w6.drew y→Below w6.heap.size w6 y:=fun h=>⟨h.os,h.tape,h.output,h.size,h.block⟩
         have m1:¬ wA.heap.size=g:=by omega
         go_region_with (go_at_call 166;refine (HX.out _ ((Below.refl _ _).drew)).mono ?_;rintro e1 w8 ⟨A8,l8,d8,rfl,ow,hb⟩;have HB8:=hZ (gd hb);have IO8:=hZ (IO6d.out.keep hb);have OW8:=hZ ow;obtain⟨A9,l9,d9,y0,y1,y2,y3,-,yf0,yf1,yf2,yf3⟩:=IO8.out.at j (by rw [HCL.out];exact hjl);clear ow hb)
         all_goals
          have hput:=IO8.out.put j (by rw [HCL.out];exact hjl) (plusP p f) (A:=A8) (l:=l8) (d:=d8) ⟨rfl,OW8.out.ok,.inr OW8.out⟩
          have hpc:=IO8.out.pc (by rw [HCL.out];omega) (j*4) (.int .i64 (N:Int)) (.slice A8 l8 d8) (.string (plusP p f).2)
          rw [HCL.out,HPI.out,← HYes.out] at hput
          rw [← HPI.out] at hput
          have RO:=hZ hput
          have RP:=hZ (hpc.pairs (IP6.out.keep HB8.out) (by decide) (by decide))
          have RT:=hZ ((((IT6.out.keep HB8.out).far (p:=⟨g,j*4,none⟩) n1 (.int .i64 (N:Int))).far (p:=⟨g,j*4+1,none⟩) n1 (.slice A8 l8 d8)).far (p:=⟨g,j*4+2,none⟩) n1 (.string (plusP p f).2))
          have RR:=hZ (hpc.row (IR6.out.below HB8.out) (by decide))
          have RC:=hZ (hpc.own (own_keep IC6.out HB8.out) (by decide))
          have RB:=hZ ((((chain IB6.out HB8.out).setCell (p:=⟨g,j*4,none⟩) (by show w.heap.size≤g;omega) (.int .i64 (N:Int))).setCell (p:=⟨g,j*4+1,none⟩) (by show w.heap.size≤g;omega) (.slice A8 l8 d8)).setCell (p:=⟨g,j*4+2,none⟩) (by show w.heap.size≤g;omega) (.string (plusP p f).2))
          clear hput hpc IO8 OW8 IO6d y0 y1 y2 y3 yf0 yf1 yf2 yf3 IP6 IT6 IR6 IC6 IB6 IO6 HB8 t0 t1 t2 t3 x0 x1 x2 HX
          go_wp2_with fail
          go_roundw
          case rel=>exact⟨j+1,by omega,by go_num,RO,RP,RT,RR,RC,RB⟩
          case measure=>simp [intOf];omega
      ·obtain rfl:j=O.length:=by omega
       have hjl':¬ (O.length:Int)<(O.length:Int):=by omega
       have io:=IO.out
       rw [clrU_all] at io
       obtain⟨rs,k1,k2,k3,k4⟩:=io
       rw [clrP_len] at k1 k2 k3 k4
       obtain⟨j0,hinf,hz0,hz1,hz2⟩:=info_parts owner_info
       have al:Below wr.heap.size wr (wr.alloc (.cells #[.int .i64 (N:Int),.slice A3 l3 d3,.string f.2,.int .i64 (q:Int)] 202)):=(Below.refl _ _).alloc (Nat.le_refl _) _
       have AL6:=hZ al
       have XO:=hZ (own_keep k3 al)
       have XN:=hZ (show ∀ j u,([.int .i64 (N:Int),.slice A3 l3 d3,.string f.2,.int .i64 (q:Int)]:List Value)[j]?=some u→(wr.alloc (.cells #[.int .i64 (N:Int),.slice A3 l3 d3,.string f.2,.int .i64 (q:Int)] 202)).cell? ((⟨wr.heap.size,0,none⟩:Addr).add j)=some u from World.news_of_block (Box.new wr 202 #[.int .i64 (N:Int),.slice A3 l3 d3,.string f.2,.int .i64 (q:Int)]))
       have XB:=hZ (show w.heap.size+1≤(wr.alloc (.cells #[.int .i64 (N:Int),.slice A3 l3 d3,.string f.2,.int .i64 (q:Int)] 202)).heap.size by have:=IB.out.size;simp;omega)
       have K1:=hZ k1
       have K2:=hZ k2
       have K4:=hZ k4
       obtain⟨z0,z1,z2,z3,-,-,-,-⟩:=IT.out.quad
       clear al k1 k2 k3 k4
       go_wp2_with (at_builtin;refine wpList_append_own _ rfl _ _ 194 rfl (w.heap.size+1) 202 j0 (.agg #[.int .i64 0,.slice none 0 0,.string ⟨#[]⟩,.int .i64 0]) 4 56 Tryz.underlying194 hinf hz0 hz1 hz2 rfl (by decide) _ _ _ rfl XO.out ⟨wr.heap.size,0,none⟩ 1 1 [.int .i64 (N:Int),.slice A3 l3 d3,.string f.2,.int .i64 (q:Int)] rfl rfl XN.out (by simp [Value.oneCell']) (by simp [maxLen];omega) (by omega) XB.out ?_;intro v' w7 hown' hgrow _;have HO2:=hZ hown';have HG2:=hZ hgrow;clear hown' hgrow)
       have XP:=hZ (IP.out.keep AL6.out)
       have XR:=hZ (IR.out.below AL6.out)
       have XC:=hZ (own_keep IC.out AL6.out)
       have XBl:=hZ (chain IB.out AL6.out)
       have hpc:PC _ w7 202:=⟨_,HG2.out,fun g e=>(own_blk XO.out g e).2⟩
       have RP:=hZ (hpc.pairs XP.out (by decide) (by decide))
       have RR:=hZ (hpc.row XR.out (by decide))
       have RC:=hZ (hpc.own XC.out (by decide))
       have RB:=hZ (gr_low XBl.out (by have:=XB.out;omega) HG2.out (fun g e=>by have:=(own_blk XO.out g e).1;omega))
       have RS:=hZ (show OwnersQ w w7 (w.heap.size+1) v' N (clrP q f O++[f]) (P.take (k+1)) by
        rw [List.take_succ_eq_append_getElem (by rw [← HPM.out];exact hlt),show P[k]'(by rw [← HPM.out];exact hlt)=q by rw [HQe.out];simp [List.getD,show k<P.length by rw [← HPM.out];exact hlt]]
        refine OwnersQ.snoc (rs:=rs) (by rw [clrP_len];exact K1.out) (by rw [clrP_len];exact K2.out) (fun j hj=>hpc.row ((K4.out j (by rw [clrP_len] at hj;exact hj)).below AL6.out) (by decide)) RR.out ?_
        have:=HO2.out
        rw [show O.length=(clrP q f O).length from (clrP_len _ _ _).symm] at this
        exact this)
       have REl:=hZ (show Elim (L0.map (zOf N)) P (k+1) ((clrP q f O++[f]).map (zOf N)) ((clrP q f Fe).map (zOf N)) by
        have:=elim_next HEl.out HMr.out HSp.out (by rw [← HPM.out];exact hlt) HGO.out HGF.out i1 HI1.out (by rw [← HQe.out];exact HBit.out)
        rw [← HQe.out,← HFe.out,← HFer.out] at this
        exact this)
       have RGO:=hZ (show ∀ p∈clrP q f O++[f],GoodP N n p from fun p hp=>by
        rcases List.mem_append.1 hp with h | h
        ·exact clrP_good GF.out HGO.out p h
        ·simp only [List.mem_singleton] at h;subst h;exact GF.out)
       have RGF:=hZ (clrP_good (c:=q) GF.out HGFe.out)
       have RFl:=hZ (show (clrP q f Fe).length≤i by rw [clrP_len];exact HLe.out)
       clear hpc XP XR XC XBl HO2 HG2 XO XN XB K1 K2 K4 IO IP IT IR IC IB AL6
       go_roundw
       case rel=>exact⟨k+1,_,_,by omega,by go_num,REl,RGO,RGF,RFl,RS,RP,RC,RB⟩
       case measure=>simp [intOf];omega
    ·obtain rfl:k=M.length:=by omega
     have hlt':¬ (M.length:Int)<(M.length:Int):=by omega
     have HE2:=HEl.out
     have HOw2:=HOw.out
     rw [HPM.out] at HE2 HOw2
     rw [List.take_length] at HOw2
     go_wp2_with fail
     go_ret2
     exact⟨M,P,O,F,u9,u6,rfl,HMr.out,HMs.out,HE2,HGO.out,HGF.out,HOw2,HFr.out,by rw [HPl.out];exact HFl.out,HBx.out⟩
end
section
/- What equations tell: told columns, and their blocks. No program. -/
theorem row_bitW (N x p:Nat) (h:p<64*nw N):(bitAt (rowOf N x) p==1)=x.testBit p:=by
 rw [bitAt_test,rowOf_at N x (p / 64) (by omega),Nat.testBit_mod_two_pow,Nat.testBit_shiftRight]
 have e:64*(p / 64)+p%64=p:=by omega
 have l:p%64<64:=Nat.mod_lt _ (by omega)
 rw [e];simp [l]
theorem one_range (c:Nat):∀ k,((List.range k).filter fun p=>decide (c=p)).length=if c<k then 1 else 0
 | 0=>by simp
 | k+1=>by
   rw [List.range_succ,List.filter_append,List.length_append,one_range c k]
   by_cases e:c=k
   ·subst e;simp
   ·by_cases h:c<k
    ·simp [h,e,show c<k+1 by omega]
    ·simp [h,e,show ¬ c<k+1 by omega]
theorem nw_le (N:Nat):N≤64*nw N:=by unfold nw;omega
theorem popN_eq (N x:Nat):popN N x=((List.range (64*nw N)).filter fun p=>x.testBit p).length:=by
 unfold popN plcN
 rw [rowOf_len]
 congr 1
 apply List.filter_congr
 intro p hp
 exact row_bitW N x p (by simpa using hp)
theorem popN_one {N x:Nat} (hx:x<2 ^ N):popN N x=1↔∃ c,x=2 ^ c:=by
 rw [popN_eq]
 have hbig:∀ p,64*nw N≤p→x.testBit p=false:=fun p hp=>Nat.testBit_lt_two_pow (Nat.lt_of_lt_of_le hx (Nat.pow_le_pow_right (by omega) (by have:=nw_le N;omega)))
 constructor
 ·intro h
  obtain⟨c,hc⟩:=List.length_eq_one_iff.1 h
  refine⟨c,Nat.eq_of_testBit_eq fun p=>?_⟩
  have hm:∀ p,p∈(List.range (64*nw N)).filter (fun p=>x.testBit p)↔p=c:=fun p=>by rw [hc];simp
  have hcm:=(hm c).2 rfl
  rw [List.mem_filter] at hcm
  rw [Nat.testBit_two_pow]
  by_cases e:c=p
  ·subst e;simp [hcm.2]
  ·simp only [e,decide_false]
   cases hb:x.testBit p with
   | false=>rfl
   | true=>
     have hl:p<64*nw N:=by
      rcases Nat.lt_or_ge p (64*nw N) with h | h
      ·exact h
      ·rw [hbig p h] at hb;cases hb
     have:=(hm p).1 (by rw [List.mem_filter];exact⟨by simpa using hl,hb⟩)
     omega
 ·rintro ⟨c,rfl⟩
  have hc:c<64*nw N:=by
   rcases Nat.lt_or_ge c (64*nw N) with h | h
   ·exact h
   ·have:=hbig c h;simp [Nat.testBit_two_pow] at this
  have:=one_range c (64*nw N)
  rw [if_pos hc] at this
  rw [← this]
  congr 1
  apply List.filter_congr
  intro p _
  rw [Nat.testBit_two_pow]
theorem alone_iff {N x p:Nat} (hx:x<2 ^ N) (hl:IsLow x p):popN N x=1↔x=2 ^ p:=by
 rw [popN_one hx]
 constructor
 ·rintro ⟨c,rfl⟩
  have:=hl.1
  rw [Nat.testBit_two_pow] at this
  have:c=p:=by simpa using this
  rw [this]
 ·intro h;exact⟨p,h⟩
def KnownP (N n:Nat) (X Z:List Nat) (cols:List Nat) (blks:List ByteArray):Prop:=
 cols.Pairwise (· < ·)∧(∀ c,c∈cols↔c<N∧Sp X (2 ^ c))∧blks.length=cols.length∧∀ j,j<cols.length→(blks.getD j ByteArray.empty).size=n∧∃ v,Sp Z v∧lowN N v=2 ^ (cols.getD j 0)∧v>>>N=bn (blks.getD j ByteArray.empty).data.toList
theorem fits_uniq {N:Nat} {Z:List Nat} (hf:FitsP N Z) {u v:Nat} (hu:Sp Z u) (hv:Sp Z v) (h:lowN N u=lowN N v):u=v:=
 xor_cancel (hf _ (sp_xor hu hv) (by rw [lowN_xor,h,Nat.xor_self]))
theorem known_uniq {N n:Nat} {X Z cols cols':List Nat} {blks blks':List ByteArray} (hf:FitsP N Z) (h:KnownP N n X Z cols blks) (k:KnownP N n X Z cols' blks'):cols=cols'∧blks=blks':=by
 have hc:cols=cols':=rising_uniq cols cols' h.1 k.1 fun x=>by rw [h.2.1,k.2.1]
 subst hc
 refine⟨rfl,List.ext_getElem (h.2.2.1.trans k.2.2.1.symm) fun j h1 h2=>?_⟩
 have hj:j<cols.length:=by rw [← h.2.2.1];exact h1
 obtain⟨s1,v,a1,a2,a3⟩:=h.2.2.2 j hj
 obtain⟨s2,u,b1,b2,b3⟩:=k.2.2.2 j hj
 have e:=fits_uniq hf a1 b1 (a2.trans b2.symm)
 subst e
 have hb:=bn_inj _ _ (by rw [size_list,size_list,s1,s2]) (a3.symm.trans b3)
 have g1:blks.getD j ByteArray.empty=blks[j]:=by simp [List.getD,h1]
 have g2:blks'.getD j ByteArray.empty=blks'[j]:=by simp [List.getD,h2]
 rw [g1,g2] at hb
 rw [← back_list blks[j],← back_list blks'[j],hb]
def aln (N:Nat) (O:List PV) (i:Nat):List Nat:=(List.range i).filter fun j=>decide (popN N (O.getD j pv0).1=1)
theorem aln_yes (N:Nat) (O:List PV) (i:Nat) (h:popN N (O.getD i pv0).1=1):aln N O (i+1)=aln N O i++[i]:=by
 unfold aln;rw [List.range_succ,List.filter_append];simp only [List.filter_cons,List.filter_nil,h,decide_true,if_true]
theorem aln_no (N:Nat) (O:List PV) (i:Nat) (h:¬ popN N (O.getD i pv0).1=1):aln N O (i+1)=aln N O i:=by
 unfold aln;rw [List.range_succ,List.filter_append];simp only [List.filter_cons,List.filter_nil,h,decide_false,Bool.false_eq_true,if_false,List.append_nil]
theorem aln_len (N:Nat) (O:List PV) (i:Nat):(aln N O i).length≤i:=by
 have:=List.length_filter_le (fun j=>decide (popN N (O.getD j pv0).1=1)) (List.range i)
 simpa [aln] using this
def alnC (N:Nat) (O:List PV) (P:List Nat) (i:Nat):List Nat:=(aln N O i).map fun j=>P.getD j 0
def alnB (N:Nat) (O:List PV) (i:Nat):List ByteArray:=(aln N O i).map fun j=>(O.getD j pv0).2
theorem elim_known {N n:Nat} {X M P:List Nat} {Z:List Nat} {O F:List PV} (hXZ:Z.map (lowN N)=X) (h:Elim Z P P.length (O.map (zOf N)) (F.map (zOf N))) (hr:Rref M P) (hs:SameSp X M) (hO:∀ p∈O,GoodP N n p):KnownP N n X Z (alnC N O P P.length) (alnB N O P.length):=by
 have hs':SameSp (Z.map (lowN N)) M:=by rw [hXZ];exact hs
 have hM:=rows_lt hs'
 have hOl:O.length=P.length:=by have:=h.len;rwa [List.length_map] at this
 have row:∀ j,j<P.length→(O.getD j pv0).1=M.getD j 0:=fun j hj=>by
  have:=h.own_low hr hs' j hj
  rw [mapz_at N O j (by omega),z_low (hO _ (getD_memP (by omega)))] at this
  exact this
 have al:∀ j,j<P.length→(popN N (O.getD j pv0).1=1↔M.getD j 0=2 ^ (P.getD j 0)):=fun j hj=>by
  have hl:=hr.low j (by rw [hr.len];exact hj)
  rw [row j hj]
  exact alone_iff (hM _ (getD_mem (by rw [hr.len];exact hj))) hl
 have mem:∀ j,j∈aln N O P.length↔j<P.length∧popN N (O.getD j pv0).1=1:=fun j=>by simp [aln]
 refine⟨?_,fun c=>?_,by simp [alnC,alnB],fun j hj=>?_⟩
 ·unfold alnC
  rw [List.pairwise_map]
  refine List.Pairwise.imp_of_mem ?_ (List.Pairwise.filter _ List.pairwise_lt_range)
  intro a b ha hb hab
  exact hr.rise a b hab (by rw [hr.len];exact ((mem b).1 hb).1)
 ·simp only [alnC,List.mem_map]
  constructor
  ·rintro ⟨j,hj,rfl⟩
   obtain⟨h1,h2⟩:=(mem j).1 hj
   refine⟨place_lt hM hr j h1,(hs _).2 ?_⟩
   rw [← (al j h1).1 h2]
   exact sp_mem (getD_mem (by rw [hr.len];exact h1))
  ·rintro ⟨-,h2⟩
   obtain⟨j,hj,hc,hm⟩:=(told_iff hr c).1 ((hs _).1 h2)
   exact⟨j,(mem j).2 ⟨hj,(al j hj).2 (by rw [hm,hc])⟩,hc⟩
 ·have hj':j<(aln N O P.length).length:=by simpa [alnC] using hj
  have hk:=(mem ((aln N O P.length)[j])).1 (List.getElem_mem hj')
  have e1:(alnC N O P P.length).getD j 0=P.getD (aln N O P.length)[j] 0:=by simp [alnC,List.getD,hj']
  have e2:(alnB N O P.length).getD j ByteArray.empty=(O.getD (aln N O P.length)[j] pv0).2:=by simp [alnB,List.getD,hj']
  have g:=hO _ (getD_memP (L:=O) (i:=(aln N O P.length)[j]) (by rw [hOl];exact hk.1))
  rw [e1,e2]
  refine⟨g.2,zOf N (O.getD (aln N O P.length)[j] pv0),(h.span _).1 (sp_left (sp_mem (List.mem_map.2 ⟨_,getD_memP (by rw [hOl];exact hk.1),rfl⟩))),?_,z_high g⟩
  rw [z_low g,row _ hk.1]
  exact (al _ hk.1).1 hk.2
theorem elim_fits {N n:Nat} {X M P:List Nat} {Z:List Nat} {O F:List PV} (hXZ:Z.map (lowN N)=X) (h:Elim Z P P.length (O.map (zOf N)) (F.map (zOf N))) (hr:Rref M P) (hs:SameSp X M) (hF:∀ p∈F,GoodP N n p):noughtP F=true↔FitsP N Z:=by
 have hs':SameSp (Z.map (lowN N)) M:=by rw [hXZ];exact hs
 rw [← h.fits hr hs']
 simp only [noughtP,List.all_eq_true]
 constructor
 ·intro ha f hf
  obtain⟨p,hp,rfl⟩:=List.mem_map.1 hf
  have hl:=h.free_low hr hs' hf
  rw [z_low (hF p hp)] at hl
  exact (z_nought (hF p hp)).2 ⟨hl,ha p hp⟩
 ·intro ha p hp
  exact ((z_nought (hF p hp)).1 (ha _ (List.mem_map.2 ⟨p,hp,rfl⟩))).2
end
section
/- backsub: fault, Fits. -/
open Go.RowKit
set_option maxRecDepth 100000
def bkE (N:Int) (ms:List (Int×List Nat)) (n:Int) (ss:List ByteArray):Int:=if rightM N ms then if okS n ss&&ss.length==ms.length then 0 else 2 else 1
theorem fault_any (N n:Int) (A S:Option Addr) (lm c lo k d:Nat) (ms:List (Int×List Nat)) (ss:List ByteArray) (w:World) (hm:MatAt w lo A lm ms) (hl:lm≤maxLen) (ht:Texts w S k ss) (hkd:k≤d) (hd:d≤maxLen) :
  Calls Tryz.prog 148 #[.agg #[.int .i64 N,.slice A lm c],.int .i64 n,.slice S k d] w fun e w'=>e=.returned (.int .i64 (bkE N ms n ss))∧Below w.heap.size w w':=by
 have b1:Below w.heap.size w (w.alloc (.cells #[.int .i64 N,.slice A lm c] 102)):=(Below.refl _ _).alloc (Nat.le_refl _) _
 have Q0:=hZ (Box.new w 102 #[.int .i64 N,.slice A lm c])
 have HB:=hZ b1
 have HR:=hZ (mright_any N A lm c lo ms _ (hm.below b1) hl)
 have HT:=hZ ht
 have e1:=hm.1
 have e2:=ht.1
 obtain⟨q0,q1,-,-⟩:=Q0.out.two
 unfold maxLen at hl hd
 cases hr:rightM N ms with
 | false=>
   rw [hr] at HR
   have HE:=hZ (show bkE N ms n ss=1 by rw [bkE,hr];rfl)
   clear b1 hm ht e1 e2 hr
   go_enter Tryz.func148,Tryz.ntmps148
   go_wp2_with fail
   refine HR.out.mono ?_
   rintro e x1 ⟨rfl,hb⟩
   have HB2:=hZ (chain HB.out hb)
   clear hb
   go_wp2_with fail
   go_ret
   exact⟨by rw [HE.out];rfl,HB2.out⟩
 | true=>
   rw [hr] at HR
   cases ho:okS n ss with
   | false=>
     have HS:=hZ (fun W (h:Texts W S k ss)=>sum_any n S k d ss W h hkd (by unfold maxLen;omega))
     have he:sumE n ss=2:=by rw [sumE,ho];rfl
     rw [he] at HS
     have HE:=hZ (show bkE N ms n ss=2 by rw [bkE,hr,ho];rfl)
     clear b1 hm ht e1 e2 hr ho he
     go_enter Tryz.func148,Tryz.ntmps148
     go_wp2_with fail
     refine HR.out.mono ?_
     rintro e x1 ⟨rfl,hb⟩
     have HB2:=hZ (chain HB.out hb)
     clear hb
     go_wp2_with fail
     refine (HS.out _ (HT.out.below HB2.out)).mono ?_
     rintro e x2 ⟨rfl,hb⟩
     have HB3:=hZ (chain HB2.out hb)
     clear hb
     go_wp2_with fail
     go_ret
     exact⟨by rw [HE.out];rfl,HB3.out⟩
   | true=>
     have HS:=hZ (fun W (h:Texts W S k ss)=>sum_any n S k d ss W h hkd (by unfold maxLen;omega))
     have he:sumE n ss=0:=by rw [sumE,ho];rfl
     rw [he] at HS
     by_cases hk:k=lm
     ·have HE:=hZ (show bkE N ms n ss=0 by rw [bkE,hr,ho,e1,e2,hk];simp)
      have t:((k:Int) != (lm:Int))=false:=by simp [hk]
      clear b1 hm ht e1 e2 hr ho he hk
      go_enter Tryz.func148,Tryz.ntmps148
      go_wp2_with fail
      refine HR.out.mono ?_
      rintro e x1 ⟨rfl,hb⟩
      have HB2:=hZ (chain HB.out hb)
      have Q1:=hZ (Q0.out.keep hb)
      clear hb
      go_wp2_with fail
      refine (HS.out _ (HT.out.below HB2.out)).mono ?_
      rintro e x2 ⟨rfl,hb⟩
      have HB3:=hZ (chain HB2.out hb)
      have Q2:=hZ (Q1.out.keep hb)
      clear hb q0 q1
      obtain⟨q0,q1,-,-⟩:=Q2.out.two
      go_wp2_with fail
      go_ret
      exact⟨by rw [HE.out];rfl,HB3.out⟩
     ·have HE:=hZ (show bkE N ms n ss=2 by rw [bkE,hr,ho,e1,e2];simp [hk])
      have t:((k:Int) != (lm:Int))=true:=by simp;omega
      clear b1 hm ht e1 e2 hr ho he
      go_enter Tryz.func148,Tryz.ntmps148
      go_wp2_with fail
      refine HR.out.mono ?_
      rintro e x1 ⟨rfl,hb⟩
      have HB2:=hZ (chain HB.out hb)
      have Q1:=hZ (Q0.out.keep hb)
      clear hb
      go_wp2_with fail
      refine (HS.out _ (HT.out.below HB2.out)).mono ?_
      rintro e x2 ⟨rfl,hb⟩
      have HB3:=hZ (chain HB2.out hb)
      have Q2:=hZ (Q1.out.keep hb)
      clear hb q0 q1
      obtain⟨q0,q1,-,-⟩:=Q2.out.two
      go_wp2_with fail
      go_ret
      exact⟨by rw [HE.out];rfl,HB3.out⟩
structure BkIn (w:World) (N n:Nat) (X:List Nat) (ss:List ByteArray) (A S:Option Addr) (m c d:Nat):Prop where
 hN:N≤64
 hn:n≤64
 hX:∀ r∈X,r<2 ^ N
 hXm:X.length=m
 hm64:m≤64
 hss:∀ s∈ss,s.size=n
 hsl:SliceOk A m c
 hm:MatAt w 0 A m (mkM N X)
 hr:rightM N (mkM N X)=true
 ht:Texts w S m ss
 hmd:m≤d
 hd:d≤maxLen
theorem BkIn.below {w w':World} {N n:Nat} {X:List Nat} {ss:List ByteArray} {A S:Option Addr} {m c d:Nat} (h:BkIn w N n X ss A S m c d) (hb:Below w.heap.size w w'):BkIn w' N n X ss A S m c d:=
 ⟨h.hN,h.hn,h.hX,h.hXm,h.hm64,h.hss,h.hsl,h.hm.below hb,h.hr,h.ht.below hb,h.hmd,h.hd⟩
def zs (N:Nat) (X:List Nat) (ss:List ByteArray):List Nat:=(pairs X ss).map (zOf N)
theorem BkIn.low {w:World} {N n:Nat} {X:List Nat} {ss:List ByteArray} {A S:Option Addr} {m c d:Nat} (h:BkIn w N n X ss A S m c d):(zs N X ss).map (lowN N)=X:=
 pairs_low h.hX h.hss (by rw [h.hXm,h.ht.1])
theorem BkIn.ok {w:World} {N n:Nat} {X:List Nat} {ss:List ByteArray} {A S:Option Addr} {m c d:Nat} (h:BkIn w N n X ss A S m c d):bkE N (mkM N X) n ss=0:=by
 rw [bkE,if_pos h.hr,okS_of n ss h.hn h.hss (by rw [h.ht.1];exact h.hm64),mkM_len,h.hXm,h.ht.1];simp
theorem BkIn.fault {w:World} {N n:Nat} {X:List Nat} {ss:List ByteArray} {A S:Option Addr} {m c d:Nat} (h:BkIn w N n X ss A S m c d):Calls Tryz.prog 148 #[.agg #[.int .i64 (N:Int),.slice A m c],.int .i64 (n:Int),.slice S m d] w fun e w'=>e=.returned (.int .i64 0)∧Below w.heap.size w w':=by
 have:=fault_any N n A S m c 0 m d (mkM N X) ss w h.hm (by have:=h.hm64;unfold maxLen;omega) h.ht h.hmd h.hd
 rwa [h.ok] at this
theorem BkIn.reduced {w:World} {N n:Nat} {X:List Nat} {ss:List ByteArray} {A S:Option Addr} {m c d:Nat} (h:BkIn w N n X ss A S m c d):Calls Tryz.prog 149 #[.agg #[.int .i64 (N:Int),.slice A m c],.slice S m d] w (RedOut N n (pairs X ss) X w):=
 reduced_any N n h.hN h.hn X h.hX m h.hXm h.hm64 ss h.hss A S c d 0 w h.hsl h.hm h.hr h.ht
end
section
/- backsub: Known, Solve. -/
open Go.RowKit
set_option maxRecDepth 100000
def numI (x:Nat):Value:=.int .i64 (x:Int)
def KnRes (N n:Nat) (X Z:List Nat) (E:Int) (cols:List Nat) (blks:List ByteArray):Prop:=
 (E=0∧FitsP N Z∧KnownP N n X Z cols blks)∨(E=10∧¬ FitsP N Z∧cols=[]∧blks=[])
def KnOut (N n:Nat) (X Z:List Nat) (w:World) (e:Ending) (w':World):Prop:=
 ∃ (E:Int) (cols:List Nat) (blks:List ByteArray) (B1 B2:Option Addr) (c1 c2:Nat),e=.returned (.tuple #[.slice B1 cols.length c1,.slice B2 blks.length c2,.int .i64 E])∧Ints w' B1 cols.length (cols.map fun x:Nat=>(x:Int))∧Texts w' B2 blks.length blks∧cols.length≤64∧blks.length≤64∧blks.length≤c2∧c2≤maxLen∧KnRes N n X Z E cols blks∧Below w.heap.size w w'
theorem int_info5:(Tryz.prog.info? 3).map (fun i=>(i.zero,i.size,i.bytes))=some (some (.int .i64 0),1,8):=by kernel_rfl
theorem str_info5:(Tryz.prog.info? 9).map (fun i=>(i.zero,i.size,i.bytes))=some (some (.string ⟨#[]⟩),1,16):=by kernel_rfl
theorem own_texts5 {w:World} {base:Nat} {A:Option Addr} {c:Nat} {ss:List ByteArray} (h:w.ownsRow base 9 1 (.slice A ss.length c) ss.length (ss.map Value.string)) (hz:∀ s∈ss,s.size≤maxLen):Texts w A ss.length ss:=by
 refine⟨rfl,fun j=>?_,fun hp=>?_⟩
 ·by_cases hj:j<ss.length
  ·have:ss.getD j ByteArray.empty=ss[j]:=by simp [List.getD,hj]
   rw [this];exact hz _ (List.getElem_mem hj)
  ·have:ss[j]?=none:=List.getElem?_eq_none (by omega)
   simp only [List.getD,this,Option.getD_none];unfold maxLen;decide
 ·rcases h.2 with ⟨hv,hz⟩ |⟨g,cap,cur,hv,hb,hh,hc,hm,-⟩
  ·omega
  ·injection hv with hv
   subst hv
   refine⟨g,0,rfl,(show Box w g _ cur from hh).lt,fun j hj=>?_⟩
   have:=World.ownsRow.cells h (g:=g) rfl j (.string (ss.getD j ByteArray.empty)) (by simp [List.getD,hj])
   rwa [add_zero0,show (⟨g,j,none⟩:Addr)=⟨g,0+j,none⟩ by rw [Nat.zero_add]] at this
theorem own_cap5 {w:World} {base e size:Nat} {A:Option Addr} {n c:Nat} {xs:List Value} (h:w.ownsRow base e size (.slice A n c) n xs):n≤c∧c≤maxLen:=by
 rcases h.2 with ⟨hv,hz⟩ |⟨g,cap,cur,hv,hb,hh,hc,hm,-⟩
 ·injection hv with _ _ hv;subst hv;exact⟨by omega,by simp [maxLen]⟩
 ·injection hv with _ _ hv;subst hv;exact⟨hc,hm⟩
set_option maxHeartbeats 4000000 in
theorem known_yes {N n:Nat} {X:List Nat} {ss:List ByteArray} {A S:Option Addr} {m c d:Nat} (w:World) (h:BkIn w N n X ss A S m c d) :
  Calls Tryz.prog 135 #[.agg #[.int .i64 (N:Int),.slice A m c],.int .i64 (n:Int),.slice S m d] w (KnOut N n X (zs N X ss) w):=by
 have b1:Below w.heap.size w (w.alloc (.cells #[.int .i64 (N:Int),.slice A m c] 102)):=(Below.refl _ _).alloc (Nat.le_refl _) _
 have Q0:=hZ (Box.new w 102 #[.int .i64 (N:Int),.slice A m c])
 have HB:=hZ b1
 have HI:=hZ (h.below b1)
 have HF:=hZ HI.out.fault
 have HLow:=hZ h.low
 have hN:=h.hN
 have hn:=h.hn
 obtain⟨q0,q1,-,-⟩:=Q0.out.two
 clear b1 h
 go_enter Tryz.func135,Tryz.ntmps135
 go_wp2_with fail
 refine HF.out.mono ?_
 rintro e x1 ⟨rfl,hb⟩
 have HB2:=hZ (chain HB.out hb)
 have Q1:=hZ (Q0.out.keep hb)
 have HI1:=hZ (HI.out.below hb)
 clear hb q0 q1 HF HB HI Q0
 obtain⟨q0,q1,-,-⟩:=Q1.out.two
 go_wp2_with fail
 refine HI1.out.reduced.mono ?_
 rintro e x2 ⟨M,P,O,F,vO,vF,rfl,h1,h2,h3,h4,h5,h6,h7,h8,hb⟩
 have HB3:=hZ (chain HB2.out hb)
 have HFit:=hZ (elim_fits HLow.out h3 h1 h2 h5)
 have HKn:=hZ (elim_known HLow.out h3 h1 h2 h4)
 have HA:=hZ (fun W (hp:PairsQ x1 W (x1.heap.size+1) vF N F)=>allNought_any N F (fun p hp=>by have:=(h5 p hp).2;omega) (by rw [pairs_len X ss m HI1.out.hXm HI1.out.ht.1] at h8;have:=HI1.out.hm64;omega) x1 (x1.heap.size+1) vF W hp)
 have HP:=hZ h7
 have HO:=hZ h6
 have HGO:=hZ h4
 have HX12:=hZ hb
 have HPl:=hZ (show P.length=O.length by have:=h3.len;rw [List.length_map] at this;exact this.symm)
 have HPc:=hZ (show ∀ j,j<P.length→P.getD j 0<N from fun j hj=>place_lt (rows_lt (show SameSp (((pairs X ss).map (zOf N)).map (lowN N)) M by have:=HLow.out;unfold zs at this;rw [this];exact h2)) h1 j hj)
 have hO64:O.length≤64:=by
  have:=rref_len h1 (rows_lt (show SameSp (((pairs X ss).map (zOf N)).map (lowN N)) M by have:=HLow.out;unfold zs at this;rw [this];exact h2))
  have e:=h1.len
  rw [HPl.out] at e
  omega
 obtain⟨Ao,co,rfl,hoc,hocm⟩:=h6.form0
 unfold maxLen at hocm
 clear h1 h2 h3 h4 h5 h6 h7 h8 hb q0 q1
 cases hno:noughtP F with
 | false=>
   rw [hno] at HA
   have HNF:=hZ (show ¬ FitsP N (zs N X ss) from fun hf=>by have:=HFit.out.2 hf;rw [hno] at this;cases this)
   clear hno
   go_wp2_with fail
   refine (HA.out _ HP.out).mono ?_
   rintro e x3 ⟨rfl,hb⟩
   have HB4:=hZ (chain HB3.out hb)
   clear hb HA
   go_wp2_with fail
   go_ret3
   exact⟨10,[],[],none,none,0,0,rfl,Ints.nil _ _,Texts.nil _ _,by simp,by simp,by simp,by simp [maxLen],.inr ⟨rfl,HNF.out,rfl,rfl⟩,HB4.out⟩
 | true=>
   rw [hno] at HA
   have HNF:=hZ (HFit.out.1 hno)
   clear hno
   go_wp2_with fail
   refine (HA.out _ HP.out).mono ?_
   rintro e x3 ⟨rfl,hb⟩
   have HB4:=hZ (chain HB3.out hb)
   have HO3:=hZ (HO.out.keep hb)
   have HX13:=hZ (chain HX12.out hb)
   clear hb HA HP HO HX12
   go_wp2_with fail
   go_loopw [34,12,13] (fun t v1 v2 wr=>∃ i:Nat,i≤O.length∧t=.int .i64 (i:Int)∧Hid (wr.ownsRow x1.heap.size 3 1 v1 (alnC N O P i).length ((alnC N O P i).map numI))∧Hid (wr.ownsRow x1.heap.size 9 1 v2 (alnB N O i).length ((alnB N O i).map Value.string))∧Hid (OwnersQ x1 wr (x1.heap.size+1) (.slice Ao O.length co) N O P)∧Hid (Below x1.heap.size x1 wr)∧Hid (Below w.heap.size w wr)) (fun t _ _ _=>O.length-(intOf t).toNat)
   case atStart=>exact⟨0,Nat.zero_le _,rfl,hZ (World.ownsRow_nil _ _ _ _),hZ (World.ownsRow_nil _ _ _ _),HO3,HX13,HB4⟩
   case round=>
    obtain⟨i,hi,rfl,H1,H2,HOr,HXr,HBr⟩:=hrel
    by_cases hlt:i<O.length
    ·have hlt':(i:Int)<(O.length:Int):=by omega
     have io:=HOr.out
     obtain⟨g,c2,hv,hgb,hgw,-,-,cur,hcur⟩:=io.form (by omega)
     injection hv with hv h2 h3
     subst hv
     clear h2 h3 hcur
     obtain⟨A1,l1,d1,x0,x1c,x2c,x3c,rq,-,-,-,-⟩:=io.at i hlt
     have gp:=HGO.out _ (getD_memP hlt)
     obtain⟨p,hp⟩:∃ p,p=O.getD i pv0:=⟨_,rfl⟩
     obtain⟨q,hq⟩:∃ q,q=P.getD i 0:=⟨_,rfl⟩
     rw [← hp] at x2c rq gp
     rw [← hq] at x3c
     have HPI:=hZ hp
     have HQI:=hZ hq
     have GP:=hZ gp
     have HqN:=hZ (show q<N by rw [hq];exact HPc.out i (by rw [HPl.out];exact hlt))
     have al:Below wr.heap.size wr (wr.alloc (.cells #[.int .i64 (N:Int),.slice A1 l1 d1,.string p.2,.int .i64 (q:Int)] 202)):=(Below.refl _ _).alloc (Nat.le_refl _) _
     have T:=hZ (Box.new wr 202 #[.int .i64 (N:Int),.slice A1 l1 d1,.string p.2,.int .i64 (q:Int)])
     have AL1:=hZ al
     have HW:=hZ ((rq.below al).words (Nat.le_refl _) (chain HXr.out al))
     have HH:=hZ (isAlone_any N p.1 (by omega) GP.out.1 A1 l1 d1 p.2 _ HW.out)
     obtain⟨t0,t1,t2,t3,-,-,-,-⟩:=T.out.quad
     clear al gp hp hq io rq HW
     by_cases hal:popN N p.1=1
     ·have ha:decide (popN N p.1=1)=true:=by simpa using hal
      rw [ha] at HH
      have HY:=hZ (aln_yes N O i (by rw [← HPI.out];exact hal))
      clear ha hal
      go_wp2_with fail
      refine HH.out.mono ?_
      rintro e w5 ⟨rfl,hb⟩
      have HC:=hZ (chain AL1.out hb)
      have T5:=hZ (T.out.keep hb)
      have O5:=hZ (HOr.out.keep HC.out)
      have X5:=hZ (chain HXr.out HC.out)
      have B5:=hZ (chain HBr.out HC.out)
      have O1:=hZ (own_keep H1.out HC.out)
      have O2:=hZ (own_keep H2.out HC.out)
      clear hb HH T HOr HXr HBr H1 H2 AL1 HC t0 t1 t2 t3 x0 x1c x2c x3c
      obtain⟨i0,ki,kz0,kz1,kz2⟩:=info_parts int_info5
      obtain⟨j0,ji,jz0,jz1,jz2⟩:=info_parts str_info5
      have hal5:Below w5.heap.size w5 (w5.alloc (.cells #[.int .i64 (q:Int)] 3)):=(Below.refl _ _).alloc (Nat.le_refl _) _
      have XO:=hZ (own_keep O1.out hal5)
      have X2:=hZ (own_keep O2.out hal5)
      have XT:=hZ (T5.out.keep hal5)
      have XQ:=hZ (O5.out.keep hal5)
      have XX:=hZ (chain X5.out hal5)
      have XB:=hZ (chain B5.out hal5)
      have hb5:=B5.out.size
      have hx5:=X5.out.size
      have hq0:w.heap.size<w5.heap.size:=by have:=Q1.out.lt;omega
      have XS:=hZ (show x1.heap.size≤(w5.alloc (.cells #[.int .i64 (q:Int)] 3)).heap.size by simp;omega)
      have hl1:=aln_len N O i
      have hl2:(alnC N O P i).length≤i:=by rw [alnC,List.length_map];exact hl1
      have hl3:(alnB N O i).length≤i:=by rw [alnB,List.length_map];exact hl1
      obtain⟨t0,t1,t2,t3,-,-,-,-⟩:=T5.out.quad
      clear hal5 O1 O2 hl1
      go_wp2_with (first
       | (at_builtin;refine wpList_append_own _ rfl _ _ 106 rfl x1.heap.size 3 i0 (.int .i64 0) 1 8 Tryz.underlying106 ki kz0 kz1 kz2 rfl (by decide) _ _ _ rfl XO.out ⟨w5.heap.size,0,none⟩ 1 1 [.int .i64 (q:Int)] rfl rfl (cell_one_new _ _ _) (by simp [Value.oneCell']) (by simp [maxLen];omega) (by omega) XS.out ?_;intro v1 w6 hown hgrow _;have HO1:=hZ hown;have HG1:=hZ hgrow;clear hown hgrow t0 t1 t2 t3;have hp6:PC _ w6 3:=⟨_,HG1.out,fun g e=>(own_blk XO.out g e).2⟩;have Y2:=hZ (hp6.own X2.out (by decide));have YT:=hZ (hp6.box XT.out (by decide));have YQ:=hZ (hp6.owners XQ.out (by decide) (by decide));have h6b:Below x1.heap.size (w5.alloc (.cells #[.int .i64 (q:Int)] 3)) w6:=gr_low (Below.refl _ _) XS.out HG1.out (fun g e=>(own_blk XO.out g e).1);have Z2:=hZ (own_keep Y2.out ((Below.refl w6.heap.size w6).alloc (Nat.le_refl _) (.cells #[.string p.2] 9)));have ZS:=hZ (show x1.heap.size≤(w6.alloc (.cells #[.string p.2] 9)).heap.size from by have:=XS.out;have:=HG1.out.size;simp;omega);clear hp6 h6b;obtain⟨t0,t1,t2,t3,-,-,-,-⟩:=YT.out.quad)
       | (at_builtin;refine wpList_append_own _ rfl _ _ 34 rfl x1.heap.size 9 j0 (.string ⟨#[]⟩) 1 16 Tryz.underlying34 ji jz0 jz1 jz2 rfl (by decide) _ _ _ rfl Z2.out ⟨w6.heap.size,0,none⟩ 1 1 [.string p.2] rfl rfl (cell_one_new _ _ _) (by simp [Value.oneCell']) (by simp [maxLen];omega) (by omega) ZS.out ?_;intro v2 w7 hown hgrow _;have HO2:=hZ hown;have HG2:=hZ hgrow;clear hown hgrow))
      have hw1:w.heap.size<x1.heap.size:=Q1.out.lt
      have al6:Below w6.heap.size w6 (w6.alloc (.cells #[.string p.2] 9)):=(Below.refl _ _).alloc (Nat.le_refl _) _
      have hp7:PC _ w7 9:=⟨_,HG2.out,fun g e=>(own_blk Z2.out g e).2⟩
      have R1:=hZ (show w7.ownsRow x1.heap.size 3 1 v1 (alnC N O P (i+1)).length ((alnC N O P (i+1)).map numI) by
       have e:alnC N O P (i+1)=alnC N O P i++[q]:=by unfold alnC;rw [HY.out,List.map_append,HQI.out];rfl
       rw [e,List.map_append,List.length_append]
       exact hp7.own (own_keep HO1.out al6) (by decide))
      have R2:=hZ (show w7.ownsRow x1.heap.size 9 1 v2 (alnB N O (i+1)).length ((alnB N O (i+1)).map Value.string) by
       have e:alnB N O (i+1)=alnB N O i++[p.2]:=by unfold alnB;rw [HY.out,List.map_append,HPI.out];rfl
       rw [e,List.map_append,List.length_append]
       exact HO2.out)
      have RQ:=hZ (hp7.owners (YQ.out.keep al6) (by decide) (by decide))
      have hX6:=gr_low XX.out XS.out HG1.out (fun g e=>(own_blk XO.out g e).1)
      have hX7:=gr_low (chainN hX6 hX6.size al6) ZS.out HG2.out (fun g e=>(own_blk Z2.out g e).1)
      have hB6:=gr_low XB.out XB.out.size HG1.out (fun g e=>by have:=(own_blk XO.out g e).1;omega)
      have hB7:=gr_low (chainN hB6 hB6.size al6) (chainN hB6 hB6.size al6).size HG2.out (fun g e=>by have:=(own_blk Z2.out g e).1;omega)
      have RX:=hZ hX7
      have RB:=hZ hB7
      clear hX6 hX7 hB6 hB7 hp7 al6 HO1 HO2 HG1 HG2 XO X2 XT XQ XX XB XS Y2 YT YQ Z2 ZS T5 O5 X5 B5
      go_roundw
      case rel=>exact⟨i+1,by omega,by go_num,R1,R2,RQ,RX,RB⟩
      case measure=>simp [intOf];omega
     ·have ha:decide (popN N p.1=1)=false:=by simpa using hal
      rw [ha] at HH
      have HY:=hZ (aln_no N O i (by rw [← HPI.out];exact hal))
      clear ha hal
      go_wp2_with fail
      refine HH.out.mono ?_
      rintro e w5 ⟨rfl,hb⟩
      have HC:=hZ (chain AL1.out hb)
      clear hb
      go_wp2_with fail
      go_roundw
      case rel=>exact⟨i+1,by omega,by go_num,hZ (by rw [alnC,HY.out];exact own_keep H1.out HC.out),hZ (by rw [alnB,HY.out];exact own_keep H2.out HC.out),hZ (HOr.out.keep HC.out),hZ (chain HXr.out HC.out),hZ (chain HBr.out HC.out)⟩
      case measure=>simp [intOf];omega
    ·obtain rfl:i=O.length:=by omega
     have hlt':¬ (O.length:Int)<(O.length:Int):=by omega
     have hk:=HKn.out
     rw [HPl.out] at hk
     have hl1:=aln_len N O O.length
     have hl2:(alnC N O P O.length).length≤O.length:=by rw [alnC,List.length_map];exact hl1
     have hl3:(alnB N O O.length).length≤O.length:=by rw [alnB,List.length_map];exact hl1
     obtain⟨B1,c1,hv1,-⟩:=own_form H1.out
     obtain⟨B2,c2,hv2,-⟩:=own_form H2.out
     subst hv1 hv2
     have hc2:=own_cap5 H2.out
     have hi1:=own_ints (zs:=(alnC N O P O.length).map fun x:Nat=>(x:Int)) (by rw [List.map_map];exact H1.out) (num_bdP _ (fun j hj=>by
      have hm:(alnC N O P O.length).getD j 0∈alnC N O P O.length:=getD_mem hj
      have:=(hk.2.1 _).1 hm
      omega))
     have hi2:=own_texts5 H2.out (fun s hs=>by
      obtain⟨j,hj,rfl⟩:=List.getElem_of_mem hs
      have:=(hk.2.2.2 j (by rw [← hk.2.2.1];exact hj)).1
      have e:(alnB N O O.length).getD j ByteArray.empty=(alnB N O O.length)[j]:=by simp [List.getD,hj]
      rw [e] at this
      rw [this];unfold maxLen;omega)
     have HK:=hZ hk
     have HI1':=hZ hi1
     have HI2':=hZ hi2
     have HC2:=hZ hc2
     have HL2:=hZ (show (alnC N O P O.length).length≤64 by omega)
     have HL3:=hZ (show (alnB N O O.length).length≤64 by omega)
     clear hk hi1 hi2 hc2 hl1 hl2 hl3
     go_wp2_with fail
     go_ret3
     exact⟨0,alnC N O P O.length,alnB N O O.length,B1,B2,c1,c2,rfl,HI1'.out,HI2'.out,HL2.out,HL3.out,HC2.out.1,HC2.out.2,.inl ⟨rfl,HNF.out,HK.out⟩,HBr.out⟩
end
section
/- backsub: Known and Solve of what may not be; Solve. -/
open Go.RowKit
set_option maxRecDepth 100000
def SvRes (N n:Nat) (X Z:List Nat) (E:Int) (blks:List ByteArray):Prop:=
 (E=10∧¬ FitsP N Z∧blks=[])∨(E=9∧FitsP N Z∧blks=[]∧∃ cols bl,KnownP N n X Z cols bl∧cols.length<N)∨(E=0∧FitsP N Z∧∃ cols,KnownP N n X Z cols blks∧¬ cols.length<N)
def SvOut (N n:Nat) (X Z:List Nat) (w:World) (e:Ending) (w':World):Prop:=
 ∃ (E:Int) (blks:List ByteArray) (B:Option Addr) (c:Nat),e=.returned (.tuple #[.slice B blks.length c,.int .i64 E])∧Texts w' B blks.length blks∧blks.length≤64∧blks.length≤c∧c≤maxLen∧SvRes N n X Z E blks∧Below w.heap.size w w'
theorem solve_yes {N n:Nat} {X:List Nat} {ss:List ByteArray} {A S:Option Addr} {m c d:Nat} (w:World) (h:BkIn w N n X ss A S m c d) :
  Calls Tryz.prog 119 #[.agg #[.int .i64 (N:Int),.slice A m c],.int .i64 (n:Int),.slice S m d] w (SvOut N n X (zs N X ss) w):=by
 have b1:Below w.heap.size w (w.alloc (.cells #[.int .i64 (N:Int),.slice A m c] 102)):=(Below.refl _ _).alloc (Nat.le_refl _) _
 have Q0:=hZ (Box.new w 102 #[.int .i64 (N:Int),.slice A m c])
 have HB:=hZ b1
 have HF:=hZ (known_yes _ (h.below b1))
 have hN:=h.hN
 obtain⟨q0,q1,-,-⟩:=Q0.out.two
 clear b1 h
 go_enter Tryz.func119,Tryz.ntmps119
 go_wp2_with fail
 refine HF.out.mono ?_
 rintro e x1 ⟨E,cols,blks,B1,B2,c1,c2,rfl,hi,ht,hl1,hl2,hc,hcm,hres,hb⟩
 have HB2:=hZ (chain HB.out hb)
 have Q1:=hZ (Q0.out.keep hb)
 have HT:=hZ ht
 have HC:=hZ hc
 have HCM:=hZ hcm
 clear hb q0 q1 ht hi HF HB Q0 hc hcm
 obtain⟨q0,q1,-,-⟩:=Q1.out.two
 rcases hres with ⟨rfl,hf,hk⟩ |⟨rfl,hf,rfl,rfl⟩
 ·have HFt:=hZ hf
  have HK:=hZ hk
  clear hf hk
  by_cases hlt:cols.length<N
  ·have hlt':(cols.length:Int)<(N:Int):=by omega
   go_wp2_with fail
   go_ret2
   exact⟨9,[],none,0,rfl,Texts.nil _ _,by simp,by simp,by simp [maxLen],.inr (.inl ⟨rfl,HFt.out,rfl,cols,blks,HK.out,hlt⟩),HB2.out⟩
  ·have hlt':¬ (cols.length:Int)<(N:Int):=by omega
   go_wp2_with fail
   go_ret2
   exact⟨0,blks,B2,c2,rfl,HT.out,hl2,HC.out,HCM.out,.inr (.inr ⟨rfl,HFt.out,cols,HK.out,hlt⟩),HB2.out⟩
 ·have HFt:=hZ hf
  clear hf
  go_wp2_with fail
  go_ret2
  exact⟨10,[],none,0,rfl,Texts.nil _ _,by simp,by simp,by simp [maxLen],.inl ⟨rfl,HFt.out,rfl⟩,HB2.out⟩
end
section
/- Layer 18: rank and solution of a store as functions; what a call does to an object. -/
open Go.RowKit Go.Lib
set_option maxRecDepth 100000
noncomputable def rankF (k:Int) (xs:List SymR):Nat:=Classical.epsilon fun n=>RkIs (rowsN k.toNat xs) n
theorem rankF_eq {k:Nat} {xs:List SymR} {n:Nat} (h:RkIs (rowsN k xs) n):rankF (k:Int) xs=n:=by
 unfold rankF
 rw [Int.toNat_natCast]
 exact rk_fun (Classical.epsilon_spec (p:=fun n=>RkIs (rowsN k xs) n) ⟨n,h⟩) h
theorem sv_fun {N n:Nat} {X Z:List Nat} {E E':Int} {b b':List ByteArray} (h:SvRes N n X Z E b) (h':SvRes N n X Z E' b'):E=E'∧b=b':=by
 rcases h with ⟨rfl,hf,rfl⟩ |⟨rfl,hf,rfl,c,bl,hk,hl⟩ |⟨rfl,hf,c,hk,hl⟩
 ·rcases h' with ⟨rfl,hf',rfl⟩ |⟨rfl,hf',-⟩ |⟨rfl,hf',-⟩
  ·exact⟨rfl,rfl⟩
  ·exact absurd hf' hf
  ·exact absurd hf' hf
 ·rcases h' with ⟨rfl,hf',rfl⟩ |⟨rfl,hf',rfl,-⟩ |⟨rfl,hf',c',hk',hl'⟩
  ·exact absurd hf hf'
  ·exact⟨rfl,rfl⟩
  ·have:=(known_uniq hf hk hk').1
   rw [this] at hl
   exact absurd hl hl'
 ·rcases h' with ⟨rfl,hf',rfl⟩ |⟨rfl,hf',rfl,c',bl',hk',hl'⟩ |⟨rfl,hf',c',hk',hl'⟩
  ·exact absurd hf hf'
  ·have:=(known_uniq hf hk hk').1
   rw [this] at hl
   exact absurd hl' hl
  ·exact⟨rfl,(known_uniq hf hk hk').2⟩
abbrev SolvP (k s:Nat) (xs:List SymR) (p:Int×List ByteArray):Prop:=SvRes k s (rowsN k xs) (zs k (rowsN k xs) (dtL xs)) p.1 p.2
theorem sv_nil {N n:Nat} {X Z:List Nat} {E:Int} {b:List ByteArray} (h:SvRes N n X Z E b) (hE:¬ E=0):b=[]:=by
 rcases h with ⟨rfl,hf,rfl⟩ |⟨rfl,hf,rfl,-⟩ |⟨rfl,-⟩
 ·rfl
 ·rfl
 ·exact absurd rfl hE
noncomputable def solveE (k s:Int) (xs:List SymR):Int×List ByteArray:=Classical.epsilon fun p=>SolvP k.toNat s.toNat xs p
noncomputable def solveF (k s:Int) (xs:List SymR):Int×List ByteArray:=if (solveE k s xs).1=0 then solveE k s xs else ((solveE k s xs).1,[])
theorem solveF_eq {k s:Nat} {xs:List SymR} {E:Int} {b:List ByteArray} (h:SvRes k s (rowsN k xs) (zs k (rowsN k xs) (dtL xs)) E b):solveF (k:Int) (s:Int) xs=(E,b):=by
 have h0:solveE (k:Int) (s:Int) xs=(E,b):=by
  unfold solveE
  rw [Int.toNat_natCast,Int.toNat_natCast]
  have h1:SolvP k s xs (Classical.epsilon fun p=>SolvP k s xs p):=Classical.epsilon_spec (p:=fun p=>SolvP k s xs p) ⟨(E,b),h⟩
  have:=sv_fun h1 h
  exact Prod.ext this.1 this.2
 unfold solveF
 rw [h0]
 by_cases e:E=0
 ·rw [if_pos e]
 ·rw [if_neg e,sv_nil h e]
theorem solveF_nil (k s:Int) (xs:List SymR) (h:¬ (solveF k s xs).1=0):(solveF k s xs).2=[]:=by
 unfold solveF at h ⊢
 by_cases e:(solveE k s xs).1=0
 ·rw [if_pos e] at h;exact absurd e h
 ·rw [if_neg e]
noncomputable def actO (o:ObR) (c:CallR):ObR×ReplyR:=
 if c.1=1 then
  (if whyI o.2.1.2.1 o.2.1.2.2.1 o.2.1.2.2.2 (c.2.2.2.2.2.1,c.2.2.2.2.2.2)=0 then
   ((o.1,(o.2.1.1,o.2.1.2.1,o.2.1.2.2.1,o.2.1.2.2.2++[(c.2.2.2.2.2.1,c.2.2.2.2.2.2)]),o.2.2),(0,(rankF o.2.1.1 (o.2.1.2.2.2++[(c.2.2.2.2.2.1,c.2.2.2.2.2.2)]):Int),[]))
  else (o,(whyI o.2.1.2.1 o.2.1.2.2.1 o.2.1.2.2.2 (c.2.2.2.2.2.1,c.2.2.2.2.2.2),0,[])))
 else if c.1=2 then (o,(0,(rankF o.2.1.1 o.2.1.2.2.2:Int),[]))
 else if c.1=3 then (o,((solveF o.2.1.1 o.2.1.2.1 o.2.1.2.2.2).1,((solveF o.2.1.1 o.2.1.2.1 o.2.1.2.2.2).2.length:Int),(solveF o.2.1.1 o.2.1.2.1 o.2.1.2.2.2).2))
 else ((o.1,o.2.1,1),(0,(o.2.1.2.2.2.length:Int),[]))
noncomputable def doO (o:ObR) (c:CallR):ObR×ReplyR:=
 if rightO o=true∧0≤c.1∧c.1≤4 then
  (if c.1=0 then (o,(11,0,[])) else if o.2.2=1 then (o,(6,0,[])) else actO o c)
 else (o,(1,0,[]))
theorem right_store {o:ObR} (h:rightO o=true):storeB o.2.1.1 o.2.1.2.1 o.2.1.2.2.1 o.2.1.2.2.2=true:=by
 unfold rightO at h
 rw [Bool.and_eq_true] at h
 exact h.1
theorem A3_gen (t0:TypeId) (a b r:Array Value) (w:World):Box (((w.alloc (.cells a t0)).alloc (.cells b 27)).alloc (.cells r 36)) w.heap.size t0 a∧Box (((w.alloc (.cells a t0)).alloc (.cells b 27)).alloc (.cells r 36)) (w.heap.size+1) 27 b∧Box (((w.alloc (.cells a t0)).alloc (.cells b 27)).alloc (.cells r 36)) (w.heap.size+1+1) 36 r∧Below w.heap.size w (((w.alloc (.cells a t0)).alloc (.cells b 27)).alloc (.cells r 36)):=by
 refine⟨((Box.new w _ _).alloc _).alloc _,?_,?_,(((Below.refl _ _).alloc (Nat.le_refl _) _).alloc (by simp) _).alloc (by simp;omega) _⟩
 ·have q:=(Box.new (w.alloc (.cells a t0)) 27 b).alloc (.cells r 36)
  simpa only [World.size_alloc] using q
 ·have q:=Box.new ((w.alloc (.cells a t0)).alloc (.cells b 27)) 36 r
  simpa only [World.size_alloc] using q
abbrev rZ:Array Value:=#[.int .i64 0,.int .i64 0,.slice none 0 0]
abbrev W4 (t0:TypeId) (a c b r:Array Value) (w:World):World:=(((w.alloc (.cells a t0)).alloc (.cells c 31)).alloc (.cells b 27)).alloc (.cells r 36)
theorem A4_gen (t0:TypeId) (a c b r:Array Value) (w:World):Box (W4 t0 a c b r w) w.heap.size t0 a∧Box (W4 t0 a c b r w) (w.heap.size+1) 31 c∧Box (W4 t0 a c b r w) (w.heap.size+1+1) 27 b∧Box (W4 t0 a c b r w) (w.heap.size+1+1+1) 36 r∧Below w.heap.size w (W4 t0 a c b r w):=by
 refine⟨(((Box.new w _ _).alloc _).alloc _).alloc _,?_,?_,?_,((((Below.refl _ _).alloc (Nat.le_refl _) _).alloc (by simp) _).alloc (by simp;omega) _).alloc (by simp;omega) _⟩
 ·have q:=((Box.new (w.alloc (.cells a t0)) 31 c).alloc (.cells b 27)).alloc (.cells r 36)
  simpa only [World.size_alloc] using q
 ·have q:=(Box.new ((w.alloc (.cells a t0)).alloc (.cells c 31)) 27 b).alloc (.cells r 36)
  simpa only [World.size_alloc] using q
 ·have q:=Box.new (((w.alloc (.cells a t0)).alloc (.cells c 31)).alloc (.cells b 27)) 36 r
  simpa only [World.size_alloc] using q
def Ref2 (o:ObR) (A:Option Addr) (d:Nat) (why:Int) (w:World) (e:Ending) (w':World):Prop:=e=.returned (.tuple #[.agg (obA o A d),.agg #[.int .i64 why,.int .i64 0,.slice none 0 0]])∧Below w.heap.size w w'
set_option maxHeartbeats 2000000 in
theorem refused_any (o:ObR) (A:Option Addr) (d:Nat) (why:Int) (w:World):Calls Tryz.prog 28 #[.agg (obA o A d),.int .i64 why] w (Ref2 o A d why w):=by
 obtain⟨q0,-,-,-⟩:=A3_gen 68 (obA o A d) oZ rZ w
 obtain⟨-,p1,p2,b3⟩:=A3_gen 68 (obA o A d) (obA o A d) #[.int .i64 why,.int .i64 0,.slice none 0 0] w
 have Q0:=hZ q0
 have P1:=hZ p1
 have P2:=hZ p2
 have HB:=hZ b3
 obtain⟨r0,r1,r2,r3,r4,r5⟩:=Q0.out.sixO
 clear q0 p1 p2 b3
 go_enter Tryz.func28,Tryz.ntmps28
 go_wp2_with fail
 refine close_two Tryz.results28 rfl rfl rfl P1.out P2.out Tryz.underlying27 Tryz.underlying36 rfl rfl (by kernel_rfl) (by kernel_rfl) ?_
 exact⟨rfl,HB.out⟩
end
section
/- The reference's way: byte by byte, with eight more columns. No program. -/
def prat (N at_ z:Nat):Nat:=lowN N z+2 ^ N*((z>>>(N+8*at_))%256)
theorem prat_bit (N a z i:Nat):(prat N a z).testBit i=if i<N then z.testBit i else (decide (i<N+8)&&z.testBit (i+8*a)):=by
 rw [prat,Nat.add_comm,Nat.testBit_two_pow_mul_add _ (lowN_lt N z)]
 split
 ·rename_i h;exact lowN_bit h
 ·rename_i h
  rw [show (256:Nat)=2 ^ 8 by rfl,Nat.testBit_mod_two_pow,Nat.testBit_shiftRight,show N+8*a+(i-N)=i+8*a by omega]
  congr 1
  apply Bool.eq_iff_iff.2
  simp;omega
theorem prat_zero (N a:Nat):prat N a 0=0:=by simp [prat,lowN]
theorem prat_xor (N a x y:Nat):prat N a (x^^^y)=prat N a x^^^prat N a y:=by
 apply Nat.eq_of_testBit_eq
 intro i
 rw [Nat.testBit_xor,prat_bit,prat_bit,prat_bit,Nat.testBit_xor]
 split
 ·rfl
 ·rw [Nat.testBit_xor]
  cases decide (i<N+8)<;>simp
theorem prat_lt (N a z:Nat):prat N a z<2 ^ (N+8):=by
 apply Nat.lt_pow_two_of_testBit
 intro i hi
 rw [prat_bit,if_neg (by omega)]
 simp;omega
theorem z_lt {N n:Nat} {p:PV} (h:GoodP N n p):zOf N p<2 ^ (N+8*n):=by
 apply Nat.lt_pow_two_of_testBit
 intro i hi
 rw [z_bit h,if_neg (by omega)]
 have e:i-N=8*((i-N) / 8)+(i-N)%8:=by omega
 rw [e,bn_byte _ _ _ (Nat.mod_lt _ (by omega))]
 have hl:p.2.data.toList.length=n:=by rw [size_list];exact h.2
 have:p.2.data.toList[(i-N) / 8]?=none:=List.getElem?_eq_none (by omega)
 simp [List.getD,this]
theorem fits_iff {N n:Nat} {Z:List Nat} (hZ:∀ z∈Z,z<2 ^ (N+8*n)) (Q:Nat→List Nat) (hQ:∀ a,a<n→∃ M,Rref M (Q a)∧SameSp (Z.map (prat N a)) M):FitsP N Z↔∀ a,a<n→∀ p∈Q a,p<N:=by
 constructor
 ·intro hf a ha p hp
  obtain⟨M,hr,hs⟩:=hQ a ha
  obtain⟨v,hv,hl⟩:=(hr.place p).1 hp
  obtain⟨u,hu,rfl⟩:=(sp_map _ (prat_zero N a) (prat_xor N a) Z _).1 ((hs _).2 hv)
  rcases Nat.lt_or_ge p N with h | h
  ·exact h
  ·have h0:lowN N u=0:=by
    apply Nat.eq_of_testBit_eq
    intro i
    rw [Nat.zero_testBit]
    by_cases hi:i<N
    ·rw [lowN_bit hi]
     have:=hl.2 i (by omega)
     rw [prat_bit,if_pos hi] at this
     exact this
    ·exact Nat.testBit_lt_two_pow (Nat.lt_of_lt_of_le (lowN_lt N _) (Nat.pow_le_pow_right (by omega) (by omega)))
   have:=hl.1
   rw [hf u hu h0,prat_zero] at this
   simp at this
 ·intro h v hv h0
  by_cases hz:v=0
  ·exact hz
  ·obtain⟨i,hi,-⟩:=low_exists hz
   have hN:N≤i:=by
    rcases Nat.lt_or_ge i N with h' | h'
    ·rw [← lowN_bit h',h0] at hi;simp at hi
    ·exact h'
   have hlt:i<N+8*n:=by
    rcases Nat.lt_or_ge i (N+8*n) with h' | h'
    ·exact h'
    ·rw [Nat.testBit_lt_two_pow (Nat.lt_of_lt_of_le (sp_lt hZ hv) (Nat.pow_le_pow_right (by omega) h'))] at hi;cases hi
   have ha:(i-N) / 8<n:=by omega
   obtain⟨M,hr,hs⟩:=hQ _ ha
   have hne:prat N ((i-N) / 8) v≠0:=fun e=>by
    have hb:(prat N ((i-N) / 8) v).testBit (N+(i-N)%8)=true:=by
     rw [prat_bit,if_neg (by omega),show N+(i-N)%8+8*((i-N) / 8)=i by omega,hi]
     simp;omega
    rw [e] at hb;simp at hb
   obtain⟨p,hp⟩:=low_exists hne
   have hpQ:=(hr.place p).2 ⟨_,(hs _).1 ((sp_map _ (prat_zero N _) (prat_xor N _) Z _).2 ⟨v,hv,rfl⟩),hp⟩
   have hpN:=h _ ha p hpQ
   have:=hp.1
   rw [prat_bit,if_pos hpN,← lowN_bit hpN,h0] at this
   simp at this
theorem byte_row {N a:Nat} {Z M P:List Nat} (hr:Rref M P) (hs:SameSp (Z.map (prat N a)) M) (hP:∀ p∈P,p<N) {v c:Nat} (hv:Sp Z v) (hl:lowN N v=2 ^ c) (hc:c<N):∃ j,j<P.length∧P.getD j 0=c∧M.getD j 0=prat N a v:=by
 have hu:Sp M (prat N a v):=(hs _).1 ((sp_map _ (prat_zero N a) (prat_xor N a) Z _).2 ⟨v,hv,rfl⟩)
 have hb:∀ i,i<N→(prat N a v).testBit i=decide (c=i):=fun i hi=>by
  rw [prat_bit,if_pos hi,← lowN_bit hi,hl,Nat.testBit_two_pow]
 have hlow:IsLow (prat N a v) c:=⟨by rw [hb c hc];simp,fun q hq=>by rw [hb q (by omega)];simp;omega⟩
 obtain⟨j,hj,hjc⟩:=mem_getD ((hr.place c).2 ⟨_,hu,hlow⟩)
 have hjM:j<M.length:=by rw [hr.len];exact hj
 refine⟨j,hj,hjc,xor_cancel (hr.zero (sp_xor (sp_mem (getD_mem hjM)) hu) fun i hi=>?_)⟩
 have hiP:i<P.length:=by rw [← hr.len];exact hi
 rw [Nat.testBit_xor,hr.one j i hjM hi,hb _ (hP _ (getD_mem hiP))]
 by_cases e:j=i
 ·subst e;rw [hjc];simp
 ·have hne:c≠P.getD i 0:=fun e2=>by
   rw [← hjc] at e2
   rcases Nat.lt_or_gt_of_ne e with hl | hl
   ·have:=hr.rise j i hl hi;omega
   ·have:=hr.rise i j hl hjM;omega
  simp only [e,decide_false,hne,Bool.xor_self]
def byL (N v k:Nat):List UInt8:=(List.range k).map fun a=>UInt8.ofNat ((v>>>(N+8*a))%256)
theorem byL_succ (N v k:Nat):byL N v (k+1)=byL N v k++[UInt8.ofNat ((v>>>(N+8*k))%256)]:=by simp [byL,List.range_succ]
theorem byL_len (N v k:Nat):(byL N v k).length=k:=by simp [byL]
theorem byL_bn (N v n:Nat) (h:v<2 ^ (N+8*n)):bn (byL N v n)=v>>>N:=by
 apply Nat.eq_of_testBit_eq
 intro i
 have e:i=8*(i / 8)+i%8:=by omega
 rw [Nat.testBit_shiftRight]
 conv=>lhs;rw [e]
 rw [bn_byte _ _ _ (Nat.mod_lt _ (by omega))]
 by_cases hl:i / 8<n
 ·have e1:(byL N v n).getD (i / 8) 0=UInt8.ofNat ((v>>>(N+8*(i / 8)))%256):=by simp [byL,List.getD,hl]
  have e2:(UInt8.ofNat ((v>>>(N+8*(i / 8)))%256)).toNat=(v>>>(N+8*(i / 8)))%256:=by
   rw [UInt8.toNat_ofNat'];exact Nat.mod_eq_of_lt (Nat.mod_lt _ (by omega))
  rw [e1,e2,show (256:Nat)=2 ^ 8 by rfl,Nat.testBit_mod_two_pow,Nat.testBit_shiftRight,show N+8*(i / 8)+i%8=N+i by omega]
  have:i%8<8:=Nat.mod_lt _ (by omega)
  simp [this]
 ·have:(byL N v n)[i / 8]?=none:=List.getElem?_eq_none (by rw [byL_len];omega)
  rw [Nat.testBit_lt_two_pow (Nat.lt_of_lt_of_le h (Nat.pow_le_pow_right (by omega) (show N+8*n≤N+i by omega)))]
  simp [List.getD,this]
def bitsI (x k:Nat):List Int:=(List.range k).map fun j=>if x.testBit j then 1 else 0
theorem bitsI_succ (x k:Nat):bitsI x (k+1)=bitsI x k++[if x.testBit k then 1 else 0]:=by simp [bitsI,List.range_succ]
theorem bitsI_len (x k:Nat):(bitsI x k).length=k:=by simp [bitsI]
theorem bitsI_at (x k j:Nat) (h:j<k):(bitsI x k).getD j 0=if x.testBit j then 1 else 0:=by simp [bitsI,List.getD,h]
theorem bitsI_lt (x k j:Nat):-9223372036854775808≤(bitsI x k).getD j 0∧(bitsI x k).getD j 0≤9223372036854775807:=by
 by_cases h:j<k
 ·rw [bitsI_at x k j h];split<;>omega
 ·have:(bitsI x k)[j]?=none:=List.getElem?_eq_none (by rw [bitsI_len];omega)
  simp [List.getD,this]
theorem bitsI_eq {x y k:Nat} (h:∀ j,j<k→x.testBit j=y.testBit j):bitsI x k=bitsI y k:=by
 unfold bitsI
 apply List.map_congr_left
 intro j hj
 rw [h j (by simpa using hj)]
theorem from_num (x k:Nat) (hx:x<2 ^ k):fromL (bitsOf (bitsI x k)) (nw k)=rowOf k x:=by
 apply List.ext_getElem
 ·rw [fromL_len,rowOf_len]
 ·intro i hi1 hi2
  have hi:i<nw k:=by rw [fromL_len] at hi1;exact hi1
  simp only [fromL,rowOf,List.getElem_map,List.getElem_range]
  apply Nat.eq_of_testBit_eq
  intro j
  rw [accM_bit _ _ _ _ (Nat.le_refl _),Nat.testBit_mod_two_pow,Nat.testBit_shiftRight]
  by_cases hj:j<64
  ·have hd:decide (j<64)=true:=by simpa using hj
   rw [hd,Bool.true_and,Bool.true_and,show 64*i+(64-64+j)=64*i+j by omega]
   unfold bitsOf
   rw [bitsI_len]
   by_cases hl:64*i+j<k
   ·rw [bitsI_at x k _ hl]
    have hd2:decide (64*i+j<k)=true:=by simpa using hl
    rw [hd2,Bool.true_and]
    cases x.testBit (64*i+j)<;>rfl
   ·have hd2:decide (64*i+j<k)=false:=by simpa using hl
    rw [hd2,Bool.false_and,Nat.testBit_lt_two_pow (Nat.lt_of_lt_of_le hx (Nat.pow_le_pow_right (by omega) (by omega)))]
  ·have hd:decide (j<64)=false:=by simpa using hj
   rw [hd,Bool.false_and,Bool.false_and]
end
section
/- The reference of layer 5: Bits that may be appended to, bit. -/
open Go.RowKit
set_option maxRecDepth 100000
def IntsOwn (zs:List Int) (w:World) (e:Ending) (w':World):Prop:=∃ v,e=.returned v∧w'.ownsRow w.heap.size 3 1 v zs.length (zs.map (Value.int .i64))∧Below w.heap.size w w'
set_option maxHeartbeats 1000000 in
theorem bits_own (N x:Nat) (hN:N≤512) (A:Option Addr) (len c:Nat) (w:World) (hu:Words w A len (rowOf N x)) :
  Calls Tryz.prog 124 #[.agg #[.int .i64 N,.slice A len c]] w (IntsOwn (bitsI x N) w):=by
 have hll:len=nw N:=by rw [← rowOf_len N x];exact hu.1.symm
 have hN2:N≤64*len:=by rw [hll];exact nw_le N
 have hl:len≤1000:=by rw [hll];unfold nw;omega
 obtain⟨i0,hi,hz0,hz1,hz2⟩:=info_parts int_info5
 have hB:=Below.refl w.heap.size w
 have HI:=hZ hi
 have HZ0:=hZ hz0
 have HZ1:=hZ hz1
 have HZ2:=hZ hz2
 have Q0:=hZ ((Box.new w 139 #[.int .i64 N,.slice A len c]).alloc (.cells #[] 3))
 have HW:=hZ ((hB.alloc (Nat.le_refl _) (.cells #[.int .i64 N,.slice A len c] 139)).alloc (by simp) (.cells #[] 3))
 have ho:=own_empty (w.alloc (.cells #[.int .i64 N,.slice A len c] 139)) w.heap.size 3 (by simp)
 rw [World.size_alloc] at ho
 have HOw:=hZ ho
 have HU:=hZ hu
 clear hi hz0 hz1 hz2 hu ho hB hll
 go_enter Tryz.func124,Tryz.ntmps124
 go_wp2
 go_loopw [3,4] (fun v t wr=>∃ i:Nat,i≤N∧t=.int .i64 i∧wr.ownsRow w.heap.size 3 1 v i ((bitsI x i).map (Value.int .i64))∧Box wr w.heap.size 139 #[.int .i64 N,.slice A len c]∧Below w.heap.size w wr)
  (fun _ t _=>N-(intOf t).toNat)
 case atStart=>exact⟨0,by omega,rfl,HOw.out,Q0.out,HW.out⟩
 case round=>
  obtain⟨i,hi,rfl,hown,hbox,hbel⟩:=hrel
  have HO:=hZ hown
  have HB:=hZ hbel
  have Q:=hZ hbox
  clear hown hbel hbox HW HOw Q0
  obtain⟨r0,r1,-,-⟩:=Q.out.two
  have HS:=hZ (bitsI_succ x i)
  by_cases hlt:i<N
  ·have hlt':(i:Int)<(N:Int):=by omega
   have HBt:=hZ (rbit_any N x i hN A len c hlt wr (HU.out.below HB.out))
   obtain⟨b,hb⟩:∃ b:Int,b=if x.testBit i then 1 else 0:=⟨_,rfl⟩
   rw [← hb] at HBt HS
   have hb1:0≤b∧b≤1:=by rw [hb];split<;>omega
   clear hb
   go_wp2_with fail
   refine HBt.out.mono ?_
   rintro e w1 ⟨rfl,hb⟩
   have Q:=hZ (Q.out.keep hb)
   have HB:=hZ (chain HB.out hb)
   have HO:=hZ (own_keep HO.out hb)
   clear hb r0 r1
   have hi':=HI.out
   have hz0':=HZ0.out
   have hz1':=HZ1.out
   have hz2':=HZ2.out
   have XO:=hZ (HO.out.alloc (.cells #[.int .i64 b] 3))
   have XQ:=hZ (Q.out.alloc (.cells #[.int .i64 b] 3))
   have XB:=hZ (HB.out.alloc HB.out.size (.cells #[.int .i64 b] 3))
   have N2:=hZ (fun k hk=>(HO.out.lt k hk).1)
   have N1:=hZ (own_ne XO.out XQ.out (by decide))
   go_wp2_with (at_builtin;refine wpList_append_own _ rfl _ _ 106 rfl w.heap.size 3 i0 (.int .i64 0) 1 8 Tryz.underlying106 hi' hz0' hz1' hz2' rfl (by decide) _ _ _ rfl XO.out ⟨w1.heap.size,0,none⟩ 1 1 [.int .i64 b] rfl rfl (cell_one_new _ _ _) (by simp [Value.oneCell']) (by simp [maxLen];omega) (by omega) XB.out.size ?_;intro v' w2 hown' hgrow _;have HC:=hZ (XB.out.grown hgrow XB.out.size N2.out);have S1:=hZ (XQ.out.grown hgrow N1.out);have HO2:=hZ hown';clear hown' hgrow)
   go_roundw
   case rel=>
    refine⟨i+1,by omega,by go_num,?_,S1.out,HC.out⟩
    rw [HS.out,List.map_append]
    exact HO2.out
   case measure=>simp [intOf]<;>omega
  ·obtain rfl:i=N:=by omega
   have hlt':¬ (i:Int)<(i:Int):=by omega
   obtain⟨A',c',rfl,hA'⟩:=own_form HO.out
   go_wp2
   go_ret
   exact⟨_,rfl,by rw [bitsI_len];exact HO.out,HB.out⟩
def bitB (s:ByteArray) (i:Nat):Int:=if (s.data.toList.getD (i / 8) 0).toNat.testBit (i%8) then 1 else 0
theorem halves (v k:Nat):(v / 2 ^ k)%2=if v.testBit k then 1 else 0:=by
 have:=Nat.testBit_eq_decide_div_mod_eq (x:=v) (i:=k)
 rw [this]
 rcases Nat.mod_two_eq_zero_or_one (v / 2 ^ k) with h | h<;>rw [h]<;>rfl
theorem bit5_any (s:ByteArray) (i:Nat) (hs:s.size≤64) (hi:i / 8<s.size) (w:World):Calls Tryz.prog 125 #[.string s,.int .i64 (i:Int)] w fun e w'=>e=.returned (.int .i64 (bitB s i))∧w=w':=by
 obtain⟨q,hq⟩:∃ q,q=i / 8:=⟨_,rfl⟩
 obtain⟨r,hr⟩:∃ r,r=i%8:=⟨_,rfl⟩
 have hr8:r<8:=by rw [hr];exact Nat.mod_lt _ (by omega)
 rw [← hq] at hi
 have HQ:=hZ hq
 have HR:=hZ hr
 have i64:i<1000:=by omega
 have d1:(i:Int).tdiv 8=(q:Int):=by rw [hq,Int.tdiv_eq_ediv_of_nonneg (by omega)];omega
 have d2:(i:Int).tmod 8=(r:Int):=by rw [hr,Int.tmod_eq_emod_of_nonneg (by omega)];omega
 obtain⟨v,hv⟩:∃ v:Nat,v=s[q].toNat:=⟨_,rfl⟩
 have hv8:v<256:=by rw [hv];exact UInt8.toNat_lt _
 have HV:=hZ hv
 have hv':(s[q].toNat:Int)=(v:Int):=by omega
 have HE:=hZ (show bitB s i=((v / 2 ^ r%2:Nat):Int) by
  unfold bitB
  have:s.data.toList.getD (i / 8) 0=s[q]:=by rw [← hq];simp [List.getD,hi];rfl
  rw [this,← hv,← hr,halves];split<;>rfl)
 clear hq hr hv
 go_enter Tryz.func125,Tryz.ntmps125
 go_wp2_with fail
 go_loop [6,5] (fun t u=>∃ k:Nat,k≤r∧t=.int .i64 (k:Int)∧u=.int .i64 ((v / 2 ^ k:Nat):Int)) (fun t _=>r-(intOf t).toNat)
 case atStart=>exact⟨0,by omega,rfl,by simp⟩
 case round=>
  obtain⟨k,hk,rfl,rfl⟩:=hrel
  have hle:v / 2 ^ k≤v:=Nat.div_le_self _ _
  have HP:=hZ (show v / 2 ^ (k+1)=v / 2 ^ k / 2 by rw [Nat.pow_succ,Nat.div_div_eq_div_mul])
  obtain⟨y,hy⟩:∃ y,y=v / 2 ^ k:=⟨_,rfl⟩
  rw [← hy] at hle HP ⊢
  have HY:=hZ hy
  clear hy
  by_cases hlt:k<r
  ·have hlt':(k:Int)<(r:Int):=by omega
   have d3:(y:Int).tdiv 2=((y / 2:Nat):Int):=by rw [Int.tdiv_eq_ediv_of_nonneg (by omega)];omega
   go_wp2_with fail
   go_round
   case rel=>exact⟨k+1,by omega,by go_num,by rw [HP.out,Int.natCast_ediv];rfl⟩
   case measure=>simp [intOf];omega
  ·obtain rfl:k=r:=by omega
   have hlt':¬ (k:Int)<(k:Int):=by omega
   have d3:(y:Int).tmod 2=((y%2:Nat):Int):=by rw [Int.tmod_eq_emod_of_nonneg (by omega)];omega
   go_wp2_with fail
   go_ret
   exact⟨by rw [HE.out,← HY.out,Int.natCast_emod];rfl,rfl⟩
end
end Go.Proofs.YtcikoaeiopbbbaaGreat
