/- Parts: BsK, Bs6, Bs7, Bs8, ObF, BsF, Bf1, Bf2, Bf3, Bf4, Bf5, Bf6, ObG, EqU, ObH, ObI, ObJ, RvN, RvP, KTwo, RvQ, KThree. -/
import Derived.Test.YtcikoaeiopbbbaaGreatYf
import Derived.Deep.AppendLies
import Derived.Deep.DeepCutAuto
import Derived.Deep.RegionHeld3
import Derived.Deep.RegionLaw
namespace Go.Proofs.YtcikoaeiopbbbaaGreat
set_option linter.unusedVariables false
set_option linter.unusedSimpArgs false
set_option linter.unusedSectionVars false
section
/- What equations tell: told columns, and their blocks. No program. -/
theorem row_bitW (N x p:Nat) (h:p<64*nw N):(bitAt (rowOf N x) p==1)=x.testBit p:=by
 rw [bitAt_test,rowOf_at N x (p / 64) (by omega),Nat.testBit_mod_two_pow,Nat.testBit_shiftRight]
 have e:64*(p / 64)+p%64=p:=by omega
 have l:p%64<64:=Nat.mod_lt _ (by omega)
 rw [e];simp [l]
theorem one_range (c:Nat):∀ k,((List.range k).filter fun p=>decide (c=p)).length=if c<k then 1 else 0
 | 0=>by simp
 | k+1=>by
   rw [List.range_succ,List.filter_append,List.length_append,one_range c k]
   by_cases e:c=k
   ·subst e;simp
   ·by_cases h:c<k
    ·simp [h,e,show c<k+1 by omega]
    ·simp [h,e,show ¬ c<k+1 by omega]
theorem nw_le (N:Nat):N≤64*nw N:=by unfold nw;omega
theorem popN_eq (N x:Nat):popN N x=((List.range (64*nw N)).filter fun p=>x.testBit p).length:=by
 unfold popN plcN
 rw [rowOf_len]
 congr 1
 apply List.filter_congr
 intro p hp
 exact row_bitW N x p (by simpa using hp)
theorem popN_one {N x:Nat} (hx:x<2 ^ N):popN N x=1↔∃ c,x=2 ^ c:=by
 rw [popN_eq]
 have hbig:∀ p,64*nw N≤p→x.testBit p=false:=fun p hp=>Nat.testBit_lt_two_pow (Nat.lt_of_lt_of_le hx (Nat.pow_le_pow_right (by omega) (by have:=nw_le N;omega)))
 constructor
 ·intro h
  obtain⟨c,hc⟩:=List.length_eq_one_iff.1 h
  refine⟨c,Nat.eq_of_testBit_eq fun p=>?_⟩
  have hm:∀ p,p∈(List.range (64*nw N)).filter (fun p=>x.testBit p)↔p=c:=fun p=>by rw [hc];simp
  have hcm:=(hm c).2 rfl
  rw [List.mem_filter] at hcm
  rw [Nat.testBit_two_pow]
  by_cases e:c=p
  ·subst e;simp [hcm.2]
  ·simp only [e,decide_false]
   cases hb:x.testBit p with
   | false=>rfl
   | true=>
     have hl:p<64*nw N:=by
      rcases Nat.lt_or_ge p (64*nw N) with h | h
      ·exact h
      ·rw [hbig p h] at hb;cases hb
     have:=(hm p).1 (by rw [List.mem_filter];exact⟨by simpa using hl,hb⟩)
     omega
 ·rintro ⟨c,rfl⟩
  have hc:c<64*nw N:=by
   rcases Nat.lt_or_ge c (64*nw N) with h | h
   ·exact h
   ·have:=hbig c h;simp [Nat.testBit_two_pow] at this
  have:=one_range c (64*nw N)
  rw [if_pos hc] at this
  rw [← this]
  congr 1
  apply List.filter_congr
  intro p _
  rw [Nat.testBit_two_pow]
theorem alone_iff {N x p:Nat} (hx:x<2 ^ N) (hl:IsLow x p):popN N x=1↔x=2 ^ p:=by
 rw [popN_one hx]
 constructor
 ·rintro ⟨c,rfl⟩
  have:=hl.1
  rw [Nat.testBit_two_pow] at this
  have:c=p:=by simpa using this
  rw [this]
 ·intro h;exact⟨p,h⟩
def KnownP (N n:Nat) (X Z:List Nat) (cols:List Nat) (blks:List ByteArray):Prop:=
 cols.Pairwise (· < ·)∧(∀ c,c∈cols↔c<N∧Sp X (2 ^ c))∧blks.length=cols.length∧∀ j,j<cols.length→(blks.getD j ByteArray.empty).size=n∧∃ v,Sp Z v∧lowN N v=2 ^ (cols.getD j 0)∧v>>>N=bn (blks.getD j ByteArray.empty).data.toList
theorem fits_uniq {N:Nat} {Z:List Nat} (hf:FitsP N Z) {u v:Nat} (hu:Sp Z u) (hv:Sp Z v) (h:lowN N u=lowN N v):u=v:=
 xor_cancel (hf _ (sp_xor hu hv) (by rw [lowN_xor,h,Nat.xor_self]))
theorem known_uniq {N n:Nat} {X Z cols cols':List Nat} {blks blks':List ByteArray} (hf:FitsP N Z) (h:KnownP N n X Z cols blks) (k:KnownP N n X Z cols' blks'):cols=cols'∧blks=blks':=by
 have hc:cols=cols':=rising_uniq cols cols' h.1 k.1 fun x=>by rw [h.2.1,k.2.1]
 subst hc
 refine⟨rfl,List.ext_getElem (h.2.2.1.trans k.2.2.1.symm) fun j h1 h2=>?_⟩
 have hj:j<cols.length:=by rw [← h.2.2.1];exact h1
 obtain⟨s1,v,a1,a2,a3⟩:=h.2.2.2 j hj
 obtain⟨s2,u,b1,b2,b3⟩:=k.2.2.2 j hj
 have e:=fits_uniq hf a1 b1 (a2.trans b2.symm)
 subst e
 have hb:=bn_inj _ _ (by rw [size_list,size_list,s1,s2]) (a3.symm.trans b3)
 have g1:blks.getD j ByteArray.empty=blks[j]:=by simp [List.getD,h1]
 have g2:blks'.getD j ByteArray.empty=blks'[j]:=by simp [List.getD,h2]
 rw [g1,g2] at hb
 rw [← back_list blks[j],← back_list blks'[j],hb]
def aln (N:Nat) (O:List PV) (i:Nat):List Nat:=(List.range i).filter fun j=>decide (popN N (O.getD j pv0).1=1)
theorem aln_yes (N:Nat) (O:List PV) (i:Nat) (h:popN N (O.getD i pv0).1=1):aln N O (i+1)=aln N O i++[i]:=by
 unfold aln;rw [List.range_succ,List.filter_append];simp only [List.filter_cons,List.filter_nil,h,decide_true,if_true]
theorem aln_no (N:Nat) (O:List PV) (i:Nat) (h:¬ popN N (O.getD i pv0).1=1):aln N O (i+1)=aln N O i:=by
 unfold aln;rw [List.range_succ,List.filter_append];simp only [List.filter_cons,List.filter_nil,h,decide_false,Bool.false_eq_true,if_false,List.append_nil]
theorem aln_len (N:Nat) (O:List PV) (i:Nat):(aln N O i).length≤i:=by
 have:=List.length_filter_le (fun j=>decide (popN N (O.getD j pv0).1=1)) (List.range i)
 simpa [aln] using this
def alnC (N:Nat) (O:List PV) (P:List Nat) (i:Nat):List Nat:=(aln N O i).map fun j=>P.getD j 0
def alnB (N:Nat) (O:List PV) (i:Nat):List ByteArray:=(aln N O i).map fun j=>(O.getD j pv0).2
theorem elim_known {N n:Nat} {X M P:List Nat} {Z:List Nat} {O F:List PV} (hXZ:Z.map (lowN N)=X) (h:Elim Z P P.length (O.map (zOf N)) (F.map (zOf N))) (hr:Rref M P) (hs:SameSp X M) (hO:∀ p∈O,GoodP N n p):KnownP N n X Z (alnC N O P P.length) (alnB N O P.length):=by
 have hs':SameSp (Z.map (lowN N)) M:=by rw [hXZ];exact hs
 have hM:=rows_lt hs'
 have hOl:O.length=P.length:=by have:=h.len;rwa [List.length_map] at this
 have row:∀ j,j<P.length→(O.getD j pv0).1=M.getD j 0:=fun j hj=>by
  have:=h.own_low hr hs' j hj
  rw [mapz_at N O j (by omega),z_low (hO _ (getD_memP (by omega)))] at this
  exact this
 have al:∀ j,j<P.length→(popN N (O.getD j pv0).1=1↔M.getD j 0=2 ^ (P.getD j 0)):=fun j hj=>by
  have hl:=hr.low j (by rw [hr.len];exact hj)
  rw [row j hj]
  exact alone_iff (hM _ (getD_mem (by rw [hr.len];exact hj))) hl
 have mem:∀ j,j∈aln N O P.length↔j<P.length∧popN N (O.getD j pv0).1=1:=fun j=>by simp [aln]
 refine⟨?_,fun c=>?_,by simp [alnC,alnB],fun j hj=>?_⟩
 ·unfold alnC
  rw [List.pairwise_map]
  refine List.Pairwise.imp_of_mem ?_ (List.Pairwise.filter _ List.pairwise_lt_range)
  intro a b ha hb hab
  exact hr.rise a b hab (by rw [hr.len];exact ((mem b).1 hb).1)
 ·simp only [alnC,List.mem_map]
  constructor
  ·rintro ⟨j,hj,rfl⟩
   obtain⟨h1,h2⟩:=(mem j).1 hj
   refine⟨place_lt hM hr j h1,(hs _).2 ?_⟩
   rw [← (al j h1).1 h2]
   exact sp_mem (getD_mem (by rw [hr.len];exact h1))
  ·rintro ⟨-,h2⟩
   obtain⟨j,hj,hc,hm⟩:=(told_iff hr c).1 ((hs _).1 h2)
   exact⟨j,(mem j).2 ⟨hj,(al j hj).2 (by rw [hm,hc])⟩,hc⟩
 ·have hj':j<(aln N O P.length).length:=by simpa [alnC] using hj
  have hk:=(mem ((aln N O P.length)[j])).1 (List.getElem_mem hj')
  have e1:(alnC N O P P.length).getD j 0=P.getD (aln N O P.length)[j] 0:=by simp [alnC,List.getD,hj']
  have e2:(alnB N O P.length).getD j ByteArray.empty=(O.getD (aln N O P.length)[j] pv0).2:=by simp [alnB,List.getD,hj']
  have g:=hO _ (getD_memP (L:=O) (i:=(aln N O P.length)[j]) (by rw [hOl];exact hk.1))
  rw [e1,e2]
  refine⟨g.2,zOf N (O.getD (aln N O P.length)[j] pv0),(h.span _).1 (sp_left (sp_mem (List.mem_map.2 ⟨_,getD_memP (by rw [hOl];exact hk.1),rfl⟩))),?_,z_high g⟩
  rw [z_low g,row _ hk.1]
  exact (al _ hk.1).1 hk.2
theorem elim_fits {N n:Nat} {X M P:List Nat} {Z:List Nat} {O F:List PV} (hXZ:Z.map (lowN N)=X) (h:Elim Z P P.length (O.map (zOf N)) (F.map (zOf N))) (hr:Rref M P) (hs:SameSp X M) (hF:∀ p∈F,GoodP N n p):noughtP F=true↔FitsP N Z:=by
 have hs':SameSp (Z.map (lowN N)) M:=by rw [hXZ];exact hs
 rw [← h.fits hr hs']
 simp only [noughtP,List.all_eq_true]
 constructor
 ·intro ha f hf
  obtain⟨p,hp,rfl⟩:=List.mem_map.1 hf
  have hl:=h.free_low hr hs' hf
  rw [z_low (hF p hp)] at hl
  exact (z_nought (hF p hp)).2 ⟨hl,ha p hp⟩
 ·intro ha p hp
  exact ((z_nought (hF p hp)).1 (ha _ (List.mem_map.2 ⟨p,hp,rfl⟩))).2
end
section
/- backsub: fault, Fits. -/
open Go.RowKit
set_option maxRecDepth 100000
def bkE (N:Int) (ms:List (Int×List Nat)) (n:Int) (ss:List ByteArray):Int:=if rightM N ms then if okS n ss&&ss.length==ms.length then 0 else 2 else 1
theorem fault_any (N n:Int) (A S:Option Addr) (lm c lo k d:Nat) (ms:List (Int×List Nat)) (ss:List ByteArray) (w:World) (hm:MatAt w lo A lm ms) (hl:lm≤maxLen) (ht:Texts w S k ss) (hkd:k≤d) (hd:d≤maxLen) :
  Calls Tryz.prog 148 #[.agg #[.int .i64 N,.slice A lm c],.int .i64 n,.slice S k d] w fun e w'=>e=.returned (.int .i64 (bkE N ms n ss))∧Below w.heap.size w w':=by
 have b1:Below w.heap.size w (w.alloc (.cells #[.int .i64 N,.slice A lm c] 102)):=(Below.refl _ _).alloc (Nat.le_refl _) _
 have Q0:=hZ (Box.new w 102 #[.int .i64 N,.slice A lm c])
 have HB:=hZ b1
 have HR:=hZ (mright_any N A lm c lo ms _ (hm.below b1) hl)
 have HT:=hZ ht
 have e1:=hm.1
 have e2:=ht.1
 obtain⟨q0,q1,-,-⟩:=Q0.out.two
 unfold maxLen at hl hd
 cases hr:rightM N ms with
 | false=>
   rw [hr] at HR
   have HE:=hZ (show bkE N ms n ss=1 by rw [bkE,hr];rfl)
   clear b1 hm ht e1 e2 hr
   go_enter Tryz.func148,Tryz.ntmps148
   go_wp2_with fail
   refine HR.out.mono ?_
   rintro e x1 ⟨rfl,hb⟩
   have HB2:=hZ (chain HB.out hb)
   clear hb
   go_wp2_with fail
   go_ret
   exact⟨by rw [HE.out];rfl,HB2.out⟩
 | true=>
   rw [hr] at HR
   cases ho:okS n ss with
   | false=>
     have HS:=hZ (fun W (h:Texts W S k ss)=>sum_any n S k d ss W h hkd (by unfold maxLen;omega))
     have he:sumE n ss=2:=by rw [sumE,ho];rfl
     rw [he] at HS
     have HE:=hZ (show bkE N ms n ss=2 by rw [bkE,hr,ho];rfl)
     clear b1 hm ht e1 e2 hr ho he
     go_enter Tryz.func148,Tryz.ntmps148
     go_wp2_with fail
     refine HR.out.mono ?_
     rintro e x1 ⟨rfl,hb⟩
     have HB2:=hZ (chain HB.out hb)
     clear hb
     go_wp2_with fail
     refine (HS.out _ (HT.out.below HB2.out)).mono ?_
     rintro e x2 ⟨rfl,hb⟩
     have HB3:=hZ (chain HB2.out hb)
     clear hb
     go_wp2_with fail
     go_ret
     exact⟨by rw [HE.out];rfl,HB3.out⟩
   | true=>
     have HS:=hZ (fun W (h:Texts W S k ss)=>sum_any n S k d ss W h hkd (by unfold maxLen;omega))
     have he:sumE n ss=0:=by rw [sumE,ho];rfl
     rw [he] at HS
     by_cases hk:k=lm
     ·have HE:=hZ (show bkE N ms n ss=0 by rw [bkE,hr,ho,e1,e2,hk];simp)
      have t:((k:Int) != (lm:Int))=false:=by simp [hk]
      clear b1 hm ht e1 e2 hr ho he hk
      go_enter Tryz.func148,Tryz.ntmps148
      go_wp2_with fail
      refine HR.out.mono ?_
      rintro e x1 ⟨rfl,hb⟩
      have HB2:=hZ (chain HB.out hb)
      have Q1:=hZ (Q0.out.keep hb)
      clear hb
      go_wp2_with fail
      refine (HS.out _ (HT.out.below HB2.out)).mono ?_
      rintro e x2 ⟨rfl,hb⟩
      have HB3:=hZ (chain HB2.out hb)
      have Q2:=hZ (Q1.out.keep hb)
      clear hb q0 q1
      obtain⟨q0,q1,-,-⟩:=Q2.out.two
      go_wp2_with fail
      go_ret
      exact⟨by rw [HE.out];rfl,HB3.out⟩
     ·have HE:=hZ (show bkE N ms n ss=2 by rw [bkE,hr,ho,e1,e2];simp [hk])
      have t:((k:Int) != (lm:Int))=true:=by simp;omega
      clear b1 hm ht e1 e2 hr ho he
      go_enter Tryz.func148,Tryz.ntmps148
      go_wp2_with fail
      refine HR.out.mono ?_
      rintro e x1 ⟨rfl,hb⟩
      have HB2:=hZ (chain HB.out hb)
      have Q1:=hZ (Q0.out.keep hb)
      clear hb
      go_wp2_with fail
      refine (HS.out _ (HT.out.below HB2.out)).mono ?_
      rintro e x2 ⟨rfl,hb⟩
      have HB3:=hZ (chain HB2.out hb)
      have Q2:=hZ (Q1.out.keep hb)
      clear hb q0 q1
      obtain⟨q0,q1,-,-⟩:=Q2.out.two
      go_wp2_with fail
      go_ret
      exact⟨by rw [HE.out];rfl,HB3.out⟩
structure BkIn (w:World) (N n:Nat) (X:List Nat) (ss:List ByteArray) (A S:Option Addr) (m c d:Nat):Prop where
 hN:N≤64
 hn:n≤64
 hX:∀ r∈X,r<2 ^ N
 hXm:X.length=m
 hm64:m≤64
 hss:∀ s∈ss,s.size=n
 hsl:SliceOk A m c
 hm:MatAt w 0 A m (mkM N X)
 hr:rightM N (mkM N X)=true
 ht:Texts w S m ss
 hmd:m≤d
 hd:d≤maxLen
theorem BkIn.below {w w':World} {N n:Nat} {X:List Nat} {ss:List ByteArray} {A S:Option Addr} {m c d:Nat} (h:BkIn w N n X ss A S m c d) (hb:Below w.heap.size w w'):BkIn w' N n X ss A S m c d:=
 ⟨h.hN,h.hn,h.hX,h.hXm,h.hm64,h.hss,h.hsl,h.hm.below hb,h.hr,h.ht.below hb,h.hmd,h.hd⟩
def zs (N:Nat) (X:List Nat) (ss:List ByteArray):List Nat:=(pairs X ss).map (zOf N)
theorem BkIn.low {w:World} {N n:Nat} {X:List Nat} {ss:List ByteArray} {A S:Option Addr} {m c d:Nat} (h:BkIn w N n X ss A S m c d):(zs N X ss).map (lowN N)=X:=
 pairs_low h.hX h.hss (by rw [h.hXm,h.ht.1])
theorem BkIn.ok {w:World} {N n:Nat} {X:List Nat} {ss:List ByteArray} {A S:Option Addr} {m c d:Nat} (h:BkIn w N n X ss A S m c d):bkE N (mkM N X) n ss=0:=by
 rw [bkE,if_pos h.hr,okS_of n ss h.hn h.hss (by rw [h.ht.1];exact h.hm64),mkM_len,h.hXm,h.ht.1];simp
theorem BkIn.fault {w:World} {N n:Nat} {X:List Nat} {ss:List ByteArray} {A S:Option Addr} {m c d:Nat} (h:BkIn w N n X ss A S m c d):Calls Tryz.prog 148 #[.agg #[.int .i64 (N:Int),.slice A m c],.int .i64 (n:Int),.slice S m d] w fun e w'=>e=.returned (.int .i64 0)∧Below w.heap.size w w':=by
 have:=fault_any N n A S m c 0 m d (mkM N X) ss w h.hm (by have:=h.hm64;unfold maxLen;omega) h.ht h.hmd h.hd
 rwa [h.ok] at this
theorem BkIn.reduced {w:World} {N n:Nat} {X:List Nat} {ss:List ByteArray} {A S:Option Addr} {m c d:Nat} (h:BkIn w N n X ss A S m c d):Calls Tryz.prog 149 #[.agg #[.int .i64 (N:Int),.slice A m c],.slice S m d] w (RedOut N n (pairs X ss) X w):=
 reduced_any N n h.hN h.hn X h.hX m h.hXm h.hm64 ss h.hss A S c d 0 w h.hsl h.hm h.hr h.ht
end
section
/- backsub: Known, Solve. -/
open Go.RowKit
set_option maxRecDepth 100000
def numI (x:Nat):Value:=.int .i64 (x:Int)
def KnRes (N n:Nat) (X Z:List Nat) (E:Int) (cols:List Nat) (blks:List ByteArray):Prop:=
 (E=0∧FitsP N Z∧KnownP N n X Z cols blks)∨(E=10∧¬ FitsP N Z∧cols=[]∧blks=[])
def KnOut (N n:Nat) (X Z:List Nat) (w:World) (e:Ending) (w':World):Prop:=
 ∃ (E:Int) (cols:List Nat) (blks:List ByteArray) (B1 B2:Option Addr) (c1 c2:Nat),e=.returned (.tuple #[.slice B1 cols.length c1,.slice B2 blks.length c2,.int .i64 E])∧Ints w' B1 cols.length (cols.map fun x:Nat=>(x:Int))∧Texts w' B2 blks.length blks∧cols.length≤64∧blks.length≤64∧blks.length≤c2∧c2≤maxLen∧KnRes N n X Z E cols blks∧Below w.heap.size w w'
theorem int_info5:(Tryz.prog.info? 3).map (fun i=>(i.zero,i.size,i.bytes))=some (some (.int .i64 0),1,8):=by kernel_rfl
theorem str_info5:(Tryz.prog.info? 9).map (fun i=>(i.zero,i.size,i.bytes))=some (some (.string ⟨#[]⟩),1,16):=by kernel_rfl
theorem own_texts5 {w:World} {base:Nat} {A:Option Addr} {c:Nat} {ss:List ByteArray} (h:w.ownsRow base 9 1 (.slice A ss.length c) ss.length (ss.map Value.string)) (hz:∀ s∈ss,s.size≤maxLen):Texts w A ss.length ss:=by
 refine⟨rfl,fun j=>?_,fun hp=>?_⟩
 ·by_cases hj:j<ss.length
  ·have:ss.getD j ByteArray.empty=ss[j]:=by simp [List.getD,hj]
   rw [this];exact hz _ (List.getElem_mem hj)
  ·have:ss[j]?=none:=List.getElem?_eq_none (by omega)
   simp only [List.getD,this,Option.getD_none];unfold maxLen;decide
 ·rcases h.2 with ⟨hv,hz⟩ |⟨g,cap,cur,hv,hb,hh,hc,hm,-⟩
  ·omega
  ·injection hv with hv
   subst hv
   refine⟨g,0,rfl,(show Box w g _ cur from hh).lt,fun j hj=>?_⟩
   have:=World.ownsRow.cells h (g:=g) rfl j (.string (ss.getD j ByteArray.empty)) (by simp [List.getD,hj])
   rwa [add_zero0,show (⟨g,j,none⟩:Addr)=⟨g,0+j,none⟩ by rw [Nat.zero_add]] at this
theorem own_cap5 {w:World} {base e size:Nat} {A:Option Addr} {n c:Nat} {xs:List Value} (h:w.ownsRow base e size (.slice A n c) n xs):n≤c∧c≤maxLen:=by
 rcases h.2 with ⟨hv,hz⟩ |⟨g,cap,cur,hv,hb,hh,hc,hm,-⟩
 ·injection hv with _ _ hv;subst hv;exact⟨by omega,by simp [maxLen]⟩
 ·injection hv with _ _ hv;subst hv;exact⟨hc,hm⟩
set_option maxHeartbeats 4000000 in
theorem known_yes {N n:Nat} {X:List Nat} {ss:List ByteArray} {A S:Option Addr} {m c d:Nat} (w:World) (h:BkIn w N n X ss A S m c d) :
  Calls Tryz.prog 135 #[.agg #[.int .i64 (N:Int),.slice A m c],.int .i64 (n:Int),.slice S m d] w (KnOut N n X (zs N X ss) w):=by
 have b1:Below w.heap.size w (w.alloc (.cells #[.int .i64 (N:Int),.slice A m c] 102)):=(Below.refl _ _).alloc (Nat.le_refl _) _
 have Q0:=hZ (Box.new w 102 #[.int .i64 (N:Int),.slice A m c])
 have HB:=hZ b1
 have HI:=hZ (h.below b1)
 have HF:=hZ HI.out.fault
 have HLow:=hZ h.low
 have hN:=h.hN
 have hn:=h.hn
 obtain⟨q0,q1,-,-⟩:=Q0.out.two
 clear b1 h
 go_enter Tryz.func135,Tryz.ntmps135
 go_wp2_with fail
 refine HF.out.mono ?_
 rintro e x1 ⟨rfl,hb⟩
 have HB2:=hZ (chain HB.out hb)
 have Q1:=hZ (Q0.out.keep hb)
 have HI1:=hZ (HI.out.below hb)
 clear hb q0 q1 HF HB HI Q0
 obtain⟨q0,q1,-,-⟩:=Q1.out.two
 go_wp2_with fail
 refine HI1.out.reduced.mono ?_
 rintro e x2 ⟨M,P,O,F,vO,vF,rfl,h1,h2,h3,h4,h5,h6,h7,h8,hb⟩
 have HB3:=hZ (chain HB2.out hb)
 have HFit:=hZ (elim_fits HLow.out h3 h1 h2 h5)
 have HKn:=hZ (elim_known HLow.out h3 h1 h2 h4)
 have HA:=hZ (fun W (hp:PairsQ x1 W (x1.heap.size+1) vF N F)=>allNought_any N F (fun p hp=>by have:=(h5 p hp).2;omega) (by rw [pairs_len X ss m HI1.out.hXm HI1.out.ht.1] at h8;have:=HI1.out.hm64;omega) x1 (x1.heap.size+1) vF W hp)
 have HP:=hZ h7
 have HO:=hZ h6
 have HGO:=hZ h4
 have HX12:=hZ hb
 have HPl:=hZ (show P.length=O.length by have:=h3.len;rw [List.length_map] at this;exact this.symm)
 have HPc:=hZ (show ∀ j,j<P.length→P.getD j 0<N from fun j hj=>place_lt (rows_lt (show SameSp (((pairs X ss).map (zOf N)).map (lowN N)) M by have:=HLow.out;unfold zs at this;rw [this];exact h2)) h1 j hj)
 have hO64:O.length≤64:=by
  have:=rref_len h1 (rows_lt (show SameSp (((pairs X ss).map (zOf N)).map (lowN N)) M by have:=HLow.out;unfold zs at this;rw [this];exact h2))
  have e:=h1.len
  rw [HPl.out] at e
  omega
 obtain⟨Ao,co,rfl,hoc,hocm⟩:=h6.form0
 unfold maxLen at hocm
 clear h1 h2 h3 h4 h5 h6 h7 h8 hb q0 q1
 cases hno:noughtP F with
 | false=>
   rw [hno] at HA
   have HNF:=hZ (show ¬ FitsP N (zs N X ss) from fun hf=>by have:=HFit.out.2 hf;rw [hno] at this;cases this)
   clear hno
   go_wp2_with fail
   refine (HA.out _ HP.out).mono ?_
   rintro e x3 ⟨rfl,hb⟩
   have HB4:=hZ (chain HB3.out hb)
   clear hb HA
   go_wp2_with fail
   go_ret3
   exact⟨10,[],[],none,none,0,0,rfl,Ints.nil _ _,Texts.nil _ _,by simp,by simp,by simp,by simp [maxLen],.inr ⟨rfl,HNF.out,rfl,rfl⟩,HB4.out⟩
 | true=>
   rw [hno] at HA
   have HNF:=hZ (HFit.out.1 hno)
   clear hno
   go_wp2_with fail
   refine (HA.out _ HP.out).mono ?_
   rintro e x3 ⟨rfl,hb⟩
   have HB4:=hZ (chain HB3.out hb)
   have HO3:=hZ (HO.out.keep hb)
   have HX13:=hZ (chain HX12.out hb)
   clear hb HA HP HO HX12
   go_wp2_with fail
   go_loopw [34,12,13] (fun t v1 v2 wr=>∃ i:Nat,i≤O.length∧t=.int .i64 (i:Int)∧Hid (wr.ownsRow x1.heap.size 3 1 v1 (alnC N O P i).length ((alnC N O P i).map numI))∧Hid (wr.ownsRow x1.heap.size 9 1 v2 (alnB N O i).length ((alnB N O i).map Value.string))∧Hid (OwnersQ x1 wr (x1.heap.size+1) (.slice Ao O.length co) N O P)∧Hid (Below x1.heap.size x1 wr)∧Hid (Below w.heap.size w wr)) (fun t _ _ _=>O.length-(intOf t).toNat)
   case atStart=>exact⟨0,Nat.zero_le _,rfl,hZ (World.ownsRow_nil _ _ _ _),hZ (World.ownsRow_nil _ _ _ _),HO3,HX13,HB4⟩
   case round=>
    obtain⟨i,hi,rfl,H1,H2,HOr,HXr,HBr⟩:=hrel
    by_cases hlt:i<O.length
    ·have hlt':(i:Int)<(O.length:Int):=by omega
     have io:=HOr.out
     obtain⟨g,c2,hv,hgb,hgw,-,-,cur,hcur⟩:=io.form (by omega)
     injection hv with hv h2 h3
     subst hv
     clear h2 h3 hcur
     obtain⟨A1,l1,d1,x0,x1c,x2c,x3c,rq,-,-,-,-⟩:=io.at i hlt
     have gp:=HGO.out _ (getD_memP hlt)
     obtain⟨p,hp⟩:∃ p,p=O.getD i pv0:=⟨_,rfl⟩
     obtain⟨q,hq⟩:∃ q,q=P.getD i 0:=⟨_,rfl⟩
     rw [← hp] at x2c rq gp
     rw [← hq] at x3c
     have HPI:=hZ hp
     have HQI:=hZ hq
     have GP:=hZ gp
     have HqN:=hZ (show q<N by rw [hq];exact HPc.out i (by rw [HPl.out];exact hlt))
     have al:Below wr.heap.size wr (wr.alloc (.cells #[.int .i64 (N:Int),.slice A1 l1 d1,.string p.2,.int .i64 (q:Int)] 202)):=(Below.refl _ _).alloc (Nat.le_refl _) _
     have T:=hZ (Box.new wr 202 #[.int .i64 (N:Int),.slice A1 l1 d1,.string p.2,.int .i64 (q:Int)])
     have AL1:=hZ al
     have HW:=hZ ((rq.below al).words (Nat.le_refl _) (chain HXr.out al))
     have HH:=hZ (isAlone_any N p.1 (by omega) GP.out.1 A1 l1 d1 p.2 _ HW.out)
     obtain⟨t0,t1,t2,t3,-,-,-,-⟩:=T.out.quad
     clear al gp hp hq io rq HW
     by_cases hal:popN N p.1=1
     ·have ha:decide (popN N p.1=1)=true:=by simpa using hal
      rw [ha] at HH
      have HY:=hZ (aln_yes N O i (by rw [← HPI.out];exact hal))
      clear ha hal
      go_wp2_with fail
      refine HH.out.mono ?_
      rintro e w5 ⟨rfl,hb⟩
      have HC:=hZ (chain AL1.out hb)
      have T5:=hZ (T.out.keep hb)
      have O5:=hZ (HOr.out.keep HC.out)
      have X5:=hZ (chain HXr.out HC.out)
      have B5:=hZ (chain HBr.out HC.out)
      have O1:=hZ (own_keep H1.out HC.out)
      have O2:=hZ (own_keep H2.out HC.out)
      clear hb HH T HOr HXr HBr H1 H2 AL1 HC t0 t1 t2 t3 x0 x1c x2c x3c
      obtain⟨i0,ki,kz0,kz1,kz2⟩:=info_parts int_info5
      obtain⟨j0,ji,jz0,jz1,jz2⟩:=info_parts str_info5
      have hal5:Below w5.heap.size w5 (w5.alloc (.cells #[.int .i64 (q:Int)] 3)):=(Below.refl _ _).alloc (Nat.le_refl _) _
      have XO:=hZ (own_keep O1.out hal5)
      have X2:=hZ (own_keep O2.out hal5)
      have XT:=hZ (T5.out.keep hal5)
      have XQ:=hZ (O5.out.keep hal5)
      have XX:=hZ (chain X5.out hal5)
      have XB:=hZ (chain B5.out hal5)
      have hb5:=B5.out.size
      have hx5:=X5.out.size
      have hq0:w.heap.size<w5.heap.size:=by have:=Q1.out.lt;omega
      have XS:=hZ (show x1.heap.size≤(w5.alloc (.cells #[.int .i64 (q:Int)] 3)).heap.size by simp;omega)
      have hl1:=aln_len N O i
      have hl2:(alnC N O P i).length≤i:=by rw [alnC,List.length_map];exact hl1
      have hl3:(alnB N O i).length≤i:=by rw [alnB,List.length_map];exact hl1
      obtain⟨t0,t1,t2,t3,-,-,-,-⟩:=T5.out.quad
      clear hal5 O1 O2 hl1
      go_wp2_with (first
       | (at_builtin;refine wpList_append_own _ rfl _ _ 106 rfl x1.heap.size 3 i0 (.int .i64 0) 1 8 Tryz.underlying106 ki kz0 kz1 kz2 rfl (by decide) _ _ _ rfl XO.out ⟨w5.heap.size,0,none⟩ 1 1 [.int .i64 (q:Int)] rfl rfl (cell_one_new _ _ _) (by simp [Value.oneCell']) (by simp [maxLen];omega) (by omega) XS.out ?_;intro v1 w6 hown hgrow _;have HO1:=hZ hown;have HG1:=hZ hgrow;clear hown hgrow t0 t1 t2 t3;have hp6:PC _ w6 3:=⟨_,HG1.out,fun g e=>(own_blk XO.out g e).2⟩;have Y2:=hZ (hp6.own X2.out (by decide));have YT:=hZ (hp6.box XT.out (by decide));have YQ:=hZ (hp6.owners XQ.out (by decide) (by decide));have h6b:Below x1.heap.size (w5.alloc (.cells #[.int .i64 (q:Int)] 3)) w6:=gr_low (Below.refl _ _) XS.out HG1.out (fun g e=>(own_blk XO.out g e).1);have Z2:=hZ (own_keep Y2.out ((Below.refl w6.heap.size w6).alloc (Nat.le_refl _) (.cells #[.string p.2] 9)));have ZS:=hZ (show x1.heap.size≤(w6.alloc (.cells #[.string p.2] 9)).heap.size from by have:=XS.out;have:=HG1.out.size;simp;omega);clear hp6 h6b;obtain⟨t0,t1,t2,t3,-,-,-,-⟩:=YT.out.quad)
       | (at_builtin;refine wpList_append_own _ rfl _ _ 34 rfl x1.heap.size 9 j0 (.string ⟨#[]⟩) 1 16 Tryz.underlying34 ji jz0 jz1 jz2 rfl (by decide) _ _ _ rfl Z2.out ⟨w6.heap.size,0,none⟩ 1 1 [.string p.2] rfl rfl (cell_one_new _ _ _) (by simp [Value.oneCell']) (by simp [maxLen];omega) (by omega) ZS.out ?_;intro v2 w7 hown hgrow _;have HO2:=hZ hown;have HG2:=hZ hgrow;clear hown hgrow))
      have hw1:w.heap.size<x1.heap.size:=Q1.out.lt
      have al6:Below w6.heap.size w6 (w6.alloc (.cells #[.string p.2] 9)):=(Below.refl _ _).alloc (Nat.le_refl _) _
      have hp7:PC _ w7 9:=⟨_,HG2.out,fun g e=>(own_blk Z2.out g e).2⟩
      have R1:=hZ (show w7.ownsRow x1.heap.size 3 1 v1 (alnC N O P (i+1)).length ((alnC N O P (i+1)).map numI) by
       have e:alnC N O P (i+1)=alnC N O P i++[q]:=by unfold alnC;rw [HY.out,List.map_append,HQI.out];rfl
       rw [e,List.map_append,List.length_append]
       exact hp7.own (own_keep HO1.out al6) (by decide))
      have R2:=hZ (show w7.ownsRow x1.heap.size 9 1 v2 (alnB N O (i+1)).length ((alnB N O (i+1)).map Value.string) by
       have e:alnB N O (i+1)=alnB N O i++[p.2]:=by unfold alnB;rw [HY.out,List.map_append,HPI.out];rfl
       rw [e,List.map_append,List.length_append]
       exact HO2.out)
      have RQ:=hZ (hp7.owners (YQ.out.keep al6) (by decide) (by decide))
      have hX6:=gr_low XX.out XS.out HG1.out (fun g e=>(own_blk XO.out g e).1)
      have hX7:=gr_low (chainN hX6 hX6.size al6) ZS.out HG2.out (fun g e=>(own_blk Z2.out g e).1)
      have hB6:=gr_low XB.out XB.out.size HG1.out (fun g e=>by have:=(own_blk XO.out g e).1;omega)
      have hB7:=gr_low (chainN hB6 hB6.size al6) (chainN hB6 hB6.size al6).size HG2.out (fun g e=>by have:=(own_blk Z2.out g e).1;omega)
      have RX:=hZ hX7
      have RB:=hZ hB7
      clear hX6 hX7 hB6 hB7 hp7 al6 HO1 HO2 HG1 HG2 XO X2 XT XQ XX XB XS Y2 YT YQ Z2 ZS T5 O5 X5 B5
      go_roundw
      case rel=>exact⟨i+1,by omega,by go_num,R1,R2,RQ,RX,RB⟩
      case measure=>simp [intOf];omega
     ·have ha:decide (popN N p.1=1)=false:=by simpa using hal
      rw [ha] at HH
      have HY:=hZ (aln_no N O i (by rw [← HPI.out];exact hal))
      clear ha hal
      go_wp2_with fail
      refine HH.out.mono ?_
      rintro e w5 ⟨rfl,hb⟩
      have HC:=hZ (chain AL1.out hb)
      clear hb
      go_wp2_with fail
      go_roundw
      case rel=>exact⟨i+1,by omega,by go_num,hZ (by rw [alnC,HY.out];exact own_keep H1.out HC.out),hZ (by rw [alnB,HY.out];exact own_keep H2.out HC.out),hZ (HOr.out.keep HC.out),hZ (chain HXr.out HC.out),hZ (chain HBr.out HC.out)⟩
      case measure=>simp [intOf];omega
    ·obtain rfl:i=O.length:=by omega
     have hlt':¬ (O.length:Int)<(O.length:Int):=by omega
     have hk:=HKn.out
     rw [HPl.out] at hk
     have hl1:=aln_len N O O.length
     have hl2:(alnC N O P O.length).length≤O.length:=by rw [alnC,List.length_map];exact hl1
     have hl3:(alnB N O O.length).length≤O.length:=by rw [alnB,List.length_map];exact hl1
     obtain⟨B1,c1,hv1,-⟩:=own_form H1.out
     obtain⟨B2,c2,hv2,-⟩:=own_form H2.out
     subst hv1 hv2
     have hc2:=own_cap5 H2.out
     have hi1:=own_ints (zs:=(alnC N O P O.length).map fun x:Nat=>(x:Int)) (by rw [List.map_map];exact H1.out) (num_bdP _ (fun j hj=>by
      have hm:(alnC N O P O.length).getD j 0∈alnC N O P O.length:=getD_mem hj
      have:=(hk.2.1 _).1 hm
      omega))
     have hi2:=own_texts5 H2.out (fun s hs=>by
      obtain⟨j,hj,rfl⟩:=List.getElem_of_mem hs
      have:=(hk.2.2.2 j (by rw [← hk.2.2.1];exact hj)).1
      have e:(alnB N O O.length).getD j ByteArray.empty=(alnB N O O.length)[j]:=by simp [List.getD,hj]
      rw [e] at this
      rw [this];unfold maxLen;omega)
     have HK:=hZ hk
     have HI1':=hZ hi1
     have HI2':=hZ hi2
     have HC2:=hZ hc2
     have HL2:=hZ (show (alnC N O P O.length).length≤64 by omega)
     have HL3:=hZ (show (alnB N O O.length).length≤64 by omega)
     clear hk hi1 hi2 hc2 hl1 hl2 hl3
     go_wp2_with fail
     go_ret3
     exact⟨0,alnC N O P O.length,alnB N O O.length,B1,B2,c1,c2,rfl,HI1'.out,HI2'.out,HL2.out,HL3.out,HC2.out.1,HC2.out.2,.inl ⟨rfl,HNF.out,HK.out⟩,HBr.out⟩
end
section
/- backsub: Known and Solve of what may not be; Solve. -/
open Go.RowKit
set_option maxRecDepth 100000
def SvRes (N n:Nat) (X Z:List Nat) (E:Int) (blks:List ByteArray):Prop:=
 (E=10∧¬ FitsP N Z∧blks=[])∨(E=9∧FitsP N Z∧blks=[]∧∃ cols bl,KnownP N n X Z cols bl∧cols.length<N)∨(E=0∧FitsP N Z∧∃ cols,KnownP N n X Z cols blks∧¬ cols.length<N)
def SvOut (N n:Nat) (X Z:List Nat) (w:World) (e:Ending) (w':World):Prop:=
 ∃ (E:Int) (blks:List ByteArray) (B:Option Addr) (c:Nat),e=.returned (.tuple #[.slice B blks.length c,.int .i64 E])∧Texts w' B blks.length blks∧blks.length≤64∧blks.length≤c∧c≤maxLen∧SvRes N n X Z E blks∧Below w.heap.size w w'
theorem solve_yes {N n:Nat} {X:List Nat} {ss:List ByteArray} {A S:Option Addr} {m c d:Nat} (w:World) (h:BkIn w N n X ss A S m c d) :
  Calls Tryz.prog 119 #[.agg #[.int .i64 (N:Int),.slice A m c],.int .i64 (n:Int),.slice S m d] w (SvOut N n X (zs N X ss) w):=by
 have b1:Below w.heap.size w (w.alloc (.cells #[.int .i64 (N:Int),.slice A m c] 102)):=(Below.refl _ _).alloc (Nat.le_refl _) _
 have Q0:=hZ (Box.new w 102 #[.int .i64 (N:Int),.slice A m c])
 have HB:=hZ b1
 have HF:=hZ (known_yes _ (h.below b1))
 have hN:=h.hN
 obtain⟨q0,q1,-,-⟩:=Q0.out.two
 clear b1 h
 go_enter Tryz.func119,Tryz.ntmps119
 go_wp2_with fail
 refine HF.out.mono ?_
 rintro e x1 ⟨E,cols,blks,B1,B2,c1,c2,rfl,hi,ht,hl1,hl2,hc,hcm,hres,hb⟩
 have HB2:=hZ (chain HB.out hb)
 have Q1:=hZ (Q0.out.keep hb)
 have HT:=hZ ht
 have HC:=hZ hc
 have HCM:=hZ hcm
 clear hb q0 q1 ht hi HF HB Q0 hc hcm
 obtain⟨q0,q1,-,-⟩:=Q1.out.two
 rcases hres with ⟨rfl,hf,hk⟩ |⟨rfl,hf,rfl,rfl⟩
 ·have HFt:=hZ hf
  have HK:=hZ hk
  clear hf hk
  by_cases hlt:cols.length<N
  ·have hlt':(cols.length:Int)<(N:Int):=by omega
   go_wp2_with fail
   go_ret2
   exact⟨9,[],none,0,rfl,Texts.nil _ _,by simp,by simp,by simp [maxLen],.inr (.inl ⟨rfl,HFt.out,rfl,cols,blks,HK.out,hlt⟩),HB2.out⟩
  ·have hlt':¬ (cols.length:Int)<(N:Int):=by omega
   go_wp2_with fail
   go_ret2
   exact⟨0,blks,B2,c2,rfl,HT.out,hl2,HC.out,HCM.out,.inr (.inr ⟨rfl,HFt.out,cols,HK.out,hlt⟩),HB2.out⟩
 ·have HFt:=hZ hf
  clear hf
  go_wp2_with fail
  go_ret2
  exact⟨10,[],none,0,rfl,Texts.nil _ _,by simp,by simp,by simp [maxLen],.inl ⟨rfl,HFt.out,rfl⟩,HB2.out⟩
end
section
/- Layer 18: rank and solution of a store as functions; what a call does to an object. -/
open Go.RowKit Go.Lib
set_option maxRecDepth 100000
noncomputable def rankF (k:Int) (xs:List SymR):Nat:=Classical.epsilon fun n=>RkIs (rowsN k.toNat xs) n
theorem rankF_eq {k:Nat} {xs:List SymR} {n:Nat} (h:RkIs (rowsN k xs) n):rankF (k:Int) xs=n:=by
 unfold rankF
 rw [Int.toNat_natCast]
 exact rk_fun (Classical.epsilon_spec (p:=fun n=>RkIs (rowsN k xs) n) ⟨n,h⟩) h
theorem sv_fun {N n:Nat} {X Z:List Nat} {E E':Int} {b b':List ByteArray} (h:SvRes N n X Z E b) (h':SvRes N n X Z E' b'):E=E'∧b=b':=by
 rcases h with ⟨rfl,hf,rfl⟩ |⟨rfl,hf,rfl,c,bl,hk,hl⟩ |⟨rfl,hf,c,hk,hl⟩
 ·rcases h' with ⟨rfl,hf',rfl⟩ |⟨rfl,hf',-⟩ |⟨rfl,hf',-⟩
  ·exact⟨rfl,rfl⟩
  ·exact absurd hf' hf
  ·exact absurd hf' hf
 ·rcases h' with ⟨rfl,hf',rfl⟩ |⟨rfl,hf',rfl,-⟩ |⟨rfl,hf',c',hk',hl'⟩
  ·exact absurd hf hf'
  ·exact⟨rfl,rfl⟩
  ·have:=(known_uniq hf hk hk').1
   rw [this] at hl
   exact absurd hl hl'
 ·rcases h' with ⟨rfl,hf',rfl⟩ |⟨rfl,hf',rfl,c',bl',hk',hl'⟩ |⟨rfl,hf',c',hk',hl'⟩
  ·exact absurd hf hf'
  ·have:=(known_uniq hf hk hk').1
   rw [this] at hl
   exact absurd hl' hl
  ·exact⟨rfl,(known_uniq hf hk hk').2⟩
abbrev SolvP (k s:Nat) (xs:List SymR) (p:Int×List ByteArray):Prop:=SvRes k s (rowsN k xs) (zs k (rowsN k xs) (dtL xs)) p.1 p.2
theorem sv_nil {N n:Nat} {X Z:List Nat} {E:Int} {b:List ByteArray} (h:SvRes N n X Z E b) (hE:¬ E=0):b=[]:=by
 rcases h with ⟨rfl,hf,rfl⟩ |⟨rfl,hf,rfl,-⟩ |⟨rfl,-⟩
 ·rfl
 ·rfl
 ·exact absurd rfl hE
noncomputable def solveE (k s:Int) (xs:List SymR):Int×List ByteArray:=Classical.epsilon fun p=>SolvP k.toNat s.toNat xs p
noncomputable def solveF (k s:Int) (xs:List SymR):Int×List ByteArray:=if (solveE k s xs).1=0 then solveE k s xs else ((solveE k s xs).1,[])
theorem solveF_eq {k s:Nat} {xs:List SymR} {E:Int} {b:List ByteArray} (h:SvRes k s (rowsN k xs) (zs k (rowsN k xs) (dtL xs)) E b):solveF (k:Int) (s:Int) xs=(E,b):=by
 have h0:solveE (k:Int) (s:Int) xs=(E,b):=by
  unfold solveE
  rw [Int.toNat_natCast,Int.toNat_natCast]
  have h1:SolvP k s xs (Classical.epsilon fun p=>SolvP k s xs p):=Classical.epsilon_spec (p:=fun p=>SolvP k s xs p) ⟨(E,b),h⟩
  have:=sv_fun h1 h
  exact Prod.ext this.1 this.2
 unfold solveF
 rw [h0]
 by_cases e:E=0
 ·rw [if_pos e]
 ·rw [if_neg e,sv_nil h e]
noncomputable def actO (o:ObR) (c:CallR):ObR×ReplyR:=
 if c.1=1 then
  (if whyI o.2.1.2.1 o.2.1.2.2.1 o.2.1.2.2.2 (c.2.2.2.2.2.1,c.2.2.2.2.2.2)=0 then
   ((o.1,(o.2.1.1,o.2.1.2.1,o.2.1.2.2.1,o.2.1.2.2.2++[(c.2.2.2.2.2.1,c.2.2.2.2.2.2)]),o.2.2),(0,(rankF o.2.1.1 (o.2.1.2.2.2++[(c.2.2.2.2.2.1,c.2.2.2.2.2.2)]):Int),[]))
  else (o,(whyI o.2.1.2.1 o.2.1.2.2.1 o.2.1.2.2.2 (c.2.2.2.2.2.1,c.2.2.2.2.2.2),0,[])))
 else if c.1=2 then (o,(0,(rankF o.2.1.1 o.2.1.2.2.2:Int),[]))
 else if c.1=3 then (o,((solveF o.2.1.1 o.2.1.2.1 o.2.1.2.2.2).1,((solveF o.2.1.1 o.2.1.2.1 o.2.1.2.2.2).2.length:Int),(solveF o.2.1.1 o.2.1.2.1 o.2.1.2.2.2).2))
 else ((o.1,o.2.1,1),(0,(o.2.1.2.2.2.length:Int),[]))
noncomputable def doO (o:ObR) (c:CallR):ObR×ReplyR:=
 if rightO o=true∧0≤c.1∧c.1≤4 then
  (if c.1=0 then (o,(11,0,[])) else if o.2.2=1 then (o,(6,0,[])) else actO o c)
 else (o,(1,0,[]))
theorem right_store {o:ObR} (h:rightO o=true):storeB o.2.1.1 o.2.1.2.1 o.2.1.2.2.1 o.2.1.2.2.2=true:=by
 unfold rightO at h
 rw [Bool.and_eq_true] at h
 exact h.1
theorem A3_gen (t0:TypeId) (a b r:Array Value) (w:World):Box (((w.alloc (.cells a t0)).alloc (.cells b 27)).alloc (.cells r 36)) w.heap.size t0 a∧Box (((w.alloc (.cells a t0)).alloc (.cells b 27)).alloc (.cells r 36)) (w.heap.size+1) 27 b∧Box (((w.alloc (.cells a t0)).alloc (.cells b 27)).alloc (.cells r 36)) (w.heap.size+1+1) 36 r∧Below w.heap.size w (((w.alloc (.cells a t0)).alloc (.cells b 27)).alloc (.cells r 36)):=by
 refine⟨((Box.new w _ _).alloc _).alloc _,?_,?_,(((Below.refl _ _).alloc (Nat.le_refl _) _).alloc (by simp) _).alloc (by simp;omega) _⟩
 ·have q:=(Box.new (w.alloc (.cells a t0)) 27 b).alloc (.cells r 36)
  simpa only [World.size_alloc] using q
 ·have q:=Box.new ((w.alloc (.cells a t0)).alloc (.cells b 27)) 36 r
  simpa only [World.size_alloc] using q
abbrev rZ:Array Value:=#[.int .i64 0,.int .i64 0,.slice none 0 0]
abbrev W4 (t0:TypeId) (a c b r:Array Value) (w:World):World:=(((w.alloc (.cells a t0)).alloc (.cells c 31)).alloc (.cells b 27)).alloc (.cells r 36)
theorem A4_gen (t0:TypeId) (a c b r:Array Value) (w:World):Box (W4 t0 a c b r w) w.heap.size t0 a∧Box (W4 t0 a c b r w) (w.heap.size+1) 31 c∧Box (W4 t0 a c b r w) (w.heap.size+1+1) 27 b∧Box (W4 t0 a c b r w) (w.heap.size+1+1+1) 36 r∧Below w.heap.size w (W4 t0 a c b r w):=by
 refine⟨(((Box.new w _ _).alloc _).alloc _).alloc _,?_,?_,?_,((((Below.refl _ _).alloc (Nat.le_refl _) _).alloc (by simp) _).alloc (by simp;omega) _).alloc (by simp;omega) _⟩
 ·have q:=((Box.new (w.alloc (.cells a t0)) 31 c).alloc (.cells b 27)).alloc (.cells r 36)
  simpa only [World.size_alloc] using q
 ·have q:=(Box.new ((w.alloc (.cells a t0)).alloc (.cells c 31)) 27 b).alloc (.cells r 36)
  simpa only [World.size_alloc] using q
 ·have q:=Box.new (((w.alloc (.cells a t0)).alloc (.cells c 31)).alloc (.cells b 27)) 36 r
  simpa only [World.size_alloc] using q
def Ref2 (o:ObR) (A:Option Addr) (d:Nat) (why:Int) (w:World) (e:Ending) (w':World):Prop:=e=.returned (.tuple #[.agg (obA o A d),.agg #[.int .i64 why,.int .i64 0,.slice none 0 0]])∧Below w.heap.size w w'
set_option maxHeartbeats 2000000 in
theorem refused_any (o:ObR) (A:Option Addr) (d:Nat) (why:Int) (w:World):Calls Tryz.prog 28 #[.agg (obA o A d),.int .i64 why] w (Ref2 o A d why w):=by
 obtain⟨q0,-,-,-⟩:=A3_gen 68 (obA o A d) oZ rZ w
 obtain⟨-,p1,p2,b3⟩:=A3_gen 68 (obA o A d) (obA o A d) #[.int .i64 why,.int .i64 0,.slice none 0 0] w
 have Q0:=hZ q0
 have P1:=hZ p1
 have P2:=hZ p2
 have HB:=hZ b3
 obtain⟨r0,r1,r2,r3,r4,r5⟩:=Q0.out.sixO
 clear q0 p1 p2 b3
 go_enter Tryz.func28,Tryz.ntmps28
 go_wp2_with fail
 refine close_two Tryz.results28 rfl rfl rfl P1.out P2.out Tryz.underlying27 Tryz.underlying36 rfl rfl (by kernel_rfl) (by kernel_rfl) ?_
 exact⟨rfl,HB.out⟩
end
section
/- The reference's way: byte by byte, with eight more columns. No program. -/
end
section
/- The reference of layer 5: Bits that may be appended to, bit. -/
open Go.RowKit
set_option maxRecDepth 100000
theorem halves (v k:Nat):(v / 2 ^ k)%2=if v.testBit k then 1 else 0:=by
 have:=Nat.testBit_eq_decide_div_mod_eq (x:=v) (i:=k)
 rw [this]
 rcases Nat.mod_two_eq_zero_or_one (v / 2 ^ k) with h | h<;>rw [h]<;>rfl
end
section
/- The reference of layer 5: part. -/
open Go.RowKit
set_option maxRecDepth 100000
theorem PC.rows {w w1:World} {t:TypeId} (h:PC w w1 t) {base:Nat} {v:Value} {N:Nat} {L:List Nat} (q:RowsN w base v N L) (hne:22≠t) (hne2:139≠t):RowsN w1 base v N L:=by
 obtain⟨rs,h1,h2,h3⟩:=q
 exact⟨rs,h1,h.own h2 hne2,fun j hj=>⟨(h3 j hj).1,h.own (h3 j hj).2 hne⟩⟩
end
section
/- The reference of layer 5: Why, Fits. -/
open Go.RowKit
set_option maxRecDepth 100000
end
section
/- The reference of layer 5: told, byteOf. -/
open Go.RowKit
set_option maxRecDepth 100000
end
section
/- The reference of layer 5: Known. -/
open Go.RowKit
set_option maxRecDepth 100000
end
section
/- The reference of layer 5: Known, walked. -/
open Go.RowKit
set_option maxRecDepth 100000
theorem Words.gk {w w1:World} {A:Option Addr} {l:Nat} {us:List Nat} (h:Words w A l us) {g:Nat} {t:TypeId} {cs:Array Value} (hb:Box w g t cs) (hk:∀ (i:Nat) (v:Value),cs[i]?=some v→∀ k n,v≠Value.int k n) (hg:w.grownBy w1 (some g)):Words w1 A l us:=by
 refine⟨h.1,h.2.1,fun hp=>?_⟩
 obtain⟨b,off,rfl,hlt,hc⟩:=h.2.2 hp
 have hne:b≠g:=fun e=>by
  subst e
  have:=hc 0 hp
  rw [hb.cell] at this
  exact hk _ _ this _ _ rfl
 refine⟨b,off,rfl,Nat.lt_of_lt_of_le hlt hg.size,fun j hj=>?_⟩
 rw [hg.cell_far ⟨b,off+j,none⟩ hlt (fun e=>hne (Option.some.inj e))]
 exact hc j hj
theorem MatAt.gk {w w1:World} {lo:Nat} {A:Option Addr} {len:Nat} {ms:List (Int×List Nat)} (h:MatAt w lo A len ms) {g:Nat} {t:TypeId} {cs:Array Value} (hb:Box w g t cs) (hk:∀ (i:Nat) (v:Value),cs[i]?=some v→∀ k n,v≠Value.int k n) (hg:w.grownBy w1 (some g)):MatAt w1 lo A len ms:=by
 refine⟨h.1,fun hp=>?_⟩
 obtain⟨b,off,rfl,hlo,hlt,hc⟩:=h.2 hp
 have hne:b≠g:=fun e=>by
  subst e
  obtain⟨B,l,c,r0,-⟩:=hc 0 hp
  rw [hb.cell] at r0
  exact hk _ _ r0 _ _ rfl
 refine⟨b,off,rfl,hlo,Nat.lt_of_lt_of_le hlt hg.size,fun j hj=>?_⟩
 obtain⟨B,l,c,r0,r1,r2,r3⟩:=hc j hj
 refine⟨B,l,c,?_,?_,r2,r3.gk hb hk hg⟩
 ·rw [hg.cell_far ⟨b,off+j*2,none⟩ hlt (fun e=>hne (Option.some.inj e))];exact r0
 ·rw [hg.cell_far ⟨b,off+j*2+1,none⟩ hlt (fun e=>hne (Option.some.inj e))];exact r1
structure NS (w w1:World):Prop where
 size:w.heap.size≤w1.heap.size
 cell:∀ p:Addr,p.block<w.heap.size→(∀ s,w.cell? p≠some (.string s))→w1.cell? p=w.cell? p
theorem NS.refl (w:World):NS w w:=⟨Nat.le_refl _,fun _ _ _=>rfl⟩
theorem NS.below {w w1 w2:World} (h:NS w w1) (hb:Below w1.heap.size w1 w2):NS w w2:=
 ⟨Nat.le_trans h.size hb.size,fun p hp hs=>by
  have e:=h.cell p hp hs
  rw [← e]
  exact hb.cell (p:=p) (Nat.lt_of_lt_of_le hp h.size)⟩
theorem NS.set {w w1:World} (h:NS w w1) {g j:Nat} {s:ByteArray} (hc:w1.cell? ⟨g,j,none⟩=some (.string s)) (u:Value):NS w (w1.setCell ⟨g,j,none⟩ u):=
 ⟨by simpa [World.setCell] using h.size,fun p hp hs=>by
  have e:=h.cell p hp hs
  rw [World.cell?_setCell_other _ _ _ _ (fun e2=>by
   subst e2
   rw [e] at hc
   exact hs _ hc)]
  exact e⟩
end
section
/- Layer 18: solve.Progress, solve.Solve, and the reference's Solve. -/
open Go.RowKit
set_option maxRecDepth 100000
def SumsOut (l:Nat) (ss:List ByteArray) (w:World) (e:Ending) (w':World):Prop:=∃ A c,e=.returned (.tuple #[.slice A l c,.int .i64 0])∧Texts w' A l ss∧l≤c∧c≤maxLen∧Below w.heap.size w w'
set_option maxHeartbeats 4000000 in
theorem sumsX_yes (k s c:Int) (A:Option Addr) (l d:Nat) (xs:List SymR) (w:World) (hx:Syms w A l xs) (hl:l≤d) (hd:d≤maxLen) (hs:storeB k s c xs=true) :
  Calls Tryz.prog 118 #[.agg #[.int .i64 k,.int .i64 s,.int .i64 c,.slice A l d]] w (SumsOut l (dtL xs) w):=by
 obtain⟨hk,-,hc,hlc⟩:=storeB_bd hs
 obtain⟨i0,hi,hz0,hz1,hz2⟩:=info_parts string_info
 have HI:=hZ hi
 have HZ0:=hZ hz0
 have HZ1:=hZ hz1
 have HZ2:=hZ hz2
 have b1:Below w.heap.size w (w.alloc (.cells #[.int .i64 k,.int .i64 s,.int .i64 c,.slice A l d] 25)):=(Below.refl _ _).alloc (Nat.le_refl _) _
 have Q:=hZ (Box.new w 25 #[.int .i64 k,.int .i64 s,.int .i64 c,.slice A l d])
 have HB:=hZ b1
 have HXl:=hZ hx.1
 have HLE:=hZ (dtL_le hs)
 have hl64:l≤64:=by have:=hx.1;omega
 have HX:=hZ (hx.below b1)
 have HR:=hZ (eright_any k s c A l d xs _ (hx.below b1) hl hd)
 rw [hs] at HR
 obtain⟨r0,r1,r2,r3,-,-,-,-⟩:=Q.out.four
 clear hx b1 hs hi hz0 hz1 hz2
 go_enter Tryz.func118,Tryz.ntmps118
 go_wp2_with fail
 refine HR.out.mono ?_
 rintro e w1 ⟨rfl,hb⟩
 replace HB:=hZ (chain HB.out hb)
 replace Q:=hZ (Q.out.keep hb)
 replace HX:=hZ (HX.out.below hb)
 clear hb r0 r1 r2 r3 HR
 obtain⟨r0,r1,r2,r3,-,-,-,-⟩:=Q.out.four
 go_wp2_with fail
 clear r0 r1 r2 r3
 go_loopw [4,13] (fun v t wr=>∃ i:Nat,i≤l∧t=.int .i64 i∧wr.ownsRow w1.heap.size 9 1 v i ((dtL (xs.take i)).map Value.string)∧Below w1.heap.size w1 wr) (fun _ t _=>l-(intOf t).toNat)
 case atStart=>exact⟨0,Nat.zero_le _,rfl,World.ownsRow_nil _ _ _ _,Below.refl _ _⟩
 case round=>
  obtain⟨i,hi,rfl,hown,hbel⟩:=hrel
  have HO:=hZ hown
  have HC:=hZ hbel
  clear hown hbel
  by_cases hlt:i<l
  ·have hlt':(i:Int)<(l:Int):=Int.ofNat_lt.2 hlt
   obtain⟨b,off,rfl,hb,x0,x1⟩:=Syms.two HX.out i hlt
   have x0:=(HC.out.cell (p:=⟨b,off+i*2,none⟩) hb).trans x0
   have x1:=(HC.out.cell (p:=⟨b,off+i*2+1,none⟩) hb).trans x1
   have HS:=hZ (dtL_snoc xs i (by rw [HXl.out];exact hlt))
   generalize xs.getD i default=p at *
   obtain⟨p0,p1⟩:=p
   dsimp only at x0 x1 HS
   have G:=hZ (Box.new wr 29 #[.int .u64 (p0:Nat),.string p1])
   have c1:=hZ (show Below wr.heap.size wr (wr.alloc (.cells #[.int .u64 (p0:Nat),.string p1] 29)) from (Below.refl _ _).alloc (Nat.le_refl _) _)
   have c2:=hZ (show Below wr.heap.size wr ((wr.alloc (.cells #[.int .u64 (p0:Nat),.string p1] 29)).alloc (.cells #[.string p1] 9)) from c1.out.alloc c1.out.size _)
   have XO:=hZ (own_keep HO.out c2.out)
   have XB:=hZ (HC.out.trans (c2.out.mono HC.out.size))
   have N2:=hZ (fun g hg=>(HO.out.lt g hg).1)
   have NW:=hZ (show ∀ j u,([Value.string p1])[j]?=some u→((wr.alloc (.cells #[.int .u64 (p0:Nat),.string p1] 29)).alloc (.cells #[.string p1] 9)).cell? ((⟨wr.heap.size+1,0,none⟩:Addr).add j)=some u from by
    have:=World.news_of_block (Box.new (wr.alloc (.cells #[.int .u64 (p0:Nat),.string p1] 29)) 9 #[.string p1])
    rw [World.size_alloc] at this
    exact this)
   obtain⟨g0,g1,-,-⟩:=G.out.two
   clear G c1
   go_wp2_with (at_builtin;refine wpList_append_own _ rfl _ _ 34 rfl w1.heap.size 9 i0 (.string ⟨#[]⟩) 1 16 Tryz.underlying34 HI.out HZ0.out HZ1.out HZ2.out rfl (by decide) _ _ _ rfl XO.out ⟨wr.heap.size+1,0,none⟩ 1 1 [.string p1] rfl rfl NW.out (by simp [Value.oneCell']) (by simp [maxLen];omega) (by omega) (XB.out.size) ?_;intro v' w2 hown' hgrow _;have HC2:=hZ (XB.out.grown hgrow XB.out.size N2.out);have HO2:=hZ hown';clear hown' hgrow)
   go_roundw
   case rel=>
    refine⟨i+1,hlt,by go_num,?_,HC2.out⟩
    rw [HS.out]
    exact HO2.out
   case measure=>simp [intOf]<;>omega
  ·obtain rfl:l=i:=by omega
   have hlt':¬ (l:Int)<(l:Int):=Int.lt_irrefl _
   have HTK:=hZ (show xs.take l=xs from List.take_of_length_le (by rw [HXl.out];exact Nat.le_refl _))
   rw [HTK.out] at HO
   obtain⟨A7,c7,hv,e1,e2,ht⟩:=own_texts HO.out HLE.out
   subst hv
   have HT:=hZ ht
   have BB:=hZ (chain HB.out HC.out)
   clear HO HTK HC ht
   go_wp2_with fail
   go_ret2
   exact⟨A7,c7,rfl,HT.out,e1,e2,BB.out⟩
theorem dtL_size {k s c:Int} {xs:List SymR} (h:storeB k s c xs=true):∀ t∈dtL xs,(t.size:Int)=s:=fun t ht=>by
 unfold storeB at h
 simp only [Bool.and_eq_true] at h
 have h2:=h.1.2
 unfold allB at h2
 rw [List.all_eq_true] at h2
 obtain⟨x,hx,rfl⟩:=List.mem_map.1 ht
 simpa using h2 x hx
theorem rightM_mkO {N:Nat} {L:List Nat} (hN:N≤64) (hl:L.length≤64) (hL:∀ r∈L,r<2 ^ N):rightM N (mkM N L)=true:=
 rightM_of hN (by rw [mkM_len];exact hl) fun i hi=>by
  rw [mkM_len] at hi
  rw [mkM_at N L i hi]
  exact⟨rfl,rowOf_right N _ (by omega) (hL _ (getD_mem hi))⟩
theorem store_bk {k s:Nat} {c:Int} {xs:List SymR} {A S:Option Addr} {cA cS base:Nat} {w:World} (h:storeB (k:Int) (s:Int) c xs=true) (hm:MatW w base k (.slice A xs.length cA) ((idN xs).map (nbRow k))) (hs:SliceOk A xs.length cA) (ht:Texts w S xs.length (dtL xs)) (h1:xs.length≤cS) (h2:cS≤maxLen):BkIn w k s (rowsN k xs) (dtL xs) A S xs.length cA cS:=by
 obtain⟨hk,hz,hc,hlc⟩:=storeB_bd h
 have k1:1≤k:=by omega
 have k2:k≤64:=by omega
 have hl:(rowsN k xs).length=xs.length:=rowsN_len k xs
 obtain⟨A',c',e,hM⟩:=MatW.mat k1 k2 hm
 injection e with e1 e2 e3
 subst e1
 have hX:=rowsN_lt k xs k1 k2
 exact { hN:=k2,hn:=by omega,hX:=hX,hXm:=hl,hm64:=by omega,hss:=fun t ht=>by have:=dtL_size h t ht;omega,hsl:=hs,hm:=by rw [hl] at hM;exact hM.low (Nat.zero_le _),hr:=rightM_mkO k2 (by rw [hl];omega) hX,ht:=ht,hmd:=h1,hd:=h2 }
theorem own_slO {w:World} {base size n c:Nat} {A:Option Addr} {e:TypeId} {xs:List Value} (h:w.ownsRow base e size (.slice A n c) n xs):SliceOk A n c:=by
 rcases h.2 with ⟨hv,h0⟩ |⟨g,cap,cur,hv,h1,h2,h3,h4,h5⟩
 ·injection hv with ha hn hc
  subst ha hn hc
  exact⟨Nat.le_refl _,Nat.zero_le _,fun _=>⟨rfl,rfl⟩⟩
 ·injection hv with ha hn hc
  subst ha hc
  exact⟨h3,h4,fun e=>by cases e⟩
theorem MatW.sl {w:World} {base n c:Nat} {k:Int} {A:Option Addr} {ls:List (List Nat)} (h:MatW w base k (.slice A n c) ls) (hn:ls.length=n):SliceOk A n c:=by
 obtain⟨rs,-,h2,-⟩:=h
 rw [hn] at h2
 exact own_slO h2
theorem idn_len (k:Nat) (xs:List SymR):((idN xs).map (nbRow k)).length=xs.length:=by rw [List.length_map,idN_len]
def SolveOut (p:Int×List ByteArray) (w:World) (e:Ending) (w':World):Prop:=∃ B c,e=.returned (.tuple #[.slice B p.2.length c,.int .i64 p.1])∧Texts w' B p.2.length p.2∧p.2.length≤64∧p.2.length≤c∧c≤maxLen∧(¬ p.1=0→p.2=[])∧Below w.heap.size w w'
set_option maxHeartbeats 4000000 in
theorem sprog_yes (k:Nat) (s c:Int) (A:Option Addr) (l d:Nat) (xs:List SymR) (w:World) (hx:Syms w A l xs) (hl:l≤d) (hd:d≤maxLen) (hs:storeB k s c xs=true) (hid:Ids xs) :
  Calls Tryz.prog 92 #[.agg #[.int .i64 k,.int .i64 s,.int .i64 c,.slice A l d]] w fun e w'=>e=.returned (.tuple #[.int .i64 (rankF (k:Int) xs:Int),.int .i64 0])∧Below w.heap.size w w':=by
 have b1:Below w.heap.size w (w.alloc (.cells #[.int .i64 k,.int .i64 s,.int .i64 c,.slice A l d] 25)):=(Below.refl _ _).alloc (Nat.le_refl _) _
 have HR:=hZ (erank_yes k s c A l d xs _ (Recs.below hx b1) hl hd hs hid)
 have HB:=hZ b1
 obtain⟨r0,r1,r2,r3,-,-,-,-⟩:=(Box.new w 25 #[.int .i64 k,.int .i64 s,.int .i64 c,.slice A l d]).four
 clear hx b1 hs
 go_enter Tryz.func92,Tryz.ntmps92
 go_wp2_with fail
 refine HR.out.mono ?_
 rintro e w1 ⟨n,rfl,hn,hb⟩
 have HE:=hZ (rankF_eq hn)
 replace HB:=hZ (chain HB.out hb)
 clear hb r0 r1 r2 r3 hn HR
 go_wp2_with fail
 go_ret2
 exact⟨by rw [HE.out];rfl,HB.out⟩
set_option maxHeartbeats 8000000 in
theorem ssolve_yes (k s:Nat) (c:Int) (A:Option Addr) (l d:Nat) (xs:List SymR) (w:World) (hx:Syms w A l xs) (hl:l≤d) (hd:d≤maxLen) (hs:storeB (k:Int) (s:Int) c xs=true) (hid:Ids xs) :
  Calls Tryz.prog 93 #[.agg #[.int .i64 (k:Int),.int .i64 (s:Int),.int .i64 c,.slice A l d]] w (SolveOut (solveF (k:Int) (s:Int) xs) w):=by
 obtain rfl:xs.length=l:=hx.1
 have b1:Below w.heap.size w (w.alloc (.cells #[.int .i64 (k:Int),.int .i64 (s:Int),.int .i64 c,.slice A xs.length d] 25)):=(Below.refl _ _).alloc (Nat.le_refl _) _
 have HR:=hZ (erows_yes k s c A xs.length d xs _ (Recs.below hx b1) hl hd hs hid)
 have HU:=hZ (fun wy (hw:Below w.heap.size w wy)=>sumsX_yes k s c A xs.length d xs wy (Recs.below hx hw) hl hd hs)
 have HK:=hZ (fun (A' S:Option Addr) (cA cS base:Nat) (w':World) hm ht h1 h2=>store_bk (A:=A') (S:=S) (cA:=cA) (cS:=cS) (base:=base) (w:=w') hs hm (hm.sl (idn_len k xs)) ht h1 h2)
 have HB:=hZ b1
 have Q:=hZ (Box.new w 25 #[.int .i64 (k:Int),.int .i64 (s:Int),.int .i64 c,.slice A xs.length d])
 have HF:=hZ (fun (E:Int) (b:List ByteArray) (h:SvRes k s (rowsN k xs) (zs k (rowsN k xs) (dtL xs)) E b)=>solveF_eq h)
 have HNil:=hZ (fun (E:Int) (b:List ByteArray) (h:SvRes k s (rowsN k xs) (zs k (rowsN k xs) (dtL xs)) E b)=>sv_nil h)
 obtain⟨l,hll⟩:∃ l,l=xs.length:=⟨_,rfl⟩
 have HLl:=hZ hll
 obtain⟨r0,r1,r2,r3,-,-,-,-⟩:=Q.out.four
 clear hx b1 hs hll hl
 go_enter Tryz.func93,Tryz.ntmps93
 go_wp2_with fail
 refine HR.out.mono ?_
 rintro e w1 ⟨A1,c1,b0,rfl,hm,hb⟩
 have b2:Below w1.heap.size w1 (w1.alloc (.cells #[.int .i64 (k:Int),.slice A1 xs.length c1] 102)):=(Below.refl _ _).alloc (Nat.le_refl _) _
 have hbb:=chain hb b2
 have HM:=hZ (hm.below b2)
 have QM:=hZ (Box.new w1 102 #[.int .i64 (k:Int),.slice A1 xs.length c1])
 have Q2:=hZ (Q.out.keep hbb)
 have HB2:=hZ (chain HB.out hbb)
 clear hb b2 hbb hm r0 r1 r2 r3 HR HB Q
 obtain⟨gm,hgm⟩:∃ g,g=w1.heap.size:=⟨_,rfl⟩
 obtain⟨w2,hw2⟩:∃ y,y=w1.alloc (.cells #[.int .i64 (k:Int),.slice A1 xs.length c1] 102):=⟨_,rfl⟩
 rw [← hgm] at QM
 rw [← hw2] at HM QM Q2 HB2
 go_upto_region 2 with (fail)
 rw [← hgm,← hw2]
 clear hgm hw2
 obtain⟨r0,r1,r2,r3,-,-,-,-⟩:=Q2.out.four
 have HUw:=hZ (HU.out _ HB2.out)
 go_wp2_with fail
 refine HUw.out.mono ?_
 rintro e w3 ⟨S,cS,rfl,ht,h1,h2,hb⟩
 have HM3:=hZ (HM.out.below hb)
 have HB3:=hZ (chain HB2.out hb)
 have Q3:=hZ (Q2.out.keep hb)
 have QM3:=hZ (QM.out.keep hb)
 have HSv:=hZ (solve_yes w3 (HK.out A1 S c1 cS b0 w3 HM3.out ht h1 h2))
 clear hb ht h1 h2 r0 r1 r2 r3 HUw HM QM Q2 HB2 HU HK
 obtain⟨r0,r1,r2,r3,-,-,-,-⟩:=Q3.out.four
 obtain⟨m0,m1,-,-⟩:=QM3.out.two
 go_wp2_with fail
 refine HSv.out.mono ?_
 rintro e w4 ⟨E,blks,B,cB,rfl,hT,h64,hc1,hc2,hres,hb⟩
 have HE:=hZ (HF.out E blks hres)
 have HN:=hZ (HNil.out E blks hres)
 have HT:=hZ hT
 have HC:=hZ (And.intro h64 (And.intro hc1 hc2))
 have HB4:=hZ (chain HB3.out hb)
 clear hb hT h64 hc1 hc2 hres HSv r0 r1 r2 r3 m0 m1 HF HNil
 go_wp2_with fail
 go_ret2
 rw [HE.out]
 exact⟨B,cB,rfl,HT.out,HC.out.1,HC.out.2.1,HC.out.2.2,HN.out,HB4.out⟩
end
section
/- EquationsGrow, EquationsOrder: what they share. -/
open Go.RowKit
set_option maxRecDepth 100000
theorem storeB_grow {k s c:Int} {xs:List SymR} {x:SymR} (h:addE k s c xs x=0):storeB k s c (xs++[x])=true:=by
 obtain⟨h1,h2,h3,h4,-⟩:=addE_ok h
 have e1:allB s (xs++[x])=allB s xs:=by simp [allB,h2]
 have e2:twiceB (xs++[x])=twiceB xs:=by
  have h5:twiceB (xs++[x])=(twiceTo (xs++[x]) xs.length||hasI ((xs++[x]).take xs.length) ((xs++[x]).getD xs.length default).1):=by
   have:=twiceTo_snoc (xs++[x]) xs.length (by simp)
   have h6:twiceB (xs++[x])=twiceTo (xs++[x]) (xs.length+1):=by unfold twiceB twiceTo;rw [List.length_append];rfl
   rw [h6,this]
  have h7:(xs++[x]).take xs.length=xs:=by simp
  have h8:(xs++[x]).getD xs.length default=x:=by simp [List.getD]
  have h9:twiceTo (xs++[x]) xs.length=twiceB xs:=by
   unfold twiceTo twiceB
   rw [Bool.eq_iff_iff]
   simp only [List.any_eq_true,List.mem_range]
   constructor
   ·rintro ⟨i,hi,hh⟩
    refine⟨i,hi,?_⟩
    rw [List.take_append_of_le_length (by omega)] at hh
    simpa [List.getD,List.getElem?_append_left hi] using hh
   ·rintro ⟨i,hi,hh⟩
    refine⟨i,hi,?_⟩
    rw [List.take_append_of_le_length (by omega)]
    simpa [List.getD,List.getElem?_append_left hi] using hh
  rw [h5,h7,h8,h9,h3];simp
 unfold storeB at h1 ⊢
 simp only [Bool.and_eq_true,decide_eq_true_eq] at h1
 simp only [e1,e2,Bool.and_eq_true,decide_eq_true_eq,List.length_append,List.length_cons,List.length_nil]
 exact⟨⟨⟨h1.1.1.1,by omega⟩,h1.1.2⟩,h1.2⟩
end
section
/- Layer 18: what the methods of an object that may be tell. -/
open Go.RowKit Go.Lib
set_option maxRecDepth 100000
section
variable {w:World} {g:Nat} {t:TypeId} {cs:Array Value} {A:Option Addr} {l:Nat} {ss:List ByteArray}
theorem Texts.neO (h:Texts w A l ss) (hb:Box w g t cs) (hns:∀ (i:Nat) (s:ByteArray),cs[i]?≠some (.string s)):∀ b off,A=some ⟨b,off,none⟩→0<l→b≠g:=fun b off e hp he=>by
 obtain⟨b',off',e',-,hc⟩:=h.2.2 hp
 rw [e] at e'
 injection e' with e'
 injection e' with e1 e2
 subst e1 e2 he
 have h1:=hc 0 hp
 rw [hb.cell] at h1
 exact hns _ _ h1
theorem Texts.farN (h:Texts w A l ss) (hne:∀ b off,A=some ⟨b,off,none⟩→0<l→b≠g) (i:Nat) (u:Value):Texts (w.setCell ⟨g,i,none⟩ u) A l ss:=by
 refine⟨h.1,h.2.1,fun hp=>?_⟩
 obtain⟨b,off,rfl,hlt,hc⟩:=h.2.2 hp
 have hn:=hne b off rfl hp
 refine⟨b,off,rfl,by simpa [World.setCell] using hlt,fun j hj=>?_⟩
 rw [World.cell?_setCell_other _ _ _ _ (by intro e;injection e;omega)]
 exact hc j hj
theorem Texts.far9 {g2:Nat} (h:Texts w A l ss) (hn1:∀ b off,A=some ⟨b,off,none⟩→0<l→b≠g) (hn2:∀ b off,A=some ⟨b,off,none⟩→0<l→b≠g2) (a b c d e f x y z:Value):Texts (((((((((w.setCell ⟨g,0,none⟩ a).setCell ⟨g,1,none⟩ b).setCell ⟨g,2,none⟩ c).setCell ⟨g,3,none⟩ d).setCell ⟨g,4,none⟩ e).setCell ⟨g,5,none⟩ f).setCell ⟨g2,0,none⟩ x).setCell ⟨g2,1,none⟩ y).setCell ⟨g2,2,none⟩ z) A l ss:=
 ((((((((h.farN hn1 0 a).farN hn1 1 b).farN hn1 2 c).farN hn1 3 d).farN hn1 4 e).farN hn1 5 f).farN hn2 0 x).farN hn2 1 y).farN hn2 2 z
theorem Syms.neO {xs:List SymR} (h:Syms w A l xs) (hb:Box w g t cs) (hns:∀ (i:Nat) (s:ByteArray),cs[i]?≠some (.string s)):∀ b off,A=some ⟨b,off,none⟩→0<l→b≠g:=fun b off e hp he=>by
 obtain⟨b',off',e',-,-,h1⟩:=h.two 0 hp
 rw [e] at e'
 injection e' with e'
 injection e' with e1 e2
 subst e1 e2 he
 rw [hb.cell] at h1
 exact hns _ _ h1
theorem Syms.far9 {g2:Nat} {xs:List SymR} (h:Syms w A l xs) (hn1:∀ b off,A=some ⟨b,off,none⟩→0<l→b≠g) (hn2:∀ b off,A=some ⟨b,off,none⟩→0<l→b≠g2) (a b c d e f x y z:Value):Syms (((((((((w.setCell ⟨g,0,none⟩ a).setCell ⟨g,1,none⟩ b).setCell ⟨g,2,none⟩ c).setCell ⟨g,3,none⟩ d).setCell ⟨g,4,none⟩ e).setCell ⟨g,5,none⟩ f).setCell ⟨g2,0,none⟩ x).setCell ⟨g2,1,none⟩ y).setCell ⟨g2,2,none⟩ z) A l xs:=
 ((((((((Recs.farB h hn1 0 a).farB hn1 1 b).farB hn1 2 c).farB hn1 3 d).farB hn1 4 e).farB hn1 5 f).farB hn2 0 x).farB hn2 1 y).farB hn2 2 z
end
theorem oz_no (i:Nat) (s:ByteArray):oZ[i]?≠some (.string s):=by
 match i with
 | 0 | 1 | 2 | 3 | 4 | 5=>simp
 | n+6=>simp
theorem rz_no (i:Nat) (s:ByteArray):rZ[i]?≠some (.string s):=by
 match i with
 | 0 | 1 | 2=>simp
 | n+3=>simp
theorem obA_no (o:ObR) (A:Option Addr) (d:Nat) (i:Nat) (s:ByteArray):(obA o A d)[i]?≠some (.string s):=by
 match i with
 | 0 | 1 | 2 | 3 | 4 | 5=>simp
 | n+6=>simp
set_option maxHeartbeats 4000000 in
theorem hopen_any (o:ObR) (A:Option Addr) (d:Nat) (c:CallR) (w:World):Calls Tryz.prog 51 #[.agg (obA o A d),callV c] w (Ref2 o A d 11 w):=by
 obtain⟨q0,q1,q2,q3,b5⟩:=A4_gen 68 (obA o A d) (callL c).toArray oZ rZ w
 have Q0:=hZ q0
 have Q1:=hZ q1
 have Q2:=hZ q2
 have Q3:=hZ q3
 have HB:=hZ b5
 obtain⟨r0,r1,r2,r3,r4,r5⟩:=Q0.out.sixO
 obtain⟨v0,v1,v2,v3,v4,v5,v6⟩:=Q1.out.sevenO
 clear q0 q1 q2 q3 b5
 go_enter Tryz.func51,Tryz.ntmps51
 go_wp2_with fail
 refine (refused_any o A d 11 _).mono ?_
 rintro e w2 ⟨rfl,hb⟩
 have P0:=hZ (Q0.out.keep hb)
 have P1:=hZ (Q1.out.keep hb)
 have P2:=hZ (Q2.out.keep hb)
 have P3:=hZ (Q3.out.keep hb)
 have HB2:=hZ (chain HB.out hb)
 clear hb r0 r1 r2 r3 r4 r5 v0 v1 v2 v3 v4 v5 v6
 obtain⟨s0,s1,s2,s3,s4,s5⟩:=P2.out.sixO
 obtain⟨t0,t1,t2⟩:=P3.out.threeO
 have f0:=P2.out.free 0
 have f1:=P2.out.free 1
 have f2:=P2.out.free 2
 have f3:=P2.out.free 3
 have f4:=P2.out.free 4
 have f5:=P2.out.free 5
 have g0:=P3.out.free 0
 have g1:=P3.out.free 1
 have g2:=P3.out.free 2
 go_wp2_with fail
 refine close_two Tryz.results51 rfl rfl rfl (P2.out.put6o.far3o (by omega) _ _ _) ((P3.out.far6o (g':=w.heap.size+1+1) (by omega) _ _ _ _ _ _).put3o) Tryz.underlying27 Tryz.underlying36 rfl rfl (by kernel_rfl) (by kernel_rfl) ?_
 exact⟨rfl,below_set3o (below_set6o HB2.out (show w.heap.size≤w.heap.size+1+1 by omega) _ _ _ _ _ _) (show w.heap.size≤w.heap.size+1+1+1 by omega) _ _ _⟩
def SameOut (o:ObR) (A:Option Addr) (d:Nat) (n:Int) (w:World) (e:Ending) (w':World):Prop:=e=.returned (.tuple #[.agg (obA o A d),.agg #[.int .i64 0,.int .i64 n,.slice none 0 0]])∧Below w.heap.size w w'
set_option maxHeartbeats 4000000 in
theorem hprog_any (o:ObR) (A:Option Addr) (d:Nat) (c:CallR) (w:World) (hr:rightO o=true) (hs:SliceOk A o.2.1.2.2.2.length d) (hx:Syms w A o.2.1.2.2.2.length o.2.1.2.2.2) (hi:Ids o.2.1.2.2.2):Calls Tryz.prog 53 #[.agg (obA o A d),callV c] w (SameOut o A d (rankF o.2.1.1 o.2.1.2.2.2:Int) w):=by
 have hst:=right_store hr
 obtain⟨⟨k1,k2⟩,-,-,-⟩:=storeB_bd hst
 obtain⟨kn,hk⟩:=Int.eq_ofNat_of_zero_le (show 0≤o.2.1.1 by omega)
 have HP:=hZ (fun wy (hw:Below w.heap.size w wy)=>sprog_yes kn o.2.1.2.1 o.2.1.2.2.1 A o.2.1.2.2.2.length d o.2.1.2.2.2 wy (Recs.below hx hw) hs.1 hs.2.1 (by rw [← hk];exact hst) hi)
 rw [← hk] at HP
 obtain⟨q0,q1,q2,q3,b5⟩:=A4_gen 68 (obA o A d) (callL c).toArray oZ rZ w
 have Q0:=hZ q0
 have Q1:=hZ q1
 have Q2:=hZ q2
 have Q3:=hZ q3
 have HB:=hZ b5
 obtain⟨r0,r1,r2,r3,r4,r5⟩:=Q0.out.sixO
 obtain⟨v0,v1,v2,v3,v4,v5,v6⟩:=Q1.out.sevenO
 clear q0 q1 q2 q3 b5
 clear hst k1 k2 hk hs hx hi hr
 have HPw:=hZ (HP.out _ HB.out)
 obtain⟨rk,hrk⟩:∃ r:Int,r=(rankF o.2.1.1 o.2.1.2.2.2:Int):=⟨_,rfl⟩
 rw [← hrk] at HPw ⊢
 clear hrk HP
 go_enter Tryz.func53,Tryz.ntmps53
 go_wp2_with fail
 refine HPw.out.mono ?_
 rintro e w2 ⟨rfl,hb⟩
 have P0:=hZ (Q0.out.keep hb)
 have P1:=hZ (Q1.out.keep hb)
 have P2:=hZ (Q2.out.keep hb)
 have P3:=hZ (Q3.out.keep hb)
 have HB2:=hZ (chain HB.out hb)
 clear hb HPw r0 r1 r2 r3 r4 r5 v0 v1 v2 v3 v4 v5 v6
 obtain⟨r0,r1,r2,r3,r4,r5⟩:=P0.out.sixO
 obtain⟨v0,v1,v2,v3,v4,v5,v6⟩:=P1.out.sevenO
 obtain⟨s0,s1,s2,s3,s4,s5⟩:=P2.out.sixO
 obtain⟨t0,t1,t2⟩:=P3.out.threeO
 have f0:=P2.out.free 0
 have f1:=P2.out.free 1
 have f2:=P2.out.free 2
 have f3:=P2.out.free 3
 have f4:=P2.out.free 4
 have f5:=P2.out.free 5
 have g0:=P3.out.free 0
 have g1:=P3.out.free 1
 have g2:=P3.out.free 2
 go_wp2_with fail
 refine close_two Tryz.results53 rfl rfl rfl (P2.out.put6o.far3o (by omega) _ _ _) ((P3.out.far6o (g':=w.heap.size+1+1) (by omega) _ _ _ _ _ _).put3o) Tryz.underlying27 Tryz.underlying36 rfl rfl (by kernel_rfl) (by kernel_rfl) ?_
 exact⟨rfl,below_set3o (below_set6o HB2.out (show w.heap.size≤w.heap.size+1+1 by omega) _ _ _ _ _ _) (show w.heap.size≤w.heap.size+1+1+1 by omega) _ _ _⟩
def ResOut (o:ObR) (A:Option Addr) (d:Nat) (p:Int×List ByteArray) (w:World) (e:Ending) (w':World):Prop:=∃ B c,e=.returned (.tuple #[.agg (obA o A d),.agg #[.int .i64 p.1,.int .i64 (p.2.length:Int),.slice B p.2.length c]])∧Texts w' B p.2.length p.2∧p.2.length≤c∧c≤maxLen∧Below w.heap.size w w'
set_option maxHeartbeats 8000000 in
theorem hres_any (o:ObR) (A:Option Addr) (d:Nat) (c:CallR) (w:World) (hr:rightO o=true) (hs:SliceOk A o.2.1.2.2.2.length d) (hx:Syms w A o.2.1.2.2.2.length o.2.1.2.2.2) (hi:Ids o.2.1.2.2.2):Calls Tryz.prog 54 #[.agg (obA o A d),callV c] w (ResOut o A d (solveF o.2.1.1 o.2.1.2.1 o.2.1.2.2.2) w):=by
 have hst:=right_store hr
 obtain⟨⟨k1,k2⟩,⟨z1,z2⟩,-,-⟩:=storeB_bd hst
 obtain⟨kn,hk⟩:=Int.eq_ofNat_of_zero_le (show 0≤o.2.1.1 by omega)
 obtain⟨sn,hsn⟩:=Int.eq_ofNat_of_zero_le (show 0≤o.2.1.2.1 by omega)
 have HP:=hZ (fun wy (hw:Below w.heap.size w wy)=>ssolve_yes kn sn o.2.1.2.2.1 A o.2.1.2.2.2.length d o.2.1.2.2.2 wy (Recs.below hx hw) hs.1 hs.2.1 (by rw [← hk,← hsn];exact hst) hi)
 rw [← hk,← hsn] at HP
 obtain⟨q0,q1,q2,q3,b5⟩:=A4_gen 68 (obA o A d) (callL c).toArray oZ rZ w
 have Q0:=hZ q0
 have Q1:=hZ q1
 have Q2:=hZ q2
 have Q3:=hZ q3
 have HB:=hZ b5
 obtain⟨r0,r1,r2,r3,r4,r5⟩:=Q0.out.sixO
 obtain⟨v0,v1,v2,v3,v4,v5,v6⟩:=Q1.out.sevenO
 clear q0 q1 q2 q3 b5
 clear hst k1 k2 z1 z2 hk hsn hs hx hi hr
 have HPw:=hZ (HP.out _ HB.out)
 obtain⟨p,hp⟩:∃ r,r=solveF o.2.1.1 o.2.1.2.1 o.2.1.2.2.2:=⟨_,rfl⟩
 rw [← hp] at HPw ⊢
 clear hp HP
 obtain⟨E,bl⟩:=p
 go_enter Tryz.func54,Tryz.ntmps54
 go_wp2_with fail
 refine HPw.out.mono ?_
 rintro e w2 ⟨B,cB,rfl,ht,h64,h1,h2,hn,hb⟩
 dsimp only at ht h64 h1 h2 hn
 have P0:=hZ (Q0.out.keep hb)
 have P1:=hZ (Q1.out.keep hb)
 have P2:=hZ (Q2.out.keep hb)
 have P3:=hZ (Q3.out.keep hb)
 have HB2:=hZ (chain HB.out hb)
 have HT:=hZ ht
 have HC:=hZ (And.intro h1 h2)
 have hbl:bl.length≤64:=h64
 clear hb HPw ht h1 h2 h64 r0 r1 r2 r3 r4 r5 v0 v1 v2 v3 v4 v5 v6
 obtain⟨r0,r1,r2,r3,r4,r5⟩:=P0.out.sixO
 obtain⟨v0,v1,v2,v3,v4,v5,v6⟩:=P1.out.sevenO
 by_cases h0:E=0
 ·subst h0
  clear hn
  obtain⟨s0,s1,s2,s3,s4,s5⟩:=P2.out.sixO
  obtain⟨t0,t1,t2⟩:=P3.out.threeO
  have f0:=P2.out.free 0
  have f1:=P2.out.free 1
  have f2:=P2.out.free 2
  have f3:=P2.out.free 3
  have f4:=P2.out.free 4
  have f5:=P2.out.free 5
  have g0:=P3.out.free 0
  have g1:=P3.out.free 1
  have g2:=P3.out.free 2
  go_wp2_with fail
  refine close_two Tryz.results54 rfl rfl rfl (P2.out.put6o.far3o (by omega) _ _ _) ((P3.out.far6o (g':=w.heap.size+1+1) (by omega) _ _ _ _ _ _).put3o) Tryz.underlying27 Tryz.underlying36 rfl rfl (by kernel_rfl) (by kernel_rfl) ?_
  exact⟨B,cB,rfl,HT.out.far9 (HT.out.neO P2.out oz_no) (HT.out.neO P3.out rz_no) _ _ _ _ _ _ _ _ _,HC.out.1,HC.out.2,below_set3o (below_set6o HB2.out (show w.heap.size≤w.heap.size+1+1 by omega) _ _ _ _ _ _) (show w.heap.size≤w.heap.size+1+1+1 by omega) _ _ _⟩
 ·have hz:=hn h0
  subst hz
  have t9:(E != 0)=true:=by simpa using h0
  clear hn h0
  go_wp2_with fail
  refine (refused_any o A d E _).mono ?_
  rintro e w3 ⟨rfl,hb⟩
  have R0:=hZ (P0.out.keep hb)
  have R1:=hZ (P1.out.keep hb)
  have R2:=hZ (P2.out.keep hb)
  have R3:=hZ (P3.out.keep hb)
  have HB3:=hZ (chain HB2.out hb)
  clear hb r0 r1 r2 r3 r4 r5 v0 v1 v2 v3 v4 v5 v6
  obtain⟨s0,s1,s2,s3,s4,s5⟩:=R2.out.sixO
  obtain⟨t0,t1,t2⟩:=R3.out.threeO
  have f0:=R2.out.free 0
  have f1:=R2.out.free 1
  have f2:=R2.out.free 2
  have f3:=R2.out.free 3
  have f4:=R2.out.free 4
  have f5:=R2.out.free 5
  have g0:=R3.out.free 0
  have g1:=R3.out.free 1
  have g2:=R3.out.free 2
  go_wp2_with fail
  refine close_two Tryz.results54 rfl rfl rfl (R2.out.put6o.far3o (by omega) _ _ _) ((R3.out.far6o (g':=w.heap.size+1+1) (by omega) _ _ _ _ _ _).put3o) Tryz.underlying27 Tryz.underlying36 rfl rfl (by kernel_rfl) (by kernel_rfl) ?_
  exact⟨none,0,rfl,Texts.nil _ _,Nat.le_refl _,Nat.zero_le _,below_set3o (below_set6o HB3.out (show w.heap.size≤w.heap.size+1+1 by omega) _ _ _ _ _ _) (show w.heap.size≤w.heap.size+1+1+1 by omega) _ _ _⟩
end
section
/- Layer 18: an object is closed. -/
open Go.RowKit Go.Lib
set_option maxRecDepth 100000
set_option maxHeartbeats 4000000 in
theorem hclose_any (o:ObR) (A:Option Addr) (d:Nat) (c:CallR) (w:World):Calls Tryz.prog 55 #[.agg (obA o A d),callV c] w (SameOut (o.1,o.2.1,1) A d (o.2.1.2.2.2.length:Int) w):=by
 obtain⟨q0,q1,q2,q3,b5⟩:=A4_gen 68 #[.int .u64 (o.1:Nat),.int .i64 o.2.1.1,.int .i64 o.2.1.2.1,.int .i64 o.2.1.2.2.1,.slice A o.2.1.2.2.2.length d,.int .i64 1] (callL c).toArray oZ rZ w
 have Q0:=hZ q0
 have Q1:=hZ q1
 have Q2:=hZ q2
 have Q3:=hZ q3
 have HB:=hZ b5
 obtain⟨l0,-,-,-,-⟩:=A4_gen 68 #[.int .u64 (o.1:Nat),.int .i64 o.2.1.1,.int .i64 o.2.1.2.1,.int .i64 o.2.1.2.2.1,.slice A o.2.1.2.2.2.length d,.int .i64 1] (callL c).toArray #[.int .u64 (o.1:Nat),.int .i64 o.2.1.1,.int .i64 o.2.1.2.1,.int .i64 o.2.1.2.2.1,.slice A o.2.1.2.2.2.length d,.int .i64 1] rZ w
 obtain⟨-,-,m2,m3,mb⟩:=A4_gen 68 #[.int .u64 (o.1:Nat),.int .i64 o.2.1.1,.int .i64 o.2.1.2.1,.int .i64 o.2.1.2.2.1,.slice A o.2.1.2.2.2.length d,.int .i64 1] (callL c).toArray #[.int .u64 (o.1:Nat),.int .i64 o.2.1.1,.int .i64 o.2.1.2.1,.int .i64 o.2.1.2.2.1,.slice A o.2.1.2.2.2.length d,.int .i64 1] #[.int .i64 0,.int .i64 (o.2.1.2.2.2.length:Int),.slice none 0 0] w
 have L0:=hZ l0
 have M2:=hZ m2
 have M3:=hZ m3
 have MB:=hZ mb
 obtain⟨r0,r1,r2,r3,r4,r5⟩:=Q0.out.sixO
 clear q0 q1 q2 q3 b5 l0 m2 m3 mb
 obtain⟨s0,s1,s2,s3,s4,s5⟩:=Q2.out.sixO
 obtain⟨t0,t1,t2⟩:=Q3.out.threeO
 have f0:=Q2.out.free 0
 have f1:=Q2.out.free 1
 have f2:=Q2.out.free 2
 have f3:=Q2.out.free 3
 have f4:=Q2.out.free 4
 have f5:=Q2.out.free 5
 have g0:=Q3.out.free 0
 have g1:=Q3.out.free 1
 have g2:=Q3.out.free 2
 go_enter Tryz.func55,Tryz.ntmps55
 go_upto_region 2 with (fail)
 refine wp_heldK_bar [(7,(fun (w':World)=>w'.cell? ⟨w.heap.size,0,none⟩=some (.int .u64 (o.1:Nat))∧w'.cell? ⟨w.heap.size,1,none⟩=some (.int .i64 o.2.1.1)∧w'.cell? ⟨w.heap.size,2,none⟩=some (.int .i64 o.2.1.2.1)∧w'.cell? ⟨w.heap.size,3,none⟩=some (.int .i64 o.2.1.2.2.1)∧w'.cell? ⟨w.heap.size,4,none⟩=some (.slice A o.2.1.2.2.2.length d)∧w'.cell? ⟨w.heap.size,5,none⟩=some (.int .i64 1)))] 8 (by kernel_rfl) (by decide) ?_
 have hS0:=(show ((fun (w':World)=>w'.cell? ⟨w.heap.size,0,none⟩=some (.int .u64 (o.1:Nat))∧w'.cell? ⟨w.heap.size,1,none⟩=some (.int .i64 o.2.1.1)∧w'.cell? ⟨w.heap.size,2,none⟩=some (.int .i64 o.2.1.2.1)∧w'.cell? ⟨w.heap.size,3,none⟩=some (.int .i64 o.2.1.2.2.1)∧w'.cell? ⟨w.heap.size,4,none⟩=some (.slice A o.2.1.2.2.2.length d)∧w'.cell? ⟨w.heap.size,5,none⟩=some (.int .i64 1))) (W4 68 #[.int .u64 (o.1:Nat),.int .i64 o.2.1.1,.int .i64 o.2.1.2.1,.int .i64 o.2.1.2.2.1,.slice A o.2.1.2.2.2.length d,.int .i64 1] (callL c).toArray oZ rZ w).drew from ⟨r0,r1,r2,r3,r4,r5⟩)
 refine headK_load 0 7 _ rfl (i:=0) (v:=?_) rfl (by kernel_rfl) (fun _ _ _ h=>h) (fun _ _ _ h=>passed_ready h.1) (Or.inl ⟨by rfl,?hy1⟩) ⟨fun _=>hS0,trivial⟩ ?rest1
 case hy1=>intro w hSw;(try dsimp only at hSw);obtain⟨hc0,hc1,hc2,hc3,hc4,hc5⟩:=hSw;go_simp;try (with_reducible rfl)
 case rest1=>
 try simp only [pZa,pZb,pZc,pZd]
 refine headK_take (i:=1) (v:=?_) rfl (by kernel_rfl) (fun _ _ _ h=>h) (fun _ _ _ h=>passed_ready h.1) (Or.inl ⟨by rfl,?hy2⟩) ⟨fun _=>hS0,trivial⟩ ?rest2
 case hy2=>intro w _;go_simp;try (with_reducible rfl)
 case rest2=>
 try simp only [pZa,pZb,pZc,pZd]
 refine headK_take (i:=2) (v:=?_) rfl (by kernel_rfl) (fun _ _ _ h=>h) (fun _ _ _ h=>passed_ready h.1) (Or.inl ⟨by rfl,?hy3⟩) ⟨fun _=>hS0,trivial⟩ ?rest3
 case hy3=>intro w _;go_simp;try (with_reducible rfl)
 case rest3=>
 try simp only [pZa,pZb,pZc,pZd]
 refine headK_load 0 7 _ rfl (i:=3) (v:=?_) rfl (by kernel_rfl) (fun _ _ _ h=>h) (fun _ _ _ h=>passed_ready h.1) (Or.inl ⟨by rfl,?hy4⟩) ⟨fun _=>hS0,trivial⟩ ?rest4
 case hy4=>intro w hSw;(try dsimp only at hSw);obtain⟨hc0,hc1,hc2,hc3,hc4,hc5⟩:=hSw;go_simp;try (with_reducible rfl)
 case rest4=>
 try simp only [pZa,pZb,pZc,pZd]
 refine headK_take (i:=4) (v:=?_) rfl (by kernel_rfl) (fun _ _ _ h=>h) (fun _ _ _ h=>passed_ready h.1) (Or.inl ⟨by rfl,?hy5⟩) ⟨fun _=>hS0,trivial⟩ ?rest5
 case hy5=>intro w _;go_simp;try (with_reducible rfl)
 case rest5=>
 try simp only [pZa,pZb,pZc,pZd]
 refine headK_take (i:=5) (v:=?_) rfl (by kernel_rfl) (fun _ _ _ h=>h) (fun _ _ _ h=>passed_ready h.1) (Or.inl ⟨by rfl,?hy6⟩) ⟨fun _=>hS0,trivial⟩ ?rest6
 case hy6=>intro w _;go_simp;try (with_reducible rfl)
 case rest6=>
 try simp only [pZa,pZb,pZc,pZd]
 refine headK_one (i:=6) (by kernel_rfl) rfl (fun K hK=>?_)
 go_simp
 have hS0:=(show ((fun (w':World)=>w'.cell? ⟨w.heap.size,0,none⟩=some (.int .u64 (o.1:Nat))∧w'.cell? ⟨w.heap.size,1,none⟩=some (.int .i64 o.2.1.1)∧w'.cell? ⟨w.heap.size,2,none⟩=some (.int .i64 o.2.1.2.1)∧w'.cell? ⟨w.heap.size,3,none⟩=some (.int .i64 o.2.1.2.2.1)∧w'.cell? ⟨w.heap.size,4,none⟩=some (.slice A o.2.1.2.2.2.length d)∧w'.cell? ⟨w.heap.size,5,none⟩=some (.int .i64 1))) (W4 68 #[.int .u64 (o.1:Nat),.int .i64 o.2.1.1,.int .i64 o.2.1.2.1,.int .i64 o.2.1.2.2.1,.slice A o.2.1.2.2.2.length d,.int .i64 1] (callL c).toArray #[.int .u64 (o.1:Nat),.int .i64 o.2.1.1,.int .i64 o.2.1.2.1,.int .i64 o.2.1.2.2.1,.slice A o.2.1.2.2.2.length d,.int .i64 1] rZ w).drew from ⟨L0.out.drew.cell 0,L0.out.drew.cell 1,L0.out.drew.cell 2,L0.out.drew.cell 3,L0.out.drew.cell 4,L0.out.drew.cell 5⟩)
 refine hK.out _ _ ⟨fun _=>hS0,trivial⟩ ?_
 clear hK K
 try simp only [pZa,pZb,pZc,pZd]
 refine headK_one (i:=7) (by kernel_rfl) rfl (fun K hK=>?_)
 go_simp
 refine hK.out _ _ ⟨nZ,trivial⟩ ?_
 clear hK K
 try simp only [pZa,pZb,pZc,pZd]
 refine⟨by kernel_rfl,?_⟩
 refine wpAny_done (by kernel_rfl) ?_ _
 go_wp2_with fail
 refine close_two Tryz.results55 rfl rfl rfl M2.out.drew M3.out.drew Tryz.underlying27 Tryz.underlying36 rfl rfl (by kernel_rfl) (by kernel_rfl) ?_
 exact⟨rfl,MB.out.drew⟩
end
section
/- Layer 18: a symbol more, to an object that may be. -/
open Go.RowKit Go.Lib
set_option maxRecDepth 100000
theorem Box.put4h {w:World} {g:Nat} {t:TypeId} {a b c d e f u v x y:Value} (h:Box w g t #[a,b,c,d,e,f]):Box ((((w.setCell ⟨g,1,none⟩ u).setCell ⟨g,2,none⟩ v).setCell ⟨g,3,none⟩ x).setCell ⟨g,4,none⟩ y) g t #[a,u,v,x,y,f]:=(((h.put 1 u).put 2 v).put 3 x).put 4 y
theorem Box.far4h {w:World} {g g':Nat} {t:TypeId} {cs:Array Value} (h:Box w g t cs) (hn:g≠g') (a b c d:Value):Box ((((w.setCell ⟨g',1,none⟩ a).setCell ⟨g',2,none⟩ b).setCell ⟨g',3,none⟩ c).setCell ⟨g',4,none⟩ d) g t cs:=(((h.far (p:=⟨g',1,none⟩) hn a).far (p:=⟨g',2,none⟩) hn b).far (p:=⟨g',3,none⟩) hn c).far (p:=⟨g',4,none⟩) hn d
theorem Syms.far4h {w:World} {g:Nat} {A:Option Addr} {l:Nat} {xs:List SymR} (h:Syms w A l xs) (hn:∀ b off,A=some ⟨b,off,none⟩→0<l→b≠g) (a b c d:Value):Syms ((((w.setCell ⟨g,1,none⟩ a).setCell ⟨g,2,none⟩ b).setCell ⟨g,3,none⟩ c).setCell ⟨g,4,none⟩ d) A l xs:=(((Recs.farB h hn 1 a).farB hn 2 b).farB hn 3 c).farB hn 4 d
theorem below_set4h {B:Nat} {w x:World} (h:Below B w x) {g:Nat} (hg:B≤g) (a b c d:Value):Below B w ((((x.setCell ⟨g,1,none⟩ a).setCell ⟨g,2,none⟩ b).setCell ⟨g,3,none⟩ c).setCell ⟨g,4,none⟩ d):=(((h.setCell (p:=⟨g,1,none⟩) hg a).setCell (p:=⟨g,2,none⟩) hg b).setCell (p:=⟨g,3,none⟩) hg c).setCell (p:=⟨g,4,none⟩) hg d
theorem ids_snoc {xs:List SymR} {x:SymR} (h:Ids xs) (hx:x.1<18446744073709551616):Ids (xs++[x]):=fun j=>by
 by_cases hj:j<xs.length
 ·have e:(xs++[x]).getD j default=xs.getD j default:=by simp [List.getD,List.getElem?_append_left hj]
  rw [e];exact h j
 ·by_cases he:j=xs.length
  ·have e:(xs++[x]).getD j default=x:=by subst he;simp [List.getD]
   rw [e];exact hx
  ·have e:(xs++[x]).getD j default=default:=by
    simp only [List.getD]
    rw [List.getElem?_eq_none (by rw [List.length_append,List.length_singleton];omega)];rfl
   rw [e];decide
set_option maxHeartbeats 8000000 in
theorem hadd_no (id:Nat) (k s cp:Int) (xs:List SymR) (cl:Int) (A:Option Addr) (d:Nat) (c:CallR) (w:World) (hr:storeB k s cp xs=true) (hs:SliceOk A xs.length d) (hx:Syms w A xs.length xs) (hE:¬ whyI s cp xs (c.2.2.2.2.2.1,c.2.2.2.2.2.2)=0) :
  Calls Tryz.prog 52 #[.agg (obA (id,(k,s,cp,xs),cl) A d),callV c] w (Ref2 (id,(k,s,cp,xs),cl) A d (whyI s cp xs (c.2.2.2.2.2.1,c.2.2.2.2.2.2)) w):=by
 have hb4:=storeB_bd hr
 have hx66:xs.length≤66:=by have:=hb4.2.2.1;have:=hb4.2.2.2;omega
 have HA:=hZ (fun wy (hw:Below w.heap.size w wy)=>eadd_law k s cp A xs.length d xs (c.2.2.2.2.2.1,c.2.2.2.2.2.2) wy (Recs.below hx hw) hs.1 hs.2.1 (fun e=>(hs.2.2 e).2) hx66)
 rw [addE_yes hr] at HA
 obtain⟨E,hEe⟩:∃ E,E=whyI s cp xs (c.2.2.2.2.2.1,c.2.2.2.2.2.2):=⟨_,rfl⟩
 rw [← hEe] at HA hE ⊢
 have t9:(E != 0)=true:=by simpa using hE
 clear hEe hE hb4 hx66 hs hx hr
 obtain⟨q0,q1,q2,q3,b5⟩:=A4_gen 68 (obA (id,(k,s,cp,xs),cl) A d) (callL c).toArray oZ rZ w
 have Q0:=hZ q0
 have Q1:=hZ q1
 have Q2:=hZ q2
 have Q3:=hZ q3
 have HB:=hZ b5
 obtain⟨r0,r1,r2,r3,r4,r5⟩:=Q0.out.sixO
 obtain⟨v0,v1,v2,v3,v4,v5,v6⟩:=Q1.out.sevenO
 clear q0 q1 q2 q3 b5
 have HAw:=hZ (HA.out _ HB.out)
 clear HA
 go_enter Tryz.func52,Tryz.ntmps52
 go_wp2_with fail
 refine HAw.out.mono ?_
 rintro e w2 ⟨K,S,C,A',zs,d',rfl,-,-,-,-,-,-,hb⟩
 have b2:Below w2.heap.size w2 (w2.alloc (.cells #[.int .i64 K,.int .i64 S,.int .i64 C,.slice A' zs.length d'] 25)):=(Below.refl _ _).alloc (Nat.le_refl _) _
 have hbb:=chain hb b2
 have P0:=hZ (Q0.out.keep hbb)
 have P1:=hZ (Q1.out.keep hbb)
 have P2:=hZ (Q2.out.keep hbb)
 have P3:=hZ (Q3.out.keep hbb)
 have HB2:=hZ (chain HB.out hbb)
 clear hb b2 hbb HAw r0 r1 r2 r3 r4 r5 v0 v1 v2 v3 v4 v5 v6
 obtain⟨r0,r1,r2,r3,r4,r5⟩:=P0.out.sixO
 obtain⟨v0,v1,v2,v3,v4,v5,v6⟩:=P1.out.sevenO
 go_wp2_with fail
 refine (refused_any (id,(k,s,cp,xs),cl) A d E _).mono ?_
 rintro e w3 ⟨rfl,hb⟩
 have R0:=hZ (P0.out.keep hb)
 have R1:=hZ (P1.out.keep hb)
 have R2:=hZ (P2.out.keep hb)
 have R3:=hZ (P3.out.keep hb)
 have HB3:=hZ (chain HB2.out hb)
 clear hb r0 r1 r2 r3 r4 r5 v0 v1 v2 v3 v4 v5 v6
 obtain⟨s0,s1,s2,s3,s4,s5⟩:=R2.out.sixO
 obtain⟨t0,t1,t2⟩:=R3.out.threeO
 have f0:=R2.out.free 0
 have f1:=R2.out.free 1
 have f2:=R2.out.free 2
 have f3:=R2.out.free 3
 have f4:=R2.out.free 4
 have f5:=R2.out.free 5
 have g0:=R3.out.free 0
 have g1:=R3.out.free 1
 have g2:=R3.out.free 2
 go_wp2_with fail
 refine close_two Tryz.results52 rfl rfl rfl (R2.out.put6o.far3o (by omega) _ _ _) ((R3.out.far6o (g':=w.heap.size+1+1) (by omega) _ _ _ _ _ _).put3o) Tryz.underlying27 Tryz.underlying36 rfl rfl (by kernel_rfl) (by kernel_rfl) ?_
 exact⟨rfl,below_set3o (below_set6o HB3.out (show w.heap.size≤w.heap.size+1+1 by omega) _ _ _ _ _ _) (show w.heap.size≤w.heap.size+1+1+1 by omega) _ _ _⟩
set_option maxHeartbeats 8000000 in
theorem hadd_yes (id:Nat) (k s cp:Int) (xs:List SymR) (cl:Int) (A:Option Addr) (d:Nat) (c:CallR) (w:World) (hr:rightO (id,(k,s,cp,xs),cl)=true) (hs:SliceOk A xs.length d) (hx:Syms w A xs.length xs) (hi:Ids xs) (hci:c.2.2.2.2.2.1<18446744073709551616) (hE:whyI s cp xs (c.2.2.2.2.2.1,c.2.2.2.2.2.2)=0) :
  Calls Tryz.prog 52 #[.agg (obA (id,(k,s,cp,xs),cl) A d),callV c] w (DoOut (id,(k,s,cp,xs++[(c.2.2.2.2.2.1,c.2.2.2.2.2.2)]),cl) (0,(rankF k (xs++[(c.2.2.2.2.2.1,c.2.2.2.2.2.2)]):Int),[]) w):=by
 have hst:storeB k s cp xs=true:=right_store hr
 have hb4:=storeB_bd hst
 have hx66:xs.length≤66:=by have:=hb4.2.2.1;have:=hb4.2.2.2;omega
 have hE2:addE k s cp xs (c.2.2.2.2.2.1,c.2.2.2.2.2.2)=0:=by rw [addE_yes hst];exact hE
 have HA:=hZ (fun wy (hw:Below w.heap.size w wy)=>eadd_law k s cp A xs.length d xs (c.2.2.2.2.2.1,c.2.2.2.2.2.2) wy (Recs.below hx hw) hs.1 hs.2.1 (fun e=>(hs.2.2 e).2) hx66)
 rw [hE2] at HA
 have hg:=storeB_grow hE2
 have hiy:Ids (xs++[(c.2.2.2.2.2.1,c.2.2.2.2.2.2)]):=ids_snoc hi hci
 obtain⟨ys,hys⟩:∃ y,y=xs++[(c.2.2.2.2.2.1,c.2.2.2.2.2.2)]:=⟨_,rfl⟩
 rw [← hys] at HA hg hiy ⊢
 have hr2:rightO (id,(k,s,cp,ys),cl)=true:=by
  unfold rightO at hr ⊢
  rw [Bool.and_eq_true] at hr ⊢
  exact⟨hg,hr.2⟩
 have HIy:=hZ hiy
 have HR2:=hZ hr2
 clear hiy hr2 hg hys hE2 hE hb4 hx66 hs hx hi hr hst hci
 obtain⟨q0,q1,q2,q3,b5⟩:=A4_gen 68 (obA (id,(k,s,cp,xs),cl) A d) (callL c).toArray oZ rZ w
 have Q0:=hZ q0
 have Q1:=hZ q1
 have Q2:=hZ q2
 have Q3:=hZ q3
 have HB:=hZ b5
 obtain⟨r0,r1,r2,r3,r4,r5⟩:=Q0.out.sixO
 obtain⟨v0,v1,v2,v3,v4,v5,v6⟩:=Q1.out.sevenO
 clear q0 q1 q2 q3 b5
 have HAw:=hZ (HA.out _ HB.out)
 clear HA
 go_enter Tryz.func52,Tryz.ntmps52
 go_wp2_with fail
 refine HAw.out.mono ?_
 rintro e w2 ⟨K,S,C,A',zs,d',rfl,⟨h1,-⟩,hz,hz1,hz2,hz3,hz4,hb⟩
 obtain⟨e1,e2,e3,e4⟩:=h1 trivial
 subst e1 e2 e3 e4
 have b2:Below w2.heap.size w2 (w2.alloc (.cells #[.int .i64 K,.int .i64 S,.int .i64 C,.slice A' zs.length d'] 25)):=(Below.refl _ _).alloc (Nat.le_refl _) _
 have hbb:=chain hb b2
 have P0:=hZ (Q0.out.keep hbb)
 have P1:=hZ (Q1.out.keep hbb)
 have P2:=hZ (Q2.out.keep hbb)
 have P3:=hZ (Q3.out.keep hbb)
 have PS:=hZ (Box.new w2 25 #[.int .i64 K,.int .i64 S,.int .i64 C,.slice A' zs.length d'])
 have HB2:=hZ (chain HB.out hbb)
 have HZ:=hZ (Recs.below hz b2)
 have HSl:=hZ (show SliceOk A' zs.length d' from ⟨hz1,hz2,fun e=>⟨by have:=hz3 e;omega,hz3 e⟩⟩)
 have hln:=hz4
 clear hb b2 hbb HAw hz hz1 hz2 hz3 hz4 h1 r0 r1 r2 r3 r4 r5 v0 v1 v2 v3 v4 v5 v6
 obtain⟨r0,r1,r2,r3,r4,r5⟩:=P0.out.sixO
 obtain⟨v0,v1,v2,v3,v4,v5,v6⟩:=P1.out.sevenO
 obtain⟨p0,p1,p2,p3,-,-,-,-⟩:=PS.out.four
 have f1:=P0.out.free 1
 have f2:=P0.out.free 2
 have f3:=P0.out.free 3
 have f4:=P0.out.free 4
 obtain⟨w5,hw5⟩:∃ y,y=((((w2.alloc (.cells #[.int .i64 K,.int .i64 S,.int .i64 C,.slice A' zs.length d'] 25)).setCell ⟨w.heap.size,1,none⟩ (.int .i64 K)).setCell ⟨w.heap.size,2,none⟩ (.int .i64 S)).setCell ⟨w.heap.size,3,none⟩ (.int .i64 C)).setCell ⟨w.heap.size,4,none⟩ (.slice A' zs.length d'):=⟨_,rfl⟩
 have L0:=hZ (show Box w5 w.heap.size 68 (obA (id,(K,S,C,zs),cl) A' d') from hw5 ▸ P0.out.put4h)
 have L1:=hZ (show Box w5 (w.heap.size+1) 31 (callL c).toArray from hw5 ▸ P1.out.far4h (by omega) (.int .i64 K) (.int .i64 S) (.int .i64 C) (.slice A' zs.length d'))
 have L2:=hZ (show Box w5 (w.heap.size+1+1) 27 oZ from hw5 ▸ P2.out.far4h (by omega) (.int .i64 K) (.int .i64 S) (.int .i64 C) (.slice A' zs.length d'))
 have L3:=hZ (show Box w5 (w.heap.size+1+1+1) 36 rZ from hw5 ▸ P3.out.far4h (by omega) (.int .i64 K) (.int .i64 S) (.int .i64 C) (.slice A' zs.length d'))
 have HZ5:=hZ (show Syms w5 A' zs.length zs from hw5 ▸ Syms.far4h HZ.out (Syms.neO HZ.out P0.out (obA_no _ _ _)) (.int .i64 K) (.int .i64 S) (.int .i64 C) (.slice A' zs.length d'))
 have HB5:=hZ (show Below w.heap.size w w5 from hw5 ▸ below_set4h HB2.out (Nat.le_refl _) (.int .i64 K) (.int .i64 S) (.int .i64 C) (.slice A' zs.length d'))
 have HPr:=hZ (hprog_any (id,(K,S,C,zs),cl) A' d' c w5 HR2.out HSl.out HZ5.out HIy.out)
 clear HZ PS P1 P2 P3 HB2
 go_upto_region 5 with (fail)
 rw [← hw5]
 clear hw5 P0 p0 p1 p2 p3 f1 f2 f3 f4 r0 r1 r2 r3 r4 r5 v0 v1 v2 v3 v4 v5 v6
 obtain⟨r0,r1,r2,r3,r4,r5⟩:=L0.out.sixO
 obtain⟨v0,v1,v2,v3,v4,v5,v6⟩:=L1.out.sevenO
 obtain⟨rk,hrk⟩:∃ r:Int,r=(rankF ((id,(K,S,C,zs),cl):ObR).2.1.1 ((id,(K,S,C,zs),cl):ObR).2.1.2.2.2:Int):=⟨_,rfl⟩
 rw [← hrk] at HPr
 have HRk:=hZ hrk
 clear hrk
 go_wp2_with fail
 refine HPr.out.mono ?_
 rintro e w6 ⟨rfl,hb⟩
 have HZ6:=hZ (Recs.below HZ5.out hb)
 have HB6:=hZ (chain HB5.out hb)
 have R0:=hZ (L0.out.keep hb)
 have R1:=hZ (L1.out.keep hb)
 have R2:=hZ (L2.out.keep hb)
 have R3:=hZ (L3.out.keep hb)
 clear hb HPr HZ5 r0 r1 r2 r3 r4 r5 v0 v1 v2 v3 v4 v5 v6
 obtain⟨s0,s1,s2,s3,s4,s5⟩:=R2.out.sixO
 obtain⟨t0,t1,t2⟩:=R3.out.threeO
 have f0:=R2.out.free 0
 have f1:=R2.out.free 1
 have f2:=R2.out.free 2
 have f3:=R2.out.free 3
 have f4:=R2.out.free 4
 have f5:=R2.out.free 5
 have g0:=R3.out.free 0
 have g1:=R3.out.free 1
 have g2:=R3.out.free 2
 go_wp2_with fail
 refine close_two Tryz.results52 rfl rfl rfl (R2.out.put6o.far3o (by omega) _ _ _) ((R3.out.far6o (g':=w.heap.size+1+1) (by omega) _ _ _ _ _ _).put3o) Tryz.underlying27 Tryz.underlying36 rfl rfl (by kernel_rfl) (by kernel_rfl) ?_
 have hrk:(rankF K zs:Int)=rk:=HRk.out.symm
 rw [hrk]
 exact⟨A',d',none,0,rfl,HSl.out,Syms.far9 HZ6.out (Syms.neO HZ6.out R2.out oz_no) (Syms.neO HZ6.out R3.out rz_no) _ _ _ _ _ _ _ _ _,Texts.nil _ _,Nat.le_refl _,Nat.zero_le _,below_set3o (below_set6o HB6.out (show w.heap.size≤w.heap.size+1+1 by omega) _ _ _ _ _ _) (show w.heap.size≤w.heap.size+1+1+1 by omega) _ _ _⟩
end
section
/- Layer 19: what a call does to a receiver, as data. -/
open Go.RowKit Go.Lib
set_option maxRecDepth 100000
abbrev obsR (ps:List RawO):List ObR:=ps.map Prod.fst
def withO (os:List ObR) (o:ObR):List ObR:=(os.filter fun x=>decide (x.1<o.1))++o::os.filter fun x=>decide (o.1<x.1)
theorem filter_all {α:Type} (p:α→Bool) (l:List α) (h:∀ x∈l,p x=true):l.filter p=l:=List.filter_eq_self.2 h
theorem filter_no {α:Type} (p:α→Bool) (l:List α) (h:∀ x∈l,p x=false):l.filter p=[]:=by
 rw [List.filter_eq_nil_iff];intro x hx;rw [h x hx];decide
theorem withO_split (A B:List ObR) (o:ObR) (hA:∀ x∈A,x.1<o.1) (hB:∀ x∈B,o.1<x.1):withO (A++B) o=A++o::B:=by
 unfold withO
 rw [List.filter_append,List.filter_append,filter_all _ A (fun x hx=>decide_eq_true (hA x hx)),filter_no _ B (fun x hx=>decide_eq_false (by have:=hB x hx;omega)),filter_no _ A (fun x hx=>decide_eq_false (by have:=hA x hx;omega)),filter_all _ B (fun x hx=>decide_eq_true (hB x hx)),List.append_nil,List.nil_append]
theorem withO_mid (A B:List ObR) (y o:ObR) (hy:y.1=o.1) (hA:∀ x∈A,x.1<o.1) (hB:∀ x∈B,o.1<x.1):withO (A++y::B) o=A++o::B:=by
 have h:=withO_split A B o hA hB
 unfold withO at h ⊢
 rw [List.filter_append,List.filter_append] at h ⊢
 rw [List.filter_cons_of_neg (by rw [hy];simp),List.filter_cons_of_neg (by rw [hy];simp)]
 exact h
theorem obsR_len (ps:List RawO):(obsR ps).length=ps.length:=List.length_map _
theorem mem_takeR {ps:List RawO} {i:Nat} {x:ObR} (hi:i≤ps.length) (h:x∈obsR (ps.take i)):∃ k,k<i∧x=(ps.getD k default).1:=by
 obtain⟨p,hp,rfl⟩:=List.mem_map.1 h
 obtain⟨k,hk,e⟩:=List.getElem_of_mem hp
 rw [List.length_take] at hk
 refine⟨k,by omega,?_⟩
 rw [List.getElem_take] at e
 rw [← e]
 simp [List.getD,show k<ps.length by omega]
theorem mem_dropR {ps:List RawO} {i:Nat} {x:ObR} (h:x∈obsR (ps.drop i)):∃ k,i≤k∧k<ps.length∧x=(ps.getD k default).1:=by
 obtain⟨p,hp,rfl⟩:=List.mem_map.1 h
 obtain⟨k,hk,e⟩:=List.getElem_of_mem hp
 rw [List.length_drop] at hk
 refine⟨i+k,by omega,by omega,?_⟩
 rw [List.getElem_drop] at e
 rw [← e]
 simp [List.getD,show i+k<ps.length by omega]
theorem ins_with {ps:List RawO} {x:RawO} {i:Nat} (h:PlaceR ps x.1.1 i) (hp:RiseR ps) (hn:isR ps x.1.1=false):obsR (ps.take i++x::ps.drop i)=withO (obsR ps) x.1:=by
 rw [place_is h hp] at hn
 have hlt:∀ k,i≤k→k<ps.length→x.1.1<(ps.getD k default).1.1:=fun k hk hk2=>by
  have h1:=h.2.2 i (Nat.le_refl _) (by omega)
  have h2:¬ (ps.getD i default).1.1=x.1.1:=fun e=>by
   rw [decide_eq_true (show i<ps.length by omega),decide_eq_true e] at hn;cases hn
  rcases Nat.lt_or_eq_of_le hk with e | e
  ·have:=hp i k e hk2;omega
  ·subst e;omega
 have hs:=withO_split (obsR (ps.take i)) (obsR (ps.drop i)) x.1 (fun y hy=>by
  obtain⟨k,hk,rfl⟩:=mem_takeR h.1 hy
  exact h.2.1 k hk) (fun y hy=>by
  obtain⟨k,hk,hk2,rfl⟩:=mem_dropR hy
  exact hlt k hk hk2)
 rw [show obsR (ps.take i)++obsR (ps.drop i)=obsR ps by unfold obsR;rw [← List.map_append,List.take_append_drop]] at hs
 rw [hs];simp [obsR]
theorem set_split (ps:List RawO) (i:Nat) (x:RawO) (hi:i<ps.length):ps.set i x=ps.take i++x::ps.drop (i+1):=by
 induction ps generalizing i with
 | nil=>simp at hi
 | cons a l ih=>
   cases i with
   | zero=>simp
   | succ i=>simp only [List.set_cons_succ,List.take_succ_cons,List.drop_succ_cons,List.cons_append];rw [ih i (by simpa using hi)]
theorem at_split (ps:List RawO) (i:Nat) (hi:i<ps.length):ps=ps.take i++ps.getD i default::ps.drop (i+1):=by
 have h:=set_split ps i (ps.getD i default) hi
 rw [← h]
 have e:ps.getD i default=ps[i]:=by simp [List.getD,hi]
 rw [e,List.set_getElem_self]
theorem set_with {ps:List RawO} {x:RawO} {i:Nat} (hi:i<ps.length) (hp:RiseR ps) (he:(ps.getD i default).1.1=x.1.1):obsR (ps.set i x)=withO (obsR ps) x.1:=by
 have hs:=withO_mid (obsR (ps.take i)) (obsR (ps.drop (i+1))) (ps.getD i default).1 x.1 he (fun y hy=>by
  obtain⟨k,hk,rfl⟩:=mem_takeR (by omega) hy
  rw [← he];exact hp k i hk hi) (fun y hy=>by
  obtain⟨k,hk,hk2,rfl⟩:=mem_dropR hy
  rw [← he];exact hp i k (by omega) hk2)
 have h2:obsR ps=obsR (ps.take i)++(ps.getD i default).1::obsR (ps.drop (i+1)):=by
  conv=>lhs;rw [at_split ps i hi]
  simp [obsR]
 rw [h2,hs,set_split ps i x hi]
 simp [obsR]
noncomputable def doR (ps:List RawO) (c:CallR):List ObR×ReplyR:=
 if rightR ps=true∧0≤c.1∧c.1≤4 then
  (if c.1=0 then
   (if isR ps c.2.1=true then (obsR ps,(8,0,[]))
    else if ps.length=8 then (obsR ps,(7,0,[]))
    else if (openO c).2.1=0 then (withO (obsR ps) (openO c).1,(openO c).2)
    else (obsR ps,((openO c).2.1,0,[])))
   else if isR ps c.2.1=true then
    (if (doO (ps.getD (posR ps c.2.1) default).1 c).2.1=0 then (withO (obsR ps) (doO (ps.getD (posR ps c.2.1) default).1 c).1,(doO (ps.getD (posR ps c.2.1) default).1 c).2)
     else (obsR ps,((doO (ps.getD (posR ps c.2.1) default).1 c).2.1,0,[])))
   else (obsR ps,(6,0,[])))
 else (obsR ps,(1,0,[]))
theorem openO_ok (c:CallR) (h:(openO c).2.1=0):(openO c).1.1=c.2.1∧(openO c).1.2.1.2.2.2=[]∧(openO c).2=(0,c.2.2.1,[])∧sizesB c.2.2.1 c.2.2.2.1 c.2.2.2.2.1=true∧(openO c).1=(c.2.1,(c.2.2.1,c.2.2.2.1,c.2.2.2.2.1,[]),0):=by
 unfold openO at h ⊢
 by_cases h0:c.1=0
 ·rw [if_pos h0] at h ⊢
  cases hz:sizesB c.2.2.1 c.2.2.2.1 c.2.2.2.2.1 with
  | true=>exact⟨rfl,rfl,rfl,rfl,rfl⟩
  | false=>rw [hz] at h;exact absurd (show (2:Int)=0 from h) (by decide)
 ·rw [if_neg h0] at h;exact absurd (show (1:Int)=0 from h) (by decide)
theorem actO_id (o:ObR) (c:CallR):(actO o c).1.1=o.1:=by
 unfold actO
 by_cases h1:c.1=1
 ·rw [if_pos h1]
  by_cases h2:whyI o.2.1.2.1 o.2.1.2.2.1 o.2.1.2.2.2 (c.2.2.2.2.2.1,c.2.2.2.2.2.2)=0
  ·rw [if_pos h2]
  ·rw [if_neg h2]
 ·rw [if_neg h1]
  by_cases h2:c.1=2
  ·rw [if_pos h2]
  ·rw [if_neg h2]
   by_cases h3:c.1=3
   ·rw [if_pos h3]
   ·rw [if_neg h3]
theorem doO_id (o:ObR) (c:CallR):(doO o c).1.1=o.1:=by
 unfold doO
 by_cases h1:rightO o=true∧0≤c.1∧c.1≤4
 ·rw [if_pos h1]
  by_cases h2:c.1=0
  ·rw [if_pos h2]
  ·rw [if_neg h2]
   by_cases h3:o.2.2=1
   ·rw [if_pos h3]
   ·rw [if_neg h3];exact actO_id o c
 ·rw [if_neg h1]
def IdsB (os:List ObR):Prop:=∀ o∈os,o.1<18446744073709551616∧Ids o.2.1.2.2.2
theorem ids_obs {ps:List RawO} : IdsO ps↔IdsB (obsR ps):=by
 constructor
 ·intro h o ho
  obtain⟨p,hp,rfl⟩:=List.mem_map.1 ho
  obtain⟨k,hk,e⟩:=List.getElem_of_mem hp
  have:=h k
  rw [show ps.getD k default=p by simp [List.getD,hk,e]] at this
  exact this
 ·intro h j
  by_cases hj:j<ps.length
  ·have e:ps.getD j default=ps[j]:=by simp [List.getD,hj]
   rw [e]
   exact h _ (List.mem_map.2 ⟨ps[j],List.getElem_mem hj,rfl⟩)
  ·have e:ps.getD j default=default:=by simp [List.getD,List.getElem?_eq_none (by omega:ps.length≤j)]
   rw [e]
   exact⟨by simp [default],fun k=>by simp [default]⟩
theorem obs_get (ps:List RawO) (j:Nat) (h:j<(obsR ps).length):(obsR ps)[j]=(ps.getD j default).1:=by
 rw [obsR_len] at h
 simp [List.getD,h]
theorem okds_mem {w:World} {ps:List RawO} (h:∀ p∈ps,OkD w p):OkDs w ps:=fun j=>by
 by_cases hj:j<ps.length
 ·have e:ps.getD j default=ps[j]:=by simp [List.getD,hj]
  rw [e];exact h _ (List.getElem_mem hj)
 ·have e:ps.getD j default=default:=by simp [List.getD,List.getElem?_eq_none (by omega:ps.length≤j)]
  rw [e];exact OkD.zero w
theorem okds_of {w:World} {ps:List RawO} (h:OkDs w ps):∀ p∈ps,OkD w p:=fun p hp=>by
 obtain⟨k,hk,e⟩:=List.getElem_of_mem hp
 have:=h k
 rwa [show ps.getD k default=p by simp [List.getD,hk,e]] at this
def RcO (os:List ObR) (r:ReplyR) (w:World) (e:Ending) (w':World):Prop:=∃ qs:List RawO,obsR qs=os∧RcOut qs r w e w'
end
section
/- Layer 19: receivers that may be, and what a call leaves, as data. -/
open Go.RowKit Go.Lib
set_option maxRecDepth 100000
def RightB (os:List ObR):Prop:=os.length≤8∧(∀ o∈os,rightO o=true)∧os.Pairwise fun a b=>a.1<b.1
theorem rightR_iff (ps:List RawO):rightR ps=true↔RightB (obsR ps):=by
 constructor
 ·intro h
  have hr:=rise_of_right h
  unfold rightR rowsR at h
  rw [Bool.and_eq_true,decide_eq_true_eq,List.all_eq_true] at h
  refine⟨by rw [obsR_len];exact h.1,fun o ho=>?_,?_⟩
  ·obtain⟨k,hk,e⟩:=List.getElem_of_mem ho
   rw [obs_get] at e
   have h9:=h.2 k (List.mem_range.2 (by rwa [obsR_len] at hk))
   unfold stR at h9
   rw [Bool.and_eq_true] at h9
   rw [← e];exact h9.1
  ·rw [List.pairwise_iff_getElem]
   intro i j hi hj hij
   rw [obs_get,obs_get]
   exact hr i j hij (by rwa [obsR_len] at hj)
 ·rintro ⟨h1,h2,h3⟩
  unfold rightR rowsR
  rw [Bool.and_eq_true,decide_eq_true_eq,List.all_eq_true]
  refine⟨by rwa [obsR_len] at h1,fun k hk=>?_⟩
  have hk:=List.mem_range.1 hk
  have hk':k<(obsR ps).length:=by rw [obsR_len];exact hk
  unfold stR
  rw [Bool.and_eq_true]
  refine⟨by rw [← obs_get ps k hk'];exact h2 _ (List.getElem_mem hk'),?_⟩
  by_cases h0:k=0
  ·simp [h0]
  ·have h9:=(List.pairwise_iff_getElem.1 h3) (k-1) k (by omega) hk' (by omega)
   rw [obs_get,obs_get] at h9
   rw [decide_eq_true h9];simp
theorem isR_iff (ps:List RawO) (id:Nat):isR ps id=true↔∃ o∈obsR ps,o.1=id:=by
 unfold isR posR
 rw [decide_eq_true_eq,List.findIdx_lt_length]
 constructor
 ·rintro ⟨p,hp,h⟩;exact⟨p.1,List.mem_map.2 ⟨p,hp,rfl⟩,by simpa using h⟩
 ·rintro ⟨o,ho,h⟩
  obtain⟨p,hp,rfl⟩:=List.mem_map.1 ho
  exact⟨p,hp,by simpa using h⟩
theorem posR_id {ps:List RawO} {id:Nat} (h:isR ps id=true):posR ps id<ps.length∧(ps.getD (posR ps id) default).1.1=id:=by
 have hl:posR ps id<ps.length:=of_decide_eq_true h
 refine⟨hl,?_⟩
 have h9:=List.findIdx_getElem (p:=fun p:RawO=>p.1.1==id) (xs:=ps) (w:=hl)
 have e:ps.getD (posR ps id) default=ps[posR ps id]:=by simp [List.getD,hl]
 rw [e]
 have h8:ps[List.findIdx (fun p:RawO=>p.1.1==id) ps].1.1=id:=by simpa using h9
 exact h8
theorem with_mem {os:List ObR} {o x:ObR} (h:x∈withO os o):x=o∨x∈os∧x.1≠o.1:=by
 unfold withO at h
 rcases List.mem_append.1 h with h | h
 ·have:=List.mem_filter.1 h
  exact .inr ⟨this.1,by have:=of_decide_eq_true this.2;omega⟩
 ·rcases List.mem_cons.1 h with h | h
  ·exact .inl h
  ·have:=List.mem_filter.1 h
   exact .inr ⟨this.1,by have:=of_decide_eq_true this.2;omega⟩
theorem self_with (os:List ObR) (o:ObR):o∈withO os o:=List.mem_append_right _ (List.mem_cons_self ..)
theorem with_rise {os:List ObR} (o:ObR) (h:os.Pairwise fun a b=>a.1<b.1):(withO os o).Pairwise fun a b=>a.1<b.1:=by
 unfold withO
 rw [List.pairwise_append]
 refine⟨h.filter _,?_,fun a ha b hb=>?_⟩
 ·rw [List.pairwise_cons]
  exact⟨fun b hb=>of_decide_eq_true (List.mem_filter.1 hb).2,h.filter _⟩
 ·have h1:=of_decide_eq_true (List.mem_filter.1 ha).2
  rcases List.mem_cons.1 hb with rfl | hb
  ·exact h1
  ·have h2:=of_decide_eq_true (List.mem_filter.1 hb).2
   omega
theorem with_len_in {ps:List RawO} {o:ObR} (hp:RightB (obsR ps)) (h:isR ps o.1=true):(withO (obsR ps) o).length=ps.length:=by
 obtain⟨hi,he⟩:=posR_id h
 have:=set_with (x:=(o,none,0)) hi (rise_of_right ((rightR_iff ps).2 hp)) he
 rw [← this,obsR_len,List.length_set]
theorem with_len_new {os:List ObR} {o:ObR} (h:∀ x∈os,x.1≠o.1):(withO os o).length=os.length+1:=by
 have hk:∀ l:List ObR,(∀ x∈l,x.1≠o.1)→(l.filter fun x=>decide (x.1<o.1)).length+(l.filter fun x=>decide (o.1<x.1)).length=l.length:=by
  intro l
  induction l with
  | nil=>intro _;rfl
  | cons a l ih=>
    intro hl
    have ih:=ih fun x hx=>hl x (List.mem_cons_of_mem _ hx)
    have ha:=hl a (List.mem_cons_self ..)
    rw [List.filter_cons,List.filter_cons]
    rcases Nat.lt_or_gt_of_ne ha with q | q
    ·rw [if_pos (decide_eq_true q),if_neg (by simp;omega)];simp only [List.length_cons];omega
    ·rw [if_neg (by simp;omega),if_pos (decide_eq_true q)];simp only [List.length_cons];omega
 have:=hk os h
 unfold withO
 rw [List.length_append,List.length_cons]
 omega
theorem actO_right {o:ObR} {c:CallR} (h:rightO o=true):rightO (actO o c).1=true:=by
 unfold actO
 by_cases h1:c.1=1
 ·rw [if_pos h1]
  by_cases h2:whyI o.2.1.2.1 o.2.1.2.2.1 o.2.1.2.2.2 (c.2.2.2.2.2.1,c.2.2.2.2.2.2)=0
  ·rw [if_pos h2]
   have hg:=storeB_grow (show addE o.2.1.1 o.2.1.2.1 o.2.1.2.2.1 o.2.1.2.2.2 (c.2.2.2.2.2.1,c.2.2.2.2.2.2)=0 by rw [addE_yes (right_store h)];exact h2)
   unfold rightO at h ⊢
   rw [Bool.and_eq_true] at h ⊢
   exact⟨hg,h.2⟩
  ·rw [if_neg h2];exact h
 ·rw [if_neg h1]
  by_cases h2:c.1=2
  ·rw [if_pos h2];exact h
  ·rw [if_neg h2]
   by_cases h3:c.1=3
   ·rw [if_pos h3];exact h
   ·rw [if_neg h3]
    unfold rightO at h ⊢
    rw [Bool.and_eq_true] at h ⊢
    exact⟨h.1,rfl⟩
theorem doO_right {o:ObR} (c:CallR) (h:rightO o=true):rightO (doO o c).1=true:=by
 unfold doO
 by_cases h1:rightO o=true∧0≤c.1∧c.1≤4
 ·rw [if_pos h1]
  by_cases h2:c.1=0
  ·rw [if_pos h2];exact h
  ·rw [if_neg h2]
   by_cases h3:o.2.2=1
   ·rw [if_pos h3];exact h
   ·rw [if_neg h3];exact actO_right h
 ·rw [if_neg h1];exact h
theorem getD_obs_mem {ps:List RawO} {i:Nat} (hi:i<ps.length):(ps.getD i default).1∈obsR ps:=by
 have e:ps.getD i default=ps[i]:=by simp [List.getD,hi]
 rw [e];exact List.mem_map.2 ⟨_,List.getElem_mem hi,rfl⟩
theorem doR_right {ps:List RawO} (c:CallR) (h:rightR ps=true):RightB (doR ps c).1:=by
 have hb:=(rightR_iff ps).1 h
 unfold doR
 by_cases h1:rightR ps=true∧0≤c.1∧c.1≤4
 ·rw [if_pos h1]
  by_cases h2:c.1=0
  ·rw [if_pos h2]
   by_cases h3:isR ps c.2.1=true
   ·rw [if_pos h3];exact hb
   ·rw [if_neg h3]
    by_cases h4:ps.length=8
    ·rw [if_pos h4];exact hb
    ·rw [if_neg h4]
     by_cases h5:(openO c).2.1=0
     ·rw [if_pos h5]
      have ho:=openO_ok c h5
      have hne:∀ x∈obsR ps,x.1≠(openO c).1.1:=fun x hx e=>h3 ((isR_iff ps c.2.1).2 ⟨x,hx,by rw [e];exact ho.1⟩)
      refine⟨?_,fun x hx=>?_,with_rise _ hb.2.2⟩
      ·show (withO (obsR ps) (openO c).1).length≤8
       rw [with_len_new hne];have:=hb.1;rw [obsR_len] at this ⊢;omega
      ·rcases with_mem hx with rfl | hx
       ·rw [ho.2.2.2.2]
        unfold rightO
        rw [Bool.and_eq_true]
        exact⟨(storeB_new _ _ _).trans ho.2.2.2.1,rfl⟩
       ·exact hb.2.1 x hx.1
     ·rw [if_neg h5];exact hb
  ·rw [if_neg h2]
   by_cases h3:isR ps c.2.1=true
   ·rw [if_pos h3]
    by_cases h4:(doO (ps.getD (posR ps c.2.1) default).1 c).2.1=0
    ·rw [if_pos h4]
     obtain⟨hi,he⟩:=posR_id h3
     have hid:isR ps (doO (ps.getD (posR ps c.2.1) default).1 c).1.1=true:=by rw [doO_id,he];exact h3
     refine⟨?_,fun x hx=>?_,with_rise _ hb.2.2⟩
     ·show (withO (obsR ps) (doO (ps.getD (posR ps c.2.1) default).1 c).1).length≤8
      rw [with_len_in hb hid];have:=hb.1;rwa [obsR_len] at this
     ·rcases with_mem hx with rfl | hx
      ·exact doO_right c (hb.2.1 _ (getD_obs_mem hi))
      ·exact hb.2.1 x hx.1
    ·rw [if_neg h4];exact hb
   ·rw [if_neg h3];exact hb
 ·rw [if_neg h1];exact hb
theorem actO_ids {o:ObR} {c:CallR} (h:Ids o.2.1.2.2.2) (hc:c.2.2.2.2.2.1<18446744073709551616):Ids (actO o c).1.2.1.2.2.2:=by
 unfold actO
 by_cases h1:c.1=1
 ·rw [if_pos h1]
  by_cases h2:whyI o.2.1.2.1 o.2.1.2.2.1 o.2.1.2.2.2 (c.2.2.2.2.2.1,c.2.2.2.2.2.2)=0
  ·rw [if_pos h2];exact ids_snoc h hc
  ·rw [if_neg h2];exact h
 ·rw [if_neg h1]
  by_cases h2:c.1=2
  ·rw [if_pos h2];exact h
  ·rw [if_neg h2]
   by_cases h3:c.1=3
   ·rw [if_pos h3];exact h
   ·rw [if_neg h3];exact h
theorem doO_ids {o:ObR} {c:CallR} (h:Ids o.2.1.2.2.2) (hc:c.2.2.2.2.2.1<18446744073709551616):Ids (doO o c).1.2.1.2.2.2:=by
 unfold doO
 by_cases h1:rightO o=true∧0≤c.1∧c.1≤4
 ·rw [if_pos h1]
  by_cases h2:c.1=0
  ·rw [if_pos h2];exact h
  ·rw [if_neg h2]
   by_cases h3:o.2.2=1
   ·rw [if_pos h3];exact h
   ·rw [if_neg h3];exact actO_ids h hc
 ·rw [if_neg h1];exact h
theorem doR_ids {ps:List RawO} {c:CallR} (h:IdsB (obsR ps)) (hc:c.2.2.2.2.2.1<18446744073709551616) (hb:c.2.1<18446744073709551616):IdsB (doR ps c).1:=by
 unfold doR
 by_cases h1:rightR ps=true∧0≤c.1∧c.1≤4
 ·rw [if_pos h1]
  by_cases h2:c.1=0
  ·rw [if_pos h2]
   by_cases h3:isR ps c.2.1=true
   ·rw [if_pos h3];exact h
   ·rw [if_neg h3]
    by_cases h4:ps.length=8
    ·rw [if_pos h4];exact h
    ·rw [if_neg h4]
     by_cases h5:(openO c).2.1=0
     ·rw [if_pos h5]
      have ho:=openO_ok c h5
      intro x hx
      rcases with_mem hx with rfl | hx
      ·rw [ho.2.2.2.2];exact⟨hb,fun j=>by simp [default]⟩
      ·exact h x hx.1
     ·rw [if_neg h5];exact h
  ·rw [if_neg h2]
   by_cases h3:isR ps c.2.1=true
   ·rw [if_pos h3]
    by_cases h4:(doO (ps.getD (posR ps c.2.1) default).1 c).2.1=0
    ·rw [if_pos h4]
     obtain⟨hi,he⟩:=posR_id h3
     intro x hx
     rcases with_mem hx with rfl | hx
     ·have h9:=h _ (getD_obs_mem hi)
      exact⟨by rw [doO_id];exact h9.1,doO_ids h9.2 hc⟩
     ·exact h x hx.1
    ·rw [if_neg h4];exact h
   ·rw [if_neg h3];exact h
 ·rw [if_neg h1];exact h
end
section
/- KTail where just two operations may come up: both ways. No program. -/
section
variable {P:Program} {ops:Array Oper} {Q:Exit→Act→World→Prop} {md:Region.Mode} {Ss:List (Nat×(World→Prop))}
theorem headK_two {m i j:Nat} {o u:Oper} {f:Nat} {listed:Array Bool} {a:Act} {w:World} {L:Array Bool→Act→World→Prop} (hr:(Region.ready md ops listed==[i,j]&&decide (i<m)&&decide (j<m))=true) (ho:ops[i]?=some o) (hu:ops[j]?=some u)
  (h:∀ K':Act→World→Prop,Shut (∀ a w,heldK Ss (listed.setIfInBounds i true) w→headK P md ops Q Ss m L f (listed.setIfInBounds i true) a w→K' a w)→if Region.wanted o (yielded ops a.tmps)=true then Oper.wp P o a w K' Q else K' (a.put o.dst undef) w)
  (h2:∀ K':Act→World→Prop,Shut (∀ a w,heldK Ss (listed.setIfInBounds j true) w→headK P md ops Q Ss m L f (listed.setIfInBounds j true) a w→K' a w)→if Region.wanted u (yielded ops a.tmps)=true then Oper.wp P u a w K' Q else K' (a.put u.dst undef) w):headK P md ops Q Ss m L (f+1) listed a w:=by
 simp only [Bool.and_eq_true,beq_iff_eq,decide_eq_true_eq] at hr
 obtain⟨⟨hr,hi⟩,hj⟩:=hr
 refine⟨by rw [hr];simp,fun k hk=>?_⟩
 rw [hr] at hk
 rcases List.mem_cons.1 hk with rfl | hk
 ·exact⟨hi,wpOp_step ho (fun K' hK=>h K' (fun a w hS hW=>hK a w ⟨hS,hW⟩))⟩
 ·have hkj:k=j:=by simpa using hk
  subst hkj
  exact⟨hj,wpOp_step hu (fun K' hK=>h2 K' (fun a w hS hW=>hK a w ⟨hS,hW⟩))⟩
end
end
section
/- Layer 19: the two results of a call are stored. -/
open Go.RowKit Go.Lib
set_option maxRecDepth 100000
theorem Raws.neO {w:World} {A:Option Addr} {l:Nat} {ps:List RawO} {g:Nat} {t:TypeId} {cs:Array Value} (h:Raws w A l ps) (hb:Box w g t cs) (hns:∀ (i:Nat) (n:Int),cs[i]?≠some (.int .u64 n)):∀ b off,A=some ⟨b,off,none⟩→0<l→b≠g:=fun b off e hp he=>by
 obtain⟨b',off',e',-,hc⟩:=h.2 hp
 rw [e] at e'
 injection e' with e'
 injection e' with e1 e2 _
 subst e1 e2
 have h9:=hc 0 hp 0 _ rfl
 subst he
 rw [hb.cell] at h9
 exact hns _ _ h9
abbrev st4 (y:World) (g h:Nat) (u a b c:Value):World:=(((y.setCell ⟨g,0,none⟩ u).setCell ⟨h,0,none⟩ a).setCell ⟨h,1,none⟩ b).setCell ⟨h,2,none⟩ c
theorem st4_box {y:World} {g h:Nat} {t t':TypeId} {x p q r u a b c:Value} (hg:Box y g t #[x]) (hh:Box y h t' #[p,q,r]) (hn:g≠h):Box (st4 y g h u a b c) g t #[u]∧Box (st4 y g h u a b c) h t' #[a,b,c]:=
 ⟨(hg.put 0 u).far3o hn a b c,(hh.far (p:=⟨g,0,none⟩) hn.symm u).put3o⟩
theorem st4_below {B:Nat} {w y:World} (hb:Below B w y) {g h:Nat} (hg:B≤g) (hh:B≤h) (u a b c:Value):Below B w (st4 y g h u a b c):=below_set3o (hb.setCell (p:=⟨g,0,none⟩) hg u) hh a b c
theorem Raws.st4 {y:World} {A:Option Addr} {l:Nat} {ps:List RawO} {g h:Nat} {t t':TypeId} {cs ds:Array Value} (hx:Raws y A l ps) (hg:Box y g t cs) (hh:Box y h t' ds) (h1:∀ (i:Nat) (n:Int),cs[i]?≠some (.int .u64 n)) (h2:∀ (i:Nat) (n:Int),ds[i]?≠some (.int .u64 n)) (u a b c:Value):Raws (st4 y g h u a b c) A l ps:=by
 have n1:=Raws.neO hx hg h1
 have n2:=Raws.neO hx hh h2
 exact (((Recs.farB hx n1 0 u).farB n2 0 a).farB n2 1 b).farB n2 2 c
theorem OkDs.st4 {y:World} {ps:List RawO} {g h:Nat} {t t':TypeId} {cs ds:Array Value} (hx:OkDs y ps) (hg:Box y g t cs) (hh:Box y h t' ds) (h1:∀ (i:Nat) (s:ByteArray),cs[i]?≠some (.string s)) (h2:∀ (i:Nat) (s:ByteArray),ds[i]?≠some (.string s)) (u a b c:Value):OkDs (st4 y g h u a b c) ps:=fun j=>by
 have n1:=Syms.neO (hx j).2 hg h1
 have n2:=Syms.neO (hx j).2 hh h2
 exact⟨(hx j).1,(((Recs.farB (hx j).2 n1 0 u).farB n2 0 a).farB n2 1 b).farB n2 2 c⟩
theorem Texts.st4 {y:World} {A:Option Addr} {l:Nat} {ss:List ByteArray} {g h:Nat} {t t':TypeId} {cs ds:Array Value} (hx:Texts y A l ss) (hg:Box y g t cs) (hh:Box y h t' ds) (h1:∀ (i:Nat) (s:ByteArray),cs[i]?≠some (.string s)) (h2:∀ (i:Nat) (s:ByteArray),ds[i]?≠some (.string s)) (u a b c:Value):Texts (st4 y g h u a b c) A l ss:=by
 have n1:=Texts.neO hx hg h1
 have n2:=Texts.neO hx hh h2
 exact (((Texts.farN hx n1 0 u).farN (fun b off e hp=>n2 b off e hp) 0 a).farN (fun b off e hp=>n2 b off e hp) 1 b).farN (fun b off e hp=>n2 b off e hp) 2 c
theorem rcz_str (i:Nat) (s:ByteArray):(#[Value.slice none 0 0]:Array Value)[i]?≠some (.string s):=by
 match i with
 | 0=>simp
 | i+1=>simp
theorem rcz_u64 (i:Nat) (n:Int):(#[Value.slice none 0 0]:Array Value)[i]?≠some (.int .u64 n):=by
 match i with
 | 0=>simp
 | i+1=>simp
theorem rz_u64 (i:Nat) (n:Int):rZ[i]?≠some (.int .u64 n):=by
 match i with
 | 0=>simp [rZ]
 | 1=>simp [rZ]
 | 2=>simp [rZ]
 | i+3=>simp [rZ]
abbrev cZ:Array Value:=#[.slice none 0 0]
theorem rc_store {B:Nat} {w y:World} {g h:Nat} {qs:List RawO} {r:ReplyR} {A C:Option Addr} {d e:Nat} (hb:Below B w y) (hg:Box y g 48 cZ) (hh:Box y h 36 rZ) (hn:g≠h) (h1:B≤g) (h2:B≤h)
  (hx:Raws y A qs.length qs) (hd:OkDs y qs) (ht:Texts y C r.2.2.length r.2.2):∃ z,z=st4 y g h (.slice A qs.length d) (.int .i64 r.1) (.int .i64 r.2.1) (.slice C r.2.2.length e)∧Box z g 48 #[.slice A qs.length d]∧Box z h 36 #[.int .i64 r.1,.int .i64 r.2.1,.slice C r.2.2.length e]∧Raws z A qs.length qs∧OkDs z qs∧Texts z C r.2.2.length r.2.2∧Below B w z:=by
 have hq:=st4_box hg hh hn (u:=.slice A qs.length d) (a:=.int .i64 r.1) (b:=.int .i64 r.2.1) (c:=.slice C r.2.2.length e)
 exact⟨_,rfl,hq.1,hq.2,hx.st4 hg hh rcz_u64 rz_u64 _ _ _ _,hd.st4 hg hh rcz_str rz_no _ _ _ _,Texts.st4 ht hg hh rcz_str rz_no _ _ _ _,st4_below hb h1 h2 _ _ _ _⟩
theorem size_set19 (w:World) (a:Addr) (v:Value):(w.setCell a v).heap.size=w.heap.size:=by simp [World.setCell]
theorem fill6 {w:World} {g:Nat} (hb:Box w g 27 oZ) (u v x y z k:Value):∃ w',w'=(((((w.setCell ⟨g,0,none⟩ u).setCell ⟨g,1,none⟩ v).setCell ⟨g,2,none⟩ x).setCell ⟨g,3,none⟩ y).setCell ⟨g,4,none⟩ z).setCell ⟨g,5,none⟩ k∧Box w' g 27 #[u,v,x,y,z,k]∧(∀ {h:Nat} {t:TypeId} {cs:Array Value},h≠g→Box w h t cs→Box w' h t cs)∧(∀ {A:Option Addr} {l:Nat} {xs:List SymR},Syms w A l xs→Syms w' A l xs)∧(∀ {A:Option Addr} {l:Nat} {ss:List ByteArray},Texts w A l ss→Texts w' A l ss)∧(∀ {B:Nat} {w0:World},Below B w0 w→B≤g→Below B w0 w')∧w'.heap.size=w.heap.size:=by
 refine⟨_,rfl,hb.put6o,fun hn h=>h.far6o hn _ _ _ _ _ _,fun h=>?_,fun h=>?_,fun h hg=>below_set6o h hg _ _ _ _ _ _,by simp only [size_set19]⟩
 ·have n:=Syms.neO h hb oz_no
  exact (((((Recs.farB h n 0 u).farB n 1 v).farB n 2 x).farB n 3 y).farB n 4 z).farB n 5 k
 ·have n:=Texts.neO h hb oz_no
  exact (((((Texts.farN h n 0 u).farN (fun b off e hp=>n b off e hp) 1 v).farN (fun b off e hp=>n b off e hp) 2 x).farN (fun b off e hp=>n b off e hp) 3 y).farN (fun b off e hp=>n b off e hp) 4 z).farN (fun b off e hp=>n b off e hp) 5 k
theorem fill3 {w:World} {g:Nat} (hb:Box w g 36 rZ) (u v x:Value):∃ w',w'=((w.setCell ⟨g,0,none⟩ u).setCell ⟨g,1,none⟩ v).setCell ⟨g,2,none⟩ x∧Box w' g 36 #[u,v,x]∧(∀ {h:Nat} {t:TypeId} {cs:Array Value},h≠g→Box w h t cs→Box w' h t cs)∧(∀ {A:Option Addr} {l:Nat} {xs:List SymR},Syms w A l xs→Syms w' A l xs)∧(∀ {A:Option Addr} {l:Nat} {ss:List ByteArray},Texts w A l ss→Texts w' A l ss)∧(∀ {B:Nat} {w0:World},Below B w0 w→B≤g→Below B w0 w')∧w'.heap.size=w.heap.size:=by
 refine⟨_,rfl,hb.put3o,fun hn h=>h.far3o hn _ _ _,fun h=>?_,fun h=>?_,fun h hg=>below_set3o h hg _ _ _,by simp only [size_set19]⟩
 ·have n:=Syms.neO h hb rz_no
  exact ((Recs.farB h n 0 u).farB n 1 v).farB n 2 x
 ·have n:=Texts.neO h hb rz_no
  exact ((Texts.farN h n 0 u).farN (fun b off e hp=>n b off e hp) 1 v).farN (fun b off e hp=>n b off e hp) 2 x
abbrev R4W (a c:Array Value) (w:World):World:=(((w.alloc (.cells a 48)).alloc (.cells c 31)).alloc (.cells cZ 48)).alloc (.cells rZ 36)
theorem R4_gen (a c:Array Value) (w:World):Box (R4W a c w) w.heap.size 48 a∧Box (R4W a c w) (w.heap.size+1) 31 c∧Box (R4W a c w) (w.heap.size+1+1) 48 cZ∧Box (R4W a c w) (w.heap.size+1+1+1) 36 rZ∧Below w.heap.size w (R4W a c w):=by
 refine⟨(((Box.new w _ _).alloc _).alloc _).alloc _,?_,?_,?_,((((Below.refl _ _).alloc (Nat.le_refl _) _).alloc (by simp) _).alloc (by simp;omega) _).alloc (by simp;omega) _⟩
 ·have q:=((Box.new (w.alloc (.cells a 48)) 31 c).alloc (.cells cZ 48)).alloc (.cells rZ 36)
  simpa only [World.size_alloc] using q
 ·have q:=(Box.new ((w.alloc (.cells a 48)).alloc (.cells c 31)) 48 cZ).alloc (.cells rZ 36)
  simpa only [World.size_alloc] using q
 ·have q:=Box.new (((w.alloc (.cells a 48)).alloc (.cells c 31)).alloc (.cells cZ 48)) 36 rZ
  simpa only [World.size_alloc] using q
end
section
/- KTail where just three operations may come up: each way. No program. -/
section
variable {P:Program} {ops:Array Oper} {Q:Exit→Act→World→Prop} {md:Region.Mode} {Ss:List (Nat×(World→Prop))}
theorem headK_three {m i j l:Nat} {o u v:Oper} {f:Nat} {listed:Array Bool} {a:Act} {w:World} {L:Array Bool→Act→World→Prop} (hr:(Region.ready md ops listed==[i,j,l]&&decide (i<m)&&decide (j<m)&&decide (l<m))=true) (ho:ops[i]?=some o) (hu:ops[j]?=some u) (hv:ops[l]?=some v)
  (h:∀ K':Act→World→Prop,Shut (∀ a w,heldK Ss (listed.setIfInBounds i true) w→headK P md ops Q Ss m L f (listed.setIfInBounds i true) a w→K' a w)→if Region.wanted o (yielded ops a.tmps)=true then Oper.wp P o a w K' Q else K' (a.put o.dst undef) w)
  (h2:∀ K':Act→World→Prop,Shut (∀ a w,heldK Ss (listed.setIfInBounds j true) w→headK P md ops Q Ss m L f (listed.setIfInBounds j true) a w→K' a w)→if Region.wanted u (yielded ops a.tmps)=true then Oper.wp P u a w K' Q else K' (a.put u.dst undef) w)
  (h3:∀ K':Act→World→Prop,Shut (∀ a w,heldK Ss (listed.setIfInBounds l true) w→headK P md ops Q Ss m L f (listed.setIfInBounds l true) a w→K' a w)→if Region.wanted v (yielded ops a.tmps)=true then Oper.wp P v a w K' Q else K' (a.put v.dst undef) w):headK P md ops Q Ss m L (f+1) listed a w:=by
 simp only [Bool.and_eq_true,beq_iff_eq,decide_eq_true_eq] at hr
 obtain⟨⟨⟨hr,hi⟩,hj⟩,hl⟩:=hr
 refine⟨by rw [hr];simp,fun k hk=>?_⟩
 rw [hr] at hk
 rcases List.mem_cons.1 hk with rfl | hk
 ·exact⟨hi,wpOp_step ho (fun K' hK=>h K' (fun a w hS hW=>hK a w ⟨hS,hW⟩))⟩
 ·rcases List.mem_cons.1 hk with rfl | hk
  ·exact⟨hj,wpOp_step hu (fun K' hK=>h2 K' (fun a w hS hW=>hK a w ⟨hS,hW⟩))⟩
  ·have hkl:k=l:=by simpa using hk
   subst hkl
   exact⟨hl,wpOp_step hv (fun K' hK=>h3 K' (fun a w hS hW=>hK a w ⟨hS,hW⟩))⟩
end
end
end Go.Proofs.YtcikoaeiopbbbaaGreat
